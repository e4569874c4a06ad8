/- The law SpecEach: its walk. -/
import Derived.Test.YthjfhenldkihkaaSpEg
import Derived.Test.YthjfhenldkihkaaSpSm
import Derived.Test.YthjfhenldkihkaaSpEe
import Derived.Deep.CutRange
namespace Go.Proofs.Ythjfhenldkihkaa
set_option linter.unusedSimpArgs false
set_option linter.unusedVariables false
open Go.RowKit

/-- What the law holds while it looks at the names' types: what was there is as it was, what has been seen is kept. -/
structure ElW (w5 : World) (sg : List Int) (W : World) : Prop where
  bel : Below w5.heap.size w5 W
  ys : YS w5.heap.size w5.heap.size sg W
theorem ElW.keep {w5 : World} {sg : List Int} {W W' : World} (h : ElW w5 sg W) (hb : Below W.heap.size W W') : ElW w5 sg W' :=
  ⟨h.bel.trans (hb.mono h.bel.size), (yields_seen _ _).keep _ _ _ (fun _ => False) h.ys (Chg.of_below hb _) (fun _ e => e.elim)⟩
theorem ys_own {w5 : World} {sg : List Int} {W : World} (h : YS w5.heap.size w5.heap.size sg W) (k : Nat) (hk : Own w5.heap.size W k) : w5.heap.size ≤ k := by
  obtain ⟨v, h1, h2, h3⟩ := h
  rcases hk with e | ⟨u, hu, e⟩
  · omega
  · rw [YS.cell (base0 := 0) (sg := sg) h1] at hu
    injection hu with hu
    subst hu
    exact (owns_block h2 k e).1
theorem ElW.went {w5 : World} {sg sg' : List Int} {W W' : World} (h : ElW w5 sg W) (hy : YS w5.heap.size w5.heap.size sg' W') (hc : Chg W W' (Own w5.heap.size W)) : ElW w5 sg' W' :=
  ⟨Chg.below h.bel hc h.bel.size (fun j hj => ys_own h.ys j hj), hy⟩
theorem ElW.chg {w5 : World} {sg : List Int} {W W' : World} {S : Nat → Prop} (h : ElW w5 sg W) (hc : Chg W W' S) (hS : ∀ k, S k → ¬ Own w5.heap.size W k) (hS2 : ∀ k, S k → w5.heap.size ≤ k) : ElW w5 sg W' := by
  refine ⟨Chg.below h.bel hc h.bel.size hS2, ?_⟩
  obtain ⟨v, h1, h2, h3⟩ := h.ys
  exact ⟨v, h1.chg hc (fun e => hS _ e (.inl rfl)), owns_chg h2 hc (fun k hk e => hS _ e (.inr ⟨v, YS.cell (base0 := 0) (sg := sg) h1, hk⟩)), Nat.le_trans h3 hc.size⟩
theorem ElW.own_lt {w5 : World} {sg : List Int} {W : World} (h : ElW w5 sg W) (k : Nat) (hk : Own w5.heap.size W k) : k < W.heap.size := (yields_seen _ _).ob _ _ _ h.ys hk
theorem ElW.lt {w5 : World} {sg : List Int} {W : World} (h : ElW w5 sg W) : w5.heap.size < W.heap.size := (yields_seen _ _).lt _ _ h.ys
theorem ElW.start (w5 : World) : ElW w5 [] (w5.alloc (.cells #[.slice none 0 0] 30)) :=
  ⟨(Below.refl _ _).alloc (Nat.le_refl _) _, _, heap_alloc_new w5 _, ⟨rfl, .inl ⟨rfl, rfl⟩⟩, by simp⟩
theorem stop_box (w : World) (z : Int) : Blk (w.alloc (.cells #[.int .i64 z] 3)) w.heap.size 3 [.int .i64 z] := heap_alloc_new w _
theorem root_mem {ds : List DT} (h : 0 < ds.length) : ∃ d ∈ ds, rootS ds = d.ty := by
  unfold rootS
  cases hq : ds.getLast? with
  | none => rw [List.getLast?_eq_none_iff] at hq; subst hq; simp at h
  | some d => exact ⟨d, List.mem_of_getLast? hq, rfl⟩
set_option maxRecDepth 100000 in
set_option maxHeartbeats 40000000 in
theorem each_walk (s : SpV) (stop : Int) (w : World) (hO : SpecOk w (· < w.heap.size) s) (hn : s.N.n ≤ maxLen) :
    Calls Try.prog 3 #[s.val, .int .i64 stop] w fun e w' => e = .returned (.bool true) ∧ Below w.heap.size w w' := by
  obtain ⟨vs, ds, N, D⟩ := s
  have HSm := hid (fun W (hb : Below w.heap.size w W) => small_any _ W (hO.keep hb) hn)
  obtain ⟨RR, hRR⟩ : ∃ R : Ending → World → Prop, R = fun e w' => e = .returned (.bool true) ∧ Below w.heap.size w w' := ⟨_, rfl⟩
  rw [← hRR]
  have HRR := hid hRR
  clear hRR
  obtain ⟨hbx, hb0⟩ := spec_box w (.slice N.A N.n N.c) (.slice D.A D.n D.c)
  have hbx2 := hbx.trans (((Below.refl (w.alloc (.cells #[.slice N.A N.n N.c, .slice D.A D.n D.c] 25)).heap.size _).alloc (Nat.le_refl _) (.cells #[.int .i64 stop] 3)).mono hbx.size)
  have hs0 := stop_box (w.alloc (.cells #[.slice N.A N.n N.c, .slice D.A D.n D.c] 25)) stop
  rw [show (w.alloc (.cells #[.slice N.A N.n N.c, .slice D.A D.n D.c] 25)).heap.size = w.heap.size + 1 from by simp] at hs0
  have HB := hid hbx2
  have HX := hid (hb0.keep ((Below.refl _ _).alloc (Nat.le_refl _) (.cells #[.int .i64 stop] 3)))
  have HS := hid hs0
  clear hbx hb0 hbx2 hs0
  unfold SpV.val at HSm ⊢
  simp only at HSm ⊢
  by_cases hsm : smB ⟨vs, ds, N, D⟩ = true
  · rw [hsm] at HSm
    unfold smB at hsm
    simp only [Bool.and_eq_true, List.all_eq_true, decide_eq_true_eq] at hsm
    obtain ⟨hs1, hs2, hs3⟩ := hsm
    have hs1 : ∀ v ∈ vs, v.K.n ≤ 100 ∧ v.F.n ≤ 100 ∧ v.C.n ≤ 100 ∧ v.L.n ≤ 100 := fun v hv => by have := hs1 v hv; unfold smN at this; exact of_decide_eq_true this
    have HFt := hid (show ∀ v ∈ vs, Fits v from fun v hv => by have := hs1 v hv; exact ⟨by omega, by omega, by omega, by omega⟩)
    have HChk := hid (fun W (hb : Below w.heap.size w W) => Check_any ⟨vs, ds, N, D⟩ W (hO.keep hb) HFt.out)
    have HRt := hid (fun W (hb : Below w.heap.size w W) => Root_any ⟨vs, ds, N, D⟩ W (hO.keep hb) (by show D.n ≤ _; omega))
    unfold SpV.val at HChk HRt
    simp only at HChk HRt
    have HO := hid hO
    obtain ⟨NA, hNA⟩ : ∃ A, N.A = A := ⟨_, rfl⟩
    obtain ⟨n, hNn⟩ : ∃ n, N.n = n := ⟨_, rfl⟩
    obtain ⟨Nc, hNc⟩ : ∃ c, N.c = c := ⟨_, rfl⟩
    obtain ⟨DA, hDA⟩ : ∃ A, D.A = A := ⟨_, rfl⟩
    obtain ⟨Dn, hDn⟩ : ∃ n, D.n = n := ⟨_, rfl⟩
    obtain ⟨Dc, hDc⟩ : ∃ c, D.c = c := ⟨_, rfl⟩
    have HNe := hid (And.intro hNA (And.intro hNn hNc))
    have HDe := hid (And.intro hDA (And.intro hDn hDc))
    have HNn := hid (show n = vs.length from hNn.symm.trans HO.out.nn)
    have HDn := hid (show Dn = ds.length from hDn.symm.trans HO.out.dn)
    have hnb : n ≤ 300 := by rw [← hNn]; exact hs2
    have hdb : Dn ≤ 100 := by rw [← hDn]; exact hs3
    have HNb := hid hnb
    have HDb := hid hdb
    obtain ⟨R, hR⟩ : ∃ R, R = ckS vs ds := ⟨_, rfl⟩
    rw [← hR] at HChk
    have HR := hid hR
    clear hs1 hs2 hs3 hO hn hR
    rw [hNA, hNn, hNc, hDA, hDn, hDc] at HSm HChk HB HX HS HRt ⊢
    clear hNA hNn hNc hDA hDn hDc
    by_cases hR0 : R = 0
    · subst hR0
      obtain ⟨hV, hck, hn0, hd0, hd1⟩ := ckS_zero HR.out.symm
      have HV := hid hV
      have HCk := hid hck
      have HN0 := hid hn0
      have HD0 := hid hd0
      clear hV hck hn0 hd0 hd1
      go_enter Try.func3, Try.ntmps3
      go_upto_region 1 with (fail)
      generalize (w.alloc (.cells #[.slice NA n Nc, .slice DA Dn Dc] 25)).alloc (.cells #[.int .i64 stop] 3) = w1 at *
      go_upto_region 5 with (first
        | (go_at_call 4; (with_reducible refine (builds_any _).mono ?_); rintro e w2 ⟨rfl, hb2⟩; have HB2 := hid (HB.out.trans (hb2.mono HB.out.size)); have HX2 := hid (HX.out.keep hb2); have HS2 := hid (HS.out.keep hb2); clear hb2 HB HX HS; have y0 := Blk.at HX2.out 0; have y1 := Blk.at HX2.out 1; simp only [List.getElem?_cons_zero, List.getElem?_cons_succ] at y0 y1)
        | (go_at_call 5; (with_reducible refine (HSm.out _ HB2.out).mono ?_); rintro e w3 ⟨rfl, hb3⟩; have HB3 := hid (HB2.out.trans (hb3.mono HB2.out.size)); have HX3 := hid (HX2.out.keep hb3); have HS3 := hid (HS2.out.keep hb3); clear hb3 HB2 HX2 HS2 y0 y1; have y0 := (Blk.at HX3.out 0); have y1 := (Blk.at HX3.out 1); simp only [List.getElem?_cons_zero, List.getElem?_cons_succ] at y0 y1)
        | (go_at_call 6; (with_reducible refine (HChk.out _ HB3.out).mono ?_); rintro e w5 ⟨rfl, hb5⟩; have HB5 := hid (HB3.out.trans (hb5.mono HB3.out.size)); have HX5 := hid (HX3.out.keep hb5); have HS5 := hid (HS3.out.keep hb5); clear hb5 HB3 HX3 HS3 y0 y1))
      clear HSm HChk
      have HEl := hid (ElW.start w5)
      go_upto_region 6 with (fail)
      have HX6 := hid (HX5.out.keep ((Below.refl _ _).alloc (Nat.le_refl _) (.cells #[.slice none 0 0] 30)))
      have y0 := Blk.at HX6.out 0
      have y1 := Blk.at HX6.out 1
      simp only [List.getElem?_cons_zero, List.getElem?_cons_succ] at y0 y1
      change Code.wp _ _ _ _ (w5.alloc (.cells #[.slice none 0 0] 30))
      generalize w5.alloc (.cells #[.slice none 0 0] 30) = w6 at *
      go_wp2_with fail
      go_loopw [26] (fun i wr => ∃ j : Nat, j ≤ Dn ∧ i = .int .i64 j ∧ Hid (ElW w5 (seenF (ptT (vs.map NV.t)) ((ds.map DT.ty).take j)) wr)) (fun i _ => Dn - (intOf i).toNat)
      case atStart => exact ⟨0, by omega, rfl, hid (by simpa [seenF] using HEl.out)⟩
      case round =>
        clear HEl HX6 y0 y1
        obtain ⟨j, hj, rfl, HE⟩ := hrel
        by_cases hlt : j < Dn
        · have hlt' : (j : Int) < (Dn : Int) := by omega
          have hjd : j < ds.length := by rw [← HDn.out]; exact hlt
          obtain ⟨b1, o1, hA, hbl, _, e0, e1⟩ := def_cell2 (HO.out.d.keep (HB5.out.trans (HE.out.bel.mono HB5.out.size))) hjd
          have hA' : DA = some ⟨b1, o1, none⟩ := by rw [← HDe.out.1]; exact hA
          obtain ⟨d, hd⟩ : ∃ d, d = ds[j] := ⟨_, rfl⟩
          have hin := HV.out.inb d.ty (List.mem_map.2 ⟨d, by rw [hd]; exact List.getElem_mem _, rfl⟩)
          have hdj : (ds.map DT.ty)[j]? = some d.ty := by rw [List.getElem?_map, List.getElem?_eq_getElem hjd, ← hd]; rfl
          rw [← hd] at e0 e1
          obtain ⟨dnm, p⟩ := d
          simp only at e0 e1 hin hdj
          obtain ⟨x, rfl⟩ : ∃ x : Nat, p = (x : Int) := ⟨p.toNat, by omega⟩
          have hx : x < vs.length := by simpa using hin.2
          have hbx := row_new wr 32 #[.string ⟨#[]⟩, .int .i64 0] (DT.mk dnm (x : Int)).cells.toArray
          have hX4 : Blk ((wr.alloc (.cells #[.string ⟨#[]⟩, .int .i64 0] 32)).setRow wr.heap.size (DT.mk dnm (x : Int)).cells.toArray) wr.heap.size 32 (DT.mk dnm (x : Int)).cells := setRow_heap _ _ _ _ _ (0, 0) (heap_alloc_new wr _)
          obtain ⟨W4, hW4⟩ : ∃ W4, W4 = (wr.alloc (.cells #[.string ⟨#[]⟩, .int .i64 0] 32)).setRow wr.heap.size (DT.mk dnm (x : Int)).cells.toArray := ⟨_, rfl⟩
          rw [← hW4] at hbx hX4
          have HE4 := hid (HE.out.keep hbx)
          have HW4 := hid hW4
          have HSz := hid (dt_size (DT.mk dnm (x : Int)))
          have HOne := hid (dt_one (DT.mk dnm (x : Int)))
          have HX4 := hid (show Blk W4 wr.heap.size 32 [.string dnm, .int .i64 (x : Int)] from hX4)
          have z1 := Blk.at HX4.out 1
          simp only [List.getElem?_cons_zero, List.getElem?_cons_succ] at z1
          have HXs := hid (HX5.out.keep ((HE4.out.bel.mono (Nat.le_of_eq rfl)).mono (Nat.le_refl _)))
          have y0 := Blk.at HXs.out 0
          have y1 := Blk.at HXs.out 1
          simp only [List.getElem?_cons_zero, List.getElem?_cons_succ] at y0 y1
          obtain ⟨sg, hsg⟩ : ∃ sg, sg = seenF (ptT (vs.map NV.t)) ((ds.map DT.ty).take j) := ⟨_, rfl⟩
          have hnext := seen_next (pt := ptT (vs.map NV.t)) hdj
          have hfits := seen_fits HV.out hdj
          rw [← hsg] at hnext hfits HE4
          rw [Int.toNat_natCast] at hnext hfits
          have HNx := hid hnext
          have HFi := hid hfits
          have HLe := hid (show sg.length ≤ 300 by have := HNn.out; have := HNb.out; omega)
          obtain ⟨v4, hv4, ho4, hb4⟩ := HE4.out.ys
          obtain ⟨A4, c4, rfl⟩ := owns_shape ho4
          have q0 := YS.cell (base0 := w5.heap.size) (sg := sg) hv4
          have HOw := hid ho4
          have HYl := hid hv4
          obtain ⟨len, hlen⟩ : ∃ len, sg.length = len := ⟨_, rfl⟩
          rw [hlen] at q0 HOw HLe HYl
          have hlenb : len ≤ 300 := HLe.out
          have HLn := hid hlen
          have HXv := hid hx
          have HCa := hid (Each_any (yields_seen w5.heap.size w5.heap.size) HV.out HCk.out HN0.out x hx sg W4 (HO.out.keep (HB5.out.trans (HE4.out.bel.mono HB5.out.size))) (Nat.le_trans HB5.out.size HE4.out.bel.size) HE4.out.ys (fun b hb e => by have := ys_own HE4.out.ys b e; have := HB5.out.size; omega) (by show sg.length + (sub (ptT (vs.map NV.t)) x).length ≤ 4096; have := HFi.out; have := HN0.out; omega))
          rw [vis_true] at HCa
          unfold SpV.val at HCa
          simp only at HCa
          rw [HNe.out.1, HNe.out.2.1, HNe.out.2.2, HDe.out.1, HDe.out.2.1, HDe.out.2.2] at HCa
          have HNo := hid (show ¬ Own w5.heap.size W4 wr.heap.size from fun e => by
            have hlt := (yields_seen _ _).lt _ _ HE.out.ys
            have := (yields_seen _ _).ob _ _ _ HE.out.ys ((own_same (hbx.block _ hlt) _).1 e)
            omega)
          clear hbx hX4 hW4 hbl hA hd hjd HE hin hdj hx hsg hnext hfits hv4 ho4 hb4 hlen
          rw [hA'] at HCa HXs y1 HX5 HRt ⊢
          go_upto_region 11 with (first
            | ((with_reducible refine wpList_store_row rfl 32 _ _ rfl wr.heap.size (DT.mk dnm (x : Int)).cells.toArray ?_ ?_ 32 #[.string ⟨#[]⟩, .int .i64 0] (heap_alloc_new wr _) HSz.out ?_ HOne.out ?_); exact rfl; exact rfl; exact rfl; rw [← HW4.out])
            | (go_at_call 7; (with_reducible refine HCa.out.mono ?_); rintro e w7 ⟨rfl, hy7, hc7, ho7⟩; have HE7 := hid (show ElW w5 (sg ++ (sub (ptT (vs.map NV.t)) x).map (fun (i : Nat) => (i : Int))) w7 from HE4.out.went hy7 hc7); have HX7 := hid (HX4.out.chg hc7 HNo.out); clear hy7 hc7 ho7 y0 y1 z1 q0))
          obtain ⟨v7, hv7, ho7, hb7⟩ := HE7.out.ys
          have hz7 : (sg ++ (sub (ptT (vs.map NV.t)) x).map (fun (i : Nat) => (i : Int)))[len]? = some (x : Int) := by
            rw [sub_eq HV.out x HXv.out, ← HLn.out, List.getElem?_append_right (Nat.le_refl _), Nat.sub_self]
            rfl
          have hl7 : len < (sg ++ (sub (ptT (vs.map NV.t)) x).map (fun (i : Nat) => (i : Int))).length := (List.getElem?_eq_some_iff.1 hz7).1
          have HSg := hid (show seenF (ptT (vs.map NV.t)) ((ds.map DT.ty).take (j + 1)) = sg ++ (sub (ptT (vs.map NV.t)) x).map (fun (i : Nat) => (i : Int)) from HNx.out)
          have hm7 : (sg ++ (sub (ptT (vs.map NV.t)) x).map (fun (i : Nat) => (i : Int))).length ≤ 300 := by rw [← HSg.out]; exact Nat.le_trans (seen_len HV.out _) (by have := HNn.out; have := HNb.out; omega)
          obtain ⟨sg7, hsg7⟩ : ∃ sg7, sg7 = sg ++ (sub (ptT (vs.map NV.t)) x).map (fun (i : Nat) => (i : Int)) := ⟨_, rfl⟩
          rw [← hsg7] at ho7 hz7 hl7 HSg HE7 hm7
          obtain ⟨m7, hm⟩ : ∃ m, sg7.length = m := ⟨_, rfl⟩
          rw [hm] at ho7 hl7 hm7
          obtain ⟨b7, c7, rfl, _, _⟩ := seen_row ho7 (by omega)
          have q0 := YS.cell (base0 := w5.heap.size) (sg := sg7) hv7
          have q1 := cell_seen ho7 hl7 hz7
          have z1 := Blk.at HX7.out 1
          simp only [List.getElem?_cons_zero, List.getElem?_cons_succ] at z1
          have hl7' : (len : Int) < (m7 : Int) := by omega
          clear hv7 ho7 hz7 hsg7 hm hb7 HCa HFi
          go_quiet (fail)
          go_wp2_with fail
          all_goals exact ⟨⟨j + 1, by omega, by go_num, hid (by rw [HSg.out]; exact HE7.out.keep (below_drewN (Below.refl _ _) nq))⟩, by simp [intOf]; omega⟩
        · obtain rfl : j = Dn := by omega
          have HAll := hid (show ElW w5 (seenF (ptT (vs.map NV.t)) (ds.map DT.ty)) wr from by
            have := HE.out
            rw [List.take_of_length_le (by rw [List.length_map, ← HDn.out]; exact Nat.le_refl _)] at this
            exact this)
          clear HE
          have HSl := hid (show (seenF (ptT (vs.map NV.t)) (ds.map DT.ty)).length = n from (seen_all_len HV.out).trans HNn.out.symm)
          have HSo := hid (seen_sort HV.out)
          generalize seenF (ptT (vs.map NV.t)) (ds.map DT.ty) = sg at HAll HSl HSo
          have HXs := hid (HX5.out.keep (HAll.out.bel))
          have HSs := hid (HS5.out.keep (HAll.out.bel))
          have y0 := Blk.at HXs.out 0
          have y1 := Blk.at HXs.out 1
          have s0 := Blk.at HSs.out 0
          simp only [List.getElem?_cons_zero, List.getElem?_cons_succ] at y0 y1 s0
          go_upto_region 15 with (fail)
          have hal := (Below.refl wr.heap.size wr).alloc (Nat.le_refl _) (.cells #[.int .i64 0] 3)
          have HOl := hid (show ∀ k, Own w5.heap.size (wr.alloc (.cells #[.int .i64 0] 3)) k → k < wr.heap.size from fun k hk => HAll.out.own_lt k ((own_same (hal.block _ HAll.out.lt) k).1 hk))
          have HK8 := hid (HAll.out.keep hal)
          have HC8 := hid (stop_box wr 0)
          have HS8 := hid (HSs.out.keep hal)
          have HX8 := hid (HXs.out.keep hal)
          obtain ⟨cc, hcc⟩ : ∃ cc, wr.heap.size = cc := ⟨_, rfl⟩
          have HCc := hid (show w5.heap.size < cc by rw [← hcc]; exact HAll.out.lt)
          rw [hcc] at HC8 HOl ⊢
          clear hcc y0 y1 s0 HXs HSs HAll hal
          generalize wr.alloc (.cells #[.int .i64 0] 3) = w8 at *
          have HB8 := hid (HB5.out.trans (HK8.out.bel.mono HB5.out.size))
          have y0 := Blk.at HX8.out 0
          have y1 := Blk.at HX8.out 1
          simp only [List.getElem?_cons_zero, List.getElem?_cons_succ] at y0 y1
          obtain ⟨d, hdm, hrt⟩ := root_mem HD0.out
          have hin := HV.out.inb d.ty (List.mem_map.2 ⟨d, hdm, rfl⟩)
          obtain ⟨q, hq⟩ := List.getElem?_of_mem hdm
          have hfit := seen_fits (j := q) (p := d.ty) HV.out (by rw [List.getElem?_map, hq]; rfl)
          obtain ⟨dnm, p⟩ := d
          simp only at hin hrt hfit
          obtain ⟨x, rfl⟩ : ∃ x : Nat, p = (x : Int) := ⟨p.toNat, by omega⟩
          have hx : x < vs.length := by simpa using hin.2
          have HXv := hid hx
          have HSz := hid (show (sub (ptT (vs.map NV.t)) x).length ≤ 2048 by rw [Int.toNat_natCast] at hfit; have := HN0.out; omega)
          rw [hrt] at HRt
          obtain ⟨gs, hgs⟩ : ∃ gs, w.heap.size + 1 = gs := ⟨_, rfl⟩
          rw [hgs] at HS8 HS5 ⊢
          have HGs := hid (show gs < w5.heap.size from HS5.out.lt)
          obtain ⟨g0, hg0⟩ : ∃ g0, w.heap.size = g0 := ⟨_, rfl⟩
          have HG0 := hid hg0
          rw [hg0] at HX8 y0 y1 ⊢
          clear hdm hrt hin hx hq hfit hgs hg0
          go_cut [11] from 49 to 53 (fun s11 wx => ∃ (wh : Bool) (cnt : Nat), s11 = .bool wh ∧ Hid (ElW w5 sg wx) ∧ Hid (Blk wx cc 3 [.int .i64 (cnt : Int)] ∧ Blk wx gs 3 [.int .i64 stop]) ∧ Hid (Blk wx g0 25 [.slice NA n Nc, .slice DA j Dc]) ∧ Hid (0 < stop → wh = !decide ((cnt : Int) = stop)))
          case first =>
            go_region_with (first
              | ((with_reducible refine (HRt.out _ (below_draw HB8.out)).mono ?_); rintro e w9 ⟨rfl, hb9⟩; have hb9' := (show Below w8.heap.size w8 w9 from ⟨hb9.os, hb9.tape, hb9.output, hb9.size, hb9.block⟩); have HX9 := hid (HX8.out.keep hb9'); have HK9 := hid (HK8.out.keep hb9'); have HC9 := hid (HC8.out.keep hb9'); have HS9 := hid (HS8.out.keep hb9'); have HOl9 := hid (show ∀ k, Own w5.heap.size w9 k → k < cc from fun k hk => HOl.out k ((own_same (hb9'.block _ HK8.out.lt) k).1 hk)); clear hb9 hb9' y0 y1; have y0 := Blk.at HX9.out 0; have y1 := Blk.at HX9.out 1; simp only [List.getElem?_cons_zero, List.getElem?_cons_succ] at y0 y1; have HYC := (show YC cc gs stop [] w9 from ⟨HC9.out, HS9.out, by have := HGs.out; have := HCc.out; omega⟩); have HEa := hid (Each_any (yields_count cc gs stop) HV.out HCk.out HN0.out x HXv.out [] w9 (HO.out.keep (HB5.out.trans (HK9.out.bel.mono HB5.out.size))) (Nat.le_trans HB5.out.size HK9.out.bel.size) HYC (fun b hb e => by rw [own_count HYC] at e; have := HB5.out.size; have := HCc.out; omega) (by show 0 + (sub (ptT (vs.map NV.t)) x).length ≤ 4096; have := HSz.out; omega)); unfold SpV.val at HEa; simp only at HEa; rw [HNe.out.1, HNe.out.2.1, HNe.out.2.2, HDe.out.1, HDe.out.2.1, HDe.out.2.2] at HEa; have HYC := hid HYC)
              | ((with_reducible refine HEa.out.mono ?_); rintro e w10 ⟨rfl, hy10, hc10, ho10⟩; have hcS := hc10.more (T := (· = cc)) (fun k _ e => (own_count HYC.out k).1 e); have HK10 := hid (HK9.out.chg hcS (fun k e hk => by have := HOl9.out k hk; omega) (fun k e => by have := HCc.out; omega)); have HY10 := hid hy10; have HX10 := hid (HX9.out.chg hcS (by have := HG0.out; have := HB5.out.size; have := HCc.out; omega)); clear hy10 hc10 ho10 hcS y0 y1 HEa))
            all_goals
              go_wp2_with fail
              go_meet
              exact ⟨_, _, rfl, HK10, hid ⟨HY10.out.1, HY10.out.2.1⟩, HX10, hid (fun h => vis_stop _ _ h)⟩
          case rest =>
            obtain ⟨wh, cnt, rfl, HK10, HY10, HX10, HVs⟩ := hcut
            clear HX8 HS8 HC8 HK8 HB8 y0 y1 HOl HRt
            have c0 := Blk.at HY10.out.1 0
            have s0 := Blk.at HY10.out.2 0
            simp only [List.getElem?_cons_zero] at c0 s0
            go_upto_region 16 with (fail)
            go_cut [62] from 54 to 61 (fun s62 wx => s62 = .bool false ∧ wx = wc)
            case first =>
              by_cases hst : 0 < stop
              · by_cases hce : (cnt : Int) = stop
                · have hwh : wh = false := by rw [HVs.out hst]; simp [hce]
                  have hce' : ((cnt : Int) == stop) = true := by simpa using hce
                  subst hwh
                  go_wp2_with fail
                  go_meet
                  exact ⟨rfl, rfl⟩
                · have hwh : wh = true := by rw [HVs.out hst]; simp [hce]
                  have hce' : ((cnt : Int) == stop) = false := by simpa using hce
                  subst hwh
                  go_wp2_with fail
                  go_meet
                  exact ⟨rfl, rfl⟩
              · go_wp2_with fail
                go_meet
                exact ⟨rfl, rfl⟩
            case rest =>
              obtain ⟨rfl, rfl⟩ := hcut
              rename_i wc0
              obtain ⟨v, hv, ho, hb⟩ := HK10.out.ys
              have hn0 : 0 < n := by have := HXv.out; have := HNn.out; omega
              rw [HSl.out] at ho
              obtain ⟨b, c, rfl, hbb, hbl⟩ := seen_row ho hn0
              have q0 := YS.cell (base0 := w5.heap.size) (sg := sg) hv
              have HSrt := hid (sort_ints ho HSl.out.symm (by omega))
              rw [HSo.out] at HSrt
              have HVv := hid hv
              have HBb := hid (And.intro hbb hbl)
              have HNb2 := hid (show b ≠ w5.heap.size from fun e => by subst e; exact own_ne ho hv (by decide) rfl)
              clear c0 s0 hv ho hb hbb hbl
              go_wp2_with (go_at_call 11; (with_reducible refine HSrt.out.mono ?_); rintro e w11 ⟨rfl, hrow, hchg⟩; have HRow := hid hrow; have HV11 := hid (HVv.out.chg hchg (fun e => HNb2.out e.symm)); have HX11 := hid (HX10.out.chg hchg (fun e => by have := HG0.out; have := HB5.out.size; have := HX5.out.lt; have := HBb.out; omega)); have HF11 := hid ((HB5.out.trans (HK10.out.bel.mono HB5.out.size))); have HC11 := hid hchg; clear hrow hchg q0; have q0 := YS.cell (base0 := w5.heap.size) (sg := sg) HV11.out)
              have y0 := Blk.at HX11.out 0
              have y1 := Blk.at HX11.out 1
              simp only [List.getElem?_cons_zero, List.getElem?_cons_succ] at y0 y1
              go_loopw [67] (fun i wr => ∃ k : Nat, k ≤ n ∧ i = .int .i64 k ∧ wr = w11) (fun i _ => n - (intOf i).toNat)
              case atStart => exact ⟨0, by omega, rfl, by first | rfl | trivial⟩
              case round =>
                obtain ⟨k, hk, rfl, rfl⟩ := hrel
                by_cases hkn : k < n
                · have hkn' : (k : Int) < (n : Int) := by omega
                  have hck := cell_seen HRow.out hkn (z := (k : Int)) (by have := HNn.out; simp [List.getElem?_range, show k < vs.length by omega])
                  go_wp2_with fail
                  all_goals exact ⟨⟨k + 1, by omega, by go_num, by first | rfl | trivial⟩, by simp [intOf]; omega⟩
                · obtain rfl : k = n := by omega
                  go_wp2_with fail
                  show RR (.returned (.bool true)) _
                  rw [HRR.out]
                  exact ⟨rfl, Chg.below HF11.out HC11.out HF11.out.size (fun j hj => by have := HB5.out.size; have := HBb.out; omega)⟩
    · have hRi : ¬ (R : Int) = 0 := by omega
      have hRb : ((R : Int) != 0) = true := by simpa using hRi
      clear HRt
      go_enter Try.func3, Try.ntmps3
      go_upto_region 1 with (fail)
      generalize (w.alloc (.cells #[.slice NA n Nc, .slice DA Dn Dc] 25)).alloc (.cells #[.int .i64 stop] 3) = w1 at *
      go_wp2_with (first
        | (go_at_call 4; (with_reducible refine (builds_any _).mono ?_); rintro e w2 ⟨rfl, hb2⟩; have HB2 := hid (HB.out.trans (hb2.mono HB.out.size)); have HX2 := hid (HX.out.keep hb2); clear hb2 HB HX HS; have y0 := Blk.at HX2.out 0; have y1 := Blk.at HX2.out 1; simp only [List.getElem?_cons_zero, List.getElem?_cons_succ] at y0 y1)
        | (go_at_call 5; (with_reducible refine (HSm.out _ HB2.out).mono ?_); rintro e w3 ⟨rfl, hb3⟩; have HB3 := hid (HB2.out.trans (hb3.mono HB2.out.size)); have HX3 := hid (HX2.out.keep hb3); clear hb3 HB2 HX2 y0 y1; have y0 := (Blk.at HX3.out 0); have y1 := (Blk.at HX3.out 1); simp only [List.getElem?_cons_zero, List.getElem?_cons_succ] at y0 y1)
        | (go_at_call 6; (with_reducible refine (HChk.out _ HB3.out).mono ?_); rintro e w5 ⟨rfl, hb5⟩; have HB5 := hid (HB3.out.trans (hb5.mono HB3.out.size)); clear hb5 HB3 HX3 y0 y1))
      show RR (.returned (.bool true)) _
      rw [HRR.out]
      exact ⟨rfl, HB5.out⟩
  · have hsm : smB ⟨vs, ds, N, D⟩ = false := by simpa using hsm
    rw [hsm] at HSm
    clear HS
    go_enter Try.func3, Try.ntmps3
    go_upto_region 1 with (fail)
    generalize (w.alloc (.cells #[.slice N.A N.n N.c, .slice D.A D.n D.c] 25)).alloc (.cells #[.int .i64 stop] 3) = w1 at *
    go_wp2_with (first
      | (go_at_call 4; (with_reducible refine (builds_any _).mono ?_); rintro e w2 ⟨rfl, hb2⟩; have HB2 := hid (HB.out.trans (hb2.mono HB.out.size)); have HX2 := hid (HX.out.keep hb2); clear hb2 HB HX; have y0 := Blk.at HX2.out 0; have y1 := Blk.at HX2.out 1; simp only [List.getElem?_cons_zero, List.getElem?_cons_succ] at y0 y1)
      | (go_at_call 5; (with_reducible refine (HSm.out _ HB2.out).mono ?_); rintro e w3 ⟨rfl, hb3⟩; have HB3 := hid (HB2.out.trans (hb3.mono HB2.out.size)); clear hb3 HB2 HX2 y0 y1))
    show RR (.returned (.bool true)) _
    rw [HRR.out]
    exact ⟨rfl, HB3.out⟩
end Go.Proofs.Ythjfhenldkihkaa
