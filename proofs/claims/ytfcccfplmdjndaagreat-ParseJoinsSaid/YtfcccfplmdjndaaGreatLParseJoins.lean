/- parse: the laws' head, walked. -/
import Derived.Test.YtfcccfplmdjndaaGreatPaRd7
import Derived.Test.YtfcccfplmdjndaaGreatSpSa
import Derived.Test.YtfcccfplmdjndaaGreatSpX
import Derived.Test.YtfcccfplmdjndaaGreatPaJg
import Derived.Test.YtfcccfplmdjndaaGreatLxS
import Derived.Test.YtfcccfplmdjndaaGreatSpCh
import Derived.Test.YtfcccfplmdjndaaGreatPaRow
import Derived.ChangeMaps5
import Derived.Lib.SmallJoins
namespace Go.Proofs.YtfcccfplmdjndaaGreat
set_option linter.unusedSimpArgs false
set_option linter.unusedVariables false
open Go.RowKit

theorem fix_24 : fixV [117, 50, 52, 108, 101] = .tuple #[.int .i64 3, .bool true, .bool true] := by kernel_rfl
theorem word_many : wordP [109, 97, 110, 121] = true := by kernel_rfl
theorem word_main : wordP [109, 97, 105, 110] = false := by kernel_rfl
theorem root_15 : rootS evD = 15 := by kernel_rfl
set_option maxRecDepth 100000 in
set_option maxHeartbeats 8000000 in
theorem reads_any (w : World) : Calls Tryz.prog 6 #[] w fun e w' => e = .returned (.bool true) ∧ Below w.heap.size w w' := by
 have HP1 := hid (fun W => parse_x W)
 have HP2 := hid (fun W => parse_y W)
 unfold evX at HP1
 unfold evY at HP2
 go_enter Tryz.func6, Tryz.ntmps6
 go_wp2_with fail
 refine (HP1.out _).mono ?_
 rintro e w1 ⟨hb1, vs, gN, gD, gF, K, L, C, rfl, hx⟩
 obtain ⟨hbx, hv1, hf1⟩ := box_sf w1 (.slice (some ⟨gN, 0, none⟩) 16 16) (.slice (some ⟨gD, 0, none⟩) 2 2) 0 0
 have HB := hid (hb1.trans (hbx.mono hb1.size))
 have HV1 := hid hv1
 have HF1 := hid hf1
 have HX := hid (hx.keep hbx)
 clear hb1 hbx hv1 hf1 hx HP1
 go_upto_region 2 with fail
 generalize (w1.alloc (.cells #[.slice (some ⟨gN, 0, none⟩) 16 16, .slice (some ⟨gD, 0, none⟩) 2 2] 32)).alloc (.cells #[.int .i64 0, .int .i64 0] 26) = w2 at *
 have HCk := hid (fun W (h : Fx W w.heap.size vs gN gD gF K L C) => Check_any _ W h.own.ok9 h.fit)
 have HRt := hid (fun W (h : Fx W w.heap.size vs gN gD gF K L C) => Root_any _ W h.own.ok9 (by show 2 ≤ 1048576; decide))
 unfold SpV.val at HCk HRt
 dsimp only at HCk HRt
 simp only [HX.out.ck, root_15, Int.natCast_zero] at HCk HRt
 generalize w1.heap.size + 1 = b2 at *
 generalize w1.heap.size = b1 at *
 have x0 : _ = some ((.slice (some ⟨gN, 0, none⟩) 16 16 : Value)) := Blk.at HV1.out 0
 have x1 : _ = some ((.slice (some ⟨gD, 0, none⟩) 2 2 : Value)) := Blk.at HV1.out 1
 have f0 : _ = some ((.int .i64 0 : Value)) := Blk.at HF1.out 0
 go_upto_region 3 with (go_at_call 12; refine (HCk.out _ HX.out).mono ?_; rintro e w3 ⟨rfl, hb3⟩; replace HB := hid (HB.out.trans (hb3.mono HB.out.size)); replace HV1 := hid (HV1.out.keep hb3); replace HF1 := hid (HF1.out.keep hb3); replace HX := hid (HX.out.keep hb3); clear hb3 x0 x1 f0; obtain ⟨d2, _⟩ := HX.out.cells; have x0 : _ = some ((.slice (some ⟨gN, 0, none⟩) 16 16 : Value)) := Blk.at HV1.out 0; have x1 : _ = some ((.slice (some ⟨gD, 0, none⟩) 2 2 : Value)) := Blk.at HV1.out 1; have f0 : _ = some ((.int .i64 0 : Value)) := Blk.at HF1.out 0)
 go_wp2_with fail
 refine rd4_reg (b1 := b1) (gN := gN) (gD := gD) (gF := gF) (K0 := K) (L0 := L) (C0 := C) (Sa := fun v W => ∃ g old, v = .pointer (some ⟨g, 0, none⟩) ∧ w3.heap.size ≤ g ∧ Array.size old = 18 ∧ W.heap[g]? = some (.cells old 54 (0, 0)))
  rfl (by simp) ?_ HV1.out HX.out.bn.lt (fx_row HX.out.bn HX.out.n15) ?_ ?_ ?_ ?_
 ·rintro v W W' ⟨g, old, rfl, h1, h2, h3⟩ hb
  exact ⟨g, old, rfl, h1, h2, (hb.block g (Array.getElem?_eq_some_iff.1 h3).1).trans h3⟩
 ·exact fun W hW => (HRt.out W (HX.out.keep hW)).mono fun e w' hh => ⟨_, hh.1, rfl, hh.2⟩
 ·exact fun W hW => ⟨_, _, rfl, hW, rfl, heap_alloc_new W _⟩
 ·exact fun v W h => h
 intro f w4 g h3 hG hb4
 simp only [rd4Us, List.foldl_cons, List.foldl_nil, List.setIfInBounds_toArray, List.set_cons_zero, List.set_cons_succ]
 rw [h3]
 replace HB := hid (HB.out.trans (hb4.mono HB.out.size))
 replace HV1 := hid (HV1.out.keep hb4)
 replace HX := hid (HX.out.keep hb4)
 have HG := hid hG
 clear h3 hG hb4 x0 x1 f0 HF1 HCk HRt
 go_wp2_with fail
 refine (HP2.out _).mono ?_
 rintro e w5 ⟨hb5, rfl⟩
 obtain ⟨hbx, _, hf5⟩ := box_sf w5 (.slice none 0 0) (.slice none 0 0) 5 9
 have hb6 := hb5.trans (hbx.mono hb5.size)
 replace HB := hid (HB.out.trans (hb6.mono HB.out.size))
 replace HV1 := hid (HV1.out.keep hb6)
 replace HX := hid (HX.out.keep hb6)
 replace HG := hid (HG.out.keep hb6)
 have HF5 := hid hf5
 clear hb5 hbx hf5 hb6 HP2
 go_upto_region 6 with fail
 generalize (w5.alloc (.cells #[.slice none 0 0, .slice none 0 0] 32)).alloc (.cells #[.int .i64 5, .int .i64 9] 26) = w6 at *
 generalize w5.heap.size + 1 = b5 at *
 have HFx := hid (fun W => fixed_any [117, 50, 52, 108, 101] (by decide) W)
 rw [fix_24] at HFx
 go_upto_region 7 with (go_at_call 19; refine (HFx.out _).mono ?_; rintro e w7 ⟨rfl, rfl⟩)
 refine rd7_reg (b1 := b1) (b5 := b5) (g0 := g) (gN := gN) (gD := gD) (gF := gF) (K0 := K) (L0 := L) (C0 := C) rfl rfl rfl rfl rfl rfl (by simp) HG.out HX.out.bf HV1.out HF5.out HX.out.bn.lt ?_ ?_ ?_ ?_
 ·obtain ⟨_, _, _, _, c0, c1, c2⟩ := HX.out.cells
  intro i u hu
  have hi : i < 3 := (List.getElem?_eq_some_iff.1 hu).1
  rcases (show i = 0 ∨ i = 1 ∨ i = 2 by omega) with rfl | rfl | rfl
  ·injection hu with hu; subst hu; exact c0
  ·injection hu with hu; subst hu; exact c1
  ·injection hu with hu; subst hu; exact c2
 ·intro W hW
  refine (word_any [109, 97, 110, 121] (by decide) W).mono ?_
  rintro e W' ⟨rfl, rfl⟩
  exact ⟨_, rfl, by rw [word_many], Below.refl _ _⟩
 ·intro W hW
  refine (word_any [109, 97, 105, 110] (by decide) W).mono ?_
  rintro e W' ⟨rfl, rfl⟩
  exact ⟨_, rfl, by rw [word_main], Below.refl _ _⟩
 intro f w8 h0 hb8
 simp only [rd7Us, List.foldl_cons, List.foldl_nil, List.setIfInBounds_toArray, List.set_cons_zero, List.set_cons_succ]
 rw [h0]
 replace HB := hid (HB.out.trans (hb8.mono HB.out.size))
 clear h0 hb8
 go_wp2
 go_ret
 exact ⟨rfl, HB.out⟩
end Go.Proofs.YtfcccfplmdjndaaGreat

/- spec: codes by what is said. -/
namespace Go.Proofs.YtfcccfplmdjndaaGreat
set_option linter.unusedSimpArgs false
set_option linter.unusedVariables false
open Go.RowKit

def Shp (x : NV) : Prop := x.K.n = x.t.ks.length ∧ x.L.n = x.t.ls.length ∧ x.F.n = x.t.fs.length ∧ x.C.n = x.t.cs.length
theorem NodeOk.shp {w : World} {P : Nat → Prop} {x : NV} (h : NodeOk w P x) : Shp x := ⟨h.kn, h.ln, h.fn, h.cn⟩
theorem NodeOwn.shp {w : World} {base : Nat} {x : NV} (h : NodeOwn w base x) : Shp x := ⟨h.kn, h.ln, h.fn, h.cn⟩
theorem ckV_t {x y : NV} (ht : x.t = y.t) (hx : Shp x) (hy : Shp y) : ckV x = ckV y := by
 unfold Shp at hx hy
 obtain ⟨t, ⟨_, k, _⟩, ⟨_, l, _⟩, ⟨_, f, _⟩, ⟨_, s, _⟩⟩ := x
 obtain ⟨t', ⟨_, k', _⟩, ⟨_, l', _⟩, ⟨_, f', _⟩, ⟨_, s', _⟩⟩ := y
 simp only at ht hx hy
 subst ht
 obtain ⟨rfl, rfl, rfl, rfl⟩ := hx
 obtain ⟨rfl, rfl, rfl, rfl⟩ := hy
 rfl
theorem ckN_t : ∀ (vs us : List NV) (j : Nat) (l : List Bool), vs.map NV.t = us.map NV.t → (∀ v ∈ vs, Shp v) → (∀ v ∈ us, Shp v) → ckN j l vs = ckN j l us
 | [], [], _, _, _, _, _ => rfl
 | [], _ :: _, _, _, h, _, _ => by cases h
 | _ :: _, [], _, _, h, _, _ => by cases h
 | v :: vs, u :: us, j, l, h, hv, hu => by
  simp only [List.map_cons, List.cons.injEq] at h
  rw [ckN_at, ckN_at, ckV_t h.1 (hv v (by simp)) (hu u (by simp)), h.1]
  split
  ·rfl
  ·cases hsF j l u.t.parts with
   | error c => rfl
   | ok l' => exact ckN_t vs us (j + 1) l' h.2 (fun x hx => hv x (by simp [hx])) (fun x hx => hu x (by simp [hx]))
theorem ckS_t {vs us : List NV} (ds : List DT) (h : vs.map NV.t = us.map NV.t) (hv : ∀ v ∈ vs, Shp v) (hu : ∀ v ∈ us, Shp v) : ckS vs ds = ckS us ds := by
 have hl : vs.length = us.length := by simpa using congrArg List.length h
 unfold ckS
 rw [hl, ckN_t vs us 0 _ h hv hu]

end Go.Proofs.YtfcccfplmdjndaaGreat

/- The law ParseJoins, walked. -/
namespace Go.Proofs.YtfcccfplmdjndaaGreat
set_option linter.unusedSimpArgs false
set_option linter.unusedVariables false
open Go.RowKit

structure PuR (s : List UInt8) (w w' : World) (c : Nat) (x : SpV) : Prop where
 own : SpecOwn w' w.heap.size x
 code : ∀ ts, scanT s = .ok ts → c = (parseL (stripT ts)).fc
 good : c = 0 → ∃ ts, scanT s = .ok ts ∧ x.ds = (parseL (stripT ts)).ds ∧ x.ts = (parseL (stripT ts)).ns ∧ ckS x.vs x.ds = 0 ∧ ∀ v ∈ x.vs, Fits v
theorem parse_uni (s : ByteArray) (w : World) : Calls Tryz.prog 8 #[.string s] w fun e w' => Below w.heap.size w w' ∧ ∃ (c : Nat) (p : Int) (x : SpV), e = .returned (.tuple #[x.val, .agg #[.int .i64 (c : Int), .int .i64 p]]) ∧ PuR s.data.toList w w' c x := by
 refine (parse_ever s w).mono ?_
 rintro e w' ⟨hb, h⟩
 refine ⟨hb, ?_⟩
 have hnil : SpecOwn w' w.heap.size ⟨[], [], SV.nil, SV.nil⟩ := ⟨rfl, rfl, .inl ⟨rfl, rfl⟩, .inl ⟨rfl, rfl⟩, fun v hv => (by cases hv)⟩
 cases hs : scanT s.data.toList with
 | error e0 =>
  obtain ⟨c, p⟩ := e0
  rw [hs] at h
  simp only at h
  exact ⟨c, p, ⟨[], [], SV.nil, SV.nil⟩, h, ⟨hnil, fun ts ht => (by rw [hs] at ht; cases ht), fun hc => absurd hc (scanT_err hs)⟩⟩
 | ok ts =>
  rw [hs] at h
  simp only at h
  by_cases hf : (parseL (stripT ts)).fc = 0
  ·rw [if_neg (by omega)] at h
   obtain ⟨s', h1, h2, h3, h4, h5, _, _, _, h6, _⟩ := h
   exact ⟨0, 0, s', h1, ⟨h4, fun us hu => (by rw [hs] at hu; injection hu with hu; rw [← hu, hf]), fun _ => ⟨ts, hs, h2, h3, h6, h5⟩⟩⟩
  ·rw [if_pos hf] at h
   exact ⟨(parseL (stripT ts)).fc, _, ⟨[], [], SV.nil, SV.nil⟩, h, ⟨hnil, fun us hu => (by rw [hs] at hu; injection hu with hu; rw [hu]), fun hc => absurd hc hf⟩⟩
theorem two_texts {la lb : List UInt8} (ha : la.length ≤ 1500) (hb : lb.length ≤ 1500) {ta tb : List Tk} (sa : scanT la = .ok ta) (sb : scanT lb = .ok tb) (fa : (parseL (stripT ta)).fc = 0) (fb : (parseL (stripT tb)).fc = 0) :
  ∃ tz, scanT (la ++ 10 :: lb) = .ok tz ∧ (((parseL (stripT tz)).fc = 0 ∧ (parseL (stripT tz)).ns.length = (parseL (stripT tb)).ns.length + (parseL (stripT ta)).ns.length ∧ (parseL (stripT tz)).ds.length = (parseL (stripT tb)).ds.length + (parseL (stripT ta)).ds.length ∧ (parseL (stripT ta)).ns <+: (parseL (stripT tz)).ns ∧ (parseL (stripT ta)).ds <+: (parseL (stripT tz)).ds) ∨ ((parseL (stripT tz)).fc = 2 ∧ (2048 < (parseL (stripT tb)).ns.length + (parseL (stripT ta)).ns.length ∨ 64 < (parseL (stripT tb)).ds.length + (parseL (stripT ta)).ds.length))) := by
 have hp := pair_scan la lb ha hb
 rw [sa] at hp
 simp only at hp
 obtain ⟨gs, e, rfl, hp⟩ := hp
 rw [sb] at hp
 simp only at hp
 obtain ⟨tz, hz, hal⟩ := hp
 obtain ⟨⟨b0, e2, rfl, he2⟩, _, _⟩ := scanT_fits sb
 obtain ⟨gs', e', hge, he', _, hgood, _⟩ := chain_split (gs ++ [e]) 0 (chain_scan sa)
 obtain ⟨rfl, h3⟩ := List.append_inj' hge rfl
 have h3 : e = e' := by simpa using h3
 subst h3
 have hst : ∀ x y : List Tk, stripT (x ++ y) = stripT x ++ stripT y := fun x y => List.map_append
 have ends : ∀ (g : List Tk) (x : Tk), x.k = 5 → EndS (startS (stripT (g ++ [x]))) := fun g x hx => ⟨stripT g, (x.k, x.x), hst g [x], hx⟩
 have okB : Ok (parseL (stripT b0 ++ [(e2.k, e2.x)])) := by
  have h := names_du (stripT (b0 ++ [e2])).length (stripT (b0 ++ [e2])).length (startS (stripT (b0 ++ [e2]))) (ends b0 e2 he2) (Nat.le_refl _)
  have h : (parseL (stripT (b0 ++ [e2]))).fc = 0 → (parseL (stripT (b0 ++ [e2]))).du = 0 := h
  rw [hst] at fb h
  exact ⟨fb, h fb⟩
 have okA2 : Ok (parseL (stripT gs ++ [(e.k, e.x)])) := by
  have h := names_du (stripT (gs ++ [e])).length (stripT (gs ++ [e])).length (startS (stripT (gs ++ [e]))) (ends gs e he') (Nat.le_refl _)
  have h : (parseL (stripT (gs ++ [e]))).fc = 0 → (parseL (stripT (gs ++ [e]))).du = 0 := h
  rw [hst] at fa h
  exact ⟨fa, h fa⟩
 have hz2 : stripT tz = stripT gs ++ (stripT b0 ++ [(e2.k, e2.x)]) := by
  rw [show stripT tz = stripT (gs ++ (b0 ++ [e2])) from hal, hst, hst]
  rfl
 have hj := join_parse (A0 := stripT gs) (B0 := stripT b0) (e := (e.k, e.x)) (e' := (e2.k, e2.x)) he' he2 (fun x hx => by
  obtain ⟨g, hg, rfl⟩ := List.mem_map.1 hx
  have := (hgood g hg).pos.2
  show g.k ≠ 5
  omega) okA2 okB
 refine ⟨tz, hz, ?_⟩
 rw [hz2, hst gs [e], hst b0 [e2]]
 exact hj
theorem Rw.take {w : World} {P : Nat → Prop} {A : Option Addr} {n c n' c' : Nat} {xs ys : List Value} (h : Rw w P ⟨A, n, c⟩ xs) (hy : ys <+: xs) : Rw w P ⟨A, n', c'⟩ ys := by
 obtain ⟨zs, rfl⟩ := hy
 refine ⟨fun e => ?_, fun hx => ?_⟩
 ·have := h.1 e
  exact (List.append_eq_nil_iff.1 this).1
 ·obtain ⟨b, o, hA, hlt, hP, hc⟩ := h.2 (by rw [List.length_append]; omega)
  exact ⟨b, o, hA, hlt, hP, fun j hj => by rw [hc j (by rw [List.length_append]; omega), List.getElem_append_left hj]⟩
theorem flat_take {α : Type} (f : α → List Value) (l : List α) (n : Nat) : (l.take n).flatMap f <+: l.flatMap f := by
 conv => rhs; rw [← List.take_append_drop n l]
 rw [List.flatMap_append]
 exact List.prefix_append _ _
theorem SpecOk.take {w : World} {P : Nat → Prop} {vs : List NV} {ds : List DT} {A E : Option Addr} {n c m g : Nat} (h : SpecOk w P ⟨vs, ds, ⟨A, vs.length, c⟩, ⟨E, ds.length, g⟩⟩) (hn : n ≤ vs.length) (hm : m ≤ ds.length) (c' g' : Nat) : SpecOk w P ⟨vs.take n, ds.take m, ⟨A, n, c'⟩, ⟨E, m, g'⟩⟩ :=
 ⟨by show n = (vs.take n).length; rw [List.length_take]; omega, by show m = (ds.take m).length; rw [List.length_take]; omega, h.n.take (flat_take _ _ _), h.d.take (flat_take _ _ _), fun v hv => h.each v (List.mem_of_mem_take hv)⟩
set_option maxRecDepth 100000 in
set_option maxHeartbeats 8000000 in
theorem pj_walk (sa sb : ByteArray) (w : World) : Calls Tryz.prog 4 #[.string sa, .string sb] w fun e w' => e = .returned (.bool true) ∧ Below w.heap.size w w' := by
 have HRd := hid (fun W => reads_any W)
 obtain ⟨la, rfl⟩ : ∃ la : List UInt8, sa = ⟨la.toArray⟩ := ⟨sa.data.toList, rfl⟩
 obtain ⟨lb, rfl⟩ : ∃ lb : List UInt8, sb = ⟨lb.toArray⟩ := ⟨sb.data.toList, rfl⟩
 have za : (⟨la.toArray⟩ : ByteArray).size = la.length := rfl
 have zb : (⟨lb.toArray⟩ : ByteArray).size = lb.length := rfl
 by_cases hla : 1500 < la.length
 ·have n1 : (1500 : Int) < ((⟨la.toArray⟩ : ByteArray).size : Int) := by rw [za]; omega
  generalize (⟨la.toArray⟩ : ByteArray) = A at *
  generalize (⟨lb.toArray⟩ : ByteArray) = B at *
  clear za zb hla
  go_enter Tryz.func4, Tryz.ntmps4
  go_wp2_with fail
  refine (HRd.out _).mono ?_
  rintro e w0 ⟨rfl, hb0⟩
  have HB := hid hb0
  clear hb0
  go_wp2_with fail
  go_ret
  exact ⟨rfl, HB.out⟩
 by_cases hlb : 1500 < lb.length
 ·have n1 : ¬ (1500 : Int) < ((⟨la.toArray⟩ : ByteArray).size : Int) := by rw [za]; omega
  have n2 : (1500 : Int) < ((⟨lb.toArray⟩ : ByteArray).size : Int) := by rw [zb]; omega
  generalize (⟨la.toArray⟩ : ByteArray) = A at *
  generalize (⟨lb.toArray⟩ : ByteArray) = B at *
  clear za zb hla hlb
  go_enter Tryz.func4, Tryz.ntmps4
  go_wp2_with fail
  refine (HRd.out _).mono ?_
  rintro e w0 ⟨rfl, hb0⟩
  have HB := hid hb0
  clear hb0
  go_wp2_with fail
  go_ret
  exact ⟨rfl, HB.out⟩
 have n1 : ¬ (1500 : Int) < (la.length : Int) := by omega
 have n2 : ¬ (1500 : Int) < (lb.length : Int) := by omega
 have HTw := hid (fun (ta tb : List Tk) (sa : scanT la = .ok ta) (sb : scanT lb = .ok tb) (fa : (parseL (stripT ta)).fc = 0) (fb : (parseL (stripT tb)).fc = 0) => two_texts (by omega) (by omega) sa sb fa fb)
 have s1 := hid (fun W => parse_uni ⟨la.toArray⟩ W)
 have s2 := hid (fun W => parse_uni ⟨lb.toArray⟩ W)
 have had1 := fun W => run_strAdd la [10] (by simp; omega) W
 have had2 := fun W => run_strAdd (la ++ [10]) lb (by simp; omega) W
 clear hla hlb za zb
 go_enter Tryz.func4, Tryz.ntmps4
 go_wp2_with fail
 refine (HRd.out _).mono ?_
 rintro e w0 ⟨rfl, hb0⟩
 have HB := hid hb0
 clear hb0 HRd
 go_wp2_with fail
 refine (s1.out _).mono ?_
 rintro e w1 ⟨hbk, c1, P1, x1, rfl, hR1⟩
 obtain ⟨v1, d1, ⟨A1, N1, C1⟩, ⟨E1, D1, G1⟩⟩ := x1
 have hnn : N1 = v1.length := hR1.own.nn
 have hdd : D1 = d1.length := hR1.own.dn
 subst hnn
 subst hdd
 unfold SpV.val
 dsimp only
 obtain ⟨hbx, hv, hf⟩ := box_sf w1 (.slice A1 v1.length C1) (.slice E1 d1.length G1) (c1 : Int) P1
 have hbq := hbk.trans (hbx.mono hbk.size)
 replace HB := hid (HB.out.trans (hbq.mono HB.out.size))
 have HV1 := hid hv
 have HF1 := hid hf
 have HX1 := hid (hR1.own.keep9 hbx)
 have HR1 := hid (And.intro hR1.code hR1.good)
 clear hbk hbx hv hf hbq hR1
 go_upto_region 6 with fail
 generalize (w1.alloc (.cells #[.slice A1 v1.length C1, .slice E1 d1.length G1] 32)).alloc (.cells #[.int .i64 (c1 : Int), .int .i64 P1] 26) = w2 at *
 generalize w1.heap.size + 1 = b6 at *
 generalize w1.heap.size = b5 at *
 go_wp2_with fail
 refine (s2.out _).mono ?_
 rintro e w3 ⟨hbk, c2, P2, x2, rfl, hR2⟩
 obtain ⟨v2, d2, ⟨A2, N2, C2⟩, ⟨E2, D2, G2⟩⟩ := x2
 have hnn : N2 = v2.length := hR2.own.nn
 have hdd : D2 = d2.length := hR2.own.dn
 subst hnn
 subst hdd
 unfold SpV.val
 dsimp only
 obtain ⟨hbx, hv, hf⟩ := box_sf w3 (.slice A2 v2.length C2) (.slice E2 d2.length G2) (c2 : Int) P2
 have hbq := hbk.trans (hbx.mono hbk.size)
 replace HB := hid (HB.out.trans (hbq.mono HB.out.size))
 replace HV1 := hid (HV1.out.keep hbq)
 replace HF1 := hid (HF1.out.keep hbq)
 replace HX1 := hid (HX1.out.keep9 hbq)
 have HV2 := hid hv
 have HF2 := hid hf
 have HX2 := hid (hR2.own.keep9 hbx)
 have HR2 := hid (And.intro hR2.code hR2.good)
 clear hbk hbx hv hf hbq hR2
 go_upto_region 7 with fail
 generalize (w3.alloc (.cells #[.slice A2 v2.length C2, .slice E2 d2.length G2] 32)).alloc (.cells #[.int .i64 (c2 : Int), .int .i64 P2] 26) = w4 at *
 generalize w3.heap.size + 1 = b8 at *
 generalize w3.heap.size = b7 at *
 go_wp2_with fail
 refine (parse_uni _ _).mono ?_
 rintro e w5 ⟨hbk, c3, P3, x3, rfl, hR3⟩
 obtain ⟨v3, d3, ⟨A3, N3, C3⟩, ⟨E3, D3, G3⟩⟩ := x3
 have hnn : N3 = v3.length := hR3.own.nn
 have hdd : D3 = d3.length := hR3.own.dn
 subst hnn
 subst hdd
 unfold SpV.val
 dsimp only
 obtain ⟨hbx, hv, hf⟩ := box_sf w5 (.slice A3 v3.length C3) (.slice E3 d3.length G3) (c3 : Int) P3
 have hbq := hbk.trans (hbx.mono hbk.size)
 replace HB := hid (HB.out.trans (hbq.mono HB.out.size))
 replace HV1 := hid (HV1.out.keep hbq)
 replace HF1 := hid (HF1.out.keep hbq)
 replace HX1 := hid (HX1.out.keep9 hbq)
 replace HV2 := hid (HV2.out.keep hbq)
 replace HF2 := hid (HF2.out.keep hbq)
 replace HX2 := hid (HX2.out.keep9 hbq)
 have HV3 := hid hv
 have HF3 := hid hf
 have HX3 := hid (hR3.own.keep9 hbx)
 have hla3 : ((ByteArray.mk la.toArray) ++ (ByteArray.mk #[10]) ++ (ByteArray.mk lb.toArray)).data.toList = la ++ 10 :: lb := by simp
 have HR3 := hid (show (∀ ts, scanT (la ++ 10 :: lb) = .ok ts → c3 = (parseL (stripT ts)).fc) ∧ (c3 = 0 → ∃ ts, scanT (la ++ 10 :: lb) = .ok ts ∧ d3 = (parseL (stripT ts)).ds ∧ v3.map NV.t = (parseL (stripT ts)).ns ∧ ckS v3 d3 = 0 ∧ ∀ v ∈ v3, Fits v) by rw [← hla3]; exact ⟨hR3.code, hR3.good⟩)
 clear hla3
 clear hbk hbx hv hf hbq hR3
 go_upto_region 8 with fail
 generalize (w5.alloc (.cells #[.slice A3 v3.length C3, .slice E3 d3.length G3] 32)).alloc (.cells #[.int .i64 (c3 : Int), .int .i64 P3] 26) = w6 at *
 generalize w5.heap.size + 1 = b10 at *
 generalize w5.heap.size = b9 at *
 clear s1 s2 had1 had2
 have f1 : _ = some ((.int .i64 (c1 : Int) : Value)) := Blk.at HF1.out 0
 have f2 : _ = some ((.int .i64 (c2 : Int) : Value)) := Blk.at HF2.out 0
 have f3 : _ = some ((.int .i64 (c3 : Int) : Value)) := Blk.at HF3.out 0
 by_cases h1 : c1 = 0
 rotate_left
 ·have hc : ((c1 : Int) != 0) = true := by simpa using (show ¬ (c1 : Int) = 0 by omega)
  go_wp2_with fail
  go_ret
  exact ⟨rfl, HB.out⟩
 by_cases h2 : c2 = 0
 rotate_left
 ·have hc1 : ((c1 : Int) != 0) = false := by rw [h1]; rfl
  have hc : ((c2 : Int) != 0) = true := by simpa using (show ¬ (c2 : Int) = 0 by omega)
  go_wp2_with fail
  go_ret
  exact ⟨rfl, HB.out⟩
 have hc1 : ((c1 : Int) != 0) = false := by rw [h1]; rfl
 have hc2 : ((c2 : Int) != 0) = false := by rw [h2]; rfl
 obtain ⟨ta, sa, da, na, ka, fa⟩ := HR1.out.2 h1
 obtain ⟨tb, sb, db, nb, kb, fb⟩ := HR2.out.2 h2
 obtain ⟨tz, sz, hj⟩ := HTw.out ta tb sa sb (by rw [← HR1.out.1 ta sa]; exact h1) (by rw [← HR2.out.1 tb sb]; exact h2)
 have hz3 := HR3.out.1 tz sz
 have lna : v1.length = (parseL (stripT ta)).ns.length := by rw [← na]; exact (List.length_map _).symm
 have lnb : v2.length = (parseL (stripT tb)).ns.length := by rw [← nb]; exact (List.length_map _).symm
 have lda : d1.length = (parseL (stripT ta)).ds.length := congrArg List.length da
 have ldb : d2.length = (parseL (stripT tb)).ds.length := congrArg List.length db
 rw [← lna, ← lnb, ← lda, ← ldb] at hj
 obtain ⟨_, _, hv1, _, hd1⟩ := ckS_zero (show ckS v1 d1 = 0 from ka)
 obtain ⟨_, _, hv2, _, hd2⟩ := ckS_zero (show ckS v2 d2 = 0 from kb)
 have p1 : _ = some ((.slice A1 v1.length C1 : Value)) := Blk.at HV1.out 0
 have q1 : _ = some ((.slice E1 d1.length G1 : Value)) := Blk.at HV1.out 1
 have p2 : _ = some ((.slice A2 v2.length C2 : Value)) := Blk.at HV2.out 0
 have q2 : _ = some ((.slice E2 d2.length G2 : Value)) := Blk.at HV2.out 1
 have p3 : _ = some ((.slice A3 v3.length C3 : Value)) := Blk.at HV3.out 0
 have q3 : _ = some ((.slice E3 d3.length G3 : Value)) := Blk.at HV3.out 1
 have e1 : wrap64 ((v1.length : Int) + (v2.length : Int)) = (v1.length : Int) + (v2.length : Int) := by unfold wrap64; omega
 have e2 : wrap64 ((d1.length : Int) + (d2.length : Int)) = (d1.length : Int) + (d2.length : Int) := by unfold wrap64; omega
 have HA := hid (And.intro da na)
 have HKa := hid ka
 have HKb := hid kb
 have HJ := hid hj
 have HZ3 := hid hz3
 have HSz := hid sz
 clear ka kb fa fb sa sb sz da db na nb lna lnb lda ldb hj hz3 HR1 HR2 HTw
 subst h1
 subst h2
 by_cases hf2 : (parseL (stripT tz)).fc ≠ 0
 ·have hov : 2048 < v2.length + v1.length ∨ 64 < d2.length + d1.length := by
   rcases HJ.out with ⟨h, _⟩ | ⟨_, h⟩
   ·exact absurd h hf2
   ·exact h
  have hc3 : (c3 : Int) = 2 := by
   rcases HJ.out with ⟨h, _⟩ | ⟨h, _⟩
   ·exact absurd h hf2
   ·rw [HZ3.out, h]; rfl
  rw [hc3] at f3
  clear hf2 hc3 HJ HZ3 HR3 HSz HA
  by_cases h48 : 2048 < v1.length + v2.length
  ·have g1 : (2048 : Int) < (v1.length : Int) + (v2.length : Int) := by omega
   clear hov
   go_wp2_with fail
   go_ret
   exact ⟨rfl, HB.out⟩
  ·have g1 : ¬ (2048 : Int) < (v1.length : Int) + (v2.length : Int) := by omega
   have g2 : (64 : Int) < (d1.length : Int) + (d2.length : Int) := by omega
   clear hov
   go_wp2_with fail
   go_ret
   exact ⟨rfl, HB.out⟩
 ·have hf0 : (parseL (stripT tz)).fc = 0 := by omega
  have hc30 : c3 = 0 := by rw [HZ3.out]; exact hf0
  subst hc30
  have hc3 : (((0 : Nat) : Int) != 0) = false := rfl
  obtain ⟨tz', sz', dz, nz, kz, fz⟩ := HR3.out.2 rfl
  have htz : tz' = tz := by
   have h := HSz.out
   rw [sz'] at h
   injection h
  subst htz
  obtain ⟨_, ln, ld, pn, pd⟩ := HJ.out.resolve_right (fun h => by
   have h1 := h.1
   rw [hf0] at h1
   cases h1)
  rw [← nz, ← HA.out.2] at pn
  rw [← dz, ← HA.out.1] at pd
  have pn : v1.map NV.t <+: v3.map NV.t := pn
  have pd : d1 <+: d3 := pd
  rw [← nz, List.length_map] at ln
  rw [← dz] at ld
  have htn : v1.map NV.t = (v3.take v1.length).map NV.t := by
   rw [List.map_take]
   have h := List.prefix_iff_eq_take.1 pn
   rw [List.length_map] at h
   exact h
  have htd : d1 = d3.take d1.length := List.prefix_iff_eq_take.1 pd
  obtain ⟨_, _, hv3, _, hd3⟩ := ckS_zero (show ckS v3 d3 = 0 from kz)
  have hKf : ckS (v3.take v1.length) (d3.take d1.length) = 0 := by
   rw [← htd, ckS_t d1 htn.symm (fun v hv => (HX3.out.each v (List.mem_of_mem_take hv)).shp) (fun v hv => (HX1.out.each v hv).shp)]
   exact HKa.out
  have HT := hid (And.intro htn (And.intro htd hKf))
  have hdp : 0 < d1.length := (ckS_zero (show ckS v1 d1 = 0 from HKa.out)).2.2.2.1
  have hvp : 0 < v1.length := by
   obtain ⟨V, _⟩ := ckS_zero (show ckS v1 d1 = 0 from HKa.out)
   have h := V.inb d1[0].ty (List.mem_map_of_mem (List.getElem_mem hdp))
   omega
  obtain ⟨g3, hN3, _, _⟩ := HX3.out.n.blk (by
   intro e
   have h := congrArg List.length e
   rw [flatN_len, List.length_nil] at h
   simp only at h
   omega)
  obtain ⟨k3, hE3, _, _⟩ := HX3.out.d.blk (by
   intro e
   have h := congrArg List.length e
   rw [flatD_len, List.length_nil] at h
   simp only at h
   omega)
  have hN9 : A3 = some ⟨g3, 0, none⟩ ∧ C3 = v3.length := by
   have x := congrArg SV.A hN3
   have y := congrArg SV.c hN3
   exact ⟨x, y⟩
  have hE9 : E3 = some ⟨k3, 0, none⟩ ∧ G3 = d3.length := by
   have x := congrArg SV.A hE3
   have y := congrArg SV.c hE3
   exact ⟨x, y⟩
  obtain ⟨hN3a, hN3b⟩ := hN9
  obtain ⟨hE3a, hE3b⟩ := hE9
  clear hN3 hE3
  subst hN3a
  subst hN3b
  have hE3b : G3 = d3.length := hE3b
  subst hE3a
  subst hE3b
  have g1 : ¬ (2048 : Int) < (v1.length : Int) + (v2.length : Int) := by omega
  have g2 : ¬ (64 : Int) < (d1.length : Int) + (d2.length : Int) := by omega
  have y1 : ((d3.length : Int) != (d1.length : Int) + (d2.length : Int)) = false := by
   have : (d3.length : Int) = (d1.length : Int) + (d2.length : Int) := by omega
   rw [this]; simp
  have y2 : ((v3.length : Int) != (v1.length : Int) + (v2.length : Int)) = false := by
   have : (v3.length : Int) = (v1.length : Int) + (v2.length : Int) := by omega
   rw [this]; simp
  have b1 : (v1.length : Int) ≤ (v3.length : Int) := by omega
  have b2 : (d1.length : Int) ≤ (d3.length : Int) := by omega
  have b3 : v1.length ≤ v3.length := by omega
  have b4 : d1.length ≤ d3.length := by omega
  clear hf0 sz' dz nz kz fz pn pd ln ld htn htd hKf hf2 HJ HZ3 HR3 HSz HA
  go_upto_region 14 with fail
  have p3' : _ = some ((.slice (some ⟨g3, 0, none⟩) v3.length v3.length : Value)) := Blk.at HV3.out 0
  have q3' : _ = some ((.slice (some ⟨k3, 0, none⟩) d3.length d3.length : Value)) := Blk.at HV3.out 1
  clear p3 q3
  have l5 : b5 < w6.heap.size := HV1.out.lt
  have l9 : b9 < w6.heap.size := HV3.out.lt
  go_region
  have hal := al_below w6 (.cells #[.slice (some ⟨g3, 0, none⟩) v1.length v3.length, .slice (some ⟨k3, 0, none⟩) d1.length d3.length] 32)
  have h11 : Blk (w6.alloc (.cells #[.slice (some ⟨g3, 0, none⟩) v1.length v3.length, .slice (some ⟨k3, 0, none⟩) d1.length d3.length] 32)) w6.heap.size 32 [.slice (some ⟨g3, 0, none⟩) v1.length v3.length, .slice (some ⟨k3, 0, none⟩) d1.length d3.length] := heap_alloc_new w6 _
  have hbd : Below w6.heap.size w6 (w6.alloc (.cells #[.slice (some ⟨g3, 0, none⟩) v1.length v3.length, .slice (some ⟨k3, 0, none⟩) d1.length d3.length] 32)).drew := hal.trans ⟨rfl, rfl, rfl, Nat.le_refl _, fun _ _ => rfl⟩
  have h11 : Blk (w6.alloc (.cells #[.slice (some ⟨g3, 0, none⟩) v1.length v3.length, .slice (some ⟨k3, 0, none⟩) d1.length d3.length] 32)).drew w6.heap.size 32 [.slice (some ⟨g3, 0, none⟩) v1.length v3.length, .slice (some ⟨k3, 0, none⟩) d1.length d3.length] := h11
  have hx1 := ((SpecOwn.ok9 HX1.out).keep hbd).mono (Q := fun _ => True) (fun _ _ _ => rfl) (Nat.le_refl _) (fun _ _ _ => trivial)
  have hx3 := ((SpecOwn.ok9 HX3.out).keep hbd).mono (Q := fun _ => True) (fun _ _ _ => rfl) (Nat.le_refl _) (fun _ _ _ => trivial)
  have hxf := hx3.take b3 b4 v3.length d3.length
  have HSm := hid (Same_eq ⟨v3.take v1.length, d3.take d1.length, ⟨some ⟨g3, 0, none⟩, v1.length, v3.length⟩, ⟨some ⟨k3, 0, none⟩, d1.length, d3.length⟩⟩ ⟨v1, d1, ⟨A1, v1.length, C1⟩, ⟨E1, d1.length, G1⟩⟩ HT.out.2.1 HT.out.1 HT.out.2.2 HKa.out _ hxf hx1)
  unfold SpV.val at HSm
  dsimp only at HSm
  have HEnd := hid (HB.out.trans (hbd.mono HB.out.size))
  have t0 : _ = some ((.slice (some ⟨g3, 0, none⟩) v1.length v3.length : Value)) := Blk.at h11 0
  have t1 : _ = some ((.slice (some ⟨k3, 0, none⟩) d1.length d3.length : Value)) := Blk.at h11 1
  have hv1 := HV1.out.keep hbd
  have u0 : _ = some ((.slice A1 v1.length C1 : Value)) := Blk.at hv1 0
  have u1 : _ = some ((.slice E1 d1.length G1 : Value)) := Blk.at hv1 1
  clear hal h11 hbd hx1 hx3 hxf hv1 p1 q1 p2 q2 p3' q3' f1 f2 f3 l5 l9
  generalize (w6.alloc (.cells #[.slice (some ⟨g3, 0, none⟩) v1.length v3.length, .slice (some ⟨k3, 0, none⟩) d1.length d3.length] 32)).drew = w7 at *
  generalize w6.heap.size = b11 at *
  go_wp2_with (go_at_call 10; refine HSm.out.mono ?_; rintro e w8 ⟨rfl, hb8⟩; replace HEnd := hid (HEnd.out.trans (hb8.mono HEnd.out.size)); clear hb8)
  go_ret
  exact ⟨rfl, HEnd.out⟩
end Go.Proofs.YtfcccfplmdjndaaGreat

/- For every two texts the law ParseJoins returns true, and what came in reads as before. -/
namespace Go.Proofs.YtfcccfplmdjndaaGreat.parseJoinsLaw
open Go.ChangeShapes Go.WideShapes Go.ChangeAt Go.RowKit
set_option linter.unusedVariables false

theorem walk (a0 : ByteArray) (a1 : ByteArray) (w : World) (w0 : a0.size ≤ maxLen) (w1 : a1.size ≤ maxLen) :
  Calls Tryz.prog 4 #[.string a0, .string a1] w fun e w' => e = .returned (.bool true) ∧ Below w.heap.size w w' := by
 exact pj_walk a0 a1 w

set_option maxRecDepth 100000 in
theorem lifted (os : Os) (started : os.Started) (H : Type) (enc : TypeId × Value → H) :
  ReturnsInHanded {} Tryz.checked os 4 .any (Rows.parseJoinsSpec.pre6 enc Tryz.prog Tryz.f4 Rows.parseJoinsRow.domain false) (Rows.parseJoinsSpec.post enc Tryz.prog Tryz.f4 false true false false) := by
 refine returnsInHanded_of_change (C := Tryz.checked) own started (by kernel_rfl) Tryz.func4
  (ChangeSpec.witness6 (enc := enc) (C := Tryz.checked) false ⟨#[], #[.string ⟨#[]⟩, .string ⟨#[]⟩], []⟩ 8 (by kernel_rfl) (by kernel_rfl) (by kernel_rfl) (by kernel_rfl)) ?_
 intro W base args ds gs before hval0 hW hcnd _
 have hval : ∀ (j : Nat) t v, Tryz.f4.params[j]? = some t → args[j]? = some v → Value.okWide Tryz.prog W .any base t v := hval0
 have hW' := hW
 obtain ⟨p, q, hA0, hV, rfl, hfz, hnd⟩ := hW
 have hA : DataW.TrodAll enc Tryz.prog W 0 (fun _ => true) true Tryz.f4.params.toList args.toList ds p := hA0
 rw [Tryz.params4] at hA hval
 obtain ⟨v0, vs0, d0, ds0, p0, q0, hargs, rfl, rfl, h0, r0⟩ := trodAll_cons hA
 obtain ⟨v1, vs1, d1, ds1, p1, q1, rfl, rfl, rfl, h1, r1⟩ := trodAll_cons r0
 obtain ⟨rfl, rfl, rfl⟩ := trodAll_nil r1
 obtain rfl : args = #[v0, v1] := by cases args; simp_all
 obtain ⟨rfl, rfl⟩ := trodVars_none hV
 obtain ⟨a0, rfl, rfl, rfl, w0⟩ := Go.ChangeMaps.open_string Tryz.underlying9 (hval 0 9 v0 rfl rfl) h0
 obtain ⟨a1, rfl, rfl, rfl, w1⟩ := Go.ChangeMaps.open_string Tryz.underlying9 (hval 1 9 v1 rfl rfl) h1
 clear hA0 hval0
 refine (walk a0 a1 W w0 w1).mono fun e W' ⟨he, bel⟩ => ?_
 subst he
 exact ⟨_, rfl, _, _, _, [], _, [], hW', trodAll_mk1 (shut_bool Tryz.underlying4 _), (trodAll_cons_mk (Go.ChangeMaps.shut_string Tryz.underlying9 w0) (trodAll_cons_mk (Go.ChangeMaps.shut_string Tryz.underlying9 w1) trodAll_mk0)), rfl, bel.frame _, fun h => by cases h⟩

theorem over : Rows.parseJoinsRow.holds Tryz.pinned (OpenSpec.ofChange Rows.parseJoinsSpec) :=
 OpenClaim.holds_of_wide 4 Tryz.f4 rfl rfl rfl rfl rfl rfl rfl ⟨rfl, rfl, rfl, rfl, rfl⟩ rfl rfl rfl rfl rfl (by kernel_rfl) Tryz.func4 (by kernel_rfl)
  (of_decide_eq_true (by kernel_rfl)) (by unfold Func.isWrapper; first | (rw [if_pos (by decide +kernel)]; kernel_rfl) | (rw [if_neg (by decide +kernel)]; exact ⟨rfl, rfl⟩))
  (fun os started H enc _ => lifted os started H enc)

/-- The given statement. -/
theorem proved : Rows.ParseJoinsSaid := over
end Go.Proofs.YtfcccfplmdjndaaGreat.parseJoinsLaw
