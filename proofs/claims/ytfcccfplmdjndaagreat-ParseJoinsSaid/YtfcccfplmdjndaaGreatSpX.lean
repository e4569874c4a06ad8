/- spec: Clone, up to its loop. -/
import Derived.Test.YtfcccfplmdjndaaGreatSpXb
import Derived.Test.YtfcccfplmdjndaaGreatSpSa
namespace Go.Proofs.YtfcccfplmdjndaaGreat
set_option linter.unusedSimpArgs false
set_option linter.unusedVariables false
open Go.RowKit

structure ClS (w : World) (vs : List NV) (ds : List DT) (Nn Dn j : Nat) (ys : List NV) (sN sD : SV) (a b : Value) (W : World) : Prop where
 bel : Below w.heap.size w W
 bo : Blk W w.heap.size 32 [a, b]
 rs : Blk W (w.heap.size + 1) 32 [.slice none 0 0, .slice none 0 0]
 n : OwnL W (w.heap.size + 2) 54 sN (flatN (ys ++ vs.drop j))
 d : OwnL W (w.heap.size + 2) 43 sD (flatD ds)
 nn : sN.n = Nn
 dn : sD.n = Dn
 len : ys.length = j
 t : ys.map NV.t = (vs.take j).map NV.t
 each : ∀ y ∈ ys, NodeOwn W (w.heap.size + 2) y
theorem ClS.set0 {w : World} {vs : List NV} {ds : List DT} {Nn Dn j : Nat} {ys : List NV} {sN sD : SV} {a b : Value} {W : World} (h : ClS w vs ds Nn Dn j ys sN sD a b W) (u : Value) : ClS w vs ds Nn Dn j ys sN sD u b (W.setCell ⟨w.heap.size, 0, none⟩ u) :=
 ⟨below_set h.bel _ _ (Nat.le_refl _) _, by simpa using h.bo.put 0 u, h.rs.other (by simp) u, h.n.set _ _ (by omega) u, h.d.set _ _ (by omega) u, h.nn, h.dn, h.len, h.t, fun y hy => (h.each y hy).set _ _ (by omega) u⟩
theorem ClS.set1 {w : World} {vs : List NV} {ds : List DT} {Nn Dn j : Nat} {ys : List NV} {sN sD : SV} {a b : Value} {W : World} (h : ClS w vs ds Nn Dn j ys sN sD a b W) (u : Value) : ClS w vs ds Nn Dn j ys sN sD a u (W.setCell ⟨w.heap.size, 1, none⟩ u) :=
 ⟨below_set h.bel _ _ (Nat.le_refl _) _, by simpa using h.bo.put 1 u, h.rs.other (by simp) u, h.n.set _ _ (by omega) u, h.d.set _ _ (by omega) u, h.nn, h.dn, h.len, h.t, fun y hy => (h.each y hy).set _ _ (by omega) u⟩
set_option maxRecDepth 100000 in
set_option maxHeartbeats 1000000 in
theorem cl1_any {P : Nat → Prop} {vs : List NV} {ds : List DT} {NA DA : Option Addr} {Nn Nc Dn Dc : Nat} {w : World} (h : SpecOk w P ⟨vs, ds, ⟨NA, Nn, Nc⟩, ⟨DA, Dn, Dc⟩⟩) (hn : Nn ≤ 1048576) (hd : Dn ≤ 1048576) {W : World} (hW : W = (w.alloc (.cells #[.slice NA Nn Nc, .slice DA Dn Dc] 32)).alloc (.cells #[.slice none 0 0, .slice none 0 0] 32)) {A0 : Act} {Q : Exit → Act → World → Prop} {id : Nat} (a1 : Act.at A0 1 = .pointer (some ⟨w.heap.size, 0, none⟩)) (hsz : 13 ≤ A0.tmps.size)
  (hk : ∀ (f : Nat → Value) w', (∃ sN sD, ClS w vs ds Nn Dn 0 [] sN sD sN.val sD.val w') → Q .normal ⟨(cl1Us f).foldl (fun A p => A.setIfInBounds p.1 p.2) A0.tmps, A0.defers⟩ w') :
  (Code.region id cl1Ops true).wp Tryz.prog Q A0 W := by
 have hs : W.heap.size = w.heap.size + 2 := by rw [hW]; simp
 have hb : Below w.heap.size w W := by rw [hW]; exact ((Below.refl _ _).alloc (Nat.le_refl _) _).alloc (by simp) _
 have hbo : Blk W w.heap.size 32 [.slice NA Nn Nc, .slice DA Dn Dc] := by
  rw [hW]; exact (Blk.fresh w 32 [.slice NA Nn Nc, .slice DA Dn Dc]).alloc _
 have hrs : Blk W (w.heap.size + 1) 32 [.slice none 0 0, .slice none 0 0] := by
  rw [hW]
  have := Blk.fresh (w.alloc (.cells #[.slice NA Nn Nc, .slice DA Dn Dc] 32)) 32 [.slice none 0 0, .slice none 0 0]
  rw [World.size_alloc] at this
  exact this
 clear hW
 refine cl1_reg (g := w.heap.size) (NA := NA) (Nn := Nn) (Nc := Nc) (DA := DA) (Dn := Dn) (Dc := Dc)
  (R2 := fun u W2 => ∃ sN : SV, u = sN.val ∧ Below (w.heap.size + 2) W W2 ∧ OwnL W2 (w.heap.size + 2) 54 sN (flatN vs) ∧ sN.n = Nn)
  (R5 := fun u v W2 => ∃ sN sD : SV, u = sN.val ∧ v = sD.val ∧ ClS w vs ds Nn Dn 0 [] sN sD (.slice NA Nn Nc) (.slice DA Dn Dc) W2)
  (R7 := fun v W2 => ∃ sN sD : SV, v = sD.val ∧ ClS w vs ds Nn Dn 0 [] sN sD sN.val (.slice DA Dn Dc) W2)
  (R9 := fun W2 => ∃ sN sD : SV, ClS w vs ds Nn Dn 0 [] sN sD sN.val sD.val W2)
  a1 hsz (Blk.at hbo 0) (Blk.at hbo 1) ?_ ?_ ?_ ?_ ?_ hk
 ·refine (own_Node P ⟨NA, Nn, Nc⟩ (flatN vs) W.drew (h.n.keep (below_draw hb)) (by rw [flatN_len, ← h.nn]) hn (ones_N _)).mono ?_
  rintro e W2 ⟨s', rfl, hnn, hb2, ho⟩
  refine ⟨_, rfl, s', rfl, ⟨hb2.os, hb2.tape, hb2.output, hb2.size, fun k hk => hb2.block k (by show k < W.heap.size; omega)⟩, OwnL.of hnn ho _ (by show _ ≤ W.heap.size; omega), hnn⟩
 ·rintro u W2 ⟨sN, rfl, hb2, _, _⟩
  exact (World.cell?_of_block (w := W) (a := ⟨w.heap.size, 1, none⟩) (hb2.block _ (by simp only; omega))).trans (Blk.at hbo 1)
 ·rintro u W2 ⟨sN, rfl, hb2, ho, hnn⟩
  have hB : Below w.heap.size w W2 := hb.trans (hb2.mono (by omega))
  have hs2 : w.heap.size + 2 ≤ W2.heap.size := by have := hb2.size; omega
  refine (own_Def P ⟨DA, Dn, Dc⟩ (flatD ds) W2 (h.d.keep hB) (by rw [flatD_len, ← h.dn]) hd (ones_D _)).mono ?_
  rintro e W3 ⟨s', rfl, hdn, hb3, ho3⟩
  have hb23 : Below (w.heap.size + 2) W W3 := hb2.trans (hb3.mono hs2)
  refine ⟨_, rfl, sN, s', rfl, rfl, ⟨hB.trans (hb3.mono hB.size), ?_, ?_, by simpa using ho.keep hb3, OwnL.of hdn ho3 _ hs2, hnn, hdn, rfl, rfl, fun y hy => by simp at hy⟩⟩
  ·exact (hb23.block _ (by omega)).trans hbo
  ·exact (hb23.block _ (by omega)).trans hrs
 ·rintro u v W2 ⟨sN, sD, rfl, rfl, hc⟩
  exact ⟨⟨_, _, _, rfl⟩, ⟨_, Blk.at hc.bo 0⟩, Blk.free hc.bo 0, sN, sD, rfl, hc.set0 _⟩
 ·rintro v W2 ⟨sN, sD, rfl, hc⟩
  exact ⟨⟨_, _, _, rfl⟩, ⟨_, Blk.at hc.bo 1⟩, Blk.free hc.bo 1, sN, sD, hc.set1 _⟩
end Go.Proofs.YtfcccfplmdjndaaGreat

/- spec: Clone: a type stored into the new list. -/
namespace Go.Proofs.YtfcccfplmdjndaaGreat
set_option linter.unusedSimpArgs false
set_option linter.unusedVariables false
open Go.RowKit

theorem chg_setCells {g : Nat} : ∀ (xs : List Value) (o : Nat) (w : World), Chg w (w.setCells g o xs) (fun k => k = g)
 | [], o, w => Chg.refl w _
 | v :: xs, o, w => by
  unfold World.setCells
  exact ((Chg.refl w (fun k => k = g)).set g o rfl v).trans (chg_setCells xs (o + 1) _)
theorem blk_setCells {g : Nat} {T : TypeId} : ∀ (xs : List Value) (o : Nat) (cs : List Value) (w : World), Blk w g T cs → o + xs.length ≤ cs.length → Blk (w.setCells g o xs) g T (cs.take o ++ xs ++ cs.drop (o + xs.length))
 | [], o, cs, w, h, _ => by simpa [World.setCells] using h
 | v :: xs, o, cs, w, h, hl => by
  have h1 := blk_setCells xs (o + 1) (cs.set o v) (w.setCell ⟨g, o, none⟩ v) (h.put o v) (by simp at hl ⊢; omega)
  have e1 : (cs.set o v).take (o + 1) = cs.take o ++ [v] := by
   simp at hl
   rw [List.take_add_one, List.take_set_of_le (Nat.le_refl _)]
   simp [List.getElem?_set_self (show o < cs.length by omega)]
  have e2 : (cs.set o v).drop (o + 1 + xs.length) = cs.drop (o + (v :: xs).length) := by
   rw [List.drop_set_of_lt (by omega), List.length_cons]
   congr 1
   omega
  rw [e1, e2] at h1
  unfold World.setCells
  simpa using h1
theorem ClS.keep {w : World} {vs : List NV} {ds : List DT} {Nn Dn j : Nat} {ys : List NV} {sN sD : SV} {a b : Value} {W W' : World} (h : ClS w vs ds Nn Dn j ys sN sD a b W) (hb : Below W.heap.size W W') : ClS w vs ds Nn Dn j ys sN sD a b W' :=
 ⟨h.bel.trans (hb.mono h.bel.size), h.bo.keep hb, h.rs.keep hb, h.n.keep hb, h.d.keep hb, h.nn, h.dn, h.len, h.t, fun y hy => (h.each y hy).keep hb⟩
theorem ClS.put {w : World} {vs : List NV} {ds : List DT} {Nn Dn j gn c : Nat} {ys : List NV} {sD : SV} {a b : Value} {W : World} (h : ClS w vs ds Nn Dn j ys ⟨some ⟨gn, 0, none⟩, Nn, c⟩ sD a b W) (y : NV) (hj : j < vs.length) (ht : y.t = vs[j].t) (hy : NodeOwn W (w.heap.size + 2) y) :
  ClS w vs ds Nn Dn (j + 1) (ys ++ [y]) ⟨some ⟨gn, 0, none⟩, Nn, c⟩ sD a b (W.setCells gn (j * 18) y.cells) := by
 have hc := chg_setCells y.cells (j * 18) W (g := gn)
 rcases h.n with ⟨e, _⟩ | ⟨g, e, hg, hB⟩
 ·cases e
 ·injection e with e1 e2 e3
  injection e1 with e1
  injection e1 with e1
  subst e1
  have e3' : c = Nn := e3
  have hys : (flatN ys).length = j * 18 := by rw [flatN_len, h.len]
  have hB2 := blk_setCells y.cells (j * 18) _ W hB (by rw [flatN_len, List.length_append, List.length_drop, h.len, NV.len]; omega)
  have e4 : (flatN (ys ++ vs.drop j)).take (j * 18) ++ y.cells ++ (flatN (ys ++ vs.drop j)).drop (j * 18 + y.cells.length) = flatN ((ys ++ [y]) ++ vs.drop (j + 1)) := by
   have e5 : flatN (ys ++ vs.drop j) = flatN ys ++ (vs[j].cells ++ flatN (vs.drop (j + 1))) := by
    have e := List.drop_eq_getElem_cons hj
    unfold flatN
    rw [List.flatMap_append, e, List.flatMap_cons]
   have e6 : flatN (ys ++ [y] ++ vs.drop (j + 1)) = flatN ys ++ y.cells ++ flatN (vs.drop (j + 1)) := by
    unfold flatN
    rw [List.flatMap_append, List.flatMap_append, List.flatMap_cons, List.flatMap_nil, List.append_nil]
   have e7 : (flatN ys ++ (vs[j].cells ++ flatN (vs.drop (j + 1)))).drop (j * 18 + y.cells.length) = flatN (vs.drop (j + 1)) := by
    rw [← List.append_assoc]
    exact List.drop_left' (by rw [List.length_append, hys, NV.len, NV.len])
   have e8 : (flatN ys ++ (vs[j].cells ++ flatN (vs.drop (j + 1)))).take (j * 18) = flatN ys := List.take_left' hys
   rw [e5, e6, e7, e8]
  rw [e4] at hB2
  refine ⟨hc.below h.bel h.bel.size (by rintro k rfl; omega), h.bo.chg hc (by omega), h.rs.chg hc (by omega), .inr ⟨gn, by rw [e3'], hg, hB2⟩, h.d.chg hc (fun g cs hb e => ?_), h.nn, h.dn, by simp [h.len], ?_, fun z hz => ?_⟩
  ·rw [e] at hb
   exact absurd (blk_type hb hB) (by decide)
  ·rw [List.map_append, h.t, List.take_succ_eq_append_getElem hj, List.map_append]
   simp [ht]
  ·have hin : ∀ T g cs, (T = 3 ∨ T = 4 ∨ T = 64 ∨ T = 121) → Blk W g T cs → ¬ (g = gn) := by
    intro T g cs hT hb e
    rw [e] at hb
    exact (inner_ne hT).2.1 (blk_type hb hB)
   rcases List.mem_append.1 hz with hz | hz
   ·exact (h.each z hz).chg hc hin
   ·obtain rfl := List.mem_singleton.1 hz
    exact hy.chg hc hin
end Go.Proofs.YtfcccfplmdjndaaGreat

/- spec: Clone. -/
namespace Go.Proofs.YtfcccfplmdjndaaGreat
set_option linter.unusedSimpArgs false
set_option linter.unusedVariables false
open Go.RowKit

structure SpecOwn (w : World) (base : Nat) (s : SpV) : Prop where
 nn : s.N.n = s.vs.length
 dn : s.D.n = s.ds.length
 n : OwnL w base 54 s.N (flatN s.vs)
 d : OwnL w base 43 s.D (flatD s.ds)
 each : ∀ v ∈ s.vs, NodeOwn w base v
theorem ClS.there {w : World} {vs : List NV} {ds : List DT} {Nn Dn j gn c : Nat} {ys : List NV} {sD : SV} {a b : Value} {W : World} (h : ClS w vs ds Nn Dn j ys ⟨some ⟨gn, 0, none⟩, Nn, c⟩ sD a b W) (hj : j < vs.length) : W.there gn (j * 18) 18 := by
 rcases h.n with ⟨e, _⟩ | ⟨g, e, hg, hB⟩
 ·cases e
 ·injection e with e1 e2 e3
  injection e1 with e1
  injection e1 with e1
  subst e1
  intro i hi
  refine ⟨?_, Blk.free hB _⟩
  rw [Blk.at hB, List.getElem?_eq_getElem (by rw [flatN_len, List.length_append, List.length_drop, h.len]; omega)]
  rfl
set_option maxRecDepth 100000 in
set_option maxHeartbeats 2000000 in
theorem Clone_any {P : Nat → Prop} (s : SpV) (w : World) (h : SpecOk w P s) (hf : ∀ v ∈ s.vs, Fits v) (hn : s.N.n ≤ 1048576) (hd : s.D.n ≤ 1048576) : Calls Tryz.prog 36 #[s.val] w fun e w' => ∃ s' : SpV, e = .returned s'.val ∧ s'.ds = s.ds ∧ s'.ts = s.ts ∧ Below w.heap.size w w' ∧ SpecOwn w' (w.heap.size + 2) s' := by
 obtain ⟨vs, ds, N, D⟩ := s
 obtain ⟨NA, Nn, Nc⟩ := N
 obtain ⟨DA, Dn, Dc⟩ := D
 unfold SpV.val
 simp only at hn hd hf ⊢
 have HO := hid h
 have HF := hid hf
 have HNn := hid (show Nn = vs.length from h.nn)
 have HDn := hid (show Dn = ds.length from h.dn)
 obtain ⟨R, hR⟩ : ∃ R : Ending → World → Prop, R = fun e w' => ∃ s' : SpV, e = .returned (.agg #[.slice s'.N.A s'.N.n s'.N.c, .slice s'.D.A s'.D.n s'.D.c]) ∧ s'.ds = ds ∧ s'.ts = SpV.ts ⟨vs, ds, ⟨NA, Nn, Nc⟩, ⟨DA, Dn, Dc⟩⟩ ∧ Below w.heap.size w w' ∧ SpecOwn w' (w.heap.size + 2) s' := ⟨_, rfl⟩
 rw [← hR]
 have HR := hid hR
 clear hR h hf
 go_enter Tryz.func36, Tryz.ntmps36
 go_upto_region 1 with (fail)
 refine cl1_any HO.out hn hd rfl rfl (by simp) ?_
 rintro f w2 ⟨⟨A, n0, c⟩, ⟨DA2, Dn2, Dc2⟩, hc⟩
 obtain rfl : n0 = Nn := hc.nn
 obtain rfl : Dn2 = Dn := hc.dn
 simp only [cl1Us, List.foldl_cons, List.foldl_nil, List.setIfInBounds_toArray, List.set_cons_zero, List.set_cons_succ]
 have HC := hid hc
 unfold SV.val at HC
 have x0 := Blk.at HC.out.bo 0
 simp only [List.getElem?_cons_zero] at x0
 clear hc
 go_wp2_with fail
 go_loopw [16] (fun i wr => ∃ (j : Nat) (ys : List NV), j ≤ n0 ∧ i = .int .i64 j ∧ Hid (ClS w vs ds n0 Dn2 j ys ⟨A, n0, c⟩ ⟨DA2, Dn2, Dc2⟩ (.slice A n0 c) (.slice DA2 Dn2 Dc2) wr)) (fun i _ => n0 - (intOf i).toNat)
 case atStart => exact ⟨0, [], by omega, rfl, HC⟩
 case round =>
  clear HC x0
  obtain ⟨j, ys, hj, rfl, HC⟩ := hrel
  by_cases hlt : j < n0
  ·have hlt' : (j : Int) < (n0 : Int) := by omega
   have hjv : j < vs.length := by rw [← HNn.out]; exact hlt
   obtain ⟨g', hA', hc', hg'⟩ : ∃ g', A = some ⟨g', 0, none⟩ ∧ c = n0 ∧ w.heap.size + 2 ≤ g' := by
    rcases HC.out.n with ⟨e, _⟩ | ⟨g', e, hg', _⟩
    ·injection e with _ e2 _
     omega
    ·injection e with e1 _ e3
     exact ⟨g', e1, e3, hg'⟩
   subst hA' hc'
   obtain ⟨b, o, hA, hbl, hPb, hrg⟩ := rw_range (HC.out.n.rw_) (j := j) (by rw [List.length_append, List.length_drop, HC.out.len]; omega)
   simp only [Option.some.injEq, Addr.mk.injEq] at hA
   obtain ⟨hA1, hA2, _⟩ := hA
   subst hA1 hA2
   have hel : (ys ++ vs.drop j)[j]'(by rw [List.length_append, List.length_drop, HC.out.len]; omega) = vs[j] := by
    rw [List.getElem_append_right (by rw [HC.out.len]; exact Nat.le_refl _)]
    simp [HC.out.len]
   rw [hel, Nat.zero_add] at hrg
   obtain ⟨v, hv⟩ : ∃ v, v = vs[j] := ⟨_, rfl⟩
   rw [← hv] at hrg
   have HRg := hid hrg
   have hmem : v ∈ vs := by rw [hv]; exact List.getElem_mem _
   have hbx := row_new wr 54 #[.int .i64 0, .int .i64 0, .bool false, .bool false, .bool false, .int .u64 0, .int .u64 0, .string ⟨#[]⟩, .string ⟨#[]⟩, .int .u64 0, .int .u64 0, .slice none 0 0, .slice none 0 0, .slice none 0 0, .string ⟨#[]⟩, .int .u64 0, .slice none 0 0, .int .i64 0] v.cells.toArray
   have HN5 := hid (show NBox ((wr.alloc (.cells #[.int .i64 0, .int .i64 0, .bool false, .bool false, .bool false, .int .u64 0, .int .u64 0, .string ⟨#[]⟩, .string ⟨#[]⟩, .int .u64 0, .int .u64 0, .slice none 0 0, .slice none 0 0, .slice none 0 0, .string ⟨#[]⟩, .int .u64 0, .slice none 0 0, .int .i64 0] 54)).setRow wr.heap.size v.cells.toArray) wr.heap.size v.cells.toArray v from ⟨setRow_heap _ _ _ _ _ (0, 0) (heap_alloc_new wr _), rfl⟩)
   have HC5 := hid (HC.out.keep hbx)
   have HOwn := hid (fun W (hb : Below w.heap.size w W) => Own_any P v W (NodeOk.keep (HO.out.each v hmem) hb) (HF.out v hmem))
   have HSz := hid (nv_size v)
   have HOne := hid (nv_one v)
   rw [NV.val_eq] at HOwn
   have HLen := hid (show v.cells.length = 18 from rfl)
   have HV := hid hv
   clear hrg hbl hPb hv hmem hbx HC hel
   go_upto_region 5 with (first
    | ((with_reducible refine wpList_load_mid rfl 54 _ rfl g' (j * 18) ?_ v.cells _ HRg.out Tryz.underlying54 ?_ ?_ ?_); exact rfl; exact rfl; (rw [HLen.out]; kernel_rfl))
    | ((with_reducible refine wpList_store_row rfl 54 _ _ rfl wr.heap.size v.cells.toArray ?_ ?_ 54 #[.int .i64 0, .int .i64 0, .bool false, .bool false, .bool false, .int .u64 0, .int .u64 0, .string ⟨#[]⟩, .string ⟨#[]⟩, .int .u64 0, .int .u64 0, .slice none 0 0, .slice none 0 0, .slice none 0 0, .string ⟨#[]⟩, .int .u64 0, .slice none 0 0, .int .i64 0] (heap_alloc_new wr _) HSz.out ?_ HOne.out ?_); exact rfl; exact rfl; exact rfl; generalize (wr.alloc (.cells #[.int .i64 0, .int .i64 0, .bool false, .bool false, .bool false, .int .u64 0, .int .u64 0, .string ⟨#[]⟩, .string ⟨#[]⟩, .int .u64 0, .int .u64 0, .slice none 0 0, .slice none 0 0, .slice none 0 0, .string ⟨#[]⟩, .int .u64 0, .slice none 0 0, .int .i64 0] 54)).setRow wr.heap.size v.cells.toArray = w5 at *))
   refine cl5_reg (g := w.heap.size) (gn := g') (n := c) (c := c) (j := j) (g5 := wr.heap.size) (cs := v.cells.toArray)
    (R4 := fun y W2 => y.t = v.t ∧ ClS w vs ds c Dn2 j ys ⟨some ⟨g', 0, none⟩, c, c⟩ ⟨DA2, Dn2, Dc2⟩ (.slice (some ⟨g', 0, none⟩) c c) (.slice DA2 Dn2 Dc2) W2 ∧ NodeOwn W2 (w.heap.size + 2) y)
    (R6 := fun W2 => ∃ y : NV, ClS w vs ds c Dn2 (j + 1) (ys ++ [y]) ⟨some ⟨g', 0, none⟩, c, c⟩ ⟨DA2, Dn2, Dc2⟩ (.slice (some ⟨g', 0, none⟩) c c) (.slice DA2 Dn2 Dc2) W2) rfl rfl rfl (by show 27 ≤ 29; decide) hlt (Blk.at HC5.out.bo 0) HN5.out.1 HSz.out ?_ ?_ ?_
   ·refine (HOwn.out _ (below_draw HC5.out.bel)).mono ?_
    rintro e W2 ⟨y, hy, rfl, hb, ho⟩
    exact ⟨_, rfl, y, NV.val_eq y, hy, HC5.out.keep ⟨hb.os, hb.tape, hb.output, hb.size, hb.block⟩, ho.base (by have := HC5.out.bel.size; have := HC5.out.rs.lt; exact this)⟩
   ·rintro y W2 ⟨hy, hc, ho⟩
    exact ⟨Blk.at hc.bo 0, hc.there hjv, y, hc.put y hjv (by rw [hy, HV.out]) ho⟩
   ·rintro F W2 ⟨y, hc⟩
    simp only [cl5Us, List.foldl_cons, List.foldl_nil, List.setIfInBounds_toArray, List.set_cons_zero, List.set_cons_succ]
    have HC6 := hid hc
    clear hc HC5 HN5 HOwn HRg
    go_wp2_with fail
    all_goals exact ⟨⟨j + 1, ys ++ [y], by omega, by go_num, HC6⟩, by simp [intOf]; omega⟩
  ·obtain rfl : j = n0 := by omega
   have z0 := Blk.at HC.out.bo 0
   have z1 := Blk.at HC.out.bo 1
   have z2 := Blk.at HC.out.rs 0
   have z3 := Blk.at HC.out.rs 1
   have y2 := Blk.free HC.out.rs 0
   have y3 := Blk.free HC.out.rs 1
   simp only [List.getElem?_cons_zero, List.getElem?_cons_succ] at z0 z1 z2 z3
   have HRs := hid ((HC.out.rs.put 0 (.slice A j c)).put 1 (.slice DA2 Dn2 Dc2))
   have HB := hid (below_set (below_set HC.out.bel (w.heap.size + 1) 0 (by omega) (.slice A j c)) (w.heap.size + 1) 1 (by omega) (.slice DA2 Dn2 Dc2))
   have HN := hid ((HC.out.n.set (w.heap.size + 1) 0 (by omega) (.slice A j c)).set (w.heap.size + 1) 1 (by omega) (.slice DA2 Dn2 Dc2))
   have HD := hid ((HC.out.d.set (w.heap.size + 1) 0 (by omega) (.slice A j c)).set (w.heap.size + 1) 1 (by omega) (.slice DA2 Dn2 Dc2))
   have HE := hid (fun y hy => ((HC.out.each y hy).set (w.heap.size + 1) 0 (by omega) (.slice A j c)).set (w.heap.size + 1) 1 (by omega) (.slice DA2 Dn2 Dc2))
   have HL := hid (And.intro HC.out.len HC.out.t)
   clear HC
   go_wp2_with fail
   refine bodyPost_ret (v := .agg #[.slice A j c, .slice DA2 Dn2 Dc2]) (results_cell_row (P := Tryz.prog) (fn := Tryz.f36) rfl _ _ (w.heap.size + 1) 32 #[.slice A j c, .slice DA2 Dn2 Dc2] (0, 0) _ rfl HRs.out Tryz.underlying32 rfl (by kernel_rfl)) rfl ?_
   rw [HR.out]
   have hd : vs.drop j = [] := by rw [HNn.out]; exact List.drop_length
   have hN := HN.out
   rw [hd, List.append_nil] at hN
   refine ⟨⟨ys, ds, ⟨A, j, c⟩, ⟨DA2, Dn2, Dc2⟩⟩, rfl, rfl, ?_, HB.out, HL.out.1.symm, HDn.out, hN, HD.out, HE.out⟩
   have := HL.out.2
   rw [HNn.out, List.take_length] at this
   exact this
end Go.Proofs.YtfcccfplmdjndaaGreat

/- spec: a Builder's Spec. -/
namespace Go.Proofs.YtfcccfplmdjndaaGreat
set_option linter.unusedSimpArgs false
set_option linter.unusedVariables false
open Go.RowKit

theorem own_rw {w : World} {base sz n : Nat} {T : TypeId} {v : Value} {xs : List Value} (h : w.ownsRow base T sz v n xs) : ∃ s : SV, v = s.val ∧ s.n = n ∧ Rw w (base ≤ ·) s xs := by
 obtain ⟨A, c, rfl⟩ := owns_shape h
 refine ⟨⟨A, n, c⟩, rfl, rfl, ?_⟩
 have hl := h.1
 rcases h.2 with ⟨e, hn⟩ | ⟨g, cap, cur, e, hb, hh, _⟩
 ·have hx : xs = [] := List.eq_nil_of_length_eq_zero (by rw [hl, hn]; omega)
  rw [hx]
  exact Rw.nil _ _ _
 ·injection e with e1 _ e3
  subst e1 e3
  refine ⟨fun hA => (by cases hA), fun _ => ⟨g, 0, rfl, (Array.getElem?_eq_some_iff.1 hh).1, hb, fun j hj => ?_⟩⟩
  rw [Nat.zero_add, h.cellAt j (by rw [← hl]; exact hj), List.getElem?_eq_getElem hj]
theorem BOk.ok {w : World} {pb base : Nat} {vs : List NV} {ds : List DT} {nv dv : Value} (h : BOk w pb base vs ds nv dv) : ∃ N D : SV, nv = N.val ∧ dv = D.val ∧ SpecOk w (base ≤ ·) ⟨vs, ds, N, D⟩ := by
 obtain ⟨N, hN, hn, hrn⟩ := own_rw h.rn
 obtain ⟨D, hD, hd, hrd⟩ := own_rw h.rd
 exact ⟨N, D, hN, hD, hn, hd, hrn, hrd, fun v hv => (h.each v hv).ok⟩
theorem results_row_tmp {P : Program} {fn : Func} {p u : Tmp} {ty : TypeId} (h : fn.results = #[.cell p ty, .tmp u]) (tmps : Array Value) (w : World) (g : Nat) (t : TypeId) (cs : Array Value) (fr : Nat × Nat) (d : TypeDesc)
  (hp : tmps.getD p undef = .pointer (some ⟨g, 0, none⟩)) (hg : w.heap[g]? = some (.cells cs t fr))
  (hu : P.underlying ty = some d) (hd : (match d with | .struct _ | .array _ _ => true | _ => false) = true) (hi : (P.info? ty).map (·.size) = some cs.size) :
  (results fn tmps).run P w = .ok (.tuple #[.agg cs, tmps.getD u undef]) w := by
 have hp' : tmps[p]?.getD undef = .pointer (some ⟨g, 0, none⟩) := by simpa using hp
 simp [results, h, hp', asAddr, run_loadVar_row w g t ty cs fr d hg hu hd hi]
theorem SpecOwn.set {w : World} {base : Nat} {s : SpV} (h : SpecOwn w base s) (g i : Nat) (hg : g < base) (u : Value) : SpecOwn (w.setCell ⟨g, i, none⟩ u) base s :=
 ⟨h.nn, h.dn, h.n.set g i hg u, h.d.set g i hg u, fun v hv => (h.each v hv).set g i hg u⟩
theorem SpecOwn.base {w : World} {base base' : Nat} {s : SpV} (h : SpecOwn w base s) (hb : base' ≤ base) : SpecOwn w base' s :=
 ⟨h.nn, h.dn, h.n.base hb, h.d.base hb, fun v hv => (h.each v hv).base hb⟩
end Go.Proofs.YtfcccfplmdjndaaGreat
