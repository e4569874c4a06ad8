/- spec: Own, walked. -/
import Derived.Test.YtfcccfplmdjndaaGreatSpO
namespace Go.Proofs.YtfcccfplmdjndaaGreat
set_option linter.unusedSimpArgs false
set_option linter.unusedVariables false
open Go.RowKit

def OwnPost (x : NV) (w : World) (e : Ending) (w' : World) : Prop := ∃ x' : NV, x'.t = x.t ∧ e = .returned x'.val ∧ Below w.heap.size w w' ∧ NodeOwn w' w.heap.size x'
theorem below_draw {w w' : World} {B : Nat} (h : Below B w w') : Below B w w'.drew := ⟨h.os, h.tape, h.output, h.size, h.block⟩
theorem below_set {w w' : World} {B : Nat} (h : Below B w w') (g i : Nat) (hg : B ≤ g) (u : Value) : Below B w (w'.setCell ⟨g, i, none⟩ u) :=
 ⟨h.os, h.tape, h.output, by have := h.size; simpa [World.setCell] using this, fun k hk => (Below.heap_setCell w' ⟨g, i, none⟩ u k (by simp only; omega)).trans (h.block k hk)⟩
theorem size_set (w : World) (p : Addr) (u : Value) : (w.setCell p u).heap.size = w.heap.size := by simp [World.setCell]
theorem cells_size {T : TypeId} {w : World} {cs ds : List Value} : ((w.alloc (.cells cs.toArray T)).alloc (.cells ds.toArray T)).heap.size = w.heap.size + 2 := by simp
set_option maxRecDepth 100000 in
set_option maxHeartbeats 4000000 in
theorem Own_any (P : Nat → Prop) (x : NV) (w : World) (h : NodeOk w P x) (hf : Fits x) : Calls Tryz.prog 35 #[x.val] w (OwnPost x w) := by
 obtain ⟨hA, hN⟩ := nbox_new w x
 have HA := hid (hA.alloc (by simp) (.cells nvZ.cells.toArray 54))
 have HX := hid (hN.alloc (.cells nvZ.cells.toArray 54))
 have HZ := hid (show Blk ((w.alloc (.cells x.cells.toArray 54)).alloc (.cells nvZ.cells.toArray 54)) (w.heap.size + 1) 54 nvZ.cells from by
  have := Blk.fresh (w.alloc (.cells x.cells.toArray 54)) 54 nvZ.cells
  rw [World.size_alloc] at this
  exact this)
 have HS := hid (cells_size (T := 54) (w := w) (cs := x.cells) (ds := nvZ.cells))
 have HK := hid (fun (W : World) (hb : Below w.heap.size w W) => own_int P x.K (intC x.t.ks) W (h.k.keep hb) (by rw [h.kn, intC_len, Nat.mul_one]) hf.k (ones_int _))
 have HL := hid (fun (W : World) (hb : Below w.heap.size w W) => own_bool P x.L (boolC x.t.ls) W (h.l.keep hb) (by rw [h.ln, boolC_len, Nat.mul_one]) hf.l (ones_bool _))
 have HFi := hid (fun (W : World) (hb : Below w.heap.size w W) => own_Field P x.F (flatF x.t.fs) W (h.f.keep hb) (by rw [h.fn, flatF_len]) hf.f (ones_F _))
 have HC := hid (fun (W : World) (hb : Below w.heap.size w W) => own_Case P x.C (flatC x.t.cs) W (h.c.keep hb) (by rw [h.cn, flatC_len]) hf.c (ones_C _))
 have HNs := hid (show x.K.n = x.t.ks.length ∧ x.L.n = x.t.ls.length ∧ x.F.n = x.t.fs.length ∧ x.C.n = x.t.cs.length from ⟨h.kn, h.ln, h.fn, h.cn⟩)
 unfold SV.val at HK HL HFi HC
 clear h hf hA hN
 obtain ⟨R, hR⟩ : ∃ R, R = OwnPost x w := ⟨_, rfl⟩
 have HR := hid hR
 rw [← hR]
 clear hR
 rw [NV.val_eq]
 go_enter Tryz.func35, Tryz.ntmps35
 go_upto_region 1 with (fail)
 change Code.wp _ _ _ _ ((w.alloc (.cells x.cells.toArray 54)).alloc (.cells nvZ.cells.toArray 54))
 generalize (w.alloc (.cells x.cells.toArray 54)).alloc (.cells nvZ.cells.toArray 54) = w1 at *
 have x11 := Blk.at HX.out 11
 have x12 := Blk.at HX.out 12
 have y11 := Blk.free HX.out 11
 have y12 := Blk.free HX.out 12
 simp only [NV.cells, List.getElem?_cons_succ, List.getElem?_cons_zero] at x11 x12
 go_region_with (first
  | (go_at_call 71; (skip; (with_reducible refine (HK.out _ (below_draw HA.out)).mono ?_); rintro e w2 ⟨⟨kA, kn, kc⟩, rfl, hkn, hb, hk⟩; simp only [SV.val]; have Hk := hid (OwnL.of (base := w1.heap.size) (hb := Nat.le_refl _) hkn hk); clear hk; replace hkn := hid hkn; have HG2 := hid (show w1.heap.size ≤ w2.heap.size from hb.size); have HB2 := hid (((below_draw HA.out)).trans (hb.mono ((below_draw HA.out)).size)); have hX := (Blk.drew HX.out).keep hb; have HZ2 := hid ((Blk.drew HZ.out).keep hb); have HBk := hid hb; clear hb x11 x12 y11 y12; have x11 := Blk.at hX 11; have y11 := Blk.free hX 11; have x12 := Blk.at hX 12; have y12 := Blk.free hX 12; simp only [NV.cells, List.getElem?_cons_succ, List.getElem?_cons_zero] at x11 x12; have HX2 := hid hX; clear hX))
  | (go_at_call 72; (skip; (with_reducible refine (HL.out _ HB2.out).mono ?_); rintro e w3 ⟨⟨lA, ln, lc⟩, rfl, hln, hb, hl⟩; simp only [SV.val]; have Hl := hid (OwnL.of (base := w1.heap.size) (hb := HG2.out) hln hl); clear hl; replace hln := hid hln; have HG3 := hid (show w1.heap.size ≤ w3.heap.size from Nat.le_trans HG2.out hb.size); have Hk2 := hid (Hk.out.keep hb); have HB3 := hid ((HB2.out).trans (hb.mono (HB2.out).size)); have hX := HX2.out.keep hb; have HZ3 := hid (HZ2.out.keep hb); have HBk := hid hb; clear hb x11 x12 y11 y12; have x11 := Blk.at hX 11; have y11 := Blk.free hX 11; have x12 := Blk.at hX 12; have y12 := Blk.free hX 12; simp only [NV.cells, List.getElem?_cons_succ, List.getElem?_cons_zero] at x11 x12; have HX3 := hid hX; clear hX)))
 all_goals
  have HX4 := hid (show Blk ((w3.setCell ⟨w.heap.size, 11, none⟩ (.slice kA kn kc)).setCell ⟨w.heap.size, 12, none⟩ (.slice lA ln lc)) w.heap.size 54 (NV.cells ⟨x.t, ⟨kA, kn, kc⟩, ⟨lA, ln, lc⟩, x.F, x.C⟩) from (Blk.put (Blk.put HX3.out 11 _) 12 _))
  have HZ4 := hid ((HZ3.out.other (p := ⟨w.heap.size, 11, none⟩) (by simp) (.slice kA kn kc)).other (p := ⟨w.heap.size, 12, none⟩) (by simp) (.slice lA ln lc))
  have HB4 := hid (below_set (below_set HB3.out w.heap.size 11 (Nat.le_refl _) (.slice kA kn kc)) w.heap.size 12 (Nat.le_refl _) (.slice lA ln lc))
  have hlt : w.heap.size < w1.heap.size := by rw [HS.out]; omega
  have Hk4 := hid ((Hk2.out.set w.heap.size 11 hlt (.slice kA kn kc)).set w.heap.size 12 hlt (.slice lA ln lc))
  have Hl4 := hid ((Hl.out.set w.heap.size 11 hlt (.slice kA kn kc)).set w.heap.size 12 hlt (.slice lA ln lc))
  have HG4 := hid (show w1.heap.size ≤ ((w3.setCell ⟨w.heap.size, 11, none⟩ (.slice kA kn kc)).setCell ⟨w.heap.size, 12, none⟩ (.slice lA ln lc)).heap.size by rw [size_set, size_set]; exact HG3.out)
  clear x11 x12 y11 y12 HX HX2 HX3 HZ HZ2 HZ3 HBk Hk Hk2 Hl hlt HG2 HG3 HK HL HB2 HB3
  generalize (w3.setCell ⟨w.heap.size, 11, none⟩ (.slice kA kn kc)).setCell ⟨w.heap.size, 12, none⟩ (.slice lA ln lc) = w4 at *
  have x13 := Blk.at HX4.out 13
  have x16 := Blk.at HX4.out 16
  have y13 := Blk.free HX4.out 13
  have y16 := Blk.free HX4.out 16
  simp only [NV.cells, List.getElem?_cons_succ, List.getElem?_cons_zero] at x13 x16
  go_upto_region 2 with (fail)
  go_region_with (first
   | (go_at_call 73; (with_reducible refine (HFi.out _ (below_draw HB4.out)).mono ?_); rintro e w5 ⟨⟨fA, fn, fc⟩, rfl, hfn, hb, hf⟩; simp only [SV.val]; have Hf := hid (OwnL.of (base := w1.heap.size) (hb := HG4.out) hfn hf); clear hf; replace hfn := hid hfn; have HG5 := hid (show w1.heap.size ≤ w5.heap.size from Nat.le_trans HG4.out hb.size); have HB5 := hid (((below_draw HB4.out)).trans (hb.mono ((below_draw HB4.out)).size)); have hX := (Blk.drew HX4.out).keep hb; have HZ5 := hid ((Blk.drew HZ4.out).keep hb); have Hk5 := hid ((OwnL.drew Hk4.out).keep hb); have Hl5 := hid ((OwnL.drew Hl4.out).keep hb); have HBk := hid hb; clear hb x13 x16 y13 y16; have x13 := Blk.at hX 13; have y13 := Blk.free hX 13; have x16 := Blk.at hX 16; have y16 := Blk.free hX 16; simp only [NV.cells, List.getElem?_cons_succ, List.getElem?_cons_zero] at x13 x16; have HX5 := hid hX; clear hX)
   | (go_at_call 74; (with_reducible refine (HC.out _ HB5.out).mono ?_); rintro e w6 ⟨⟨cA, cn, cc⟩, rfl, hcn, hb, hc⟩; simp only [SV.val]; have Hc := hid (OwnL.of (base := w1.heap.size) (hb := HG5.out) hcn hc); clear hc; replace hcn := hid hcn; have HB6 := hid ((HB5.out).trans (hb.mono (HB5.out).size)); have hX := HX5.out.keep hb; have HZ6 := hid (HZ5.out.keep hb); have Hk6 := hid (Hk5.out.keep hb); have Hl6 := hid (Hl5.out.keep hb); have Hf6 := hid (Hf.out.keep hb); have HBk := hid hb; clear hb x13 x16 y13 y16; have x13 := Blk.at hX 13; have y13 := Blk.free hX 13; have x16 := Blk.at hX 16; have y16 := Blk.free hX 16; simp only [NV.cells, List.getElem?_cons_succ, List.getElem?_cons_zero] at x13 x16; have HX6 := hid hX; clear hX))
  all_goals
   obtain ⟨x', hx'⟩ : ∃ x' : NV, x' = ⟨x.t, ⟨kA, kn, kc⟩, ⟨lA, ln, lc⟩, ⟨fA, fn, fc⟩, ⟨cA, cn, cc⟩⟩ := ⟨_, rfl⟩
   have HX7 := hid (show Blk ((w6.setCell ⟨w.heap.size, 13, none⟩ (.slice fA fn fc)).setCell ⟨w.heap.size, 16, none⟩ (.slice cA cn cc)) w.heap.size 54 x'.cells from by rw [hx']; exact (Blk.put (Blk.put HX6.out 13 _) 16 _))
   have HZ7 := hid ((HZ6.out.other (p := ⟨w.heap.size, 13, none⟩) (by simp) (.slice fA fn fc)).other (p := ⟨w.heap.size, 16, none⟩) (by simp) (.slice cA cn cc))
   have HB7 := hid (below_set (below_set HB6.out w.heap.size 13 (Nat.le_refl _) (.slice fA fn fc)) w.heap.size 16 (Nat.le_refl _) (.slice cA cn cc))
   have hlt : w.heap.size < w1.heap.size := by rw [HS.out]; omega
   have HO7 := hid (show NodeOwn ((w6.setCell ⟨w.heap.size, 13, none⟩ (.slice fA fn fc)).setCell ⟨w.heap.size, 16, none⟩ (.slice cA cn cc)) w1.heap.size x' from by
    rw [hx']
    exact ⟨hkn.out.trans HNs.out.1, hln.out.trans HNs.out.2.1, hfn.out.trans HNs.out.2.2.1, hcn.out.trans HNs.out.2.2.2,
     (Hk6.out.set _ 13 hlt _).set _ 16 hlt _, (Hl6.out.set _ 13 hlt _).set _ 16 hlt _, (Hf6.out.set _ 13 hlt _).set _ 16 hlt _, (Hc.out.set _ 13 hlt _).set _ 16 hlt _⟩)
   replace hx' := hid hx'
   clear hlt
   generalize (w6.setCell ⟨w.heap.size, 13, none⟩ (.slice fA fn fc)).setCell ⟨w.heap.size, 16, none⟩ (.slice cA cn cc) = w7 at *
   clear x13 x16 y13 y16
   go_wp2_with (first
    | refine wpList_load_row rfl 54 _ rfl w.heap.size rfl 54 x'.cells.toArray (0, 0) _ HX7.out Tryz.underlying54 rfl (nv_size _) ?_
    | (refine wpList_store_row rfl 54 _ _ rfl (w.heap.size + 1) x'.cells.toArray ?_ ?_ 54 nvZ.cells.toArray HZ7.out (nv_size _) ?_ (nv_one _) ?_; exact rfl; exact rfl; exact rfl))
   rw [HR.out]
   refine bodyPost_ret (v := x'.val) (results_cell_row (P := Tryz.prog) (fn := Tryz.f35) rfl _ _ (w.heap.size + 1) 54 x'.cells.toArray (0, 0) _ rfl (setRow_heap _ _ _ _ _ (0, 0) HZ7.out) Tryz.underlying54 rfl (nv_size _)) rfl ⟨x', by rw [hx'.out], rfl, below_row HB7.out (by omega) _, ?_⟩
   have hlt : w.heap.size + 1 < w1.heap.size := by rw [HS.out]; omega
   exact (HO7.out.row (w.heap.size + 1) hlt _).base (by omega)
end Go.Proofs.YtfcccfplmdjndaaGreat
