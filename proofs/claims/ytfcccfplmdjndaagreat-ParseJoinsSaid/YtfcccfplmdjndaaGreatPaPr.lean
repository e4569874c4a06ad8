/- parse: Parse. -/
import Derived.Test.YtfcccfplmdjndaaGreatPaSc
namespace Go.Proofs.YtfcccfplmdjndaaGreat
set_option linter.unusedSimpArgs false
set_option linter.unusedVariables false
open Go.RowKit

variable {w w' w0 : World} {O O0 O' : Nat → Prop} {g : Nat} {L : List Tk} {s s' : RS}
theorem results_cell_cell {P : Program} {fn : Func} {p q : Tmp} {ty ty2 : TypeId} (h : fn.results = #[.cell p ty, .cell q ty2]) (tmps : Array Value) (w : World) (g g2 : Nat) (t t2 : TypeId) (cs cs2 : Array Value) (fr fr2 : Nat × Nat) (d d2 : TypeDesc)
  (hp : tmps.getD p undef = .pointer (some ⟨g, 0, none⟩)) (hg : w.heap[g]? = some (.cells cs t fr))
  (hu : P.underlying ty = some d) (hd : (match d with | .struct _ | .array _ _ => true | _ => false) = true) (hi : (P.info? ty).map (·.size) = some cs.size)
  (hp2 : tmps.getD q undef = .pointer (some ⟨g2, 0, none⟩)) (hg2 : w.heap[g2]? = some (.cells cs2 t2 fr2))
  (hu2 : P.underlying ty2 = some d2) (hd2 : (match d2 with | .struct _ | .array _ _ => true | _ => false) = true) (hi2 : (P.info? ty2).map (·.size) = some cs2.size) :
  (results fn tmps).run P w = .ok (.tuple #[.agg cs, .agg cs2]) w := by
 have hp' : tmps[p]?.getD undef = .pointer (some ⟨g, 0, none⟩) := by simpa using hp
 have hp2' : tmps[q]?.getD undef = .pointer (some ⟨g2, 0, none⟩) := by simpa using hp2
 simp [results, h, hp', hp2', asAddr, run_loadVar_row w g t ty cs fr d hg hu hd hi, run_loadVar_row w g2 t2 ty2 cs2 fr2 d2 hg2 hu2 hd2 hi2]
def LenOk (vs : List NV) : Prop := ∀ v ∈ vs, (v.K.n = v.t.ks.length ∧ v.L.n = v.t.ls.length ∧ v.F.n = v.t.fs.length ∧ v.C.n = v.t.cs.length) ∧ Fits v
def PsR (x : Except (Nat × Nat) (List Tk)) (w : World) (e : Ending) (w' : World) : Prop := Below w.heap.size w w' ∧ match x with
 | .error (c, p) => e = .returned (.tuple #[.agg #[.slice none 0 0, .slice none 0 0], .agg #[.int .i64 (c : Int), .int .i64 (p : Int)]])
 | .ok ts => if (parseL (stripT ts)).fc ≠ 0 then e = .returned (.tuple #[.agg #[.slice none 0 0, .slice none 0 0], .agg #[.int .i64 ((parseL (stripT ts)).fc : Int), .int .i64 (placeL ts (parseL (stripT ts)).fi : Int)]])
  else ∃ vs : List NV, vs.map NV.t = (parseL (stripT ts)).ns ∧ LenOk vs ∧ vs.length ≤ 2048 ∧ (parseL (stripT ts)).ds.length ≤ 64 ∧ ((ckS vs (parseL (stripT ts)).ds ≠ 0 ∧ e = .returned (.tuple #[.agg #[.slice none 0 0, .slice none 0 0], .agg #[.int .i64 (ckS vs (parseL (stripT ts)).ds : Nat), .int .i64 0]])) ∨ (ckS vs (parseL (stripT ts)).ds = 0 ∧ ∃ s' : SpV, e = .returned (.tuple #[s'.val, .agg #[.int .i64 0, .int .i64 0]]) ∧ s'.ds = (parseL (stripT ts)).ds ∧ s'.ts = (parseL (stripT ts)).ns ∧ SpecOwn w' w.heap.size s'))
structure Two2 (w0 w : World) (b2 b3 : Nat) (c2 c3 : List Value) : Prop where
 x : Blk w b2 32 c2
 y : Blk w b3 26 c3
 b : Below w0.heap.size w0 w
 l2 : w0.heap.size ≤ b2
 l3 : w0.heap.size ≤ b3
theorem Two2.ne {b2 b3 : Nat} {c2 c3 : List Value} (h : Two2 w0 w b2 b3 c2 c3) : b2 ≠ b3 := by
 intro e
 have hx := h.x
 rw [e] at hx
 have := blk_type hx h.y
 revert this
 decide
theorem Two2.sx {b2 b3 : Nat} {c2 c3 : List Value} (h : Two2 w0 w b2 b3 c2 c3) (i : Nat) (u : Value) : Two2 w0 (w.setCell ⟨b2, i, none⟩ u) b2 b3 (c2.set i u) c3 :=
 ⟨h.x.put i u, h.y.other (p := ⟨b2, i, none⟩) (fun e => h.ne e.symm) u, below_set h.b b2 i h.l2 u, h.l2, h.l3⟩
theorem Two2.sy {b2 b3 : Nat} {c2 c3 : List Value} (h : Two2 w0 w b2 b3 c2 c3) (i : Nat) (u : Value) : Two2 w0 (w.setCell ⟨b3, i, none⟩ u) b2 b3 c2 (c3.set i u) :=
 ⟨h.x.other (p := ⟨b3, i, none⟩) h.ne u, h.y.put i u, below_set h.b b3 i h.l3 u, h.l2, h.l3⟩
theorem Two2.keep {b2 b3 : Nat} {c2 c3 : List Value} (h : Two2 w0 w b2 b3 c2 c3) (hb : Below w.heap.size w w') : Two2 w0 w' b2 b3 c2 c3 :=
 ⟨h.x.keep hb, h.y.keep hb, h.b.trans (hb.mono h.b.size), h.l2, h.l3⟩
theorem owns_some {base sz n : Nat} {T : TypeId} {v : Value} {xs : List Value} (h : w.ownsRow base T sz v n xs) (hn : 0 < n) : ∃ bt cap cs, v = .slice (some ⟨bt, 0, none⟩) n cap ∧ base ≤ bt ∧ Blk w bt T cs ∧ n ≤ cap := by
 rcases h.2 with ⟨_, h0⟩ | ⟨g, cap, cur, hv, hb, hg, hnc, _⟩
 ·omega
 ·exact ⟨g, cap, cur.toList, hv, hb, by unfold Blk; simpa using hg, hnc⟩
theorem rest_all (L : List Tk) : restL L L.length = L := by unfold restL; simp
theorem place_0 (L : List Tk) : placeL L 0 = 0 := by unfold placeL restL; simp
theorem bt_rd : BT 72 := by
 refine ⟨by decide, by decide, ?_⟩
 rintro (h | h | h | h) <;> revert h <;> decide
theorem rd_start {g bt cap : Nat} {ts : List Tk} (hB : Blk w g 72 [.slice (some ⟨bt, 0, none⟩) ts.length cap, .slice none 0 0, .slice none 0 0, .int .i64 0, .int .i64 0, .int .i64 0]) (hr : RdK w (some ⟨bt, 0, none⟩) ts) (hbt : ∃ cs, Blk w bt 70 cs) (hpos : 0 < ts.length) (hl : ts.length ≤ 8193) (hx : ∀ t ∈ ts, t.x.length ≤ 65536) (hcap : ts.length ≤ cap) : RdX w (fun k => k = g ∨ k = bt) g ts (startS (stripT ts)) := by
 have e1 : (startS (stripT ts)).ts.length = ts.length := by simp [startS, stripT]
 have e2 : rdCells ts (some ⟨bt, 0, none⟩) cap (.slice none 0 0) (.slice none 0 0) (startS (stripT ts)) = [.slice (some ⟨bt, 0, none⟩) ts.length cap, .slice none 0 0, .slice none 0 0, .int .i64 0, .int .i64 0, .int .i64 0] := by
  unfold rdCells
  rw [e1]
  show [_, _, _, _, _, Value.int .i64 (placeL ts 0 : Int)] = _
  rw [place_0]
  rfl
 refine ⟨some ⟨bt, 0, none⟩, cap, [], .slice none 0 0, .slice none 0 0, ?_, rfl, fun v hv => (by cases hv), ?_, ?_, ?_, ?_, ?_, ?_, ?_, ?_, hx, by simp, by show 0 ≤ 64; omega⟩
 ·refine BO.new w _ 72 _ g 1 bt_rd (by rw [e2]; exact hB) rfl rfl (.inl rfl) (fun b hb => ?_)
  rcases hb with rfl | rfl
  ·exact hB.lt
  ·obtain ⟨cs, h⟩ := hbt; exact h.lt
 ·rw [e1, rest_all]; exact hr
 ·intro a e; injection e with e; subst e; exact .inr rfl
 ·intro a e; injection e with e; subst e; exact hbt
 ·rw [e1, rest_all]; rfl
 ·rw [e1]; exact hpos
 ·rw [e1]; exact Nat.le_refl _
 ·rw [e1]; exact hcap
 ·omega
theorem end_start {ts : List Tk} (h : ∃ k t, ts = k ++ [t] ∧ t.k = 5) : EndS (startS (stripT ts)) := by
 obtain ⟨k, t, rfl, h5⟩ := h
 exact ⟨stripT k, (t.k, t.x), by simp [startS, stripT], h5⟩
theorem SpecOwn.keep9 {base : Nat} {x : SpV} (h : SpecOwn w base x) (hb : Below w.heap.size w w') : SpecOwn w' base x :=
 ⟨h.nn, h.dn, h.n.keep hb, h.d.keep hb, fun v hv => (h.each v hv).keep hb⟩
theorem Chg.noneB (h : Chg w w' (fun _ => False)) : Below w.heap.size w w' := ⟨h.os, h.tape, h.output, h.size, fun k hk => h.block k hk (fun h => h)⟩
set_option maxRecDepth 100000 in
set_option maxHeartbeats 8000000 in
theorem parse_any (s : ByteArray) (w : World) : Calls Tryz.prog 8 #[.string s] w (PsR (scanT s.data.toList) w) := by
 obtain ⟨R, hR⟩ : ∃ R, R = scanT s.data.toList := ⟨_, rfl⟩
 rw [← hR]
 have HRr := hid hR
 obtain ⟨Q, hQ⟩ : ∃ Q : Ending → World → Prop, Q = PsR R w := ⟨_, rfl⟩
 rw [← hQ]
 have HQ := hid hQ
 have HSc := hid (fun w1 : World => scan_any s w1)
 rw [← hR] at HSc
 clear hR hQ
 have hb := ((Below.refl w.heap.size w).alloc (Nat.le_refl _) (.cells #[.slice none 0 0, .slice none 0 0] 32)).alloc (by simp) (.cells #[.int .i64 0, .int .i64 0] 26)
 have h2 : Blk ((w.alloc (.cells #[.slice none 0 0, .slice none 0 0] 32)).alloc (.cells #[.int .i64 0, .int .i64 0] 26)) w.heap.size 32 [.slice none 0 0, .slice none 0 0] := (((Below.refl (w.alloc (.cells #[.slice none 0 0, .slice none 0 0] 32)).heap.size _).alloc (Nat.le_refl _) (.cells #[.int .i64 0, .int .i64 0] 26)).block _ (by simp)).trans (heap_alloc_new w _)
 have hsz : (w.alloc (.cells #[.slice none 0 0, .slice none 0 0] 32)).heap.size = w.heap.size + 1 := by simp
 have h3 : Blk ((w.alloc (.cells #[.slice none 0 0, .slice none 0 0] 32)).alloc (.cells #[.int .i64 0, .int .i64 0] 26)) (w.alloc (.cells #[.slice none 0 0, .slice none 0 0] 32)).heap.size 26 [.int .i64 0, .int .i64 0] := heap_alloc_new _ _
 rw [hsz] at h3
 have HT := hid (show Two2 w _ w.heap.size (w.heap.size + 1) [.slice none 0 0, .slice none 0 0] [.int .i64 0, .int .i64 0] from ⟨h2, h3, hb, Nat.le_refl _, Nat.le_succ _⟩)
 clear hb h2 h3 hsz
 go_enter Tryz.func8, Tryz.ntmps8
 go_upto_region 1 with fail
 generalize (w.alloc (.cells #[.slice none 0 0, .slice none 0 0] 32)).alloc (.cells #[.int .i64 0, .int .i64 0] 26) = w1 at *
 have HC := hid (HSc.out w1)
 clear HSc
 rcases R with ⟨c, p⟩ | ts
 ·unfold ScanR at HC
  simp only at HC
  go_upto_region 2 with (go_at_call 7; (with_reducible refine HC.out.mono ?_); rintro e wk ⟨hb, rfl⟩; have HB := hid hb; clear hb HC; (try unfold faultC))
  have hc0 : c ≠ 0 := scanT_err HRr.out.symm
  have hT2 := HT.out.keep HB.out
  have hT3 := hT2.keep (al_below wk (.cells #[.int .i64 (c : Int), .int .i64 (p : Int)] 26))
  have h5 : Blk (wk.alloc (.cells #[.int .i64 (c : Int), .int .i64 (p : Int)] 26)) wk.heap.size 26 [.int .i64 (c : Int), .int .i64 (p : Int)] := heap_alloc_new wk _
  have n2 : wk.heap.size ≠ w.heap.size := by have := hT2.x.lt; omega
  have n3 : wk.heap.size ≠ w.heap.size + 1 := by have := hT2.y.lt; omega
  obtain ⟨b5, hb5⟩ : ∃ b, b = wk.heap.size := ⟨_, rfl⟩
  rw [← hb5] at h5 n2 n3
  simp only [← hb5]
  have HT3 := hid hT3
  clear hT2 hT3 HT HB hb5
  generalize wk.alloc (.cells #[.int .i64 (c : Int), .int .i64 (p : Int)] 26) = w2 at *
  have z5_0 : _ = some ((.int .i64 (c : Int) : Value)) := Blk.at h5 0
  have z5_1 : _ = some ((.int .i64 (p : Int) : Value)) := Blk.at h5 1
  have hcb : ((c : Int) != 0) = true := by simpa using (show ¬ (c : Int) = 0 by omega)
  have z2_0 : _ = some ((.slice none 0 0 : Value)) := Blk.at HT3.out.x 0
  have z2_1 : _ = some ((.slice none 0 0 : Value)) := Blk.at HT3.out.x 1
  have y2_0 := Blk.free HT3.out.x 0
  have y2_1 := Blk.free HT3.out.x 1
  have z3_0 : _ = some ((.int .i64 0 : Value)) := Blk.at HT3.out.y 0
  have z3_1 : _ = some ((.int .i64 0 : Value)) := Blk.at HT3.out.y 1
  have y3_0 := Blk.free HT3.out.y 0
  have y3_1 := Blk.free HT3.out.y 1
  clear h5
  go_wp2_with fail
  go_region
  have HTF := hid (((((HT3.out.sx 0 (.slice none 0 0)).sx 1 (.slice none 0 0)).sy 0 (.int .i64 (c : Int))).sy 1 (.int .i64 (p : Int))).keep (w' := ((((w2.setCell ⟨w.heap.size, 0, none⟩ (.slice none 0 0)).setCell ⟨w.heap.size, 1, none⟩ (.slice none 0 0)).setCell ⟨w.heap.size + 1, 0, none⟩ (.int .i64 (c : Int))).setCell ⟨w.heap.size + 1, 1, none⟩ (.int .i64 (p : Int))).drew) ⟨rfl, rfl, rfl, Nat.le_refl _, fun _ _ => rfl⟩)
  clear z5_0 z5_1 z2_0 z2_1 y2_0 y2_1 z3_0 z3_1 y3_0 y3_1 HT3
  generalize ((((w2.setCell ⟨w.heap.size, 0, none⟩ (.slice none 0 0)).setCell ⟨w.heap.size, 1, none⟩ (.slice none 0 0)).setCell ⟨w.heap.size + 1, 0, none⟩ (.int .i64 (c : Int))).setCell ⟨w.heap.size + 1, 1, none⟩ (.int .i64 (p : Int))).drew = w9 at *
  go_wp2_with fail
  refine bodyPost_ret (v := .tuple #[.agg #[.slice none 0 0, .slice none 0 0], .agg #[.int .i64 (c : Int), .int .i64 (p : Int)]]) (results_cell_cell (P := Tryz.prog) (fn := Tryz.f8) rfl _ _ w.heap.size (w.heap.size + 1) 32 26 #[.slice none 0 0, .slice none 0 0] #[.int .i64 (c : Int), .int .i64 (p : Int)] (0, 0) (0, 0) _ _ rfl HTF.out.x Tryz.underlying32 rfl (by kernel_rfl) rfl HTF.out.y Tryz.underlying26 rfl (by kernel_rfl)) rfl ?_
  rw [HQ.out]
  exact ⟨HTF.out.b, rfl⟩
 ·unfold ScanR at HC
  simp only at HC
  obtain ⟨hend, hl9, hx9⟩ := scanT_fits HRr.out.symm
  have hpos : 0 < ts.length := by obtain ⟨k, t, e, _⟩ := hend; rw [e]; simp
  have HEd := hid (end_start hend)
  have HFt := hid (And.intro hpos (And.intro hl9 hx9))
  clear hend hl9 hx9 hpos
  go_upto_region 2 with (go_at_call 7; (with_reducible refine HC.out.mono ?_); rintro e wk ⟨hb, v, rfl, hown⟩; obtain ⟨bt, cap, ct, rfl, hbt, hBt, hcap⟩ := owns_some hown HFt.out.1; have HB := hid hb; have HOw := hid hown; have HBt := hid (And.intro hbt (And.intro hBt hcap)); clear hb HC hown hbt hBt hcap; (try unfold faultC))
  have hT2 := HT.out.keep HB.out
  have hT3 := hT2.keep (al_below wk (.cells #[.int .i64 0, .int .i64 0] 26))
  have h5 : Blk (wk.alloc (.cells #[.int .i64 0, .int .i64 0] 26)) wk.heap.size 26 [.int .i64 0, .int .i64 0] := heap_alloc_new wk _
  have hRk : RdK (wk.alloc (.cells #[.int .i64 0, .int .i64 0] 26)) (some ⟨bt, 0, none⟩) ts := (RdK.of_own HOw.out rfl).keep (al_below wk _)
  have hBt2 := HBt.out.2.1.keep (al_below wk (.cells #[.int .i64 0, .int .i64 0] 26))
  have hsz : (wk.alloc (.cells #[.int .i64 0, .int .i64 0] 26)).heap.size = wk.heap.size + 1 := by simp
  have hw1 : w.heap.size ≤ w1.heap.size := HT.out.b.size
  have hwk : w1.heap.size ≤ wk.heap.size := HB.out.size
  have hbl : bt < wk.heap.size := HBt.out.2.1.lt
  have hbg : w.heap.size + 2 ≤ bt := by have h1 := HBt.out.1; have h2 := HT.out.y.lt; omega
  obtain ⟨b5, hb5⟩ : ∃ b, b = wk.heap.size := ⟨_, rfl⟩
  rw [← hb5] at h5 hsz hbl
  simp only [← hb5]
  have HT3 := hid hT3
  have H5 := hid h5
  have HRk := hid hRk
  have HBt2 := hid hBt2
  have HBg := hid (And.intro hbg hbl)
  have HCap := hid HBt.out.2.2
  have z5_0 : _ = some ((.int .i64 0 : Value)) := Blk.at h5 0
  clear hT2 hT3 HT HB hb5 h5 hRk hBt2 hw1 hwk hbl hbg HBt HOw
  generalize wk.alloc (.cells #[.int .i64 0, .int .i64 0] 26) = w2 at *
  have HSz := hid hsz
  clear hsz
  go_upto_region 5 with fail
  clear z5_0
  have h6 : Blk (w2.alloc (.cells #[.slice (some ⟨bt, 0, none⟩) ts.length cap, .slice none 0 0, .slice none 0 0, .int .i64 0, .int .i64 0, .int .i64 0] 72)) w2.heap.size 72 [.slice (some ⟨bt, 0, none⟩) ts.length cap, .slice none 0 0, .slice none 0 0, .int .i64 0, .int .i64 0, .int .i64 0] := heap_alloc_new w2 _
  have hal := al_below w2 (.cells #[.slice (some ⟨bt, 0, none⟩) ts.length cap, .slice none 0 0, .slice none 0 0, .int .i64 0, .int .i64 0, .int .i64 0] 72)
  have hbs := HT3.out.b.size
  have hA3 := rd_start h6 (HRk.out.keep hal) ⟨_, HBt2.out.keep hal⟩ HFt.out.1 HFt.out.2.1 HFt.out.2.2 HCap.out
  obtain ⟨b6, hb6⟩ : ∃ b, b = w2.heap.size := ⟨_, rfl⟩
  have hl2 := HT3.out.x.lt
  have hl3 := HT3.out.y.lt
  rw [← hb6] at h6 hA3 hbs hl2 hl3
  simp only [← hb6]
  have HA := hid (show At w (fun _ => False) b6 ts (w2.alloc (.cells #[.slice (some ⟨bt, 0, none⟩) ts.length cap, .slice none 0 0, .slice none 0 0, .int .i64 0, .int .i64 0, .int .i64 0] 72)) (fun k => k = b6 ∨ k = bt) (startS (stripT ts)) from ⟨hA3, Chg.of_below (HT3.out.b.trans (hal.mono HT3.out.b.size)) _, fun b hb => .inr (by have := HBg.out.1; rcases hb with rfl | rfl <;> omega)⟩)
  have HX2 := hid (show Bx w (w2.alloc (.cells #[.slice (some ⟨bt, 0, none⟩) ts.length cap, .slice none 0 0, .slice none 0 0, .int .i64 0, .int .i64 0, .int .i64 0] 72)) (fun k => k = b6 ∨ k = bt) w.heap.size 32 [.slice none 0 0, .slice none 0 0] from ⟨HT3.out.x.keep hal, by have := HBg.out.1; omega, Nat.le_refl _⟩)
  have HX3 := hid (show Bx w (w2.alloc (.cells #[.slice (some ⟨bt, 0, none⟩) ts.length cap, .slice none 0 0, .slice none 0 0, .int .i64 0, .int .i64 0, .int .i64 0] 72)) (fun k => k = b6 ∨ k = bt) (w.heap.size + 1) 26 [.int .i64 0, .int .i64 0] from ⟨HT3.out.y.keep hal, by have := HBg.out.1; omega, Nat.le_succ _⟩)
  clear h6 hal hbs hA3 hl2 hl3 hb6 HT3 H5 HRk HBt2 HBg HSz HCap
  generalize w2.alloc (.cells #[.slice (some ⟨bt, 0, none⟩) ts.length cap, .slice none 0 0, .slice none 0 0, .int .i64 0, .int .i64 0, .int .i64 0] 72) = w3 at *
  have HC := hid (show Calls Tryz.prog 22 #[.pointer (some ⟨b6, 0, none⟩)] w3 (fun e w' => e = .returned (.tuple #[]) ∧ StG w3 _ b6 ts (parseL (stripT ts)) w') from names_any (stripT ts).length (by have := HFt.out.2.1; simp [stripT]; omega) HA.out.rd HEd.out (Nat.le_refl _))
  have HRz := hid (show Q = PsR (.ok ts) w from HQ.out)
  unfold PsR at HRz
  simp only at HRz
  obtain ⟨r, hr⟩ : ∃ r, r = parseL (stripT ts) := ⟨_, rfl⟩
  rw [← hr] at HC HRz
  clear hr HQ HEd HFt HRr
  go_upto_region 6 with (go_at_call 22; (with_reducible refine HC.out.mono ?_); rintro e wk ⟨rfl, hk⟩; obtain ⟨Ok, ha, hc, hn⟩ := At.call2 HA.out hk; replace HA := hid ha; replace HX2 := hid (HX2.out.call2 hc hn); replace HX3 := hid (HX3.out.call2 hc hn); clear hk ha hc hn; clear HC)
  obtain ⟨A6, c6, vs, nv, dv, hro⟩ := HA.out.rd
  have HRo := hid hro
  have z6_4 := hro.c4
  have z6_5 := hro.c5
  clear hro
  by_cases hfc : r.fc = 0
  ·have hcb : ((r.fc : Int) != 0) = false := by rw [hfc]; rfl
   have hcb2 : ((r.fc : Int) == 0) = true := by rw [hfc]; rfl
   have HFc := hid hfc
   have HC := hid (Spec_any_ HRo.out.bo HRo.out.fit HRo.out.nn HRo.out.dn)
   have HNs := hid HRo.out.ns
   have HLk := hid (show LenOk vs ∧ vs.length ≤ 2048 ∧ r.ds.length ≤ 64 from ⟨fun v hv => ⟨⟨(HRo.out.bo.each v hv).kn, (HRo.out.bo.each v hv).ln, (HRo.out.bo.each v hv).fn, (HRo.out.bo.each v hv).cn⟩, HRo.out.fit v hv⟩, HRo.out.nn, HRo.out.dn⟩)
   have HT3 := hid (show Two2 w wk w.heap.size (w.heap.size + 1) [.slice none 0 0, .slice none 0 0] [.int .i64 0, .int .i64 0] from ⟨HX2.out.blk, HX3.out.blk, HA.out.ch.noneB, HX2.out.ge, HX3.out.ge⟩)
   obtain ⟨ck, hck⟩ : ∃ k, k = ckS vs r.ds := ⟨_, rfl⟩
   rw [← hck] at HC
   have HCk := hid hck
   clear hck hfc HX2 HX3 HA HRo
   by_cases hk0 : ck = 0
   ·have HK0 := hid hk0
    clear hk0
    go_upto_region 9 with (go_at_call 17; (with_reducible refine HC.out.mono ?_); rintro e wn ⟨hb, hh⟩; rcases hh with ⟨h0, _⟩ | ⟨_, s', rfl, hs1, hs2, hs3⟩; (exact absurd HK0.out h0); have HB := hid hb; have HS' := hid (And.intro hs1 (And.intro hs2 hs3)); clear hb hs1 hs2 hs3 HC; (try unfold SpV.val); (try dsimp only))
    clear z6_4 z6_5
    have hT4 := (HT3.out.keep HB.out).keep (al_below wn (.cells #[.slice s'.N.A s'.N.n s'.N.c, .slice s'.D.A s'.D.n s'.D.c] 32))
    have h7 : Blk (wn.alloc (.cells #[.slice s'.N.A s'.N.n s'.N.c, .slice s'.D.A s'.D.n s'.D.c] 32)) wn.heap.size 32 [.slice s'.N.A s'.N.n s'.N.c, .slice s'.D.A s'.D.n s'.D.c] := heap_alloc_new wn _
    have n2 : wn.heap.size ≠ w.heap.size := by have := HT3.out.x.lt; have := HB.out.size; omega
    have n3 : wn.heap.size ≠ w.heap.size + 1 := by have := HT3.out.y.lt; have := HB.out.size; omega
    have HL2 := hid HT3.out.x.lt
    have HL3 := hid HT3.out.y.lt
    have HSo := hid (HS'.out.2.2.keep9 (al_below wn (.cells #[.slice s'.N.A s'.N.n s'.N.c, .slice s'.D.A s'.D.n s'.D.c] 32)))
    obtain ⟨b7, hb7⟩ : ∃ b, b = wn.heap.size := ⟨_, rfl⟩
    rw [← hb7] at h7 n2 n3
    simp only [← hb7]
    have HT5 := hid hT4
    clear hb7 hT4 HT3 HB
    generalize wn.alloc (.cells #[.slice s'.N.A s'.N.n s'.N.c, .slice s'.D.A s'.D.n s'.D.c] 32) = w5 at *
    have z7_0 : _ = some ((.slice s'.N.A s'.N.n s'.N.c : Value)) := Blk.at h7 0
    have z7_1 : _ = some ((.slice s'.D.A s'.D.n s'.D.c : Value)) := Blk.at h7 1
    have z2_0 : _ = some ((.slice none 0 0 : Value)) := Blk.at HT5.out.x 0
    have z2_1 : _ = some ((.slice none 0 0 : Value)) := Blk.at HT5.out.x 1
    have y2_0 := Blk.free HT5.out.x 0
    have y2_1 := Blk.free HT5.out.x 1
    have z3_0 : _ = some ((.int .i64 0 : Value)) := Blk.at HT5.out.y 0
    have z3_1 : _ = some ((.int .i64 0 : Value)) := Blk.at HT5.out.y 1
    have y3_0 := Blk.free HT5.out.y 0
    have y3_1 := Blk.free HT5.out.y 1
    clear h7
    go_wp2_with fail
    have HTF := hid ((((HT5.out.sx 0 (.slice s'.N.A s'.N.n s'.N.c)).sx 1 (.slice s'.D.A s'.D.n s'.D.c)).sy 0 (.int .i64 0)).sy 1 (.int .i64 0))
    refine bodyPost_ret (w := ((((w5.setCell ⟨w.heap.size, 0, none⟩ (.slice s'.N.A s'.N.n s'.N.c)).setCell ⟨w.heap.size, 1, none⟩ (.slice s'.D.A s'.D.n s'.D.c)).setCell ⟨w.heap.size + 1, 0, none⟩ (.int .i64 0)).setCell ⟨w.heap.size + 1, 1, none⟩ (.int .i64 0))) (v := .tuple #[.agg #[.slice s'.N.A s'.N.n s'.N.c, .slice s'.D.A s'.D.n s'.D.c], .agg #[.int .i64 0, .int .i64 0]]) (results_cell_cell (P := Tryz.prog) (fn := Tryz.f8) rfl _ _ w.heap.size (w.heap.size + 1) 32 26 #[.slice s'.N.A s'.N.n s'.N.c, .slice s'.D.A s'.D.n s'.D.c] #[.int .i64 0, .int .i64 0] (0, 0) (0, 0) _ _ rfl HTF.out.x Tryz.underlying32 rfl (by kernel_rfl) rfl HTF.out.y Tryz.underlying26 rfl (by kernel_rfl)) rfl ?_
    rw [HRz.out]
    refine ⟨HTF.out.b, ?_⟩
    rw [if_neg (by rw [HFc.out]; decide)]
    refine ⟨vs, HNs.out, HLk.out.1, HLk.out.2.1, HLk.out.2.2, .inr ⟨by rw [← HCk.out]; exact HK0.out, s', rfl, HS'.out.1, HS'.out.2.1.trans HNs.out, ?_⟩⟩
    exact ((((HSo.out.set w.heap.size 0 HL2.out _).set w.heap.size 1 HL2.out _).set (w.heap.size + 1) 0 HL3.out _).set (w.heap.size + 1) 1 HL3.out _).base (by have := HL2.out; omega)
   ·have HK0 := hid hk0
    clear hk0
    go_upto_region 9 with (go_at_call 17; (with_reducible refine HC.out.mono ?_); rintro e wn ⟨hb, hh⟩; rcases hh with ⟨_, rfl⟩ | ⟨h0, _⟩; rotate_left; (exact absurd h0 HK0.out); have HB := hid hb; clear hb HC)
    clear z6_4 z6_5
    have hT4 := (HT3.out.keep HB.out).keep (al_below wn (.cells #[.slice none 0 0, .slice none 0 0] 32))
    have h7 : Blk (wn.alloc (.cells #[.slice none 0 0, .slice none 0 0] 32)) wn.heap.size 32 [.slice none 0 0, .slice none 0 0] := heap_alloc_new wn _
    have n2 : wn.heap.size ≠ w.heap.size := by have := HT3.out.x.lt; have := HB.out.size; omega
    have n3 : wn.heap.size ≠ w.heap.size + 1 := by have := HT3.out.y.lt; have := HB.out.size; omega
    have HL2 := hid HT3.out.x.lt
    have HL3 := hid HT3.out.y.lt
    obtain ⟨b7, hb7⟩ : ∃ b, b = wn.heap.size := ⟨_, rfl⟩
    rw [← hb7] at h7 n2 n3
    simp only [← hb7]
    have HT5 := hid hT4
    clear hb7 hT4 HT3 HB
    generalize wn.alloc (.cells #[.slice none 0 0, .slice none 0 0] 32) = w5 at *
    have z7_0 : _ = some ((.slice none 0 0 : Value)) := Blk.at h7 0
    have z7_1 : _ = some ((.slice none 0 0 : Value)) := Blk.at h7 1
    have z2_0 : _ = some ((.slice none 0 0 : Value)) := Blk.at HT5.out.x 0
    have z2_1 : _ = some ((.slice none 0 0 : Value)) := Blk.at HT5.out.x 1
    have y2_0 := Blk.free HT5.out.x 0
    have y2_1 := Blk.free HT5.out.x 1
    have z3_0 : _ = some ((.int .i64 0 : Value)) := Blk.at HT5.out.y 0
    have z3_1 : _ = some ((.int .i64 0 : Value)) := Blk.at HT5.out.y 1
    have y3_0 := Blk.free HT5.out.y 0
    have y3_1 := Blk.free HT5.out.y 1
    clear h7
    go_wp2_with fail
    have HTF := hid ((((HT5.out.sx 0 (.slice none 0 0)).sx 1 (.slice none 0 0)).sy 0 (.int .i64 (ck : Int))).sy 1 (.int .i64 0))
    refine bodyPost_ret (w := ((((w5.setCell ⟨w.heap.size, 0, none⟩ (.slice none 0 0)).setCell ⟨w.heap.size, 1, none⟩ (.slice none 0 0)).setCell ⟨w.heap.size + 1, 0, none⟩ (.int .i64 (ck : Int))).setCell ⟨w.heap.size + 1, 1, none⟩ (.int .i64 0))) (v := .tuple #[.agg #[.slice none 0 0, .slice none 0 0], .agg #[.int .i64 (ck : Int), .int .i64 0]]) (results_cell_cell (P := Tryz.prog) (fn := Tryz.f8) rfl _ _ w.heap.size (w.heap.size + 1) 32 26 #[.slice none 0 0, .slice none 0 0] #[.int .i64 (ck : Int), .int .i64 0] (0, 0) (0, 0) _ _ rfl HTF.out.x Tryz.underlying32 rfl (by kernel_rfl) rfl HTF.out.y Tryz.underlying26 rfl (by kernel_rfl)) rfl ?_
    rw [HRz.out]
    refine ⟨HTF.out.b, ?_⟩
    rw [if_neg (by rw [HFc.out]; decide)]
    exact ⟨vs, HNs.out, HLk.out.1, HLk.out.2.1, HLk.out.2.2, .inl ⟨by rw [← HCk.out]; exact HK0.out, by rw [← HCk.out]⟩⟩
  ·have hcb : ((r.fc : Int) != 0) = true := by simpa using (show ¬ (r.fc : Int) = 0 by omega)
   have z2_0 : _ = some ((.slice none 0 0 : Value)) := HX2.out.at 0
   have z2_1 : _ = some ((.slice none 0 0 : Value)) := HX2.out.at 1
   have y2_0 := HX2.out.free 0
   have y2_1 := HX2.out.free 1
   have z3_0 : _ = some ((.int .i64 0 : Value)) := HX3.out.at 0
   have z3_1 : _ = some ((.int .i64 0 : Value)) := HX3.out.at 1
   have y3_0 := HX3.out.free 0
   have y3_1 := HX3.out.free 1
   have n2 : b6 ≠ w.heap.size := fun e => HX2.out.no (by have := HRo.out.bo.og; rw [e] at this; exact this)
   have n3 : b6 ≠ w.heap.size + 1 := fun e => HX3.out.no (by have := HRo.out.bo.og; rw [e] at this; exact this)
   have HT3 := hid (show Two2 w wk w.heap.size (w.heap.size + 1) [.slice none 0 0, .slice none 0 0] [.int .i64 0, .int .i64 0] from ⟨HX2.out.blk, HX3.out.blk, HA.out.ch.noneB, HX2.out.ge, HX3.out.ge⟩)
   have HFc := hid hfc
   clear HX2 HX3 HA HRo hfc
   go_wp2_with fail
   go_region
   have HTF := hid (((((HT3.out.sx 0 (.slice none 0 0)).sx 1 (.slice none 0 0)).sy 0 (.int .i64 (r.fc : Int))).sy 1 (.int .i64 (placeL ts r.fi : Int))).keep (w' := ((((wk.setCell ⟨w.heap.size, 0, none⟩ (.slice none 0 0)).setCell ⟨w.heap.size, 1, none⟩ (.slice none 0 0)).setCell ⟨w.heap.size + 1, 0, none⟩ (.int .i64 (r.fc : Int))).setCell ⟨w.heap.size + 1, 1, none⟩ (.int .i64 (placeL ts r.fi : Int))).drew) ⟨rfl, rfl, rfl, Nat.le_refl _, fun _ _ => rfl⟩)
   clear z6_4 z6_5 z2_0 z2_1 y2_0 y2_1 z3_0 z3_1 y3_0 y3_1 HT3
   generalize ((((wk.setCell ⟨w.heap.size, 0, none⟩ (.slice none 0 0)).setCell ⟨w.heap.size, 1, none⟩ (.slice none 0 0)).setCell ⟨w.heap.size + 1, 0, none⟩ (.int .i64 (r.fc : Int))).setCell ⟨w.heap.size + 1, 1, none⟩ (.int .i64 (placeL ts r.fi : Int))).drew = w9 at *
   go_wp2_with fail
   refine bodyPost_ret (v := .tuple #[.agg #[.slice none 0 0, .slice none 0 0], .agg #[.int .i64 (r.fc : Int), .int .i64 (placeL ts r.fi : Int)]]) (results_cell_cell (P := Tryz.prog) (fn := Tryz.f8) rfl _ _ w.heap.size (w.heap.size + 1) 32 26 #[.slice none 0 0, .slice none 0 0] #[.int .i64 (r.fc : Int), .int .i64 (placeL ts r.fi : Int)] (0, 0) (0, 0) _ _ rfl HTF.out.x Tryz.underlying32 rfl (by kernel_rfl) rfl HTF.out.y Tryz.underlying26 rfl (by kernel_rfl)) rfl ?_
   rw [HRz.out]
   refine ⟨HTF.out.b, ?_⟩
   rw [if_pos HFc.out]
end Go.Proofs.YtfcccfplmdjndaaGreat
