/- regex: Parse. -/
import Derived.Test.YtoiegkejkahfgaaDoorRe
import Derived.StillTailTactics
set_option linter.unusedVariables false
set_option linter.unusedSimpArgs false
namespace Go.Proofs.YtoiegkejkahfgaaDoor
open Go.RowKit

theorem results_cell_cell {P : Program} {fn : Func} {p q : Tmp} {ty ty2 : TypeId} (h : fn.results = #[.cell p ty, .cell q ty2]) (tmps : Array Value) (w : World) (g g2 : Nat) (t t2 : TypeId) (cs cs2 : Array Value) (fr fr2 : Nat × Nat) (d d2 : TypeDesc)
    (hp : tmps.getD p undef = .pointer (some ⟨g, 0, none⟩)) (hg : w.heap[g]? = some (.cells cs t fr))
    (hu : P.underlying ty = some d) (hd : (match d with | .struct _ | .array _ _ => true | _ => false) = true) (hi : (P.info? ty).map (·.size) = some cs.size)
    (hp2 : tmps.getD q undef = .pointer (some ⟨g2, 0, none⟩)) (hg2 : w.heap[g2]? = some (.cells cs2 t2 fr2))
    (hu2 : P.underlying ty2 = some d2) (hd2 : (match d2 with | .struct _ | .array _ _ => true | _ => false) = true) (hi2 : (P.info? ty2).map (·.size) = some cs2.size) :
    (results fn tmps).run P w = .ok (.tuple #[.agg cs, .agg cs2]) w := by
  have hp' : tmps[p]?.getD undef = .pointer (some ⟨g, 0, none⟩) := by simpa using hp
  have hp2' : tmps[q]?.getD undef = .pointer (some ⟨g2, 0, none⟩) := by simpa using hp2
  simp [results, h, hp', hp2', asAddr, run_loadVar_row w g t ty cs fr d hg hu hd hi, run_loadVar_row w g2 t2 ty2 cs2 fr2 d2 hg2 hu2 hd2 hi2]
def faultC (c p : Int) : Array Value := #[.int .i64 c, .int .i64 p]
theorem fault_size (c p : Int) : (Tryd.prog.info? 49).map (·.size) = some (faultC c p).size := by
  rw [show (faultC c p).size = 2 from rfl]; kernel_rfl
theorem fault_one (c p : Int) : (faultC c p).all (·.oneCell') = true := by simp [faultC, Value.oneCell']
/-- What Parse answers. -/
def ParseR (r : Except (Nat × Nat) RT) (w : World) (e : Ending) (w' : World) : Prop := Below w.heap.size w w' ∧ match r with
  | .ok t => ∃ v : RV, e = .returned (.tuple #[v.val, .agg (faultC 0 0)]) ∧ Rep w' (w.heap.size ≤ ·) v t
  | .error (c, p) => e = .returned (.tuple #[.agg zeroR, .agg (faultC c p)])
abbrev ParseP (l : List UInt8) (w : World) (e : Ending) (w' : World) : Prop := ParseR (pParse l) w e w'
theorem two_res (w : World) : Below w.heap.size w ((w.alloc (.cells zeroR 26)).alloc (.cells (faultC 0 0) 49)) ∧ Blk ((w.alloc (.cells zeroR 26)).alloc (.cells (faultC 0 0) 49)) w.heap.size 26 zeroR.toList ∧ Blk ((w.alloc (.cells zeroR 26)).alloc (.cells (faultC 0 0) 49)) (w.heap.size + 1) 49 (faultC 0 0).toList := by
  refine ⟨below_alloc2 _ _, (Below.heap_alloc _ _ _ (by simp)).trans (heap_alloc_new w _), ?_⟩
  have := heap_alloc_new (w.alloc (.cells zeroR 26)) (.cells (faultC 0 0) 49)
  rwa [World.size_alloc] at this
set_option maxRecDepth 100000 in
set_option maxHeartbeats 4000000 in
theorem parse_long (s : ByteArray) (hs : 512 < s.size) (w : World) : Calls Tryd.prog 14 #[.string s] w (ParseP s.data.toList w) := by
  have HP : Hid (pParse s.data.toList = .error (2, 0)) := hid (by unfold pParse; rw [if_pos (show 512 < s.data.toList.length from hs)])
  obtain ⟨hA, h1, h2⟩ := two_res w
  have HA := hid hA
  have H1 := hid h1
  have H2 := hid h2
  have hs1 : ((w.alloc (.cells zeroR 26)).alloc (.cells (faultC 0 0) 49)).heap.size = w.heap.size + 1 + 1 := by simp
  clear hA h1 h2
  go_enter Tryd.func14, Tryd.ntmps14
  go_upto_region 1 with (fail)
  change Code.wp _ _ _ _ ((w.alloc (.cells zeroR 26)).alloc (.cells (faultC 0 0) 49))
  generalize (w.alloc (.cells zeroR 26)).alloc (.cells (faultC 0 0) 49) = w1 at *
  have hs' : (512 : Int) < (s.size : Int) := by omega
  go_wp2_with (first
    | (refine wpList_store_row rfl 26 _ _ rfl w.heap.size zeroR ?_ ?_ 26 zeroR H1.out (by rw [← zeroR_eq]; exact rx_size _) ?_ (by rw [← zeroR_eq]; exact rx_one _) ?_; exact rfl; exact rfl; exact rfl)
    | (refine wpList_store_row rfl 49 _ _ rfl (w.heap.size + 1) (faultC 2 0) ?_ ?_ 49 (faultC 0 0) ((setRow_other _ _ _ _ (by omega)).trans H2.out) (fault_size 2 0) ?_ (fault_one 2 0) ?_; exact rfl; exact rfl; exact rfl))
  have A0 : ((w1.setRow w.heap.size zeroR).setRow (w.heap.size + 1) (faultC 2 0)).heap[w.heap.size]? = some (.cells zeroR 26) := (setRow_other _ _ _ _ (by omega)).trans (setRow_heap _ _ _ _ _ (0, 0) H1.out)
  have A1 : ((w1.setRow w.heap.size zeroR).setRow (w.heap.size + 1) (faultC 2 0)).heap[w.heap.size + 1]? = some (.cells (faultC 2 0) 49) := setRow_heap _ _ _ _ _ (0, 0) ((setRow_other _ _ _ _ (by omega)).trans H2.out)
  exact bodyPost_ret (v := .tuple #[.agg zeroR, .agg (faultC 2 0)]) (results_cell_cell (P := Tryd.prog) (fn := Tryd.f14) rfl _ _ w.heap.size (w.heap.size + 1) 26 49 _ _ (0, 0) (0, 0) _ _ rfl A0 Tryd.underlying26 rfl (by rw [← zeroR_eq]; exact rx_size _) rfl A1 Tryd.underlying49 rfl (fault_size 2 0)) rfl (by
    unfold ParseP
    rw [HP.out]
    unfold ParseR
    exact ⟨below_row (below_row HA.out (Nat.le_refl _) _) (Nat.le_succ _) _, rfl⟩)

theorem box_kid3 (wr : World) (x : RV) : Below wr.heap.size wr ((wr.alloc (.cells #[.int .i64 0, .int .u64 0, .int .u64 0, .int .u64 0, .int .u64 0, .slice none 0 0, .int .i64 0, .int .i64 0] 26)).setRow wr.heap.size x.cells.toArray) ∧ Blk ((wr.alloc (.cells #[.int .i64 0, .int .u64 0, .int .u64 0, .int .u64 0, .int .u64 0, .slice none 0 0, .int .i64 0, .int .i64 0] 26)).setRow wr.heap.size x.cells.toArray) wr.heap.size 26 x.cells :=
  ⟨row_new wr _ _ _, setRow_heap _ _ _ _ _ (0, 0) (heap_alloc_new wr _)⟩
structure Two (w0 : World) (B R : Nat) (cs ds : List Value) (W : World) : Prop where
  x : Blk W R 26 cs
  y : Blk W (R + 1) 49 ds
  b : Below B w0 W
theorem Two.a {w0 W : World} {B R : Nat} {cs ds : List Value} (h : Two w0 B R cs ds W) (hR : B ≤ R) (i : Nat) (v : Value) : Two w0 B R (cs.set i v) ds (W.setCell ⟨R, i, none⟩ v) :=
  ⟨h.x.put i v, h.y.other (p := ⟨R, i, none⟩) (show R + 1 ≠ R by omega) v, h.b.setCell (p := ⟨R, i, none⟩) hR v⟩
theorem Two.b' {w0 W : World} {B R : Nat} {cs ds : List Value} (h : Two w0 B R cs ds W) (hR : B ≤ R) (i : Nat) (v : Value) : Two w0 B R cs (ds.set i v) (W.setCell ⟨R + 1, i, none⟩ v) :=
  ⟨h.x.other (p := ⟨R + 1, i, none⟩) (show R ≠ R + 1 by omega) v, h.y.put i v, h.b.setCell (p := ⟨R + 1, i, none⟩) (Nat.le_succ_of_le hR) v⟩
theorem Two.drew {w0 W : World} {B R : Nat} {cs ds : List Value} (h : Two w0 B R cs ds W) : Two w0 B R cs ds W.drew := ⟨h.x, h.y, ⟨h.b.os, h.b.tape, h.b.output, h.b.size, h.b.block⟩⟩
theorem ten_set {w0 w : World} {B R : Nat} (h1 : Blk w R 26 zeroR.toList) (h2 : Blk w (R + 1) 49 (faultC 0 0).toList) (hb : Below B w0 w) (hR : B ≤ R) (c p : Int) :
    Two w0 B R zeroR.toList (faultC c p).toList ((((((((((w.setCell ⟨R, 0, none⟩ (.int .i64 0)).setCell ⟨R, 1, none⟩ (.int .u64 0)).setCell ⟨R, 2, none⟩ (.int .u64 0)).setCell ⟨R, 3, none⟩ (.int .u64 0)).setCell ⟨R, 4, none⟩ (.int .u64 0)).setCell ⟨R, 5, none⟩ (.slice none 0 0)).setCell ⟨R, 6, none⟩ (.int .i64 0)).setCell ⟨R, 7, none⟩ (.int .i64 0)).setCell ⟨R + 1, 0, none⟩ (.int .i64 c)).setCell ⟨R + 1, 1, none⟩ (.int .i64 p)).drew := by
  have h : Two w0 B R zeroR.toList (faultC 0 0).toList w := ⟨h1, h2, hb⟩
  have h10 := ((((((((((h.a hR 0 (.int .i64 0)).a hR 1 (.int .u64 0)).a hR 2 (.int .u64 0)).a hR 3 (.int .u64 0)).a hR 4 (.int .u64 0)).a hR 5 (.slice none 0 0)).a hR 6 (.int .i64 0)).a hR 7 (.int .i64 0)).b' hR 0 (.int .i64 c)).b' hR 1 (.int .i64 p))
  exact h10.drew
/-- The reader's block, new. -/
theorem rd_new (w : World) (s : ByteArray) : Rd (w.alloc (.cells #[.string s, .int .i64 0, .int .i64 0, .int .i64 0, .int .i64 0] 73)) w.heap.size s 0 0 0 0 := heap_alloc_new w _
set_option maxRecDepth 100000 in
set_option maxHeartbeats 4000000 in
theorem parse_short (s : ByteArray) (hs : s.size ≤ 512) (w : World) : Calls Tryd.prog 14 #[.string s] w (ParseP s.data.toList w) := by
  have HE := hid (either_at (g := w.heap.size + 2) hs 33 (by omega)).1
  have HP : Hid (pParse s.data.toList = match pEither s.data.toList 33 0 0 with
    | .error e => .error e
    | .ok (t, i, _) => if i < s.data.toList.length then .error (5, i) else .ok t) := hid (by unfold pParse; rw [if_neg (show ¬ 512 < s.data.toList.length by have : s.data.toList.length = s.size := rfl; omega)]; rfl)
  obtain ⟨hA, h1, h2⟩ := two_res w
  have hs1 : ((w.alloc (.cells zeroR 26)).alloc (.cells (faultC 0 0) 49)).heap.size = w.heap.size + 2 := by simp
  have HR := hid (rd_new ((w.alloc (.cells zeroR 26)).alloc (.cells (faultC 0 0) 49)) s)
  have hal : Below ((w.alloc (.cells zeroR 26)).alloc (.cells (faultC 0 0) 49)).heap.size ((w.alloc (.cells zeroR 26)).alloc (.cells (faultC 0 0) 49)) (((w.alloc (.cells zeroR 26)).alloc (.cells (faultC 0 0) 49)).alloc (.cells #[.string s, .int .i64 0, .int .i64 0, .int .i64 0, .int .i64 0] 73)) := (Below.refl _ _).alloc (Nat.le_refl _) _
  have HA := hid (hA.trans (hal.mono hA.size))
  have H1 := hid (h1.keep hal)
  have H2 := hid (h2.keep hal)
  have hs2 : (((w.alloc (.cells zeroR 26)).alloc (.cells (faultC 0 0) 49)).alloc (.cells #[.string s, .int .i64 0, .int .i64 0, .int .i64 0, .int .i64 0] 73)).heap.size = w.heap.size + 3 := by simp
  rw [hs1] at HR
  clear hA h1 h2 hal
  have hs' : (s.size : Int) ≤ 512 := by omega
  have hsl : s.data.toList.length = s.size := rfl
  rw [hsl] at HP
  go_enter Tryd.func14, Tryd.ntmps14
  go_upto_region 1 with (fail)
  change Code.wp _ _ _ _ ((w.alloc (.cells zeroR 26)).alloc (.cells (faultC 0 0) 49))
  generalize (w.alloc (.cells zeroR 26)).alloc (.cells (faultC 0 0) 49) = w1 at *
  go_wp2_with fail
  generalize w1.alloc (.cells #[.string s, .int .i64 0, .int .i64 0, .int .i64 0, .int .i64 0] 73) = w2 at *
  refine (HE.out w2 0 0 0 0 HR.out (by omega) (by omega)).mono ?_
  rintro e w3 hpost
  obtain ⟨v, ok, rfl, hg3, hst⟩ := hpost.un
  clear hpost HE
  have hs3 := hg3.size
  have HB3 := hid (below_grown HA.out hg3 (by omega) (by omega))
  have H13 := hid (show Blk w3 w.heap.size 26 zeroR.toList from (hg3.block _ H1.out.lt (by intro e; injection e with e; omega)).trans H1.out)
  have H23 := hid (show Blk w3 (w.heap.size + 1) 49 (faultC 0 0).toList from (hg3.block _ H2.out.lt (by intro e; injection e with e; omega)).trans H2.out)
  obtain ⟨hbx, hx4⟩ := box_kid3 w3 v
  have HB4 := hid (HB3.out.trans (hbx.mono HB3.out.size))
  have H14 := hid (show Blk _ w.heap.size 26 zeroR.toList from (hbx.block _ H13.out.lt).trans H13.out)
  have H24 := hid (show Blk _ (w.heap.size + 1) 49 (faultC 0 0).toList from (hbx.block _ H23.out.lt).trans H23.out)
  have HX4 := hid hx4
  have HSz := hid (rx_size v)
  have HOne := hid (rx_one v)
  have HST : Hid ((ok = true ∧ ∃ t j nd', pEither s.data.toList 33 0 0 = .ok (t, j, nd') ∧ (∃ c p, Rd ((w3.alloc (.cells #[.int .i64 0, .int .u64 0, .int .u64 0, .int .u64 0, .int .u64 0, .slice none 0 0, .int .i64 0, .int .i64 0] 26)).setRow w3.heap.size v.cells.toArray) (w.heap.size + 2) s j nd' c p) ∧ Rep ((w3.alloc (.cells #[.int .i64 0, .int .u64 0, .int .u64 0, .int .u64 0, .int .u64 0, .slice none 0 0, .int .i64 0, .int .i64 0] 26)).setRow w3.heap.size v.cells.toArray) (w.heap.size + 3 ≤ ·) v t) ∨ (ok = false ∧ ∃ c p : Nat, pEither s.data.toList 33 0 0 = .error (c, p) ∧ ∃ j nd', Rd ((w3.alloc (.cells #[.int .i64 0, .int .u64 0, .int .u64 0, .int .u64 0, .int .u64 0, .slice none 0 0, .int .i64 0, .int .i64 0] 26)).setRow w3.heap.size v.cells.toArray) (w.heap.size + 2) s j nd' (c : Int) (p : Int))) := hid (by
    rcases hst with ⟨h1, t, j, nd', h2, ⟨c, p, h3⟩, h4⟩ | ⟨h1, c, p, h2, j, nd', h3⟩
    · exact .inl ⟨h1, t, j, nd', h2, ⟨c, p, h3.keep hbx⟩, (show Rep w3 (w.heap.size + 3 ≤ ·) v t from h4.mono (Nat.le_refl _) (fun _ _ _ => rfl) (fun b hb _ => by have hb : w2.heap.size ≤ b := hb; omega)).mono hbx.size (fun b _ hl => hbx.block b hl) (fun _ h _ => h)⟩
    · exact .inr ⟨h1, c, p, h2, j, nd', h3.keep hbx⟩)
  clear hst hbx hx4 H13 H23 HB3 H1 H2 HA HR hg3
  unfold RV.val
  go_upto_region 5 with (refine wpList_store_row rfl 26 _ _ rfl w3.heap.size v.cells.toArray ?_ ?_ 26 #[.int .i64 0, .int .u64 0, .int .u64 0, .int .u64 0, .int .u64 0, .slice none 0 0, .int .i64 0, .int .i64 0] (heap_alloc_new w3 _) HSz.out ?_ HOne.out ?_; exact rfl; exact rfl; exact rfl; generalize (w3.alloc (.cells #[.int .i64 0, .int .u64 0, .int .u64 0, .int .u64 0, .int .u64 0, .slice none 0 0, .int .i64 0, .int .i64 0] 26)).setRow w3.heap.size v.cells.toArray = w4 at *)
  rcases HST.out with ⟨rfl, t, j, nd', hE, ⟨c, p, hr4⟩, hrep⟩ | ⟨rfl, c, p, hE, j, nd', hr4⟩
  · obtain ⟨q0, q1, q2, q3, q4, _⟩ := hr4.cells
    rcases Nat.lt_or_ge j s.size with hj | hj
    · have HPe : Hid (pParse s.data.toList = .error (5, j)) := hid (by rw [HP.out, hE]; exact if_pos hj)
      have hj' : (j : Int) < (s.size : Int) := by omega
      have HR4 := hid hr4
      clear hrep HST hr4 hE HP HX4
      go_wp2_with fail
      refine (fail_any HR4.out 5 (j : Int)).mono ?_
      rintro e w5 ⟨rfl, hr5, hg5⟩
      have hs4 := HB4.out.size
      have HR5 := hid hr5
      have HB5 := hid (below_grown HB4.out hg5 (by omega) (by omega))
      have H15 := hid (show Blk w5 w.heap.size 26 zeroR.toList from (hg5.block _ H14.out.lt (by intro e; injection e with e; omega)).trans H14.out)
      have H25 := hid (show Blk w5 (w.heap.size + 1) 49 (faultC 0 0).toList from (hg5.block _ H24.out.lt (by intro e; injection e with e; omega)).trans H24.out)
      clear q0 q1 q2 q3 q4 hr5 hg5 HR4 H14 H24 HB4
      obtain ⟨q0, q1, q2, q3, q4, _⟩ := HR5.out.cells
      obtain ⟨z0, z1, z2, z3, z4, z5, z6, z7⟩ := zero_row H15.out
      obtain ⟨f0, f1, f2, f3, f4, f5, f6, f7⟩ := H15.out.freez
      have g0 : w5.cell? ⟨w.heap.size + 1, 0, none⟩ = some (.int .i64 0) := H25.out.at 0
      have g1 : w5.cell? ⟨w.heap.size + 1, 1, none⟩ = some (.int .i64 0) := H25.out.at 1
      have ne1 : ¬ w.heap.size + 1 = w.heap.size := by omega
      have k0 := H25.out.free 0
      have k1 := H25.out.free 1
      have HT := hid (ten_set H15.out H25.out HB5.out (Nat.le_refl _) 5 (j : Int))
      go_wp2_with fail
      go_region
      clear q0 q1 q2 q3 q4 z0 z1 z2 z3 z4 z5 z6 z7 f0 f1 f2 f3 f4 f5 f6 f7 g0 g1 k0 k1
      generalize ((((((((((w5.setCell ⟨w.heap.size, 0, none⟩ (.int .i64 0)).setCell ⟨w.heap.size, 1, none⟩ (.int .u64 0)).setCell ⟨w.heap.size, 2, none⟩ (.int .u64 0)).setCell ⟨w.heap.size, 3, none⟩ (.int .u64 0)).setCell ⟨w.heap.size, 4, none⟩ (.int .u64 0)).setCell ⟨w.heap.size, 5, none⟩ (.slice none 0 0)).setCell ⟨w.heap.size, 6, none⟩ (.int .i64 0)).setCell ⟨w.heap.size, 7, none⟩ (.int .i64 0)).setCell ⟨w.heap.size + 1, 0, none⟩ (.int .i64 5)).setCell ⟨w.heap.size + 1, 1, none⟩ (.int .i64 (j : Int))).drew = w9 at *
      go_wp2
      exact bodyPost_ret (v := .tuple #[.agg zeroR, .agg (faultC 5 (j : Int))]) (results_cell_cell (P := Tryd.prog) (fn := Tryd.f14) rfl _ _ w.heap.size (w.heap.size + 1) 26 49 _ _ (0, 0) (0, 0) _ _ rfl HT.out.x Tryd.underlying26 rfl (by rw [← zeroR_eq]; exact rx_size _) rfl HT.out.y Tryd.underlying49 rfl (fault_size 5 (j : Int))) rfl (by
        show ParseR (pParse _) _ _ _
        rw [HPe.out]
        exact ⟨HT.out.b, rfl⟩)
    · obtain ⟨x0, x1, x2, x3, x4, x5, x6, x7⟩ := Blk.cells8' HX4.out
      have HPo : Hid (pParse s.data.toList = .ok t) := hid (by rw [HP.out, hE]; exact if_neg (by omega))
      have hj' : ¬ (j : Int) < (s.size : Int) := by omega
      have HREP := hid hrep
      clear hrep HST HX4 hr4 hE HP
      go_wp2_with (first
        | (refine wpList_store_row rfl 26 _ _ rfl w.heap.size v.cells.toArray ?_ ?_ 26 zeroR H14.out HSz.out ?_ HOne.out ?_; exact rfl; exact rfl; exact rfl)
        | (refine wpList_store_row rfl 49 _ _ rfl (w.heap.size + 1) (faultC 0 0) ?_ ?_ 49 (faultC 0 0) ((setRow_other _ _ _ _ (by omega)).trans H24.out) (fault_size 0 0) ?_ (fault_one 0 0) ?_; exact rfl; exact rfl; exact rfl))
      have A0 : ((w4.setRow w.heap.size v.cells.toArray).setRow (w.heap.size + 1) (faultC 0 0)).heap[w.heap.size]? = some (.cells v.cells.toArray 26) := (setRow_other _ _ _ _ (by omega)).trans (setRow_heap _ _ _ _ _ (0, 0) H14.out)
      have A1 : ((w4.setRow w.heap.size v.cells.toArray).setRow (w.heap.size + 1) (faultC 0 0)).heap[w.heap.size + 1]? = some (.cells (faultC 0 0) 49) := setRow_heap _ _ _ _ _ (0, 0) ((setRow_other _ _ _ _ (by omega)).trans H24.out)
      exact bodyPost_ret (v := .tuple #[.agg v.cells.toArray, .agg (faultC 0 0)]) (results_cell_cell (P := Tryd.prog) (fn := Tryd.f14) rfl _ _ w.heap.size (w.heap.size + 1) 26 49 _ _ (0, 0) (0, 0) _ _ rfl A0 Tryd.underlying26 rfl HSz.out rfl A1 Tryd.underlying49 rfl (fault_size 0 0)) rfl (by
        show ParseR (pParse _) _ _ _
        rw [HPo.out]
        exact ⟨below_row (below_row HB4.out (Nat.le_refl _) _) (Nat.le_succ _) _, v, rfl, HREP.out.mono (by simp [World.setRow]) (fun b hb hl => (setRow_other _ _ _ _ (by have hb : w.heap.size + 3 ≤ b := hb; omega)).trans (setRow_other _ _ _ _ (by have hb : w.heap.size + 3 ≤ b := hb; omega))) (fun b h _ => by have h : w.heap.size + 3 ≤ b := h; omega)⟩)
  · have HPe : Hid (pParse s.data.toList = .error (c, p)) := hid (by rw [HP.out, hE])
    have HR4 := hid hr4
    clear HST hr4 hE HP HX4
    obtain ⟨q0, q1, q2, q3, q4, _⟩ := HR4.out.cells
    obtain ⟨z0, z1, z2, z3, z4, z5, z6, z7⟩ := zero_row H14.out
    obtain ⟨f0, f1, f2, f3, f4, f5, f6, f7⟩ := H14.out.freez
    have g0 : w4.cell? ⟨w.heap.size + 1, 0, none⟩ = some (.int .i64 0) := H24.out.at 0
    have g1 : w4.cell? ⟨w.heap.size + 1, 1, none⟩ = some (.int .i64 0) := H24.out.at 1
    have ne1 : ¬ w.heap.size + 1 = w.heap.size := by omega
    have k0 := H24.out.free 0
    have k1 := H24.out.free 1
    have HT := hid (ten_set H14.out H24.out HB4.out (Nat.le_refl _) (c : Int) (p : Int))
    go_wp2_with fail
    go_region
    clear q0 q1 q2 q3 q4 z0 z1 z2 z3 z4 z5 z6 z7 f0 f1 f2 f3 f4 f5 f6 f7 g0 g1 k0 k1
    generalize ((((((((((w4.setCell ⟨w.heap.size, 0, none⟩ (.int .i64 0)).setCell ⟨w.heap.size, 1, none⟩ (.int .u64 0)).setCell ⟨w.heap.size, 2, none⟩ (.int .u64 0)).setCell ⟨w.heap.size, 3, none⟩ (.int .u64 0)).setCell ⟨w.heap.size, 4, none⟩ (.int .u64 0)).setCell ⟨w.heap.size, 5, none⟩ (.slice none 0 0)).setCell ⟨w.heap.size, 6, none⟩ (.int .i64 0)).setCell ⟨w.heap.size, 7, none⟩ (.int .i64 0)).setCell ⟨w.heap.size + 1, 0, none⟩ (.int .i64 (c : Int))).setCell ⟨w.heap.size + 1, 1, none⟩ (.int .i64 (p : Int))).drew = w9 at *
    go_wp2
    exact bodyPost_ret (v := .tuple #[.agg zeroR, .agg (faultC (c : Int) (p : Int))]) (results_cell_cell (P := Tryd.prog) (fn := Tryd.f14) rfl _ _ w.heap.size (w.heap.size + 1) 26 49 _ _ (0, 0) (0, 0) _ _ rfl HT.out.x Tryd.underlying26 rfl (by rw [← zeroR_eq]; exact rx_size _) rfl HT.out.y Tryd.underlying49 rfl (fault_size (c : Int) (p : Int))) rfl (by
      show ParseR (pParse _) _ _ _
      rw [HPe.out]
      exact ⟨HT.out.b, rfl⟩)
/-- Parse, of any text. -/
theorem parse_any (s : ByteArray) (w : World) : Calls Tryd.prog 14 #[.string s] w (ParseP s.data.toList w) := by
  rcases Nat.lt_or_ge 512 s.size with h | h
  · exact parse_long s h w
  · exact parse_short s h w
end Go.Proofs.YtoiegkejkahfgaaDoor
