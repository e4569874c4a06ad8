/- tree: Clone, whole. -/
import Derived.Test.YtdhipmdapodpkaaTrD
namespace Go.Proofs.Ytdhipmdapodpkaa
set_option linter.unusedSimpArgs false
set_option linter.unusedVariables false
open Go.RowKit

theorem below_draw {w w' : World} {B : Nat} (h : Below B w w') : Below B w w'.drew := ⟨h.os, h.tape, h.output, h.size, h.block⟩
theorem below_set {w w' : World} {B : Nat} (h : Below B w w') (g i : Nat) (hg : B ≤ g) (u : Value) : Below B w (w'.setCell ⟨g, i, none⟩ u) :=
  ⟨h.os, h.tape, h.output, by have := h.size; simpa [World.setCell] using this, fun k hk => (Below.heap_setCell w' ⟨g, i, none⟩ u k (by simp only; omega)).trans (h.block k hk)⟩
/-- What Clone promises. -/
def CloneAt (t : TT) : Prop := ∀ (v : TV) (w : World) (P : Nat → Prop), Rep w P v t → wT t ≤ 1048576 →
  Calls Try.prog 18 #[v.val] w fun e w' => ∃ x : TV, e = .returned x.val ∧ Seg w' w.heap.size w'.heap.size x t ∧ Below w.heap.size w w'
/-- The state of Clone's loop. -/
structure CkS (w0 : World) (v : TV) (D K : SV) (mid : Nat) (d : List UInt8) (xs : List TV) (ks : List TT) (j : Nat) (cur : List TV) (m : Nat → Nat) (W : World) : Prop where
  bel : Below w0.heap.size w0 W
  bx : Blk W w0.heap.size 26 [.int .u64 (v.num : Int), .bool v.bl, .slice D.A D.n D.c, .slice K.A K.n K.c]
  bz : Blk W (w0.heap.size + 1) 26 [.int .u64 0, .bool false, .slice none 0 0, .slice none 0 0]
  hD : Mine W (w0.heap.size + 2) mid 5 D d.length (d.map isB)
  hK : Mine W (w0.heap.size + 2) mid 26 K ks.length (flatV cur)
  lm : w0.heap.size + 2 ≤ mid
  len : cur.length = ks.length
  rest : ∀ i, j ≤ i → cur[i]? = xs[i]?
  m0 : mid ≤ m 0
  mm : ∀ i, i < j → m i ≤ m (i + 1)
  mj : m j ≤ W.heap.size
  seg : ∀ i (h1 : i < cur.length) (h2 : i < ks.length), i < j → Seg W (m i) (m (i + 1)) cur[i] ks[i]
section
variable {w0 W W' : World} {v : TV} {D K : SV} {mid : Nat} {d : List UInt8} {xs cur : List TV} {ks : List TT} {j : Nat} {m : Nat → Nat}
theorem CkS.keep (h : CkS w0 v D K mid d xs ks j cur m W) (hj : j ≤ ks.length) (hb : Below W.heap.size W W') : CkS w0 v D K mid d xs ks j cur m W' := by
  have hmm := mono_m h.mm
  have h0 := hmm 0 j (Nat.zero_le _) (Nat.le_refl _)
  have := h.mj
  have := h.m0
  refine ⟨h.bel.trans (hb.mono h.bel.size), h.bx.keep hb, h.bz.keep hb, h.hD.mono fun b _ hl => hb.block b (by omega), h.hK.mono fun b _ hl => hb.block b (by omega), h.lm, h.len, h.rest, h.m0, h.mm, Nat.le_trans h.mj hb.size, fun i h1 h2 h3 => (h.seg i h1 h2 h3).keep hb ?_⟩
  have := hmm (i + 1) j (by omega) (Nat.le_refl _)
  omega
theorem flatV_set {cur : List TV} {j : Nat} (hj : j < cur.length) (y : TV) : (flatV cur).take (j * 4) ++ y.cells ++ (flatV cur).drop (j * 4 + y.cells.length) = flatV (cur.set j y) := by
  induction cur generalizing j with
  | nil => simp at hj
  | cons x xs ih =>
    cases j with
    | zero => simp [flatV, TV.len, List.drop_append, List.drop_eq_nil_of_le]
    | succ j =>
      have h := ih (j := j) (by simpa using hj)
      have e : (j + 1) * 4 = x.cells.length + j * 4 := by rw [TV.len]; omega
      have e2 : flatV (x :: xs) = x.cells ++ flatV xs := by simp [flatV]
      have e3 : flatV ((x :: xs).set (j + 1) y) = x.cells ++ flatV (xs.set j y) := by simp [flatV]
      rw [e2, e3, e, List.take_length_add_append, Nat.add_assoc, List.drop_length_add_append, ← h]
      simp only [List.append_assoc]
theorem CkS.row (h : CkS w0 v D K mid d xs ks j cur m W) (hj : j < ks.length) : ∃ g, K = ⟨some ⟨g, 0, none⟩, ks.length, ks.length⟩ ∧ w0.heap.size + 2 ≤ g ∧ g < mid ∧ Blk W g 26 (flatV cur) := by
  rcases h.hK.2 with ⟨_, e⟩ | ⟨g, a, b, c, d⟩
  · have := congrArg List.length e
    rw [flatV_len, h.len] at this
    simp at this
    omega
  · exact ⟨g, c, a, b, d⟩
/-- One part more is copied. -/
theorem CkS.put {y : TV} {g c : Nat} (hA : K = ⟨some ⟨g, 0, none⟩, c, c⟩) (h : CkS w0 v D K mid d xs ks j cur m W) (hj : j < ks.length) (lo : Nat) (hlo : m j ≤ lo) (hs : Seg W lo W.heap.size y ks[j]) : ∃ m', CkS w0 v D K mid d xs ks (j + 1) (cur.set j y) m' (W.setCells g (j * 4) y.cells) := by
  obtain ⟨g', hA', hg0, hgm, hblk⟩ := h.row hj
  obtain rfl : g = g' := by
    rw [hA] at hA'
    injection hA' with h1
    injection h1 with h1
    injection h1
  have hc := chg_setCells (g := g) y.cells (j * 4) W
  have hmm := mono_m h.mm
  have h0 := hmm 0 j (Nat.zero_le _) (Nat.le_refl _)
  have hm0 := h.m0
  have hjc : j < cur.length := by rw [h.len]; exact hj
  have hB := blk_setCells y.cells (j * 4) _ W hblk (by rw [flatV_len, TV.len]; omega)
  rw [flatV_set hjc] at hB
  have hsz : W.heap.size ≤ (W.setCells g (j * 4) y.cells).heap.size := hc.size
  refine ⟨fun i => if i ≤ j then m i else W.heap.size, ⟨Chg.below h.bel hc h.bel.size (fun k hk => by omega), h.bx.chg hc (by omega), h.bz.chg hc (by omega), ?_, ⟨h.hK.1, .inr ⟨g, hg0, hgm, hA', hB⟩⟩, h.lm, by rw [List.length_set]; exact h.len, fun i hi => ?_, by simpa using h.m0, fun i hi => ?_, ?_, fun i h1 h2 h3 => ?_⟩⟩
  · refine ⟨h.hD.1, ?_⟩
    rcases h.hD.2 with e | ⟨g2, a, b, e, hk⟩
    · exact .inl e
    · refine .inr ⟨g2, a, b, e, hk.chg hc (fun e => ?_)⟩
      subst e
      have := hblk
      unfold Blk at hk this
      rw [hk] at this
      injection this with this
      injection this with _ ht
      exact absurd ht (by decide)
  · rw [List.getElem?_set_ne (by omega)]
    exact h.rest i (by omega)
  · rw [if_pos (by omega)]
    by_cases e : i + 1 ≤ j
    · rw [if_pos e]; exact h.mm i (by omega)
    · rw [if_neg e]
      have := hmm i j (by omega) (Nat.le_refl _)
      exact Nat.le_trans this h.mj
  · rw [if_neg (by omega)]
    exact hsz
  · rw [if_pos (show i ≤ j by omega)]
    have hb : ∀ b, mid ≤ b → b < W.heap.size → (W.setCells g (j * 4) y.cells).heap[b]? = W.heap[b]? := fun b h1 h2 => hc.block b h2 (by omega)
    by_cases e : i = j
    · subst e
      rw [if_neg (by omega), List.getElem_set_self]
      refine (hs.mono fun b h1 h2 => hb b (by omega) h2).wide hlo (Nat.le_refl _)
    · rw [if_pos (show i + 1 ≤ j by omega), List.getElem_set_ne (by omega)]
      have h4 := h.seg i (by rw [List.length_set] at h1; exact h1) h2 (by omega)
      have := hmm 0 i (Nat.zero_le _) (by omega)
      have := hmm (i + 1) j (by omega) (Nat.le_refl _)
      have := h.mj
      exact h4.mono fun b h1 h2 => hb b (by omega) (by omega)
end
theorem mine_of {w w' : World} {T : TypeId} {xs : List Value} {s s' : SV} {n lo : Nat} (hn : s.n = n) (h1 : s'.n = s.n) (h : (s.A = none ∧ s' = SV.nil ∧ xs = []) ∨ (s' = ⟨some ⟨w.heap.size, 0, none⟩, s.n, s.n⟩ ∧ Blk w' w.heap.size T xs ∧ w'.heap.size = w.heap.size + 1)) (hl : lo ≤ w.heap.size) : Mine w' lo w'.heap.size T s' n xs := by
  refine ⟨h1.trans hn, ?_⟩
  rcases h with ⟨_, a, b⟩ | ⟨a, b, c⟩
  · exact .inl ⟨a, b⟩
  · exact .inr ⟨w.heap.size, hl, by omega, by rw [a, hn], b⟩
theorem CkS.done {w0 W : World} {v : TV} {K D : SV} {mid : Nat} {d : List UInt8} {xs cur : List TV} {ks : List TT} {m : Nat → Nat} (h : CkS w0 v D K mid d xs ks ks.length cur m W) (hn : v.num < 18446744073709551616) : Seg W (w0.heap.size + 2) W.heap.size ⟨v.num, v.bl, D, K⟩ (.nd v.num v.bl d ks) :=
  .mk _ mid _ ⟨v.num, v.bl, D, K⟩ d ks cur m hn h.lm h.m0 h.mm h.mj h.hD h.len h.hK (fun j h1 h2 => h.seg j h1 h2 h2)
theorem ck_cells {w0 W : World} {v : TV} {K D : SV} {mid g c : Nat} {d : List UInt8} {xs cur : List TV} {ks : List TT} {j : Nat} {m : Nat → Nat} {y : TV} (h : CkS w0 v D K mid d xs ks j cur m W) (hA : K = ⟨some ⟨g, 0, none⟩, c, c⟩) (hj : j < ks.length) (hy : xs[j]? = some y) :
    W.cell? ⟨g, j * 4, none⟩ = some (.int .u64 (y.num : Int)) ∧ W.cell? ⟨g, j * 4 + 1, none⟩ = some (.bool y.bl) ∧ W.cell? ⟨g, j * 4 + 2, none⟩ = some (.slice y.D.A y.D.n y.D.c) ∧ W.cell? ⟨g, j * 4 + 3, none⟩ = some (.slice y.K.A y.K.n y.K.c) ∧
    W.frozen? ⟨g, j * 4, none⟩ = false ∧ W.frozen? ⟨g, j * 4 + 1, none⟩ = false ∧ W.frozen? ⟨g, j * 4 + 2, none⟩ = false ∧ W.frozen? ⟨g, j * 4 + 3, none⟩ = false := by
  obtain ⟨g', hA', _, _, hb⟩ := h.row hj
  obtain rfl : g = g' := by
    rw [hA] at hA'
    injection hA' with h1
    injection h1 with h1
    injection h1
  have hc : cur[j]? = some y := by rw [h.rest j (Nat.le_refl _), hy]
  obtain ⟨hjc, hcy⟩ := List.getElem?_eq_some_iff.1 hc
  have key : ∀ i, i < 4 → W.cell? ⟨g, j * 4 + i, none⟩ = y.cells[i]? := fun i hi => by rw [hb.at, flatV_get cur j i hjc hi, hcy]
  exact ⟨key 0 (by decide), key 1 (by decide), key 2 (by decide), key 3 (by decide), hb.free _, hb.free _, hb.free _, hb.free _⟩
theorem enters_Clone : ∀ args w, (callFunc 18 args).run Try.prog w = .ok (.enter 18 args) w := enters_of Try.func18 (by kernel_rfl) rfl
set_option maxRecDepth 100000 in
set_option maxHeartbeats 4000000 in
theorem clone_any : ∀ t, CloneAt t := by
  refine TT.ind fun nn bb d ks ih => ?_
  intro v w P hR hw
  rw [wT] at hw
  have hwl := wL_len ks
  obtain ⟨rfl, rfl, hnum, hdn, hD, hkn, xs, hxl, hK, hr⟩ := hR.inv
  obtain ⟨RR, hRR⟩ : ∃ RR : Ending → World → Prop, RR = fun e w' => ∃ x : TV, e = .returned x.val ∧ Seg w' w.heap.size w'.heap.size x (.nd v.num v.bl d ks) ∧ Below w.heap.size w w' := ⟨_, rfl⟩
  rw [← hRR]
  have HRR := hid hRR
  obtain ⟨hb1, h1⟩ := box_new w v
  obtain ⟨hb2, h2⟩ := box_new (w.alloc (.cells v.cells.toArray 26)) TV.zero
  have hb := hb1.trans (hb2.mono hb1.size)
  have h1 : BoxT ((w.alloc (.cells v.cells.toArray 26)).alloc (.cells TV.zero.cells.toArray 26)) w.heap.size v := Blk.keep h1 hb2
  rw [World.size_alloc] at h2
  have hsz : ((w.alloc (.cells v.cells.toArray 26)).alloc (.cells TV.zero.cells.toArray 26)).heap.size = w.heap.size + 2 := by simp
  have HOb := hid (fun W (hW : Below w.heap.size w W) => own_byte P v.D _ W (hD.keep hW) (by rw [hdn]; simp) (by omega) (ones_B d))
  have HOt := hid (fun W (hW : Below w.heap.size w W) => own_Tree P v.K _ W (hK.keep hW) (by rw [hkn, flatV_len, hxl]) (by omega) (ones_V xs))
  have HN := hid (And.intro hnum (And.intro hdn (And.intro hkn (And.intro hxl (And.intro hw hwl)))))
  have HIh := hid (fun j (h1 : j < xs.length) (h2 : j < ks.length) => And.intro (ih ks[j] (List.getElem_mem _)) (hr j h1 h2))
  have hvc : v.cells.toArray = #[.int .u64 (v.num : Int), .bool v.bl, .slice v.D.A v.D.n v.D.c, .slice v.K.A v.K.n v.K.c] := rfl
  have hzc : TV.zero.cells.toArray = #[.int .u64 0, .bool false, .slice none 0 0, .slice none 0 0] := rfl
  rw [hvc, hzc] at hb h1 h2 hsz
  have HB := hid hb
  have H1 := hid h1
  have H2 := hid h2
  have HS := hid hsz
  obtain ⟨x0, x1, x2, x3⟩ := h1.four
  clear ih hr hRR hb1 hb2 hb h1 h2 hsz hD hK hR hvc hzc hnum hdn hkn hw hwl
  unfold TV.val
  unfold SV.val at HOb HOt
  obtain ⟨num, bl, ⟨DA, Dn, Dc⟩, ⟨KA, Kn, Kc⟩⟩ := v
  simp only at *
  go_enter Try.func18, Try.ntmps18
  go_upto_region 1 with (fail)
  generalize (w.alloc (.cells #[.int .u64 (num : Int), .bool bl, .slice DA Dn Dc, .slice KA Kn Kc] 26)).alloc (.cells #[.int .u64 0, .bool false, .slice none 0 0, .slice none 0 0] 26) = w1 at *
  go_cut [] from 5 to 12 (fun wx => ∃ (D K : SV) (mid : Nat), Hid (Below w.heap.size w wx) ∧ Hid (Blk wx w.heap.size 26 [.int .u64 (num : Int), .bool bl, .slice D.A D.n D.c, .slice K.A K.n K.c]) ∧ Hid (Blk wx (w.heap.size + 1) 26 [.int .u64 0, .bool false, .slice none 0 0, .slice none 0 0]) ∧ Hid (Mine wx (w.heap.size + 2) mid 5 D d.length (d.map isB)) ∧ Hid (Mine wx (w.heap.size + 2) mid 26 K ks.length (flatV xs)) ∧ Hid (mid ≤ wx.heap.size) ∧ Hid (w.heap.size + 2 ≤ mid))
  case first =>
    go_region_with (first
      | ((with_reducible refine (HOb.out _ (below_draw HB.out)).mono ?_); rintro e w2 ⟨⟨DA2, Dn2, Dc2⟩, rfl, hDn, hb2, hDo⟩; have hb2' := (show Below w1.heap.size w1 w2 from ⟨hb2.os, hb2.tape, hb2.output, hb2.size, hb2.block⟩); have HB2 := hid (HB.out.trans (hb2'.mono HB.out.size)); have H12 := hid (Blk.keep H1.out hb2'); have H22 := hid (Blk.keep H2.out hb2'); have HMd := hid (mine_of (lo := w.heap.size + 2) HN.out.2.1 hDn hDo (Nat.le_of_eq HS.out.symm)); have HL2 := hid (Nat.le_trans (Nat.le_of_eq HS.out.symm) hb2'.size); clear hDn hb2 hDo hb2' x0 x1 x2 x3; unfold SV.val; dsimp only; have x2 := Blk.at H12.out 2; have x3 := Blk.at H12.out 3; simp only [TV.cells, List.getElem?_cons_zero, List.getElem?_cons_succ] at x2 x3)
      | ((with_reducible refine (HOt.out _ HB2.out).mono ?_); rintro e w3 ⟨⟨KA2, Kn2, Kc2⟩, rfl, hKn, hb3, hKo⟩; have HB3 := hid (HB2.out.trans (hb3.mono HB2.out.size)); have H13 := hid (Blk.keep H12.out hb3); have H23 := hid (Blk.keep H22.out hb3); have HL3 := hid hb3.size; have HMk := hid (mine_of (lo := w.heap.size + 2) HN.out.2.2.1 hKn hKo HL2.out); have HMd3 := hid (Mine.wide (HMd.out.mono (fun b _ hl => hb3.block b hl)) (Nat.le_refl _) hb3.size); clear hKn hb3 hKo x2 x3; unfold SV.val; dsimp only; have x2 := Blk.at H13.out 2; have x3 := Blk.at H13.out 3; simp only [TV.cells, List.getElem?_cons_zero, List.getElem?_cons_succ] at x2 x3; have f2 := Blk.free H13.out 2; have f3 := Blk.free H13.out 3; have hq := Blk.put H13.out 2 (.slice DA2 Dn2 Dc2); have x4 := Blk.at hq 3; have f4 := Blk.free hq 3; simp only [TV.cells, List.set_cons_zero, List.set_cons_succ, List.getElem?_cons_zero, List.getElem?_cons_succ] at x4; clear hq))
    all_goals
      go_wp2_with fail
      go_meet
      have hk : ∀ b, w.heap.size + 2 ≤ b → b < w3.heap.size → ((w3.setCell ⟨w.heap.size, 2, none⟩ (.slice DA2 Dn2 Dc2)).setCell ⟨w.heap.size, 3, none⟩ (.slice KA2 Kn2 Kc2)).heap[b]? = w3.heap[b]? := fun b h1 h2 => by
        rw [Below.heap_setCell _ _ _ _ (by simp only; omega), Below.heap_setCell _ _ _ _ (by simp only; omega)]
      refine ⟨⟨DA2, Dn2, Dc2⟩, ⟨KA2, Kn2, Kc2⟩, w3.heap.size, hid (below_set (below_set HB3.out _ _ (Nat.le_refl _) _) _ _ (Nat.le_refl _) _), hid ?_, hid ((Blk.other (Blk.other H23.out (by simp) _) (by simp) _)), hid (HMd3.out.mono hk), hid (HMk.out.mono hk), hid (by simp [World.setCell]), hid (Nat.le_trans HL2.out HL3.out)⟩
      have := Blk.put (Blk.put H13.out 2 (.slice DA2 Dn2 Dc2)) 3 (.slice KA2 Kn2 Kc2)
      simpa [TV.cells] using this
  case rest =>
    obtain ⟨⟨DA2, Dn2, Dc2⟩, ⟨KA2, Kn2, Kc2⟩, mid, HBc, Hbx, Hbz, HMd, HMk, Hmid, Hlm⟩ := hcut
    clear HB H1 H2 HS x0 x1 x2 x3 HOb HOt
    have y0 := Blk.at Hbx.out 0
    have y1 := Blk.at Hbx.out 1
    have y2 := Blk.at Hbx.out 2
    have y3 := Blk.at Hbx.out 3
    simp only [List.getElem?_cons_zero, List.getElem?_cons_succ] at y0 y1 y2 y3
    have HCk := hid (show CkS w ⟨num, bl, ⟨DA, Dn, Dc⟩, ⟨KA, Kn, Kc⟩⟩ ⟨DA2, Dn2, Dc2⟩ ⟨KA2, Kn2, Kc2⟩ mid d xs ks 0 xs (fun _ => mid) wc from ⟨HBc.out, Hbx.out, Hbz.out, HMd.out, HMk.out, Hlm.out, HN.out.2.2.2.1, fun i _ => rfl, Nat.le_refl _, fun i h => absurd h (by omega), Hmid.out, fun i _ _ h => absurd h (by omega)⟩)
    obtain ⟨n, hn⟩ : ∃ n, ks.length = n := ⟨_, rfl⟩
    obtain rfl : Kn2 = n := HMk.out.1.trans hn
    have HNn := hid hn
    have hnb : Kn2 ≤ 1048576 := by have := HN.out; omega
    clear HBc Hbx Hbz HMd HMk Hmid Hlm hn
    go_wp2_with fail
    go_loopw [16] (fun i wr => ∃ (j : Nat) (cur : List TV) (m : Nat → Nat), j ≤ Kn2 ∧ i = .int .i64 j ∧ Hid (CkS w ⟨num, bl, ⟨DA, Dn, Dc⟩, ⟨KA, Kn, Kc⟩⟩ ⟨DA2, Dn2, Dc2⟩ ⟨KA2, Kn2, Kc2⟩ mid d xs ks j cur m wr)) (fun i _ => Kn2 - (intOf i).toNat)
    case atStart => exact ⟨0, _, _, by omega, rfl, HCk⟩
    case round =>
      clear HCk y0 y1 y2 y3
      obtain ⟨j, cur, m, hj, rfl, HC⟩ := hrel
      by_cases hlt : j < Kn2
      · have hlt' : (j : Int) < (Kn2 : Int) := by omega
        have hjk : j < ks.length := by rw [HNn.out]; exact hlt
        have hjx : j < xs.length := by rw [HN.out.2.2.2.1]; exact hjk
        obtain ⟨g, hA, hg0, hgm, hblk⟩ := HC.out.row hjk
        injection hA with hA hcn hcc
        clear hcn
        have hcc : Kc2 = Kn2 := hcc.trans HNn.out
        subst hA hcc
        have hcj : cur[j]? = some xs[j] := by rw [HC.out.rest j (Nat.le_refl _), List.getElem?_eq_getElem hjx]
        have hjc : j < cur.length := (List.getElem?_eq_some_iff.1 hcj).1
        obtain ⟨y, hy⟩ : ∃ y, y = xs[j] := ⟨_, rfl⟩
        rw [← hy] at hcj
        have hcy : cur[j] = y := (List.getElem?_eq_some_iff.1 hcj).2
        have hrg : wr.rangeAt g (j * 4) y.cells := fun i u hu => by
          have hi : i < 4 := by
            have := (List.getElem?_eq_some_iff.1 hu).1
            rwa [TV.len] at this
          rw [hblk.at, flatV_get cur j i hjc hi, hcy, hu]
        obtain ⟨e0, e1, e2, e3⟩ := tv_range hrg
        have hbx := row_new wr 26 #[.int .u64 0, .bool false, .slice none 0 0, .slice none 0 0] y.cells.toArray
        have hX4 : Blk ((wr.alloc (.cells #[.int .u64 0, .bool false, .slice none 0 0, .slice none 0 0] 26)).setRow wr.heap.size y.cells.toArray) wr.heap.size 26 y.cells := setRow_heap _ _ _ _ _ (0, 0) (heap_alloc_new wr _)
        obtain ⟨W4, hW4⟩ : ∃ W4, W4 = (wr.alloc (.cells #[.int .u64 0, .bool false, .slice none 0 0, .slice none 0 0] 26)).setRow wr.heap.size y.cells.toArray := ⟨_, rfl⟩
        rw [← hW4] at hbx hX4
        have HC4 := hid (HC.out.keep (by omega) hbx)
        have hx4 : BoxT W4 wr.heap.size y := hX4
        obtain ⟨z0, z1, z2, z3⟩ := hx4.four
        have b3 := Blk.at HC4.out.bx 3
        simp only [List.getElem?_cons_zero, List.getElem?_cons_succ] at b3
        have HSf := hid (tv_size y)
        have HOf := hid (tv_one y)
        have HW4 := hid hW4
        have HCl := hid ((HIh.out j hjx hjk).1 y W4.drew P (by rw [hy]; exact (HIh.out j hjx hjk).2.mono (fun b _ hl => (below_draw HC4.out.bel).block b hl) (below_draw HC4.out.bel).size (fun _ h _ => h)) (by have := wL_get hjk; have := HN.out; omega))
        unfold TV.val at HCl
        have HY := hid (show xs[j]? = some y by rw [List.getElem?_eq_getElem hjx, hy])
        have HJ := hid (And.intro hjk hjx)
        clear hcc hcj hjc hy hcy hrg hbx hX4 hW4 hx4 hblk hg0 hgm HC
        go_upto_region 5 with (first
          | ((with_reducible refine wpList_store_row rfl 26 _ _ rfl wr.heap.size y.cells.toArray ?_ ?_ 26 #[.int .u64 0, .bool false, .slice none 0 0, .slice none 0 0] (heap_alloc_new wr _) HSf.out ?_ HOf.out ?_); exact rfl; exact rfl; exact rfl; rw [← HW4.out]))
        go_region_with (first
          | ((with_reducible refine HCl.out.mono ?_); rintro e w6 ⟨q, rfl, hseg, hb6⟩; have hb6' := (show Below W4.heap.size W4 w6 from ⟨hb6.os, hb6.tape, hb6.output, hb6.size, hb6.block⟩); have HC6 := hid (HC4.out.keep (Nat.le_of_lt HJ.out.1) hb6'); have HP := hid (HC6.out.put rfl HJ.out.1 W4.heap.size HC4.out.mj hseg); clear hb6 hb6' hseg z0 z1 z2 z3 b3; have b3 := Blk.at HC6.out.bx 3; simp only [List.getElem?_cons_zero, List.getElem?_cons_succ] at b3; obtain ⟨r0, r1, r2, r3, f0, f1, f2, f3⟩ := ck_cells HC6.out rfl HJ.out.1 HY.out; (try unfold TV.val); (try dsimp only)))
        all_goals
          obtain ⟨m', hP⟩ := HP.out
          have HP2 := hid hP
          clear hP HP HC6 HC4 HCl r0 r1 r2 r3 f0 f1 f2 f3 b3
          go_wp2_with fail
          exact ⟨⟨j + 1, cur.set j q, m', by omega, by go_num, HP2⟩, by simp [intOf]; omega⟩
      · obtain rfl : j = Kn2 := by omega
        have HC2 := hid (show CkS w ⟨num, bl, ⟨DA, Dn, Dc⟩, ⟨KA, Kn, Kc⟩⟩ ⟨DA2, Dn2, Dc2⟩ ⟨KA2, j, Kc2⟩ mid d xs ks ks.length cur m wr by rw [HNn.out]; exact HC.out)
        have HSg := hid (HC2.out.done HN.out.1)
        obtain ⟨x0, x1, x2, x3⟩ := BoxT.four (v := ⟨num, bl, ⟨DA2, Dn2, Dc2⟩, ⟨KA2, j, Kc2⟩⟩) HC2.out.bx
        have HSz := hid (show (Try.prog.info? 26).map (·.size) = some (#[.int .u64 (num : Int), .bool bl, .slice DA2 Dn2 Dc2, .slice KA2 j Kc2] : Array Value).size from tv_size ⟨num, bl, ⟨DA2, Dn2, Dc2⟩, ⟨KA2, j, Kc2⟩⟩)
        have HOne := hid (show (#[.int .u64 (num : Int), .bool bl, .slice DA2 Dn2 Dc2, .slice KA2 j Kc2] : Array Value).all (·.oneCell') = true from tv_one ⟨num, bl, ⟨DA2, Dn2, Dc2⟩, ⟨KA2, j, Kc2⟩⟩)
        have HBz := hid (show wr.heap[w.heap.size + 1]? = some (.cells #[.int .u64 0, .bool false, .slice none 0 0, .slice none 0 0] 26 (0, 0)) from HC2.out.bz)
        have HF := hid (setRow_heap wr (w.heap.size + 1) _ #[.int .u64 (num : Int), .bool bl, .slice DA2 Dn2 Dc2, .slice KA2 j Kc2] _ _ HC2.out.bz)
        go_wp2_with ((with_reducible refine wpList_store_row rfl 26 _ _ rfl (w.heap.size + 1) #[.int .u64 (num : Int), .bool bl, .slice DA2 Dn2 Dc2, .slice KA2 j Kc2] ?_ ?_ 26 #[.int .u64 0, .bool false, .slice none 0 0, .slice none 0 0] HBz.out HSz.out ?_ HOne.out ?_); exact rfl; exact rfl; exact rfl)
        refine bodyPost_ret (v := .agg #[.int .u64 (num : Int), .bool bl, .slice DA2 Dn2 Dc2, .slice KA2 j Kc2]) (results_cell_row (P := Try.prog) (fn := Try.f18) rfl _ _ (w.heap.size + 1) 26 #[.int .u64 (num : Int), .bool bl, .slice DA2 Dn2 Dc2, .slice KA2 j Kc2] (0, 0) _ rfl HF.out Try.underlying26 rfl (by kernel_rfl)) rfl ?_
        rw [HRR.out]
        have hsz : (wr.setRow (w.heap.size + 1) #[.int .u64 (num : Int), .bool bl, .slice DA2 Dn2 Dc2, .slice KA2 j Kc2]).heap.size = wr.heap.size := by simp [World.setRow]
        refine ⟨⟨num, bl, ⟨DA2, Dn2, Dc2⟩, ⟨KA2, j, Kc2⟩⟩, rfl, ?_, below_row HC2.out.bel (by omega) _⟩
        rw [hsz]
        exact (HSg.out.mono (fun b hb _ => setRow_other wr _ b _ (by omega))).wide (by omega) (Nat.le_refl _)
end Go.Proofs.Ytdhipmdapodpkaa
