/- regex: Check. -/
import Derived.Test.YtoiegkejkahfgaaDoorRe
import Derived.Test.YtoiegkejkahfgaaDoorRB
import Derived.Test.YtoiegkejkahfgaaDoorCls2
set_option linter.unusedVariables false
set_option linter.unusedSimpArgs false
namespace Go.Proofs.YtoiegkejkahfgaaDoor
open Go.RowKit

theorem box_new (w : World) (v : RV) : Below w.heap.size w (w.alloc (.cells v.cells.toArray 26)) ∧ Blk (w.alloc (.cells v.cells.toArray 26)) w.heap.size 26 v.cells :=
  ⟨(Below.refl _ _).alloc (Nat.le_refl _) _, heap_alloc_new w _⟩

set_option maxRecDepth 100000 in
set_option maxHeartbeats 2000000 in
theorem formed_any (v : RV) (w : World) : Calls Tryd.prog 66 #[v.val] w fun e w' => e = .returned (.bool (fmB v.k v.n)) ∧ Below w.heap.size w w' := by
  obtain ⟨hA, hN⟩ := box_new w v
  have HA := hid hA
  obtain ⟨x0, x1, x2, x3, x4, x5, x6, x7⟩ := Blk.cells8' hN
  clear hA hN
  rw [RV.val_eq]
  generalize v.cells.toArray = cs at *
  obtain ⟨k, s, A, n, c, lo, hi⟩ := v
  simp only at *
  by_cases h1 : k = 1
  · subst h1
    go_enter Tryd.func66, Tryd.ntmps66
    go_wp2
    go_ret
    exact ⟨ret_bool (by rw [Bool.eq_iff_iff]; simp [fmB] <;> omega), HA.out⟩
  by_cases h2 : k = 2
  · subst h2
    go_enter Tryd.func66, Tryd.ntmps66
    go_wp2
    go_ret
    exact ⟨ret_bool (by rw [Bool.eq_iff_iff]; simp [fmB] <;> omega), HA.out⟩
  by_cases h3 : k = 3
  · subst h3
    go_enter Tryd.func66, Tryd.ntmps66
    go_wp2
    go_ret
    exact ⟨ret_bool (by rw [Bool.eq_iff_iff]; simp [fmB] <;> omega), HA.out⟩
  by_cases h4 : k = 4
  · subst h4
    go_enter Tryd.func66, Tryd.ntmps66
    go_wp2
    go_ret
    exact ⟨ret_bool (by rw [Bool.eq_iff_iff]; simp [fmB] <;> omega), HA.out⟩
  by_cases h5 : k = 5
  · subst h5
    go_enter Tryd.func66, Tryd.ntmps66
    go_wp2
    go_ret
    exact ⟨ret_bool (by rw [Bool.eq_iff_iff]; simp [fmB] <;> omega), HA.out⟩
  · go_enter Tryd.func66, Tryd.ntmps66
    go_wp2
    go_ret
    exact ⟨by simp [fmB, h1, h2, h3, h4, h5], HA.out⟩
/-- The error of one, whatever its parts are, of its value. -/
def ckV (v : RV) : Nat := ckF v.k v.s v.n v.lo v.hi
theorem ckV_rep {w : World} {P : Nat → Prop} {v : RV} {t : RT} (h : Rep w P v t) : ckV v = ck1 t := by
  cases h with
  | mk v ks vs hn hA hk => show ckF v.k v.s v.n v.lo v.hi = ckF v.k v.s ks.length v.lo v.hi; rw [hn]

set_option maxRecDepth 100000 in
set_option maxHeartbeats 4000000 in
theorem checkOne_any (v : RV) (w : World) : Calls Tryd.prog 50 #[v.val] w fun e w' => e = .returned (.int .i64 (ckV v : Nat)) ∧ Below w.heap.size w w' := by
  obtain ⟨hA, hN⟩ := box_new w v
  have HF := hid (fun W => formed_any v W)
  have HA := hid hA
  have HC := hid (fun W => check_any v.s W)
  have HX : Hid (∀ W : World, Below (w.alloc (.cells v.cells.toArray 26)).heap.size (w.alloc (.cells v.cells.toArray 26)) W → _) := hid (fun W hb => Blk.cells8' (v := v) (hN.keep hb))
  clear hA
  have hx := Blk.cells8' (v := v) hN
  clear hN
  have HVA := hid v.val_eq
  unfold RV.val at HF ⊢
  unfold setV at HC
  rw [show (#[.int .i64 v.k, .int .u64 ((wd v.s 0 : Nat) : Int), .int .u64 ((wd v.s 1 : Nat) : Int), .int .u64 ((wd v.s 2 : Nat) : Int), .int .u64 ((wd v.s 3 : Nat) : Int), .slice v.A v.n v.c, .int .i64 v.lo, .int .i64 v.hi] : Array Value) = v.cells.toArray from rfl]
  go_enter Tryd.func50, Tryd.ntmps50
  go_upto_region 1 with (fail)
  change Code.wp _ _ _ _ (w.alloc (.cells v.cells.toArray 26))
  generalize w.alloc (.cells v.cells.toArray 26) = w1 at *
  obtain ⟨k, s, A, n, c, lo, hi⟩ := v
  simp only at HF HC HX hx
  obtain ⟨x0, x1, x2, x3, x4, x5, x6, x7⟩ := hx
  go_wp2_with fail
  refine (HF.out _).mono ?_
  rintro e w2 ⟨rfl, hb2⟩
  have HB2 := hid (HA.out.trans (hb2.mono HA.out.size))
  clear x0 x1 x2 x3 x4 x5 x6 x7
  obtain ⟨x0, x1, x2, x3, x4, x5, x6, x7⟩ := HX.out _ hb2
  clear hb2 HX HF
  cases hf : fmB k n
  · go_wp2
    go_ret
    exact ⟨by simp [ckV, ckF, hf], HB2.out⟩
  by_cases h2 : k = 2
  · subst h2
    by_cases hs : s = 0#256
    · rw [if_pos hs] at HC
      have HCK := hid (show ckV ⟨2, s, A, n, c, lo, hi⟩ = 160 by simp [ckV, ckF, hf, hs])
      clear hs
      go_wp2_with fail
      refine (HC.out _).mono ?_
      rintro e w3 ⟨rfl, hb3⟩
      have HB3 := hid (HB2.out.trans (hb3.mono HB2.out.size))
      clear hb3
      go_wp2
      go_ret
      exact ⟨by rw [HCK.out]; rfl, HB3.out⟩
    · rw [if_neg hs] at HC
      have HCK := hid (show ckV ⟨2, s, A, n, c, lo, hi⟩ = 0 by simp [ckV, ckF, hf, hs])
      clear hs
      go_wp2_with fail
      refine (HC.out _).mono ?_
      rintro e w3 ⟨rfl, hb3⟩
      have HB3 := hid (HB2.out.trans (hb3.mono HB2.out.size))
      clear hb3
      go_wp2
      go_ret
      exact ⟨by rw [HCK.out]; rfl, HB3.out⟩
  by_cases h5 : k = 5
  · subst h5
    by_cases c0 : lo < 0
    · have HCK := hid (show ckV ⟨5, s, A, n, c, lo, hi⟩ = 1 by unfold ckV ckF; rw [if_pos hf, if_neg (show ¬ (5 : Int) = 2 by decide), if_pos rfl, if_pos (by simp only; omega)])
      go_wp2
      go_ret
      exact ⟨by rw [HCK.out]; rfl, HB2.out⟩
    by_cases c1 : 256 < lo
    · have HCK := hid (show ckV ⟨5, s, A, n, c, lo, hi⟩ = 1 by unfold ckV ckF; rw [if_pos hf, if_neg (show ¬ (5 : Int) = 2 by decide), if_pos rfl, if_pos (by simp only; omega)])
      go_wp2
      go_ret
      exact ⟨by rw [HCK.out]; rfl, HB2.out⟩
    by_cases c2 : 256 < hi
    · have HCK := hid (show ckV ⟨5, s, A, n, c, lo, hi⟩ = 1 by unfold ckV ckF; rw [if_pos hf, if_neg (show ¬ (5 : Int) = 2 by decide), if_pos rfl, if_pos (by simp only; omega)])
      go_wp2
      go_ret
      exact ⟨by rw [HCK.out]; rfl, HB2.out⟩
    by_cases c3 : 0 ≤ hi
    · by_cases c4 : hi < lo
      · have HCK := hid (show ckV ⟨5, s, A, n, c, lo, hi⟩ = 1 by unfold ckV ckF; rw [if_pos hf, if_neg (show ¬ (5 : Int) = 2 by decide), if_pos rfl, if_pos (by simp only; omega)])
        go_wp2
        go_ret
        exact ⟨by rw [HCK.out]; rfl, HB2.out⟩
      · have HCK := hid (show ckV ⟨5, s, A, n, c, lo, hi⟩ = 0 by unfold ckV ckF; rw [if_pos hf, if_neg (show ¬ (5 : Int) = 2 by decide), if_pos rfl, if_neg (by simp only; omega)])
        go_wp2
        go_ret
        exact ⟨by rw [HCK.out]; rfl, HB2.out⟩
    · have HCK := hid (show ckV ⟨5, s, A, n, c, lo, hi⟩ = 0 by unfold ckV ckF; rw [if_pos hf, if_neg (show ¬ (5 : Int) = 2 by decide), if_pos rfl, if_neg (by simp only; omega)])
      go_wp2
      go_ret
      exact ⟨by rw [HCK.out]; rfl, HB2.out⟩
  · go_wp2
    go_ret
    exact ⟨by simp [ckV, ckF, hf, h2, h5], HB2.out⟩

end Go.Proofs.YtoiegkejkahfgaaDoor

/- regex: Check, part by part. -/
namespace Go.Proofs.YtoiegkejkahfgaaDoor
open Go.RowKit

/-- What a value stands for, taken apart. -/
theorem Rep.inv {w : World} {P : Nat → Prop} {v : RV} {k : Int} {s : BS} {ks : List RT} {lo hi : Int} (h : Rep w P v (.nd k s ks lo hi)) :
    v.k = k ∧ v.s = s ∧ v.lo = lo ∧ v.hi = hi ∧ ks.length = v.n ∧ ∃ vs : Nat → RV, (0 < v.n → ∃ b o, v.A = some ⟨b, o, none⟩ ∧ b < w.heap.size ∧ P b ∧ ∀ j, j < v.n → RowAt w b (o + j * 8) (vs j).cells) ∧ ∀ j (h : j < ks.length), Rep w P (vs j) ks[j] := by
  cases h with
  | mk v ks vs hn hA hk => exact ⟨rfl, rfl, rfl, rfl, hn, vs, hA, hk⟩
theorem Rep.keep {w w' : World} {P : Nat → Prop} {v : RV} {t : RT} (h : Rep w P v t) (hb : Below w.heap.size w w') : Rep w' P v t := h.mono hb.size (fun b _ hl => hb.block b hl) (fun _ h _ => h)
theorem Rep.step {w w' : World} {P : Nat → Prop} {g : Nat} {v : RV} {t : RT} (h : Rep w P v t) (hg : w.grownBy w' (some g)) (hP : ∀ b, P b → b ≠ g) : Rep w' P v t := h.mono hg.size (fun b hb hl => hg.block b hl (by intro e; injection e with e; exact hP b hb (by omega))) (fun _ h _ => h)
theorem szL_take (ks : List RT) (j : Nat) (h : j < ks.length) : szL (ks.take (j + 1)) = szL (ks.take j) + szT ks[j] := by
  rw [List.take_succ_eq_append_getElem h, szL_snoc]
theorem szL_take_le (ks : List RT) (j : Nat) : szL (ks.take j) ≤ szL ks := by
  induction ks generalizing j with
  | nil => simp
  | cons t ts ih =>
    cases j with
    | zero => simp [szL]
    | succ j =>
      rw [List.take_succ_cons, szL, szL]
      have := ih j
      omega
theorem szT_pos (t : RT) : 1 ≤ szT t := by
  cases t
  rw [szT]
  omega
theorem szL_len (ks : List RT) : ks.length ≤ szL ks := by
  induction ks with
  | nil => simp [szL]
  | cons t ts ih =>
    rw [szL]
    have := szT_pos t
    simp
    omega
theorem wgL_take {ks : List RT} (h : ∀ j (hj : j < ks.length), wgT ks[j] = 0) : wgL ks = 0 := by
  refine wgL_all fun t ht => ?_
  obtain ⟨j, hj, rfl⟩ := List.getElem_of_mem ht
  exact h j hj
theorem wgL_first {ks : List RT} {j : Nat} (hj : j < ks.length) (h : ∀ i (hi : i < ks.length), i < j → wgT ks[i] = 0) (hn : wgT ks[j] ≠ 0) : wgL ks = wgT ks[j] := by
  induction ks generalizing j with
  | nil => simp at hj
  | cons t ts ih =>
    cases j with
    | zero =>
      have hn : wgT t ≠ 0 := hn
      rw [wgL, if_pos hn]; rfl
    | succ j =>
      have h0 := h 0 (by simp) (by omega)
      rw [wgL, if_neg (by simpa using h0)]
      exact ih (by simpa using hj) (fun i hi hij => h (i + 1) (by simpa using hi) (by omega)) hn
set_option maxRecDepth 100000 in
set_option maxHeartbeats 4000000 in
theorem ckr_any : ∀ (t : RT) (v : RV) (w : World) (g cnt : Nat) (P : Nat → Prop), Rep w P v t → (∀ b, P b → b ≠ g) → Blk w g 3 [.int .i64 (cnt : Int)] → cnt + szT t ≤ 512 →
    Calls Tryd.prog 34 #[v.val, .pointer (some ⟨g, 0, none⟩)] w fun e w' => e = .returned (.int .i64 (wgT t : Nat)) ∧ w.grownBy w' (some g) ∧ ∃ c : Nat, Blk w' g 3 [.int .i64 (c : Int)] ∧ (wgT t = 0 → c = cnt + szT t) := by
  refine RT.ind fun k s ks lo hi ih => ?_
  intro v w g cnt P hR hP hg hcnt
  have hck := ckV_rep hR
  obtain ⟨rfl, rfl, rfl, rfl, hn, vs, hA, hk⟩ := hR.inv
  obtain ⟨T, hT⟩ : ∃ T, T = RT.nd v.k v.s ks v.lo v.hi := ⟨_, rfl⟩
  rw [← hT] at hck hR hcnt ⊢
  have hsz : szT T = 1 + szL ks := by rw [hT, szT]
  have hwg : wgT T = if ck1 T ≠ 0 then ck1 T else wgL ks := by rw [hT, wgT]
  clear hT
  have hgw := hg.lt
  obtain ⟨hb, hN⟩ := box_new w v
  have HO := hid (fun W => checkOne_any v W)
  have hg1 := hg.keep hb
  have HX := hid hN
  have hx := Blk.cells8' (v := v) hN
  have hs1 : (w.alloc (.cells v.cells.toArray 26)).heap.size = w.heap.size + 1 := by simp
  have HB := hid hb
  have HK := hid (fun j (h : j < ks.length) => (hk j h).keep hb)
  have HA0 := hid (show 0 < v.n → ∃ b o, v.A = some ⟨b, o, none⟩ ∧ b < w.heap.size ∧ P b ∧ ∀ j, j < v.n → RowAt (w.alloc (.cells v.cells.toArray 26)) b (o + j * 8) (vs j).cells from fun h => by
    obtain ⟨b, o, e, hl, hp, hc⟩ := hA h
    exact ⟨b, o, e, hl, hp, fun j hj => (hc j hj).block (hb.block b hl)⟩)
  clear hN hb hA hk hg
  unfold RV.val at HO ⊢
  rw [show (#[.int .i64 v.k, .int .u64 ((wd v.s 0 : Nat) : Int), .int .u64 ((wd v.s 1 : Nat) : Int), .int .u64 ((wd v.s 2 : Nat) : Int), .int .u64 ((wd v.s 3 : Nat) : Int), .slice v.A v.n v.c, .int .i64 v.lo, .int .i64 v.hi] : Array Value) = v.cells.toArray from rfl]
  go_enter Tryd.func34, Tryd.ntmps34
  go_upto_region 1 with (fail)
  change Code.wp _ _ _ _ (w.alloc (.cells v.cells.toArray 26))
  generalize w.alloc (.cells v.cells.toArray 26) = w1 at *
  obtain ⟨x0, x1, x2, x3, x4, x5, x6, x7⟩ := hx
  have hc0 := hg1.at 0
  have hf0 := hg1.free 0
  have HG2 := hid (hg1.put 0 (.int .i64 ((cnt : Int) + 1)))
  have HX2 := hid ((Below.heap_setCell w1 ⟨g, 0, none⟩ (.int .i64 ((cnt : Int) + 1)) w.heap.size (by show w.heap.size ≠ g; omega)).trans HX.out)
  have HGr := hid (grown_set1 w1 g 0 (.int .i64 ((cnt : Int) + 1)))
  have hsz1 : 1 ≤ szT T := szT_pos T
  go_wp2_with fail
  clear x0 x1 x2 x3 x4 x5 x6 x7
  obtain ⟨x0, x1, x2, x3, x4, x5, x6, x7⟩ := Blk.cells8' HX2.out
  generalize w1.setCell ⟨g, 0, none⟩ (.int .i64 ((cnt : Int) + 1)) = w2 at *
  go_wp2_with fail
  refine (HO.out _).mono ?_
  rintro e w3 ⟨rfl, hb3⟩
  have HX3 := hid ((hb3.block _ (Blk.lt HX2.out)).trans HX2.out)
  have HG3 := hid ((hb3.block _ (Blk.lt HG2.out)).trans HG2.out)
  have HGr3 := hid (grown_trans HGr.out (grown_of_below hb3 (some g)))
  clear x0 x1 x2 x3 x4 x5 x6 x7 hc0 hf0 hb3 HG2 HX2 HGr hg1
  obtain ⟨x0, x1, x2, x3, x4, x5, x6, x7⟩ := Blk.cells8' HX3.out
  have HFin := hid (fun W (hW : w1.grownBy W (some g)) => grown_trans (grown_of_below HB.out (some g)) hW)
  rw [← hck] at hwg
  obtain ⟨q, hq⟩ : ∃ q, q = ckV v := ⟨_, rfl⟩
  rw [← hq] at hwg
  by_cases hq0 : q = 0
  · subst hq0
    rw [← hq]
    have HW := hid ((show wgT T = wgL ks by rw [hwg]; rfl))
    clear hq hwg hck HO
    have hn1 : v.n ≤ 511 := by
      have := szL_len ks
      omega
    go_wp2_with fail
    go_loopw [26] (fun i wr => ∃ j c : Nat, j ≤ v.n ∧ i = .int .i64 j ∧ Hid (∀ i (hi : i < ks.length), i < j → wgT ks[i] = 0) ∧ Hid (Blk wr g 3 [.int .i64 (c : Int)]) ∧ c = cnt + 1 + szL (ks.take j) ∧ Hid (w1.grownBy wr (some g))) (fun i _ => v.n - (intOf i).toNat)
    case atStart => exact ⟨0, cnt + 1, by omega, rfl, hid (fun i _ h => absurd h (by omega)), HG3, by rw [List.take_zero, szL], HGr3⟩
    case round =>
      clear x0 x1 x2 x3 x4 x5 x6 x7 HG3 HGr3 HX3 HX
      obtain ⟨j, c, hj, rfl, HZ, HC, hc, HG⟩ := hrel
      by_cases hlt : j < v.n
      · obtain ⟨b, o, hAe, hbl, hp, hrow⟩ := HA0.out (by omega)
        have hrw := (hrow j hlt).block (HG.out.block b (by omega) (by intro e; injection e with e; exact hP b hp (by omega)))
        obtain ⟨y0, y1, y2, y3, y4, y5, y6, y7⟩ := hrw.cells8
        have hjk : j < ks.length := by omega
        have htk := szL_take ks j hjk
        have hle := szL_take_le ks (j + 1)
        have hRk := (HK.out j hjk).step HG.out hP
        generalize hx : vs j = x at *
        have hbx := row_new wr 26 #[.int .i64 0, .int .u64 0, .int .u64 0, .int .u64 0, .int .u64 0, .slice none 0 0, .int .i64 0, .int .i64 0] x.cells.toArray
        have HX5 := hid (show Blk ((wr.alloc (.cells #[.int .i64 0, .int .u64 0, .int .u64 0, .int .u64 0, .int .u64 0, .slice none 0 0, .int .i64 0, .int .i64 0] 26)).setRow wr.heap.size x.cells.toArray) wr.heap.size 26 x.cells from setRow_heap _ _ _ _ _ (0, 0) (heap_alloc_new wr _))
        have HSz := hid (rx_size x)
        have HOne := hid (rx_one x)
        have HIH := hid (ih ks[j] (List.getElem_mem _) x _ g c P (hRk.keep hbx) hP (HC.out.keep hbx) (by omega))
        have HG5 := hid (grown_trans HG.out (grown_of_below hbx (some g)))
        clear hRk hbx hrow hrw hR ih HK HA0 HC HG
        unfold RV.val at HIH
        rw [hAe]
        go_wp2_with (refine wpList_store_row rfl 26 _ _ rfl wr.heap.size x.cells.toArray ?_ ?_ 26 #[.int .i64 0, .int .u64 0, .int .u64 0, .int .u64 0, .int .u64 0, .slice none 0 0, .int .i64 0, .int .i64 0] (heap_alloc_new wr _) HSz.out ?_ HOne.out ?_; exact rfl; exact rfl; exact rfl; generalize (wr.alloc (.cells #[.int .i64 0, .int .u64 0, .int .u64 0, .int .u64 0, .int .u64 0, .slice none 0 0, .int .i64 0, .int .i64 0] 26)).setRow wr.heap.size x.cells.toArray = w5 at *; obtain ⟨x0, x1, x2, x3, x4, x5, x6, x7⟩ := Blk.cells8' HX5.out)
        refine HIH.out.mono ?_
        rintro e w6 ⟨rfl, hg6, c6, hC6, hc6⟩
        have HC6 := hid hC6
        have HG6 := hid (grown_trans HG5.out hg6)
        clear x0 x1 x2 x3 x4 x5 x6 x7 y0 y1 y2 y3 y4 y5 y6 y7 hC6 hg6 HIH HG5 HX5
        have HF := hid (fun h => wgL_first hjk HZ.out h)
        have HZ2 := hid (fun (h : wgT ks[j] = 0) i (hi : i < ks.length) (hij : i < j + 1) => (by
          by_cases e : i = j
          · subst e; exact h
          · exact HZ.out i hi (by omega) : wgT ks[i] = 0))
        generalize wgT ks[j] = z at *
        by_cases hz : z = 0
        · subst hz
          have hc7 := hc6 rfl
          go_wp2
          go_roundw
          case rel => exact ⟨j + 1, c6, by omega, by go_num, hid (HZ2.out trivial), HC6, by omega, HG6⟩
          case measure => simp [intOf]; omega
        · have hz' : ¬ (z : Int) = 0 := by omega
          have HFz := hid (HF.out hz)
          clear HF HZ2 HZ
          go_wp2
          go_ret
          exact ⟨by rw [HW.out, HFz.out]; rfl, HFin.out _ HG6.out, c6, HC6.out, fun h => absurd (HFz.out.symm.trans (HW.out.symm.trans h)) hz⟩
      · obtain rfl : j = v.n := by omega
        have HZ0 := hid (wgL_take (fun i hi => HZ.out i hi (by omega)))
        have htk : ks.take v.n = ks := List.take_of_length_le (by omega)
        rw [htk] at hc
        clear HZ htk
        go_wp2
        go_ret
        exact ⟨by rw [HW.out, HZ0.out]; rfl, HFin.out _ HG.out, c, HC.out, fun _ => by omega⟩
  · have hq' : ¬ (q : Int) = 0 := by omega
    rw [← hq]
    have HW := hid ((show wgT T = q by rw [hwg, if_pos hq0]))
    clear hq hwg hck HO
    go_wp2
    go_ret
    exact ⟨by rw [HW.out]; rfl, HFin.out _ HGr3.out, cnt + 1, HG3.out, fun h => absurd (HW.out.symm.trans h) hq0⟩

set_option maxRecDepth 100000 in
/-- Whether an expression may be. -/
theorem Check_any {w : World} {P : Nat → Prop} {v : RV} {t : RT} (h : Rep w P v t) (hP : ∀ b, P b → b < w.heap.size) (hs : szT t ≤ 512) :
    Calls Tryd.prog 17 #[v.val] w fun e w' => e = .returned (.int .i64 (wgT t : Nat)) ∧ Below w.heap.size w w' := by
  obtain ⟨hb, hN⟩ := box_new w v
  have hx := Blk.cells8' (v := v) hN
  have hs1 : (w.alloc (.cells v.cells.toArray 26)).heap.size = w.heap.size + 1 := by simp
  have HB := hid hb
  have HR := hid (h.keep hb)
  clear hN hb h
  unfold RV.val
  rw [show (#[.int .i64 v.k, .int .u64 ((wd v.s 0 : Nat) : Int), .int .u64 ((wd v.s 1 : Nat) : Int), .int .u64 ((wd v.s 2 : Nat) : Int), .int .u64 ((wd v.s 3 : Nat) : Int), .slice v.A v.n v.c, .int .i64 v.lo, .int .i64 v.hi] : Array Value) = v.cells.toArray from rfl]
  go_enter Tryd.func17, Tryd.ntmps17
  go_upto_region 1 with (fail)
  change Code.wp _ _ _ _ (w.alloc (.cells v.cells.toArray 26))
  generalize w.alloc (.cells v.cells.toArray 26) = w1 at *
  obtain ⟨x0, x1, x2, x3, x4, x5, x6, x7⟩ := hx
  go_wp2_with fail
  have hal : Below w1.heap.size w1 (w1.alloc (.cells #[.int .i64 0] 3)) := (Below.refl _ _).alloc (Nat.le_refl _) _
  have hbk : Blk (w1.alloc (.cells #[.int .i64 0] 3)) (w.heap.size + 1) 3 [.int .i64 ((0 : Nat) : Int)] := by rw [← hs1]; exact heap_alloc_new w1 _
  refine (ckr_any t v _ (w.heap.size + 1) 0 P (HR.out.keep hal) (fun b hb => by have := hP b hb; omega) hbk (by omega)).mono ?_
  rintro e w6 ⟨rfl, hg6, _⟩
  have HB6 := hid (below_grown (HB.out.trans (hal.mono HB.out.size)) hg6 (by simp; omega) (Nat.le_succ _))
  clear hal hbk hg6
  go_wp2
  go_ret
  exact ⟨rfl, HB6.out⟩
end Go.Proofs.YtoiegkejkahfgaaDoor
