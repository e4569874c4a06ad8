/- nfa: one edge more. -/
import Derived.Test.YtoiegkejkahfgaaDoorNfD
import Derived.Deep.CutBlock
import Derived.Deep.CutRange
namespace Go.Proofs.YtoiegkejkahfgaaDoor
set_option linter.unusedSimpArgs false
set_option linter.unusedVariables false
open Go.RowKit

variable {w w' w2 : World} {O : Nat → Prop} {v : Value} {E : EG} {vs : List Value} {g : Nat}
theorem StM.below {w1 : World} (h : StM w1 O g E w') (hb : Below w.heap.size w w1) : StM w O g E w' := by
  obtain ⟨O', h1, h2, h3⟩ := h
  exact ⟨O', h1, (Chg.of_below hb O).trans h2, fun b hb2 => (h3 b hb2).imp id (fun q => Nat.le_trans hb.size q)⟩
theorem EdV.outer (h : EdV w O v E vs) (hE : 0 < E.length) : ∃ gA c, v = .slice (some ⟨gA, 0, none⟩) E.length c ∧ gA < w.heap.size ∧ O gA ∧ (∀ j (hj : j < vs.length), w.cell? ⟨gA, j, none⟩ = some vs[j]) ∧ ∀ j, w.frozen? ⟨gA, j, none⟩ = false := by
  have hrow := h.row
  rcases hrow.2 with ⟨hv, hm⟩ | ⟨gA, cap, cur, hv, hb, hg, h1, h2, h3, h4⟩
  · omega
  · subst hv
    refine ⟨gA, cap, rfl, (Array.getElem?_eq_some_iff.1 hg).1, h.own gA rfl, fun j hj => ?_, fun j => Blk.free (t := 61) (cs := cur.toList) (by unfold Blk; simpa using hg) j⟩
    have := hrow.cells (g := gA) rfl j vs[j] (List.getElem?_eq_getElem hj)
    rw [addr_add, Nat.zero_add] at this
    exact this
/-- What stands behind the append of an edge. -/
theorem add_post {gA cA f m cI : Nat} {B : Option Addr} (hb : Blk w g 57 [.slice (some ⟨gA, 0, none⟩) E.length cA, .int .i64 0]) (hO : O g) (hv : EdV w O (.slice (some ⟨gA, 0, none⟩) E.length cA) E vs) (hf : f < E.length) (hfv : f < vs.length) (hB : vs[f] = .slice B m cI) (hm : m = E[f].length) (e : Ed)
    {g9 c9 : Nat} (hown : w'.ownsRow 0 63 6 (.slice (some ⟨g9, 0, none⟩) (m + 1) c9) (m + 1) (flatE E[f] ++ e.cells)) (hgr : (w.alloc (.cells e.cells.toArray 63)).grownBy w' (Value.slice B m cI).ownBlock) (hat : (Value.slice B m cI).ownBlock = some g9 ∨ g9 = (w.alloc (.cells e.cells.toArray 63)).heap.size) :
    w'.cell? ⟨g, 0, none⟩ = some (.slice (some ⟨gA, 0, none⟩) E.length cA) ∧ w'.cell? ⟨gA, f, none⟩ = some (.slice B m cI) ∧ w'.frozen? ⟨gA, f, none⟩ = false ∧ StM w O g (addE E f e) (w'.setCell ⟨gA, f, none⟩ (.slice (some ⟨g9, 0, none⟩) (m + 1) c9)) := by
  have hal := al_belowN w (.cells e.cells.toArray 63)
  have hv1 := hv.chg (Chg.of_below hal (fun _ => False)) (fun _ _ h => h)
  have hb1 := hb.keep hal
  have hk1 := hv1.kid f hfv hf
  rw [← hB] at hgr hat
  have hb2 : Blk w' g 57 [.slice (some ⟨gA, 0, none⟩) E.length cA, .int .i64 0] := (hgr.block g hb1.lt (fun e => own_neN hk1.1 hb1 (by decide) e.symm)).trans hb1
  have hr2 : w'.ownsRow 0 61 1 (.slice (some ⟨gA, 0, none⟩) E.length cA) E.length vs := owns_chg hv1.row (Chg.of_grown hgr) (fun k hk e => own_apartN hv1.row hk1.1 (by decide) k hk e)
  have hadd := hv1.add (w' := w') rfl hf hfv e (u' := .slice (some ⟨g9, 0, none⟩) (m + 1) c9) (by rw [← hm]; exact hown) hgr (by
    rcases hat with q | q
    · exact .inl q.symm
    · exact .inr (by rw [q]; rfl))
  have hcell : w'.cell? ⟨gA, f, none⟩ = some vs[f] := by
    have := hr2.cells (g := gA) rfl f vs[f] (List.getElem?_eq_getElem hfv)
    rw [addr_add, Nat.zero_add] at this
    exact this
  have hfr : w'.frozen? ⟨gA, f, none⟩ = false := by
    rcases hr2.2 with ⟨hv, _⟩ | ⟨g2, cap, cur, hv, _, hg, _⟩
    · cases hv
    · injection hv with e1 _ _
      injection e1 with e1
      injection e1 with e1
      subst e1
      exact Blk.free (t := 61) (cs := cur.toList) (by unfold Blk; simpa using hg) f
  have hne : g ≠ gA := fun e => own_neN hr2 hb2 (by decide) (by rw [e]; rfl)
  refine ⟨hb2.at 0, by rw [hcell, hB], hfr, (fun b => O b ∨ w.heap.size ≤ b), ⟨some ⟨gA, 0, none⟩, cA, vs.set f (.slice (some ⟨g9, 0, none⟩) (m + 1) c9), ?_, .inl hO, ?_⟩, ?_, fun b hb => hb⟩
  · rw [addE_len]
    exact hb2.other (p := ⟨gA, f, none⟩) hne _
  · rw [addE_len]
    exact hadd.mono (fun b hb => hb.imp id (fun q => Nat.le_trans hal.size q))
  · exact ((Chg.of_below hal O).trans ((Chg.of_grown hgr).more (fun k _ e => hk1.2 k e))).set gA f (hv.own gA rfl) _
set_option maxRecDepth 100000 in
set_option maxHeartbeats 4000000 in
theorem free_any (h : MkR w O g E) {f t : Nat} (hf : f < E.length) (hr : totE E ≤ 1000000) : Calls Tryd.prog 51 #[.pointer (some ⟨g, 0, none⟩), .int .i64 (f : Int), .int .i64 (t : Int)] w fun e w' => e = .returned (.tuple #[]) ∧ StM w O g (freeE E f t) w' := by
  obtain ⟨A, c, vs, hb, hg, hv⟩ := h
  obtain ⟨gA, cA, hA, hltA, hOA, hcells, hfz⟩ := hv.outer (by omega)
  rw [hA] at hb hv
  clear hA
  have hfv : f < vs.length := by rw [hv.len]; exact hf
  have hk := hv.kid f hfv hf
  obtain ⟨B, cI, hB⟩ := own_shapeN hk.1
  have hrow := tot_row E f
  have hgd : E.getD f [] = E[f] := by simp [List.getD, hf]
  rw [hgd] at hrow
  go_enter Tryd.func51, Tryd.ntmps51
  go_upto_region 0 with fail
  refine fre_reg (g := g) (gA := gA) (nA := E.length) (cA := cA) (fx := f) (tx := t) (m := E[f].length) (cI := cI) (B := B) (xs := flatE E[f]) (R4 := fun wx => StM w O g (freeE E f t) wx) rfl rfl rfl (by simp) hf (by omega) (hb.at 0) ((hcells f hfv).trans (by rw [hB])) hb.lt hltA (by rw [← hB]; exact hk.1) ?_ ?_
  · intro g9 c9 w' hown hgr hat
    obtain ⟨p1, p2, p3, p4⟩ := add_post (w := w.drew) hb hg (hv.chg (S := fun _ => False) ⟨rfl, rfl, rfl, Nat.le_refl _, fun _ _ _ => rfl⟩ (fun _ _ h => h)) hf hfv hB rfl ⟨t, 0#256, true⟩ hown hgr hat
    exact ⟨p1, p2, p3, trivial, p4.below (⟨rfl, rfl, rfl, Nat.le_refl _, fun _ _ => rfl⟩)⟩
  · intro f2 wx h4
    simp only [freUs, List.foldl_cons, List.foldl_nil, List.setIfInBounds_toArray, List.set_cons_zero, List.set_cons_succ]
    go_end0
    exact ⟨rfl, h4⟩
set_option maxRecDepth 100000 in
set_option maxHeartbeats 4000000 in
theorem by_any (h : MkR w O g E) {f t : Nat} (q : BS) (hf : f < E.length) (hr : totE E ≤ 1000000) (hO : ∀ b, O b → b < w.heap.size) : Calls Tryd.prog 36 #[.pointer (some ⟨g, 0, none⟩), .int .i64 (f : Int), .int .i64 (t : Int), .agg #[.int .u64 ((wd q 0 : Nat) : Int), .int .u64 ((wd q 1 : Nat) : Int), .int .u64 ((wd q 2 : Nat) : Int), .int .u64 ((wd q 3 : Nat) : Int)]] w fun e w' => e = .returned (.tuple #[]) ∧ StM w O g (addE E f ⟨t, q, false⟩) w' := by
  have hal := al_belowN w (.cells (setL q).toArray 43)
  obtain ⟨A, c, vs, hb, hg, hv⟩ := h.keep hal
  obtain ⟨gA, cA, hA, hltA, hOA, hcells, hfz⟩ := hv.outer (by omega)
  rw [hA] at hb hv
  clear hA
  have hfv : f < vs.length := by rw [hv.len]; exact hf
  have hk := hv.kid f hfv hf
  obtain ⟨B, cI, hB⟩ := own_shapeN hk.1
  have hrow := tot_row E f
  have hgd : E.getD f [] = E[f] := by simp [List.getD, hf]
  rw [hgd] at hrow
  have hqs : Blk (w.alloc (.cells (setL q).toArray 43)) w.heap.size 43 (setL q) := heap_alloc_new w _
  go_enter Tryd.func36, Tryd.ntmps36
  go_upto_region 1 with fail
  change Code.wp _ _ _ _ (w.alloc (.cells (setL q).toArray 43))
  refine byr_reg (g := g) (gA := gA) (nA := E.length) (cA := cA) (fx := f) (tx := t) (m := E[f].length) (cI := cI) (B := B) (gs := w.heap.size) (q := q) (xs := flatE E[f]) (R4 := fun wx => StM w O g (addE E f ⟨t, q, false⟩) wx) rfl rfl rfl rfl (by simp) hf (by omega) (hb.at 0) ((hcells f hfv).trans (by rw [hB])) hb.lt hltA hqs hqs.lt (by rw [← hB]; exact hk.1) ?_ ?_
  · intro g9 c9 w' hown hgr hat
    obtain ⟨p1, p2, p3, p4⟩ := add_post (w := (w.alloc (.cells (setL q).toArray 43)).drew) hb hg (hv.chg (S := fun _ => False) ⟨rfl, rfl, rfl, Nat.le_refl _, fun _ _ _ => rfl⟩ (fun _ _ h => h)) hf hfv hB rfl ⟨t, q, false⟩ hown hgr hat
    refine ⟨p1, p2, p3, ?_, p4.below hal.drew⟩
    have hq1 := hqs.keep (al_belowN (w.alloc (.cells (setL q).toArray 43)) (.cells (Ed.mk t q false).cells.toArray 63))
    exact (hgr.block w.heap.size hq1.lt (fun e => by
      rw [← hB] at e
      have := hO _ (hk.2 _ e.symm)
      omega)).trans hq1
  · intro f2 wx h4
    simp only [byrUs, List.foldl_cons, List.foldl_nil, List.setIfInBounds_toArray, List.set_cons_zero, List.set_cons_succ]
    go_end0
    exact ⟨rfl, h4⟩
end Go.Proofs.YtoiegkejkahfgaaDoor

/- nfa: how many states an expression adds, told ahead. -/
namespace Go.Proofs.YtoiegkejkahfgaaDoor
set_option linter.unusedSimpArgs false
set_option linter.unusedVariables false
open Go.RowKit

def ownT (k : Int) (n : Nat) (lo hi : Int) : Nat := if k = 2 then 1 else if k = 4 then 1 + n else if k = 5 then (if hi < 0 then 2 else 1 + (hi - lo).toNat) else 0
def ofnT (k lo hi : Int) : Nat := if k = 5 then (if hi < 0 then lo.toNat + 1 else hi.toNat) else 1
theorem adT_eq (k : Int) (s : BS) (ks : List RT) (lo hi : Int) : adT (.nd k s ks lo hi) = min (ownT k ks.length lo hi + adL (ofnT k lo hi) ks) 4096 := by rw [adT]; rfl
theorem adT_le (t : RT) : adT t ≤ 4096 := by
  cases t with
  | nd k s ks lo hi => rw [adT]; omega
theorem adL_take (o : Nat) : ∀ (ks : List RT) (j : Nat) (h : j < ks.length), adL o (ks.take (j + 1)) = adL o (ks.take j) + o * adT ks[j]
  | [], j, h => absurd h (by simp)
  | t :: ts, 0, h => by simp [adL]
  | t :: ts, j + 1, h => by
    have := adL_take o ts j (by simpa using h)
    simp only [List.take_succ_cons, adL, List.getElem_cons_succ]
    omega
theorem adL_le (o : Nat) : ∀ (ks : List RT), adL o ks ≤ ks.length * (o * 4096)
  | [] => by simp [adL]
  | t :: ts => by
    have h1 := adL_le o ts
    have h2 := Nat.mul_le_mul (Nat.le_refl o) (adT_le t)
    rw [adL, List.length_cons, Nat.succ_mul]
    omega
theorem adL_take_le (o : Nat) (ks : List RT) (j : Nat) : adL o (ks.take j) ≤ ks.length * (o * 4096) :=
  Nat.le_trans (adL_le o _) (Nat.mul_le_mul (by rw [List.length_take]; omega) (Nat.le_refl _))
set_option maxRecDepth 100000 in
theorem repAdds_any (k : Int) (s : BS) (A : Option Addr) (n c : Nat) (lo hi : Int) (h0 : 0 ≤ lo) (h1 : lo ≤ 256) (h2 : hi ≤ 256) (h3 : hi < 0 ∨ lo ≤ hi) (w : World) :
    Calls Tryd.prog 35 #[(RV.mk k s A n c lo hi).val] w fun e w' => e = .returned (.tuple #[.int .i64 (ownT 5 n lo hi : Nat), .int .i64 (ofnT 5 lo hi : Nat)]) ∧ Below w.heap.size w w' := by
  obtain ⟨hb, hN⟩ := box_new w (RV.mk k s A n c lo hi)
  have hx := Blk.cells8' (v := RV.mk k s A n c lo hi) hN
  have HB := hid hb
  clear hN hb
  have HE := hid (show ownT 5 n lo hi = (if hi < 0 then 2 else 1 + (hi - lo).toNat) from rfl)
  have HF := hid (show ofnT 5 lo hi = (if hi < 0 then lo.toNat + 1 else hi.toNat) from rfl)
  unfold RV.val
  rw [show (#[.int .i64 (RV.mk k s A n c lo hi).k, .int .u64 ((wd (RV.mk k s A n c lo hi).s 0 : Nat) : Int), .int .u64 ((wd (RV.mk k s A n c lo hi).s 1 : Nat) : Int), .int .u64 ((wd (RV.mk k s A n c lo hi).s 2 : Nat) : Int), .int .u64 ((wd (RV.mk k s A n c lo hi).s 3 : Nat) : Int), .slice (RV.mk k s A n c lo hi).A (RV.mk k s A n c lo hi).n (RV.mk k s A n c lo hi).c, .int .i64 (RV.mk k s A n c lo hi).lo, .int .i64 (RV.mk k s A n c lo hi).hi] : Array Value) = (RV.mk k s A n c lo hi).cells.toArray from rfl]
  by_cases hh : hi < 0
  · have e1 : ((ofnT 5 lo hi : Nat) : Int) = lo + 1 := by rw [HF.out, if_pos hh]; omega
    have e2 : ((ownT 5 n lo hi : Nat) : Int) = 2 := by rw [HE.out, if_pos hh]; rfl
    rw [e1, e2]
    clear e1 e2 HE HF
    go_enter Tryd.func35, Tryd.ntmps35
    go_upto_region 1 with (fail)
    change Code.wp _ _ _ _ (w.alloc (.cells (RV.mk k s A n c lo hi).cells.toArray 26))
    generalize w.alloc (.cells (RV.mk k s A n c lo hi).cells.toArray 26) = w1 at *
    obtain ⟨x0, x1, x2, x3, x4, x5, x6, x7⟩ := hx
    simp only at x6 x7
    go_wp2_with fail
    go_region
    all_goals
      go_wp2
      go_ret2
      refine ⟨by go_num, HB.out.drew⟩
  · have e1 : ((ofnT 5 lo hi : Nat) : Int) = hi := by rw [HF.out, if_neg hh]; omega
    have e2 : ((ownT 5 n lo hi : Nat) : Int) = 1 + hi - lo := by rw [HE.out, if_neg hh]; omega
    rw [e1, e2]
    clear e1 e2 HE HF
    go_enter Tryd.func35, Tryd.ntmps35
    go_upto_region 1 with (fail)
    change Code.wp _ _ _ _ (w.alloc (.cells (RV.mk k s A n c lo hi).cells.toArray 26))
    generalize w.alloc (.cells (RV.mk k s A n c lo hi).cells.toArray 26) = w1 at *
    obtain ⟨x0, x1, x2, x3, x4, x5, x6, x7⟩ := hx
    simp only at x6 x7
    go_wp2_with fail
    go_region
    all_goals
      go_wp2
      go_ret2
      refine ⟨by go_num, HB.out.drew⟩
/-- What a call of adds answers. -/
def AddAt (t : RT) : Prop := ∀ (v : RV) (w : World) (P : Nat → Prop), Rep w P v t → (∀ b, P b → b < w.heap.size) → wgT t = 0 → szT t ≤ 512 → Calls Tryd.prog 18 #[v.val] w fun e w' => e = .returned (.int .i64 (adT t : Nat)) ∧ Below w.heap.size w w'
set_option maxRecDepth 100000 in
set_option maxHeartbeats 4000000 in
theorem adds_any : ∀ t, AddAt t := by
  refine RT.ind fun k s ks lo hi ih => ?_
  intro v w P hR hP hw hs
  obtain ⟨hc, hk⟩ := wgT_nd hw
  have hnr := adT_eq k s ks lo hi
  have hrest := hR
  cases hR with
  | mk v ks vs hn hA hkk =>
  obtain ⟨hb, hN⟩ := box_new w v
  have hx := Blk.cells8' (v := v) hN
  have HX := hid hN
  have HB := hid hb
  have hlen := szL_len ks
  have hsz : szT (.nd v.k v.s ks v.lo v.hi) = 1 + szL ks := by rw [szT]
  have hn512 : v.n ≤ 512 := by omega
  have HA0 := hid (show 0 < v.n → ∃ b o, v.A = some ⟨b, o, none⟩ ∧ b < w.heap.size ∧ P b ∧ ∀ j, j < v.n → RowAt (w.alloc (.cells v.cells.toArray 26)) b (o + j * 8) (vs j).cells from fun h => by
    obtain ⟨b, o, e, hl, hp, hc⟩ := hA h
    exact ⟨b, o, e, hl, hp, fun j hj => (hc j hj).block (hb.block b hl)⟩)
  have HK := hid (fun j (h : j < ks.length) => (hkk j h).keep hb)
  have HIH := hid ih
  have HWk := hid hk
  have HSz := hid (fun j (h : j < ks.length) => (show szT ks[j] ≤ 512 from by have h1 := szL_take ks j h; have h2 := szL_take_le ks (j + 1); omega))
  have HP := hid hP
  have hown : ownT v.k v.n v.lo v.hi ≤ 1000 ∧ ofnT v.k v.lo v.hi ≤ 257 := by
    unfold ownT ofnT
    rcases ck1_kinds hc with ⟨h, -⟩ | ⟨h, -, -⟩ | ⟨h, -⟩ | ⟨h, -⟩ | ⟨h, x, -, h1, h2, h3, h4⟩ <;> rw [h]
    · simp
    · simp
    · simp
    · rw [if_neg (by omega), if_pos rfl, if_neg (by omega)]; omega
    · rw [if_neg (by omega), if_neg (by omega), if_pos rfl, if_pos rfl]; split <;> omega
  have HRp := hid (fun (W : World) (h5 : v.k = 5) => (by
    rcases ck1_kinds hc with ⟨h, -⟩ | ⟨h, -, -⟩ | ⟨h, -⟩ | ⟨h, -⟩ | ⟨h, x, -, h1, h2, h3, h4⟩
    · omega
    · omega
    · omega
    · omega
    · exact repAdds_any v.k v.s v.A v.n v.c v.lo v.hi h1 h2 h3 h4 W : Calls Tryd.prog 35 #[v.val] W fun e w' => e = .returned (.tuple #[.int .i64 (ownT 5 v.n v.lo v.hi : Nat), .int .i64 (ofnT 5 v.lo v.hi : Nat)]) ∧ Below W.heap.size W w'))
  have hkd : v.k = 1 ∨ v.k = 2 ∨ v.k = 3 ∨ v.k = 4 ∨ v.k = 5 := by
    rcases ck1_kinds hc with ⟨h, -⟩ | ⟨h, -, -⟩ | ⟨h, -⟩ | ⟨h, -⟩ | ⟨h, x, -, h1, h2, h3, h4⟩ <;> omega
  have HKd := hid hkd
  rw [hn] at hnr
  obtain ⟨ow, how⟩ : ∃ ow, ow = ownT v.k v.n v.lo v.hi := ⟨_, rfl⟩
  obtain ⟨fr, hfr⟩ : ∃ fr, fr = ofnT v.k v.lo v.hi := ⟨_, rfl⟩
  rw [← how, ← hfr] at hnr hown
  obtain ⟨R, hRR⟩ : ∃ R, R = adT (.nd v.k v.s ks v.lo v.hi) := ⟨_, rfl⟩
  rw [← hRR] at hnr ⊢
  have HR := hid hnr
  have HOw := hid how
  have HFr := hid hfr
  have HLe := hid (adL_take_le fr ks)
  have HTk := hid (adL_take fr ks)
  have HLn := hid hn
  have ho1 := hown.1
  have hf1 := hown.2
  clear hN hb hA hkk hrest hnr hRR hn hc hk hw hs hP ih hlen hsz hkd how hfr hown
  unfold RV.val at HRp ⊢
  rw [show (#[.int .i64 v.k, .int .u64 ((wd v.s 0 : Nat) : Int), .int .u64 ((wd v.s 1 : Nat) : Int), .int .u64 ((wd v.s 2 : Nat) : Int), .int .u64 ((wd v.s 3 : Nat) : Int), .slice v.A v.n v.c, .int .i64 v.lo, .int .i64 v.hi] : Array Value) = v.cells.toArray from rfl] at HRp ⊢
  go_enter Tryd.func18, Tryd.ntmps18
  go_upto_region 1 with (fail)
  change Code.wp _ _ _ _ (w.alloc (.cells v.cells.toArray 26))
  generalize w.alloc (.cells v.cells.toArray 26) = w1 at *
  obtain ⟨x0, x1, x2, x3, x4, x5, x6, x7⟩ := hx
  go_upto_block 0 with fail
  go_cut [3, 4] from 8 to 23 (fun s3 s4 wx => s3 = .int .i64 (ow : Int) ∧ s4 = .int .i64 (fr : Int) ∧ Hid (Below w1.heap.size w1 wx))
  case first =>
    rcases HKd.out with h | h | h | h | h
    · have e1 : ow = 0 := by rw [HOw.out, h]; simp [ownT]
      have e2 : fr = 1 := by rw [HFr.out, h]; simp [ofnT]
      subst e1
      subst e2
      rw [h] at x0
      clear HOw HFr HRp HIH HK HA0 HKd HLe HTk HR HSz HWk
      go_wp2_with fail
      go_meet
      case rel => exact ⟨rfl, rfl, hid (Below.refl _ _)⟩
    · have e1 : ow = 1 := by rw [HOw.out, h]; simp [ownT]
      have e2 : fr = 1 := by rw [HFr.out, h]; simp [ofnT]
      subst e1
      subst e2
      rw [h] at x0
      clear HOw HFr HRp HIH HK HA0 HKd HLe HTk HR HSz HWk
      go_wp2_with fail
      go_meet
      case rel => exact ⟨rfl, rfl, hid (Below.refl _ _)⟩
    · have e1 : ow = 0 := by rw [HOw.out, h]; simp [ownT]
      have e2 : fr = 1 := by rw [HFr.out, h]; simp [ofnT]
      subst e1
      subst e2
      rw [h] at x0
      clear HOw HFr HRp HIH HK HA0 HKd HLe HTk HR HSz HWk
      go_wp2_with fail
      go_meet
      case rel => exact ⟨rfl, rfl, hid (Below.refl _ _)⟩
    · have e1 : ow = 1 + v.n := by rw [HOw.out, h]; simp [ownT]
      have e2 : fr = 1 := by rw [HFr.out, h]; simp [ofnT]
      subst e1
      subst e2
      rw [h] at x0
      clear HOw HFr HRp HIH HK HA0 HKd HLe HTk HR HSz HWk
      go_wp2_with fail
      go_meet
      case rel => exact ⟨by go_num, rfl, hid (Below.refl _ _)⟩
    · have b2 : (v.k == 2) = false := by simp [h]
      have b4 : (v.k == 4) = false := by simp [h]
      have b5 : (v.k == 5) = true := by simp [h]
      have e1 : ow = ownT 5 v.n v.lo v.hi := by rw [HOw.out, h]
      have e2 : fr = ofnT 5 v.lo v.hi := by rw [HFr.out, h]
      have HC1 := hid (HRp.out w1 h)
      rw [← e1, ← e2] at HC1
      clear e1 e2 h HOw HFr HRp HIH HK HA0 HKd HLe HTk HR HSz HWk
      go_wp2_with (go_at_call 35; refine HC1.out.mono ?_; rintro e w9 ⟨rfl, hb9⟩)
      go_meet
      case rel => exact ⟨rfl, rfl, hid hb9⟩
  case rest =>
    obtain ⟨rfl, rfl, HBc⟩ := hcut
    clear x0 x1 x2 x3 x4 x5 x6 x7
    obtain ⟨x0, x1, x2, x3, x4, x5, x6, x7⟩ := Blk.cells8' (v := v) (HX.out.keep HBc.out)
    clear HOw HFr HRp HKd
    go_wp2_with fail
    go_loopw [3, 27] (fun s3 i wr => ∃ j : Nat, j ≤ v.n ∧ s3 = .int .i64 ((ow + adL fr (ks.take j) : Nat) : Int) ∧ i = .int .i64 (j : Int) ∧ Hid (Below w1.heap.size w1 wr)) (fun _ i _ => v.n - (intOf i).toNat)
    case atStart => exact ⟨0, Nat.zero_le _, by simp [adL], rfl, HBc⟩
    case round =>
      clear x0 x1 x2 x3 x4 x5 x6 x7 HBc
      obtain ⟨j, hj, rfl, rfl, HB2⟩ := hrel
      have hbd : ks.length * (fr * 4096) ≤ 512 * (257 * 4096) := Nat.mul_le_mul (by have := HLn.out; omega) (Nat.mul_le_mul_right _ hf1)
      by_cases hlt : j < v.n
      · obtain ⟨b, o, hAe, hbl, hp, hrow⟩ := HA0.out (by omega)
        have hrw := (hrow j hlt).block (HB2.out.block b (by have := HB.out.size; omega))
        obtain ⟨y0, y1, y2, y3, y4, y5, y6, y7⟩ := hrw.cells8
        have hjk : j < ks.length := by have := HLn.out; omega
        have hRk := (HK.out j hjk).keep HB2.out
        have htk := HTk.out j hjk
        have hle := HLe.out (j + 1)
        have hbx := row_new wr 26 #[.int .i64 0, .int .u64 0, .int .u64 0, .int .u64 0, .int .u64 0, .slice none 0 0, .int .i64 0, .int .i64 0] (vs j).cells.toArray
        have HIH1 := hid (HIH.out ks[j] (List.getElem_mem _) (vs j) _ P (hRk.keep hbx) (fun b hb => by have h1 := HP.out b hb; have h2 := HB.out.size; have h3 := HB2.out.size; have h4 := hbx.size; omega) (HWk.out _ (List.getElem_mem _)) (HSz.out j hjk))
        have hal := adT_le ks[j]
        generalize hx : vs j = x at *
        have HX5 := hid (show Blk ((wr.alloc (.cells #[.int .i64 0, .int .u64 0, .int .u64 0, .int .u64 0, .int .u64 0, .slice none 0 0, .int .i64 0, .int .i64 0] 26)).setRow wr.heap.size x.cells.toArray) wr.heap.size 26 x.cells from setRow_heap _ _ _ _ _ (0, 0) (heap_alloc_new wr _))
        have HSx := hid (rx_size x)
        have HOne := hid (rx_one x)
        have HB5 := hid (HB2.out.trans (hbx.mono HB2.out.size))
        obtain ⟨pr, hpr⟩ : ∃ pr, pr = fr * adT ks[j] := ⟨_, rfl⟩
        have hm : (fr : Int) * ((adT ks[j] : Nat) : Int) = (pr : Int) := by rw [hpr]; exact (Int.natCast_mul _ _).symm
        rw [← hpr] at htk
        have hacc : adL fr (ks.take j) + pr ≤ 1000000000 := by omega
        have HTj := hid (show ow + adL fr (ks.take j) + pr = ow + adL fr (ks.take (j + 1)) by omega)
        generalize adL fr (ks.take j) = ac at *
        generalize adT ks[j] = ad at *
        have p3 : (j : Int) < (v.n : Int) := by omega
        clear hbd hrow hrw hRk htk hle hbx hpr HIH HK HA0 HLe HTk HR HSz HWk HB2 hp hbl
        unfold RV.val at HIH1
        rw [hAe]
        go_wp2_with (first
          | (refine wpList_store_row rfl 26 _ _ rfl wr.heap.size x.cells.toArray ?_ ?_ 26 #[.int .i64 0, .int .u64 0, .int .u64 0, .int .u64 0, .int .u64 0, .slice none 0 0, .int .i64 0, .int .i64 0] (heap_alloc_new wr _) HSx.out ?_ HOne.out ?_; exact rfl; exact rfl; exact rfl; generalize (wr.alloc (.cells #[.int .i64 0, .int .u64 0, .int .u64 0, .int .u64 0, .int .u64 0, .slice none 0 0, .int .i64 0, .int .i64 0] 26)).setRow wr.heap.size x.cells.toArray = w5 at *; obtain ⟨z0, z1, z2, z3, z4, z5, z6, z7⟩ := Blk.cells8' HX5.out)
          | (go_at_call 18; refine HIH1.out.mono ?_; rintro e w9 ⟨rfl, hb9⟩))
        go_roundw
        case rel => exact ⟨j + 1, by omega, by rw [← HTj.out]; go_num, by go_num, hid (HB5.out.trans (hb9.mono HB5.out.size))⟩
        case measure => simp [intOf]; omega
      · obtain rfl : j = v.n := by omega
        have htk : ks.take v.n = ks := List.take_of_length_le (by have := HLn.out; omega)
        have hle := HLe.out v.n
        rw [htk] at hle ⊢
        have HRe := hid HR.out
        generalize adL fr ks = ac at *
        have HB9 := hid (HB.out.trans (HB2.out.mono HB.out.size))
        have hbb : ow + ac ≤ 1000000000 := by omega
        clear hle htk hbd HIH HK HA0 HLe HTk HR HSz HWk HB2
        go_wp2_with fail
        all_goals
          go_ret
          refine ⟨?_, HB9.out⟩
          have hre := HRe.out
          refine congrArg (fun z => Ending.returned (Value.int .i64 z)) ?_
          rw [hre]
          first | omega | (split <;> omega)
end Go.Proofs.YtoiegkejkahfgaaDoor
