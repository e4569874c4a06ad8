/- tree: At. -/
import Derived.Test.YtdhipmdapodpkaaTrI
namespace Go.Proofs.Ytdhipmdapodpkaa
set_option linter.unusedSimpArgs false
set_option linter.unusedVariables false
open Go.RowKit

/-- The part on a way. -/
def atT : TT → List Int → Option TT
  | t, [] => some t
  | .nd _ _ _ ks, i :: l => if 0 ≤ i then (match ks[i.toNat]? with
    | some k => atT k l
    | none => none) else none
theorem atT_snoc : ∀ (l : List Int) (t : TT) (i : Int), atT t (l ++ [i]) = match atT t l with
    | some u => atT u [i]
    | none => none
  | [], t, i => by
    obtain ⟨n, b, d, ks⟩ := t
    simp [atT]
  | j :: l, .nd n b d ks, i => by
    simp only [List.cons_append, atT]
    split
    · cases ks[j.toNat]? with
      | none => rfl
      | some k => exact atT_snoc l k i
    · rfl
theorem atT_none : ∀ (l m : List Int) (t : TT), atT t l = none → atT t (l ++ m) = none
  | [], m, t, h => by
    obtain ⟨n, b, d, ks⟩ := t
    simp [atT] at h
  | j :: l, m, .nd n b d ks, h => by
    simp only [List.cons_append, atT] at h ⊢
    split
    · rename_i hj
      rw [if_pos hj] at h
      cases hk : ks[j.toNat]? with
      | none => rfl
      | some k =>
        rw [hk] at h
        exact atT_none l m k h
    · rfl
theorem wT_kid {t u : TT} {i : Nat} (h : t.kids[i]? = some u) : wT u ≤ wT t := by
  obtain ⟨n, b, d, ks⟩ := t
  obtain ⟨hi, rfl⟩ := List.getElem?_eq_some_iff.1 h
  have : wT (ks[i]'hi) ≤ wL ks := wL_get hi
  rw [wT]
  show wT (ks[i]'hi) ≤ _
  omega
def intC (l : List Int) : List Value := l.map (Value.int .i64)
theorem way_cell {w : World} {P : Nat → Prop} {s : SV} {l : List Int} (h : Rw w P s (intC l)) {q : Nat} {i : Int} (hq : l[q]? = some i) : ∃ b o, s.A = some ⟨b, o, none⟩ ∧ b < w.heap.size ∧ P b ∧ w.cell? ⟨b, o + q, none⟩ = some (.int .i64 i) := by
  have hl := (List.getElem?_eq_some_iff.1 hq).1
  obtain ⟨b, o, e, hb, hP, hc⟩ := h.at (by simp [intC]; omega)
  exact ⟨b, o, e, hb, hP, by rw [hc q (by simpa [intC] using hl)]; simp [intC, hq]⟩
theorem results_cell_tmp {P : Program} {fn : Func} {p u : Tmp} {ty : TypeId} (h : fn.results = #[.cell p ty, .tmp u]) (tmps : Array Value) (w : World) (g : Nat) (t : TypeId) (cs : Array Value) (fr : Nat × Nat) (d : TypeDesc)
    (hp : tmps.getD p undef = .pointer (some ⟨g, 0, none⟩)) (hg : w.heap[g]? = some (.cells cs t fr))
    (hu : P.underlying ty = some d) (hd : (match d with | .struct _ | .array _ _ => true | _ => false) = true) (hi : (P.info? ty).map (·.size) = some cs.size) :
    (results fn tmps).run P w = .ok (.tuple #[.agg cs, tmps.getD u undef]) w := by
  have hp' : tmps[p]?.getD undef = .pointer (some ⟨g, 0, none⟩) := by simpa using hp
  simp [results, h, hp', asAddr, run_loadVar_row w g t ty cs fr d hg hu hd hi]
/-- What At holds on its way. -/
structure AtS (w : World) (P : Nat → Prop) (v : TV) (u : TT) (W : World) : Prop where
  bel : Below w.heap.size w W
  bx : BoxT W w.heap.size v
  bz : W.heap[w.heap.size + 1]? = some (.cells #[.int .u64 0, .bool false, .slice none 0 0, .slice none 0 0] 26 (0, 0))
  rep : Rep W P v u
  wt : wT u ≤ 1048576
theorem AtS.move {w W : World} {P : Nat → Prop} {v y : TV} {u k : TT} (h : AtS w P v u W) (hP : ∀ b, P b → b < w.heap.size) {i : Nat} (hk : u.kids[i]? = some k) (hy : Rep W P y k) : AtS w P y k (W.setRow w.heap.size y.cells.toArray) := by
  refine ⟨below_row h.bel (Nat.le_refl _) _, setRow_heap _ _ _ _ _ _ h.bx, (setRow_other _ _ _ _ (by omega)).trans h.bz, hy.mono (fun b hb _ => setRow_other _ _ _ _ (by have := hP b hb; omega)) (by simp [World.setRow]) (fun _ h _ => h), Nat.le_trans (wT_kid hk) h.wt⟩
set_option maxRecDepth 100000 in
set_option maxHeartbeats 4000000 in
theorem at_any {P Q : Nat → Prop} {v : TV} {t : TT} {s : SV} {way : List Int} {w : World} (hR : Rep w P v t) (hW : Rw w Q s (intC way)) (hs : s.n = way.length) (hw : wT t ≤ 1048576) (hn : way.length ≤ 1048576) (hP : ∀ b, P b → b < w.heap.size) :
    Calls Try.prog 19 #[v.val, s.val] w fun e w' => ((∃ u x, atT t way = some u ∧ e = .returned (.tuple #[TV.val x, .bool true]) ∧ Seg w' w.heap.size w'.heap.size x u) ∨ (atT t way = none ∧ e = .returned (.tuple #[TV.val TV.zero, .bool false]))) ∧ Below w.heap.size w w' := by
  obtain ⟨hb1, h1⟩ := box_new w v
  obtain ⟨hb2, h2⟩ := box_new (w.alloc (.cells v.cells.toArray 26)) TV.zero
  have hb := hb1.trans (hb2.mono hb1.size)
  have h1 : BoxT ((w.alloc (.cells v.cells.toArray 26)).alloc (.cells TV.zero.cells.toArray 26)) w.heap.size v := Blk.keep h1 hb2
  rw [World.size_alloc] at h2
  have HA := hid (show AtS w P v t ((w.alloc (.cells v.cells.toArray 26)).alloc (.cells TV.zero.cells.toArray 26)) from ⟨hb, h1, h2, hR.mono (fun b hp hl => hb.block b hl) hb.size (fun _ h _ => h), hw⟩)
  have HW := hid hW
  have HP := hid hP
  obtain ⟨RR, hRR⟩ : ∃ RR : Ending → World → Prop, RR = fun e w' => ((∃ u x, atT t way = some u ∧ e = .returned (.tuple #[TV.val x, .bool true]) ∧ Seg w' w.heap.size w'.heap.size x u) ∨ (atT t way = none ∧ e = .returned (.tuple #[TV.val TV.zero, .bool false]))) ∧ Below w.heap.size w w' := ⟨_, rfl⟩
  rw [← hRR]
  have HRR := hid hRR
  obtain ⟨x0, x1, x2, x3⟩ := h1.four
  have hvc : v.cells.toArray = #[.int .u64 (v.num : Int), .bool v.bl, .slice v.D.A v.D.n v.D.c, .slice v.K.A v.K.n v.K.c] := rfl
  have hzc : TV.zero.cells.toArray = #[.int .u64 0, .bool false, .slice none 0 0, .slice none 0 0] := rfl
  rw [hvc, hzc] at HA x0 x1 x2 x3
  clear hRR hb1 hb2 hb h1 h2 hR hW hP hw hvc hzc
  unfold TV.val SV.val
  obtain ⟨WA, n, Wc⟩ := s
  obtain rfl : n = way.length := hs
  have hnb : way.length ≤ 1048576 := hn
  obtain ⟨n, hwn⟩ : ∃ n, way.length = n := ⟨_, rfl⟩
  have HWn := hid hwn
  simp only at *
  rw [hwn] at HW hnb ⊢
  clear hn hwn
  go_enter Try.func19, Try.ntmps19
  go_upto_region 1 with (fail)
  generalize (w.alloc (.cells #[.int .u64 (v.num : Int), .bool v.bl, .slice v.D.A v.D.n v.D.c, .slice v.K.A v.K.n v.K.c] 26)).alloc (.cells #[.int .u64 0, .bool false, .slice none 0 0, .slice none 0 0] 26) = w1 at *
  go_wp2_with fail
  go_loopw [10] (fun i wr => ∃ (q : Nat) (z : TV) (u : TT), q ≤ n ∧ i = .int .i64 q ∧ Hid (atT t (way.take q) = some u) ∧ Hid (AtS w P z u wr)) (fun i _ => n - (intOf i).toNat)
  case atStart => exact ⟨0, v, t, by omega, rfl, hid (by cases t; rfl), HA⟩
  case round =>
    clear HA x0 x1 x2 x3
    obtain ⟨q, z, u, hq, rfl, HT, HS⟩ := hrel
    obtain ⟨x0, x1, x2, x3⟩ := HS.out.bx.four
    by_cases hlt : q < n
    · have hlt' : (q : Int) < (n : Int) := by omega
      obtain ⟨i, hi⟩ : ∃ i, way[q]? = some i := ⟨_, List.getElem?_eq_getElem (by rw [HWn.out]; exact hlt)⟩
      have HTk := hid (show way.take (q + 1) = way.take q ++ [i] by rw [List.take_add_one, hi]; rfl)
      obtain ⟨bw, ow, hA, hbl, _, c0⟩ := way_cell (HW.out.mono (fun b _ hl => HS.out.bel.block b hl) HS.out.bel.size (fun _ h _ => h)) hi
      have hA' : WA = some ⟨bw, ow, none⟩ := hA
      have hpl := HS.out.rep
      obtain ⟨un, ub, ud, uks⟩ := u
      obtain ⟨_, _, _, _, _, hzn, xs, hxl, hK, hr⟩ := hpl.inv
      have HKn := hid (show z.K.n = uks.length from hzn)
      have hnone : (i < 0 ∨ (uks.length : Int) ≤ i) → atT t way = none := fun hc => by
        rw [← List.take_append_drop (q + 1) way]
        refine atT_none _ _ _ ?_
        rw [HTk.out, atT_snoc, HT.out]
        simp only [atT]
        by_cases h0 : 0 ≤ i
        · rw [if_pos h0, List.getElem?_eq_none (by omega)]
        · rw [if_neg h0]
      have HNo := hid hnone
      have HF := hid (setRow_heap wr (w.heap.size + 1) _ #[.int .u64 0, .bool false, .slice none 0 0, .slice none 0 0] _ _ HS.out.bz)
      have HBz := hid HS.out.bz
      have hend : (i < 0 ∨ (uks.length : Int) ≤ i) → RR (.returned (.tuple #[.agg #[.int .u64 0, .bool false, .slice none 0 0, .slice none 0 0], .bool false])) (wr.setRow (w.heap.size + 1) #[.int .u64 0, .bool false, .slice none 0 0, .slice none 0 0]) := fun hc => by
        rw [HRR.out]
        exact ⟨.inr ⟨HNo.out hc, rfl⟩, below_row HS.out.bel (by omega) _⟩
      have HEnd := hid hend
      clear hnone hend hzn hbl hA hpl
      rw [hA']
      rw [HKn.out] at x3
      by_cases c1 : i < 0
      · clear hK hr hxl
        go_wp2_with ((with_reducible refine wpList_store_row rfl 26 _ _ rfl (w.heap.size + 1) #[.int .u64 0, .bool false, .slice none 0 0, .slice none 0 0] ?_ ?_ 26 #[.int .u64 0, .bool false, .slice none 0 0, .slice none 0 0] HBz.out (tv4_size _ _ _ _) ?_ (tv4_one rfl rfl rfl rfl) ?_); exact rfl; exact rfl; exact rfl)
        refine bodyPost_ret (v := .tuple #[.agg #[.int .u64 0, .bool false, .slice none 0 0, .slice none 0 0], .bool false]) (results_cell_tmp (P := Try.prog) (fn := Try.f19) rfl _ _ (w.heap.size + 1) 26 _ (0, 0) _ rfl HF.out Try.underlying26 rfl (by kernel_rfl)) rfl ?_
        exact HEnd.out (.inl c1)
      · by_cases c2 : (uks.length : Int) ≤ i
        · clear hK hr hxl
          go_wp2_with ((with_reducible refine wpList_store_row rfl 26 _ _ rfl (w.heap.size + 1) #[.int .u64 0, .bool false, .slice none 0 0, .slice none 0 0] ?_ ?_ 26 #[.int .u64 0, .bool false, .slice none 0 0, .slice none 0 0] HBz.out (tv4_size _ _ _ _) ?_ (tv4_one rfl rfl rfl rfl) ?_); exact rfl; exact rfl; exact rfl)
          refine bodyPost_ret (v := .tuple #[.agg #[.int .u64 0, .bool false, .slice none 0 0, .slice none 0 0], .bool false]) (results_cell_tmp (P := Try.prog) (fn := Try.f19) rfl _ _ (w.heap.size + 1) 26 _ (0, 0) _ rfl HF.out Try.underlying26 rfl (by kernel_rfl)) rfl ?_
          exact HEnd.out (.inr c2)
        · obtain ⟨j, rfl⟩ : ∃ j : Nat, i = (j : Int) := ⟨i.toNat, by omega⟩
          have hj : j < uks.length := by omega
          have hjx : j < xs.length := by omega
          obtain ⟨bk, ok, hKA, hbl, hPb, hrg⟩ := Rw.range hK hjx
          obtain ⟨y, hy⟩ : ∃ y, y = xs[j] := ⟨_, rfl⟩
          rw [← hy] at hrg
          obtain ⟨e0, e1, e2, e3⟩ := tv_range hrg
          have HM := hid (HS.out.move HP.out (i := j) (show uks[j]? = some uks[j] from List.getElem?_eq_getElem hj) (show Rep wr P y uks[j] by rw [hy]; exact hr j hjx hj))
          have HT2 := hid (show atT t (way.take (q + 1)) = some uks[j] by
            rw [HTk.out, atT_snoc, HT.out]
            simp [atT, hj])
          have HBx := hid (show wr.heap[w.heap.size]? = some (.cells z.cells.toArray 26 (0, 0)) from HS.out.bx)
          have HSf := hid (tv_size y)
          have HOf := hid (tv_one y)
          have HSz := hid (show z.cells.toArray.size = y.cells.toArray.size from rfl)
          have hj' : (j : Int) < (uks.length : Int) := by omega
          rw [hKA] at x3
          clear hK hr hxl hy hrg hbl hPb hjx c2
          go_wp2_with ((with_reducible refine wpList_store_row rfl 26 _ _ rfl w.heap.size y.cells.toArray ?_ ?_ 26 z.cells.toArray HBx.out HSf.out HSz.out HOf.out ?_); exact rfl; exact rfl)
          all_goals exact ⟨⟨q + 1, y, _, by omega, by go_num, HT2, HM⟩, by simp [intOf]; omega⟩
    · obtain rfl : q = n := by omega
      have e : way.take q = way := by rw [← HWn.out, List.take_length]
      rw [e] at HT
      have HC := hid (clone_any u z wr P HS.out.rep HS.out.wt)
      have HBz := hid HS.out.bz
      have HBl := hid HS.out.bel
      have HLt := hid (Array.getElem?_eq_some_iff.1 HS.out.bz).1
      clear e
      unfold TV.val at HC
      go_wp2_with (first
        | (go_at_call 18; (with_reducible refine HC.out.mono ?_); rintro e w2 ⟨⟨n2, b2, ⟨DA, Dn, Dc⟩, ⟨KA, Kn, Kc⟩⟩, rfl, hsg, hb2⟩; have HB2 := hid (HBl.out.trans (hb2.mono HBl.out.size)); have HZ2 := hid ((hb2.block _ HLt.out).trans HBz.out); have HSg := hid hsg; have HF := hid (setRow_heap _ (w.heap.size + 1) _ #[.int .u64 (n2 : Int), .bool b2, .slice DA Dn Dc, .slice KA Kn Kc] _ _ HZ2.out); clear hsg hb2 x0 x1 x2 x3; (try unfold TV.val); (try dsimp only))
        | ((with_reducible refine wpList_store_row rfl 26 _ _ rfl (w.heap.size + 1) #[.int .u64 (n2 : Int), .bool b2, .slice DA Dn Dc, .slice KA Kn Kc] ?_ ?_ 26 #[.int .u64 0, .bool false, .slice none 0 0, .slice none 0 0] HZ2.out (tv4_size _ _ _ _) ?_ (tv4_one rfl rfl rfl rfl) ?_); exact rfl; exact rfl; exact rfl))
      refine bodyPost_ret (v := .tuple #[.agg #[.int .u64 (n2 : Int), .bool b2, .slice DA Dn Dc, .slice KA Kn Kc], .bool true]) (results_cell_tmp (P := Try.prog) (fn := Try.f19) rfl _ _ (w.heap.size + 1) 26 _ (0, 0) _ rfl HF.out Try.underlying26 rfl (by kernel_rfl)) rfl ?_
      rw [HRR.out]
      refine ⟨.inl ⟨u, ⟨n2, b2, ⟨DA, Dn, Dc⟩, ⟨KA, Kn, Kc⟩⟩, HT.out, rfl, ?_⟩, below_row HB2.out (by omega) _⟩
      have hsz : (w2.setRow (w.heap.size + 1) #[.int .u64 (n2 : Int), .bool b2, .slice DA Dn Dc, .slice KA Kn Kc]).heap.size = w2.heap.size := by simp [World.setRow]
      rw [hsz]
      have := HLt.out
      exact (HSg.out.mono (fun b hb _ => setRow_other w2 _ b _ (by omega))).wide (by omega) (Nat.le_refl _)
end Go.Proofs.Ytdhipmdapodpkaa
