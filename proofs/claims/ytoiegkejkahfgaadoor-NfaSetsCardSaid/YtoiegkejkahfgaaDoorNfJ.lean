/- nfa: where a call stands that puts together. -/
import Derived.Test.YtoiegkejkahfgaaDoorNfF
import Derived.Deep.LoopGhost
namespace Go.Proofs.YtoiegkejkahfgaaDoor
set_option linter.unusedSimpArgs false
set_option linter.unusedVariables false
open Go.RowKit

variable {w w' w0 : World} {O O0 : Nat → Prop} {E E' : EG} {g : Nat}
theorem MkR.cut (h : MkR w O g E) : MkR w (fun b => O b ∧ b < w.heap.size) g E := by
  obtain ⟨A, c, vs, hb, hg, hv⟩ := h
  exact ⟨A, c, vs, hb, ⟨hg, hb.lt⟩, hv.len, hv.row, fun b e => ⟨hv.own b e, (own_blockN hv.row b e).2⟩, fun i h1 h2 => ⟨(hv.kid i h1 h2).1, fun b e => ⟨(hv.kid i h1 h2).2 b e, (own_blockN (hv.kid i h1 h2).1 b e).2⟩⟩, hv.apart⟩
/-- Where a call stands: what it has put together, and what has changed since it began. -/
structure MAt (w0 : World) (O0 : Nat → Prop) (g : Nat) (w : World) (O : Nat → Prop) (E : EG) : Prop where
  rd : MkR w O g E
  ch : Chg w0 w O0
  gr : ∀ b, O b → O0 b ∨ w0.heap.size ≤ b
  lt : ∀ b, O b → b < w.heap.size
theorem MAt.start (h : MkR w O g E) (hl : ∀ b, O b → b < w.heap.size) : MAt w O g w O E := ⟨h, Chg.refl _ _, fun _ hb => .inl hb, hl⟩
theorem MAt.keep (h : MAt w0 O0 g w O E) (hb : Below w.heap.size w w') : MAt w0 O0 g w' O E := ⟨h.rd.keep hb, h.ch.trans (Chg.of_below hb O0), h.gr, fun b e => Nat.lt_of_lt_of_le (h.lt b e) hb.size⟩
theorem MAt.stM (h : MAt w0 O0 g w O E) : StM w0 O0 g E w := ⟨O, h.rd, h.ch, h.gr⟩
theorem MAt.call (h : MAt w0 O0 g w O E) (k : StM w O g E' w') : ∃ O', MAt w0 O0 g w' O' E' ∧ Chg w w' O ∧ ∀ b, b < w.heap.size → ¬ O b → ¬ O' b := by
  obtain ⟨O1, hr, hc, hg⟩ := k
  refine ⟨fun b => O1 b ∧ b < w'.heap.size, ⟨hr.cut, ?_, fun b hb => ?_, fun b hb => hb.2⟩, hc, fun b hb hO ho => ?_⟩
  · refine ⟨hc.os.trans h.ch.os, hc.tape.trans h.ch.tape, hc.output.trans h.ch.output, Nat.le_trans h.ch.size hc.size, fun i hi hn => (hc.block i (Nat.lt_of_lt_of_le hi h.ch.size) (fun ho => ?_)).trans (h.ch.block i hi hn)⟩
    rcases h.gr i ho with q | q
    · exact hn q
    · omega
  · rcases hg b hb.1 with q | q
    · exact h.gr b q
    · exact .inr (Nat.le_trans h.ch.size q)
  · rcases hg b ho.1 with q | q
    · exact hO q
    · omega
/-- A box of one's own beside it. -/
def Bx (w : World) (O : Nat → Prop) (b : Nat) (T : TypeId) (cs : List Value) : Prop := Blk w b T cs ∧ ¬ O b
theorem Bx.call {O' : Nat → Prop} {b : Nat} {T : TypeId} {cs : List Value} (h : Bx w O b T cs) (hc : Chg w w' O) (hn : ∀ b, b < w.heap.size → ¬ O b → ¬ O' b) : Bx w' O' b T cs := ⟨h.1.chg hc h.2, hn b h.1.lt h.2⟩
theorem Bx.keep {b : Nat} {T : TypeId} {cs : List Value} (h : Bx w O b T cs) (hb : Below w.heap.size w w') : Bx w' O b T cs := ⟨h.1.keep hb, h.2⟩
/-- An expression in memory beside it. -/
def Rp (w : World) (O : Nat → Prop) (v : RV) (t : RT) : Prop := Rep w (fun b => b < w.heap.size ∧ ¬ O b) v t
theorem Rp.call {O' : Nat → Prop} {v : RV} {t : RT} (h : Rp w O v t) (hc : Chg w w' O) (hn : ∀ b, b < w.heap.size → ¬ O b → ¬ O' b) : Rp w' O' v t :=
  Rep.mono h hc.size (fun b hp hl => hc.block b hl hp.2) (fun b hp hl => ⟨Nat.lt_of_lt_of_le hl hc.size, hn b hl hp.2⟩)
theorem Rp.keep {v : RV} {t : RT} (h : Rp w O v t) (hb : Below w.heap.size w w') : Rp w' O v t :=
  Rep.mono h hb.size (fun b _ hl => hb.block b hl) (fun b hp hl => ⟨Nat.lt_of_lt_of_le hl hb.size, hp.2⟩)
/-- The parts of one. -/
structure RpL (w : World) (O : Nat → Prop) (A : Option Addr) (ks : List RT) (vs : Nat → RV) : Prop where
  row : 0 < ks.length → ∃ b o, A = some ⟨b, o, none⟩ ∧ b < w.heap.size ∧ ¬ O b ∧ ∀ j, j < ks.length → RowAt w b (o + j * 8) (vs j).cells
  kid : ∀ j (h : j < ks.length), Rp w O (vs j) ks[j]
theorem RpL.call {O' : Nat → Prop} {A : Option Addr} {ks : List RT} {vs : Nat → RV} (h : RpL w O A ks vs) (hc : Chg w w' O) (hn : ∀ b, b < w.heap.size → ¬ O b → ¬ O' b) : RpL w' O' A ks vs :=
  ⟨fun h0 => by
    obtain ⟨b, o, e, hl, hO, hr⟩ := h.row h0
    exact ⟨b, o, e, Nat.lt_of_lt_of_le hl hc.size, hn b hl hO, fun j hj => (hr j hj).block (hc.block b hl hO)⟩, fun j hj => (h.kid j hj).call hc hn⟩
theorem RpL.keep {A : Option Addr} {ks : List RT} {vs : Nat → RV} (h : RpL w O A ks vs) (hb : Below w.heap.size w w') : RpL w' O A ks vs :=
  ⟨fun h0 => by
    obtain ⟨b, o, e, hl, hO, hr⟩ := h.row h0
    exact ⟨b, o, e, Nat.lt_of_lt_of_le hl hb.size, hO, fun j hj => (hr j hj).block (hb.block b hl)⟩, fun j hj => (h.kid j hj).keep hb⟩
theorem Rp.parts {v : RV} {k : Int} {s : BS} {ks : List RT} {lo hi : Int} (h : Rp w O v (.nd k s ks lo hi)) : v.k = k ∧ v.s = s ∧ v.n = ks.length ∧ v.lo = lo ∧ v.hi = hi ∧ ∃ vs, RpL w O v.A ks vs := by
  unfold Rp at h
  cases h with
  | mk v ks vs hn hA hk =>
    refine ⟨rfl, rfl, hn.symm, rfl, rfl, vs, fun h0 => ?_, hk⟩
    obtain ⟨b, o, e, hl, hp, hr⟩ := hA (by omega)
    exact ⟨b, o, e, hl, hp.2, fun j hj => hr j (by omega)⟩
/-- What a call of put does. -/
def PutAt (t : RT) : Prop := ∀ (v : RV) (w : World) (O : Nat → Prop) (g : Nat) (E : EG) (f : Nat), Rp w O v t → MkR w O g E → (∀ b, O b → b < w.heap.size) → wgT t = 0 → szT t ≤ 512 → f < E.length → E.length + cnT t ≤ 4200 → totE E + 2 * cnT t ≤ 20000 →
  Calls Tryd.prog 19 #[.pointer (some ⟨g, 0, none⟩), v.val, .int .i64 (f : Int)] w fun e w' => e = .returned (.int .i64 ((putT t E f).2 : Nat)) ∧ StM w O g (putT t E f).1 w'
end Go.Proofs.YtoiegkejkahfgaaDoor

/- nfa: put, of some of which one is taken. -/
namespace Go.Proofs.YtoiegkejkahfgaaDoor
set_option linter.unusedSimpArgs false
set_option linter.unusedVariables false
open Go.RowKit

variable {w w' w0 : World} {O O0 : Nat → Prop} {E E' : EG} {g : Nat}
theorem putT_mem {ks : List RT} (h : ∀ t ∈ ks, wgT t = 0) : ∀ t ∈ ks, PutT t := fun t ht => put_ok t (h t ht)
theorem cnL_drop (ks : List RT) (j : Nat) (h : j < ks.length) : cnL (ks.drop j) = cnT ks[j] + cnL (ks.drop (j + 1)) := by
  rw [List.drop_eq_getElem_cons h, cnL]
theorem szK (ks : List RT) (j : Nat) (h : j < ks.length) (hs : szL ks ≤ 512) : szT ks[j] ≤ 512 := by
  have h1 := szL_take ks j h
  have h2 := szL_take_le ks (j + 1)
  omega
set_option maxRecDepth 100000 in
set_option maxHeartbeats 4000000 in
theorem putAlt_any (ks : List RT) (ih : ∀ t ∈ ks, PutAt t) (A : Option Addr) (c : Nat) (vs : Nat → RV) (f : Nat) (hL : RpL w O A ks vs) (hM : MkR w O g E) (hO : ∀ b, O b → b < w.heap.size) (hw : ∀ t ∈ ks, wgT t = 0) (hs : szL ks ≤ 512) (hf : f < E.length) (hE : E.length + (1 + ks.length + cnL ks) ≤ 4200) (hT : totE E + 2 * (1 + ks.length + cnL ks) ≤ 20000) :
    Calls Tryd.prog 37 #[.pointer (some ⟨g, 0, none⟩), .slice A ks.length c, .int .i64 (f : Int)] w fun e w' => e = .returned (.int .i64 (E.length : Int)) ∧ StM w O g (putA ks (newE E) f E.length) w' := by
  have HA := hid (MAt.start hM hO)
  have HL := hid hL
  have HIH := hid ih
  have HW := hid hw
  have HPt := hid (putT_mem hw)
  have hlen := szL_len ks
  have hn512 : ks.length ≤ 512 := by omega
  have HSz := hid (fun j (h : j < ks.length) => szK ks j h hs)
  have HCn := hid (cnL_drop ks)
  obtain ⟨FN, hFN⟩ : ∃ FN, FN = putA ks (newE E) f E.length := ⟨_, rfl⟩
  rw [← hFN]
  have HFN := hid hFN
  clear hL hM hO ih hw hlen hs hFN
  go_enter Tryd.func37, Tryd.ntmps37
  go_wp2_with fail
  refine (state_any HA.out.rd (by omega) HA.out.lt).mono ?_
  rintro e w1 ⟨rfl, hk⟩
  obtain ⟨Ok, ha, hc, hn⟩ := MAt.call HA.out hk
  replace HL := hid (HL.out.call hc hn)
  replace HA := hid ha
  clear hk ha hc hn
  have hnl := newE_len E
  have HT0 := hid (show totE (newE E) + 2 * (ks.length + cnL ks) ≤ 19998 by rw [tot_new]; omega)
  go_wp2_with fail
  go_loopg [15] (ks.length + 1) (fun m i wr => ∃ (j : Nat) (Ej : EG) (Oj : Nat → Prop), j + m = ks.length + 1 ∧ i = .int .i64 (j : Int) ∧ j ≤ ks.length ∧ E.length < Ej.length ∧ Ej.length + ((ks.length - j) + cnL (ks.drop j)) ≤ 4200 ∧ Hid (totE Ej + 2 * ((ks.length - j) + cnL (ks.drop j)) ≤ 19998) ∧ Hid (putA (ks.drop j) Ej f E.length = FN) ∧ Hid (MAt w O g wr Oj Ej) ∧ Hid (RpL wr Oj A ks vs))
  case atStart => exact ⟨0, newE E, Ok, by omega, rfl, by omega, by omega, by rw [List.drop_zero]; omega, by rw [List.drop_zero]; simpa using HT0, by rw [List.drop_zero]; exact hid HFN.out.symm, HA, HL⟩
  case round =>
    clear HA HL HFN HT0
    obtain ⟨j, Ej, Oj, hjm, rfl, hj, hEj, hbj, HTj, HFj, HA, HL⟩ := hrel
    obtain ⟨m, rfl⟩ : ∃ m, gk = m + 1 := ⟨gk - 1, by omega⟩
    by_cases hlt : j < ks.length
    · obtain ⟨b, o, hAe, hbl, hbO, hrow⟩ := HL.out.row (by omega)
      obtain ⟨y0, y1, y2, y3, y4, y5, y6, y7⟩ := (hrow j hlt).cells8
      have hcd := HCn.out j hlt
      have hfd : putA (ks.drop j) Ej f E.length = putA (ks.drop (j + 1)) (freeE (putT ks[j] (freeE (newE Ej) f Ej.length) Ej.length).1 (putT ks[j] (freeE (newE Ej) f Ej.length) Ej.length).2 E.length) f E.length := by rw [List.drop_eq_getElem_cons hlt, putA]
      have HF2 := hid (hfd.symm.trans HFj.out)
      have hl1 : (freeE (newE Ej) f Ej.length).length = Ej.length + 1 := by rw [freeE_len, newE_len]
      have hpo := HPt.out ks[j] (List.getElem_mem _) (freeE (newE Ej) f Ej.length) Ej.length (by omega)
      have hplt := PutOk.lt (HPt.out ks[j] (List.getElem_mem _)) (E := freeE (newE Ej) f Ej.length) (f := Ej.length) (by omega)
      have ht1 := tot_free (newE Ej) f Ej.length
      rw [tot_new] at ht1
      have htj := HTj.out
      have HPl := hid hpo.1
      have HPt4 := hid hpo.2.2.2
      have HKd := hid (HL.out.kid j hlt)
      have hbx := row_new wr 26 #[.int .i64 0, .int .u64 0, .int .u64 0, .int .u64 0, .int .u64 0, .slice none 0 0, .int .i64 0, .int .i64 0] (vs j).cells.toArray
      have HSx := hid (rx_size (vs j))
      have HOne := hid (rx_one (vs j))
      generalize hx : vs j = x at *
      have hwlt := HA.out.lt
      have HX := hid (show Bx ((wr.alloc (.cells #[.int .i64 0, .int .u64 0, .int .u64 0, .int .u64 0, .int .u64 0, .slice none 0 0, .int .i64 0, .int .i64 0] 26)).setRow wr.heap.size x.cells.toArray) Oj wr.heap.size 26 x.cells from ⟨setRow_heap _ _ _ _ _ (0, 0) (heap_alloc_new wr _), fun h => by have := hwlt _ h; omega⟩)
      replace HA := hid (HA.out.keep hbx)
      replace HL := hid (HL.out.keep hbx)
      replace HKd := hid (HKd.out.keep hbx)
      have HIHj := hid (HIH.out ks[j] (List.getElem_mem _))
      have HWj := HW.out ks[j] (List.getElem_mem _)
      have HSj := HSz.out j hlt
      generalize hT : ks[j] = t at *
      have p3 : (j : Int) < (ks.length : Int) := by omega
      have HTot := hid (show totE (freeE (newE Ej) f Ej.length) + 2 * cnT t ≤ 20000 by omega)
      have HTt2 := hid (show totE (freeE (newE Ej) f Ej.length) + 2 * cnT t + 1 + 2 * ((ks.length - (j + 1)) + cnL (ks.drop (j + 1))) ≤ 19998 by omega)
      have HLn2 := hid (show Ej.length + 1 + cnT t + ((ks.length - (j + 1)) + cnL (ks.drop (j + 1))) ≤ 4200 by omega)
      clear hfd HFj hbx hrow hbl hbO hpo ht1 hwlt HTj
      subst hAe
      go_upto_region 5 with (refine wpList_store_row rfl 26 _ _ rfl wr.heap.size x.cells.toArray ?_ ?_ 26 #[.int .i64 0, .int .u64 0, .int .u64 0, .int .u64 0, .int .u64 0, .slice none 0 0, .int .i64 0, .int .i64 0] (heap_alloc_new wr _) HSx.out ?_ HOne.out ?_; exact rfl; exact rfl; exact rfl; generalize (wr.alloc (.cells #[.int .i64 0, .int .u64 0, .int .u64 0, .int .u64 0, .int .u64 0, .slice none 0 0, .int .i64 0, .int .i64 0] 26)).setRow wr.heap.size x.cells.toArray = w5 at *)
      go_wp2_with fail
      refine (state_any HA.out.rd (by omega) HA.out.lt).mono ?_
      rintro e w6 ⟨rfl, hk⟩
      obtain ⟨Ok, ha, hc, hn⟩ := MAt.call HA.out hk
      replace HL := hid (HL.out.call hc hn)
      replace HKd := hid (HKd.out.call hc hn)
      replace HX := hid (HX.out.call hc hn)
      replace HA := hid ha
      clear hk ha hc hn
      go_wp2_with fail
      refine (free_any HA.out.rd (f := f) (t := Ej.length) (by rw [newE_len]; omega) (by rw [tot_new]; omega)).mono ?_
      rintro e w7 ⟨rfl, hk⟩
      obtain ⟨Ok, ha, hc, hn⟩ := MAt.call HA.out hk
      replace HL := hid (HL.out.call hc hn)
      replace HKd := hid (HKd.out.call hc hn)
      replace HX := hid (HX.out.call hc hn)
      replace HA := hid ha
      clear hk ha hc hn
      obtain ⟨x0, x1, x2, x3, x4, x5, x6, x7⟩ := Blk.cells8' HX.out.1
      have HPc := hid (HIHj.out x w7 _ g _ Ej.length HKd.out HA.out.rd HA.out.lt HWj HSj (by omega) (by rw [hl1]; have := HLn2.out; omega) HTot.out)
      unfold RV.val at HPc
      go_wp2_with fail
      refine HPc.out.mono ?_
      rintro e w8 ⟨rfl, hk⟩
      obtain ⟨O8, ha, hc, hn⟩ := MAt.call HA.out hk
      replace HL := hid (HL.out.call hc hn)
      replace HA := hid ha
      clear hk ha hc hn HPc HKd HX x0 x1 x2 x3 x4 x5 x6 x7
      go_wp2_with fail
      refine (free_any HA.out.rd (by have := HPl.out; omega) (by have := HPt4.out; have := HTot.out; omega)).mono ?_
      rintro e w9 ⟨rfl, hk⟩
      obtain ⟨Ok, ha, hc, hn⟩ := MAt.call HA.out hk
      replace HL := hid (HL.out.call hc hn)
      replace HA := hid ha
      clear hk ha hc hn
      go_wp2_with fail
      go_roundg m
      case measure => omega
      case rel =>
        have h1 := HPl.out
        have h2 := HPt4.out
        have h3 := HLn2.out
        have h4 := HTt2.out
        have h5 := tot_free (putT t (freeE (newE Ej) f Ej.length) Ej.length).1 (putT t (freeE (newE Ej) f Ej.length) Ej.length).2 E.length
        exact ⟨j + 1, _, _, by omega, by go_num, by omega, by rw [freeE_len]; omega, by rw [freeE_len]; omega, hid (by omega), HF2, HA, HL⟩
    · obtain rfl : j = ks.length := by omega
      have hd : ks.drop ks.length = [] := by simp
      have hfin := HFj.out
      rw [hd, putA] at hfin
      subst hfin
      clear HCn HSz HIH HW HPt HL
      go_wp2_with fail
      go_ret
      exact ⟨rfl, HA.out.stM⟩
end Go.Proofs.YtoiegkejkahfgaaDoor

/- nfa: put, of one that comes several times. -/
namespace Go.Proofs.YtoiegkejkahfgaaDoor
set_option linter.unusedSimpArgs false
set_option linter.unusedVariables false
open Go.RowKit

variable {w w' w0 : World} {O O0 : Nat → Prop} {E E' : EG} {g : Nat}
theorem rpt_neg {P : PF} {l0 : Nat} {hi : Int} {E Ei : EG} {f fi : Nat} (h : hi < 0) (hm : (Ei, fi) = minR P l0 E f) : rptT P (l0 : Int) hi E f = (freeE (freeE (P (freeE (newE (newE Ei)) fi (newE Ei).length) (newE Ei).length).1 (P (freeE (newE (newE Ei)) fi (newE Ei).length) (newE Ei).length).2 (newE Ei).length) (newE Ei).length Ei.length, Ei.length) := by
  unfold rptT
  rw [Int.toNat_natCast, ← hm]
  simp only [if_pos h]
theorem rpt_pos {P : PF} {l0 : Nat} {hi : Int} {E Ei : EG} {f fi : Nat} (h : ¬ hi < 0) (hm : (Ei, fi) = minR P l0 E f) : rptT P (l0 : Int) hi E f = (freeE (optR P Ei.length (hi - l0).toNat (newE Ei) fi).1 (optR P Ei.length (hi - l0).toNat (newE Ei) fi).2 Ei.length, Ei.length) := by
  unfold rptT
  rw [Int.toNat_natCast, ← hm]
  simp only [if_neg h]
set_option maxRecDepth 100000 in
set_option maxHeartbeats 4000000 in
theorem putRep_any (v : RV) (s : BS) (t : RT) (l0 : Nat) (hi : Int) (ih : PutAt t) (f : Nat) (hR : Rp w O v (.nd 5 s [t] (l0 : Int) hi)) (hM : MkR w O g E) (hO : ∀ b, O b → b < w.heap.size) (hwt : wgT t = 0) (hst : szT t ≤ 512) (hl0 : l0 ≤ 256) (hh : hi ≤ 256) (hlh : hi < 0 ∨ (l0 : Int) ≤ hi) (hf : f < E.length)
    (hE : E.length + (if hi < 0 then 2 + (l0 + 1) * cnT t else 1 + (hi - l0).toNat + hi.toNat * cnT t) ≤ 4200) (hT : totE E + 2 * (if hi < 0 then 2 + (l0 + 1) * cnT t else 1 + (hi - l0).toNat + hi.toNat * cnT t) ≤ 20000) :
    Calls Tryd.prog 38 #[.pointer (some ⟨g, 0, none⟩), v.val, .int .i64 (f : Int)] w fun e w' => e = .returned (.int .i64 ((rptT (putT t) (l0 : Int) hi E f).2 : Nat)) ∧ StM w O g (rptT (putT t) (l0 : Int) hi E f).1 w' := by
  obtain ⟨-, -, hvn, hvl, hvh, vs, hL⟩ := hR.parts
  obtain ⟨b, o, hAe, hbl, hbO, hrow⟩ := hL.row (by simp)
  have hkid := hL.kid 0 (by simp)
  have hrow0 := hrow 0 (by simp)
  simp only [Nat.zero_mul, Nat.add_zero, List.getElem_cons_zero] at hkid hrow0
  generalize vs 0 = x at *
  have hPo := put_ok t hwt
  have hmin : l0 * cnT t + 1 ≤ (if hi < 0 then 2 + (l0 + 1) * cnT t else 1 + (hi - l0).toNat + hi.toNat * cnT t) := by
    split
    · rw [Nat.succ_mul]; omega
    · have : hi.toNat * cnT t = l0 * cnT t + (hi - l0).toNat * cnT t := by rw [← Nat.add_mul]; congr 1; omega
      omega
  have hal := al_belowN w (.cells v.cells.toArray 26)
  have HA := hid ((MAt.start hM hO).keep hal)
  have HV := hid (show Bx (w.alloc (.cells v.cells.toArray 26)) O w.heap.size 26 v.cells from ⟨Blk.fresh w 26 v.cells, fun h => by have := hO _ h; omega⟩)
  have HKd := hid (hkid.keep hal)
  have hrw := hrow0.block (hal.block b hbl)
  have HIH := hid ih
  have HWt := hid hwt
  have HSt := hid hst
  have HPo := hid hPo
  have HMi := hid hmin
  have HEb := hid hE
  have HTb := hid hT
  have HVl := hid hvl
  have HVh := hid hvh
  have HVn := hid hvn
  have HHi := hid hlh
  obtain ⟨FN, hFN⟩ : ∃ FN, FN = rptT (putT t) (l0 : Int) hi E f := ⟨_, rfl⟩
  rw [← hFN]
  have HFN := hid hFN
  clear hR hL hM hO ih hwt hst hkid hrow hrow0 hbl hbO hPo hmin hal hE hT hvn hvl hvh hlh hFN
  unfold RV.val
  rw [show (#[.int .i64 v.k, .int .u64 ((wd v.s 0 : Nat) : Int), .int .u64 ((wd v.s 1 : Nat) : Int), .int .u64 ((wd v.s 2 : Nat) : Int), .int .u64 ((wd v.s 3 : Nat) : Int), .slice v.A v.n v.c, .int .i64 v.lo, .int .i64 v.hi] : Array Value) = v.cells.toArray from rfl]
  go_enter Tryd.func38, Tryd.ntmps38
  go_upto_region 1 with (fail)
  change Code.wp _ _ _ _ (w.alloc (.cells v.cells.toArray 26))
  generalize w.alloc (.cells v.cells.toArray 26) = w1 at *
  have hbx := row_new w1 26 #[.int .i64 0, .int .u64 0, .int .u64 0, .int .u64 0, .int .u64 0, .slice none 0 0, .int .i64 0, .int .i64 0] x.cells.toArray
  have HSx := hid (rx_size x)
  have HOne := hid (rx_one x)
  have hwlt := HA.out.lt
  have HX := hid (show Bx ((w1.alloc (.cells #[.int .i64 0, .int .u64 0, .int .u64 0, .int .u64 0, .int .u64 0, .slice none 0 0, .int .i64 0, .int .i64 0] 26)).setRow w1.heap.size x.cells.toArray) O w1.heap.size 26 x.cells from ⟨setRow_heap _ _ _ _ _ (0, 0) (heap_alloc_new w1 _), fun h => by have := hwlt _ h; omega⟩)
  obtain ⟨z0, z1, z2, z3, z4, z5, z6, z7⟩ := Blk.cells8' HV.out.1
  obtain ⟨y0, y1, y2, y3, y4, y5, y6, y7⟩ := hrw.cells8
  rw [hAe, show v.n = 1 from HVn.out] at z5
  replace HA := hid (HA.out.keep hbx)
  replace HKd := hid (HKd.out.keep hbx)
  replace HV := hid (HV.out.keep hbx)
  clear hrw hwlt hbx
  go_upto_region 2 with (refine wpList_store_row rfl 26 _ _ rfl w1.heap.size x.cells.toArray ?_ ?_ 26 #[.int .i64 0, .int .u64 0, .int .u64 0, .int .u64 0, .int .u64 0, .slice none 0 0, .int .i64 0, .int .i64 0] (heap_alloc_new w1 _) HSx.out ?_ HOne.out ?_; exact rfl; exact rfl; exact rfl; generalize (w1.alloc (.cells #[.int .i64 0, .int .u64 0, .int .u64 0, .int .u64 0, .int .u64 0, .slice none 0 0, .int .i64 0, .int .i64 0] 26)).setRow w1.heap.size x.cells.toArray = w5 at *)
  clear y0 y1 y2 y3 y4 y5 y6 y7 z0 z1 z2 z3 z4 z5 z6 z7
  generalize w1.heap.size = B at *
  clear HSx HOne
  obtain ⟨z0, z1, z2, z3, z4, z5, z6, z7⟩ := Blk.cells8' HV.out.1
  rw [HVl.out] at z6
  go_upto_block 0 with fail
  clear z0 z1 z2 z3 z4 z5 z6 z7
  go_cut [2, 8, 18] from 19 to 28 (fun s2 s8 s18 wr => ∃ (Ei : EG) (fi : Nat) (Oi : Nat → Prop), s2 = .int .i64 (fi : Int) ∧ Hid ((Ei, fi) = minR (putT t) l0 E f) ∧ Hid (MAt w O g wr Oi Ei) ∧ Hid (Bx wr Oi B 26 x.cells) ∧ Hid (Rp wr Oi x t) ∧ Hid (Bx wr Oi w.heap.size 26 v.cells))
  case first =>
    go_wp2_with fail
    go_loopg [2, 8, 18] (l0 + 1) (fun m s2 s8 s18 wr => ∃ (i : Nat) (Ei : EG) (fi : Nat) (Oi : Nat → Prop), i + m = l0 + 1 ∧ i ≤ l0 ∧ s18 = .int .i64 (i : Int) ∧ s2 = .int .i64 (fi : Int) ∧ fi < Ei.length ∧ Hid (Ei.length = E.length + i * cnT t) ∧ Hid (totE Ei ≤ totE E + 2 * (i * cnT t)) ∧ Hid (minR (putT t) (l0 - i) Ei fi = minR (putT t) l0 E f) ∧ Hid (MAt w O g wr Oi Ei) ∧ Hid (Bx wr Oi B 26 x.cells) ∧ Hid (Rp wr Oi x t) ∧ Hid (Bx wr Oi w.heap.size 26 v.cells))
    case atStart => exact ⟨0, E, f, O, by omega, by omega, rfl, rfl, hf, hid (by simp), hid (by simp), hid rfl, HA, HX, HKd, HV⟩
    case round =>
      clear HA HX HKd HV
      obtain ⟨i, Ei, fi, Oi, him, hi0, rfl, rfl, hfi, HLi, HTi, HMi2, HA, HX, HKd, HV⟩ := hrel
      obtain ⟨m, rfl⟩ : ∃ m, gk = m + 1 := ⟨gk - 1, by omega⟩
      by_cases hlt : i < l0
      · have p3 : (i : Int) < (l0 : Int) := by omega
        have hcm : (i + 1) * cnT t ≤ l0 * cnT t := Nat.mul_le_mul_right _ (by omega)
        have hsm : (i + 1) * cnT t = i * cnT t + cnT t := Nat.succ_mul _ _
        have hmi := HMi.out
        have heb := HEb.out
        have htb := HTb.out
        have hli := HLi.out
        have hti := HTi.out
        obtain ⟨q1, q2, q3, q4⟩ := HPo.out Ei fi hfi
        have q5 := PutOk.lt HPo.out (E := Ei) (f := fi) hfi
        have hstep : minR (putT t) (l0 - i) Ei fi = if (putT t Ei fi).2 = fi then ((putT t Ei fi).1, fi) else minR (putT t) (l0 - (i + 1)) (putT t Ei fi).1 (putT t Ei fi).2 := by
          rw [show l0 - i = (l0 - (i + 1)) + 1 by omega, minR]
        have HS := hid (hstep.symm.trans HMi2.out)
        have b1 : Ei.length + cnT t ≤ 4200 := by omega
        have b2 : totE Ei + 2 * cnT t ≤ 20000 := by omega
        have HL1 := hid (show (putT t Ei fi).1.length = E.length + (i + 1) * cnT t by omega)
        have HT1 := hid (show totE (putT t Ei fi).1 ≤ totE E + 2 * ((i + 1) * cnT t) by omega)
        have q6 : (putT t Ei fi).2 < (putT t Ei fi).1.length := by omega
        clear hcm hsm hmi heb htb hli hti q1 q2 q3 q4 q5 hstep
        obtain ⟨x0, x1, x2, x3, x4, x5, x6, x7⟩ := Blk.cells8' HX.out.1
        have HPc := hid (HIH.out x _ _ g (Ei) (fi) HKd.out HA.out.rd HA.out.lt HWt.out HSt.out (hfi) (b1) (b2))
        unfold RV.val at HPc
        go_wp2_with fail
        refine HPc.out.mono ?_
        rintro e w8 ⟨rfl, hk⟩
        obtain ⟨Ok, ha, hc, hn⟩ := MAt.call HA.out hk
        replace HX := hid (HX.out.call hc hn)
        replace HKd := hid (HKd.out.call hc hn)
        replace HV := hid (HV.out.call hc hn)
        replace HA := hid ha
        clear hk ha hc hn HPc x0 x1 x2 x3 x4 x5 x6 x7
        generalize hP : putT t Ei fi = pr at *
        by_cases hbr : pr.2 = fi
        · have HS2 := HS.out
          rw [if_pos hbr] at HS2
          have hb' : (pr.2 : Int) = (fi : Int) := by omega
          have HS3 := hid HS2
          clear HS2 HS hP hbr
          rw [hb']
          go_wp2_with fail
          go_meet
          case rel => exact ⟨pr.1, fi, Ok, rfl, HS3, HA, HX, HKd, HV⟩
        · have HS2 := HS.out
          rw [if_neg hbr] at HS2
          have hb' : ¬ (pr.2 : Int) = (fi : Int) := by omega
          have HS3 := hid HS2
          clear HS2 HS hP hbr
          go_wp2_with fail
          go_roundg m
          case measure => omega
          case rel => exact ⟨i + 1, pr.1, pr.2, Ok, by omega, by omega, by go_num, rfl, q6, HL1, HT1, HS3, HA, HX, HKd, HV⟩
      · obtain rfl : i = l0 := by omega
        have hfin := HMi2.out
        rw [show i - i = 0 by omega, minR] at hfin
        have HF2 := hid hfin
        clear hfin HMi2
        go_wp2_with fail
        go_meet
        case rel => exact ⟨Ei, fi, Oi, rfl, HF2, HA, HX, HKd, HV⟩
  case rest =>
    clear HA HX HKd HV
    obtain ⟨Ei, fi, Oi, rfl, HMr, HA, HX, HKd, HV⟩ := hcut
    have hm := minR_ok HPo.out l0
    obtain ⟨m1, -, -, m4⟩ := hm E f hf
    have ml := PutOk.lt hm hf
    rw [← HMr.out] at m1 m4 ml
    simp only at m1 m4 ml
    have heb := HEb.out
    have htb := HTb.out
    have hmi := HMi.out
    have hfl : fi < Ei.length := by omega
    have hEl : Ei.length ≤ 4200 := by omega
    by_cases hneg : hi < 0
    · have hfn := HFN.out
      rw [rpt_neg hneg HMr.out] at hfn
      rw [if_pos hneg] at heb htb
      have hsm : (l0 + 1) * cnT t = l0 * cnT t + cnT t := Nat.succ_mul _ _
      have hl3 : (freeE (newE (newE Ei)) fi (newE Ei).length).length = Ei.length + 2 := by rw [freeE_len, newE_len, newE_len]
      have hnl := newE_len Ei
      have hnl2 := newE_len (newE Ei)
      have t1 := tot_free (newE (newE Ei)) fi (newE Ei).length
      rw [tot_new, tot_new] at t1
      have hlpl : (newE Ei).length < (freeE (newE (newE Ei)) fi (newE Ei).length).length := by omega
      obtain ⟨q1, -, -, q4⟩ := HPo.out _ _ hlpl
      have q5 := PutOk.lt HPo.out hlpl
      have c1 : (freeE (newE (newE Ei)) fi (newE Ei).length).length + cnT t ≤ 4200 := by omega
      have c2 : totE (freeE (newE (newE Ei)) fi (newE Ei).length) + 2 * cnT t ≤ 20000 := by omega
      have c3 : totE (newE (newE Ei)) ≤ 1000000 := by rw [tot_new, tot_new]; omega
      have c4 : fi < (newE (newE Ei)).length := by omega
      have HQ1 := hid q1
      have HQ4 := hid q4
      have HQ5 := hid q5
      have HFn := hid hfn
      have HL3 := hid hl3
      have HNl := hid hnl
      clear hfn hm m1 m4 ml heb htb hmi hsm t1 q1 q4 q5 HFN HMr hnl2 hl3 hnl
      go_wp2_with fail
      refine (state_any HA.out.rd (by omega) HA.out.lt).mono ?_
      rintro e w2 ⟨rfl, hk⟩
      obtain ⟨Ok, ha, hc, hn⟩ := MAt.call HA.out hk
      replace HX := hid (HX.out.call hc hn)
      replace HKd := hid (HKd.out.call hc hn)
      replace HV := hid (HV.out.call hc hn)
      replace HA := hid ha
      clear hk ha hc hn
      obtain ⟨z0, z1, z2, z3, z4, z5, z6, z7⟩ := Blk.cells8' HV.out.1
      rw [HVh.out] at z7
      go_wp2_with fail
      clear z0 z1 z2 z3 z4 z5 z6 z7
      refine (state_any HA.out.rd (by omega) HA.out.lt).mono ?_
      rintro e w3 ⟨rfl, hk⟩
      obtain ⟨Ok, ha, hc, hn⟩ := MAt.call HA.out hk
      replace HX := hid (HX.out.call hc hn)
      replace HKd := hid (HKd.out.call hc hn)
      replace HV := hid (HV.out.call hc hn)
      replace HA := hid ha
      clear hk ha hc hn
      go_wp2_with fail
      refine (free_any HA.out.rd (f := fi) (t := (newE Ei).length) (c4) (c3)).mono ?_
      rintro e w4 ⟨rfl, hk⟩
      obtain ⟨Ok, ha, hc, hn⟩ := MAt.call HA.out hk
      replace HX := hid (HX.out.call hc hn)
      replace HKd := hid (HKd.out.call hc hn)
      replace HV := hid (HV.out.call hc hn)
      replace HA := hid ha
      clear hk ha hc hn
      obtain ⟨x0, x1, x2, x3, x4, x5, x6, x7⟩ := Blk.cells8' HX.out.1
      have HPc := hid (HIH.out x _ _ g (_) (_) HKd.out HA.out.rd HA.out.lt HWt.out HSt.out (hlpl) (c1) (c2))
      unfold RV.val at HPc
      go_wp2_with fail
      refine HPc.out.mono ?_
      rintro e w5 ⟨rfl, hk⟩
      obtain ⟨Ok, ha, hc, hn⟩ := MAt.call HA.out hk
      replace HX := hid (HX.out.call hc hn)
      replace HKd := hid (HKd.out.call hc hn)
      replace HV := hid (HV.out.call hc hn)
      replace HA := hid ha
      clear hk ha hc hn HPc x0 x1 x2 x3 x4 x5 x6 x7
      go_wp2_with fail
      refine (free_any HA.out.rd (f := _) (t := _) (by have := HQ1.out; have := HQ5.out; have := HL3.out; omega) (by have := HQ4.out; omega)).mono ?_
      rintro e w6 ⟨rfl, hk⟩
      obtain ⟨Ok, ha, hc, hn⟩ := MAt.call HA.out hk
      replace HX := hid (HX.out.call hc hn)
      replace HKd := hid (HKd.out.call hc hn)
      replace HV := hid (HV.out.call hc hn)
      replace HA := hid ha
      clear hk ha hc hn
      go_wp2_with fail
      refine (free_any HA.out.rd (f := _) (t := _) (by rw [freeE_len]; have := HQ1.out; have := HL3.out; have := HNl.out; omega) (by have h1 := HQ4.out; refine Nat.le_trans (tot_free _ _ _) ?_; omega)).mono ?_
      rintro e w7 ⟨rfl, hk⟩
      obtain ⟨Ok, ha, hc, hn⟩ := MAt.call HA.out hk
      replace HX := hid (HX.out.call hc hn)
      replace HKd := hid (HKd.out.call hc hn)
      replace HV := hid (HV.out.call hc hn)
      replace HA := hid ha
      clear hk ha hc hn
      have hfn := HFn.out
      subst hfn
      go_wp2_with fail
      go_ret
      exact ⟨rfl, HA.out.stM⟩
    · have hfn := HFN.out
      rw [rpt_pos hneg HMr.out] at hfn
      rw [if_neg hneg] at heb htb
      obtain ⟨nn, hnn⟩ : ∃ nn, nn = (hi - l0).toNat := ⟨_, rfl⟩
      have hl0 : (l0 : Int) ≤ hi := by have := HHi.out; omega
      have hnn2 : ((nn : Nat) : Int) = hi - l0 := by omega
      have hcn : hi.toNat * cnT t = l0 * cnT t + nn * cnT t := by rw [← Nat.add_mul]; congr 1; omega
      have hn1 : nn * (1 + cnT t) = nn + nn * cnT t := by rw [Nat.mul_add, Nat.mul_one]
      rw [← hnn] at hfn heb htb
      have hnl := newE_len Ei
      have hbE : Ei.length + 1 + nn * (1 + cnT t) ≤ 4200 := by omega
      have hbT : totE Ei + 2 * (nn * (1 + cnT t)) + 2 ≤ 20000 := by omega
      have hnn3 : nn ≤ 256 := by omega
      have HNn := hid hnn2
      have HBE := hid hbE
      have HBT := hid hbT
      have HFn := hid hfn
      have HNl := hid hnl
      have hw56 : IntKind.i64.wrap (hi - (l0 : Int)) = (nn : Int) := by rw [IntKind.wrap_i64]; omega
      clear hfn hm m1 m4 ml heb htb hmi HFN HMr hnl hcn hn1 hbE hbT hnn hnn2
      go_wp2_with fail
      refine (state_any HA.out.rd (by omega) HA.out.lt).mono ?_
      rintro e w2 ⟨rfl, hk⟩
      obtain ⟨Ok, ha, hc, hn⟩ := MAt.call HA.out hk
      replace HX := hid (HX.out.call hc hn)
      replace HKd := hid (HKd.out.call hc hn)
      replace HV := hid (HV.out.call hc hn)
      replace HA := hid ha
      clear hk ha hc hn
      obtain ⟨z0, z1, z2, z3, z4, z5, z6, z7⟩ := Blk.cells8' HV.out.1
      rw [HVh.out] at z7
      rw [HVl.out] at z6
      go_wp2_with fail
      clear z0 z1 z2 z3 z4 z5 z6 z7
      go_loopg [2, 11, 57] (nn + 1) (fun m s2 s11 s57 wr => ∃ (i : Nat) (Ej : EG) (fj : Nat) (Oi : Nat → Prop), i + m = nn + 1 ∧ i ≤ nn ∧ s57 = .int .i64 (i : Int) ∧ s2 = .int .i64 (fj : Int) ∧ fj < Ej.length ∧ Hid (Ej.length = Ei.length + 1 + i * (1 + cnT t)) ∧ Hid (totE Ej ≤ totE Ei + 2 * (i * (1 + cnT t))) ∧ Hid (optR (putT t) Ei.length (nn - i) Ej fj = optR (putT t) Ei.length nn (newE Ei) fi) ∧ Hid (MAt w O g wr Oi Ej) ∧ Hid (Bx wr Oi B 26 x.cells) ∧ Hid (Rp wr Oi x t) ∧ Hid (Bx wr Oi w.heap.size 26 v.cells))
      case atStart => exact ⟨0, newE Ei, fi, Ok, by omega, by omega, rfl, rfl, by rw [newE_len]; omega, hid (by rw [newE_len]; simp), hid (by rw [tot_new]; simp), hid rfl, HA, HX, HKd, HV⟩
      case round =>
        clear HA HX HKd HV
        obtain ⟨i, Ej, fj, Oi, him, hi0, rfl, rfl, hfj, HLi, HTi, HOp, HA, HX, HKd, HV⟩ := hrel
        obtain ⟨m, rfl⟩ : ∃ m, gk = m + 1 := ⟨gk - 1, by omega⟩
        have hli := HLi.out
        have hti := HTi.out
        have hbe := HBE.out
        have hbt := HBT.out
        have hcm : i * (1 + cnT t) ≤ nn * (1 + cnT t) := Nat.mul_le_mul_right _ hi0
        have d1 : totE Ej ≤ 1000000 := by omega
        have d2 : Ej.length ≤ 4200 := by omega
        by_cases hlt : i < nn
        · have p3 : (i : Int) < (nn : Int) := by omega
          have hcm2 : (i + 1) * (1 + cnT t) ≤ nn * (1 + cnT t) := Nat.mul_le_mul_right _ (by omega)
          have hsm : (i + 1) * (1 + cnT t) = i * (1 + cnT t) + (1 + cnT t) := Nat.succ_mul _ _
          have hl1 := freeE_len Ej fj Ei.length
          have hl3 : (freeE (newE (freeE Ej fj Ei.length)) fj (freeE Ej fj Ei.length).length).length = Ej.length + 1 := by rw [freeE_len, newE_len, freeE_len]
          have t0 := tot_free Ej fj Ei.length
          have t1 := tot_free (newE (freeE Ej fj Ei.length)) fj (freeE Ej fj Ei.length).length
          rw [tot_new] at t1
          have hlpl : (freeE Ej fj Ei.length).length < (freeE (newE (freeE Ej fj Ei.length)) fj (freeE Ej fj Ei.length).length).length := by omega
          obtain ⟨q1, -, -, q4⟩ := HPo.out _ _ hlpl
          have q5 := PutOk.lt HPo.out hlpl
          have c1 : (freeE (newE (freeE Ej fj Ei.length)) fj (freeE Ej fj Ei.length).length).length + cnT t ≤ 4200 := by omega
          have c2 : totE (freeE (newE (freeE Ej fj Ei.length)) fj (freeE Ej fj Ei.length).length) + 2 * cnT t ≤ 20000 := by omega
          have c3 : totE (newE (freeE Ej fj Ei.length)) ≤ 1000000 := by rw [tot_new]; omega
          have c4 : fj < (newE (freeE Ej fj Ei.length)).length := by rw [newE_len]; omega
          have c5 : (freeE Ej fj Ei.length).length ≤ 5000 := by omega
          have hst : optR (putT t) Ei.length (nn - i) Ej fj = optR (putT t) Ei.length (nn - (i + 1)) (putT t (freeE (newE (freeE Ej fj Ei.length)) fj (freeE Ej fj Ei.length).length) (freeE Ej fj Ei.length).length).1 (putT t (freeE (newE (freeE Ej fj Ei.length)) fj (freeE Ej fj Ei.length).length) (freeE Ej fj Ei.length).length).2 := by
            rw [show nn - i = (nn - (i + 1)) + 1 by omega, optR]
          have HO2 := hid (hst.symm.trans HOp.out)
          have HL9 := hid (show (putT t (freeE (newE (freeE Ej fj Ei.length)) fj (freeE Ej fj Ei.length).length) (freeE Ej fj Ei.length).length).1.length = Ei.length + 1 + (i + 1) * (1 + cnT t) by omega)
          have HT9 := hid (show totE (putT t (freeE (newE (freeE Ej fj Ei.length)) fj (freeE Ej fj Ei.length).length) (freeE Ej fj Ei.length).length).1 ≤ totE Ei + 2 * ((i + 1) * (1 + cnT t)) by omega)
          have q6 : (putT t (freeE (newE (freeE Ej fj Ei.length)) fj (freeE Ej fj Ei.length).length) (freeE Ej fj Ei.length).length).2 < (putT t (freeE (newE (freeE Ej fj Ei.length)) fj (freeE Ej fj Ei.length).length) (freeE Ej fj Ei.length).length).1.length := by omega
          have HQ6 := hid q6
          clear hli hti hbe hbt hcm hcm2 hsm hl1 hl3 t0 t1 q1 q4 q5 q6 hst HOp HLi HTi
          go_wp2_with fail
          refine (free_any HA.out.rd (f := fj) (t := Ei.length) (hfj) (d1)).mono ?_
          rintro e w3 ⟨rfl, hk⟩
          obtain ⟨Ok, ha, hc, hn⟩ := MAt.call HA.out hk
          replace HX := hid (HX.out.call hc hn)
          replace HKd := hid (HKd.out.call hc hn)
          replace HV := hid (HV.out.call hc hn)
          replace HA := hid ha
          clear hk ha hc hn
          go_wp2_with fail
          refine (state_any HA.out.rd (c5) HA.out.lt).mono ?_
          rintro e w4 ⟨rfl, hk⟩
          obtain ⟨Ok, ha, hc, hn⟩ := MAt.call HA.out hk
          replace HX := hid (HX.out.call hc hn)
          replace HKd := hid (HKd.out.call hc hn)
          replace HV := hid (HV.out.call hc hn)
          replace HA := hid ha
          clear hk ha hc hn
          go_wp2_with fail
          refine (free_any HA.out.rd (f := fj) (t := (freeE Ej fj Ei.length).length) (c4) (c3)).mono ?_
          rintro e w5 ⟨rfl, hk⟩
          obtain ⟨Ok, ha, hc, hn⟩ := MAt.call HA.out hk
          replace HX := hid (HX.out.call hc hn)
          replace HKd := hid (HKd.out.call hc hn)
          replace HV := hid (HV.out.call hc hn)
          replace HA := hid ha
          clear hk ha hc hn
          obtain ⟨x0, x1, x2, x3, x4, x5, x6, x7⟩ := Blk.cells8' HX.out.1
          have HPc := hid (HIH.out x _ _ g (_) (_) HKd.out HA.out.rd HA.out.lt HWt.out HSt.out (hlpl) (c1) (c2))
          unfold RV.val at HPc
          go_wp2_with fail
          refine HPc.out.mono ?_
          rintro e w6 ⟨rfl, hk⟩
          obtain ⟨Ok, ha, hc, hn⟩ := MAt.call HA.out hk
          replace HX := hid (HX.out.call hc hn)
          replace HKd := hid (HKd.out.call hc hn)
          replace HV := hid (HV.out.call hc hn)
          replace HA := hid ha
          clear hk ha hc hn HPc x0 x1 x2 x3 x4 x5 x6 x7
          go_wp2_with fail
          go_roundg m
          case measure => omega
          case rel => exact ⟨i + 1, _, _, _, by omega, by omega, by go_num, rfl, HQ6.out, HL9, HT9, HO2, HA, HX, HKd, HV⟩
        · obtain rfl : i = nn := by omega
          have hop := HOp.out
          rw [show i - i = 0 by omega, optR] at hop
          have hfn := HFn.out
          rw [← hop] at hfn
          have HF2 := hid hfn
          clear hop hfn HFn HOp hli hti hbe hbt hcm
          go_wp2_with fail
          refine (free_any HA.out.rd (f := fj) (t := Ei.length) (hfj) (d1)).mono ?_
          rintro e w3 ⟨rfl, hk⟩
          obtain ⟨Ok, ha, hc, hn⟩ := MAt.call HA.out hk
          replace HX := hid (HX.out.call hc hn)
          replace HKd := hid (HKd.out.call hc hn)
          replace HV := hid (HV.out.call hc hn)
          replace HA := hid ha
          clear hk ha hc hn
          have hfn := HF2.out
          subst hfn
          go_wp2_with fail
          go_ret
          exact ⟨rfl, HA.out.stM⟩
end Go.Proofs.YtoiegkejkahfgaaDoor

/- nfa: put. -/
namespace Go.Proofs.YtoiegkejkahfgaaDoor
set_option linter.unusedSimpArgs false
set_option linter.unusedVariables false
open Go.RowKit

theorem putC_drop (ks : List RT) (j : Nat) (h : j < ks.length) (E : EG) (f : Nat) : putC (ks.drop j) E f = putC (ks.drop (j + 1)) (putT ks[j] E f).1 (putT ks[j] E f).2 := by
  rw [List.drop_eq_getElem_cons h, putC]
set_option maxRecDepth 100000 in
set_option maxHeartbeats 4000000 in
theorem put_any : ∀ t, PutAt t := by
  refine RT.ind fun k s ks lo hi ih => ?_
  intro v w O g E f hR hM hO hw hs hf hE hT
  obtain ⟨hc, hk⟩ := wgT_nd hw
  obtain ⟨hvk, hvs, hvn, hvl, hvh, vs, hL⟩ := hR.parts
  have hsz : szT (.nd k s ks lo hi) = 1 + szL ks := by rw [szT]
  have hal := al_belowN w (.cells v.cells.toArray 26)
  have HA := hid ((MAt.start hM hO).keep hal)
  have HV := hid (show Bx (w.alloc (.cells v.cells.toArray 26)) O w.heap.size 26 v.cells from ⟨Blk.fresh w 26 v.cells, fun h => by have := hO _ h; omega⟩)
  have HL := hid (hL.keep hal)
  have HR := hid (Rp.keep hR hal)
  rcases ck1_kinds hc with ⟨rfl, rfl⟩ | ⟨rfl, rfl, h⟩ | ⟨rfl, h⟩ | ⟨rfl, h⟩ | ⟨rfl, x, rfl, h1, h2, h3, h4⟩
  · have e : putT (.nd 1 s [] lo hi) E f = (E, f) := by
      rw [putT, if_neg (by omega), if_neg (by omega), if_neg (by omega), if_neg (by omega)]
    rw [e]
    clear e hR hM hO hw hs hE hT hc hk hL hal HL HR ih hsz
    unfold RV.val
    rw [show (#[.int .i64 v.k, .int .u64 ((wd v.s 0 : Nat) : Int), .int .u64 ((wd v.s 1 : Nat) : Int), .int .u64 ((wd v.s 2 : Nat) : Int), .int .u64 ((wd v.s 3 : Nat) : Int), .slice v.A v.n v.c, .int .i64 v.lo, .int .i64 v.hi] : Array Value) = v.cells.toArray from rfl]
    go_enter Tryd.func19, Tryd.ntmps19
    go_upto_region 1 with (fail)
    change Code.wp _ _ _ _ (w.alloc (.cells v.cells.toArray 26))
    generalize w.alloc (.cells v.cells.toArray 26) = w1 at *
    obtain ⟨z0, z1, z2, z3, z4, z5, z6, z7⟩ := Blk.cells8' HV.out.1
    rw [hvk] at z0
    go_wp2_with fail
    go_ret
    exact ⟨rfl, HA.out.stM⟩
  · have e : putT (.nd 2 s [] lo hi) E f = (addE (newE E) f ⟨E.length, s, false⟩, E.length) := by
      rw [putT, if_pos rfl]
    have e2 : cnT (.nd 2 s [] lo hi) = 1 := by rw [cnT, if_pos rfl]
    rw [e2] at hE hT
    rw [e]
    have HVs := hid hvs
    clear e e2 hR hM hO hw hs hc hk hL hal HL HR ih hsz h hvs
    unfold RV.val
    rw [show (#[.int .i64 v.k, .int .u64 ((wd v.s 0 : Nat) : Int), .int .u64 ((wd v.s 1 : Nat) : Int), .int .u64 ((wd v.s 2 : Nat) : Int), .int .u64 ((wd v.s 3 : Nat) : Int), .slice v.A v.n v.c, .int .i64 v.lo, .int .i64 v.hi] : Array Value) = v.cells.toArray from rfl]
    go_enter Tryd.func19, Tryd.ntmps19
    go_upto_region 1 with (fail)
    change Code.wp _ _ _ _ (w.alloc (.cells v.cells.toArray 26))
    generalize w.alloc (.cells v.cells.toArray 26) = w1 at *
    obtain ⟨z0, z1, z2, z3, z4, z5, z6, z7⟩ := Blk.cells8' HV.out.1
    rw [hvk] at z0
    go_wp2_with fail
    clear z0 z1 z2 z3 z4 z5 z6 z7
    refine (state_any HA.out.rd (by omega) HA.out.lt).mono ?_
    rintro e w2 ⟨rfl, hk⟩
    obtain ⟨Ok, ha, hc, hn⟩ := MAt.call HA.out hk
    replace HV := hid (HV.out.call hc hn)
    replace HA := hid ha
    clear hk ha hc hn
    obtain ⟨z0, z1, z2, z3, z4, z5, z6, z7⟩ := Blk.cells8' HV.out.1
    rw [HVs.out] at z1 z2 z3 z4
    have hb1 : f < (newE E).length := by rw [newE_len]; omega
    have hb2 : totE (newE E) ≤ 1000000 := by rw [tot_new]; omega
    go_wp2_with fail
    refine (by_any HA.out.rd (f := f) (t := E.length) s hb1 hb2 HA.out.lt).mono ?_
    rintro e w3 ⟨rfl, hk⟩
    obtain ⟨Ok, ha, hc, hn⟩ := MAt.call HA.out hk
    replace HV := hid (HV.out.call hc hn)
    replace HA := hid ha
    clear hk ha hc hn
    go_wp2_with fail
    go_ret
    exact ⟨rfl, HA.out.stM⟩
  · have e : putT (.nd 3 s ks lo hi) E f = putC ks E f := by rw [putT, if_neg (by omega), if_pos rfl]
    have e2 : cnT (.nd 3 s ks lo hi) = cnL ks := by rw [cnT, if_neg (by omega), if_pos rfl]
    rw [e2] at hE hT
    rw [e]
    obtain ⟨FN, hFN⟩ : ∃ FN, FN = putC ks E f := ⟨_, rfl⟩
    rw [← hFN]
    have HFN := hid hFN.symm
    have HIH := hid ih
    have HW := hid hk
    have HPt := hid (putT_mem hk)
    have hlen := szL_len ks
    have hn512 : ks.length ≤ 512 := by omega
    have HSz := hid (fun j (h : j < ks.length) => szK ks j h (by omega))
    have HCn := hid (cnL_drop ks)
    have HVn := hid hvn
    have HEb := hid hE
    have HTb := hid hT
    clear e e2 hR hM hO hw hs hc hk hL hal HR ih hsz h hFN hvn hE hT hlen
    obtain ⟨A, hA0⟩ : ∃ A, A = v.A := ⟨_, rfl⟩
    have HA0 := hid hA0.symm
    rw [← hA0] at HL
    clear hA0
    unfold RV.val
    rw [show (#[.int .i64 v.k, .int .u64 ((wd v.s 0 : Nat) : Int), .int .u64 ((wd v.s 1 : Nat) : Int), .int .u64 ((wd v.s 2 : Nat) : Int), .int .u64 ((wd v.s 3 : Nat) : Int), .slice v.A v.n v.c, .int .i64 v.lo, .int .i64 v.hi] : Array Value) = v.cells.toArray from rfl]
    go_enter Tryd.func19, Tryd.ntmps19
    go_upto_region 1 with (fail)
    change Code.wp _ _ _ _ (w.alloc (.cells v.cells.toArray 26))
    generalize w.alloc (.cells v.cells.toArray 26) = w1 at *
    obtain ⟨z0, z1, z2, z3, z4, z5, z6, z7⟩ := Blk.cells8' HV.out.1
    rw [hvk] at z0
    rw [HA0.out, HVn.out] at z5
    go_wp2_with fail
    clear z0 z1 z2 z3 z4 z5 z6 z7
    go_loopg [2, 28] (ks.length + 1) (fun m s2 i wr => ∃ (j : Nat) (Ej : EG) (fj : Nat) (Oj : Nat → Prop), j + m = ks.length + 1 ∧ i = .int .i64 (j : Int) ∧ s2 = .int .i64 (fj : Int) ∧ j ≤ ks.length ∧ fj < Ej.length ∧ Hid (Ej.length + cnL (ks.drop j) ≤ 4200) ∧ Hid (totE Ej + 2 * cnL (ks.drop j) ≤ 20000) ∧ Hid (putC (ks.drop j) Ej fj = FN) ∧ Hid (MAt w O g wr Oj Ej) ∧ Hid (RpL wr Oj A ks vs))
    case atStart => exact ⟨0, E, f, O, by omega, rfl, rfl, by omega, hf, by rw [List.drop_zero]; exact HEb, by rw [List.drop_zero]; exact HTb, by rw [List.drop_zero]; exact HFN, HA, HL⟩
    case round =>
      clear HA HL HFN HEb HTb HV HVn HA0
      obtain ⟨j, Ej, fj, Oj, hjm, rfl, rfl, hj, hfj, HBj, HTj, HFj, HA, HL⟩ := hrel
      obtain ⟨m, rfl⟩ : ∃ m, gk = m + 1 := ⟨gk - 1, by omega⟩
      by_cases hlt : j < ks.length
      · obtain ⟨b, o, hAe, hbl, hbO, hrow⟩ := HL.out.row (by omega)
        obtain ⟨y0, y1, y2, y3, y4, y5, y6, y7⟩ := (hrow j hlt).cells8
        have hcd := HCn.out j hlt
        have HF2 := hid ((putC_drop ks j hlt Ej fj).symm.trans HFj.out)
        have hpo := HPt.out ks[j] (List.getElem_mem _) Ej fj hfj
        have hplt := PutOk.lt (HPt.out ks[j] (List.getElem_mem _)) (E := Ej) (f := fj) hfj
        have hbj := HBj.out
        have htj := HTj.out
        have hp1 := hpo.1
        have hp4 := hpo.2.2.2
        have HKd := hid (HL.out.kid j hlt)
        have hbx := row_new wr 26 #[.int .i64 0, .int .u64 0, .int .u64 0, .int .u64 0, .int .u64 0, .slice none 0 0, .int .i64 0, .int .i64 0] (vs j).cells.toArray
        have HSx := hid (rx_size (vs j))
        have HOne := hid (rx_one (vs j))
        generalize hx : vs j = x at *
        have hwlt := HA.out.lt
        have HX := hid (show Bx ((wr.alloc (.cells #[.int .i64 0, .int .u64 0, .int .u64 0, .int .u64 0, .int .u64 0, .slice none 0 0, .int .i64 0, .int .i64 0] 26)).setRow wr.heap.size x.cells.toArray) Oj wr.heap.size 26 x.cells from ⟨setRow_heap _ _ _ _ _ (0, 0) (heap_alloc_new wr _), fun h => by have := hwlt _ h; omega⟩)
        replace HA := hid (HA.out.keep hbx)
        replace HL := hid (HL.out.keep hbx)
        replace HKd := hid (HKd.out.keep hbx)
        have HIHj := hid (HIH.out ks[j] (List.getElem_mem _))
        have HWj := HW.out ks[j] (List.getElem_mem _)
        have HSj := HSz.out j hlt
        generalize hT : ks[j] = t at *
        have p3 : (j : Int) < (ks.length : Int) := by omega
        have c1 : Ej.length + cnT t ≤ 4200 := by omega
        have c2 : totE Ej + 2 * cnT t ≤ 20000 := by omega
        have HB9 := hid (show (putT t Ej fj).1.length + cnL (ks.drop (j + 1)) ≤ 4200 by omega)
        have HT9 := hid (show totE (putT t Ej fj).1 + 2 * cnL (ks.drop (j + 1)) ≤ 20000 by omega)
        have HQ9 := hid (show (putT t Ej fj).2 < (putT t Ej fj).1.length by omega)
        clear hcd hpo hplt hbj htj hp1 hp4 hbx hwlt hrow hbl hbO HBj HTj HFj
        subst hAe
        go_upto_region 10 with (refine wpList_store_row rfl 26 _ _ rfl wr.heap.size x.cells.toArray ?_ ?_ 26 #[.int .i64 0, .int .u64 0, .int .u64 0, .int .u64 0, .int .u64 0, .slice none 0 0, .int .i64 0, .int .i64 0] (heap_alloc_new wr _) HSx.out ?_ HOne.out ?_; exact rfl; exact rfl; exact rfl; generalize (wr.alloc (.cells #[.int .i64 0, .int .u64 0, .int .u64 0, .int .u64 0, .int .u64 0, .slice none 0 0, .int .i64 0, .int .i64 0] 26)).setRow wr.heap.size x.cells.toArray = w5 at *)
        obtain ⟨x0, x1, x2, x3, x4, x5, x6, x7⟩ := Blk.cells8' HX.out.1
        have HPc := hid (HIHj.out x _ _ g Ej fj HKd.out HA.out.rd HA.out.lt HWj HSj hfj c1 c2)
        unfold RV.val at HPc
        go_wp2_with fail
        refine HPc.out.mono ?_
        rintro e w8 ⟨rfl, hk⟩
        obtain ⟨O8, ha, hc, hn⟩ := MAt.call HA.out hk
        replace HL := hid (HL.out.call hc hn)
        replace HA := hid ha
        clear hk ha hc hn HPc HKd HX x0 x1 x2 x3 x4 x5 x6 x7
        go_wp2_with fail
        go_roundg m
        case measure => omega
        case rel => exact ⟨j + 1, _, _, _, by omega, by go_num, rfl, by omega, HQ9.out, HB9, HT9, HF2, HA, HL⟩
      · obtain rfl : j = ks.length := by omega
        have hd : ks.drop ks.length = [] := by simp
        have hfin := HFj.out
        rw [hd, putC] at hfin
        subst hfin
        clear HCn HSz HIH HW HPt HL
        go_wp2_with fail
        go_ret
        exact ⟨rfl, HA.out.stM⟩
  · have e : putT (.nd 4 s ks lo hi) E f = (putA ks (newE E) f E.length, E.length) := by rw [putT, if_neg (by omega), if_neg (by omega), if_pos rfl]
    have e2 : cnT (.nd 4 s ks lo hi) = 1 + ks.length + cnL ks := by rw [cnT, if_neg (by omega), if_neg (by omega), if_pos rfl]
    rw [e2] at hE hT
    rw [e]
    have HVn := hid hvn
    have HAlt := hid (fun (W : World) (OO : Nat → Prop) (c : Nat) (h1 : RpL W OO v.A ks vs) (h2 : MkR W OO g E) (h3 : ∀ b, OO b → b < W.heap.size) => putAlt_any ks ih v.A c vs f h1 h2 h3 hk (by omega) hf hE hT)
    clear e e2 hR hM hO hw hs hc hk hL hal HR ih hsz h hvn hE hT
    unfold RV.val
    rw [show (#[.int .i64 v.k, .int .u64 ((wd v.s 0 : Nat) : Int), .int .u64 ((wd v.s 1 : Nat) : Int), .int .u64 ((wd v.s 2 : Nat) : Int), .int .u64 ((wd v.s 3 : Nat) : Int), .slice v.A v.n v.c, .int .i64 v.lo, .int .i64 v.hi] : Array Value) = v.cells.toArray from rfl]
    go_enter Tryd.func19, Tryd.ntmps19
    go_upto_region 1 with (fail)
    change Code.wp _ _ _ _ (w.alloc (.cells v.cells.toArray 26))
    generalize w.alloc (.cells v.cells.toArray 26) = w1 at *
    obtain ⟨z0, z1, z2, z3, z4, z5, z6, z7⟩ := Blk.cells8' HV.out.1
    rw [hvk] at z0
    rw [HVn.out] at z5
    go_wp2_with fail
    refine (HAlt.out _ _ _ HL.out HA.out.rd HA.out.lt).mono ?_
    rintro e w2 ⟨rfl, hk⟩
    obtain ⟨Ok, ha, hc, hn⟩ := MAt.call HA.out hk
    have HA2 := hid ha
    clear hk ha hc hn HA HL HAlt HV z0 z1 z2 z3 z4 z5 z6 z7
    go_wp2_with fail
    go_ret
    exact ⟨rfl, HA2.out.stM⟩
  · obtain ⟨l0, rfl⟩ : ∃ l0 : Nat, lo = (l0 : Int) := ⟨lo.toNat, by omega⟩
    have hx1 : wgT x = 0 := hk x (by simp)
    have e0 : cnL [x] = cnT x := by unfold cnL; unfold cnL; omega
    have e : putT (.nd 5 s [x] (l0 : Int) hi) E f = rptT (putT x) (l0 : Int) hi E f := by
      rw [putT, if_neg (by omega), if_neg (by omega), if_neg (by omega), if_pos rfl]
      rfl
    have e2 : cnT (.nd 5 s [x] (l0 : Int) hi) = (if hi < 0 then 2 + (l0 + 1) * cnT x else 1 + (hi - l0).toNat + hi.toNat * cnT x) := by
      rw [cnT, if_neg (by omega), if_neg (by omega), if_neg (by omega), if_pos rfl, e0, Int.toNat_natCast]
    rw [e2] at hE hT
    rw [e]
    have hsx : szT x ≤ 512 := by
      have := szL_len [x]
      have : szL [x] = szT x := by unfold szL; unfold szL; omega
      omega
    have HRep := hid (fun (W : World) (OO : Nat → Prop) (h5 : Rp W OO v (.nd 5 s [x] (l0 : Int) hi)) (h6 : MkR W OO g E) (h7 : ∀ b, OO b → b < W.heap.size) => putRep_any v s x l0 hi (ih x (by simp)) f h5 h6 h7 hx1 hsx (by omega) h3 h4 hf hE hT)
    clear e e0 e2 hR hM hO hw hs hc hk hL hal ih hsz hE hT hx1 hsx h1 h2 h3 h4 HL
    unfold RV.val at HRep
    have b2 : (v.k == 2) = false := by simp [hvk]
    have b3 : (v.k == 3) = false := by simp [hvk]
    have b4 : (v.k == 4) = false := by simp [hvk]
    have b5 : (v.k == 5) = true := by simp [hvk]
    clear hvk hvs hvn hvl hvh
    unfold RV.val
    rw [show (#[.int .i64 v.k, .int .u64 ((wd v.s 0 : Nat) : Int), .int .u64 ((wd v.s 1 : Nat) : Int), .int .u64 ((wd v.s 2 : Nat) : Int), .int .u64 ((wd v.s 3 : Nat) : Int), .slice v.A v.n v.c, .int .i64 v.lo, .int .i64 v.hi] : Array Value) = v.cells.toArray from rfl]
    go_enter Tryd.func19, Tryd.ntmps19
    go_upto_region 1 with (fail)
    change Code.wp _ _ _ _ (w.alloc (.cells v.cells.toArray 26))
    generalize w.alloc (.cells v.cells.toArray 26) = w1 at *
    obtain ⟨z0, z1, z2, z3, z4, z5, z6, z7⟩ := Blk.cells8' HV.out.1
    go_wp2_with fail
    refine (HRep.out _ _ HR.out HA.out.rd HA.out.lt).mono ?_
    rintro e w2 ⟨rfl, hk⟩
    obtain ⟨Ok, ha, hc, hn⟩ := MAt.call HA.out hk
    have HA2 := hid ha
    clear hk ha hc hn HA HRep HV z0 z1 z2 z3 z4 z5 z6 z7
    go_wp2_with fail
    go_ret
    exact ⟨rfl, HA2.out.stM⟩
end Go.Proofs.YtoiegkejkahfgaaDoor
