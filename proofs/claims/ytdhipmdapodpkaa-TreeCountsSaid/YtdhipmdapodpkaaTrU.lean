/- tree: a tree read. -/
import Derived.Test.YtdhipmdapodpkaaTrT
import Derived.Deep.CutRange
namespace Go.Proofs.Ytdhipmdapodpkaa
set_option linter.unusedSimpArgs false
set_option linter.unusedVariables false
open Go.RowKit

/-- What tree holds: its result's box, and the tree so far in its own. -/
structure TrdS (w : World) (g gt : Nat) (s : ByteArray) (i n : Nat) (b : Bool) (D : Value) (ds : List UInt8) (K : Value) (ks : List TT) (W : World) : Prop where
  rd : Rd W g s i
  bz : W.heap[w.heap.size]? = some (.cells #[.int .u64 0, .bool false, .slice none 0 0, .slice none 0 0] 26 (0, 0))
  bt : Blk W gt 26 [.int .u64 (n : Int), .bool b, D, K]
  ch : Chg w W (· = g)
  gw : g < w.heap.size
  gtw : w.heap.size < gt
  dt : W.ownsRow (gt + 1) 5 1 D ds.length (ds.map isB)
  kd : KidsT W (gt + 1) K ks
section
variable {w W W' : World} {g gt i j n : Nat} {b : Bool} {s : ByteArray} {D K : Value} {ds : List UInt8} {ks : List TT}
theorem TrdS.chg {S : Nat → Prop} (h : TrdS w g gt s i n b D ds K ks W) (hc : Chg W W' S) (hS : ∀ k, S k → k < gt ∧ k ≠ w.heap.size) (hr : Rd W' g s j) (hch : Chg w W' (· = g)) : TrdS w g gt s j n b D ds K ks W' := by
  refine ⟨hr, (hc.block _ (Array.getElem?_eq_some_iff.1 h.bz).1 (fun e => (hS _ e).2 rfl)).trans h.bz, h.bt.chg hc (fun e => Nat.lt_irrefl _ (hS _ e).1), hch, h.gw, h.gtw, owns_chg h.dt hc (fun k hk e => ?_), h.kd.chg hc (fun k e => by have := (hS k e).1; omega)⟩
  have h1 := (owns_block h.dt k hk).1
  have h2 := (hS k e).1
  omega
theorem TrdS.keep (h : TrdS w g gt s i n b D ds K ks W) (hb : Below W.heap.size W W') : TrdS w g gt s i n b D ds K ks W' :=
  h.chg (Chg.of_below hb (fun _ => False)) (fun _ e => e.elim) (h.rd.keep hb) (h.ch.trans (Chg.of_below hb _))
theorem TrdS.went (h : TrdS w g gt s i n b D ds K ks W) (hr : Rd W' g s j) (hc : Chg W W' (· = g)) : TrdS w g gt s j n b D ds K ks W' := by
  have := h.gw
  have := h.gtw
  exact h.chg hc (fun k e => by omega) hr (h.ch.trans hc)
theorem TrdS.ch_set (h : TrdS w g gt s i n b D ds K ks W) (k : Nat) (v : Value) : Rd (W.setCell ⟨gt, k, none⟩ v) g s i ∧ (W.setCell ⟨gt, k, none⟩ v).heap[w.heap.size]? = some (.cells #[.int .u64 0, .bool false, .slice none 0 0, .slice none 0 0] 26 (0, 0)) ∧ Chg w (W.setCell ⟨gt, k, none⟩ v) (· = g) := by
  have := h.gw
  have := h.gtw
  refine ⟨Blk.other h.rd (by simp only; omega) v, (Below.heap_setCell W ⟨gt, k, none⟩ v _ (by simp only; omega)).trans h.bz, ?_⟩
  exact ⟨h.ch.os, h.ch.tape, h.ch.output, by have := h.ch.size; simpa [World.setCell] using this, fun b hb hn => (Below.heap_setCell W ⟨gt, k, none⟩ v b (by simp only; omega)).trans (h.ch.block b hb hn)⟩
theorem owns_gt {base g : Nat} {e : TypeId} {v u : Value} {m k : Nat} {xs : List Value} (h : W.ownsRow base e 1 v m xs) (hg : g < base) : (W.setCell ⟨g, k, none⟩ u).ownsRow base e 1 v m xs :=
  owns_chg h ((Chg.refl W (· = g)).set g k rfl u) (fun c hc e => by have := (owns_block h c hc).1; omega)
theorem kids_gt {base g : Nat} {v u : Value} {k : Nat} {ts : List TT} (h : KidsT W base v ts) (hg : g < base) : KidsT (W.setCell ⟨g, k, none⟩ u) base v ts :=
  h.chg ((Chg.refl W (· = g)).set g k rfl u) (fun c e => by omega)
theorem TrdS.store0 (h : TrdS w g gt s i n b D ds K ks W) (m : Nat) : TrdS w g gt s i m b D ds K ks (W.setCell ⟨gt, 0, none⟩ (.int .u64 (m : Int))) :=
  ⟨(h.ch_set 0 _).1, (h.ch_set 0 _).2.1, h.bt.put 0 _, (h.ch_set 0 _).2.2, h.gw, h.gtw, owns_gt h.dt (Nat.lt_succ_self _), kids_gt h.kd (Nat.lt_succ_self _)⟩
theorem TrdS.store2 (h : TrdS w g gt s i n b D ds K ks W) {E : Value} {es : List UInt8} (he : W.ownsRow (gt + 1) 5 1 E es.length (es.map isB)) : TrdS w g gt s i n b E es K ks (W.setCell ⟨gt, 2, none⟩ E) :=
  ⟨(h.ch_set 2 _).1, (h.ch_set 2 _).2.1, h.bt.put 2 _, (h.ch_set 2 _).2.2, h.gw, h.gtw, owns_gt he (Nat.lt_succ_self _), kids_gt h.kd (Nat.lt_succ_self _)⟩
theorem TrdS.store3 (h : TrdS w g gt s i n b D ds K ks W) {E : Value} {es : List TT} (he : KidsT W (gt + 1) E es) : TrdS w g gt s i n b D ds E es (W.setCell ⟨gt, 3, none⟩ E) :=
  ⟨(h.ch_set 3 _).1, (h.ch_set 3 _).2.1, h.bt.put 3 _, (h.ch_set 3 _).2.2, h.gw, h.gtw, owns_gt h.dt (Nat.lt_succ_self _), kids_gt he (Nat.lt_succ_self _)⟩
theorem chg_row (W : World) (g : Nat) (cz : Array Value) : Chg W (W.setRow g cz) (· = g) := ⟨rfl, rfl, rfl, by simp [World.setRow], fun b _ hn => setRow_other _ _ _ _ hn⟩
theorem TrdS.fin (h : TrdS w g gt s i n b D ds K ks W) (cz : Array Value) : Rd (W.setRow w.heap.size cz) g s i ∧ Chg w (W.setRow w.heap.size cz) (· = g) ∧ True := by
  have := h.gw
  exact ⟨(setRow_other _ _ _ _ (by omega)).trans h.rd, ⟨h.ch.os, h.ch.tape, h.ch.output, by have := h.ch.size; simpa [World.setRow] using this, fun b hb hn => (setRow_other _ _ _ _ (by omega)).trans (h.ch.block b hb hn)⟩, trivial⟩
theorem owns_rw {base m : Nat} {A : Option Addr} {k c : Nat} {l : List UInt8} (h : W.ownsRow base 5 1 (.slice A k c) m (l.map isB)) : k = m ∧ Rw W (base ≤ ·) ⟨A, k, c⟩ (l.map isB) := by
  rcases h.2 with ⟨e, hz⟩ | ⟨g, cap, cur, hv, hb, hg, hnc, hcm, hcs, ht⟩
  · injection e with e1 e2 e3
    have h1 := h.1
    have : l.map isB = [] := List.eq_nil_of_length_eq_zero (by omega)
    rw [this]
    exact ⟨by omega, Rw.nil _ _ _⟩
  · injection hv with hA hk _
    subst hA
    refine ⟨hk, fun e => by (cases e), fun hx => ⟨g, 0, rfl, (Array.getElem?_eq_some_iff.1 hg).1, hb, fun j hj => ?_⟩⟩
    have hl := h.1
    have e : (l.map isB)[j]? = some (l.map isB)[j] := List.getElem?_eq_getElem hj
    rw [Nat.zero_add, cell_of_row W g j cur _ (0, 0) hg, ← Array.getElem?_toList, ← e]
    conv => rhs; rw [← ht]
    rw [List.getElem?_take_of_lt (by omega)]
theorem TrdS.rep {DA KA : Option Addr} {Dn Dc Kn Kc : Nat} (h : TrdS w g gt s i n b (.slice DA Dn Dc) ds (.slice KA Kn Kc) ks W) (hn : n < 18446744073709551616) (cz : Array Value) : Rep (W.setRow w.heap.size cz) (w.heap.size ≤ ·) ⟨n, b, ⟨DA, Dn, Dc⟩, ⟨KA, Kn, Kc⟩⟩ (.nd n b ds ks) := by
  have hlt := h.gtw
  have hc := chg_row W w.heap.size cz
  have hd := owns_rw (owns_chg h.dt hc (fun k hk e => by have := (owns_block h.dt k hk).1; omega))
  obtain ⟨vs, hk⟩ := (h.kd.chg hc (fun k e => by omega)).rep
  exact .mk ⟨n, b, ⟨DA, Dn, Dc⟩, ⟨KA, Kn, Kc⟩⟩ ds ks vs hn hd.1 (hd.2.mono (fun _ _ _ => rfl) (Nat.le_refl _) (fun c hc _ => by omega)) hk.n hk.l (hk.r.mono (fun _ _ _ => rfl) (Nat.le_refl _) (fun c hc _ => by omega)) (fun j h1 h2 => (hk.each j h1 h2).mono (fun _ _ _ => rfl) (Nat.le_refl _) (fun c hc _ => by omega))
end
/-- A low line that may stand there. -/
theorem took_low {w : World} {g i : Nat} {s : ByteArray} (h : Rd w g s i) (hi : i ≤ s.size) (hs : s.size ≤ 1048576) :
    Calls Try.prog 34 #[.pointer (some ⟨g, 0, none⟩), .int .u8 95] w fun e w' => e = .returned (.bool (decide (nx s.data.toList i = 95))) ∧ Rd w' g s (if nx s.data.toList i = 95 then i + 1 else i) ∧ Chg w w' (· = g) := by
  by_cases hx : nx s.data.toList i = 95
  · rw [decide_eq_true hx, if_pos hx]
    exact took_yes h hi hs 95 hx
  · rw [decide_eq_false hx, if_neg hx]
    exact (took_no h hi hs 95 hx).mono fun e w' hh => ⟨hh.1, h.keep hh.2, Chg.of_below hh.2 _⟩
set_option maxRecDepth 100000 in
set_option maxHeartbeats 8000000 in
theorem tree_zero {s : ByteArray} (hs : s.size ≤ 1048576) (d : Nat) (hd : d ≤ 400) (ih : ∀ e, e < d → TreeAt s e) : TreeAt s d := by
  intro w g i h hi
  have hsl : s.data.toList.length = s.size := rfl
  have HGl := hid (Blk.lt h)
  obtain ⟨P, hP⟩ : ∃ P, P = pTree s.data.toList d i := ⟨_, rfl⟩
  rw [← hP]
  obtain ⟨RR, hRR⟩ : ∃ RR : Ending → World → Prop, RR = PostR P (fun t w' v => ∃ x : TV, v = x.val ∧ Rep w' (w.heap.size ≤ ·) x t) TV.zero.val w g s := ⟨_, rfl⟩
  rw [← hRR]
  have HRR := hid hRR
  have HP := hid hP
  obtain ⟨hzb, hzz⟩ := zero_box w
  obtain ⟨deep, hdeep⟩ : ∃ deep : Nat, deep = 401 - d := ⟨_, rfl⟩
  have HDp := hid hdeep
  have hdb : 1 ≤ deep ∧ deep ≤ 401 := by omega
  have HDb := hid hdb
  rw [← hdeep]
  have HR1 := hid (h.keep hzb)
  have HZ1 := hid hzz
  have HC1 := hid (Chg.of_below hzb (· = g))
  clear hRR hP h hdeep hzb hzz
  go_enter Try.func25, Try.ntmps25
  go_upto_region 1 with (fail)
  generalize w.alloc (.cells #[.int .u64 0, .bool false, .slice none 0 0, .slice none 0 0] 26) = w1 at *
  have HNx := hid (next_any HR1.out hi hs)
  have HDc := hid (fun W (hb : Below w1.heap.size w1 W) => decimal_any (HR1.out.keep hb) hi hs)
  go_cut [8] from 9 to 16 (fun s8 wx => s8 = .bool (!okH s.data.toList i) ∧ Hid (Below w1.heap.size w1 wx))
  case first =>
    obtain ⟨x, hx⟩ : ∃ x, x = nx s.data.toList i := ⟨_, rfl⟩
    have HX := hid hx
    rw [← hx] at HNx HDc
    clear hx
    by_cases c95 : x = 95
    · have HOk := hid (show okH s.data.toList i = true by unfold okH; rw [← HX.out, c95]; rfl)
      have c95' : (x : Int) = 95 := by omega
      have c95b : ((x : Int) != 95) = false := by simp [c95']
      subst c95
      go_wp2_with (go_at_call 32; (with_reducible refine HNx.out.mono ?_); rintro e w2 ⟨rfl, hb2⟩; have HB2 := hid hb2; clear hb2)
      go_meet
      exact ⟨by rw [HOk.out]; rfl, HB2⟩
    · have HOk := hid (show okH s.data.toList i = digC x by unfold okH; rw [← HX.out, decide_eq_false c95, Bool.false_or])
      have c95' : ¬ (x : Int) = 95 := by omega
      have c95b : ((x : Int) != 95) = true := by simpa using c95'
      generalize digC x = q at *
      go_wp2_with (first
        | (go_at_call 32; (with_reducible refine HNx.out.mono ?_); rintro e w2 ⟨rfl, hb2⟩; have HB2 := hid hb2; clear hb2)
        | (go_at_call 33; (with_reducible refine (HDc.out _ HB2.out).mono ?_); rintro e w3 ⟨rfl, hb3⟩; have HB3 := hid (HB2.out.trans (hb3.mono HB2.out.size)); clear hb3))
      go_meet
      exact ⟨by rw [HOk.out], HB3⟩
  case rest =>
    obtain ⟨rfl, HBc⟩ := hcut
    have HZc := hid ((HBc.out.block _ (Array.getElem?_eq_some_iff.1 HZ1.out).1).trans HZ1.out)
    have HRc := hid (HR1.out.keep HBc.out)
    have HCc := hid (HC1.out.trans (Chg.of_below HBc.out _))
    clear HNx HDc HR1 HZ1 HC1 HBc
    have HF := hid (setRow_heap _ w.heap.size _ #[.int .u64 0, .bool false, .slice none 0 0, .slice none 0 0] _ _ HZc.out)
    have HFin := hid (show Rd (wc.setRow w.heap.size #[.int .u64 0, .bool false, .slice none 0 0, .slice none 0 0]) g s i ∧ Chg w (wc.setRow w.heap.size #[.int .u64 0, .bool false, .slice none 0 0, .slice none 0 0]) (· = g) from by
      have := HGl.out
      exact ⟨(setRow_other _ _ _ _ (by omega)).trans HRc.out, ⟨HCc.out.os, HCc.out.tape, HCc.out.output, by have := HCc.out.size; simpa [World.setRow] using this, fun b hb hn => (setRow_other _ _ _ _ (by omega)).trans (HCc.out.block b hb hn)⟩⟩)
    cases hok : okH s.data.toList i with
    | false =>
      have HPe := hid (show P = .error 5 by rw [HP.out]; cases d <;> (unfold pTree; rw [hok]; rfl))
      go_wp2_with ((with_reducible refine wpList_store_row rfl 26 _ _ rfl w.heap.size #[.int .u64 0, .bool false, .slice none 0 0, .slice none 0 0] ?_ ?_ 26 #[.int .u64 0, .bool false, .slice none 0 0, .slice none 0 0] HZc.out (tv4_size _ _ _ _) ?_ (tv4_one rfl rfl rfl rfl) ?_); exact rfl; exact rfl; exact rfl)
      refine bodyPost_ret (v := .tuple #[.agg #[.int .u64 0, .bool false, .slice none 0 0, .slice none 0 0], .int .i64 5]) (results_cell_tmp (P := Try.prog) (fn := Try.f25) rfl _ _ w.heap.size 26 _ (0, 0) _ rfl HF.out Try.underlying26 rfl (by kernel_rfl)) rfl ?_
      rw [HRR.out]
      exact ⟨⟨_, HFin.out.1, .inr ⟨5, by decide, HPe.out, rfl⟩⟩, HFin.out.2⟩
    | true =>
      by_cases hd0 : d = 0
      · subst hd0
        have HPe := hid (show P = .error 6 by rw [HP.out]; unfold pTree; rw [if_pos hok])
        have hdp : (400 : Int) < (deep : Int) := by have := HDp.out; omega
        go_wp2_with ((with_reducible refine wpList_store_row rfl 26 _ _ rfl w.heap.size #[.int .u64 0, .bool false, .slice none 0 0, .slice none 0 0] ?_ ?_ 26 #[.int .u64 0, .bool false, .slice none 0 0, .slice none 0 0] HZc.out (tv4_size _ _ _ _) ?_ (tv4_one rfl rfl rfl rfl) ?_); exact rfl; exact rfl; exact rfl)
        refine bodyPost_ret (v := .tuple #[.agg #[.int .u64 0, .bool false, .slice none 0 0, .slice none 0 0], .int .i64 6]) (results_cell_tmp (P := Try.prog) (fn := Try.f25) rfl _ _ w.heap.size 26 _ (0, 0) _ rfl HF.out Try.underlying26 rfl (by kernel_rfl)) rfl ?_
        rw [HRR.out]
        exact ⟨⟨_, HFin.out.1, .inr ⟨6, by decide, HPe.out, rfl⟩⟩, HFin.out.2⟩
      · obtain ⟨dd, rfl⟩ : ∃ dd, d = dd + 1 := ⟨d - 1, by omega⟩
        have HIh := hid (ih dd (by omega))
        have hdp : ¬ (400 : Int) < (deep : Int) := by have := HDp.out; omega
        have HDe := hid (show ((401 - dd : Nat) : Int) = (deep : Int) + 1 by have := HDp.out; omega)
        have hdp2 : deep ≤ 401 := HDb.out.2
        have hd0 : dd ≤ 400 := by omega
        have HTl := hid (took_low HRc.out hi hs)
        obtain ⟨bv, hbv⟩ : ∃ bv, bv = decide (nx s.data.toList i = 95) := ⟨_, rfl⟩
        obtain ⟨i1, hi1⟩ : ∃ i1, i1 = if nx s.data.toList i = 95 then i + 1 else i := ⟨_, rfl⟩
        have hi1s : i1 ≤ s.size := by
          rw [hi1]
          split
          · exact nx_lt (l := s.data.toList) (by omega)
          · exact hi
        have HPn := hid (show P = (match pNumT s.data.toList i1 with
          | .error e => .error e
          | .ok (n, i2) => match pDatO s.data.toList i2 with
            | .error e => .error e
            | .ok (ds, i3) => match pPartO s.data.toList (pTree s.data.toList dd) i3 with
              | .error e => .error e
              | .ok (ks, i4) => .ok (.nd n bv ds ks, i4)) by
          rw [HP.out]
          conv => lhs; unfold pTree
          rw [hok, ← hi1, hbv]
          rfl)
        rw [← hbv, ← hi1] at HTl
        clear hbv hi1 hok HP HF HFin ih
        go_upto_region 7 with (go_at_call 34; (with_reducible refine HTl.out.mono ?_); rintro e w2 ⟨rfl, hr2, hc2⟩; have HR2 := hid hr2; have HC2 := hid hc2; clear hr2 hc2)
        have hgt : w.heap.size < w2.heap.size := Nat.lt_of_lt_of_le (Array.getElem?_eq_some_iff.1 HZc.out).1 HC2.out.size
        have hal := (Below.refl w2.heap.size w2).alloc (Nat.le_refl _) (.cells #[.int .u64 0, .bool bv, .slice none 0 0, .slice none 0 0] 26)
        have hz2 := (HC2.out.block _ (Array.getElem?_eq_some_iff.1 HZc.out).1 (by have := HGl.out; omega)).trans HZc.out
        have HS3 := hid (show TrdS w g w2.heap.size s i1 0 bv (.slice none 0 0) [] (.slice none 0 0) [] (w2.alloc (.cells #[.int .u64 0, .bool bv, .slice none 0 0, .slice none 0 0] 26)) from
          ⟨HR2.out.keep hal, (hal.block _ hgt).trans hz2, heap_alloc_new w2 _, (HCc.out.trans HC2.out).trans (Chg.of_below hal _), HGl.out, hgt, World.ownsRow_nil _ _ _ _, KidsT.nil _ _⟩)
        obtain ⟨gt, hgte⟩ : ∃ gt, w2.heap.size = gt := ⟨_, rfl⟩
        rw [hgte] at HS3 ⊢
        clear hal hz2 hgt hgte HZc HRc HCc HTl HR2 HC2
        generalize w2.alloc (.cells #[.int .u64 0, .bool bv, .slice none 0 0, .slice none 0 0] 26) = w3 at *
        have HNm := hid (num_any' HS3.out.rd hi1s hs)
        cases hn : pNumT s.data.toList i1 with
        | error ec =>
          rw [hn] at HNm HPn
          have HPe := hid (show P = .error ec from HPn.out)
          have HNe := hid (HNm.out.mono fun e w' hh => hh.er)
          clear HNm HPn hn
          by_cases hec : ec = 0
          · subst hec
            go_wp2_with (go_at_call 35; (with_reducible refine HNe.out.mono ?_); rintro e w4 ⟨h0, _⟩; exact absurd rfl h0)
          have heci : ¬ (ec : Int) = 0 := by omega
          have hecb : ((ec : Int) != 0) = true := by simpa using heci
          go_upto_region 9 with (go_at_call 35; (with_reducible refine HNe.out.mono ?_); rintro e w4 ⟨_, rfl, ⟨j4, hr4⟩, hc4⟩; have HS4 := hid (HS3.out.went hr4 hc4); have y0 := Blk.at HS4.out.bt 0; have f0 := Blk.free HS4.out.bt 0; simp only [List.getElem?_cons_zero, List.getElem?_cons_succ] at y0; have HS8 := hid (show TrdS w g gt s j4 0 bv (.slice none 0 0) [] (.slice none 0 0) [] (w4.setCell ⟨gt, 0, none⟩ (.int .u64 0)) from HS4.out.store0 0); clear hr4 hc4)
          clear y0 f0 HS3 HS4
          generalize w4.setCell ⟨gt, 0, none⟩ (.int .u64 0) = w5 at *
          have HBz := hid HS8.out.bz
          have HF := hid (setRow_heap _ w.heap.size _ #[.int .u64 0, .bool false, .slice none 0 0, .slice none 0 0] _ _ HS8.out.bz)
          have HCz := hid (HS8.out.fin #[.int .u64 0, .bool false, .slice none 0 0, .slice none 0 0])
          go_wp2_with ((with_reducible refine wpList_store_row rfl 26 _ _ rfl w.heap.size #[.int .u64 0, .bool false, .slice none 0 0, .slice none 0 0] ?_ ?_ 26 #[.int .u64 0, .bool false, .slice none 0 0, .slice none 0 0] HBz.out (tv4_size _ _ _ _) ?_ (tv4_one rfl rfl rfl rfl) ?_); exact rfl; exact rfl; exact rfl)
          refine bodyPost_ret (v := .tuple #[.agg #[.int .u64 0, .bool false, .slice none 0 0, .slice none 0 0], .int .i64 (ec : Int)]) (results_cell_tmp (P := Try.prog) (fn := Try.f25) rfl _ _ w.heap.size 26 _ (0, 0) _ rfl HF.out Try.underlying26 rfl (by kernel_rfl)) rfl ?_
          rw [HRR.out]
          exact ⟨⟨_, HCz.out.1, .inr ⟨ec, hec, HPe.out, rfl⟩⟩, HCz.out.2.1⟩
        | ok p =>
          obtain ⟨nv, i2⟩ := p
          have hlt := pNumT_lt hn
          rw [hn] at HNm HPn
          have HPd := hid (show P = (match pDatO s.data.toList i2 with
            | .error e => .error e
            | .ok (ds, i3) => match pPartO s.data.toList (pTree s.data.toList dd) i3 with
              | .error e => .error e
              | .ok (ks, i4) => .ok (.nd nv bv ds ks, i4)) from HPn.out)
          have HNe := hid (HNm.out.mono fun e w' hh => hh.ok)
          have HNv := hid hlt.2.2.1
          have hi2 : i2 ≤ s.size := hlt.2.1
          clear HNm HPn hn hlt
          go_upto_region 10 with (go_at_call 35; (with_reducible refine HNe.out.mono ?_); rintro e w4 ⟨_, rfl, rfl, hr4, hc4⟩; have HS4 := hid (HS3.out.went hr4 hc4); have y0 := Blk.at HS4.out.bt 0; have f0 := Blk.free HS4.out.bt 0; simp only [List.getElem?_cons_zero, List.getElem?_cons_succ] at y0; have HS5 := hid (HS4.out.store0 nv); clear hr4 hc4)
          clear y0 f0 HS3 HS4
          generalize w4.setCell ⟨gt, 0, none⟩ (.int .u64 (nv : Int)) = w5 at *
          by_cases c58 : nx s.data.toList i2 = 58
          · have HTk2 := hid (show Calls Try.prog 34 #[.pointer (some ⟨g, 0, none⟩), .int .u8 58] w5 _ from took_yes HS5.out.rd hi2 hs 58 c58)
            have HDt := hid (fun W (h : Rd W g s (i2 + 1)) => dat_any h (nx_lt (l := s.data.toList) (i := i2) (by omega)) hs)
            rw [show pDatO s.data.toList i2 = pDat s.data.toList (i2 + 1) from if_pos c58] at HPd
            have HC58 := hid c58
            clear c58
            cases hdt : pDat s.data.toList (i2 + 1) with
            | error ec =>
              rw [hdt] at HDt HPd
              have HPe := hid (show P = .error ec from HPd.out)
              have HDe2 := hid (fun W (h : Rd W g s (i2 + 1)) => (HDt.out W h).mono fun e w' hh => hh.er)
              clear HDt HPd hdt
              by_cases hec : ec = 0
              · subst hec
                go_wp2_with (first
                  | (go_at_call 34; (with_reducible refine HTk2.out.mono ?_); rintro e w6 ⟨rfl, hr6, hc6⟩; have HS6 := hid (HS5.out.went hr6 hc6); clear hr6 hc6)
                  | (go_at_call 36; (with_reducible refine (HDe2.out _ HS6.out.rd).mono ?_); rintro e w7 ⟨h0, _⟩; exact absurd rfl h0))
              have heci : ¬ (ec : Int) = 0 := by omega
              have hecb : ((ec : Int) != 0) = true := by simpa using heci
              go_upto_region 13 with (first
                | (go_at_call 34; (with_reducible refine HTk2.out.mono ?_); rintro e w6 ⟨rfl, hr6, hc6⟩; have HS6 := hid (HS5.out.went hr6 hc6); clear hr6 hc6)
                | (go_at_call 36; (with_reducible refine (HDe2.out _ HS6.out.rd).mono ?_); rintro e w7 ⟨_, rfl, ⟨j7, hr7⟩, hc7⟩; have HS7 := hid (HS6.out.went hr7 hc7); have y2 := Blk.at HS7.out.bt 2; have f2 := Blk.free HS7.out.bt 2; simp only [List.getElem?_cons_zero, List.getElem?_cons_succ] at y2; have HS8 := hid (HS7.out.store2 (E := .slice none 0 0) (es := []) (World.ownsRow_nil _ _ _ _)); clear hr7 hc7))
              clear y2 f2 HS7
              generalize w7.setCell ⟨gt, 2, none⟩ (.slice none 0 0) = w8 at *
              have HBz := hid HS8.out.bz
              have HF := hid (setRow_heap _ w.heap.size _ #[.int .u64 0, .bool false, .slice none 0 0, .slice none 0 0] _ _ HS8.out.bz)
              have HCz := hid (HS8.out.fin #[.int .u64 0, .bool false, .slice none 0 0, .slice none 0 0])
              go_wp2_with ((with_reducible refine wpList_store_row rfl 26 _ _ rfl w.heap.size #[.int .u64 0, .bool false, .slice none 0 0, .slice none 0 0] ?_ ?_ 26 #[.int .u64 0, .bool false, .slice none 0 0, .slice none 0 0] HBz.out (tv4_size _ _ _ _) ?_ (tv4_one rfl rfl rfl rfl) ?_); exact rfl; exact rfl; exact rfl)
              refine bodyPost_ret (v := .tuple #[.agg #[.int .u64 0, .bool false, .slice none 0 0, .slice none 0 0], .int .i64 (ec : Int)]) (results_cell_tmp (P := Try.prog) (fn := Try.f25) rfl _ _ w.heap.size 26 _ (0, 0) _ rfl HF.out Try.underlying26 rfl (by kernel_rfl)) rfl ?_
              rw [HRR.out]
              exact ⟨⟨_, HCz.out.1, .inr ⟨ec, hec, HPe.out, rfl⟩⟩, HCz.out.2.1⟩
            | ok p =>
              obtain ⟨ds, i3⟩ := p
              have hlt3 := pDatL_lt hdt
              rw [hdt] at HDt HPd
              have HPp := hid (show P = (match pPartO s.data.toList (pTree s.data.toList dd) i3 with
                | .error e => .error e
                | .ok (ks, i4) => .ok (.nd nv bv ds ks, i4)) from HPd.out)
              have HDe2 := hid (fun W (h : Rd W g s (i2 + 1)) => (HDt.out W h).mono fun e w' hh => hh.ok)
              have hi3 : i3 ≤ s.size := hlt3.2.2.1 (by have := nx_lt (l := s.data.toList) (i := i2) (by have := HC58.out; omega); omega)
              clear HDt HPd hdt hlt3
              go_upto_region 14 with (first
                | (go_at_call 34; (with_reducible refine HTk2.out.mono ?_); rintro e w6 ⟨rfl, hr6, hc6⟩; have HS6 := hid (HS5.out.went hr6 hc6); clear hr6 hc6)
                | (go_at_call 36; (with_reducible refine (HDe2.out _ HS6.out.rd).mono ?_); rintro e w7 ⟨dv, rfl, hod, hr7, hc7⟩; obtain ⟨DA, Dc, rfl⟩ := owns_shape hod; have HS7 := hid (HS6.out.went hr7 hc7); have y2 := Blk.at HS7.out.bt 2; have f2 := Blk.free HS7.out.bt 2; simp only [List.getElem?_cons_zero, List.getElem?_cons_succ] at y2; have HS8 := hid (HS7.out.store2 (owns_base hod HS6.out.bt.lt)); clear hod hr7 hc7))
              clear y2 f2 HS7 HS6 HS5 HTk2 HDe2
              generalize w7.setCell ⟨gt, 2, none⟩ (.slice DA ds.length Dc) = w8 at *
              have HS5 := HS8
              clear HS8
              have HTk4 := hid (fun h => show Calls Try.prog 34 #[.pointer (some ⟨g, 0, none⟩), .int .u8 40] w8 _ from took_yes HS5.out.rd hi3 hs 40 h)
              have HTn4 := hid (fun h => show Calls Try.prog 34 #[.pointer (some ⟨g, 0, none⟩), .int .u8 40] w8 _ from took_no HS5.out.rd hi3 hs 40 h)
              by_cases c40 : nx s.data.toList i3 = 40
              · have HTk5 := hid (HTk4.out c40)
                have HP4 := hid (fun W (h : Rd W g s (i3 + 1)) => parts_read HIh.out hd0 hs h (nx_lt (l := s.data.toList) (i := i3) (by omega)))
                rw [show pPartO s.data.toList (pTree s.data.toList dd) i3 = pPartL s.data.toList (pTree s.data.toList dd) (s.data.toList.length + 1) [] (i3 + 1) from if_pos c40] at HPp
                clear HTk4 HTn4 c40
                cases hk : pPartL s.data.toList (pTree s.data.toList dd) (s.data.toList.length + 1) [] (i3 + 1) with
                | error ec =>
                  rw [hk] at HP4 HPp
                  have HPe := hid (show P = .error ec from HPp.out)
                  have HP5 := hid (fun W (h : Rd W g s (i3 + 1)) => (HP4.out W h).mono fun e w' hh => hh.er)
                  rw [HDe.out] at HP5
                  clear HP4 HPp hk
                  by_cases hec : ec = 0
                  · subst hec
                    go_wp2_with (first
                      | (go_at_call 34; (with_reducible refine HTk5.out.mono ?_); rintro e w6 ⟨rfl, hr6, hc6⟩; have HS6 := hid (HS5.out.went hr6 hc6); clear hr6 hc6)
                      | (go_at_call 37; (with_reducible refine (HP5.out _ HS6.out.rd).mono ?_); rintro e w7 ⟨h0, _⟩; exact absurd rfl h0))
                  have heci : ¬ (ec : Int) = 0 := by omega
                  have hecb : ((ec : Int) != 0) = true := by simpa using heci
                  go_upto_region 17 with (first
                    | (go_at_call 34; (with_reducible refine HTk5.out.mono ?_); rintro e w6 ⟨rfl, hr6, hc6⟩; have HS6 := hid (HS5.out.went hr6 hc6); clear hr6 hc6)
                    | (go_at_call 37; (with_reducible refine (HP5.out _ HS6.out.rd).mono ?_); rintro e w7 ⟨_, rfl, ⟨j7, hr7⟩, hc7⟩; have HS7 := hid (HS6.out.went hr7 hc7); have y3 := Blk.at HS7.out.bt 3; have f3 := Blk.free HS7.out.bt 3; simp only [List.getElem?_cons_zero, List.getElem?_cons_succ] at y3; have HS8 := hid (HS7.out.store3 (KidsT.nil _ _)); clear hr7 hc7))
                  have HBz := hid HS8.out.bz
                  have HF := hid (setRow_heap _ w.heap.size _ #[.int .u64 0, .bool false, .slice none 0 0, .slice none 0 0] _ _ HS8.out.bz)
                  have HCz := hid (HS8.out.fin #[.int .u64 0, .bool false, .slice none 0 0, .slice none 0 0])
                  go_wp2_with ((with_reducible refine wpList_store_row rfl 26 _ _ rfl w.heap.size #[.int .u64 0, .bool false, .slice none 0 0, .slice none 0 0] ?_ ?_ 26 #[.int .u64 0, .bool false, .slice none 0 0, .slice none 0 0] HBz.out (tv4_size _ _ _ _) ?_ (tv4_one rfl rfl rfl rfl) ?_); exact rfl; exact rfl; exact rfl)
                  refine bodyPost_ret (v := .tuple #[.agg #[.int .u64 0, .bool false, .slice none 0 0, .slice none 0 0], .int .i64 (ec : Int)]) (results_cell_tmp (P := Try.prog) (fn := Try.f25) rfl _ _ w.heap.size 26 _ (0, 0) _ rfl HF.out Try.underlying26 rfl (by kernel_rfl)) rfl ?_
                  rw [HRR.out]
                  exact ⟨⟨_, HCz.out.1, .inr ⟨ec, hec, HPe.out, rfl⟩⟩, HCz.out.2.1⟩
                | ok p =>
                  obtain ⟨ks, j4⟩ := p
                  rw [hk] at HP4 HPp
                  have HPe := hid (show P = .ok (.nd nv bv ds ks, j4) from HPp.out)
                  have HP5 := hid (fun W (h : Rd W g s (i3 + 1)) => (HP4.out W h).mono fun e w' hh => hh.ok)
                  rw [HDe.out] at HP5
                  clear HP4 HPp hk
                  go_upto_region 18 with (first
                    | (go_at_call 34; (with_reducible refine HTk5.out.mono ?_); rintro e w6 ⟨rfl, hr6, hc6⟩; have HS6 := hid (HS5.out.went hr6 hc6); clear hr6 hc6)
                    | (go_at_call 37; (with_reducible refine (HP5.out _ HS6.out.rd).mono ?_); rintro e w7 ⟨kv, rfl, hkd, hr7, hc7⟩; obtain ⟨KA, Kc, rfl⟩ := hkd.shape; have HS7 := hid (HS6.out.went hr7 hc7); have y3 := Blk.at HS7.out.bt 3; have f3 := Blk.free HS7.out.bt 3; simp only [List.getElem?_cons_zero, List.getElem?_cons_succ] at y3; have HS8 := hid (HS7.out.store3 (hkd.base_le HS6.out.bt.lt)); clear hkd hr7 hc7))
                  have HBz := hid HS8.out.bz
                  have HF := hid (setRow_heap _ w.heap.size _ #[.int .u64 (nv : Int), .bool bv, .slice DA ds.length Dc, .slice KA ks.length Kc] _ _ HS8.out.bz)
                  have HCz := hid (HS8.out.fin #[.int .u64 (nv : Int), .bool bv, .slice DA ds.length Dc, .slice KA ks.length Kc])
                  have x0 := Blk.at HS8.out.bt 0
                  have x1 := Blk.at HS8.out.bt 1
                  have x2 := Blk.at HS8.out.bt 2
                  have x3 := Blk.at HS8.out.bt 3
                  simp only [List.getElem?_cons_zero, List.getElem?_cons_succ] at x0 x1 x2 x3
                  go_wp2_with ((with_reducible refine wpList_store_row rfl 26 _ _ rfl w.heap.size #[.int .u64 (nv : Int), .bool bv, .slice DA ds.length Dc, .slice KA ks.length Kc] ?_ ?_ 26 #[.int .u64 0, .bool false, .slice none 0 0, .slice none 0 0] HBz.out (tv4_size _ _ _ _) ?_ (tv4_one rfl rfl rfl rfl) ?_); exact rfl; exact rfl; exact rfl)
                  refine bodyPost_ret (v := .tuple #[.agg #[.int .u64 (nv : Int), .bool bv, .slice DA ds.length Dc, .slice KA ks.length Kc], .int .i64 0]) (results_cell_tmp (P := Try.prog) (fn := Try.f25) rfl _ _ w.heap.size 26 _ (0, 0) _ rfl HF.out Try.underlying26 rfl (by kernel_rfl)) rfl ?_
                  rw [HRR.out]
                  exact ⟨⟨_, HCz.out.1, .inl ⟨_, _, HPe.out, rfl, ⟨nv, bv, ⟨DA, ds.length, Dc⟩, ⟨KA, ks.length, Kc⟩⟩, rfl, HS8.out.rep HNv.out #[.int .u64 (nv : Int), .bool bv, .slice DA ds.length Dc, .slice KA ks.length Kc]⟩⟩, HCz.out.2.1⟩
              · have HTk5 := hid (HTn4.out c40)
                rw [show pPartO s.data.toList (pTree s.data.toList dd) i3 = .ok ([], i3) from if_neg c40] at HPp
                have HPe := hid (show P = .ok (.nd nv bv ds [], i3) from HPp.out)
                clear HTk4 HTn4 HPp c40
                go_upto_region 18 with (go_at_call 34; (with_reducible refine HTk5.out.mono ?_); rintro e w6 ⟨rfl, hb6⟩; have HS8 := hid (HS5.out.keep hb6); clear hb6)
                have HBz := hid HS8.out.bz
                have HF := hid (setRow_heap _ w.heap.size _ #[.int .u64 (nv : Int), .bool bv, .slice DA ds.length Dc, .slice none 0 0] _ _ HS8.out.bz)
                have HCz := hid (HS8.out.fin #[.int .u64 (nv : Int), .bool bv, .slice DA ds.length Dc, .slice none 0 0])
                have x0 := Blk.at HS8.out.bt 0
                have x1 := Blk.at HS8.out.bt 1
                have x2 := Blk.at HS8.out.bt 2
                have x3 := Blk.at HS8.out.bt 3
                simp only [List.getElem?_cons_zero, List.getElem?_cons_succ] at x0 x1 x2 x3
                go_wp2_with ((with_reducible refine wpList_store_row rfl 26 _ _ rfl w.heap.size #[.int .u64 (nv : Int), .bool bv, .slice DA ds.length Dc, .slice none 0 0] ?_ ?_ 26 #[.int .u64 0, .bool false, .slice none 0 0, .slice none 0 0] HBz.out (tv4_size _ _ _ _) ?_ (tv4_one rfl rfl rfl rfl) ?_); exact rfl; exact rfl; exact rfl)
                refine bodyPost_ret (v := .tuple #[.agg #[.int .u64 (nv : Int), .bool bv, .slice DA ds.length Dc, .slice none 0 0], .int .i64 0]) (results_cell_tmp (P := Try.prog) (fn := Try.f25) rfl _ _ w.heap.size 26 _ (0, 0) _ rfl HF.out Try.underlying26 rfl (by kernel_rfl)) rfl ?_
                rw [HRR.out]
                exact ⟨⟨_, HCz.out.1, .inl ⟨_, _, HPe.out, rfl, ⟨nv, bv, ⟨DA, ds.length, Dc⟩, ⟨none, 0, 0⟩⟩, rfl, HS8.out.rep HNv.out #[.int .u64 (nv : Int), .bool bv, .slice DA ds.length Dc, .slice none 0 0]⟩⟩, HCz.out.2.1⟩
          · have HTk2 := hid (show Calls Try.prog 34 #[.pointer (some ⟨g, 0, none⟩), .int .u8 58] w5 _ from took_no HS5.out.rd hi2 hs 58 c58)
            have HPp := hid (show P = (match pPartO s.data.toList (pTree s.data.toList dd) i2 with
              | .error e => .error e
              | .ok (ks, i4) => .ok (.nd nv bv [] ks, i4)) by
              have := HPd.out
              rw [show pDatO s.data.toList i2 = .ok ([], i2) from if_neg c58] at this
              exact this)
            clear HPd c58
            go_upto_region 14 with (go_at_call 34; (with_reducible refine HTk2.out.mono ?_); rintro e w6 ⟨rfl, hb6⟩; have HS6 := hid (HS5.out.keep hb6); clear hb6)
            have HS5' := HS6
            clear HS5 HS6 HTk2
            have HS5 := HS5'
            clear HS5'
            have hi3 := hi2
            have HTk4 := hid (fun h => show Calls Try.prog 34 #[.pointer (some ⟨g, 0, none⟩), .int .u8 40] w6 _ from took_yes HS5.out.rd hi3 hs 40 h)
            have HTn4 := hid (fun h => show Calls Try.prog 34 #[.pointer (some ⟨g, 0, none⟩), .int .u8 40] w6 _ from took_no HS5.out.rd hi3 hs 40 h)
            by_cases c40 : nx s.data.toList i2 = 40
            · have HTk5 := hid (HTk4.out c40)
              have HP4 := hid (fun W (h : Rd W g s (i2 + 1)) => parts_read HIh.out hd0 hs h (nx_lt (l := s.data.toList) (i := i2) (by omega)))
              rw [show pPartO s.data.toList (pTree s.data.toList dd) i2 = pPartL s.data.toList (pTree s.data.toList dd) (s.data.toList.length + 1) [] (i2 + 1) from if_pos c40] at HPp
              clear HTk4 HTn4 c40
              cases hk : pPartL s.data.toList (pTree s.data.toList dd) (s.data.toList.length + 1) [] (i2 + 1) with
              | error ec =>
                rw [hk] at HP4 HPp
                have HPe := hid (show P = .error ec from HPp.out)
                have HP5 := hid (fun W (h : Rd W g s (i2 + 1)) => (HP4.out W h).mono fun e w' hh => hh.er)
                rw [HDe.out] at HP5
                clear HP4 HPp hk
                by_cases hec : ec = 0
                · subst hec
                  go_wp2_with (first
                    | (go_at_call 34; (with_reducible refine HTk5.out.mono ?_); rintro e w6 ⟨rfl, hr6, hc6⟩; have HS6 := hid (HS5.out.went hr6 hc6); clear hr6 hc6)
                    | (go_at_call 37; (with_reducible refine (HP5.out _ HS6.out.rd).mono ?_); rintro e w7 ⟨h0, _⟩; exact absurd rfl h0))
                have heci : ¬ (ec : Int) = 0 := by omega
                have hecb : ((ec : Int) != 0) = true := by simpa using heci
                go_upto_region 17 with (first
                  | (go_at_call 34; (with_reducible refine HTk5.out.mono ?_); rintro e w6 ⟨rfl, hr6, hc6⟩; have HS6 := hid (HS5.out.went hr6 hc6); clear hr6 hc6)
                  | (go_at_call 37; (with_reducible refine (HP5.out _ HS6.out.rd).mono ?_); rintro e w7 ⟨_, rfl, ⟨j7, hr7⟩, hc7⟩; have HS7 := hid (HS6.out.went hr7 hc7); have y3 := Blk.at HS7.out.bt 3; have f3 := Blk.free HS7.out.bt 3; simp only [List.getElem?_cons_zero, List.getElem?_cons_succ] at y3; have HS8 := hid (HS7.out.store3 (KidsT.nil _ _)); clear hr7 hc7))
                have HBz := hid HS8.out.bz
                have HF := hid (setRow_heap _ w.heap.size _ #[.int .u64 0, .bool false, .slice none 0 0, .slice none 0 0] _ _ HS8.out.bz)
                have HCz := hid (HS8.out.fin #[.int .u64 0, .bool false, .slice none 0 0, .slice none 0 0])
                go_wp2_with ((with_reducible refine wpList_store_row rfl 26 _ _ rfl w.heap.size #[.int .u64 0, .bool false, .slice none 0 0, .slice none 0 0] ?_ ?_ 26 #[.int .u64 0, .bool false, .slice none 0 0, .slice none 0 0] HBz.out (tv4_size _ _ _ _) ?_ (tv4_one rfl rfl rfl rfl) ?_); exact rfl; exact rfl; exact rfl)
                refine bodyPost_ret (v := .tuple #[.agg #[.int .u64 0, .bool false, .slice none 0 0, .slice none 0 0], .int .i64 (ec : Int)]) (results_cell_tmp (P := Try.prog) (fn := Try.f25) rfl _ _ w.heap.size 26 _ (0, 0) _ rfl HF.out Try.underlying26 rfl (by kernel_rfl)) rfl ?_
                rw [HRR.out]
                exact ⟨⟨_, HCz.out.1, .inr ⟨ec, hec, HPe.out, rfl⟩⟩, HCz.out.2.1⟩
              | ok p =>
                obtain ⟨ks, j4⟩ := p
                rw [hk] at HP4 HPp
                have HPe := hid (show P = .ok (.nd nv bv [] ks, j4) from HPp.out)
                have HP5 := hid (fun W (h : Rd W g s (i2 + 1)) => (HP4.out W h).mono fun e w' hh => hh.ok)
                rw [HDe.out] at HP5
                clear HP4 HPp hk
                go_upto_region 18 with (first
                  | (go_at_call 34; (with_reducible refine HTk5.out.mono ?_); rintro e w6 ⟨rfl, hr6, hc6⟩; have HS6 := hid (HS5.out.went hr6 hc6); clear hr6 hc6)
                  | (go_at_call 37; (with_reducible refine (HP5.out _ HS6.out.rd).mono ?_); rintro e w7 ⟨kv, rfl, hkd, hr7, hc7⟩; obtain ⟨KA, Kc, rfl⟩ := hkd.shape; have HS7 := hid (HS6.out.went hr7 hc7); have y3 := Blk.at HS7.out.bt 3; have f3 := Blk.free HS7.out.bt 3; simp only [List.getElem?_cons_zero, List.getElem?_cons_succ] at y3; have HS8 := hid (HS7.out.store3 (hkd.base_le HS6.out.bt.lt)); clear hkd hr7 hc7))
                have HBz := hid HS8.out.bz
                have HF := hid (setRow_heap _ w.heap.size _ #[.int .u64 (nv : Int), .bool bv, .slice none 0 0, .slice KA ks.length Kc] _ _ HS8.out.bz)
                have HCz := hid (HS8.out.fin #[.int .u64 (nv : Int), .bool bv, .slice none 0 0, .slice KA ks.length Kc])
                have x0 := Blk.at HS8.out.bt 0
                have x1 := Blk.at HS8.out.bt 1
                have x2 := Blk.at HS8.out.bt 2
                have x3 := Blk.at HS8.out.bt 3
                simp only [List.getElem?_cons_zero, List.getElem?_cons_succ] at x0 x1 x2 x3
                go_wp2_with ((with_reducible refine wpList_store_row rfl 26 _ _ rfl w.heap.size #[.int .u64 (nv : Int), .bool bv, .slice none 0 0, .slice KA ks.length Kc] ?_ ?_ 26 #[.int .u64 0, .bool false, .slice none 0 0, .slice none 0 0] HBz.out (tv4_size _ _ _ _) ?_ (tv4_one rfl rfl rfl rfl) ?_); exact rfl; exact rfl; exact rfl)
                refine bodyPost_ret (v := .tuple #[.agg #[.int .u64 (nv : Int), .bool bv, .slice none 0 0, .slice KA ks.length Kc], .int .i64 0]) (results_cell_tmp (P := Try.prog) (fn := Try.f25) rfl _ _ w.heap.size 26 _ (0, 0) _ rfl HF.out Try.underlying26 rfl (by kernel_rfl)) rfl ?_
                rw [HRR.out]
                exact ⟨⟨_, HCz.out.1, .inl ⟨_, _, HPe.out, rfl, ⟨nv, bv, ⟨none, 0, 0⟩, ⟨KA, ks.length, Kc⟩⟩, rfl, HS8.out.rep HNv.out #[.int .u64 (nv : Int), .bool bv, .slice none 0 0, .slice KA ks.length Kc]⟩⟩, HCz.out.2.1⟩
            · have HTk5 := hid (HTn4.out c40)
              rw [show pPartO s.data.toList (pTree s.data.toList dd) i2 = .ok ([], i2) from if_neg c40] at HPp
              have HPe := hid (show P = .ok (.nd nv bv [] [], i2) from HPp.out)
              clear HTk4 HTn4 HPp c40
              go_upto_region 18 with (go_at_call 34; (with_reducible refine HTk5.out.mono ?_); rintro e w6 ⟨rfl, hb6⟩; have HS8 := hid (HS5.out.keep hb6); clear hb6)
              have HBz := hid HS8.out.bz
              have HF := hid (setRow_heap _ w.heap.size _ #[.int .u64 (nv : Int), .bool bv, .slice none 0 0, .slice none 0 0] _ _ HS8.out.bz)
              have HCz := hid (HS8.out.fin #[.int .u64 (nv : Int), .bool bv, .slice none 0 0, .slice none 0 0])
              have x0 := Blk.at HS8.out.bt 0
              have x1 := Blk.at HS8.out.bt 1
              have x2 := Blk.at HS8.out.bt 2
              have x3 := Blk.at HS8.out.bt 3
              simp only [List.getElem?_cons_zero, List.getElem?_cons_succ] at x0 x1 x2 x3
              go_wp2_with ((with_reducible refine wpList_store_row rfl 26 _ _ rfl w.heap.size #[.int .u64 (nv : Int), .bool bv, .slice none 0 0, .slice none 0 0] ?_ ?_ 26 #[.int .u64 0, .bool false, .slice none 0 0, .slice none 0 0] HBz.out (tv4_size _ _ _ _) ?_ (tv4_one rfl rfl rfl rfl) ?_); exact rfl; exact rfl; exact rfl)
              refine bodyPost_ret (v := .tuple #[.agg #[.int .u64 (nv : Int), .bool bv, .slice none 0 0, .slice none 0 0], .int .i64 0]) (results_cell_tmp (P := Try.prog) (fn := Try.f25) rfl _ _ w.heap.size 26 _ (0, 0) _ rfl HF.out Try.underlying26 rfl (by kernel_rfl)) rfl ?_
              rw [HRR.out]
              exact ⟨⟨_, HCz.out.1, .inl ⟨_, _, HPe.out, rfl, ⟨nv, bv, ⟨none, 0, 0⟩, ⟨none, 0, 0⟩⟩, rfl, HS8.out.rep HNv.out #[.int .u64 (nv : Int), .bool bv, .slice none 0 0, .slice none 0 0]⟩⟩, HCz.out.2.1⟩
end Go.Proofs.Ytdhipmdapodpkaa
