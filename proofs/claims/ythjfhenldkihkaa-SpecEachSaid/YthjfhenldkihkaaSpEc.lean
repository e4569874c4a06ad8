/- spec: Each's inner function. -/
import Derived.Test.YthjfhenldkihkaaSpEd
namespace Go.Proofs.Ythjfhenldkihkaa
set_option linter.unusedSimpArgs false
set_option linter.unusedVariables false
open Go.RowKit

theorem Ev.draw {cb gm : Nat} {a b : World} (h : Ev cb gm a b) : Ev cb gm a b.drew := ⟨⟨h.chg.os, h.chg.tape, h.chg.output, h.chg.size, h.chg.block⟩, h.old⟩
set_option maxRecDepth 100000 in
set_option maxHeartbeats 4000000 in
theorem each1_any {s : SpV} {base gs gb gm gy gh F cb : Nat} {caps : Array Value} {ret : List Int → Bool} {Y : List Int → World → Prop} {rs : List Int} (HY : Yields F caps cb ret Y) (H : Val s.vs.length (ptT s.ts) rs) (hck : ∀ v ∈ s.vs, ckV v = 0) (hn0 : s.vs.length ≤ 2048) :
    ∀ x, x < s.vs.length → ∀ S sg w, EaS s base gs gb gm gy gh F cb caps Y S sg w → base ≤ w.heap.size → (∀ z ∈ sub (ptT s.ts) x, z ∉ S) → sg.length + (sub (ptT s.ts) x).length ≤ 4096 →
      Calls Try.prog 25 #[.int .i64 (x : Int), .pointer (some ⟨gs, 0, none⟩), .pointer (some ⟨gb, 0, none⟩), .pointer (some ⟨gy, 0, none⟩), .pointer (some ⟨gh, 0, none⟩)] w (EaR s base gs gb gm gy gh F cb caps ret Y x S sg w) := by
  intro x
  induction x using Nat.strongRecOn with
  | _ x ih =>
  intro hx S sg w hE hbs hz hl
  obtain ⟨b, o, hA, hbl, hPb, hrg⟩ := rw_range hE.ok.n hx
  obtain ⟨v, hv⟩ : ∃ v, v = s.vs[x] := ⟨_, rfl⟩
  have hm : v ∈ s.vs := by rw [hv]; exact List.getElem_mem _
  have hta : s.ts[x]? = some v.t := by unfold SpV.ts; rw [List.getElem?_map, List.getElem?_eq_getElem hx, hv]; rfl
  have hpt : ptT s.ts x = v.t.parts := by unfold ptT; rw [hta]; rfl
  rw [← hv] at hrg
  have hnn : s.N.n = s.vs.length := hE.ok.nn
  have hok := hE.ok.each v hm
  have HFt := hid ((ckV_fits (hck v hm) hok.kn hok.fn hok.cn).1.three)
  have x0 := Blk.at hE.bs 0
  have x1 := Blk.at hE.bs 1
  have b0 := Blk.at hE.bb 0
  simp only [List.getElem?_cons_zero, List.getElem?_cons_succ] at x0 x1 b0
  have m0 : w.cell? ⟨gm, x, none⟩ = some (.bool false) := by
    rw [Blk.at hE.me]
    simp [boolC, markL, hx, hz x (sub_self H hx)]
  have HHa := hid (fun W => has_any s.N s.D (x : Int) W)
  rw [show decide (0 ≤ (x : Int) ∧ (x : Int) < (s.N.n : Int)) = true by rw [hnn]; simpa using hx] at HHa
  obtain ⟨NA, hNA⟩ : ∃ A, s.N.A = A := ⟨_, rfl⟩
  obtain ⟨n, hNn⟩ : ∃ n, s.vs.length = n := ⟨_, rfl⟩
  rw [hnn, hNn] at x0 HHa
  rw [hA] at x0 HHa
  rw [hNn] at b0
  have hx' : (x : Int) < (n : Int) := by omega
  have hx2 : (0 : Int) ≤ (x : Int) := by omega
  obtain ⟨RR, hRR⟩ : ∃ RR, RR = EaR s base gs gb gm gy gh F cb caps ret Y x S sg w := ⟨_, rfl⟩
  rw [← hRR]
  have HRR := hid hRR
  have HE := hid hE
  have HRg := hid hrg
  have HXs := hid (And.intro x0 (And.intro x1 (And.intro b0 m0)))
  have HFr := hid (show ∀ W, Below w.heap.size w W → W.frozen? ⟨gm, x, none⟩ = false from fun W hb => Blk.free (hE.me.keep hb) x)
  have HH := hid (fun (B : Nat) (hB : w.heap.size ≤ B) => ea_hands (S := S) (sg := sg) HY H hx hz hl hbs hE.me.lt (fun y hy hyn => ih y hy hyn) B hB)
  rw [hpt] at HH
  have HXl := hid (And.intro hx (And.intro hbl (And.intro hPb hpt)))
  have HM := hid (And.intro hm (And.intro hz (And.intro hl hbs)))
  have HB0 := hid (And.intro hE.bs.lt (And.intro hE.bb.lt hE.me.lt))
  have HA := hid hA
  have HN := hid (And.intro hnn hNn)
  have hent := HY.ent
  clear hRR hE hrg hbs hz hl hm hpt hx hbl hPb ih hta hnn hNn hNA hA hok hv
  go_enter Try.func25, Try.ntmps25
  go_upto_region 4 with (first
    | (go_at_call 26; (with_reducible refine (HHa.out _).mono ?_); rintro e w1 ⟨rfl, hb1⟩; have HB1 := hid hb1; clear hb1 x0 x1 b0 m0; have b0 := (World.cell?_of_block (w := w) (a := ⟨gb, 0, none⟩) (HB1.out.block gb HB0.out.2.1)).trans HXs.out.2.2.1; have m0 := (World.cell?_of_block (w := w) (a := ⟨gm, x, none⟩) (HB1.out.block gm HB0.out.2.2)).trans HXs.out.2.2.2; have hfr := HFr.out _ HB1.out))
  have hEm := (HE.out.keep HY HB1.out).mark HY x
  have hEv : Ev cb gm w (w1.setCell ⟨gm, x, none⟩ (.bool true)) := (Ev.of_below (HY.lt _ _ HE.out.y) HB1.out).trans (Ev.set w1 (fun e => HE.out.no.2.2.1 (.inl e)) x _)
  have HRg3 := hid (range_keep HRg.out (hEv.chg.block b HXl.out.2.1 (fun e => e.elim (fun e => by have h1 := HE.out.bl.2; have h2 := HXl.out.2.2.1; omega) (HE.out.nP b HXl.out.2.2.1))))
  have hbl3 : b < (w1.setCell ⟨gm, x, none⟩ (.bool true)).heap.size := Nat.lt_of_lt_of_le HXl.out.2.1 hEv.chg.size
  have hbs3 : base ≤ (w1.setCell ⟨gm, x, none⟩ (.bool true)).heap.size := Nat.le_trans HM.out.2.2.2 hEv.chg.size
  clear b0 m0 hfr
  change Code.wp _ _ _ _ (w1.setCell ⟨gm, x, none⟩ (.bool true))
  generalize w1.setCell ⟨gm, x, none⟩ (.bool true) = w3 at *
  have HE3 := hid hEm
  have HV3 := hid hEv
  have HL3 := hid (And.intro hbl3 hbs3)
  have y0 := Blk.at hEm.yb 0
  simp only [List.getElem?_cons_zero] at y0
  have HYc := hid (fun W (hb : Below w3.heap.size w3 W) => HY.call sg x W (HE3.out.keep HY hb).y (by have := HM.out.2.2.1; have := sub_self H HXl.out.1; have := List.length_pos_of_mem this; omega))
  clear hEm hEv hbl3 hbs3
  cases hr : ret (sg ++ [(x : Int)])
  · rw [hr] at HYc
    refine ea0_reg (F := F) (gy := gy) (x := x) (caps := caps) (Post := fun w5 => Y (sg ++ [(x : Int)]) w5 ∧ Chg w3.drew w5 (Own cb w3.drew) ∧ ∀ k, k < w3.drew.heap.size → ¬ Own cb w3.drew k → ¬ Own cb w5 k) rfl rfl (by simp) y0 HY.ent ((HYc.out _ (below_draw (Below.refl _ _))).mono (by rintro e w' ⟨rfl, h⟩; exact ⟨_, rfl, rfl, h⟩)) ?_
    rintro f w5 h6 ⟨hy5, hc5, ho5⟩
    have HE5 := hid ((HE3.out.keep HY (below_draw (Below.refl w3.heap.size w3))).went hy5 hc5 ho5 HL3.out.2)
    have HV5 := hid (show Ev cb gm w w5 from (HV3.out.trans (Ev.of_below (HY.lt _ _ HE3.out.y) (below_draw (Below.refl _ _)))).trans ⟨⟨hc5.os, hc5.tape, hc5.output, hc5.size, fun k hk hn => hc5.block k hk (fun e => hn (.inr e))⟩, ho5⟩)
    clear hy5 hc5 ho5 y0
    simp only [ea0Us, List.foldl_cons, List.foldl_nil, List.setIfInBounds_toArray, List.set_cons_zero, List.set_cons_succ, h6]
    go_wp2_with fail
    show RR (.returned (.bool false)) w5
    rw [HRR.out]
    have hsub := sub_eq H x HXl.out.1
    have hv : vis ret (sub (ptT s.ts) x) sg = (false, sg ++ [(x : Int)]) := by rw [hsub]; simp [vis, hr]
    exact ⟨by rw [hv], HV5.out, _, by rw [hv]; exact HE5.out, fun e => by rw [hv] at e; cases e⟩
  · rw [hr] at HYc
    go_region_with (first
      | ((with_reducible refine (HYc.out _ (below_draw (Below.refl _ _))).mono ?_); rintro e w5 ⟨rfl, hy5, hc5, ho5⟩; have HE5 := hid ((HE3.out.keep HY (below_draw (Below.refl w3.heap.size w3))).went hy5 hc5 ho5 HL3.out.2); have HV5 := hid (show Ev cb gm w w5 from (HV3.out.trans (Ev.of_below (HY.lt _ _ HE3.out.y) (below_draw (Below.refl _ _)))).trans ⟨⟨hc5.os, hc5.tape, hc5.output, hc5.size, fun k hk hn => hc5.block k hk (fun e => hn (.inr e))⟩, ho5⟩); clear hy5 hc5 ho5 y0; have x0 := Blk.at HE5.out.bs 0; have h0 := Blk.at HE5.out.hb 0; simp only [List.getElem?_cons_zero] at x0 h0; rw [HN.out.1, HN.out.2] at x0; rw [HA.out] at x0; have HRg5 := hid (range_keep HRg.out (HV5.out.chg.block b HXl.out.2.1 (fun e => e.elim (fun e => by have h1 := HE.out.bl.2; have h2 := HXl.out.2.2.1; omega) (HE.out.nP b HXl.out.2.2.1)))); have k0 : w5.cell? ⟨b, o + x * 18, none⟩ = some (.int .i64 v.t.k) := HRg5.out 0 _ rfl; have k1 : w5.cell? ⟨b, o + x * 18 + 1, none⟩ = some (.int .i64 v.t.wd) := HRg5.out 1 _ rfl; have k2 : w5.cell? ⟨b, o + x * 18 + 2, none⟩ = some (.bool v.t.li) := HRg5.out 2 _ rfl; have k3 : w5.cell? ⟨b, o + x * 18 + 3, none⟩ = some (.bool v.t.zg) := HRg5.out 3 _ rfl; have k4 : w5.cell? ⟨b, o + x * 18 + 4, none⟩ = some (.bool v.t.le) := HRg5.out 4 _ rfl; have k5 : w5.cell? ⟨b, o + x * 18 + 5, none⟩ = some (.int .u64 (v.t.mn : Int)) := HRg5.out 5 _ rfl; have k6 : w5.cell? ⟨b, o + x * 18 + 6, none⟩ = some (.int .u64 (v.t.mx : Int)) := HRg5.out 6 _ rfl; have k7 : w5.cell? ⟨b, o + x * 18 + 7, none⟩ = some (.string v.t.tx) := HRg5.out 7 _ rfl; have k8 : w5.cell? ⟨b, o + x * 18 + 8, none⟩ = some (.string v.t.er) := HRg5.out 8 _ rfl; have k9 : w5.cell? ⟨b, o + x * 18 + 9, none⟩ = some (.int .u64 (v.t.mu : Int)) := HRg5.out 9 _ rfl; have k10 : w5.cell? ⟨b, o + x * 18 + 10, none⟩ = some (.int .u64 (v.t.ad : Int)) := HRg5.out 10 _ rfl; have k11 : w5.cell? ⟨b, o + x * 18 + 11, none⟩ = some (.slice v.K.A v.K.n v.K.c) := HRg5.out 11 _ rfl; have k12 : w5.cell? ⟨b, o + x * 18 + 12, none⟩ = some (.slice v.L.A v.L.n v.L.c) := HRg5.out 12 _ rfl; have k13 : w5.cell? ⟨b, o + x * 18 + 13, none⟩ = some (.slice v.F.A v.F.n v.F.c) := HRg5.out 13 _ rfl; have k14 : w5.cell? ⟨b, o + x * 18 + 14, none⟩ = some (.string v.t.rg) := HRg5.out 14 _ rfl; have k15 : w5.cell? ⟨b, o + x * 18 + 15, none⟩ = some (.int .u64 (v.t.md : Int)) := HRg5.out 15 _ rfl; have k16 : w5.cell? ⟨b, o + x * 18 + 16, none⟩ = some (.slice v.C.A v.C.n v.C.c) := HRg5.out 16 _ rfl; have k17 : w5.cell? ⟨b, o + x * 18 + 17, none⟩ = some (.int .i64 v.t.el) := HRg5.out 17 _ rfl; have HPc := hid (parts_any v w5 (HH.out w5.heap.size HV5.out.chg.size) (fun i W h => h.2.2.1.ok.each v HM.out.1) ⟨HV5.out, (fun e => Nat.lt_irrefl _ (HY.ob _ _ _ HE5.out.y e)), (by rw [show vis ret (subP (ptT s.ts) x 0) sg = (true, sg ++ [(x : Int)]) by rw [subP_zero]; simp [vis, hr]]; exact HE5.out), (by rw [subP_zero]; simp [vis, hr])⟩ HFt.out); unfold NV.val at HPc)
      | ((with_reducible refine HPc.out.mono ?_); rintro e w6 ⟨bb, rfl, ht, hf⟩; have HT6 := hid ht; have HF6 := hid hf; clear ht hf x0 h0 k0 k1 k2 k3 k4 k5 k6 k7 k8 k9 k10 k11 k12 k13 k14 k15 k16 k17))
    all_goals
      go_wp2_with fail
      go_ret
      show RR (.returned (.bool bb)) w6
      rw [HRR.out]
      have hpl : v.t.parts.length = (ptT s.ts x).length := by rw [HXl.out.2.2.2]
      cases bb
      · obtain ⟨hev, ⟨S', hE⟩, hv⟩ := HF6.out rfl
        exact ⟨by rw [hv], hev, S', hE, fun e => by rw [hv] at e; cases e⟩
      · obtain ⟨hev, hno, hE, hv⟩ := HT6.out rfl
        rw [hpl, subP_all H x HXl.out.1] at hE hv
        exact ⟨by rw [hv], hev, _, hE, fun _ => rfl⟩
end Go.Proofs.Ythjfhenldkihkaa
