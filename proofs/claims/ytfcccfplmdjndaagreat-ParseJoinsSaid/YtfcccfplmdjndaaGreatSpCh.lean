/- spec: pair's same of two specifications that say the same. -/
import Derived.Test.YtfcccfplmdjndaaGreatSpCg
import Derived.Test.YtfcccfplmdjndaaGreatSpX
import Derived.Test.YtfcccfplmdjndaaGreatSpT
namespace Go.Proofs.YtfcccfplmdjndaaGreat
set_option linter.unusedSimpArgs false
set_option linter.unusedVariables false
open Go.RowKit

def markL (n : Nat) (S : List Nat) : List Bool := (List.range n).map (fun i => decide (i ∈ S))
theorem markL_len (n : Nat) (S : List Nat) : (markL n S).length = n := by simp [markL]
theorem markL_at {n : Nat} {S : List Nat} {i : Nat} (h : i < n) : (markL n S)[i]? = some (decide (i ∈ S)) := by simp [markL, h]
theorem markL_set (n : Nat) (S : List Nat) (x : Nat) : (markL n S).set x true = markL n (S ++ [x]) := by
 apply List.ext_getElem?
 intro i
 by_cases hi : i < n
 ·rw [markL_at hi]
  by_cases e : x = i
  ·subst e
   rw [List.getElem?_set_self (by rw [markL_len]; exact hi)]
   simp
  ·rw [List.getElem?_set_ne e, markL_at hi]
   simp [Ne.symm e]
 ·rw [List.getElem?_eq_none (by rw [List.length_set, markL_len]; omega), List.getElem?_eq_none (by rw [markL_len]; omega)]
theorem markL_nil (n : Nat) : markL n [] = List.replicate n false := by
 apply List.ext_getElem?
 intro i
 by_cases hi : i < n
 ·rw [markL_at hi, List.getElem?_replicate_of_lt hi]; simp
 ·rw [List.getElem?_eq_none (by rw [markL_len]; omega), List.getElem?_eq_none (by rw [List.length_replicate]; omega)]
theorem ckV_fits {v : NV} (h : ckV v = 0) (hk : v.K.n = v.t.ks.length) (hf : v.F.n = v.t.fs.length) (hc : v.C.n = v.t.cs.length) : Fits v ∧ v.t.parts.length ≤ 1048576 := by
 unfold ckV at h
 split at h
 ·cases h
 ·rename_i h1
  split at h
  ·cases h
  ·rename_i h2
   have hL : v.L.n ≤ v.K.n := by
    have h3 : foB v = true := by simpa using h1
    unfold foB at h3
    have h4 : kidB v.t.k v.K.n v.L.n = true := by
     simp only [Bool.and_eq_true] at h3
     exact h3.1.1.2
    unfold kidB at h4
    split at h4
    ·simp at h4; omega
    ·split at h4
     ·simp at h4; omega
     ·split at h4
      ·simp at h4; omega
      ·simp at h4; omega
   have e : v.t.parts.length ≤ v.t.ks.length + v.t.fs.length + v.t.cs.length + 1 := by
    unfold NT.parts
    simp only [List.length_append, List.length_map]
    split <;> simp
   exact ⟨⟨by omega, by omega, by omega, by omega⟩, by omega⟩
structure Pair (P : Nat → Prop) (sa sb : SpV) (gp gm : Nat) (S : List Nat) (w : World) : Prop where
 bo : Blk w gp 77 [.slice sa.N.A sa.N.n sa.N.c, .slice sa.D.A sa.D.n sa.D.c, .slice sb.N.A sb.N.n sb.N.c, .slice sb.D.A sb.D.n sb.D.c, .slice (some ⟨gm, 0, none⟩) sa.vs.length sa.vs.length]
 me : Blk w gm 4 (boolC (markL sa.vs.length S))
 oa : SpecOk w P sa
 ob : SpecOk w P sb
theorem Pair.chg {P : Nat → Prop} {sa sb : SpV} {gp gm : Nat} {S S' : List Nat} {w w' : World} (h : Pair P sa sb gp gm S w) (hP : ∀ b, P b → b ≠ gm) (hc : Chg w w' (· = gm)) (hg : gp ≠ gm) (hm : Blk w' gm 4 (boolC (markL sa.vs.length S'))) : Pair P sa sb gp gm S' w' :=
 ⟨h.bo.chg hc hg, hm, h.oa.mono (fun b hp hl => hc.block b hl (hP b hp)) hc.size (fun _ hp _ => hp), h.ob.mono (fun b hp hl => hc.block b hl (hP b hp)) hc.size (fun _ hp _ => hp)⟩
theorem Pair.ne {P : Nat → Prop} {sa sb : SpV} {gp gm : Nat} {S : List Nat} {w : World} (h : Pair P sa sb gp gm S w) : gp ≠ gm := by
 rintro rfl
 have h1 := h.bo
 have h2 := h.me
 unfold Blk at h1 h2
 rw [h1] at h2
 injection h2 with h2
 injection h2 with _ h3
 revert h3
 decide
theorem Pair.keep {P : Nat → Prop} {sa sb : SpV} {gp gm : Nat} {S : List Nat} {w w' : World} (h : Pair P sa sb gp gm S w) (hb : Below w.heap.size w w') : Pair P sa sb gp gm S w' :=
 ⟨h.bo.keep hb, h.me.keep hb, h.oa.keep hb, h.ob.keep hb⟩
theorem take_fm {α β : Type} {l : List α} {f : α → List β} {i : Nat} (h : i < l.length) : (l.take (i + 1)).flatMap f = (l.take i).flatMap f ++ f l[i] := by
 rw [List.take_succ_eq_append_getElem h, List.flatMap_append]
 simp
set_option maxRecDepth 100000 in
set_option maxHeartbeats 4000000 in
theorem same_any {rs : List Int} (sa sb : SpV) (hts : sb.ts = sa.ts) (H : Val sa.vs.length (ptT sa.ts) rs) (hca : ∀ v ∈ sa.vs, ckV v = 0) (hcb : ∀ v ∈ sb.vs, ckV v = 0) {P : Nat → Prop} {gp gm : Nat} (hP : ∀ b, P b → b ≠ gm) :
  ∀ x, x < sa.vs.length → ∀ S w, Pair P sa sb gp gm S w → (∀ z ∈ sub (ptT sa.ts) x, z ∉ S) → Calls Tryz.prog 27 #[.pointer (some ⟨gp, 0, none⟩), .int .i64 (x : Int), .int .i64 (x : Int)] w fun e w' => e = .returned (.bool true) ∧ Pair P sa sb gp gm (S ++ sub (ptT sa.ts) x) w' ∧ Chg w w' (· = gm) := by
 intro x
 induction x using Nat.strongRecOn with
 | _ x ih =>
 intro hx S w hp hz
 have hlb : sb.vs.length = sa.vs.length := by have := congrArg List.length hts; simpa [SpV.ts] using this
 have hxb : x < sb.vs.length := by omega
 obtain ⟨bA, oA, hA, hAl, hAP, hAr⟩ := rw_range hp.oa.n hx
 obtain ⟨bB, oB, hB, hBl, hBP, hBr⟩ := rw_range hp.ob.n hxb
 obtain ⟨va, hva⟩ : ∃ v, v = sa.vs[x] := ⟨_, rfl⟩
 obtain ⟨vb, hvb⟩ : ∃ v, v = sb.vs[x] := ⟨_, rfl⟩
 have hma : va ∈ sa.vs := by rw [hva]; exact List.getElem_mem _
 have hmb : vb ∈ sb.vs := by rw [hvb]; exact List.getElem_mem _
 have hta : sa.ts[x]? = some va.t := by unfold SpV.ts; rw [List.getElem?_map, List.getElem?_eq_getElem hx, hva]; rfl
 have htb : sb.ts[x]? = some vb.t := by unfold SpV.ts; rw [List.getElem?_map, List.getElem?_eq_getElem hxb, hvb]; rfl
 have htt : vb.t = va.t := by rw [hts, hta] at htb; injection htb with h; exact h.symm
 have hpt : ptT sa.ts x = va.t.parts := by unfold ptT; rw [hta]; rfl
 rw [← hva] at hAr
 rw [← hvb] at hBr
 have hna : sa.N.n = sa.vs.length := hp.oa.nn
 have hnb : sb.N.n = sa.vs.length := by rw [hp.ob.nn, hlb]
 have hgl := hp.me.lt
 have hgpl := hp.bo.lt
 have hne := hp.ne
 have x0 := Blk.at hp.bo 0
 have x1 := Blk.at hp.bo 1
 have x2 := Blk.at hp.bo 2
 have x3 := Blk.at hp.bo 3
 have x4 := Blk.at hp.bo 4
 simp only [List.getElem?_cons_zero, List.getElem?_cons_succ] at x0 x1 x2 x3 x4
 have HHa := hid (fun W => has_any sa.N sa.D (x : Int) W)
 have HHb := hid (fun W => has_any sb.N sb.D (x : Int) W)
 rw [show decide (0 ≤ (x : Int) ∧ (x : Int) < (sa.N.n : Int)) = true by rw [hna]; simpa using hx] at HHa
 rw [show decide (0 ≤ (x : Int) ∧ (x : Int) < (sb.N.n : Int)) = true by rw [hnb]; simpa using hx] at HHb
 rw [hna] at x0 HHa
 rw [hnb] at x2 HHb
 rw [hA] at x0 HHa
 rw [hB] at x2 HHb
 obtain ⟨n, hn⟩ : ∃ n, n = sa.vs.length := ⟨_, rfl⟩
 rw [← hn] at x0 x2 x4 HHa HHb hx
 have hx' : (x : Int) < (n : Int) := by omega
 have hm0 : w.cell? ⟨gm, x, none⟩ = some (.bool false) := by
  rw [Blk.at hp.me]
  simp [boolC, markL, ← hn, hx, hz x (sub_self H (by omega))]
 obtain ⟨R, hR⟩ : ∃ R : Ending → World → Prop, R = fun e w' => e = .returned (.bool true) ∧ Pair P sa sb gp gm (S ++ sub (ptT sa.ts) x) w' ∧ Chg w w' (· = gm) := ⟨_, rfl⟩
 rw [← hR]
 have HR := hid hR
 have HP := hid hp
 have HAr := hid hAr
 have HBr := hid hBr
 have HB0 := hid (Below.refl w.heap.size w)
 have HXs := hid (And.intro x0 (And.intro x1 (And.intro x2 (And.intro x3 (And.intro x4 hm0)))))
 have HL := hid (And.intro hgpl (And.intro hgl (And.intro hAl hBl)))
 have HN := hid (And.intro hn (And.intro hna hnb))
 have HA := hid (And.intro hA hB)
 have HFr := hid (show ∀ W, Below w.heap.size w W → W.frozen? ⟨gm, x, none⟩ = false from fun W hb => Blk.free (hp.me.keep hb) x)
 have HV := hid (And.intro hma (And.intro hmb (And.intro htt hpt)))
 have HNe := hid hne
 have HXl := hid (And.intro hlb hx)
 have HZ := hid hz
 have hPA := hid hAP
 have hPB := hid hBP
 have IH := hid ih
 clear hR hp hAr hBr hgl hgpl hAl hBl hna hnb hA hB hn hxb hva hvb hlb hta htb hma hmb htt hpt hne hz hAP hBP ih
 rename_i hxx
 clear hxx
 go_enter Tryz.func27, Tryz.ntmps27
 go_upto_region 4 with (first
  | (go_at_call 33; (with_reducible refine (HHa.out _).mono ?_); rintro e w1 ⟨rfl, hb1⟩; have HB1 := hid hb1; clear hb1 x0 x1 x2 x3 x4 hm0; have x2 := (World.cell?_of_block (w := w) (a := ⟨gp, 2, none⟩) (HB1.out.block gp HL.out.1)).trans HXs.out.2.2.1; have x3 := (World.cell?_of_block (w := w) (a := ⟨gp, 3, none⟩) (HB1.out.block gp HL.out.1)).trans HXs.out.2.2.2.1)
  | (go_at_call 33; (with_reducible refine (HHb.out _).mono ?_); rintro e w2 ⟨rfl, hb2⟩; have HB2 := hid (HB1.out.trans (hb2.mono HB1.out.size)); clear hb2 x2 x3 HB1; have x4 := (World.cell?_of_block (w := w) (a := ⟨gp, 4, none⟩) (HB2.out.block gp HL.out.1)).trans HXs.out.2.2.2.2.1; have hm0 := (World.cell?_of_block (w := w) (a := ⟨gm, x, none⟩) (HB2.out.block gm HL.out.2.1)).trans HXs.out.2.2.2.2.2; have hfr := HFr.out _ HB2.out))
 have hp2 := HP.out.keep HB2.out
 have hc3 : Chg w (w2.setCell ⟨gm, x, none⟩ (.bool true)) (· = gm) := (Chg.of_below HB2.out (· = gm)).set gm x rfl _
 have hp3 : Pair P sa sb gp gm (S ++ [x]) (w2.setCell ⟨gm, x, none⟩ (.bool true)) := hp2.chg hP ((Chg.refl w2 (· = gm)).set gm x rfl _) HNe.out (by
  have := hp2.me.put x (.bool true)
  rw [← markL_set]
  simpa [boolC, List.map_set] using this)
 have HC3 := hid hc3
 have HP3 := hid hp3
 clear hp2 hc3 hp3 x4 hm0 hfr HB2
 generalize w2.setCell ⟨gm, x, none⟩ (.bool true) = w3 at *
 have hbA : w3.heap[bA]? = w.heap[bA]? := HC3.out.block bA HL.out.2.2.1 (hP bA hPA.out)
 have hbB : w3.heap[bB]? = w.heap[bB]? := HC3.out.block bB HL.out.2.2.2 (hP bB hPB.out)
 have hsz3 := HC3.out.size
 have x0 := Blk.at HP3.out.bo 0
 have x2 := Blk.at HP3.out.bo 2
 simp only [List.getElem?_cons_zero, List.getElem?_cons_succ] at x0 x2
 rw [HN.out.2.1, HA.out.1, ← HN.out.1] at x0
 rw [HN.out.2.2, HA.out.2, ← HN.out.1] at x2
 refine sm4_reg (gp := gp) (bA := bA) (oA := oA) (cA := sa.N.c) (bB := bB) (oB := oB) (cB := sb.N.c) (n := n) (x := x) (cs := va.cells) (ds := vb.cells) rfl rfl rfl (by simp) hx (Nat.lt_of_lt_of_le HL.out.1 hsz3) (Nat.lt_of_lt_of_le HL.out.2.2.1 hsz3) (Nat.lt_of_lt_of_le HL.out.2.2.2 hsz3) x0 x2 (range_keep HAr.out hbA) (range_keep HBr.out hbB) (nv_size va) (nv_size vb) rfl rfl (nv_one va) (nv_one vb) ?_
 intro f w4 g7 g8 e7 e8 hb4 hg7 hg8 k7 k8
 simp only [sm4Us, List.foldl_cons, List.foldl_nil, List.setIfInBounds_toArray, List.set_cons_zero, List.set_cons_succ]
 have HP4 := hid (HP3.out.keep hb4)
 have HB4 := hid hb4
 have HK := hid (And.intro k7 k8)
 have HE := hid (And.intro e7 e8)
 have HG := hid (And.intro hg7 hg8)
 have HC4 := hid (HC3.out.trans ((Chg.of_below hb4 (· = gm))))
 clear x0 x2 hbA hbB hb4 k7 k8 e7 e8 hg7 hg8
 go_upto_region 5 with (fail)
 obtain ⟨fa, pa⟩ := ckV_fits (hca va HV.out.1) (HP.out.oa.each va HV.out.1).kn (HP.out.oa.each va HV.out.1).fn (HP.out.oa.each va HV.out.1).cn
 obtain ⟨fb, pb⟩ := ckV_fits (hcb vb HV.out.2.1) (HP.out.ob.each vb HV.out.2.1).kn (HP.out.ob.each vb HV.out.2.1).fn (HP.out.ob.each vb HV.out.2.1).cn
 have hoa : ∀ W, Below w4.heap.size w4 W → NodeOk W P va := fun W hb => (HP4.out.oa.each va HV.out.1).keep hb
 have hob : ∀ W, Below w4.heap.size w4 W → NodeOk W P vb := fun W hb => (HP4.out.ob.each vb HV.out.2.1).keep hb
 have htt := HV.out.2.2.1
 have hpt := HV.out.2.2.2
 rw [htt] at pb
 refine sm5_reg (gp := gp) (g7 := g7) (g8 := g8) (cs := va.cells.toArray) (ds := vb.cells.toArray)
  (R2 := fun u W => u = .bool true ∧ Below w4.heap.size w4 W)
  (R5 := fun u W => Below w4.heap.size w4 W ∧ ∃ s : SV, u = s.val ∧ s.n = va.t.parts.length ∧ Rw W (w4.heap.size ≤ ·) s (intC va.t.parts))
  (R7 := fun u v W => Below w4.heap.size w4 W ∧ (∃ s : SV, u = s.val ∧ s.n = va.t.parts.length ∧ Rw W (w4.heap.size ≤ ·) s (intC va.t.parts)) ∧ (∃ s : SV, v = s.val ∧ s.n = va.t.parts.length ∧ Rw W (w4.heap.size ≤ ·) s (intC va.t.parts)))
  (R10 := fun u W => u = .bool true ∧ Pair P sa sb gp gm (S ++ sub (ptT sa.ts) x) W ∧ Chg w W (· = gm))
  rfl HE.out.1 HE.out.2 (by simp) HK.out.1 HK.out.2 (nv_size va) (nv_size vb) ?_ ?_ ?_ ?_ ?_ ?_ ?_ ?_
 ·refine (alike_eq (P := P) va vb htt w4.drew (hoa _ (below_draw (Below.refl _ _))) (hob _ (below_draw (Below.refl _ _))) fa fb).mono ?_
  rintro e W ⟨rfl, hb⟩
  exact ⟨_, rfl, rfl, ⟨hb.os, hb.tape, hb.output, hb.size, hb.block⟩⟩
 ·rintro u W ⟨rfl, hb⟩
  exact ⟨rfl, HK.out.1.keep hb, HK.out.2.keep hb⟩
 ·rintro u W ⟨rfl, hb⟩
  refine (Kids_any va W (hoa W hb) fa.three pa).mono ?_
  rintro e W2 ⟨A, c, rfl, hb2, ho⟩
  obtain ⟨s, hs, hsn, hsr⟩ := own_rw ho
  exact ⟨_, rfl, hb.trans (hb2.mono hb.size), s, hs, hsn, hsr.mono (fun _ _ _ => rfl) (Nat.le_refl _) (fun b hb3 _ => Nat.le_trans hb.size hb3)⟩
 ·rintro u W ⟨hb, _⟩
  exact HK.out.2.keep hb
 ·rintro u W ⟨hb, s1, hs1, hn1, hr1⟩
  refine (Kids_any vb W (hob W hb) fb.three (by rw [htt]; exact pa)).mono ?_
  rw [htt]
  rintro e W2 ⟨A, c, rfl, hb2, ho⟩
  obtain ⟨s, hs, hsn, hsr⟩ := own_rw ho
  exact ⟨_, rfl, hb.trans (hb2.mono hb.size), ⟨s1, hs1, hn1, hr1.keep hb2⟩, s, hs, hsn, hsr.mono (fun _ _ _ => rfl) (Nat.le_refl _) (fun b hb3 _ => Nat.le_trans hb.size hb3)⟩
 ·rintro u v W ⟨hb, ⟨s1, rfl, hn1, hr1⟩, ⟨s2, rfl, hn2, hr2⟩⟩
  have hgm4 : gm < w4.heap.size := HP4.out.me.lt
  have hgmW : gm < W.heap.size := Nat.lt_of_lt_of_le hgm4 hb.size
  have hpW := HP4.out.keep hb
  have hxl : x < sa.vs.length := by rw [← HN.out.1]; exact hx
  refine (eqI_any (P := fun b => w4.heap.size ≤ b) s1 s2 va.t.parts W (fun i W2 => Pair P sa sb gp gm (S ++ x :: (va.t.parts.take i).flatMap (fun p => sub (ptT sa.ts) p.toNat)) W2 ∧ Chg W W2 (· = gm)) ⟨enters_of Tryz.func27 (by kernel_rfl) rfl, ?_⟩ ⟨by simpa using hpW, Chg.refl _ _⟩ ?_ ?_ hn1 hn2 pa).mono ?_
  ·rintro i hi W2 ⟨hp2, hc2⟩
   have hmem : va.t.parts[i] ∈ ptT sa.ts x := by rw [hpt]; exact List.getElem_mem hi
   have hlt := H.lt x hxl _ hmem
   have hcall := IH.out va.t.parts[i].toNat hlt.2 (by omega) _ W2 hp2 ?_
   ·rw [Int.toNat_of_nonneg hlt.1] at hcall
    refine hcall.mono ?_
    rintro e W3 ⟨he, hp3, hc3⟩
    refine ⟨he, ?_, hc2.trans (hc3.more (fun _ _ h => h))⟩
    rw [take_fm hi]
    simpa using hp3
   ·intro z hz
    rw [List.mem_append, List.mem_cons, List.mem_flatMap]
    rintro (h | rfl | ⟨q, hq, hzq⟩)
    ·exact HZ.out z ((mem_sub H hxl).2 (.inr ⟨_, hmem, hz⟩)) h
    ·have := sub_le H _ _ (by omega) hz
     omega
    ·have hq2 : q ∈ ptT sa.ts x := by rw [hpt]; exact List.mem_of_mem_take hq
     refine sub_sibs H hxl hmem hq2 ?_ z hz hzq
     rintro rfl
     have hnd := pt_nodup H hxl
     rw [hpt] at hnd
     have e1 : va.t.parts = va.t.parts.take i ++ va.t.parts[i] :: va.t.parts.drop (i + 1) := by rw [← List.drop_eq_getElem_cons hi, List.take_append_drop]
     rw [e1, List.nodup_append] at hnd
     exact hnd.2.2 _ hq _ List.mem_cons_self rfl
  ·rintro i W2 ⟨_, hc2⟩
   exact hr1.mono (fun b hb2 hl => hc2.block b hl (by omega)) hc2.size (fun _ h _ => h)
  ·rintro i W2 ⟨_, hc2⟩
   exact hr2.mono (fun b hb2 hl => hc2.block b hl (by omega)) hc2.size (fun _ h _ => h)
  ·rintro e W2 ⟨rfl, hp2, hc2⟩
   rw [List.take_length, ← hpt, ← sub_eq H x hxl] at hp2
   exact ⟨_, rfl, rfl, hp2, (HC4.out.trans (Chg.of_below hb _)).trans hc2⟩
 ·rintro u W ⟨rfl, _⟩
  rfl
 ·rintro f2 w5 e6 ⟨_, hp5, hc5⟩
  simp only [sm5Us, List.foldl_cons, List.foldl_nil, List.setIfInBounds_toArray, List.set_cons_zero, List.set_cons_succ]
  rw [e6]
  have HP5 := hid (And.intro hp5 hc5)
  clear hp5 hc5
  go_wp2
  show R (.returned (.bool true)) w5
  rw [HR.out]
  exact ⟨rfl, HP5.out⟩
end Go.Proofs.YtfcccfplmdjndaaGreat

/- spec: slices.EqualFunc over two lists of the same names. -/
namespace Go.Proofs.YtfcccfplmdjndaaGreat
set_option linter.unusedSimpArgs false
set_option linter.unusedVariables false
open Go.RowKit

theorem def_cell2 {w : World} {P : Nat → Prop} {S : SV} {cs : List DT} (h : Rw w P S (flatD cs)) {q : Nat} (hq : q < cs.length) : ∃ b o, S.A = some ⟨b, o, none⟩ ∧ b < w.heap.size ∧ P b ∧ w.cell? ⟨b, o + q * 2, none⟩ = some (.string cs[q].nm) ∧ w.cell? ⟨b, o + q * 2 + 1, none⟩ = some (.int .i64 cs[q].ty) := by
 obtain ⟨b, o, hA, hl, hP, hc⟩ := h.at (by rw [flatD_len]; omega)
 have hcell : ∀ i, i < 2 → w.cell? ⟨b, o + q * 2 + i, none⟩ = cs[q].cells[i]? := fun i hi => by
  rw [Nat.add_assoc, hc (q * 2 + i) (by rw [flatD_len]; omega)]
  exact flat_get (f := DT.cells) (m := 2) (fun _ => rfl) cs q i hq hi
 exact ⟨b, o, hA, hl, hP, hcell 0 (by decide), hcell 1 (by decide)⟩
structure HandsD (F : Nat) (caps : Array Value) (ps : List DT) (Inv : Nat → World → Prop) : Prop where
 ent : ∀ args w, (callFunc F args).run Tryz.prog w = .ok (.enter F args) w
 call : ∀ i (h : i < ps.length) W, Inv i W → Calls Tryz.prog F (#[.agg ps[i].cells.toArray, .agg ps[i].cells.toArray] ++ caps) W fun e W' => e = .returned (.bool true) ∧ Inv (i + 1) W'
 keep : ∀ i W W', Inv i W → Below W.heap.size W W' → Inv i W'
set_option maxRecDepth 100000 in
set_option maxHeartbeats 4000000 in
theorem eqD_any {P : Nat → Prop} {F : Nat} {cap : Value} (s1 s2 : SV) (xs : List DT) (w : World) (Inv : Nat → World → Prop) (H : HandsD F #[cap] xs Inv) (hI : Inv 0 w)
  (h1 : ∀ i W, Inv i W → Rw W P s1 (flatD xs)) (h2 : ∀ i W, Inv i W → Rw W P s2 (flatD xs)) (n1 : s1.n = xs.length) (n2 : s2.n = xs.length) (hl : xs.length ≤ 1048576) :
  Calls Tryz.prog 25 #[s1.val, s2.val, .func (.func F) #[] #[cap]] w fun e w' => e = .returned (.bool true) ∧ Inv xs.length w' := by
 obtain ⟨A, n, c⟩ := s1
 obtain ⟨A2, m, c2⟩ := s2
 unfold SV.val
 simp only at n1 n2 ⊢
 subst n2
 obtain rfl : n = xs.length := n1
 obtain ⟨n, hn⟩ : ∃ n, n = xs.length := ⟨_, rfl⟩
 rw [← hn] at hl h1 h2 ⊢
 have hent := H.ent
 have HI := hid hI
 have HN := hid hn
 have HC := hid H.call
 have HKp := hid H.keep
 have HA := hid h1
 have HA2 := hid h2
 clear hI hn H h1 h2
 go_enter Tryz.func25, Tryz.ntmps25
 go_wp2_with fail
 go_loopw [17] (fun i wr => ∃ q : Nat, q ≤ n ∧ i = .int .i64 q ∧ Hid (Inv q wr)) (fun i _ => n - (intOf i).toNat)
 case atStart => exact ⟨0, by omega, rfl, HI⟩
 case round =>
  clear HI
  obtain ⟨q, hq, rfl, HI⟩ := hrel
  by_cases hlt : q < n
  ·have hlt' : (q : Int) < (n : Int) := by omega
   have hq1 : q < xs.length := by rw [← HN.out]; exact hlt
   obtain ⟨b1, o1, hA, hbl, _, e0, e1⟩ := def_cell2 (HA.out q wr HI.out) hq1
   obtain ⟨b2, o2, hA2, hbl2, _, d0, d1⟩ := def_cell2 (HA2.out q wr HI.out) hq1
   have hA' : A = some ⟨b1, o1, none⟩ := hA
   have hA2' : A2 = some ⟨b2, o2, none⟩ := hA2
   have HK := hid (fun W hi => HC.out q hq1 W hi)
   obtain ⟨f, hf⟩ : ∃ f, f = xs[q] := ⟨_, rfl⟩
   rw [← hf] at e0 e1 d0 d1 HK
   have hbx := row_new wr 43 #[.string ⟨#[]⟩, .int .i64 0] f.cells.toArray
   have hX4 : Blk ((wr.alloc (.cells #[.string ⟨#[]⟩, .int .i64 0] 43)).setRow wr.heap.size f.cells.toArray) wr.heap.size 43 f.cells := setRow_heap _ _ _ _ _ (0, 0) (heap_alloc_new wr _)
   obtain ⟨W4, hW4⟩ : ∃ W4, W4 = (wr.alloc (.cells #[.string ⟨#[]⟩, .int .i64 0] 43)).setRow wr.heap.size f.cells.toArray := ⟨_, rfl⟩
   rw [← hW4] at hbx hX4
   have k0 := (World.cell?_of_block (w := wr) (a := ⟨b2, o2 + q * 2, none⟩) (hbx.block b2 hbl2)).trans d0
   have k1 := (World.cell?_of_block (w := wr) (a := ⟨b2, o2 + q * 2 + 1, none⟩) (hbx.block b2 hbl2)).trans d1
   have hbx5 := row_new W4 43 #[.string ⟨#[]⟩, .int .i64 0] f.cells.toArray
   have hX5 : Blk ((W4.alloc (.cells #[.string ⟨#[]⟩, .int .i64 0] 43)).setRow W4.heap.size f.cells.toArray) W4.heap.size 43 f.cells := setRow_heap _ _ _ _ _ (0, 0) (heap_alloc_new W4 _)
   obtain ⟨W5, hW5⟩ : ∃ W5, W5 = (W4.alloc (.cells #[.string ⟨#[]⟩, .int .i64 0] 43)).setRow W4.heap.size f.cells.toArray := ⟨_, rfl⟩
   rw [← hW5] at hbx5 hX5
   have HI5 := hid (HKp.out q W4 W5 (HKp.out q wr W4 HI.out hbx) hbx5)
   have HCa := hid (HK.out W5 HI5.out)
   have hX45 := hX4.keep hbx5
   have z0 := Blk.at hX45 0
   have z1 := Blk.at hX45 1
   have z2 := Blk.at hX5 0
   have z3 := Blk.at hX5 1
   simp only [DT.cells, List.getElem?_cons_zero, List.getElem?_cons_succ] at z0 z1 z2 z3
   have HCb := hid (show Calls Tryz.prog F #[.agg #[.string f.nm, .int .i64 f.ty], .agg #[.string f.nm, .int .i64 f.ty], cap] W5 _ from HCa.out)
   have HW4 := hid hW4
   have HW5 := hid hW5
   have hszf : (Tryz.prog.info? 43).map (·.size) = some f.cells.toArray.size := dt_size f
   have HSf := hid hszf
   have HOf := hid (dt_one f)
   clear hbx hX4 hbx5 hX5 hX45 hW4 hW5 d0 d1 hbl hbl2 hA hA2 hf hszf HCa HK HI HI5 hq1
   rw [hA', hA2']
   go_wp2_with (first
    | ((with_reducible refine wpList_store_row rfl 43 _ _ rfl wr.heap.size f.cells.toArray ?_ ?_ 43 #[.string ⟨#[]⟩, .int .i64 0] (heap_alloc_new wr _) HSf.out ?_ HOf.out ?_); exact rfl; exact rfl; exact rfl; rw [← HW4.out])
    | ((with_reducible refine wpList_store_row rfl 43 _ _ rfl W4.heap.size f.cells.toArray ?_ ?_ 43 #[.string ⟨#[]⟩, .int .i64 0] (heap_alloc_new W4 _) HSf.out ?_ HOf.out ?_); exact rfl; exact rfl; exact rfl; rw [← HW5.out])
    | (refine HCb.out.mono ?_; rintro e w6 ⟨rfl, hi6⟩; have HI6 := hid hi6; clear hi6))
   all_goals exact ⟨⟨q + 1, by omega, by go_num, HI6⟩, by simp [intOf]; omega⟩
  ·obtain rfl : q = n := by omega
   go_wp2
   go_ret
   exact ⟨rfl, HI.out⟩
end Go.Proofs.YtfcccfplmdjndaaGreat

/- spec: Same of two specifications that say the same. -/
namespace Go.Proofs.YtfcccfplmdjndaaGreat
set_option linter.unusedSimpArgs false
set_option linter.unusedVariables false
open Go.RowKit

theorem dbox_new (w : World) (x : DT) : Below w.heap.size w (w.alloc (.cells x.cells.toArray 43)) ∧ Blk (w.alloc (.cells x.cells.toArray 43)) w.heap.size 43 x.cells :=
 ⟨(Below.refl _ _).alloc (Nat.le_refl _) _, heap_alloc_new w _⟩
set_option maxRecDepth 100000 in
set_option maxHeartbeats 1000000 in
theorem same1_any {rs : List Int} (sa sb : SpV) (hts : sb.ts = sa.ts) (H : Val sa.vs.length (ptT sa.ts) rs) (hca : ∀ v ∈ sa.vs, ckV v = 0) (hcb : ∀ v ∈ sb.vs, ckV v = 0) {P : Nat → Prop} {gp gm : Nat} (hP : ∀ b, P b → b ≠ gm)
  (d : DT) (x : Nat) (hd : d.ty = (x : Int)) (hx : x < sa.vs.length) (S : List Nat) (w : World) (hp : Pair P sa sb gp gm S w) (hz : ∀ z ∈ sub (ptT sa.ts) x, z ∉ S) :
  Calls Tryz.prog 26 #[.agg d.cells.toArray, .agg d.cells.toArray, .pointer (some ⟨gp, 0, none⟩)] w fun e w' => e = .returned (.bool true) ∧ Pair P sa sb gp gm (S ++ sub (ptT sa.ts) x) w' ∧ Chg w w' (· = gm) := by
 obtain ⟨hA, hX⟩ := dbox_new w d
 obtain ⟨hA2, hY⟩ := dbox_new (w.alloc (.cells d.cells.toArray 43)) d
 rw [World.size_alloc] at hY
 have hX2 := hX.keep hA2
 have HB := hid (hA.trans (hA2.mono hA.size))
 have x0 := Blk.at hX2 0
 have x1 := Blk.at hX2 1
 have y0 := Blk.at hY 0
 have y1 := Blk.at hY 1
 obtain ⟨nm, ty⟩ := d
 simp only [DT.cells, List.getElem?_cons_zero, List.getElem?_cons_succ] at x0 x1 y0 y1 HB ⊢
 simp only at hd
 subst hd
 have HS := hid (fun W (hb : Below w.heap.size w W) => same_any sa sb hts H hca hcb hP x hx S W (hp.keep hb) hz)
 obtain ⟨R, hR⟩ : ∃ R : Ending → World → Prop, R = fun e w' => e = .returned (.bool true) ∧ Pair P sa sb gp gm (S ++ sub (ptT sa.ts) x) w' ∧ Chg w w' (· = gm) := ⟨_, rfl⟩
 rw [← hR]
 have HR := hid hR
 clear hR hA hX hA2 hY hX2 hp hz hx hP hca hcb H hts
 go_enter Tryz.func26, Tryz.ntmps26
 go_wp2_with (go_at_call 27; (with_reducible refine (HS.out _ HB.out).mono ?_); rintro e w3 ⟨rfl, hp3, hc3⟩; have HP3 := hid (And.intro hp3 ((Chg.of_below HB.out (· = gm)).trans (hc3.more (fun _ _ h => h)))); clear hp3 hc3)
 show R (.returned (.bool true)) w3
 rw [HR.out]
 exact ⟨rfl, HP3.out⟩
theorem same_hands (sa sb : SpV) (hts : sb.ts = sa.ts) (V : Val sa.vs.length (ptT sa.ts) (sa.ds.map DT.ty)) (hca : ∀ v ∈ sa.vs, ckV v = 0) (hcb : ∀ v ∈ sb.vs, ckV v = 0) {P : Nat → Prop} {gp gm : Nat} (w : World) (hgm : w.heap.size ≤ gm) (hP : ∀ b, P b → b ≠ gm) :
  HandsD 26 #[.pointer (some ⟨gp, 0, none⟩)] sa.ds (fun i W => Pair P sa sb gp gm ((sa.ds.take i).flatMap (fun d => sub (ptT sa.ts) d.ty.toNat)) W ∧ Below w.heap.size w W) where
 ent := enters_of Tryz.func26 (by kernel_rfl) rfl
 call := by
  rintro i hi W ⟨hp, hb⟩
  have hmem : sa.ds[i].ty ∈ sa.ds.map DT.ty := List.mem_map_of_mem (List.getElem_mem hi)
  have hin := V.inb _ hmem
  refine (same1_any sa sb hts V hca hcb hP sa.ds[i] sa.ds[i].ty.toNat (Int.toNat_of_nonneg hin.1).symm hin.2 _ W hp ?_).mono ?_
  ·intro z hz hz2
   obtain ⟨d, hd, hz2⟩ := List.mem_flatMap.1 hz2
   obtain ⟨j, hj, rfl⟩ := List.getElem_of_mem hd
   rw [List.length_take] at hj
   rw [List.getElem_take] at hz2
   refine sub_roots V hmem (List.mem_map_of_mem (List.getElem_mem (by omega : j < sa.ds.length))) ?_ z hz hz2
   intro e
   have hnd := (List.nodup_append.1 V.nd).2.1
   have := List.pairwise_iff_getElem.1 hnd j i (by simp; omega) (by simpa using hi) (by omega)
   simp only [List.getElem_map] at this
   exact this e.symm
  ·rintro e W2 ⟨he, hp2, hc2⟩
   refine ⟨he, ?_, Chg.below hb hc2 hb.size (fun j hj => by rw [hj]; exact hgm)⟩
   rw [take_fm hi]
   exact hp2
 keep := by
  rintro i W W' ⟨hp, hb⟩ hc
  exact ⟨hp.keep hc, hb.trans (hc.mono hb.size)⟩
set_option maxRecDepth 100000 in
set_option maxHeartbeats 1000000 in
theorem Same_eq (sa sb : SpV) (hds : sb.ds = sa.ds) (hts : sb.ts = sa.ts) (H : ckS sa.vs sa.ds = 0) (H2 : ckS sb.vs sb.ds = 0) {P : Nat → Prop} (w : World) (ha : SpecOk w P sa) (hb : SpecOk w P sb) :
  Calls Tryz.prog 10 #[sa.val, sb.val] w fun e w' => e = .returned (.bool true) ∧ Below w.heap.size w w' := by
 obtain ⟨V, hca, hn, hd0, hd1⟩ := ckS_zero H
 obtain ⟨_, hcb, hnb, _, _⟩ := ckS_zero H2
 obtain ⟨b1, k1⟩ := spec_box w (.slice sa.N.A sa.N.n sa.N.c) (.slice sa.D.A sa.D.n sa.D.c)
 obtain ⟨b2, k2⟩ := spec_box (w.alloc (.cells #[.slice sa.N.A sa.N.n sa.N.c, .slice sa.D.A sa.D.n sa.D.c] 32)) (.slice sb.N.A sb.N.n sb.N.c) (.slice sb.D.A sb.D.n sb.D.c)
 rw [World.size_alloc] at k2
 have k12 := k1.keep b2
 have HB := hid (b1.trans (b2.mono b1.size))
 have HK := hid (And.intro k12 k2)
 obtain ⟨R, hR⟩ : ∃ R : Ending → World → Prop, R = fun e w' => e = .returned (.bool true) ∧ Below w.heap.size w w' := ⟨_, rfl⟩
 rw [← hR]
 have HR := hid hR
 have HO := hid (And.intro ha hb)
 have hnn : sa.N.n = sa.vs.length := ha.nn
 obtain ⟨n, hnv⟩ : ∃ n, n = sa.vs.length := ⟨_, rfl⟩
 rw [← hnv] at hn hnn
 unfold SpV.val
 rw [hnn] at HB HK ⊢
 have HN := hid (And.intro hnv hnn)
 have HH := hid (And.intro H H2)
 clear hR ha hb b1 k1 b2 k2 k12 hnv hnn H H2
 go_enter Tryz.func10, Tryz.ntmps10
 go_upto_region 1 with (fail)
 change Code.wp _ _ _ _ ((w.alloc (.cells #[.slice sa.N.A n sa.N.c, .slice sa.D.A sa.D.n sa.D.c] 32)).alloc (.cells #[.slice sb.N.A sb.N.n sb.N.c, .slice sb.D.A sb.D.n sb.D.c] 32))
 generalize (w.alloc (.cells #[.slice sa.N.A n sa.N.c, .slice sa.D.A sa.D.n sa.D.c] 32)).alloc (.cells #[.slice sb.N.A sb.N.n sb.N.c, .slice sb.D.A sb.D.n sb.D.c] 32) = w2 at *
 have x0 := Blk.at HK.out.1 0
 have x1 := Blk.at HK.out.1 1
 have y0 := Blk.at HK.out.2 0
 have y1 := Blk.at HK.out.2 1
 simp only [List.getElem?_cons_zero, List.getElem?_cons_succ] at x0 x1 y0 y1
 have hmk := mk_boolz n (by omega)
 have hl1 : w.heap.size < w2.heap.size := HK.out.1.lt
 have hl2 : w.heap.size + 1 < w2.heap.size := HK.out.2.lt
 have HL := hid (And.intro hl1 hl2)
 have HSz := hid (show w.heap.size ≤ w2.heap.size from HB.out.size)
 go_region
 have ha := (Below.refl w2.heap.size w2).alloc (Nat.le_refl _) (.cells (boolC (List.replicate n false)).toArray 4)
 have h2 := (Below.refl (w2.alloc (.cells (boolC (List.replicate n false)).toArray 4)).heap.size _).alloc (Nat.le_refl _) (.cells #[.slice sa.N.A n sa.N.c, .slice sa.D.A sa.D.n sa.D.c, .slice sb.N.A sb.N.n sb.N.c, .slice sb.D.A sb.D.n sb.D.c, .slice (some ⟨w2.heap.size, 0, none⟩) n n] 77)
 have k1 : Blk ((w2.alloc (.cells (boolC (List.replicate n false)).toArray 4)).alloc (.cells #[.slice sa.N.A n sa.N.c, .slice sa.D.A sa.D.n sa.D.c, .slice sb.N.A sb.N.n sb.N.c, .slice sb.D.A sb.D.n sb.D.c, .slice (some ⟨w2.heap.size, 0, none⟩) n n] 77)) w2.heap.size 4 (boolC (List.replicate n false)) := Blk.keep (show Blk (w2.alloc (.cells (boolC (List.replicate n false)).toArray 4)) w2.heap.size 4 (boolC (List.replicate n false)) from heap_alloc_new w2 _) h2
 have k2 : Blk ((w2.alloc (.cells (boolC (List.replicate n false)).toArray 4)).alloc (.cells #[.slice sa.N.A n sa.N.c, .slice sa.D.A sa.D.n sa.D.c, .slice sb.N.A sb.N.n sb.N.c, .slice sb.D.A sb.D.n sb.D.c, .slice (some ⟨w2.heap.size, 0, none⟩) n n] 77)) (w2.alloc (.cells (boolC (List.replicate n false)).toArray 4)).heap.size 77 [.slice sa.N.A n sa.N.c, .slice sa.D.A sa.D.n sa.D.c, .slice sb.N.A sb.N.n sb.N.c, .slice sb.D.A sb.D.n sb.D.c, .slice (some ⟨w2.heap.size, 0, none⟩) n n] := heap_alloc_new _ _
 rw [World.size_alloc] at k2
 have HBW := hid (ha.trans (h2.mono ha.size)).drew
 have HM := hid (show Blk ((w2.alloc (.cells (boolC (List.replicate n false)).toArray 4)).alloc (.cells #[.slice sa.N.A n sa.N.c, .slice sa.D.A sa.D.n sa.D.c, .slice sb.N.A sb.N.n sb.N.c, .slice sb.D.A sb.D.n sb.D.c, .slice (some ⟨w2.heap.size, 0, none⟩) n n] 77)).drew w2.heap.size 4 (boolC (List.replicate n false)) from k1)
 have HG := hid (show Blk ((w2.alloc (.cells (boolC (List.replicate n false)).toArray 4)).alloc (.cells #[.slice sa.N.A n sa.N.c, .slice sa.D.A sa.D.n sa.D.c, .slice sb.N.A sb.N.n sb.N.c, .slice sb.D.A sb.D.n sb.D.c, .slice (some ⟨w2.heap.size, 0, none⟩) n n] 77)).drew (w2.heap.size + 1) 77 [.slice sa.N.A n sa.N.c, .slice sa.D.A sa.D.n sa.D.c, .slice sb.N.A sb.N.n sb.N.c, .slice sb.D.A sb.D.n sb.D.c, .slice (some ⟨w2.heap.size, 0, none⟩) n n] from k2)
 clear ha h2 k1 k2
 generalize ((w2.alloc (.cells (boolC (List.replicate n false)).toArray 4)).alloc (.cells #[.slice sa.N.A n sa.N.c, .slice sa.D.A sa.D.n sa.D.c, .slice sb.N.A sb.N.n sb.N.c, .slice sb.D.A sb.D.n sb.D.c, .slice (some ⟨w2.heap.size, 0, none⟩) n n] 77)).drew = W at *
 obtain ⟨gm, hgm⟩ : ∃ gm, gm = w2.heap.size := ⟨_, rfl⟩
 obtain ⟨gp, hgp⟩ : ∃ gp, gp = (w2.heap.size + 1) := ⟨_, rfl⟩
 have HGe := hid (show w2.heap.size ≤ gm ∧ w2.heap.size ≤ gp from ⟨by omega, by omega⟩)
 (simp only [← hgp] at HM HG ⊢)
 (simp only [← hgm] at HM HG ⊢)
 clear hgp hgm
 rotate_left
 have ha := (Below.refl w2.heap.size w2).alloc (Nat.le_refl _) (.cells #[.slice sa.N.A n sa.N.c, .slice sa.D.A sa.D.n sa.D.c, .slice sb.N.A sb.N.n sb.N.c, .slice sb.D.A sb.D.n sb.D.c, .slice (some ⟨w2.heap.size + 1, 0, none⟩) n n] 77)
 have h2 := (Below.refl (w2.alloc (.cells #[.slice sa.N.A n sa.N.c, .slice sa.D.A sa.D.n sa.D.c, .slice sb.N.A sb.N.n sb.N.c, .slice sb.D.A sb.D.n sb.D.c, .slice (some ⟨w2.heap.size + 1, 0, none⟩) n n] 77)).heap.size _).alloc (Nat.le_refl _) (.cells (boolC (List.replicate n false)).toArray 4)
 have k1 : Blk ((w2.alloc (.cells #[.slice sa.N.A n sa.N.c, .slice sa.D.A sa.D.n sa.D.c, .slice sb.N.A sb.N.n sb.N.c, .slice sb.D.A sb.D.n sb.D.c, .slice (some ⟨w2.heap.size + 1, 0, none⟩) n n] 77)).alloc (.cells (boolC (List.replicate n false)).toArray 4)) w2.heap.size 77 [.slice sa.N.A n sa.N.c, .slice sa.D.A sa.D.n sa.D.c, .slice sb.N.A sb.N.n sb.N.c, .slice sb.D.A sb.D.n sb.D.c, .slice (some ⟨w2.heap.size + 1, 0, none⟩) n n] := Blk.keep (show Blk (w2.alloc (.cells #[.slice sa.N.A n sa.N.c, .slice sa.D.A sa.D.n sa.D.c, .slice sb.N.A sb.N.n sb.N.c, .slice sb.D.A sb.D.n sb.D.c, .slice (some ⟨w2.heap.size + 1, 0, none⟩) n n] 77)) w2.heap.size 77 [.slice sa.N.A n sa.N.c, .slice sa.D.A sa.D.n sa.D.c, .slice sb.N.A sb.N.n sb.N.c, .slice sb.D.A sb.D.n sb.D.c, .slice (some ⟨w2.heap.size + 1, 0, none⟩) n n] from heap_alloc_new w2 _) h2
 have k2 : Blk ((w2.alloc (.cells #[.slice sa.N.A n sa.N.c, .slice sa.D.A sa.D.n sa.D.c, .slice sb.N.A sb.N.n sb.N.c, .slice sb.D.A sb.D.n sb.D.c, .slice (some ⟨w2.heap.size + 1, 0, none⟩) n n] 77)).alloc (.cells (boolC (List.replicate n false)).toArray 4)) (w2.alloc (.cells #[.slice sa.N.A n sa.N.c, .slice sa.D.A sa.D.n sa.D.c, .slice sb.N.A sb.N.n sb.N.c, .slice sb.D.A sb.D.n sb.D.c, .slice (some ⟨w2.heap.size + 1, 0, none⟩) n n] 77)).heap.size 4 (boolC (List.replicate n false)) := heap_alloc_new _ _
 rw [World.size_alloc] at k2
 have HBW := hid (ha.trans (h2.mono ha.size)).drew
 have HG := hid (show Blk ((w2.alloc (.cells #[.slice sa.N.A n sa.N.c, .slice sa.D.A sa.D.n sa.D.c, .slice sb.N.A sb.N.n sb.N.c, .slice sb.D.A sb.D.n sb.D.c, .slice (some ⟨w2.heap.size + 1, 0, none⟩) n n] 77)).alloc (.cells (boolC (List.replicate n false)).toArray 4)).drew w2.heap.size 77 [.slice sa.N.A n sa.N.c, .slice sa.D.A sa.D.n sa.D.c, .slice sb.N.A sb.N.n sb.N.c, .slice sb.D.A sb.D.n sb.D.c, .slice (some ⟨w2.heap.size + 1, 0, none⟩) n n] from k1)
 have HM := hid (show Blk ((w2.alloc (.cells #[.slice sa.N.A n sa.N.c, .slice sa.D.A sa.D.n sa.D.c, .slice sb.N.A sb.N.n sb.N.c, .slice sb.D.A sb.D.n sb.D.c, .slice (some ⟨w2.heap.size + 1, 0, none⟩) n n] 77)).alloc (.cells (boolC (List.replicate n false)).toArray 4)).drew (w2.heap.size + 1) 4 (boolC (List.replicate n false)) from k2)
 clear ha h2 k1 k2
 generalize ((w2.alloc (.cells #[.slice sa.N.A n sa.N.c, .slice sa.D.A sa.D.n sa.D.c, .slice sb.N.A sb.N.n sb.N.c, .slice sb.D.A sb.D.n sb.D.c, .slice (some ⟨w2.heap.size + 1, 0, none⟩) n n] 77)).alloc (.cells (boolC (List.replicate n false)).toArray 4)).drew = W at *
 obtain ⟨gm, hgm⟩ : ∃ gm, gm = (w2.heap.size + 1) := ⟨_, rfl⟩
 obtain ⟨gp, hgp⟩ : ∃ gp, gp = w2.heap.size := ⟨_, rfl⟩
 have HGe := hid (show w2.heap.size ≤ gm ∧ w2.heap.size ≤ gp from ⟨by omega, by omega⟩)
 (simp only [← hgm] at HM HG ⊢)
 (simp only [← hgp] at HM HG ⊢)
 clear hgp hgm
 all_goals
  have HK2 := hid (And.intro (HK.out.1.keep HBW.out) (HK.out.2.keep HBW.out))
  clear x0 x1 y0 y1 hl1 hl2 hmk
  have x1 := Blk.at HK2.out.1 1
  have y1 := Blk.at HK2.out.2 1
  simp only [List.getElem?_cons_zero, List.getElem?_cons_succ] at x1 y1
  have hbW : Below w.heap.size w W := HB.out.trans (HBW.out.mono HB.out.size)
  have hsz : w.heap.size ≤ gm := Nat.le_trans HSz.out HGe.out.1
  have hpair : Pair (fun b => P b ∧ b < w.heap.size) sa sb gp gm [] W := ⟨by rw [HN.out.2, ← HN.out.1]; exact HG.out, by rw [← HN.out.1, markL_nil]; exact HM.out, HO.out.1.mono (fun b _ hl => hbW.block b hl) hbW.size (fun b hp hl => ⟨hp, hl⟩), HO.out.2.mono (fun b _ hl => hbW.block b hl) hbW.size (fun b hp hl => ⟨hp, hl⟩)⟩
  have HE := hid (eqD_any (P := fun b => P b ∧ b < w.heap.size) sa.D sb.D sa.ds W _ (same_hands (gp := gp) sa sb hts V hca hcb w hsz (fun b hb => by have := hb.2; omega)) ⟨hpair, hbW⟩ (fun i W2 h => h.1.oa.d) (fun i W2 h => by have := h.1.ob.d; rwa [hds] at this) HO.out.1.dn (by rw [← hds]; exact HO.out.2.dn) (by omega))
  clear hbW hsz hpair
  unfold SV.val at HE
  go_wp2_with (go_at_call 25; (with_reducible refine HE.out.mono ?_); rintro e w3 ⟨rfl, hp3⟩; have HP3 := hid hp3; clear hp3)
  show R (.returned (.bool true)) w3
  rw [HR.out]
  exact ⟨rfl, HP3.out.2⟩
end Go.Proofs.YtfcccfplmdjndaaGreat
