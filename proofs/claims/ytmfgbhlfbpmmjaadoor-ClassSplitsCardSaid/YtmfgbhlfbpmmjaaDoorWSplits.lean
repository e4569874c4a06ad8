/- The law ClassSplits, walked. -/
import Derived.Test.YtmfgbhlfbpmmjaaDoorSplT
import Derived.Test.YtmfgbhlfbpmmjaaDoorSets
namespace Go.Proofs.YtmfgbhlfbpmmjaaDoor
open Go.RowKit

theorem Stt.reset {w W : World} {L : List (Nat × BS)} {b : Nat} {x : BS} (h : Stt w W ((b, x) :: L)) (hne : ∀ p ∈ L, p.1 ≠ b) (y : BS) (hT : TabAt w) (hb : w.heap.size ≤ b) : Stt w (W.setRow b (setL y).toArray) ((b, y) :: L) := by
  have hbel := below_row h.bel hb (setL y).toArray
  refine ⟨hbel, hT.keep hbel, ?_⟩
  intro p hp
  rcases List.mem_cons.1 hp with rfl | hp
  · exact ⟨hb, blk_row (h.blk (b, x) (by simp)).2 _⟩
  · have hk := h.blk p (List.mem_cons_of_mem _ hp)
    exact ⟨hk.1, (setRow_other W b p.1 _ (hne p hp)).trans hk.2⟩
theorem Stt.sub {w W : World} {L L' : List (Nat × BS)} (h : Stt w W L) (hs : ∀ p ∈ L', p ∈ L) : Stt w W L' := ⟨h.bel, h.tab, fun p hp => h.blk p (hs p hp)⟩
theorem Stt.ge {w W : World} {L : List (Nat × BS)} (h : Stt w W L) {b : Nat} {a : BS} (hp : (b, a) ∈ L) : w.heap.size ≤ b ∧ b < W.heap.size := ⟨(h.blk _ hp).1, (h.blk _ hp).2.lt⟩
theorem run_sliceS_to (A : Option Addr) (n c j : Nat) (h : j ≤ c) (w : World) :
    (Instr.slice 34 (.slice A n c) none (some (.int .i64 (j : Int))) none).run Tryd.prog w = .ok (.slice A j c) w := by
  have hs : (sizeOf 26).run Tryd.prog w = .ok 4 w := by kernel_rfl
  have e : (if c = 0 then A else A.map (fun x => x.add 0)) = A := by
    split
    · rfl
    · cases A <;> simp [Addr.add]
  simp [Instr.slice, run_underlying Tryd.underlying34, Instr.sliceBounds, Instr.sliceBound, asIntOf, hs, h, e]
/-- The last one's least byte. -/
def lastI (qs : List BS) (k : Nat) : Int := if h : 0 < k ∧ k ≤ qs.length then (firstN (qs[k - 1]'(by omega)) : Int) else -1
theorem lastI_zero (qs : List BS) : lastI qs 0 = -1 := by simp [lastI]
theorem lastI_succ (qs : List BS) (k : Nat) (h : k < qs.length) : lastI qs (k + 1) = (firstN qs[k] : Int) := by
  unfold lastI
  rw [dif_pos ⟨by omega, by omega⟩]
  rfl
theorem lastI_lt {l qs : List BS} (hg : Good l qs) (hs : qs.Pairwise (fun a b => firstN a ≤ firstN b)) (k : Nat) (h : k < qs.length) : lastI qs k < (firstN qs[k] : Int) ∧ -1 ≤ lastI qs k := by
  unfold lastI
  split
  · rename_i h1
    have := hg.rising hs (k - 1) k (by omega) h
    omega
  · omega

theorem Stt.drewS {w W : World} {L : List (Nat × BS)} (h : Stt w W L) : Stt w W.drew L := ⟨h.bel.drew, h.tab, h.blk⟩
theorem Stt.three {w W : World} {gs gq gp : Nat} {sj q p : BS} (h : Stt w W [(gs, sj), (gq, q), (gp, p)]) : W.cell? ⟨gp, 0, none⟩ = some (.int .u64 ((wd p 0 : Nat) : Int)) ∧ W.cell? ⟨gp, 1, none⟩ = some (.int .u64 ((wd p 1 : Nat) : Int)) ∧ W.cell? ⟨gp, 2, none⟩ = some (.int .u64 ((wd p 2 : Nat) : Int)) ∧ W.cell? ⟨gp, 3, none⟩ = some (.int .u64 ((wd p 3 : Nat) : Int)) ∧ W.cell? ⟨gq, 0, none⟩ = some (.int .u64 ((wd q 0 : Nat) : Int)) ∧ W.cell? ⟨gq, 1, none⟩ = some (.int .u64 ((wd q 1 : Nat) : Int)) ∧ W.cell? ⟨gq, 2, none⟩ = some (.int .u64 ((wd q 2 : Nat) : Int)) ∧ W.cell? ⟨gq, 3, none⟩ = some (.int .u64 ((wd q 3 : Nat) : Int)) ∧ W.cell? ⟨gs, 0, none⟩ = some (.int .u64 ((wd sj 0 : Nat) : Int)) ∧ W.cell? ⟨gs, 1, none⟩ = some (.int .u64 ((wd sj 1 : Nat) : Int)) ∧ W.cell? ⟨gs, 2, none⟩ = some (.int .u64 ((wd sj 2 : Nat) : Int)) ∧ W.cell? ⟨gs, 3, none⟩ = some (.int .u64 ((wd sj 3 : Nat) : Int)) := by
  obtain ⟨a0, a1, a2, a3⟩ := h.cells (b := gp) (a := p) (by simp)
  obtain ⟨b0, b1, b2, b3⟩ := h.cells (b := gq) (a := q) (by simp)
  obtain ⟨c0, c1, c2, c3⟩ := h.cells (b := gs) (a := sj) (by simp)
  exact ⟨a0, a1, a2, a3, b0, b1, b2, b3, c0, c1, c2, c3⟩
/-- What the first loop's rounds do with a set of the list: it is within, or without. -/
theorem whole_cases {s p : BS} (h : Whole1 s p) : (p &&& s = 0#256) ∨ (p &&& s = p) := h

set_option maxRecDepth 100000 in
set_option maxHeartbeats 8000000 in
theorem splits_any (w : World) (hT : TabAt w) (A : Option Addr) (n c : Nat) (l : List BS) (hn : n ≤ 20) (hR : RdS w A n l) :
    Calls Tryd.prog 4 #[.slice A n c] w fun e w' => e = .returned (.bool true) ∧ Below w.heap.size w w' := by
  have HS : Hid (∀ W : World, TabAt W → Calls Tryd.prog 12 #[] W fun e w' => e = .returned (.bool true) ∧ Below W.heap.size W w') := hid (fun W hW => sets_any hW)
  have HL := hid hR.1
  have HSP : Hid (∀ W : World, TabAt W → RdS W A n l → Calls Tryd.prog 18 #[.slice A n c] W fun e w' => ∃ A' c' qs, e = .returned (.slice A' qs.length c') ∧ qs.Perm (pieceS l) ∧ qs.Pairwise (fun a b => firstN a ≤ firstN b) ∧ RdS w' A' qs.length qs ∧ Below W.heap.size W w' ∧ qs.length ≤ c') := hid (fun W hW hR => split_walk (cap := c) hW hR (by omega) (fun k _ => pieceS_small l (by rw [hR.1]; exact hn) k))
  have HTw := hid hT
  have HRw := hid hR
  clear hT hR
  go_enter Tryd.func4, Tryd.ntmps4
  go_wp2_with fail
  refine (HS.out _ HTw.out).mono ?_
  rintro e w1 ⟨rfl, hb1⟩
  have HR1 := hid (HRw.out.below hb1)
  have HT1 := hid (HTw.out.keep hb1)
  have HB1 := hid hb1
  clear hb1 HS
  go_wp2_with fail
  refine (HSP.out _ HT1.out HR1.out).mono ?_
  rintro e w2 ⟨A', c', qs, rfl, hperm, hsort, hR2, hb2, hqc⟩
  have HR2 := hid (HR1.out.below hb2)
  have HT2 := hid (HT1.out.keep hb2)
  have HB2 := hid (HB1.out.trans (hb2.mono HB1.out.size))
  have HQ := hid hR2
  have HG := hid (good_perm (good_pieces l) hperm)
  have HSO := hid hsort
  have HM : Hid (qs.length ≤ 1048576) := hid (by rw [hperm.length_eq]; have := pieceS_small l (by rw [HL.out]; exact hn) n; rwa [List.take_of_length_le (by rw [HL.out]; exact Nat.le_refl _)] at this)
  clear hperm hsort hR2 hb2 HR1 HT1 HB1 HSP
  obtain ⟨m, hm⟩ : ∃ m, m = qs.length := ⟨_, rfl⟩
  rw [← hm] at HQ HM hqc ⊢
  have HQL := hid hm.symm
  have hml := HM.out
  clear hm
  go_wp2_with fail
  have hz : (#[.int .u64 0, .int .u64 0, .int .u64 0, .int .u64 0] : Array Value) = (setL (0#256)).toArray := by simp [setL, four, u64V, wd_zero]
  have HS0 : Hid (Stt w2 (w2.alloc (.cells #[.int .u64 0, .int .u64 0, .int .u64 0, .int .u64 0] 26)) [(w2.heap.size, orL (qs.take 0))]) := hid (by
    refine ⟨(Below.refl _ _).alloc (Nat.le_refl _) _, HT2.out.keep ((Below.refl _ _).alloc (Nat.le_refl _) _), ?_⟩
    intro p hp
    obtain rfl := List.mem_singleton.1 hp
    rw [hz]
    exact ⟨Nat.le_refl _, Blk.fresh w2 26 (setL (0#256))⟩)
  clear hz
  obtain ⟨b, hb⟩ : ∃ b, b = w2.heap.size := ⟨_, rfl⟩
  rw [← hb] at HS0 ⊢
  have HBB := hid hb
  clear hb
  generalize w2.alloc (.cells #[.int .u64 0, .int .u64 0, .int .u64 0, .int .u64 0] 26) = w3 at *
  go_loopw [29, 5] (fun v u wr => ∃ k : Nat, k ≤ m ∧ v = .int .i64 k ∧ u = .int .i64 (lastI qs k) ∧ Hid (Stt w2 wr [(b, orL (qs.take k))])) (fun v _ _ => m - (intOf v).toNat)
  case atStart => exact ⟨0, by omega, rfl, by rw [lastI_zero], HS0⟩
  case round =>
    obtain ⟨k, hk, rfl, rfl, HSr⟩ := hrel
    clear HS0
    obtain ⟨wo, rfl⟩ : ∃ wo : World, wo = wr := ⟨_, rfl⟩
    by_cases hlt : k < m
    · have hkq : k < qs.length := by rw [HQL.out]; exact hlt
      have HNE := hid (HG.out.ne qs[k] (List.getElem_mem _))
      have HLI := lastI_lt HG.out HSO.out k hkq
      have HLS := hid (lastI_succ qs k hkq)
      have HNO := hid (HG.out.none k hkq)
      have HOT := hid (orL_take qs k hkq)
      have HWH : Hid (∀ s ∈ l, Whole1 s qs[k]) := hid (fun s hs => HG.out.whole s hs _ (List.getElem_mem _))
      obtain ⟨g, o, rfl, hgl, hcell⟩ := (HQ.out.below HSr.out.bel).2 (by omega)
      obtain ⟨s0, s1, s2, s3⟩ := hcell k hkq
      clear hcell
      generalize qs[k] = p at *
      generalize hall : orL (qs.take k) = al at *
      have HALL := hid hall
      clear hall
      have hfb : firstN p < 256 := by
        have := has_lt p _ (has_firstN p HNE.out)
        exact this
      have HF : Hid (∀ W : World, TabAt W → Calls Tryd.prog 19 #[setV p] W fun e w' => e = .returned (.tuple #[.int .u8 ((firstN p : Nat) : Int), .bool true]) ∧ Below W.heap.size W w') := hid (fun W hW => by have h := first_any p hW; rw [decide_eq_false HNE.out] at h; exact h)
      have HA : Hid (∀ W : World, Calls Tryd.prog 20 #[setV al, setV p] W fun e w' => e = .returned (setV (al &&& p)) ∧ Below W.heap.size W w') := hid (fun W => and_any al p W)
      have HE : Hid (∀ W : World, Calls Tryd.prog 21 #[setV (al &&& p)] W fun e w' => e = .returned (.bool true) ∧ Below W.heap.size W w') := hid (fun W => by have h := empty_any (al &&& p) W; rw [decide_eq_true HNO.out] at h; exact h)
      have HO : Hid (∀ W : World, Calls Tryd.prog 22 #[setV al, setV p] W fun e w' => e = .returned (setV (al ||| p)) ∧ Below W.heap.size W w') := hid (fun W => or_any al p W)
      generalize hfi : firstN p = fi at *
      generalize hli : lastI qs k = li at *
      clear hfi hli
      obtain ⟨hli1, hli2⟩ := HLI
      have HBX := hid (HSr.out.box p #[.int .u64 0, .int .u64 0, .int .u64 0, .int .u64 0])
      have hbo : b ≠ wo.heap.size := by have := (HSr.out.ge (b := b) (a := al) (by simp)).2; omega
      unfold setV at HF HA HO HE
      generalize hx : al &&& p = x at *
      clear hx
      go_wp2_with (refine wpList_store_row rfl 26 _ _ rfl wo.heap.size (setL p).toArray ?_ ?_ 26 #[.int .u64 0, .int .u64 0, .int .u64 0, .int .u64 0] (heap_alloc_new wo _) (set_info _) ?_ (four_one _) ?_; exact rfl; exact rfl; exact rfl; generalize (wo.alloc (.cells #[.int .u64 0, .int .u64 0, .int .u64 0, .int .u64 0] 26)).setRow wo.heap.size (setL p).toArray = w4 at *; clear HSr s0 s1 s2 s3; generalize wo.heap.size = g1 at *; obtain ⟨c0, c1, c2, c3⟩ := HBX.out.cells (b := g1) (a := p) (by simp))
      refine (HF.out _ HBX.out.tab).mono ?_
      rintro e w5 ⟨rfl, hb5⟩
      have HB5 := hid (HBX.out.step hb5)
      clear hb5 HBX c0 c1 c2 c3 HF
      obtain ⟨c0, c1, c2, c3⟩ := HB5.out.cells (b := g1) (a := p) (by simp)
      obtain ⟨d0, d1, d2, d3⟩ := HB5.out.cells (b := b) (a := al) (by simp)
      go_wp2_with (first
        | (go_at_call 20; with_reducible refine (HA.out _).mono ?_; rintro e w6 ⟨rfl, hb6⟩; have HB6 := hid (HB5.out.step hb6); clear hb6)
        | (go_at_call 21; with_reducible refine (HE.out _).mono ?_; rintro e w7 ⟨rfl, hb7⟩; have HB7 := hid (HB6.out.step hb7); clear hb7 HB6 HB5 c0 c1 c2 c3 d0 d1 d2 d3; obtain ⟨c0, c1, c2, c3⟩ := HB7.out.cells (b := g1) (a := p) (by simp); obtain ⟨d0, d1, d2, d3⟩ := HB7.out.cells (b := b) (a := al) (by simp))
        | (go_at_call 22; with_reducible refine (HO.out _).mono ?_; rintro e w8 ⟨rfl, hb8⟩; have HB8 := hid ((HB7.out.step hb8).sub (L' := [(b, al), (g1, p)]) (by simp)); clear hb8 HB7 c0 c1 c2 c3 d0 d1 d2 d3)
        | (refine wpList_store_row rfl 26 _ _ rfl b (setL (al ||| p)).toArray ?_ ?_ 26 (setL al).toArray (HB8.out.blk (b, al) (by simp)).2 (set_info _) ?_ (four_one _) ?_; exact rfl; exact rfl; exact rfl; have HB9 := hid (HB8.out.reset (by simp; exact Ne.symm hbo) (al ||| p) HT2.out (HB8.out.blk (b, al) (by simp)).1); clear HB8; generalize w8.setRow b (setL (al ||| p)).toArray = w9 at *))
      rw [← HOT.out] at HB9
      go_loopw [60] (fun v wr => ∃ j : Nat, j ≤ n ∧ v = .int .i64 j ∧ Hid (Stt w2 wr [(b, orL (qs.take (k + 1))), (g1, p)])) (fun v _ => n - (intOf v).toNat)
      case atStart => exact ⟨0, by omega, rfl, HB9⟩
      case round =>
        obtain ⟨j, hj, rfl, HSj⟩ := hrel
        clear HB9
        obtain ⟨wi, rfl⟩ : ∃ wi : World, wi = wr := ⟨_, rfl⟩
        by_cases hjl : j < n
        · have hjq : j < l.length := by rw [HL.out]; exact hjl
          have HW := hid (HWH.out l[j] (List.getElem_mem _))
          obtain ⟨gl, ol, rfl, hgl2, hcell⟩ := (HR2.out.below HSj.out.bel).2 (by omega)
          obtain ⟨s0, s1, s2, s3⟩ := hcell j hjq
          clear hcell hgl2
          generalize l[j] = sj at *
          have HAj : Hid (∀ W : World, Calls Tryd.prog 20 #[setV p, setV sj] W fun e w' => e = .returned (setV (p &&& sj)) ∧ Below W.heap.size W w') := hid (fun W => and_any p sj W)
          have HEj : Hid (∀ W : World, Calls Tryd.prog 21 #[setV (p &&& sj)] W fun e w' => e = .returned (.bool (decide (p &&& sj = 0#256))) ∧ Below W.heap.size W w') := hid (fun W => empty_any (p &&& sj) W)
          have hne := fun W => run_neSet (p &&& sj) p W
          have HB1 := hid (HSj.out.box sj #[.int .u64 0, .int .u64 0, .int .u64 0, .int .u64 0])
          have HB2 : Hid (∀ W, Stt w2 W [(wi.heap.size, sj), (b, orL (qs.take (k + 1))), (g1, p)] → Stt w2 ((W.alloc (.cells #[.int .u64 0, .int .u64 0, .int .u64 0, .int .u64 0] 26)).setRow W.heap.size (setL (p &&& sj)).toArray) [(W.heap.size, p &&& sj), (wi.heap.size, sj), (b, orL (qs.take (k + 1))), (g1, p)]) := hid (fun W h => h.box (p &&& sj) #[.int .u64 0, .int .u64 0, .int .u64 0, .int .u64 0])
          rcases HW.out with hw | hw
          · rw [decide_eq_true hw] at HEj
            generalize hy : p &&& sj = y at *
            clear hy hw HW
            unfold setV at HAj HEj hne
            go_wp2_with (first
              | (refine wpList_store_row rfl 26 _ _ rfl wi.heap.size (setL sj).toArray ?_ ?_ 26 #[.int .u64 0, .int .u64 0, .int .u64 0, .int .u64 0] (heap_alloc_new wi _) (set_info _) ?_ (four_one _) ?_; exact rfl; exact rfl; exact rfl; generalize (wi.alloc (.cells #[.int .u64 0, .int .u64 0, .int .u64 0, .int .u64 0] 26)).setRow wi.heap.size (setL sj).toArray = wa at *; clear HSj s0 s1 s2 s3; generalize wi.heap.size = ga at *; obtain ⟨c0, c1, c2, c3⟩ := HB1.out.cells (b := g1) (a := p) (by simp); obtain ⟨d0, d1, d2, d3⟩ := HB1.out.cells (b := ga) (a := sj) (by simp))
              | (go_at_call 20; with_reducible refine (HAj.out _).mono ?_; rintro e wb ⟨rfl, hbb⟩; have HB3 := hid (HB2.out _ (HB1.out.step hbb)); clear hbb HB2 HB1 c0 c1 c2 c3 d0 d1 d2 d3)
              | (refine wpList_store_row rfl 26 _ _ rfl wb.heap.size (setL y).toArray ?_ ?_ 26 #[.int .u64 0, .int .u64 0, .int .u64 0, .int .u64 0] (heap_alloc_new wb _) (set_info _) ?_ (four_one _) ?_; exact rfl; exact rfl; exact rfl; generalize (wb.alloc (.cells #[.int .u64 0, .int .u64 0, .int .u64 0, .int .u64 0] 26)).setRow wb.heap.size (setL y).toArray = wc at *; generalize wb.heap.size = gb at *; obtain ⟨c0, c1, c2, c3⟩ := HB3.out.cells (b := gb) (a := y) (by simp))
              | (go_at_call 21; with_reducible refine (HEj.out _).mono ?_; rintro e wd ⟨rfl, hbd⟩; have HB4 := hid (HB3.out.step hbd); clear hbd HB3 c0 c1 c2 c3; obtain ⟨c0, c1, c2, c3⟩ := HB4.out.cells (b := gb) (a := y) (by simp); obtain ⟨d0, d1, d2, d3⟩ := HB4.out.cells (b := g1) (a := p) (by simp)))
            go_roundw
            case rel => exact ⟨j + 1, by omega, by go_num, hid (HB4.out.sub (by simp))⟩
            case measure => simp [intOf]; omega
          · rw [hw, decide_eq_false HNE.out] at HEj
            rw [hw] at HAj
            simp only [hw, decide_true, Bool.not_true] at hne
            simp only [hw] at HB2
            clear hw HW
            unfold setV at HAj HEj hne
            go_wp2_with (first
              | (refine wpList_store_row rfl 26 _ _ rfl wi.heap.size (setL sj).toArray ?_ ?_ 26 #[.int .u64 0, .int .u64 0, .int .u64 0, .int .u64 0] (heap_alloc_new wi _) (set_info _) ?_ (four_one _) ?_; exact rfl; exact rfl; exact rfl; generalize (wi.alloc (.cells #[.int .u64 0, .int .u64 0, .int .u64 0, .int .u64 0] 26)).setRow wi.heap.size (setL sj).toArray = wa at *; clear HSj s0 s1 s2 s3; generalize wi.heap.size = ga at *; obtain ⟨c0, c1, c2, c3⟩ := HB1.out.cells (b := g1) (a := p) (by simp); obtain ⟨d0, d1, d2, d3⟩ := HB1.out.cells (b := ga) (a := sj) (by simp))
              | (go_at_call 20; with_reducible refine (HAj.out _).mono ?_; rintro e wb ⟨rfl, hbb⟩; have HB3 := hid (HB2.out _ (HB1.out.step hbb)); clear hbb HB2 HB1 c0 c1 c2 c3 d0 d1 d2 d3)
              | (refine wpList_store_row rfl 26 _ _ rfl wb.heap.size (setL p).toArray ?_ ?_ 26 #[.int .u64 0, .int .u64 0, .int .u64 0, .int .u64 0] (heap_alloc_new wb _) (set_info _) ?_ (four_one _) ?_; exact rfl; exact rfl; exact rfl; generalize (wb.alloc (.cells #[.int .u64 0, .int .u64 0, .int .u64 0, .int .u64 0] 26)).setRow wb.heap.size (setL p).toArray = wc at *; generalize wb.heap.size = gb at *; obtain ⟨c0, c1, c2, c3⟩ := HB3.out.cells (b := gb) (a := p) (by simp))
              | (go_at_call 21; with_reducible refine (HEj.out _).mono ?_; rintro e wd ⟨rfl, hbd⟩; have HB4 := hid (HB3.out.step hbd); clear hbd HB3 c0 c1 c2 c3; obtain ⟨c0, c1, c2, c3⟩ := HB4.out.cells (b := gb) (a := p) (by simp); obtain ⟨d0, d1, d2, d3⟩ := HB4.out.cells (b := g1) (a := p) (by simp)))
            go_roundw
            case rel => exact ⟨j + 1, by omega, by go_num, hid (HB4.out.sub (by simp))⟩
            case measure => simp [intOf]; omega
        · obtain rfl : j = n := by omega
          go_wp2_with fail
          go_roundw
          case rel => exact ⟨k + 1, by omega, by go_num, by rw [HLS.out], hid (HSj.out.sub (by simp))⟩
          case measure => simp [intOf]; omega
    · obtain rfl : k = m := by omega
      have hall : orL (qs.take k) = ~~~(0#256) := by rw [List.take_of_length_le (by rw [HQL.out]; exact Nat.le_refl _)]; exact HG.out.all
      rw [hall] at HSr
      clear hall
      have HU : Hid (∀ W : World, Calls Tryd.prog 23 #[] W fun e w' => e = .returned (setV (~~~(0#256))) ∧ Below W.heap.size W w') := hid (fun W => all_any W)
      have hne := fun W => run_neSet (~~~(0#256)) (~~~(0#256)) W
      simp only [decide_true, Bool.not_true] at hne
      generalize (~~~(0#256) : BS) = U at *
      unfold setV at HU hne
      have hk4 := HSr.out.cells (b := b) (a := U) (by simp)
      go_wp2_with fail
      go_region_held3 (fun w' => w'.cell? ⟨b, 0, none⟩ = some (.int .u64 ((wd U 0 : Nat) : Int)) ∧ w'.cell? ⟨b, 1, none⟩ = some (.int .u64 ((wd U 1 : Nat) : Int)) ∧ w'.cell? ⟨b, 2, none⟩ = some (.int .u64 ((wd U 2 : Nat) : Int)) ∧ w'.cell? ⟨b, 3, none⟩ = some (.int .u64 ((wd U 3 : Nat) : Int)))
        (first | exact hk4 | assumption)
        (first | (go_at_call 23; with_reducible refine (HU.out _).mono ?_; rintro e w6 ⟨rfl, hb6⟩; have HB' : Hid (Stt w2 w6 [(b, U)]) := (by first | exact hid (HSr.out.step hb6) | exact hid (HSr.out.stepD hb6)); clear hb6 HSr; have HSr := HB'; clear HB'; have hk4 := HSr.out.cells (b := b) (a := U) (by simp)))
      have HT : Hid (TabAt w2) := HT2
      have HBL := hid HSr.out.bel
      have HSn : Hid (Stt w2 w6 []) := hid (HSr.out.sub (by simp))
      clear hk4 HSr hne HU
      go_wp2_with fail
      go_loopw [82] (fun v wr => ∃ i : Nat, i ≤ k ∧ v = .int .i64 i ∧ Hid (Stt w2 wr [])) (fun v _ => k - (intOf v).toNat)
      case atStart => exact ⟨0, by omega, rfl, HSn⟩
      case round =>
        obtain ⟨i, hi, rfl, HSi⟩ := hrel
        clear HSn
        obtain ⟨wi, rfl⟩ : ∃ wi : World, wi = wr := ⟨_, rfl⟩
        by_cases hik : i < k
        · have hiq : i < qs.length := by rw [HQL.out]; exact hik
          have HTL : Hid (∀ j, j < i → ∀ hj : j < qs.length, l.any (tells qs[i] qs[j]) = true) := hid (fun j hj _ => HG.out.tells j i hj hiq)
          obtain ⟨g, o, rfl, hgl, hcell⟩ := (HQ.out.below HSi.out.bel).2 (by omega)
          obtain ⟨s0, s1, s2, s3⟩ := hcell i hiq
          clear hcell hgl
          generalize qs[i] = p at *
          have HB1 := hid (HSi.out.box p #[.int .u64 0, .int .u64 0, .int .u64 0, .int .u64 0])
          have hsl := fun W => run_sliceS_to (some ⟨g, o, none⟩) k c' i (by omega) W
          go_wp2_with (refine wpList_store_row rfl 26 _ _ rfl wi.heap.size (setL p).toArray ?_ ?_ 26 #[.int .u64 0, .int .u64 0, .int .u64 0, .int .u64 0] (heap_alloc_new wi _) (set_info _) ?_ (four_one _) ?_; exact rfl; exact rfl; exact rfl; generalize (wi.alloc (.cells #[.int .u64 0, .int .u64 0, .int .u64 0, .int .u64 0] 26)).setRow wi.heap.size (setL p).toArray = wa at *; clear HSi s0 s1 s2 s3; generalize wi.heap.size = gp at *)
          go_loopw [91] (fun v wr => ∃ j : Nat, j ≤ i ∧ v = .int .i64 j ∧ Hid (Stt w2 wr [(gp, p)])) (fun v _ => i - (intOf v).toNat)
          case atStart => exact ⟨0, by omega, rfl, HB1⟩
          case round =>
            obtain ⟨j, hj, rfl, HSj⟩ := hrel
            clear HB1
            obtain ⟨wj, rfl⟩ : ∃ wj : World, wj = wr := ⟨_, rfl⟩
            by_cases hji : j < i
            · have hjq : j < qs.length := by omega
              have HTJ := hid (HTL.out j hji hjq)
              obtain ⟨g', o', hgg, hgl, hcell⟩ := (HQ.out.below HSj.out.bel).2 (by omega)
              obtain ⟨rfl, rfl⟩ : g = g' ∧ o = o' := by simpa using hgg
              obtain ⟨s0, s1, s2, s3⟩ := hcell j hjq
              clear hcell hgl hgg
              generalize qs[j] = q at *
              have HB2 := hid (HSj.out.box q #[.int .u64 0, .int .u64 0, .int .u64 0, .int .u64 0])
              go_wp2_with (refine wpList_store_row rfl 26 _ _ rfl wj.heap.size (setL q).toArray ?_ ?_ 26 #[.int .u64 0, .int .u64 0, .int .u64 0, .int .u64 0] (heap_alloc_new wj _) (set_info _) ?_ (four_one _) ?_; exact rfl; exact rfl; exact rfl; generalize (wj.alloc (.cells #[.int .u64 0, .int .u64 0, .int .u64 0, .int .u64 0] 26)).setRow wj.heap.size (setL q).toArray = wb at *; clear HSj s0 s1 s2 s3; generalize wj.heap.size = gq at *)
              go_loopw [97, 17] (fun v u wr => ∃ x : Nat, x ≤ n ∧ v = .int .i64 x ∧ u = .bool ((l.take x).any (tells p q)) ∧ Hid (Stt w2 wr [(gq, q), (gp, p)])) (fun v _ _ => n - (intOf v).toNat)
              case atStart => exact ⟨0, by omega, rfl, by simp, HB2⟩
              case round =>
                obtain ⟨x, hx, rfl, rfl, HSx⟩ := hrel
                clear HB2
                obtain ⟨wx, rfl⟩ : ∃ wx : World, wx = wr := ⟨_, rfl⟩
                by_cases hxn : x < n
                · have hxl : x < l.length := by rw [HL.out]; exact hxn
                  have HTX : Hid ((l.take (x + 1)).any (tells p q) = ((l.take x).any (tells p q) || tells p q l[x])) := hid (by rw [List.take_succ_eq_append_getElem hxl, List.any_append]; simp)
                  obtain ⟨gl, ol, rfl, hgl2, hcell⟩ := (HR2.out.below HSx.out.bel).2 (by omega)
                  obtain ⟨s0, s1, s2, s3⟩ := hcell x hxl
                  clear hcell hgl2
                  have HTD := hid (show tells p q l[x] = (decide (p &&& l[x] = 0#256) != decide (q &&& l[x] = 0#256)) from rfl)
                  generalize l[x] = sj at *
                  have HA1 : Hid (∀ W : World, Calls Tryd.prog 20 #[setV p, setV sj] W fun e w' => e = .returned (setV (p &&& sj)) ∧ Below W.heap.size W w') := hid (fun W => and_any p sj W)
                  have HA2 : Hid (∀ W : World, Calls Tryd.prog 20 #[setV q, setV sj] W fun e w' => e = .returned (setV (q &&& sj)) ∧ Below W.heap.size W w') := hid (fun W => and_any q sj W)
                  have HE1 : Hid (∀ W : World, Calls Tryd.prog 21 #[setV (p &&& sj)] W fun e w' => e = .returned (.bool (decide (p &&& sj = 0#256))) ∧ Below W.heap.size W w') := hid (fun W => empty_any (p &&& sj) W)
                  have HE2 : Hid (∀ W : World, Calls Tryd.prog 21 #[setV (q &&& sj)] W fun e w' => e = .returned (.bool (decide (q &&& sj = 0#256))) ∧ Below W.heap.size W w') := hid (fun W => empty_any (q &&& sj) W)
                  rw [HTD.out] at HTX
                  clear HTD
                  generalize decide (p &&& sj = 0#256) = e1 at *
                  generalize decide (q &&& sj = 0#256) = e2 at *
                  generalize p &&& sj = x1 at *
                  generalize q &&& sj = x2 at *
                  unfold setV at HA1 HA2 HE1 HE2
                  have HB3 := hid (HSx.out.box sj #[.int .u64 0, .int .u64 0, .int .u64 0, .int .u64 0])
                  generalize (l.take x).any (tells p q) = ap at *
                  cases ap with
                  | true =>
                    go_wp2_with (refine wpList_store_row rfl 26 _ _ rfl wx.heap.size (setL sj).toArray ?_ ?_ 26 #[.int .u64 0, .int .u64 0, .int .u64 0, .int .u64 0] (heap_alloc_new wx _) (set_info _) ?_ (four_one _) ?_; exact rfl; exact rfl; exact rfl; generalize (wx.alloc (.cells #[.int .u64 0, .int .u64 0, .int .u64 0, .int .u64 0] 26)).setRow wx.heap.size (setL sj).toArray = wc at *; clear HSx s0 s1 s2 s3; generalize wx.heap.size = gs at *; have hk4 := HB3.out.three)
                    clear HTJ HTL HG HSO HA1 HA2 HE1 HE2
                    refine wp_region_held_drew (S := fun _ => True) (by kernel_rfl) trivial (fun _ => ?_)
                    refine wpAnyH_take (i := 0) (oi := { dst := some 101, op := Op.move (Operand.tmp 17), type := 4, pos := "law.go:113", after := #[], guard := none }) (v := .bool true) rfl (by kernel_rfl) (by kernel_rfl) (by kernel_rfl) (fun _ _ _ h => h) (Or.inl ⟨by rfl, ?_⟩) trivial ?_
                    · intro w hSw
                      go_simp
                    try simp only [Act.put, List.setIfInBounds_toArray, List.set_cons_zero, List.set_cons_succ]
                    refine wpAnyH_take (i := 1) (oi := { dst := some 102, op := Op.move (Operand.tmp 101), type := 4, pos := "law.go:113", after := #[{ on := 0, ground := Ground.data }], guard := none }) (v := .bool true) rfl (by kernel_rfl) (by kernel_rfl) (by kernel_rfl) (fun _ _ _ h => h) (Or.inl ⟨by rfl, ?_⟩) trivial ?_
                    · intro w hSw
                      go_simp
                    try simp only [Act.put, List.setIfInBounds_toArray, List.set_cons_zero, List.set_cons_succ]
                    refine wpAnyH_take (i := 2) (oi := { dst := some 103, op := Op.load 26 (Operand.tmp 14), type := 26, pos := "law.go:113", after := #[{ on := 1, ground := Ground.guard }], guard := some (1, false) }) (v := undef) rfl (by kernel_rfl) (by kernel_rfl) (by kernel_rfl) (fun _ _ _ h => h) (Or.inr ⟨by rfl, rfl⟩) trivial ?_
                    try simp only [Act.put, List.setIfInBounds_toArray, List.set_cons_zero, List.set_cons_succ]
                    refine wpAnyH_take (i := 3) (oi := { dst := some 104, op := Op.load 26 (Operand.tmp 19), type := 26, pos := "law.go:113", after := #[{ on := 1, ground := Ground.guard }], guard := some (1, false) }) (v := undef) rfl (by kernel_rfl) (by kernel_rfl) (by kernel_rfl) (fun _ _ _ h => h) (Or.inr ⟨by rfl, rfl⟩) trivial ?_
                    try simp only [Act.put, List.setIfInBounds_toArray, List.set_cons_zero, List.set_cons_succ]
                    refine wpAnyH_take (i := 4) (oi := { dst := some 105, op := Op.call { callee := Callee.value (Operand.func 20), args := #[Operand.tmp 103, Operand.tmp 104], argTypes := #[26, 26] }, type := 26, pos := "law.go:113", after := #[{ on := 2, ground := Ground.data }, { on := 3, ground := Ground.data }, { on := 1, ground := Ground.chain }, { on := 1, ground := Ground.guard }], guard := some (1, false) }) (v := undef) rfl (by kernel_rfl) (by kernel_rfl) (by kernel_rfl) (fun _ _ _ h => h) (Or.inr ⟨by rfl, rfl⟩) trivial ?_
                    try simp only [Act.put, List.setIfInBounds_toArray, List.set_cons_zero, List.set_cons_succ]
                    refine wpAnyH_take (i := 5) (oi := { dst := some 106, op := Op.call { callee := Callee.value (Operand.func 21), args := #[Operand.tmp 105], argTypes := #[26] }, type := 4, pos := "law.go:113", after := #[{ on := 4, ground := Ground.data }, { on := 4, ground := Ground.chain }, { on := 1, ground := Ground.guard }], guard := some (1, false) }) (v := undef) rfl (by kernel_rfl) (by kernel_rfl) (by kernel_rfl) (fun _ _ _ h => h) (Or.inr ⟨by rfl, rfl⟩) trivial ?_
                    try simp only [Act.put, List.setIfInBounds_toArray, List.set_cons_zero, List.set_cons_succ]
                    refine wpAnyH_take (i := 6) (oi := { dst := some 107, op := Op.load 26 (Operand.tmp 16), type := 26, pos := "law.go:113", after := #[{ on := 1, ground := Ground.guard }], guard := some (1, false) }) (v := undef) rfl (by kernel_rfl) (by kernel_rfl) (by kernel_rfl) (fun _ _ _ h => h) (Or.inr ⟨by rfl, rfl⟩) trivial ?_
                    try simp only [Act.put, List.setIfInBounds_toArray, List.set_cons_zero, List.set_cons_succ]
                    refine wpAnyH_take (i := 7) (oi := { dst := some 108, op := Op.load 26 (Operand.tmp 19), type := 26, pos := "law.go:113", after := #[{ on := 1, ground := Ground.guard }], guard := some (1, false) }) (v := undef) rfl (by kernel_rfl) (by kernel_rfl) (by kernel_rfl) (fun _ _ _ h => h) (Or.inr ⟨by rfl, rfl⟩) trivial ?_
                    try simp only [Act.put, List.setIfInBounds_toArray, List.set_cons_zero, List.set_cons_succ]
                    refine wpAnyH_take (i := 8) (oi := { dst := some 109, op := Op.call { callee := Callee.value (Operand.func 20), args := #[Operand.tmp 107, Operand.tmp 108], argTypes := #[26, 26] }, type := 26, pos := "law.go:113", after := #[{ on := 6, ground := Ground.data }, { on := 7, ground := Ground.data }, { on := 5, ground := Ground.chain }, { on := 1, ground := Ground.guard }], guard := some (1, false) }) (v := undef) rfl (by kernel_rfl) (by kernel_rfl) (by kernel_rfl) (fun _ _ _ h => h) (Or.inr ⟨by rfl, rfl⟩) trivial ?_
                    try simp only [Act.put, List.setIfInBounds_toArray, List.set_cons_zero, List.set_cons_succ]
                    refine wpAnyH_take (i := 9) (oi := { dst := some 110, op := Op.call { callee := Callee.value (Operand.func 21), args := #[Operand.tmp 109], argTypes := #[26] }, type := 4, pos := "law.go:113", after := #[{ on := 8, ground := Ground.data }, { on := 8, ground := Ground.chain }, { on := 1, ground := Ground.guard }], guard := some (1, false) }) (v := undef) rfl (by kernel_rfl) (by kernel_rfl) (by kernel_rfl) (fun _ _ _ h => h) (Or.inr ⟨by rfl, rfl⟩) trivial ?_
                    try simp only [Act.put, List.setIfInBounds_toArray, List.set_cons_zero, List.set_cons_succ]
                    refine wpAnyH_take (i := 10) (oi := { dst := some 111, op := Op.binOp BinOp.neq 4 (Operand.tmp 106) (Operand.tmp 110) 4, type := 4, pos := "law.go:113", after := #[{ on := 5, ground := Ground.data }, { on := 9, ground := Ground.data }, { on := 1, ground := Ground.guard }], guard := some (1, false) }) (v := undef) rfl (by kernel_rfl) (by kernel_rfl) (by kernel_rfl) (fun _ _ _ h => h) (Or.inr ⟨by rfl, rfl⟩) trivial ?_
                    try simp only [Act.put, List.setIfInBounds_toArray, List.set_cons_zero, List.set_cons_succ]
                    refine wpAnyH_take (i := 11) (oi := { dst := some 112, op := Op.pick (Operand.tmp 102) (Operand.const (Value.bool true)) (Operand.tmp 111), type := 4, pos := "law.go:113", after := #[{ on := 1, ground := Ground.data }, { on := 10, ground := Ground.data }], guard := none }) (v := .bool true) rfl (by kernel_rfl) (by kernel_rfl) (by kernel_rfl) (fun _ _ _ h => h) (Or.inl ⟨by rfl, ?_⟩) trivial ?_
                    · intro w hSw
                      go_simp
                    try simp only [Act.put, List.setIfInBounds_toArray, List.set_cons_zero, List.set_cons_succ]
                    refine wpAnyH_take (i := 12) (oi := { dst := some 17, op := Op.assign (Operand.tmp 112), type := 4, pos := "law.go:113", after := #[{ on := 11, ground := Ground.data }, { on := 9, ground := Ground.chain }, { on := 0, ground := Ground.phase }, { on := 1, ground := Ground.phase }, { on := 2, ground := Ground.phase }, { on := 3, ground := Ground.phase }, { on := 4, ground := Ground.phase }, { on := 5, ground := Ground.phase }, { on := 6, ground := Ground.phase }, { on := 7, ground := Ground.phase }, { on := 8, ground := Ground.phase }, { on := 9, ground := Ground.phase }, { on := 10, ground := Ground.phase }, { on := 11, ground := Ground.phase }], guard := none }) (v := .bool true) rfl (by kernel_rfl) (by kernel_rfl) (by kernel_rfl) (fun _ _ _ h => h) (Or.inl ⟨by rfl, ?_⟩) trivial ?_
                    · intro w hSw
                      go_simp
                    try simp only [Act.put, List.setIfInBounds_toArray, List.set_cons_zero, List.set_cons_succ]
                    refine wpAnyH_done (by kernel_rfl) ?_ _
                    go_wp2_with fail
                    go_roundw
                    case rel => exact ⟨x + 1, by omega, by go_num, by rw [HTX.out]; rfl, hid (HB3.out.drewS.sub (by simp))⟩
                    case measure => simp [intOf]; omega
                  | false =>
                    go_wp2_with (refine wpList_store_row rfl 26 _ _ rfl wx.heap.size (setL sj).toArray ?_ ?_ 26 #[.int .u64 0, .int .u64 0, .int .u64 0, .int .u64 0] (heap_alloc_new wx _) (set_info _) ?_ (four_one _) ?_; exact rfl; exact rfl; exact rfl; generalize (wx.alloc (.cells #[.int .u64 0, .int .u64 0, .int .u64 0, .int .u64 0] 26)).setRow wx.heap.size (setL sj).toArray = wc at *; clear HSx s0 s1 s2 s3; generalize wx.heap.size = gs at *; have hk4 := HB3.out.three)
                    go_region_held3 (fun w' => w'.cell? ⟨gp, 0, none⟩ = some (.int .u64 ((wd p 0 : Nat) : Int)) ∧ w'.cell? ⟨gp, 1, none⟩ = some (.int .u64 ((wd p 1 : Nat) : Int)) ∧ w'.cell? ⟨gp, 2, none⟩ = some (.int .u64 ((wd p 2 : Nat) : Int)) ∧ w'.cell? ⟨gp, 3, none⟩ = some (.int .u64 ((wd p 3 : Nat) : Int)) ∧ w'.cell? ⟨gq, 0, none⟩ = some (.int .u64 ((wd q 0 : Nat) : Int)) ∧ w'.cell? ⟨gq, 1, none⟩ = some (.int .u64 ((wd q 1 : Nat) : Int)) ∧ w'.cell? ⟨gq, 2, none⟩ = some (.int .u64 ((wd q 2 : Nat) : Int)) ∧ w'.cell? ⟨gq, 3, none⟩ = some (.int .u64 ((wd q 3 : Nat) : Int)) ∧ w'.cell? ⟨gs, 0, none⟩ = some (.int .u64 ((wd sj 0 : Nat) : Int)) ∧ w'.cell? ⟨gs, 1, none⟩ = some (.int .u64 ((wd sj 1 : Nat) : Int)) ∧ w'.cell? ⟨gs, 2, none⟩ = some (.int .u64 ((wd sj 2 : Nat) : Int)) ∧ w'.cell? ⟨gs, 3, none⟩ = some (.int .u64 ((wd sj 3 : Nat) : Int)))
                  (first | exact hk4 | assumption)
                  (first
                  | (go_at_call 20; with_reducible refine (HA1.out _).mono ?_; rintro e w6 ⟨rfl, hb6⟩; have HB' : Hid (Stt w2 w6 [(gs, sj), (gq, q), (gp, p)]) := (by first | exact hid (HB3.out.step hb6) | exact hid (HB3.out.stepD hb6)); clear hb6 HB3; have HB3 := HB'; clear HB'; have hk4 := HB3.out.three)
                  | (go_at_call 20; with_reducible refine (HA2.out _).mono ?_; rintro e w6 ⟨rfl, hb6⟩; have HB' : Hid (Stt w2 w6 [(gs, sj), (gq, q), (gp, p)]) := (by first | exact hid (HB3.out.step hb6) | exact hid (HB3.out.stepD hb6)); clear hb6 HB3; have HB3 := HB'; clear HB'; have hk4 := HB3.out.three)
                  | (go_at_call 21; with_reducible refine (HE1.out _).mono ?_; rintro e w6 ⟨rfl, hb6⟩; have HB' : Hid (Stt w2 w6 [(gs, sj), (gq, q), (gp, p)]) := (by first | exact hid (HB3.out.step hb6) | exact hid (HB3.out.stepD hb6)); clear hb6 HB3; have HB3 := HB'; clear HB'; have hk4 := HB3.out.three)
                  | (go_at_call 21; with_reducible refine (HE2.out _).mono ?_; rintro e w6 ⟨rfl, hb6⟩; have HB' : Hid (Stt w2 w6 [(gs, sj), (gq, q), (gp, p)]) := (by first | exact hid (HB3.out.step hb6) | exact hid (HB3.out.stepD hb6)); clear hb6 HB3; have HB3 := HB'; clear HB'; have hk4 := HB3.out.three))
                    go_wp2_with fail
                    go_roundw
                    case rel => exact ⟨x + 1, by omega, by go_num, by rw [HTX.out]; cases e1 <;> cases e2 <;> rfl, hid (HB3.out.sub (by simp))⟩
                    case measure => simp [intOf]; omega
                · obtain rfl : x = n := by omega
                  have HTE : Hid ((l.take x).any (tells p q) = true) := hid (by rw [List.take_of_length_le (by rw [HL.out]; exact Nat.le_refl _)]; exact HTJ.out)
                  rw [HTE.out]
                  go_wp2_with fail
                  go_roundw
                  case rel => exact ⟨j + 1, by omega, by go_num, hid (HSx.out.sub (by simp))⟩
                  case measure => simp [intOf]; omega
            · obtain rfl : j = i := by omega
              go_wp2_with fail
              go_roundw
              case rel => exact ⟨j + 1, by omega, by go_num, hid (HSj.out.sub (by simp))⟩
              case measure => simp [intOf]; omega
        · obtain rfl : i = k := by omega
          have HF := hid (HB2.out.trans (HSi.out.bel.mono HB2.out.size))
          go_wp2_with fail
          go_ret
          exact ⟨rfl, HF.out⟩

theorem splits_long (w : World) (hT : TabAt w) (A : Option Addr) (n c : Nat) (hn : 20 < n) (hn2 : n ≤ 9223372036854775807) : Calls Tryd.prog 4 #[.slice A n c] w fun e w' => e = .returned (.bool true) ∧ Below w.heap.size w w' := by
  have HS : Hid (∀ W : World, TabAt W → Calls Tryd.prog 12 #[] W fun e w' => e = .returned (.bool true) ∧ Below W.heap.size W w') := hid (fun W hW => sets_any hW)
  have HT := hid hT
  clear hT
  go_enter Tryd.func4, Tryd.ntmps4
  go_wp2_with fail
  refine (HS.out _ HT.out).mono ?_
  rintro e w1 ⟨rfl, hb1⟩
  have HB := hid hb1
  clear hb1
  go_wp2_with fail
  go_ret
  exact ⟨rfl, HB.out⟩
/-- The law. -/
theorem splits_walk (A : Option Addr) (n c : Nat) (l : List BS) (hn2 : n ≤ 9223372036854775807) {w : World} (hR : RdS w A n l) (hT : TabAt w) : Calls Tryd.prog 4 #[.slice A n c] w fun e w' => e = .returned (.bool true) ∧ Below w.heap.size w w' := by
  by_cases hn : n ≤ 20
  · exact splits_any w hT A n c l hn hR
  · exact splits_long w hT A n c (by omega) hn2
end Go.Proofs.YtmfgbhlfbpmmjaaDoor
