/- class: Split. -/
import Derived.Test.YtmfgbhlfbpmmjaaDoorSplM
import Derived.Test.YtmfgbhlfbpmmjaaDoorSpl8
import Derived.Test.YtmfgbhlfbpmmjaaDoorSort
namespace Go.Proofs.YtmfgbhlfbpmmjaaDoor
open Go.RowKit

theorem SetAt.range {w : World} {b o : Nat} {a : BS} (h : SetAt w b o a) : w.rangeAt b o (setL a) := by
  intro j v hj
  have hlt : j < 4 := (List.getElem?_eq_some_iff.1 hj).1
  have : j = 0 ∨ j = 1 ∨ j = 2 ∨ j = 3 := by omega
  obtain ⟨h0, h1, h2, h3⟩ := h
  rcases this with rfl | rfl | rfl | rfl
  · injection hj with hj; subst hj; exact h0
  · injection hj with hj; subst hj; exact h1
  · injection hj with hj; subst hj; exact h2
  · injection hj with hj; subst hj; exact h3
/-- The pieces as a row that the call owns. -/
def Pcs (w : World) (base g n c : Nat) (ps : List BS) : Prop := ps.length = n ∧ w.ownsRow base 26 4 (.slice (some ⟨g, 0, none⟩) n c) n (flatS ps)
theorem Pcs.lt {w : World} {base g n c : Nat} {ps : List BS} (h : Pcs w base g n c ps) : base ≤ g ∧ g < w.heap.size := h.2.lt g rfl
theorem Pcs.below {w w' : World} {B base g n c : Nat} {ps : List BS} (h : Pcs w base g n c ps) (hb : Below B w w') (hB : w.heap.size ≤ B) : Pcs w' base g n c ps :=
  ⟨h.1, h.2.kept (row := none) ⟨hb.os, hb.tape, hb.output, hb.size, fun k hk _ => hb.block k (by omega)⟩ (by simp [Value.ownBlock])⟩
def OldAt (w : World) (g : Nat) (ps : List BS) (j : Nat) : Prop := g < w.heap.size ∧ ∀ i (h : i < ps.length), j ≤ i → SetAt w g (i * 4) ps[i]
theorem OldAt.below {w w' : World} {B g j : Nat} {ps : List BS} (h : OldAt w g ps j) (hb : Below B w w') (hB : w.heap.size ≤ B) : OldAt w' g ps j :=
  ⟨Nat.lt_of_lt_of_le h.1 hb.size, fun i hi hj => (h.2 i hi hj).block (hb.block g (by have := h.1; omega))⟩
theorem Pcs.old {w : World} {base g n c : Nat} {ps : List BS} (h : Pcs w base g n c ps) : OldAt w g ps 0 := by
  refine ⟨h.lt.2, fun i hi _ => ?_⟩
  obtain ⟨b, o, e, _, hc⟩ := (RdS.of_own h.2).2 (by have := h.1; omega)
  injection e with e
  injection e with e1 e2 e3
  have := hc i hi
  rw [← e1, ← e2, Nat.zero_add] at this
  exact this

set_option maxRecDepth 20000 in
set_option maxHeartbeats 4000000 in
theorem split_walk {w : World} {A : Option Addr} {n cap : Nat} {l : List BS} (hT : TabAt w) (hR : RdS w A n l) (hn : n ≤ 9223372036854775807) (hsz : ∀ k, k ≤ n → (pieceS (l.take k)).length ≤ 1048576) :
    Calls Tryd.prog 18 #[.slice A n cap] w fun e w' => ∃ A' c' qs, e = .returned (.slice A' qs.length c') ∧ qs.Perm (pieceS l) ∧ qs.Pairwise (fun a b => firstN a ≤ firstN b) ∧ RdS w' A' qs.length qs ∧ Below w.heap.size w w' ∧ qs.length ≤ c' := by
  obtain ⟨U, hU⟩ : ∃ U : BS, U = ~~~(0#256) := ⟨_, rfl⟩
  have HN := hid (fun W => all_any W)
  rw [← hU] at HN
  have HU := hid hU
  have HSZ := hid hsz
  have HL := hid hR.1
  clear hU hsz
  have HE := hid (fun a W => empty_any a W)
  have HR := hid hR
  have HT0 := hid hT
  clear hR hT
  go_enter Tryd.func18, Tryd.ntmps18
  go_wp2_with fail
  refine (HN.out _).mono ?_
  rintro e w1 ⟨rfl, hb1⟩
  unfold setV
  go_wp2_with fail
  have hB0 := hb1.alloc hb1.size (.cells (setL U).toArray 26)
  have HP0 : Pcs (w1.alloc (.cells (setL U).toArray 26)) w.heap.size w1.heap.size 1 1 (pieceS (l.take 0)) := by
    refine ⟨rfl, ?_⟩
    have := World.ownsRow_lit (base := w.heap.size) (e := 26) (size := 4) w1 (setL U).toArray 1 hb1.size (by decide) rfl
    have e : flatS (pieceS (l.take 0)) = (setL U).toArray.toList := by rw [HU.out]; simp [pieceS, flatS]
    rw [e]
    exact this
  change Code.wp _ _ _ _ (w1.alloc (.cells (setL U).toArray 26))
  generalize w1.alloc (.cells (setL U).toArray 26) = w2 at *
  go_loopw [3, 14] (fun v i wr => ∃ k : Nat, k ≤ n ∧ i = .int .i64 k ∧ ∃ c m g, v = .slice (some ⟨g, 0, none⟩) m c ∧ Hid (Pcs wr w.heap.size g m c (pieceS (l.take k))) ∧ Below w.heap.size w wr) (fun _ i _ => n - (intOf i).toNat)
  case atStart => exact ⟨0, Nat.zero_le _, rfl, 1, 1, _, rfl, hid HP0, hB0⟩
  case round =>
    obtain ⟨k, hk, rfl, c, m, g, rfl, HP, hbk⟩ := hrel
    by_cases hlt : k < n
    · have hl : k < l.length := by rw [HL.out]; exact hlt
      obtain ⟨b, o, rfl, hbl, hcell⟩ := HR.out.2 (by omega)
      have hrange := ((hcell k hl).block (hbk.block b hbl)).range
      have HT := hid (pieceS_take l k hl)
      have hm : m ≤ 1048576 := by have := HSZ.out k hk; have h2 := HP.out.1; omega
      clear hcell
      generalize l[k] = s at *
      generalize pieceS (l.take k) = ps at *
      go_wp2_with (first
        | refine wpList_load_mid rfl 26 _ rfl b (o + k * 4) rfl (setL s) (.array 4 24) hrange (by kernel_rfl) rfl (set_info _) ?_
        | refine wpList_store_row rfl 26 _ _ rfl wr.heap.size (setL s).toArray rfl rfl 26 #[.int .u64 0, .int .u64 0, .int .u64 0, .int .u64 0] (heap_alloc_new wr _) (set_info _) rfl (four_one _) ?_)
      have hb3 : Below wr.heap.size wr ((wr.alloc (.cells #[.int .u64 0, .int .u64 0, .int .u64 0, .int .u64 0] 26)).setRow wr.heap.size (setL s).toArray) := below_row ((Below.refl _ _).alloc (Nat.le_refl _) _) (Nat.le_refl _) _
      have h5 : Blk ((wr.alloc (.cells #[.int .u64 0, .int .u64 0, .int .u64 0, .int .u64 0] 26)).setRow wr.heap.size (setL s).toArray) wr.heap.size 26 (setL s) := setRow_heap _ _ _ _ _ (0, 0) (heap_alloc_new wr _)
      generalize (wr.alloc (.cells #[.int .u64 0, .int .u64 0, .int .u64 0, .int .u64 0] 26)).setRow wr.heap.size (setL s).toArray = w3 at *
      have hb5 : wr.heap.size < w3.heap.size := h5.lt
      have HP3 := hid (HP.out.below hb3 (Nat.le_refl _))
      have hg := HP.out.lt
      have hbk3 := hbk.trans (hb3.mono hbk.size)
      have HO3 := hid HP3.out.old
      have H5 := hid h5
      have hwr := hbk.size
      generalize wr.heap.size = b5 at *
      clear hb3 h5 HP hrange hbk
      have hgb : g ≠ b5 := by omega
      have hpl : ps.length = m := HP3.out.1
      go_loopw [3, 20] (fun v i wr => ∃ j : Nat, j ≤ m ∧ i = .int .i64 j ∧ ∃ c' m' g', v = .slice (some ⟨g', 0, none⟩) m' c' ∧ Hid (Pcs wr w.heap.size g' m' c' (curS s ps j)) ∧ Hid (OldAt wr g ps j) ∧ Hid (Blk wr b5 26 (setL s)) ∧ Hid (g' ≠ b5) ∧ Below w.heap.size w wr) (fun _ i _ => m - (intOf i).toNat)
      case atStart => exact ⟨0, Nat.zero_le _, rfl, c, m, g, rfl, by rw [curS_zero]; exact HP3, HO3, H5, hid hgb, hbk3⟩
      case round =>
        clear HP3 HO3 H5 hgb hbk3
        obtain ⟨j, hj, rfl, c', m', g', rfl, HP, HO, H5, HG, hbj⟩ := hrel
        have hml := HP.out.1
        by_cases hjm : j < m
        · have hjp : j < ps.length := by omega
          have hrange := (HO.out.2 j hjp (Nat.le_refl _)).range
          have HC0 := hid (curS_keep s ps j hjp)
          have HC1 := hid (curS_cut s ps j hjp)
          have HJ := hid (curS_get s ps j j (Nat.le_refl _) hjp)
          generalize hp : ps[j] = p at *
          go_wp2_with (first
            | refine wpList_load_mid rfl 26 _ rfl g (j * 4) rfl (setL p) (.array 4 24) hrange (by kernel_rfl) rfl (set_info _) ?_
            | refine wpList_store_row rfl 26 _ _ rfl wr.heap.size (setL p).toArray rfl rfl 26 #[.int .u64 0, .int .u64 0, .int .u64 0, .int .u64 0] (heap_alloc_new wr _) (set_info _) rfl (four_one _) ?_)
          have hb3 : Below wr.heap.size wr ((wr.alloc (.cells #[.int .u64 0, .int .u64 0, .int .u64 0, .int .u64 0] 26)).setRow wr.heap.size (setL p).toArray) := below_row ((Below.refl _ _).alloc (Nat.le_refl _) _) (Nat.le_refl _) _
          have h7 : Blk ((wr.alloc (.cells #[.int .u64 0, .int .u64 0, .int .u64 0, .int .u64 0] 26)).setRow wr.heap.size (setL p).toArray) wr.heap.size 26 (setL p) := setRow_heap _ _ _ _ _ (0, 0) (heap_alloc_new wr _)
          generalize (wr.alloc (.cells #[.int .u64 0, .int .u64 0, .int .u64 0, .int .u64 0] 26)).setRow wr.heap.size (setL p).toArray = w4 at *
          have hb7 : wr.heap.size < w4.heap.size := h7.lt
          have HP4 := hid (HP.out.below hb3 (Nat.le_refl _))
          have hg' := HP.out.lt
          have hbj4 := hbj.trans (hb3.mono hbj.size)
          have HO4 := hid (HO.out.below hb3 (Nat.le_refl _))
          have hb5' := H5.out.lt
          have H54 := hid (H5.out.keep hb3)
          have hwr2 := hbj.size
          have hgg := HO.out.1
          have hg'4 := HP4.out.lt
          generalize wr.heap.size = b7 at *
          clear hb3 HP HO H5 hrange hbj
          refine split_region H54.out h7 ?_
          intro A B v25 v26 v27 v28 v29 v30 v31 w5 hb5w hAB hA hB hkA hkB
          have hbA := hkA.lt
          have hbB := hkB.lt
          have HP5 := hid (HP4.out.below hb5w (Nat.le_refl _))
          have HO5 := hid (HO4.out.below hb5w (Nat.le_refl _))
          have H55 := hid (H54.out.keep hb5w)
          have HKA := hid hkA
          have HKB := hid hkB
          have hbj5 := hbj4.trans (hb5w.mono hbj4.size)
          have hs45 := hb5w.size
          clear hb5w HP4 HO4 H54 h7 hkA hkB hbj4
          unfold spFrame
          have hrA : w5.rangeAt A 0 (setL (p &&& s)) := fun j v hj => by rw [Nat.zero_add, cell_of_row w5 A j _ _ _ HKA.out]; simpa using hj
          have hrB : w5.rangeAt B 0 (setL (p &&& ~~~s)) := fun j v hj => by rw [Nat.zero_add, cell_of_row w5 B j _ _ _ HKB.out]; simpa using hj
          go_wp2_with (first
            | refine wpList_load_mid rfl 26 _ rfl A 0 rfl (setL (p &&& s)) (.array 4 24) hrA (by kernel_rfl) rfl (set_info _) ?_)
          refine (HE.out (p &&& s) w5).mono ?_
          rintro e w6 ⟨he, hb6⟩
          have HP6 := hid (HP5.out.below hb6 (Nat.le_refl _))
          have HO6 := hid (HO5.out.below hb6 (Nat.le_refl _))
          have H56 := hid (H55.out.keep hb6)
          have HKA6 := hid (HKA.out.keep hb6)
          have HKB6 := hid (HKB.out.keep hb6)
          have hbj6 := hbj5.trans (hb6.mono hbj5.size)
          have hs56 := hb6.size
          clear hb6 HP5 HO5 H55 HKA HKB hbj5 hrA hrB
          have hrB : w6.rangeAt B 0 (setL (p &&& ~~~s)) := fun j v hj => by rw [Nat.zero_add, cell_of_row w6 B j _ _ _ HKB6.out]; simpa using hj
          by_cases h1 : p &&& s = 0#256
          · rw [decide_eq_true h1] at he
            subst he
            have hc0 : cuts s p = false := by simp [cuts, h1]
            go_wp2_with fail
            go_roundw
            case rel => exact ⟨j + 1, by omega, by go_num, c', m', g', rfl, by rw [HC0.out hc0]; exact HP6, hid ⟨HO6.out.1, fun i hi hji => HO6.out.2 i hi (by omega)⟩, H56, HG, hbj6⟩
            case measure => simp [intOf]; omega
          · rw [decide_eq_false h1] at he
            subst he
            obtain ⟨hd0, hd1, hd2, hd3⟩ := HKB6.out.cells4
            go_wp2_with fail
            refine (HE.out (p &&& ~~~s) w6).mono ?_
            rintro e w7 ⟨he, hb7'⟩
            have HP7 := hid (HP6.out.below hb7' (Nat.le_refl _))
            have HO7 := hid (HO6.out.below hb7' (Nat.le_refl _))
            have H57 := hid (H56.out.keep hb7')
            have HKA7 := hid (HKA6.out.keep hb7')
            have HKB7 := hid (HKB6.out.keep hb7')
            have hbj7 := hbj6.trans (hb7'.mono hbj6.size)
            have hs67 := hb7'.size
            clear hb7' HP6 HO6 H56 HKA6 HKB6 hbj6 hrB hd0 hd1 hd2 hd3
            by_cases h2 : p &&& ~~~s = 0#256
            · rw [decide_eq_true h2] at he
              subst he
              have hc0 : cuts s p = false := by simp [cuts, h2]
              go_wp2_with fail
              go_roundw
              case rel => exact ⟨j + 1, by omega, by go_num, c', m', g', rfl, by rw [HC0.out hc0]; exact HP7, hid ⟨HO7.out.1, fun i hi hji => HO7.out.2 i hi (by omega)⟩, H57, HG, hbj7⟩
              case measure => simp [intOf]; omega
            · rw [decide_eq_false h2] at he
              subst he
              have HC := hid (HC1.out ((cuts_iff s p).2 ⟨h1, h2⟩))
              clear HC0 HC1
              have hjm' : j < m' := by have := curS_len s ps j; omega
              have hjl : j < (curS s ps j).length := by omega
              have hth : w7.there g' (j * 4) (setL (p &&& s)).toArray.size := own_there HP7.out.2 j hjl
              have hrA : w7.rangeAt A 0 (setL (p &&& s)) := fun j v hj => by rw [Nat.zero_add, cell_of_row w7 A j _ _ _ HKA7.out]; simpa using hj
              obtain ⟨hO8, hG8⟩ := own_set HP7.out.2 j (p &&& s) hjl
              have HO8 := hid hO8
              have h58 := (hG8.block b5 H57.out.lt (by have := HG.out; simpa using this.symm)).trans H57.out
              have hB8 := (hG8.block B HKB7.out.lt (by simp; omega)).trans HKB7.out
              have hbj8 := below_own hbj7 hG8 hg'.1 hbj7.size
              have hK8 : ∀ i (h : i < ps.length), j + 1 ≤ i → SetAt (w7.setCells g' (j * 4) (setL (p &&& s))) g (i * 4) ps[i] := by
                intro i hi hji
                by_cases hgq : g = g'
                · subst hgq
                  obtain ⟨_, hrd⟩ := RdS.of_own hO8
                  obtain ⟨b', o', e, _, hc⟩ := hrd (by omega)
                  injection e with e
                  injection e with e1 e2 e3
                  have := hc i (by rw [List.length_set]; have := curS_len s ps j; omega)
                  rw [← e1, ← e2, Nat.zero_add, List.getElem_set_ne (by omega)] at this
                  have h3 := curS_get s ps j i (by omega) hi
                  rw [(List.getElem?_eq_some_iff.1 h3).2] at this
                  exact this
                · exact (HO7.out.2 i hi (by omega)).block (hG8.block g HO7.out.1 (by simpa using hgq))
              have HK8 := hid hK8
              have hs78 := hG8.size
              have H58 : Hid (Blk (w7.setCells g' (j * 4) (setL (p &&& s))) b5 26 (setL s)) := hid h58
              have HB8 : Hid (Blk (w7.setCells g' (j * 4) (setL (p &&& s))) B 26 (setL (p &&& ~~~s))) := hid hB8
              clear hO8 hG8 h58 hB8 hK8
              obtain ⟨hd0, hd1, hd2, hd3⟩ := HB8.out.cells4
              have hm'2 : m' ≤ 2097152 := by have := curS_le s ps j; omega
              have hsz8 := hbj8.size
              go_wp2_with (first
                | refine wpList_load_mid rfl 26 _ rfl A 0 rfl (setL (p &&& s)) (.array 4 24) hrA (by kernel_rfl) rfl (set_info _) ?_
                | (refine wpList_store_mid rfl 26 _ _ rfl g' (j * 4) (setL (p &&& s)).toArray ?_ ?_ hth ?_ ?_ ?_; exact rfl; exact rfl; exact set_info _; exact four_one _; change wpList _ _ _ _ _ (w7.setCells g' (j * 4) (setL (p &&& s))); generalize w7.setCells g' (j * 4) (setL (p &&& s)) = w8 at *)
                | (at_builtin
                   go_loud (refine wpList_appS rfl (.tmp 42) (.tmp 44) rfl w.heap.size g' m' c' ((curS s ps j).set j (p &&& s)) ?_ (HO8.out.alloc _) w8.heap.size 1 (p &&& ~~~s) ?_ (Blk.fresh w8 26 (setL (p &&& ~~~s))) (by omega) (by rw [World.size_alloc]; omega) ?_)
                   exact rfl
                   exact rfl
                   intro g8 c8 w9 HO9 hg9 hgg9 HK9
                   have HB9 := hid (hg9.block)
                   have hs89 : w8.heap.size + 1 ≤ w9.heap.size := by have := hg9.size; rw [World.size_alloc] at this; exact this
                   have hbj9 := below_own (hbj8.alloc hbj8.size _) hg9 hg'.1 (by rw [World.size_alloc]; omega)))
              have HP9 : Hid (Pcs w9 w.heap.size g8 (m' + 1) c8 (curS s ps (j + 1))) := hid ⟨by rw [HC.out, List.length_append, List.length_set]; simp; omega, by rw [HC.out]; exact HO9.out⟩
              have HO9 : Hid (OldAt w9 g ps (j + 1)) := hid ⟨by omega, fun i hi hji => by
                refine HK9.out g i ps[i] (by have := curS_len s ps j; omega) (by simp; omega) (fun _ => ?_) ((HK8.out i hi hji).block (heap_alloc_old w8 _ (by omega)))
                rw [List.getElem?_set_ne (by omega)]
                exact curS_get s ps j i (by omega) hi⟩
              have H59 : Hid (Blk w9 b5 26 (setL s)) := hid ((HB9.out b5 (by simp; omega) (by have := HG.out; simpa using this.symm)).trans (H58.out.alloc _))
              have HG9 : Hid (g8 ≠ b5) := hid (by
                rcases hgg9 with rfl | rfl
                · exact HG.out
                · simp; omega)
              clear HB9 HK9 HO8 HK8 HB8 H58 hd0 hd1 hd2 hd3 hrA hth hgg9
              go_wp2_with fail
              go_roundw
              case rel => exact ⟨j + 1, by omega, by go_num, c8, m' + 1, g8, rfl, HP9, HO9, H59, HG9, hbj9⟩
              case measure => simp [intOf]; omega
        · have hjm' : j = m := by omega
          rw [hjm', ← hpl, curS_all, ← HT.out] at HP
          clear HO H5 HG
          go_wp2_with fail
          go_roundw
          case rel => exact ⟨k + 1, by omega, by go_num, c', m', g', rfl, HP, hbj⟩
          case measure => simp [intOf]; omega
    · obtain rfl : k = n := by omega
      have HP2 : Hid (Pcs wr w.heap.size g m c (pieceS l)) := by
        have := HP
        rw [List.take_of_length_le (by rw [HL.out]; exact Nat.le_refl _)] at this
        exact this
      have HMC : Hid (m ≤ c) := hid (by
        rcases HP2.out.2.2 with ⟨h1, _⟩ | ⟨g', cap', cur, hv, _, _, hnc, _⟩
        · cases h1
        · simp only [Value.slice.injEq] at hv
          omega)
      have hm : m ≤ 1048576 := by have := HSZ.out k (Nat.le_refl _); have h2 := HP.out.1; omega
      go_wp2_with fail
      refine (sort_any (HT0.out.keep hbk) HP2.out.1 HP2.out.2 HT0.out.lt (by omega)).mono ?_
      rintro e w' ⟨rfl, qs, hq, hperm, hsort, hrd, hb⟩
      have hbw := hbk.trans hb
      clear hbk hb
      go_wp2_with fail
      go_ret
      subst hq
      exact ⟨_, _, qs, rfl, hperm, hsort, hrd, hbw, HMC.out⟩
end Go.Proofs.YtmfgbhlfbpmmjaaDoor
