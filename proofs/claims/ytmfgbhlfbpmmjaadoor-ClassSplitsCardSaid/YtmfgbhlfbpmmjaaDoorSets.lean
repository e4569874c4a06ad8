/- class's laws: the helper. -/
import Derived.Test.YtmfgbhlfbpmmjaaDoorFac
import Derived.Deep.RegionHeld3
namespace Go.Proofs.YtmfgbhlfbpmmjaaDoor
open Go.RowKit

/-- What stands in a law: the table, and boxes of sets. -/
structure Stt (w W : World) (L : List (Nat × BS)) : Prop where
  bel : Below w.heap.size w W
  tab : TabAt W
  blk : ∀ p ∈ L, w.heap.size ≤ p.1 ∧ Blk W p.1 26 (setL p.2)
theorem Stt.step {w W W' : World} {L : List (Nat × BS)} (h : Stt w W L) (hb : Below W.heap.size W W') : Stt w W' L :=
  ⟨h.bel.trans (hb.mono h.bel.size), h.tab.keep hb, fun p hp => ⟨(h.blk p hp).1, (h.blk p hp).2.keep hb⟩⟩
theorem Stt.stepD {w W W' : World} {L : List (Nat × BS)} (h : Stt w W L) (hb : Below W.drew.heap.size W.drew W') : Stt w W' L := h.step ⟨hb.os, hb.tape, hb.output, hb.size, hb.block⟩
theorem Stt.cells {w W : World} {L : List (Nat × BS)} (h : Stt w W L) {b : Nat} {a : BS} (hp : (b, a) ∈ L) : W.cell? ⟨b, 0, none⟩ = some (.int .u64 ((wd a 0 : Nat) : Int)) ∧ W.cell? ⟨b, 1, none⟩ = some (.int .u64 ((wd a 1 : Nat) : Int)) ∧
    W.cell? ⟨b, 2, none⟩ = some (.int .u64 ((wd a 2 : Nat) : Int)) ∧ W.cell? ⟨b, 3, none⟩ = some (.int .u64 ((wd a 3 : Nat) : Int)) :=
  (h.blk (b, a) hp).2.cells4
theorem Stt.box {w W : World} {L : List (Nat × BS)} (h : Stt w W L) (a : BS) (cs : Array Value) :
    Stt w ((W.alloc (.cells cs 26)).setRow W.heap.size (setL a).toArray) ((W.heap.size, a) :: L) := by
  refine ⟨below_row (h.bel.alloc h.bel.size _) h.bel.size _, ?_, ?_⟩
  · have hb : Below W.heap.size W ((W.alloc (.cells cs 26)).setRow W.heap.size (setL a).toArray) := below_row ((Below.refl _ _).alloc (Nat.le_refl _) _) (Nat.le_refl _) _
    exact h.tab.keep hb
  · intro p hp
    rcases List.mem_cons.1 hp with rfl | hp
    · exact ⟨h.bel.size, setRow_heap _ _ _ _ _ (0, 0) (heap_alloc_new W _)⟩
    · have hb : Below W.heap.size W ((W.alloc (.cells cs 26)).setRow W.heap.size (setL a).toArray) := below_row ((Below.refl _ _).alloc (Nat.le_refl _) _) (Nat.le_refl _) _
      exact ⟨(h.blk p hp).1, (h.blk p hp).2.keep hb⟩

set_option maxRecDepth 100000 in
set_option maxHeartbeats 4000000 in
theorem sets_any {w : World} (hT : TabAt w) : Calls Tryd.prog 12 #[] w fun e w' => e = .returned (.bool true) ∧ Below w.heap.size w w' := by
  have HR : Hid (∀ W : World, Calls Tryd.prog 16 #[.int .u8 48, .int .u8 57] W fun e w' => e = .returned (setV dig) ∧ Below W.heap.size W w') := hid (fun W => by have h := range_any 48 57 (by decide) (by decide) W; exact h)
  have HF : Hid (∀ W : World, TabAt W → Calls Tryd.prog 19 #[setV dig] W fun e w' => e = .returned (.tuple #[.int .u8 48, .bool true]) ∧ Below W.heap.size W w') := hid (fun W hW => by have h := first_any dig hW; rw [dig_first, dig_ne] at h; exact h)
  have HL : Hid (∀ W : World, Calls Tryd.prog 43 #[setV dig] W fun e w' => e = .returned (.int .i64 10) ∧ Below W.heap.size W w') := hid (fun W => by have h := len_any dig W; rw [dig_len] at h; exact h)
  have H5 : Hid (∀ W : World, Calls Tryd.prog 15 #[setV dig, .int .u8 53] W fun e w' => e = .returned (.bool true) ∧ Below W.heap.size W w') := hid (fun W => by have h := has_any dig 53 (by decide) W; rw [dig_has5] at h; exact h)
  have Ha : Hid (∀ W : World, Calls Tryd.prog 15 #[setV dig, .int .u8 97] W fun e w' => e = .returned (.bool false) ∧ Below W.heap.size W w') := hid (fun W => by have h := has_any dig 97 (by decide) W; rw [dig_hasa] at h; exact h)
  have HN : Hid (∀ W : World, Calls Tryd.prog 35 #[setV dig] W fun e w' => e = .returned (setV (~~~dig)) ∧ Below W.heap.size W w') := hid (fun W => by have h := not_any dig W; exact h)
  have HLN : Hid (∀ W : World, Calls Tryd.prog 43 #[setV (~~~dig)] W fun e w' => e = .returned (.int .i64 246) ∧ Below W.heap.size W w') := hid (fun W => by have h := len_any (~~~dig) W; rw [dig_not] at h; exact h)
  have HA : Hid (∀ W : World, Calls Tryd.prog 20 #[setV dig, setV (~~~dig)] W fun e w' => e = .returned (setV (dig &&& ~~~dig)) ∧ Below W.heap.size W w') := hid (fun W => by have h := and_any dig (~~~dig) W; exact h)
  have HE : Hid (∀ W : World, Calls Tryd.prog 21 #[setV (dig &&& ~~~dig)] W fun e w' => e = .returned (.bool true) ∧ Below W.heap.size W w') := hid (fun W => by have h := empty_any (dig &&& ~~~dig) W; rw [decide_eq_true dig_and] at h; exact h)
  have HO : Hid (∀ W : World, Calls Tryd.prog 22 #[setV dig, setV (~~~dig)] W fun e w' => e = .returned (setV (dig ||| ~~~dig)) ∧ Below W.heap.size W w') := hid (fun W => by have h := or_any dig (~~~dig) W; exact h)
  have HU : Hid (∀ W : World, Calls Tryd.prog 23 #[] W fun e w' => e = .returned (setV (~~~(0#256))) ∧ Below W.heap.size W w') := hid (fun W => by have h := all_any W; exact h)
  have HQ : Hid (∀ W : World, (binOp .eql 26 (setV (dig ||| ~~~dig)) (setV (~~~(0#256)))).run Tryd.prog W = .ok (.bool true) W) := hid (fun W => by have h := run_eqSet (dig ||| ~~~dig) (~~~(0#256)) W; rw [decide_eq_true dig_or] at h; exact h)
  have HT : Hid (∀ W : World, TabAt W → Calls Tryd.prog 34 #[setV dig] W fun e w' => e = .returned (.string ⟨#[91, 48, 45, 57, 93]⟩) ∧ Below W.heap.size W w') := hid (fun W hW => by have h := text_any dig hW; rw [dig_text] at h; exact h)
  have HTU : Hid (∀ W : World, TabAt W → Calls Tryd.prog 34 #[setV (~~~(0#256))] W fun e w' => e = .returned (.string ⟨#[46]⟩) ∧ Below W.heap.size W w') := hid (fun W hW => by have h := text_any (~~~(0#256)) hW; rw [all_text] at h; exact h)
  have HM : Hid (∀ W : World, Calls Tryd.prog 33 #[.int .u8 47] W fun e w' => e = .returned (.string ⟨#[92, 120, 50, 102]⟩) ∧ Below W.heap.size W w') := hid (fun W => by have h := name_any 47 (by decide) W; rw [slash_name] at h; exact h)
  have HC : Hid (∀ W : World, Calls Tryd.prog 44 #[.agg #[.int .u64 0, .int .u64 0, .int .u64 0, .int .u64 0]] W fun e w' => e = .returned (.int .i64 160) ∧ Below W.heap.size W w') := hid (fun W => by have h := check_any (0#256) W; rw [if_pos rfl, show setV (0#256) = .agg #[.int .u64 0, .int .u64 0, .int .u64 0, .int .u64 0] by simp [setV, wd_zero]] at h; exact h)
  have HS : Hid (Stt w w []) := hid ⟨Below.refl _ _, hT, by simp⟩
  have HP : Hid (∀ W : World, TabAt W → ∀ g c, Blk W g 26 (setL dig) → Calls Tryd.prog 18 #[.slice (some ⟨g, 0, none⟩) 1 c] W fun e w' => ∃ A' c', e = .returned (.slice A' 2 c') ∧ Below W.heap.size W w') := hid (by
    intro W hTW g c hB
    have hR : RdS W (some ⟨g, 0, none⟩) 1 [dig] := ⟨rfl, fun _ => ⟨g, 0, rfl, hB.lt, fun j hj => by
      obtain rfl : j = 0 := by simpa using hj
      exact hB.cells4⟩⟩
    refine (split_walk (cap := c) hTW hR (by decide) ?_).mono ?_
    · intro k hk
      have : k = 0 ∨ k = 1 := by omega
      rcases this with rfl | rfl
      · simp [pieceS]
      · simp [dig_split]
    · rintro e w' ⟨A', c', qs, rfl, hperm, _, _, hb, _⟩
      have : qs.length = 2 := by rw [hperm.length_eq]; exact dig_split
      rw [this]
      exact ⟨A', c', rfl, hb⟩)
  clear hT
  generalize dig = D at *
  generalize setV (~~~D) = VN at *
  generalize setV (D &&& ~~~D) = VA at *
  simp only [setV_eq (D ||| ~~~D)] at HO HQ
  simp only [setV_eq (~~~(0#256))] at HU HQ HTU
  generalize (setL (D ||| ~~~D)).toArray = vO at *
  generalize (setL (~~~(0#256))).toArray = vU at *
  have hq := HQ.out
  clear HQ
  unfold setV at HR HF HL H5 Ha HN HT HA HO
  go_enter Tryd.func12, Tryd.ntmps12
  go_wp2_with fail
  refine (HR.out w).mono ?_
  rintro e w1 ⟨rfl, hb1⟩
  replace HS := hid (HS.out.step hb1)
  clear hb1 HR
  have HB := hid (HS.out.box D #[.int .u64 0, .int .u64 0, .int .u64 0, .int .u64 0])
  go_wp2_with (first
    | (refine wpList_store_row rfl 26 _ _ rfl w1.heap.size (setL D).toArray ?_ ?_ 26 #[.int .u64 0, .int .u64 0, .int .u64 0, .int .u64 0] (heap_alloc_new w1 _) (set_info _) ?_ (four_one _) ?_; exact rfl; exact rfl; exact rfl; generalize (w1.alloc (.cells #[.int .u64 0, .int .u64 0, .int .u64 0, .int .u64 0] 26)).setRow w1.heap.size (setL D).toArray = w3 at *; clear HS; generalize w1.heap.size = b at *; obtain ⟨hc0, hc1, hc2, hc3⟩ := HB.out.cells (List.mem_singleton.2 rfl))
    | (go_at_call 19; with_reducible refine (HF.out _ (by exact HB.out.tab)).mono ?_; rintro e w4 ⟨rfl, hb4⟩; replace HB := hid (HB.out.step hb4); clear hb4 hc0 hc1 hc2 hc3; obtain ⟨hc0, hc1, hc2, hc3⟩ := HB.out.cells (List.mem_singleton.2 rfl)))
  have hba : ∀ X : World, ∀ o : Obj, Below X.heap.size X (X.alloc o) := fun X o => (Below.refl _ _).alloc (Nat.le_refl _) o
  have hbf : ∀ X : World, Blk (X.alloc (.cells #[.int .u64 ((wd D 0 : Nat) : Int), .int .u64 ((wd D 1 : Nat) : Int), .int .u64 ((wd D 2 : Nat) : Int), .int .u64 ((wd D 3 : Nat) : Int)] 26)) X.heap.size 26 (setL D) := fun X => Blk.fresh X 26 (setL D)
  simp only [List.append]
  go_region_held3 (fun w' => w'.cell? ⟨b, 0, none⟩ = some (.int .u64 ((wd D 0 : Nat) : Int)) ∧ w'.cell? ⟨b, 1, none⟩ = some (.int .u64 ((wd D 1 : Nat) : Int)) ∧ w'.cell? ⟨b, 2, none⟩ = some (.int .u64 ((wd D 2 : Nat) : Int)) ∧ w'.cell? ⟨b, 3, none⟩ = some (.int .u64 ((wd D 3 : Nat) : Int)))
    (first | exact ⟨hc0, hc1, hc2, hc3⟩ | exact hd | exact (HB.out.step (hba _ _)).cells (List.mem_singleton.2 rfl) | assumption)
    (first
    | (go_at_call 43; with_reducible refine (HL.out _).mono ?_; rintro e w4 ⟨rfl, hb4⟩; have HB' : Hid (Stt w w4 [(b, D)]) := (by first | exact hid (HB.out.step hb4) | exact hid (HB.out.stepD hb4)); clear hb4 HB; have HB := HB'; clear HB'; have hd := HB.out.cells (List.mem_singleton.2 rfl))
    | (go_at_call 43; with_reducible refine (HLN.out _).mono ?_; rintro e w4 ⟨rfl, hb4⟩; have HB' : Hid (Stt w w4 [(b, D)]) := (by first | exact hid (HB.out.step hb4) | exact hid (HB.out.stepD hb4)); clear hb4 HB; have HB := HB'; clear HB'; have hd := HB.out.cells (List.mem_singleton.2 rfl))
    | (go_at_call 15; with_reducible refine (H5.out _).mono ?_; rintro e w4 ⟨rfl, hb4⟩; have HB' : Hid (Stt w w4 [(b, D)]) := (by first | exact hid (HB.out.step hb4) | exact hid (HB.out.stepD hb4)); clear hb4 HB; have HB := HB'; clear HB'; have hd := HB.out.cells (List.mem_singleton.2 rfl))
    | (go_at_call 15; with_reducible refine (Ha.out _).mono ?_; rintro e w4 ⟨rfl, hb4⟩; have HB' : Hid (Stt w w4 [(b, D)]) := (by first | exact hid (HB.out.step hb4) | exact hid (HB.out.stepD hb4)); clear hb4 HB; have HB := HB'; clear HB'; have hd := HB.out.cells (List.mem_singleton.2 rfl))
    | (go_at_call 35; with_reducible refine (HN.out _).mono ?_; rintro e w4 ⟨rfl, hb4⟩; have HB' : Hid (Stt w w4 [(b, D)]) := (by first | exact hid (HB.out.step hb4) | exact hid (HB.out.stepD hb4)); clear hb4 HB; have HB := HB'; clear HB'; have hd := HB.out.cells (List.mem_singleton.2 rfl))
    | (go_at_call 20; with_reducible refine (HA.out _).mono ?_; rintro e w4 ⟨rfl, hb4⟩; have HB' : Hid (Stt w w4 [(b, D)]) := (by first | exact hid (HB.out.step hb4) | exact hid (HB.out.stepD hb4)); clear hb4 HB; have HB := HB'; clear HB'; have hd := HB.out.cells (List.mem_singleton.2 rfl))
    | (go_at_call 22; with_reducible refine (HO.out _).mono ?_; rintro e w4 ⟨rfl, hb4⟩; have HB' : Hid (Stt w w4 [(b, D)]) := (by first | exact hid (HB.out.step hb4) | exact hid (HB.out.stepD hb4)); clear hb4 HB; have HB := HB'; clear HB'; have hd := HB.out.cells (List.mem_singleton.2 rfl))
    | (go_at_call 21; with_reducible refine (HE.out _).mono ?_; rintro e w4 ⟨rfl, hb4⟩; have HB' : Hid (Stt w w4 [(b, D)]) := (by first | exact hid (HB.out.step hb4) | exact hid (HB.out.stepD hb4)); clear hb4 HB; have HB := HB'; clear HB'; have hd := HB.out.cells (List.mem_singleton.2 rfl))
    | (go_at_call 23; with_reducible refine (HU.out _).mono ?_; rintro e w4 ⟨rfl, hb4⟩; have HB' : Hid (Stt w w4 [(b, D)]) := (by first | exact hid (HB.out.step hb4) | exact hid (HB.out.stepD hb4)); clear hb4 HB; have HB := HB'; clear HB'; have hd := HB.out.cells (List.mem_singleton.2 rfl))
    | (go_at_call 34; with_reducible refine (HT.out _ (by exact HB.out.tab)).mono ?_; rintro e w4 ⟨rfl, hb4⟩; have HB' : Hid (Stt w w4 [(b, D)]) := (by first | exact hid (HB.out.step hb4) | exact hid (HB.out.stepD hb4)); clear hb4 HB; have HB := HB'; clear HB'; have hd := HB.out.cells (List.mem_singleton.2 rfl))
    | (go_at_call 34; with_reducible refine (HTU.out _ (by exact HB.out.tab)).mono ?_; rintro e w4 ⟨rfl, hb4⟩; have HB' : Hid (Stt w w4 [(b, D)]) := (by first | exact hid (HB.out.step hb4) | exact hid (HB.out.stepD hb4)); clear hb4 HB; have HB := HB'; clear HB'; have hd := HB.out.cells (List.mem_singleton.2 rfl))
    | (go_at_call 33; with_reducible refine (HM.out _).mono ?_; rintro e w4 ⟨rfl, hb4⟩; have HB' : Hid (Stt w w4 [(b, D)]) := (by first | exact hid (HB.out.step hb4) | exact hid (HB.out.stepD hb4)); clear hb4 HB; have HB := HB'; clear HB'; have hd := HB.out.cells (List.mem_singleton.2 rfl))
    | (go_at_call 44; with_reducible refine (HC.out _).mono ?_; rintro e w4 ⟨rfl, hb4⟩; have HB' : Hid (Stt w w4 [(b, D)]) := (by first | exact hid (HB.out.step hb4) | exact hid (HB.out.stepD hb4)); clear hb4 HB; have HB := HB'; clear HB'; have hd := HB.out.cells (List.mem_singleton.2 rfl))
    | (go_at_call 18
       with_reducible refine (HP.out _ (by exact HB.out.tab.keep (hba _ _)) _ _ (by exact hbf _)).mono ?_
       rintro e w4 ⟨A', c', rfl, hb4⟩
       have HB' := hid (HB.out.step (W' := w4) ((hba _ _).trans (hb4.mono (by simp))))
       clear hb4 HB
       have HB := HB'
       clear HB'
       have hd := HB.out.cells (List.mem_singleton.2 rfl)))
  go_wp2
  go_ret
  exact ⟨rfl, HB.out.bel⟩
end Go.Proofs.YtmfgbhlfbpmmjaaDoor
