/- The law ClassLaws, walked. -/
import Derived.Test.YthafegignjhcnaaDoorLawM
import Derived.Test.YthafegignjhcnaaDoorSets
namespace Go.Proofs.YthafegignjhcnaaDoor
open Go.RowKit

theorem Stt.two {w : World} (hT : TabAt w) (a b : BS) : Stt w ((w.alloc (.cells (setL a).toArray 24)).alloc (.cells (setL b).toArray 24)) [(w.heap.size, a), (w.heap.size + 1, b)] := by
  have hb := @below_alloc2 w (.cells (setL a).toArray 24) (.cells (setL b).toArray 24)
  have hA := (Blk.fresh w 24 (setL a)).alloc (.cells (setL b).toArray 24)
  have hB := Blk.fresh (w.alloc (.cells (setL a).toArray 24)) 24 (setL b)
  rw [show (w.alloc (.cells (setL a).toArray 24)).heap.size = w.heap.size + 1 by simp] at hB
  refine ⟨hb, hT.keep hb, ?_⟩
  intro p hp
  simp only [List.mem_cons, List.not_mem_nil, or_false] at hp
  rcases hp with rfl | rfl
  · exact ⟨Nat.le_refl _, hA⟩
  · exact ⟨Nat.le_succ _, hB⟩

theorem Stt.two_cells {w W : World} {n m : Nat} {a b : BS} (h : Stt w W [(n, a), (m, b)]) : W.cell? ⟨n, 0, none⟩ = some (.int .u64 ((wd a 0 : Nat) : Int)) ∧ W.cell? ⟨n, 1, none⟩ = some (.int .u64 ((wd a 1 : Nat) : Int)) ∧ W.cell? ⟨n, 2, none⟩ = some (.int .u64 ((wd a 2 : Nat) : Int)) ∧ W.cell? ⟨n, 3, none⟩ = some (.int .u64 ((wd a 3 : Nat) : Int)) ∧ W.cell? ⟨m, 0, none⟩ = some (.int .u64 ((wd b 0 : Nat) : Int)) ∧ W.cell? ⟨m, 1, none⟩ = some (.int .u64 ((wd b 1 : Nat) : Int)) ∧ W.cell? ⟨m, 2, none⟩ = some (.int .u64 ((wd b 2 : Nat) : Int)) ∧ W.cell? ⟨m, 3, none⟩ = some (.int .u64 ((wd b 3 : Nat) : Int)) := by
  have h1 := h.cells (b := n) (a := a) (by simp)
  have h2 := h.cells (b := m) (a := b) (by simp)
  exact ⟨h1.1, h1.2.1, h1.2.2.1, h1.2.2.2, h2⟩

set_option maxRecDepth 100000 in
set_option maxHeartbeats 8000000 in
theorem laws_any (a b : BS) {w : World} (hT : TabAt w) : Calls Tryd.prog 7 #[setV a, setV b] w fun e w' => e = .returned (.bool true) ∧ Below w.heap.size w w' := by
  have HSt := hid (Stt.two hT a b)
  have HSets : Hid (∀ W : World, TabAt W → Calls Tryd.prog 14 #[] W fun e w' => e = .returned (.bool true) ∧ Below W.heap.size W w') := hid (fun W hW => sets_any hW)
  have HOr : Hid (∀ W : World, Calls Tryd.prog 16 #[setV a, setV b] W fun e w' => e = .returned (setV (a ||| b)) ∧ Below W.heap.size W w') := hid (fun W => by have h := or_any a b W; exact h)
  have HNOr : Hid (∀ W : World, Calls Tryd.prog 17 #[setV (a ||| b)] W fun e w' => e = .returned (setV (~~~a &&& ~~~b)) ∧ Below W.heap.size W w') := hid (fun W => by have h := not_any (a ||| b) W; rw [BitVec.not_or] at h; exact h)
  have HNa : Hid (∀ W : World, Calls Tryd.prog 17 #[setV a] W fun e w' => e = .returned (setV (~~~a)) ∧ Below W.heap.size W w') := hid (fun W => by have h := not_any a W; exact h)
  have HNb : Hid (∀ W : World, Calls Tryd.prog 17 #[setV b] W fun e w' => e = .returned (setV (~~~b)) ∧ Below W.heap.size W w') := hid (fun W => by have h := not_any b W; exact h)
  have HAN : Hid (∀ W : World, Calls Tryd.prog 15 #[setV (~~~a), setV (~~~b)] W fun e w' => e = .returned (setV (~~~a &&& ~~~b)) ∧ Below W.heap.size W w') := hid (fun W => by have h := and_any (~~~a) (~~~b) W; exact h)
  have HNN : Hid (∀ W : World, Calls Tryd.prog 17 #[setV (~~~a)] W fun e w' => e = .returned (setV a) ∧ Below W.heap.size W w') := hid (fun W => by have h := not_any (~~~a) W; rw [BitVec.not_not] at h; exact h)
  have HLa : Hid (∀ W : World, Calls Tryd.prog 20 #[setV a] W fun e w' => e = .returned (.int .i64 ((bytesOf a).length : Nat)) ∧ Below W.heap.size W w') := hid (fun W => by have h := len_any a W; exact h)
  have HLb : Hid (∀ W : World, Calls Tryd.prog 20 #[setV b] W fun e w' => e = .returned (.int .i64 ((bytesOf b).length : Nat)) ∧ Below W.heap.size W w') := hid (fun W => by have h := len_any b W; exact h)
  have HLo : Hid (∀ W : World, Calls Tryd.prog 20 #[setV (a ||| b)] W fun e w' => e = .returned (.int .i64 ((bytesOf (a ||| b)).length : Nat)) ∧ Below W.heap.size W w') := hid (fun W => by have h := len_any (a ||| b) W; exact h)
  have HLn : Hid (∀ W : World, Calls Tryd.prog 20 #[setV (a &&& b)] W fun e w' => e = .returned (.int .i64 ((bytesOf (a &&& b)).length : Nat)) ∧ Below W.heap.size W w') := hid (fun W => by have h := len_any (a &&& b) W; exact h)
  have HAb : Hid (∀ W : World, Calls Tryd.prog 15 #[setV a, setV b] W fun e w' => e = .returned (setV (a &&& b)) ∧ Below W.heap.size W w') := hid (fun W => by have h := and_any a b W; exact h)
  have HAc : Hid (∀ W : World, Calls Tryd.prog 15 #[setV b, setV a] W fun e w' => e = .returned (setV (a &&& b)) ∧ Below W.heap.size W w') := hid (fun W => by have h := and_any b a W; rw [BitVec.and_comm] at h; exact h)
  have HBy : Hid (∀ W : World, TabAt W → Calls Tryd.prog 24 #[setV a] W fun e w' => ∃ A c, e = .returned (.slice A (bytesOf a).length c) ∧ RdB w' A (bytesOf a).length (toB (bytesOf a)) ∧ Below W.heap.size W w') := hid (fun W hW => (bytes_any a hW).mono fun e w' ⟨v, he, ho, hb⟩ => by
    obtain ⟨A, c, rfl⟩ := own_shape ho
    exact ⟨A, c, he, RdB.of_own ho, hb⟩)
  have HOf : Hid (∀ (W : World) A c, RdB W A (bytesOf a).length (toB (bytesOf a)) → Calls Tryd.prog 23 #[.slice A (bytesOf a).length c] W fun e w' => e = .returned (setV a) ∧ Below W.heap.size W w') := hid (fun W A c hR => by have h := of_any (cap := c) hR (by have := bytesOf_len a; omega); rw [ofL_bytes] at h; exact h)
  have HqN : Hid (∀ W : World, (binOp .eql 24 (setV (~~~a &&& ~~~b)) (setV (~~~a &&& ~~~b))).run Tryd.prog W = .ok (.bool true) W) := hid (fun W => by have h := run_eqSet (~~~a &&& ~~~b) (~~~a &&& ~~~b) W; rw [decide_eq_true rfl] at h; exact h)
  have HqA : Hid (∀ W : World, (binOp .eql 24 (setV (a &&& b)) (setV (a &&& b))).run Tryd.prog W = .ok (.bool true) W) := hid (fun W => by have h := run_eqSet (a &&& b) (a &&& b) W; rw [decide_eq_true rfl] at h; exact h)
  have Hqa : Hid (∀ W : World, (binOp .eql 24 (setV a) (setV a)).run Tryd.prog W = .ok (.bool true) W) := hid (fun W => by have h := run_eqSet a a W; rw [decide_eq_true rfl] at h; exact h)
  have hlen := len_or_and a b
  have hla := bytesOf_len a
  have hlb := bytesOf_len b
  have hlo := bytesOf_len (a ||| b)
  have hln := bytesOf_len (a &&& b)
  rw [setV_eq a, setV_eq b]
  generalize (bytesOf (a ||| b)).length = lo at *
  generalize (bytesOf (a &&& b)).length = ln at *
  generalize (bytesOf b).length = lb at *
  generalize toB (bytesOf a) = La at *
  generalize (bytesOf a).length = la at *
  simp only [setV_eq (~~~a &&& ~~~b)] at HNOr HAN HqN
  simp only [setV_eq (a &&& b)] at HLn HAb HAc HqA
  generalize setV (a ||| b) = vO at *
  generalize setV (~~~a) = vNa at *
  generalize setV (~~~b) = vNb at *
  generalize (setL (~~~a &&& ~~~b)).toArray = vN at *
  generalize (setL (a &&& b)).toArray = vA at *
  have hqN := HqN.out
  have hqA := HqA.out
  have hqa := Hqa.out
  unfold setV at HOr HNa HNb HLa HLb HNN HAb HAc HBy HOf hqa
  clear HqN HqA Hqa hT
  obtain ⟨hc0, hc1, hc2, hc3⟩ := HSt.out.cells (b := w.heap.size) (a := a) (by simp)
  obtain ⟨hd0, hd1, hd2, hd3⟩ := HSt.out.cells (b := w.heap.size + 1) (a := b) (by simp)
  go_enter Tryd.func7, Tryd.ntmps7
  go_wp2_with fail
  refine (HSets.out _ HSt.out.tab).mono ?_
  rintro e w1 ⟨rfl, hb1⟩
  have HB := hid (HSt.out.step hb1)
  clear HSt HSets hb1 hc0 hc1 hc2 hc3 hd0 hd1 hd2 hd3
  have hk := HB.out.two_cells
  have hlen' : (la : Int) + (lb : Int) = (lo : Int) + (ln : Int) := by omega
  go_wp2_with fail
  try simp only [List.append]
  go_region_held3 (fun w' => w'.cell? ⟨w.heap.size, 0, none⟩ = some (.int .u64 ((wd a 0 : Nat) : Int)) ∧ w'.cell? ⟨w.heap.size, 1, none⟩ = some (.int .u64 ((wd a 1 : Nat) : Int)) ∧ w'.cell? ⟨w.heap.size, 2, none⟩ = some (.int .u64 ((wd a 2 : Nat) : Int)) ∧ w'.cell? ⟨w.heap.size, 3, none⟩ = some (.int .u64 ((wd a 3 : Nat) : Int)) ∧ w'.cell? ⟨w.heap.size + 1, 0, none⟩ = some (.int .u64 ((wd b 0 : Nat) : Int)) ∧ w'.cell? ⟨w.heap.size + 1, 1, none⟩ = some (.int .u64 ((wd b 1 : Nat) : Int)) ∧ w'.cell? ⟨w.heap.size + 1, 2, none⟩ = some (.int .u64 ((wd b 2 : Nat) : Int)) ∧ w'.cell? ⟨w.heap.size + 1, 3, none⟩ = some (.int .u64 ((wd b 3 : Nat) : Int)))
    (first | exact hk | assumption)
    (first
    | (go_at_call 16; with_reducible refine (HOr.out _).mono ?_; rintro e w4 ⟨rfl, hb4⟩; have HB' : Hid (Stt w w4 [(w.heap.size, a), (w.heap.size + 1, b)]) := (by first | exact hid (HB.out.step hb4) | exact hid (HB.out.stepD hb4)); clear hb4 HB; have HB := HB'; clear HB'; have hk := HB.out.two_cells)
    | (go_at_call 17; with_reducible refine (HNOr.out _).mono ?_; rintro e w4 ⟨rfl, hb4⟩; have HB' : Hid (Stt w w4 [(w.heap.size, a), (w.heap.size + 1, b)]) := (by first | exact hid (HB.out.step hb4) | exact hid (HB.out.stepD hb4)); clear hb4 HB; have HB := HB'; clear HB'; have hk := HB.out.two_cells)
    | (go_at_call 17; with_reducible refine (HNa.out _).mono ?_; rintro e w4 ⟨rfl, hb4⟩; have HB' : Hid (Stt w w4 [(w.heap.size, a), (w.heap.size + 1, b)]) := (by first | exact hid (HB.out.step hb4) | exact hid (HB.out.stepD hb4)); clear hb4 HB; have HB := HB'; clear HB'; have hk := HB.out.two_cells)
    | (go_at_call 17; with_reducible refine (HNb.out _).mono ?_; rintro e w4 ⟨rfl, hb4⟩; have HB' : Hid (Stt w w4 [(w.heap.size, a), (w.heap.size + 1, b)]) := (by first | exact hid (HB.out.step hb4) | exact hid (HB.out.stepD hb4)); clear hb4 HB; have HB := HB'; clear HB'; have hk := HB.out.two_cells)
    | (go_at_call 17; with_reducible refine (HNN.out _).mono ?_; rintro e w4 ⟨rfl, hb4⟩; have HB' : Hid (Stt w w4 [(w.heap.size, a), (w.heap.size + 1, b)]) := (by first | exact hid (HB.out.step hb4) | exact hid (HB.out.stepD hb4)); clear hb4 HB; have HB := HB'; clear HB'; have hk := HB.out.two_cells)
    | (go_at_call 15; with_reducible refine (HAN.out _).mono ?_; rintro e w4 ⟨rfl, hb4⟩; have HB' : Hid (Stt w w4 [(w.heap.size, a), (w.heap.size + 1, b)]) := (by first | exact hid (HB.out.step hb4) | exact hid (HB.out.stepD hb4)); clear hb4 HB; have HB := HB'; clear HB'; have hk := HB.out.two_cells)
    | (go_at_call 15; with_reducible refine (HAb.out _).mono ?_; rintro e w4 ⟨rfl, hb4⟩; have HB' : Hid (Stt w w4 [(w.heap.size, a), (w.heap.size + 1, b)]) := (by first | exact hid (HB.out.step hb4) | exact hid (HB.out.stepD hb4)); clear hb4 HB; have HB := HB'; clear HB'; have hk := HB.out.two_cells)
    | (go_at_call 15; with_reducible refine (HAc.out _).mono ?_; rintro e w4 ⟨rfl, hb4⟩; have HB' : Hid (Stt w w4 [(w.heap.size, a), (w.heap.size + 1, b)]) := (by first | exact hid (HB.out.step hb4) | exact hid (HB.out.stepD hb4)); clear hb4 HB; have HB := HB'; clear HB'; have hk := HB.out.two_cells)
    | (go_at_call 20; with_reducible refine (HLa.out _).mono ?_; rintro e w4 ⟨rfl, hb4⟩; have HB' : Hid (Stt w w4 [(w.heap.size, a), (w.heap.size + 1, b)]) := (by first | exact hid (HB.out.step hb4) | exact hid (HB.out.stepD hb4)); clear hb4 HB; have HB := HB'; clear HB'; have hk := HB.out.two_cells)
    | (go_at_call 20; with_reducible refine (HLb.out _).mono ?_; rintro e w4 ⟨rfl, hb4⟩; have HB' : Hid (Stt w w4 [(w.heap.size, a), (w.heap.size + 1, b)]) := (by first | exact hid (HB.out.step hb4) | exact hid (HB.out.stepD hb4)); clear hb4 HB; have HB := HB'; clear HB'; have hk := HB.out.two_cells)
    | (go_at_call 20; with_reducible refine (HLo.out _).mono ?_; rintro e w4 ⟨rfl, hb4⟩; have HB' : Hid (Stt w w4 [(w.heap.size, a), (w.heap.size + 1, b)]) := (by first | exact hid (HB.out.step hb4) | exact hid (HB.out.stepD hb4)); clear hb4 HB; have HB := HB'; clear HB'; have hk := HB.out.two_cells)
    | (go_at_call 20; with_reducible refine (HLn.out _).mono ?_; rintro e w4 ⟨rfl, hb4⟩; have HB' : Hid (Stt w w4 [(w.heap.size, a), (w.heap.size + 1, b)]) := (by first | exact hid (HB.out.step hb4) | exact hid (HB.out.stepD hb4)); clear hb4 HB; have HB := HB'; clear HB'; have hk := HB.out.two_cells)
    | (go_at_call 24; with_reducible refine (HBy.out _ (by exact HB.out.tab)).mono ?_; rintro e w4 ⟨A, c, rfl, hR4, hb4⟩; have HR4 := hid hR4; clear hR4; have HB' : Hid (Stt w w4 [(w.heap.size, a), (w.heap.size + 1, b)]) := (by first | exact hid (HB.out.step hb4) | exact hid (HB.out.stepD hb4)); clear hb4 HB; have HB := HB'; clear HB'; have hk := HB.out.two_cells)
    | (go_at_call 23; with_reducible refine (HOf.out _ _ _ (by exact HR4.out)).mono ?_; rintro e w4 ⟨rfl, hb4⟩; have HB' : Hid (Stt w w4 [(w.heap.size, a), (w.heap.size + 1, b)]) := (by first | exact hid (HB.out.step hb4) | exact hid (HB.out.stepD hb4)); clear hb4 HB; have HB := HB'; clear HB'; have hk := HB.out.two_cells))
  go_wp2
  go_ret
  exact ⟨rfl, HB.out.bel⟩
end Go.Proofs.YthafegignjhcnaaDoor
