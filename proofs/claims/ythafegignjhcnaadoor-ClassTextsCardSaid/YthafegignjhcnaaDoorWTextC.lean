/- The law ClassTexts, walked. -/
import Derived.Test.YthafegignjhcnaaDoorTexN
import Derived.Test.YthafegignjhcnaaDoorWLaws
namespace Go.Proofs.YthafegignjhcnaaDoor
open Go.RowKit

theorem Stt.drew {w W : World} {L : List (Nat × BS)} (h : Stt w W L) : Stt w W.drew L := ⟨h.bel.drew, h.tab, h.blk⟩
/-- A text as Go's string. -/
def strL (l : List UInt8) : ByteArray := ⟨l.toArray⟩

theorem last_str (P : List UInt8) (hP : P.length ≤ 2304) : ∀ h : (wrap64 (((strL (91 :: (P ++ [93]))).size : Nat) - 1 : Int)).toNat < (strL (91 :: (P ++ [93]))).size,
    ((((strL (91 :: (P ++ [93])))[(wrap64 (((strL (91 :: (P ++ [93]))).size : Nat) - 1 : Int)).toNat]'h).toNat : Int) == 93) = true := by
  have hs : (strL (91 :: (P ++ [93]))).size = P.length + 2 := by simp [strL, ByteArray.size]
  have hw : (wrap64 (((strL (91 :: (P ++ [93]))).size : Nat) - 1 : Int)).toNat = P.length + 1 := by
    rw [hs]
    have : wrap64 (((P.length + 2 : Nat) : Int) - 1) = ((P.length + 1 : Nat) : Int) := by
      rw [show (((P.length + 2 : Nat) : Int) - 1) = ((P.length + 1 : Nat) : Int) by omega]
      unfold wrap64; omega
    rw [this]
    rfl
  have key : ∀ i (hi : i = P.length + 1) (h : i < (strL (91 :: (P ++ [93]))).size), (strL (91 :: (P ++ [93])))[i]'h = 93 := by
    rintro i rfl h
    show (91 :: (P ++ [93])).toArray[P.length + 1]'(by simp) = 93
    simp
  intro h
  rw [key _ hw h]
  rfl

set_option maxRecDepth 100000 in
set_option maxHeartbeats 8000000 in
theorem texts_one (a b : BS) (c : Nat) (hc : c < 256) (hone : (bytesOf a).length = 1) {w : World} (hT : TabAt w) : Calls Tryd.prog 6 #[setV a, setV b, .int .u8 (c : Int)] w fun e w' => e = .returned (.bool true) ∧ Below w.heap.size w w' := by
  have HSt := hid (Stt.two hT a b)
  have HSets : Hid (∀ W : World, TabAt W → Calls Tryd.prog 14 #[] W fun e w' => e = .returned (.bool true) ∧ Below W.heap.size W w') := hid (fun W hW => sets_any hW)
  have HTa : Hid (∀ W : World, TabAt W → Calls Tryd.prog 29 #[setV a] W fun e w' => e = .returned (.string (strL (textL a))) ∧ Below W.heap.size W w') := hid (fun W hW => by have h := text_any a hW; exact h)
  have HTb : Hid (∀ W : World, TabAt W → Calls Tryd.prog 29 #[setV b] W fun e w' => e = .returned (.string (strL (textL b))) ∧ Below W.heap.size W w') := hid (fun W hW => by have h := text_any b hW; exact h)
  have HM : Hid (∀ W : World, Calls Tryd.prog 30 #[.int .u8 (c : Int)] W fun e w' => e = .returned (.string (strL (nameL c))) ∧ Below W.heap.size W w') := hid (fun W => by have h := name_any c hc W; exact h)
  have HF := hid (fun (W : World) (h : TabAt W) => first_any a h)
  have HL : Hid (∀ W : World, Calls Tryd.prog 20 #[setV a] W fun e w' => e = .returned (.int .i64 ((bytesOf a).length : Nat)) ∧ Below W.heap.size W w') := hid (fun W => by have h := len_any a W; exact h)
  have HU : Hid (∀ W : World, Calls Tryd.prog 28 #[] W fun e w' => e = .returned (setV (~~~(0#256))) ∧ Below W.heap.size W w') := hid (fun W => by have h := all_any W; exact h)
  have hs : ((strL (textL a)).toList == (strL (textL b)).toList) = decide (a = b) := by
    have e : ∀ l : List UInt8, (strL l).toList = l := fun l => by simp [strL]
    rw [e, e]
    by_cases h : a = b
    · rw [h]; simp
    · rw [decide_eq_false h]
      have : textL a ≠ textL b := fun h2 => h (textL_inj h2)
      simpa using this
  have hq := fun W => run_eqSet a b W
  generalize decide (a = b) = d at hs hq
  have hqU := fun W => run_eqSet a (~~~(0#256)) W
  have hk0 := HSt.out.two_cells
  rw [setV_eq a, setV_eq b]
  have HMf : Hid (∀ W : World, Calls Tryd.prog 30 #[.int .u8 ((firstN a : Nat) : Int)] W fun e w' => e = .returned (.string (strL (nameL (firstN a)))) ∧ Below W.heap.size W w') := hid (fun W => name_any (firstN a) (firstN_lt a) W)
  rw [textL_one hone] at HTa hs
  rw [hone] at HL
  clear hqU HU
  generalize strL (nameL (firstN a)) = sa at *
  generalize firstN a = f0 at *
  have HTb2 := HTb
  clear HTb
  have HTb := HTb2
  clear HTb2
  unfold setV at HTa HTb HL HF hq
  go_enter Tryd.func6, Tryd.ntmps6
  go_wp2_with fail
  refine (HSets.out _ HSt.out.tab).mono ?_
  rintro e w1 ⟨rfl, hb1⟩
  have HB := hid (HSt.out.step hb1)
  clear HSt HSets hb1 hk0
  have hk := HB.out.two_cells
  go_wp2_with fail
  try simp only [List.append]
  go_region_held3 (fun w' => w'.cell? ⟨w.heap.size, 0, none⟩ = some (.int .u64 ((wd a 0 : Nat) : Int)) ∧ w'.cell? ⟨w.heap.size, 1, none⟩ = some (.int .u64 ((wd a 1 : Nat) : Int)) ∧ w'.cell? ⟨w.heap.size, 2, none⟩ = some (.int .u64 ((wd a 2 : Nat) : Int)) ∧ w'.cell? ⟨w.heap.size, 3, none⟩ = some (.int .u64 ((wd a 3 : Nat) : Int)) ∧ w'.cell? ⟨w.heap.size + 1, 0, none⟩ = some (.int .u64 ((wd b 0 : Nat) : Int)) ∧ w'.cell? ⟨w.heap.size + 1, 1, none⟩ = some (.int .u64 ((wd b 1 : Nat) : Int)) ∧ w'.cell? ⟨w.heap.size + 1, 2, none⟩ = some (.int .u64 ((wd b 2 : Nat) : Int)) ∧ w'.cell? ⟨w.heap.size + 1, 3, none⟩ = some (.int .u64 ((wd b 3 : Nat) : Int)))
    (first | exact hk | assumption)
    (first
    | (go_at_call 29; with_reducible refine (HTa.out _ (by first | exact HB.out.tab | exact HB.out.drew.tab)).mono ?_; rintro e w4 ⟨rfl, hb4⟩; have HB' : Hid (Stt w w4 [(w.heap.size, a), (w.heap.size + 1, b)]) := (by first | exact hid (HB.out.step hb4) | exact hid (HB.out.stepD hb4)); clear hb4 HB; have HB := HB'; clear HB'; have hk := HB.out.two_cells)
    | (go_at_call 29; with_reducible refine (HTb.out _ (by first | exact HB.out.tab | exact HB.out.drew.tab)).mono ?_; rintro e w4 ⟨rfl, hb4⟩; have HB' : Hid (Stt w w4 [(w.heap.size, a), (w.heap.size + 1, b)]) := (by first | exact hid (HB.out.step hb4) | exact hid (HB.out.stepD hb4)); clear hb4 HB; have HB := HB'; clear HB'; have hk := HB.out.two_cells))
  obtain ⟨hc0, hc1, hc2, hc3, hd0, hd1, hd2, hd3⟩ := hk
  go_wp2_with fail
  refine (HM.out _).mono ?_
  rintro e w5 ⟨rfl, hb5⟩
  have HB5 := hid (HB.out.step hb5)
  clear hb5 HB hc0 hc1 hc2 hc3 hd0 hd1 hd2 hd3
  have HB := HB5
  clear HB5
  obtain ⟨hc0, hc1, hc2, hc3, hd0, hd1, hd2, hd3⟩ := HB.out.two_cells
  have hk := HB.out.two_cells
  by_cases hp : plain c = true
  · obtain ⟨x, hx, e⟩ : ∃ x : UInt8, x.toNat = c ∧ strL (nameL c) = ⟨#[x]⟩ := ⟨c.toUInt8, by simp; omega, by unfold nameL; rw [if_pos hp]; rfl⟩
    rw [e]
    clear e hp
    subst hx
    have hix : ((((⟨#[x]⟩ : ByteArray)[0]'Nat.zero_lt_one).toNat : Int) != (x.toNat : Int)) = false := by
      show ((x.toNat : Int) != (x.toNat : Int)) = false
      simp
    go_wp2_with (first
    | (go_at_call 20; with_reducible refine (HL.out _).mono ?_; rintro e w4 ⟨rfl, hb4⟩; have HB' : Hid (Stt w w4 [(w.heap.size, a), (w.heap.size + 1, b)]) := (by first | exact hid (HB.out.step hb4) | exact hid (HB.out.stepD hb4)); clear hb4 HB; have HB := HB'; clear HB' hc0 hc1 hc2 hc3 hd0 hd1 hd2 hd3; obtain ⟨hc0, hc1, hc2, hc3, hd0, hd1, hd2, hd3⟩ := HB.out.two_cells)
    | (go_at_call 19; with_reducible refine (HF.out _ (by exact HB.out.tab)).mono ?_; rintro e w4 ⟨rfl, hb4⟩; have HB' : Hid (Stt w w4 [(w.heap.size, a), (w.heap.size + 1, b)]) := (by first | exact hid (HB.out.step hb4) | exact hid (HB.out.stepD hb4)); clear hb4 HB; have HB := HB'; clear HB' hc0 hc1 hc2 hc3 hd0 hd1 hd2 hd3; obtain ⟨hc0, hc1, hc2, hc3, hd0, hd1, hd2, hd3⟩ := HB.out.two_cells)
    | (go_at_call 30; with_reducible refine (HMf.out _).mono ?_; rintro e w4 ⟨rfl, hb4⟩; have HB' : Hid (Stt w w4 [(w.heap.size, a), (w.heap.size + 1, b)]) := (by first | exact hid (HB.out.step hb4) | exact hid (HB.out.stepD hb4)); clear hb4 HB; have HB := HB'; clear HB' hc0 hc1 hc2 hc3 hd0 hd1 hd2 hd3; obtain ⟨hc0, hc1, hc2, hc3, hd0, hd1, hd2, hd3⟩ := HB.out.two_cells))
    go_ret
    exact ⟨rfl, HB.out.bel⟩
  · obtain ⟨h1, h2, e⟩ : ∃ h1 h2 : UInt8, strL (nameL c) = ⟨#[92, 120, h1, h2]⟩ := ⟨hexD (c / 16), hexD (c % 16), by unfold nameL; rw [if_neg hp]; rfl⟩
    rw [e]
    clear e hp
    have hex : ((⟨#[92, 120, h1, h2]⟩ : ByteArray).extract 0 2).toList = [92, 120] := by
      have e2 : (⟨#[92, 120, h1, h2]⟩ : ByteArray).extract 0 2 = strL [92, 120] := rfl
      rw [e2]
      simp [strL]
    go_wp2_with (first
    | (go_at_call 20; with_reducible refine (HL.out _).mono ?_; rintro e w4 ⟨rfl, hb4⟩; have HB' : Hid (Stt w w4 [(w.heap.size, a), (w.heap.size + 1, b)]) := (by first | exact hid (HB.out.step hb4) | exact hid (HB.out.stepD hb4)); clear hb4 HB; have HB := HB'; clear HB' hc0 hc1 hc2 hc3 hd0 hd1 hd2 hd3; obtain ⟨hc0, hc1, hc2, hc3, hd0, hd1, hd2, hd3⟩ := HB.out.two_cells)
    | (go_at_call 19; with_reducible refine (HF.out _ (by exact HB.out.tab)).mono ?_; rintro e w4 ⟨rfl, hb4⟩; have HB' : Hid (Stt w w4 [(w.heap.size, a), (w.heap.size + 1, b)]) := (by first | exact hid (HB.out.step hb4) | exact hid (HB.out.stepD hb4)); clear hb4 HB; have HB := HB'; clear HB' hc0 hc1 hc2 hc3 hd0 hd1 hd2 hd3; obtain ⟨hc0, hc1, hc2, hc3, hd0, hd1, hd2, hd3⟩ := HB.out.two_cells)
    | (go_at_call 30; with_reducible refine (HMf.out _).mono ?_; rintro e w4 ⟨rfl, hb4⟩; have HB' : Hid (Stt w w4 [(w.heap.size, a), (w.heap.size + 1, b)]) := (by first | exact hid (HB.out.step hb4) | exact hid (HB.out.stepD hb4)); clear hb4 HB; have HB := HB'; clear HB' hc0 hc1 hc2 hc3 hd0 hd1 hd2 hd3; obtain ⟨hc0, hc1, hc2, hc3, hd0, hd1, hd2, hd3⟩ := HB.out.two_cells))
    go_ret
    exact ⟨rfl, HB.out.bel⟩

set_option maxRecDepth 100000 in
set_option maxHeartbeats 8000000 in
theorem texts_all (a b : BS) (c : Nat) (hc : c < 256) (hall : a = ~~~(0#256)) {w : World} (hT : TabAt w) : Calls Tryd.prog 6 #[setV a, setV b, .int .u8 (c : Int)] w fun e w' => e = .returned (.bool true) ∧ Below w.heap.size w w' := by
  have HSt := hid (Stt.two hT a b)
  have HSets : Hid (∀ W : World, TabAt W → Calls Tryd.prog 14 #[] W fun e w' => e = .returned (.bool true) ∧ Below W.heap.size W w') := hid (fun W hW => sets_any hW)
  have HTa : Hid (∀ W : World, TabAt W → Calls Tryd.prog 29 #[setV a] W fun e w' => e = .returned (.string (strL (textL a))) ∧ Below W.heap.size W w') := hid (fun W hW => by have h := text_any a hW; exact h)
  have HTb : Hid (∀ W : World, TabAt W → Calls Tryd.prog 29 #[setV b] W fun e w' => e = .returned (.string (strL (textL b))) ∧ Below W.heap.size W w') := hid (fun W hW => by have h := text_any b hW; exact h)
  have HM : Hid (∀ W : World, Calls Tryd.prog 30 #[.int .u8 (c : Int)] W fun e w' => e = .returned (.string (strL (nameL c))) ∧ Below W.heap.size W w') := hid (fun W => by have h := name_any c hc W; exact h)
  have HF := hid (fun (W : World) (h : TabAt W) => first_any a h)
  have HL : Hid (∀ W : World, Calls Tryd.prog 20 #[setV a] W fun e w' => e = .returned (.int .i64 ((bytesOf a).length : Nat)) ∧ Below W.heap.size W w') := hid (fun W => by have h := len_any a W; exact h)
  have HU : Hid (∀ W : World, Calls Tryd.prog 28 #[] W fun e w' => e = .returned (setV (~~~(0#256))) ∧ Below W.heap.size W w') := hid (fun W => by have h := all_any W; exact h)
  have hs : ((strL (textL a)).toList == (strL (textL b)).toList) = decide (a = b) := by
    have e : ∀ l : List UInt8, (strL l).toList = l := fun l => by simp [strL]
    rw [e, e]
    by_cases h : a = b
    · rw [h]; simp
    · rw [decide_eq_false h]
      have : textL a ≠ textL b := fun h2 => h (textL_inj h2)
      simpa using this
  have hq := fun W => run_eqSet a b W
  generalize decide (a = b) = d at hs hq
  have hqU := fun W => run_eqSet a (~~~(0#256)) W
  have hk0 := HSt.out.two_cells
  rw [setV_eq a, setV_eq b]
  have hL256 : (bytesOf a).length = 256 := by rw [hall]; decide +kernel
  rw [hL256] at HL
  have e46 : textL a = [46] := by unfold textL; rw [if_pos hall]
  rw [e46] at HTa hs
  simp only [decide_eq_true hall] at hqU
  clear HF hL256
  simp only [setV_eq (~~~(0#256))] at HU hqU
  generalize (setL (~~~(0#256))).toArray = vU at *
  have hsl : ((strL [46]).toList == [46]) = true := by simp [strL]
  generalize strL [46] = sa at *
  clear hall
  have HTb2 := HTb
  clear HTb
  have HTb := HTb2
  clear HTb2
  unfold setV at HTa HTb HL hq hqU
  go_enter Tryd.func6, Tryd.ntmps6
  go_wp2_with fail
  refine (HSets.out _ HSt.out.tab).mono ?_
  rintro e w1 ⟨rfl, hb1⟩
  have HB := hid (HSt.out.step hb1)
  clear HSt HSets hb1 hk0
  have hk := HB.out.two_cells
  go_wp2_with fail
  try simp only [List.append]
  go_region_held3 (fun w' => w'.cell? ⟨w.heap.size, 0, none⟩ = some (.int .u64 ((wd a 0 : Nat) : Int)) ∧ w'.cell? ⟨w.heap.size, 1, none⟩ = some (.int .u64 ((wd a 1 : Nat) : Int)) ∧ w'.cell? ⟨w.heap.size, 2, none⟩ = some (.int .u64 ((wd a 2 : Nat) : Int)) ∧ w'.cell? ⟨w.heap.size, 3, none⟩ = some (.int .u64 ((wd a 3 : Nat) : Int)) ∧ w'.cell? ⟨w.heap.size + 1, 0, none⟩ = some (.int .u64 ((wd b 0 : Nat) : Int)) ∧ w'.cell? ⟨w.heap.size + 1, 1, none⟩ = some (.int .u64 ((wd b 1 : Nat) : Int)) ∧ w'.cell? ⟨w.heap.size + 1, 2, none⟩ = some (.int .u64 ((wd b 2 : Nat) : Int)) ∧ w'.cell? ⟨w.heap.size + 1, 3, none⟩ = some (.int .u64 ((wd b 3 : Nat) : Int)))
    (first | exact hk | assumption)
    (first
    | (go_at_call 29; with_reducible refine (HTa.out _ (by first | exact HB.out.tab | exact HB.out.drew.tab)).mono ?_; rintro e w4 ⟨rfl, hb4⟩; have HB' : Hid (Stt w w4 [(w.heap.size, a), (w.heap.size + 1, b)]) := (by first | exact hid (HB.out.step hb4) | exact hid (HB.out.stepD hb4)); clear hb4 HB; have HB := HB'; clear HB'; have hk := HB.out.two_cells)
    | (go_at_call 29; with_reducible refine (HTb.out _ (by first | exact HB.out.tab | exact HB.out.drew.tab)).mono ?_; rintro e w4 ⟨rfl, hb4⟩; have HB' : Hid (Stt w w4 [(w.heap.size, a), (w.heap.size + 1, b)]) := (by first | exact hid (HB.out.step hb4) | exact hid (HB.out.stepD hb4)); clear hb4 HB; have HB := HB'; clear HB'; have hk := HB.out.two_cells))
  obtain ⟨hc0, hc1, hc2, hc3, hd0, hd1, hd2, hd3⟩ := hk
  go_wp2_with fail
  refine (HM.out _).mono ?_
  rintro e w5 ⟨rfl, hb5⟩
  have HB5 := hid (HB.out.step hb5)
  clear hb5 HB hc0 hc1 hc2 hc3 hd0 hd1 hd2 hd3
  have HB := HB5
  clear HB5
  obtain ⟨hc0, hc1, hc2, hc3, hd0, hd1, hd2, hd3⟩ := HB.out.two_cells
  have hk := HB.out.two_cells
  by_cases hp : plain c = true
  · obtain ⟨x, hx, e⟩ : ∃ x : UInt8, x.toNat = c ∧ strL (nameL c) = ⟨#[x]⟩ := ⟨c.toUInt8, by simp; omega, by unfold nameL; rw [if_pos hp]; rfl⟩
    rw [e]
    clear e hp
    subst hx
    have hix : ((((⟨#[x]⟩ : ByteArray)[0]'Nat.zero_lt_one).toNat : Int) != (x.toNat : Int)) = false := by
      show ((x.toNat : Int) != (x.toNat : Int)) = false
      simp
    go_wp2_with (first
    | (go_at_call 20; with_reducible refine (HL.out _).mono ?_; rintro e w4 ⟨rfl, hb4⟩; have HB' : Hid (Stt w w4 [(w.heap.size, a), (w.heap.size + 1, b)]) := (by first | exact hid (HB.out.step hb4) | exact hid (HB.out.stepD hb4)); clear hb4 HB; have HB := HB'; clear HB' hc0 hc1 hc2 hc3 hd0 hd1 hd2 hd3; obtain ⟨hc0, hc1, hc2, hc3, hd0, hd1, hd2, hd3⟩ := HB.out.two_cells))
    have hk := HB.out.two_cells
    go_region_held3 (fun w' => w'.cell? ⟨w.heap.size, 0, none⟩ = some (.int .u64 ((wd a 0 : Nat) : Int)) ∧ w'.cell? ⟨w.heap.size, 1, none⟩ = some (.int .u64 ((wd a 1 : Nat) : Int)) ∧ w'.cell? ⟨w.heap.size, 2, none⟩ = some (.int .u64 ((wd a 2 : Nat) : Int)) ∧ w'.cell? ⟨w.heap.size, 3, none⟩ = some (.int .u64 ((wd a 3 : Nat) : Int)) ∧ w'.cell? ⟨w.heap.size + 1, 0, none⟩ = some (.int .u64 ((wd b 0 : Nat) : Int)) ∧ w'.cell? ⟨w.heap.size + 1, 1, none⟩ = some (.int .u64 ((wd b 1 : Nat) : Int)) ∧ w'.cell? ⟨w.heap.size + 1, 2, none⟩ = some (.int .u64 ((wd b 2 : Nat) : Int)) ∧ w'.cell? ⟨w.heap.size + 1, 3, none⟩ = some (.int .u64 ((wd b 3 : Nat) : Int)))
      (first | exact hk | assumption)
      (first
      | (go_at_call 28; with_reducible refine (HU.out _).mono ?_; rintro e w4 ⟨rfl, hb4⟩; have HB' : Hid (Stt w w4 [(w.heap.size, a), (w.heap.size + 1, b)]) := (by first | exact hid (HB.out.step hb4) | exact hid (HB.out.stepD hb4)); clear hb4 HB; have HB := HB'; clear HB'; have hk := HB.out.two_cells))
    go_wp2
    go_ret
    exact ⟨rfl, HB.out.bel⟩
  · obtain ⟨h1, h2, e⟩ : ∃ h1 h2 : UInt8, strL (nameL c) = ⟨#[92, 120, h1, h2]⟩ := ⟨hexD (c / 16), hexD (c % 16), by unfold nameL; rw [if_neg hp]; rfl⟩
    rw [e]
    clear e hp
    have hex : ((⟨#[92, 120, h1, h2]⟩ : ByteArray).extract 0 2).toList = [92, 120] := by
      have e2 : (⟨#[92, 120, h1, h2]⟩ : ByteArray).extract 0 2 = strL [92, 120] := rfl
      rw [e2]
      simp [strL]
    go_wp2_with (first
    | (go_at_call 20; with_reducible refine (HL.out _).mono ?_; rintro e w4 ⟨rfl, hb4⟩; have HB' : Hid (Stt w w4 [(w.heap.size, a), (w.heap.size + 1, b)]) := (by first | exact hid (HB.out.step hb4) | exact hid (HB.out.stepD hb4)); clear hb4 HB; have HB := HB'; clear HB' hc0 hc1 hc2 hc3 hd0 hd1 hd2 hd3; obtain ⟨hc0, hc1, hc2, hc3, hd0, hd1, hd2, hd3⟩ := HB.out.two_cells))
    have hk := HB.out.two_cells
    go_region_held3 (fun w' => w'.cell? ⟨w.heap.size, 0, none⟩ = some (.int .u64 ((wd a 0 : Nat) : Int)) ∧ w'.cell? ⟨w.heap.size, 1, none⟩ = some (.int .u64 ((wd a 1 : Nat) : Int)) ∧ w'.cell? ⟨w.heap.size, 2, none⟩ = some (.int .u64 ((wd a 2 : Nat) : Int)) ∧ w'.cell? ⟨w.heap.size, 3, none⟩ = some (.int .u64 ((wd a 3 : Nat) : Int)) ∧ w'.cell? ⟨w.heap.size + 1, 0, none⟩ = some (.int .u64 ((wd b 0 : Nat) : Int)) ∧ w'.cell? ⟨w.heap.size + 1, 1, none⟩ = some (.int .u64 ((wd b 1 : Nat) : Int)) ∧ w'.cell? ⟨w.heap.size + 1, 2, none⟩ = some (.int .u64 ((wd b 2 : Nat) : Int)) ∧ w'.cell? ⟨w.heap.size + 1, 3, none⟩ = some (.int .u64 ((wd b 3 : Nat) : Int)))
      (first | exact hk | assumption)
      (first
      | (go_at_call 28; with_reducible refine (HU.out _).mono ?_; rintro e w4 ⟨rfl, hb4⟩; have HB' : Hid (Stt w w4 [(w.heap.size, a), (w.heap.size + 1, b)]) := (by first | exact hid (HB.out.step hb4) | exact hid (HB.out.stepD hb4)); clear hb4 HB; have HB := HB'; clear HB'; have hk := HB.out.two_cells))
    go_wp2
    go_ret
    exact ⟨rfl, HB.out.bel⟩

set_option maxRecDepth 100000 in
set_option maxHeartbeats 8000000 in
theorem texts_oth (a b : BS) (c : Nat) (hc : c < 256) (hone : (bytesOf a).length ≠ 1) (hall : a ≠ ~~~(0#256)) {w : World} (hT : TabAt w) : Calls Tryd.prog 6 #[setV a, setV b, .int .u8 (c : Int)] w fun e w' => e = .returned (.bool true) ∧ Below w.heap.size w w' := by
  have HSt := hid (Stt.two hT a b)
  have HSets : Hid (∀ W : World, TabAt W → Calls Tryd.prog 14 #[] W fun e w' => e = .returned (.bool true) ∧ Below W.heap.size W w') := hid (fun W hW => sets_any hW)
  have HTa : Hid (∀ W : World, TabAt W → Calls Tryd.prog 29 #[setV a] W fun e w' => e = .returned (.string (strL (textL a))) ∧ Below W.heap.size W w') := hid (fun W hW => by have h := text_any a hW; exact h)
  have HTb : Hid (∀ W : World, TabAt W → Calls Tryd.prog 29 #[setV b] W fun e w' => e = .returned (.string (strL (textL b))) ∧ Below W.heap.size W w') := hid (fun W hW => by have h := text_any b hW; exact h)
  have HM : Hid (∀ W : World, Calls Tryd.prog 30 #[.int .u8 (c : Int)] W fun e w' => e = .returned (.string (strL (nameL c))) ∧ Below W.heap.size W w') := hid (fun W => by have h := name_any c hc W; exact h)
  have HF := hid (fun (W : World) (h : TabAt W) => first_any a h)
  have HL : Hid (∀ W : World, Calls Tryd.prog 20 #[setV a] W fun e w' => e = .returned (.int .i64 ((bytesOf a).length : Nat)) ∧ Below W.heap.size W w') := hid (fun W => by have h := len_any a W; exact h)
  have HU : Hid (∀ W : World, Calls Tryd.prog 28 #[] W fun e w' => e = .returned (setV (~~~(0#256))) ∧ Below W.heap.size W w') := hid (fun W => by have h := all_any W; exact h)
  have hs : ((strL (textL a)).toList == (strL (textL b)).toList) = decide (a = b) := by
    have e : ∀ l : List UInt8, (strL l).toList = l := fun l => by simp [strL]
    rw [e, e]
    by_cases h : a = b
    · rw [h]; simp
    · rw [decide_eq_false h]
      have : textL a ≠ textL b := fun h2 => h (textL_inj h2)
      simpa using this
  have hq := fun W => run_eqSet a b W
  generalize decide (a = b) = d at hs hq
  have hqU := fun W => run_eqSet a (~~~(0#256)) W
  have hk0 := HSt.out.two_cells
  rw [setV_eq a, setV_eq b]
  simp only [decide_eq_false hall] at hqU
  clear HF
  simp only [setV_eq (~~~(0#256))] at HU hqU
  generalize (setL (~~~(0#256))).toArray = vU at *
  have hL1 : decide (((bytesOf a).length : Int) = 1) = false := by simp; omega
  rw [textL_other hone hall] at HTa hs
  have hP : (pieces a (bytesOf a)).length ≤ 2304 := by
    have h1 := pieces_len a (bytesOf a)
    have h2 := bytesOf_len a
    omega
  generalize pieces a (bytesOf a) = P at *
  have hlast := last_str P hP
  have hsz : (strL (91 :: (P ++ [93]))).size = P.length + 2 := by simp [strL, ByteArray.size]
  have hz1 : (2 : Int) ≤ ((strL (91 :: (P ++ [93]))).size : Int) := by omega
  have hz0 : 0 < (strL (91 :: (P ++ [93]))).size := by omega
  have hz91 : ((((strL (91 :: (P ++ [93])))[0]'hz0).toNat : Nat) : Int) = 91 := rfl
  have hw0 : (0 : Int) ≤ wrap64 (((strL (91 :: (P ++ [93]))).size : Int) - 1) := by rw [hsz]; unfold wrap64; omega
  have hw1 : wrap64 (((strL (91 :: (P ++ [93]))).size : Int) - 1) < ((strL (91 :: (P ++ [93]))).size : Int) := by rw [hsz]; unfold wrap64; omega
  have hw2 : (wrap64 (((strL (91 :: (P ++ [93]))).size : Int) - 1)).toNat < (strL (91 :: (P ++ [93]))).size := by omega
  clear hsz
  clear hall
  have HTb2 := HTb
  clear HTb
  have HTb := HTb2
  clear HTb2
  unfold setV at HTa HTb HL hq hqU
  go_enter Tryd.func6, Tryd.ntmps6
  go_wp2_with fail
  refine (HSets.out _ HSt.out.tab).mono ?_
  rintro e w1 ⟨rfl, hb1⟩
  have HB := hid (HSt.out.step hb1)
  clear HSt HSets hb1 hk0
  have hk := HB.out.two_cells
  go_wp2_with fail
  try simp only [List.append]
  go_region_held3 (fun w' => w'.cell? ⟨w.heap.size, 0, none⟩ = some (.int .u64 ((wd a 0 : Nat) : Int)) ∧ w'.cell? ⟨w.heap.size, 1, none⟩ = some (.int .u64 ((wd a 1 : Nat) : Int)) ∧ w'.cell? ⟨w.heap.size, 2, none⟩ = some (.int .u64 ((wd a 2 : Nat) : Int)) ∧ w'.cell? ⟨w.heap.size, 3, none⟩ = some (.int .u64 ((wd a 3 : Nat) : Int)) ∧ w'.cell? ⟨w.heap.size + 1, 0, none⟩ = some (.int .u64 ((wd b 0 : Nat) : Int)) ∧ w'.cell? ⟨w.heap.size + 1, 1, none⟩ = some (.int .u64 ((wd b 1 : Nat) : Int)) ∧ w'.cell? ⟨w.heap.size + 1, 2, none⟩ = some (.int .u64 ((wd b 2 : Nat) : Int)) ∧ w'.cell? ⟨w.heap.size + 1, 3, none⟩ = some (.int .u64 ((wd b 3 : Nat) : Int)))
    (first | exact hk | assumption)
    (first
    | (go_at_call 29; with_reducible refine (HTa.out _ (by first | exact HB.out.tab | exact HB.out.drew.tab)).mono ?_; rintro e w4 ⟨rfl, hb4⟩; have HB' : Hid (Stt w w4 [(w.heap.size, a), (w.heap.size + 1, b)]) := (by first | exact hid (HB.out.step hb4) | exact hid (HB.out.stepD hb4)); clear hb4 HB; have HB := HB'; clear HB'; have hk := HB.out.two_cells)
    | (go_at_call 29; with_reducible refine (HTb.out _ (by first | exact HB.out.tab | exact HB.out.drew.tab)).mono ?_; rintro e w4 ⟨rfl, hb4⟩; have HB' : Hid (Stt w w4 [(w.heap.size, a), (w.heap.size + 1, b)]) := (by first | exact hid (HB.out.step hb4) | exact hid (HB.out.stepD hb4)); clear hb4 HB; have HB := HB'; clear HB'; have hk := HB.out.two_cells))
  obtain ⟨hc0, hc1, hc2, hc3, hd0, hd1, hd2, hd3⟩ := hk
  go_wp2_with fail
  refine (HM.out _).mono ?_
  rintro e w5 ⟨rfl, hb5⟩
  have HB5 := hid (HB.out.step hb5)
  clear hb5 HB hc0 hc1 hc2 hc3 hd0 hd1 hd2 hd3
  have HB := HB5
  clear HB5
  obtain ⟨hc0, hc1, hc2, hc3, hd0, hd1, hd2, hd3⟩ := HB.out.two_cells
  have hk := HB.out.two_cells
  by_cases hp : plain c = true
  · obtain ⟨x, hx, e⟩ : ∃ x : UInt8, x.toNat = c ∧ strL (nameL c) = ⟨#[x]⟩ := ⟨c.toUInt8, by simp; omega, by unfold nameL; rw [if_pos hp]; rfl⟩
    rw [e]
    clear e hp
    subst hx
    have hix : ((((⟨#[x]⟩ : ByteArray)[0]'Nat.zero_lt_one).toNat : Int) != (x.toNat : Int)) = false := by
      show ((x.toNat : Int) != (x.toNat : Int)) = false
      simp
    go_wp2_with (first
    | (go_at_call 20; with_reducible refine (HL.out _).mono ?_; rintro e w4 ⟨rfl, hb4⟩; have HB' : Hid (Stt w w4 [(w.heap.size, a), (w.heap.size + 1, b)]) := (by first | exact hid (HB.out.step hb4) | exact hid (HB.out.stepD hb4)); clear hb4 HB; have HB := HB'; clear HB' hc0 hc1 hc2 hc3 hd0 hd1 hd2 hd3; obtain ⟨hc0, hc1, hc2, hc3, hd0, hd1, hd2, hd3⟩ := HB.out.two_cells))
    have hk := HB.out.two_cells
    go_region_held3 (fun w' => w'.cell? ⟨w.heap.size, 0, none⟩ = some (.int .u64 ((wd a 0 : Nat) : Int)) ∧ w'.cell? ⟨w.heap.size, 1, none⟩ = some (.int .u64 ((wd a 1 : Nat) : Int)) ∧ w'.cell? ⟨w.heap.size, 2, none⟩ = some (.int .u64 ((wd a 2 : Nat) : Int)) ∧ w'.cell? ⟨w.heap.size, 3, none⟩ = some (.int .u64 ((wd a 3 : Nat) : Int)) ∧ w'.cell? ⟨w.heap.size + 1, 0, none⟩ = some (.int .u64 ((wd b 0 : Nat) : Int)) ∧ w'.cell? ⟨w.heap.size + 1, 1, none⟩ = some (.int .u64 ((wd b 1 : Nat) : Int)) ∧ w'.cell? ⟨w.heap.size + 1, 2, none⟩ = some (.int .u64 ((wd b 2 : Nat) : Int)) ∧ w'.cell? ⟨w.heap.size + 1, 3, none⟩ = some (.int .u64 ((wd b 3 : Nat) : Int)))
      (first | exact hk | assumption)
      (first
      | (go_at_call 28; with_reducible refine (HU.out _).mono ?_; rintro e w4 ⟨rfl, hb4⟩; have HB' : Hid (Stt w w4 [(w.heap.size, a), (w.heap.size + 1, b)]) := (by first | exact hid (HB.out.step hb4) | exact hid (HB.out.stepD hb4)); clear hb4 HB; have HB := HB'; clear HB'; have hk := HB.out.two_cells))
    go_wp2
    go_ret
    exact ⟨rfl, HB.out.bel⟩
  · obtain ⟨h1, h2, e⟩ : ∃ h1 h2 : UInt8, strL (nameL c) = ⟨#[92, 120, h1, h2]⟩ := ⟨hexD (c / 16), hexD (c % 16), by unfold nameL; rw [if_neg hp]; rfl⟩
    rw [e]
    clear e hp
    have hex : ((⟨#[92, 120, h1, h2]⟩ : ByteArray).extract 0 2).toList = [92, 120] := by
      have e2 : (⟨#[92, 120, h1, h2]⟩ : ByteArray).extract 0 2 = strL [92, 120] := rfl
      rw [e2]
      simp [strL]
    go_wp2_with (first
    | (go_at_call 20; with_reducible refine (HL.out _).mono ?_; rintro e w4 ⟨rfl, hb4⟩; have HB' : Hid (Stt w w4 [(w.heap.size, a), (w.heap.size + 1, b)]) := (by first | exact hid (HB.out.step hb4) | exact hid (HB.out.stepD hb4)); clear hb4 HB; have HB := HB'; clear HB' hc0 hc1 hc2 hc3 hd0 hd1 hd2 hd3; obtain ⟨hc0, hc1, hc2, hc3, hd0, hd1, hd2, hd3⟩ := HB.out.two_cells))
    have hk := HB.out.two_cells
    go_region_held3 (fun w' => w'.cell? ⟨w.heap.size, 0, none⟩ = some (.int .u64 ((wd a 0 : Nat) : Int)) ∧ w'.cell? ⟨w.heap.size, 1, none⟩ = some (.int .u64 ((wd a 1 : Nat) : Int)) ∧ w'.cell? ⟨w.heap.size, 2, none⟩ = some (.int .u64 ((wd a 2 : Nat) : Int)) ∧ w'.cell? ⟨w.heap.size, 3, none⟩ = some (.int .u64 ((wd a 3 : Nat) : Int)) ∧ w'.cell? ⟨w.heap.size + 1, 0, none⟩ = some (.int .u64 ((wd b 0 : Nat) : Int)) ∧ w'.cell? ⟨w.heap.size + 1, 1, none⟩ = some (.int .u64 ((wd b 1 : Nat) : Int)) ∧ w'.cell? ⟨w.heap.size + 1, 2, none⟩ = some (.int .u64 ((wd b 2 : Nat) : Int)) ∧ w'.cell? ⟨w.heap.size + 1, 3, none⟩ = some (.int .u64 ((wd b 3 : Nat) : Int)))
      (first | exact hk | assumption)
      (first
      | (go_at_call 28; with_reducible refine (HU.out _).mono ?_; rintro e w4 ⟨rfl, hb4⟩; have HB' : Hid (Stt w w4 [(w.heap.size, a), (w.heap.size + 1, b)]) := (by first | exact hid (HB.out.step hb4) | exact hid (HB.out.stepD hb4)); clear hb4 HB; have HB := HB'; clear HB'; have hk := HB.out.two_cells))
    go_wp2
    go_ret
    exact ⟨rfl, HB.out.bel⟩

theorem texts_any (a b : BS) (c : Nat) (hc : c < 256) {w : World} (hT : TabAt w) : Calls Tryd.prog 6 #[setV a, setV b, .int .u8 (c : Int)] w fun e w' => e = .returned (.bool true) ∧ Below w.heap.size w w' := by
  by_cases h1 : (bytesOf a).length = 1
  · exact texts_one a b c hc h1 hT
  · by_cases h2 : a = ~~~(0#256)
    · exact texts_all a b c hc h2 hT
    · exact texts_oth a b c hc h1 h2 hT
end Go.Proofs.YthafegignjhcnaaDoor
