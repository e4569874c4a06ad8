/- The law ClassSets, walked. -/
import Derived.Test.YthafegignjhcnaaDoorSetR
import Derived.Test.YthafegignjhcnaaDoorWLaws
namespace Go.Proofs.YthafegignjhcnaaDoor
open Go.RowKit

/-- The bytes of a set among the last k. -/
def lastK (a : BS) (k : Nat) : List Nat := ((List.range 256).drop (256 - k)).filter (has a)
def headI : List Nat → Int
  | [] => -1
  | x :: _ => x
theorem lastK_zero (a : BS) : lastK a 0 = [] := by
  unfold lastK
  rw [Nat.sub_zero, List.drop_of_length_le (by simp)]
  rfl
theorem lastK_all (a : BS) : lastK a 256 = bytesOf a := by simp [lastK, bytesOf]
theorem lastK_succ (a : BS) (k c : Nat) (hk : k < 256) (hc : c = 255 - k) : lastK a (k + 1) = if has a c = true then c :: lastK a k else lastK a k := by
  subst hc
  unfold lastK
  rw [show 256 - (k + 1) = 255 - k by omega, List.drop_eq_getElem_cons (by simp; omega), List.filter_cons, List.getElem_range, show 255 - k + 1 = 256 - k by omega]
theorem lastK_len (a : BS) (k : Nat) : (lastK a k).length ≤ 256 := by
  have h1 := List.length_filter_le (has a) ((List.range 256).drop (256 - k))
  have h2 : ((List.range 256).drop (256 - k)).length ≤ 256 := by simp
  unfold lastK
  omega
theorem bytes_nil (a : BS) : bytesOf a = [] ↔ a = 0#256 := by
  constructor
  · intro h
    refine bs_has_ext fun c _ => ?_
    rw [has_zero]
    cases hh : has a c
    · rfl
    · have := (mem_bytesOf a c).2 hh
      rw [h] at this
      cases this
  · rintro rfl
    decide +kernel
theorem Stt.drew' {w W : World} {L : List (Nat × BS)} (h : Stt w W L) : Stt w W.drew L := ⟨h.bel.drew, h.tab, h.blk⟩
theorem Stt.five {w W W' : World} {n m A5 A6 A7 : Nat} {a b x y z : BS} (h : Stt w W [(n, a), (m, b)]) (hb : Below W.heap.size W W') (h5 : W.heap.size ≤ A5 ∧ Blk W' A5 24 (setL x)) (h6 : W.heap.size ≤ A6 ∧ Blk W' A6 24 (setL y)) (h7 : W.heap.size ≤ A7 ∧ Blk W' A7 24 (setL z)) :
    Stt w W' [(n, a), (m, b), (A5, x), (A6, y), (A7, z)] := by
  have h' := h.step hb
  have hs := h.bel.size
  refine ⟨h'.bel, h'.tab, ?_⟩
  intro p hp
  simp only [List.mem_cons, List.not_mem_nil, or_false] at hp
  rcases hp with rfl | rfl | rfl | rfl | rfl
  · exact h'.blk _ (by simp)
  · exact h'.blk _ (by simp)
  · exact ⟨Nat.le_trans hs h5.1, h5.2⟩
  · exact ⟨Nat.le_trans hs h6.1, h6.2⟩
  · exact ⟨Nat.le_trans hs h7.1, h7.2⟩

theorem Stt.two_of_five {w W : World} {n m A5 A6 A7 : Nat} {a b x y z : BS} (h : Stt w W [(n, a), (m, b), (A5, x), (A6, y), (A7, z)]) : W.cell? ⟨n, 0, none⟩ = some (.int .u64 ((wd a 0 : Nat) : Int)) ∧ W.cell? ⟨n, 1, none⟩ = some (.int .u64 ((wd a 1 : Nat) : Int)) ∧ W.cell? ⟨n, 2, none⟩ = some (.int .u64 ((wd a 2 : Nat) : Int)) ∧ W.cell? ⟨n, 3, none⟩ = some (.int .u64 ((wd a 3 : Nat) : Int)) ∧ W.cell? ⟨m, 0, none⟩ = some (.int .u64 ((wd b 0 : Nat) : Int)) ∧ W.cell? ⟨m, 1, none⟩ = some (.int .u64 ((wd b 1 : Nat) : Int)) ∧ W.cell? ⟨m, 2, none⟩ = some (.int .u64 ((wd b 2 : Nat) : Int)) ∧ W.cell? ⟨m, 3, none⟩ = some (.int .u64 ((wd b 3 : Nat) : Int)) := by
  have h1 := h.cells (b := n) (a := a) (by simp)
  have h2 := h.cells (b := m) (a := b) (by simp)
  exact ⟨h1.1, h1.2.1, h1.2.2.1, h1.2.2.2, h2⟩
theorem Stt.rest_cells {w W : World} {n m A5 A6 A7 : Nat} {a b x y z : BS} (h : Stt w W [(n, a), (m, b), (A5, x), (A6, y), (A7, z)]) : (W.cell? ⟨A5, 0, none⟩ = some (.int .u64 ((wd x 0 : Nat) : Int)) ∧ W.cell? ⟨A5, 1, none⟩ = some (.int .u64 ((wd x 1 : Nat) : Int)) ∧ W.cell? ⟨A5, 2, none⟩ = some (.int .u64 ((wd x 2 : Nat) : Int)) ∧ W.cell? ⟨A5, 3, none⟩ = some (.int .u64 ((wd x 3 : Nat) : Int))) ∧ (W.cell? ⟨A6, 0, none⟩ = some (.int .u64 ((wd y 0 : Nat) : Int)) ∧ W.cell? ⟨A6, 1, none⟩ = some (.int .u64 ((wd y 1 : Nat) : Int)) ∧ W.cell? ⟨A6, 2, none⟩ = some (.int .u64 ((wd y 2 : Nat) : Int)) ∧ W.cell? ⟨A6, 3, none⟩ = some (.int .u64 ((wd y 3 : Nat) : Int))) ∧ (W.cell? ⟨A7, 0, none⟩ = some (.int .u64 ((wd z 0 : Nat) : Int)) ∧ W.cell? ⟨A7, 1, none⟩ = some (.int .u64 ((wd z 1 : Nat) : Int)) ∧ W.cell? ⟨A7, 2, none⟩ = some (.int .u64 ((wd z 2 : Nat) : Int)) ∧ W.cell? ⟨A7, 3, none⟩ = some (.int .u64 ((wd z 3 : Nat) : Int))) :=
  ⟨h.cells (b := A5) (a := x) (by simp), h.cells (b := A6) (a := y) (by simp), h.cells (b := A7) (a := z) (by simp)⟩

set_option maxRecDepth 100000 in
set_option maxHeartbeats 8000000 in
theorem csets_any (a b : BS) {w : World} (hT : TabAt w) : Calls Tryd.prog 3 #[setV a, setV b] w fun e w' => e = .returned (.bool true) ∧ Below w.heap.size w w' := by
  have HSt := hid (Stt.two hT a b)
  have HSets : Hid (∀ W : World, TabAt W → Calls Tryd.prog 14 #[] W fun e w' => e = .returned (.bool true) ∧ Below W.heap.size W w') := hid (fun W hW => sets_any hW)
  rw [setV_eq a, setV_eq b]
  go_enter Tryd.func3, Tryd.ntmps3
  go_wp2_with fail
  refine (HSets.out _ HSt.out.tab).mono ?_
  rintro e w1 ⟨rfl, hb1⟩
  have HB1 := hid (HSt.out.step hb1)
  clear HSt HSets hb1 hT
  go_wp2_with fail
  refine cs_region (HB1.out.blk (w.heap.size, a) (by simp)).2 (HB1.out.blk (w.heap.size + 1, b) (by simp)).2 ?_
  intro A5 A6 A7 v17 v18 v19 v20 v21 v22 v23 v24 w2 hb2 _ _ _ hA5 hk5 hA6 hk6 hA7 hk7
  have HB2 := hid (HB1.out.five hb2 ⟨hA5, hk5⟩ ⟨hA6, hk6⟩ ⟨hA7, hk7⟩)
  clear HB1 hb2 hA5 hk5 hA6 hk6 hA7 hk7
  unfold csFrame
  go_wp2_with fail
  go_loopw [8, 9, 10] (fun n f i wr => ∃ k : Nat, k ≤ 256 ∧ n = .int .i64 ((lastK a k).length : Nat) ∧ f = .int .i64 (headI (lastK a k)) ∧ i = .int .i64 (255 - (k : Int)) ∧ Hid (Stt w wr [(w.heap.size, a), (w.heap.size + 1, b), (A5, a &&& b), (A6, a ||| b), (A7, ~~~a)])) (fun _ _ i _ => ((intOf i) + 1).toNat)
  case atStart => exact ⟨0, by omega, by rw [lastK_zero]; rfl, by rw [lastK_zero]; rfl, by go_num, HB2⟩
  case round =>
    clear HB2
    obtain ⟨k, hk, rfl, rfl, rfl, HB⟩ := hrel
    by_cases hlt : k < 256
    · obtain ⟨c, hc, hck⟩ : ∃ c : Nat, c = 255 - k ∧ (255 : Int) - (k : Int) = (c : Int) := ⟨255 - k, rfl, by omega⟩
      have hc2 : c < 256 := by omega
      rw [hck]
      have hx2 : has (a &&& b) c = (has a c && has b c) := has_and a b c
      have hy2 : has (a ||| b) c = (has a c || has b c) := has_or a b c
      have hz2 : has (~~~a) c = !has a c := by rw [has_not, decide_eq_true hc2, Bool.true_and]
      have HHa := hid (fun W => has_any a c hc2 W)
      have HHb := hid (fun W => has_any b c hc2 W)
      have HH5 := hid (fun W => has_any (a &&& b) c hc2 W)
      have HH6 := hid (fun W => has_any (a ||| b) c hc2 W)
      have HH7 := hid (fun W => has_any (~~~a) c hc2 W)
      rw [hx2] at HH5
      rw [hy2] at HH6
      rw [hz2] at HH7
      have HK := hid (lastK_succ a k c hlt hc)
      have hlen := lastK_len a k
      have hwr : IntKind.u8.wrap (c : Int) = (c : Int) := wraps_u8 (c : Int) (by omega) (by omega)
      have hkc : k + c = 255 := by omega
      clear hx2 hy2 hz2 hck hc
      unfold setV at HHa HHb HH5 HH6 HH7
      generalize has a c = xa at *
      generalize has b c = ya at *
      have hk2 := HB.out.two_of_five
      cases xa <;> cases ya
      · go_wp2_with fail
        go_region_held3 (fun w' => w'.cell? ⟨w.heap.size, 0, none⟩ = some (.int .u64 ((wd a 0 : Nat) : Int)) ∧ w'.cell? ⟨w.heap.size, 1, none⟩ = some (.int .u64 ((wd a 1 : Nat) : Int)) ∧ w'.cell? ⟨w.heap.size, 2, none⟩ = some (.int .u64 ((wd a 2 : Nat) : Int)) ∧ w'.cell? ⟨w.heap.size, 3, none⟩ = some (.int .u64 ((wd a 3 : Nat) : Int)) ∧ w'.cell? ⟨w.heap.size + 1, 0, none⟩ = some (.int .u64 ((wd b 0 : Nat) : Int)) ∧ w'.cell? ⟨w.heap.size + 1, 1, none⟩ = some (.int .u64 ((wd b 1 : Nat) : Int)) ∧ w'.cell? ⟨w.heap.size + 1, 2, none⟩ = some (.int .u64 ((wd b 2 : Nat) : Int)) ∧ w'.cell? ⟨w.heap.size + 1, 3, none⟩ = some (.int .u64 ((wd b 3 : Nat) : Int)))
          (first | exact hk2 | assumption)
          (first
          | (go_at_call 18; with_reducible refine (HHa.out _).mono ?_; rintro e w4 ⟨rfl, hb4⟩; have HB' : Hid (Stt w w4 [(w.heap.size, a), (w.heap.size + 1, b), (A5, a &&& b), (A6, a ||| b), (A7, ~~~a)]) := (by first | exact hid (HB.out.step hb4) | exact hid (HB.out.stepD hb4)); clear hb4 HB; have HB := HB'; clear HB'; have hk2 := HB.out.two_of_five)
          | (go_at_call 18; with_reducible refine (HHb.out _).mono ?_; rintro e w4 ⟨rfl, hb4⟩; have HB' : Hid (Stt w w4 [(w.heap.size, a), (w.heap.size + 1, b), (A5, a &&& b), (A6, a ||| b), (A7, ~~~a)]) := (by first | exact hid (HB.out.step hb4) | exact hid (HB.out.stepD hb4)); clear hb4 HB; have HB := HB'; clear HB'; have hk2 := HB.out.two_of_five))
        obtain ⟨⟨q0, q1, q2, q3⟩, ⟨q4, q5, q6, q7⟩, ⟨q8, q9, q10, q11⟩⟩ := HB.out.rest_cells
        go_wp2_with (first
          | (go_at_call 18; with_reducible refine (HH5.out _).mono ?_; rintro e w4 ⟨rfl, hb4⟩; have HB' : Hid (Stt w w4 [(w.heap.size, a), (w.heap.size + 1, b), (A5, a &&& b), (A6, a ||| b), (A7, ~~~a)]) := (by first | exact hid (HB.out.step hb4) | exact hid (HB.out.stepD hb4)); clear hb4 HB; have HB := HB'; clear HB'; clear q0 q1 q2 q3 q4 q5 q6 q7 q8 q9 q10 q11; obtain ⟨⟨q0, q1, q2, q3⟩, ⟨q4, q5, q6, q7⟩, ⟨q8, q9, q10, q11⟩⟩ := HB.out.rest_cells)
          | (go_at_call 18; with_reducible refine (HH6.out _).mono ?_; rintro e w4 ⟨rfl, hb4⟩; have HB' : Hid (Stt w w4 [(w.heap.size, a), (w.heap.size + 1, b), (A5, a &&& b), (A6, a ||| b), (A7, ~~~a)]) := (by first | exact hid (HB.out.step hb4) | exact hid (HB.out.stepD hb4)); clear hb4 HB; have HB := HB'; clear HB'; clear q0 q1 q2 q3 q4 q5 q6 q7 q8 q9 q10 q11; obtain ⟨⟨q0, q1, q2, q3⟩, ⟨q4, q5, q6, q7⟩, ⟨q8, q9, q10, q11⟩⟩ := HB.out.rest_cells)
          | (go_at_call 18; with_reducible refine (HH7.out _).mono ?_; rintro e w4 ⟨rfl, hb4⟩; have HB' : Hid (Stt w w4 [(w.heap.size, a), (w.heap.size + 1, b), (A5, a &&& b), (A6, a ||| b), (A7, ~~~a)]) := (by first | exact hid (HB.out.step hb4) | exact hid (HB.out.stepD hb4)); clear hb4 HB; have HB := HB'; clear HB'; clear q0 q1 q2 q3 q4 q5 q6 q7 q8 q9 q10 q11; obtain ⟨⟨q0, q1, q2, q3⟩, ⟨q4, q5, q6, q7⟩, ⟨q8, q9, q10, q11⟩⟩ := HB.out.rest_cells))
        have HK2 : lastK a (k + 1) = lastK a k := by simpa using HK.out
        go_roundw
        case rel => exact ⟨k + 1, by omega, by rw [HK2], by rw [HK2], congrArg (Value.int .i64) (by omega), HB⟩
        case measure => first | (simp [intOf]; done) | (simp [intOf]; omega)
      · go_wp2_with fail
        go_region_held3 (fun w' => w'.cell? ⟨w.heap.size, 0, none⟩ = some (.int .u64 ((wd a 0 : Nat) : Int)) ∧ w'.cell? ⟨w.heap.size, 1, none⟩ = some (.int .u64 ((wd a 1 : Nat) : Int)) ∧ w'.cell? ⟨w.heap.size, 2, none⟩ = some (.int .u64 ((wd a 2 : Nat) : Int)) ∧ w'.cell? ⟨w.heap.size, 3, none⟩ = some (.int .u64 ((wd a 3 : Nat) : Int)) ∧ w'.cell? ⟨w.heap.size + 1, 0, none⟩ = some (.int .u64 ((wd b 0 : Nat) : Int)) ∧ w'.cell? ⟨w.heap.size + 1, 1, none⟩ = some (.int .u64 ((wd b 1 : Nat) : Int)) ∧ w'.cell? ⟨w.heap.size + 1, 2, none⟩ = some (.int .u64 ((wd b 2 : Nat) : Int)) ∧ w'.cell? ⟨w.heap.size + 1, 3, none⟩ = some (.int .u64 ((wd b 3 : Nat) : Int)))
          (first | exact hk2 | assumption)
          (first
          | (go_at_call 18; with_reducible refine (HHa.out _).mono ?_; rintro e w4 ⟨rfl, hb4⟩; have HB' : Hid (Stt w w4 [(w.heap.size, a), (w.heap.size + 1, b), (A5, a &&& b), (A6, a ||| b), (A7, ~~~a)]) := (by first | exact hid (HB.out.step hb4) | exact hid (HB.out.stepD hb4)); clear hb4 HB; have HB := HB'; clear HB'; have hk2 := HB.out.two_of_five)
          | (go_at_call 18; with_reducible refine (HHb.out _).mono ?_; rintro e w4 ⟨rfl, hb4⟩; have HB' : Hid (Stt w w4 [(w.heap.size, a), (w.heap.size + 1, b), (A5, a &&& b), (A6, a ||| b), (A7, ~~~a)]) := (by first | exact hid (HB.out.step hb4) | exact hid (HB.out.stepD hb4)); clear hb4 HB; have HB := HB'; clear HB'; have hk2 := HB.out.two_of_five))
        obtain ⟨⟨q0, q1, q2, q3⟩, ⟨q4, q5, q6, q7⟩, ⟨q8, q9, q10, q11⟩⟩ := HB.out.rest_cells
        go_wp2_with (first
          | (go_at_call 18; with_reducible refine (HH5.out _).mono ?_; rintro e w4 ⟨rfl, hb4⟩; have HB' : Hid (Stt w w4 [(w.heap.size, a), (w.heap.size + 1, b), (A5, a &&& b), (A6, a ||| b), (A7, ~~~a)]) := (by first | exact hid (HB.out.step hb4) | exact hid (HB.out.stepD hb4)); clear hb4 HB; have HB := HB'; clear HB'; clear q0 q1 q2 q3 q4 q5 q6 q7 q8 q9 q10 q11; obtain ⟨⟨q0, q1, q2, q3⟩, ⟨q4, q5, q6, q7⟩, ⟨q8, q9, q10, q11⟩⟩ := HB.out.rest_cells)
          | (go_at_call 18; with_reducible refine (HH6.out _).mono ?_; rintro e w4 ⟨rfl, hb4⟩; have HB' : Hid (Stt w w4 [(w.heap.size, a), (w.heap.size + 1, b), (A5, a &&& b), (A6, a ||| b), (A7, ~~~a)]) := (by first | exact hid (HB.out.step hb4) | exact hid (HB.out.stepD hb4)); clear hb4 HB; have HB := HB'; clear HB'; clear q0 q1 q2 q3 q4 q5 q6 q7 q8 q9 q10 q11; obtain ⟨⟨q0, q1, q2, q3⟩, ⟨q4, q5, q6, q7⟩, ⟨q8, q9, q10, q11⟩⟩ := HB.out.rest_cells)
          | (go_at_call 18; with_reducible refine (HH7.out _).mono ?_; rintro e w4 ⟨rfl, hb4⟩; have HB' : Hid (Stt w w4 [(w.heap.size, a), (w.heap.size + 1, b), (A5, a &&& b), (A6, a ||| b), (A7, ~~~a)]) := (by first | exact hid (HB.out.step hb4) | exact hid (HB.out.stepD hb4)); clear hb4 HB; have HB := HB'; clear HB'; clear q0 q1 q2 q3 q4 q5 q6 q7 q8 q9 q10 q11; obtain ⟨⟨q0, q1, q2, q3⟩, ⟨q4, q5, q6, q7⟩, ⟨q8, q9, q10, q11⟩⟩ := HB.out.rest_cells))
        have HK2 : lastK a (k + 1) = lastK a k := by simpa using HK.out
        go_roundw
        case rel => exact ⟨k + 1, by omega, by rw [HK2], by rw [HK2], congrArg (Value.int .i64) (by omega), HB⟩
        case measure => first | (simp [intOf]; done) | (simp [intOf]; omega)
      · go_wp2_with fail
        go_region_held3 (fun w' => w'.cell? ⟨w.heap.size, 0, none⟩ = some (.int .u64 ((wd a 0 : Nat) : Int)) ∧ w'.cell? ⟨w.heap.size, 1, none⟩ = some (.int .u64 ((wd a 1 : Nat) : Int)) ∧ w'.cell? ⟨w.heap.size, 2, none⟩ = some (.int .u64 ((wd a 2 : Nat) : Int)) ∧ w'.cell? ⟨w.heap.size, 3, none⟩ = some (.int .u64 ((wd a 3 : Nat) : Int)) ∧ w'.cell? ⟨w.heap.size + 1, 0, none⟩ = some (.int .u64 ((wd b 0 : Nat) : Int)) ∧ w'.cell? ⟨w.heap.size + 1, 1, none⟩ = some (.int .u64 ((wd b 1 : Nat) : Int)) ∧ w'.cell? ⟨w.heap.size + 1, 2, none⟩ = some (.int .u64 ((wd b 2 : Nat) : Int)) ∧ w'.cell? ⟨w.heap.size + 1, 3, none⟩ = some (.int .u64 ((wd b 3 : Nat) : Int)))
          (first | exact hk2 | assumption)
          (first
          | (go_at_call 18; with_reducible refine (HHa.out _).mono ?_; rintro e w4 ⟨rfl, hb4⟩; have HB' : Hid (Stt w w4 [(w.heap.size, a), (w.heap.size + 1, b), (A5, a &&& b), (A6, a ||| b), (A7, ~~~a)]) := (by first | exact hid (HB.out.step hb4) | exact hid (HB.out.stepD hb4)); clear hb4 HB; have HB := HB'; clear HB'; have hk2 := HB.out.two_of_five)
          | (go_at_call 18; with_reducible refine (HHb.out _).mono ?_; rintro e w4 ⟨rfl, hb4⟩; have HB' : Hid (Stt w w4 [(w.heap.size, a), (w.heap.size + 1, b), (A5, a &&& b), (A6, a ||| b), (A7, ~~~a)]) := (by first | exact hid (HB.out.step hb4) | exact hid (HB.out.stepD hb4)); clear hb4 HB; have HB := HB'; clear HB'; have hk2 := HB.out.two_of_five))
        obtain ⟨⟨q0, q1, q2, q3⟩, ⟨q4, q5, q6, q7⟩, ⟨q8, q9, q10, q11⟩⟩ := HB.out.rest_cells
        go_wp2_with (first
          | (go_at_call 18; with_reducible refine (HH5.out _).mono ?_; rintro e w4 ⟨rfl, hb4⟩; have HB' : Hid (Stt w w4 [(w.heap.size, a), (w.heap.size + 1, b), (A5, a &&& b), (A6, a ||| b), (A7, ~~~a)]) := (by first | exact hid (HB.out.step hb4) | exact hid (HB.out.stepD hb4)); clear hb4 HB; have HB := HB'; clear HB'; clear q0 q1 q2 q3 q4 q5 q6 q7 q8 q9 q10 q11; obtain ⟨⟨q0, q1, q2, q3⟩, ⟨q4, q5, q6, q7⟩, ⟨q8, q9, q10, q11⟩⟩ := HB.out.rest_cells)
          | (go_at_call 18; with_reducible refine (HH6.out _).mono ?_; rintro e w4 ⟨rfl, hb4⟩; have HB' : Hid (Stt w w4 [(w.heap.size, a), (w.heap.size + 1, b), (A5, a &&& b), (A6, a ||| b), (A7, ~~~a)]) := (by first | exact hid (HB.out.step hb4) | exact hid (HB.out.stepD hb4)); clear hb4 HB; have HB := HB'; clear HB'; clear q0 q1 q2 q3 q4 q5 q6 q7 q8 q9 q10 q11; obtain ⟨⟨q0, q1, q2, q3⟩, ⟨q4, q5, q6, q7⟩, ⟨q8, q9, q10, q11⟩⟩ := HB.out.rest_cells)
          | (go_at_call 18; with_reducible refine (HH7.out _).mono ?_; rintro e w4 ⟨rfl, hb4⟩; have HB' : Hid (Stt w w4 [(w.heap.size, a), (w.heap.size + 1, b), (A5, a &&& b), (A6, a ||| b), (A7, ~~~a)]) := (by first | exact hid (HB.out.step hb4) | exact hid (HB.out.stepD hb4)); clear hb4 HB; have HB := HB'; clear HB'; clear q0 q1 q2 q3 q4 q5 q6 q7 q8 q9 q10 q11; obtain ⟨⟨q0, q1, q2, q3⟩, ⟨q4, q5, q6, q7⟩, ⟨q8, q9, q10, q11⟩⟩ := HB.out.rest_cells))
        have HK2 : lastK a (k + 1) = c :: lastK a k := by simpa using HK.out
        go_roundw
        case rel => exact ⟨k + 1, by omega, by rw [HK2, List.length_cons]; go_num, by rw [HK2]; rfl, congrArg (Value.int .i64) (by omega), HB⟩
        case measure => first | (simp [intOf]; done) | (simp [intOf]; omega)
      · go_wp2_with fail
        go_region_held3 (fun w' => w'.cell? ⟨w.heap.size, 0, none⟩ = some (.int .u64 ((wd a 0 : Nat) : Int)) ∧ w'.cell? ⟨w.heap.size, 1, none⟩ = some (.int .u64 ((wd a 1 : Nat) : Int)) ∧ w'.cell? ⟨w.heap.size, 2, none⟩ = some (.int .u64 ((wd a 2 : Nat) : Int)) ∧ w'.cell? ⟨w.heap.size, 3, none⟩ = some (.int .u64 ((wd a 3 : Nat) : Int)) ∧ w'.cell? ⟨w.heap.size + 1, 0, none⟩ = some (.int .u64 ((wd b 0 : Nat) : Int)) ∧ w'.cell? ⟨w.heap.size + 1, 1, none⟩ = some (.int .u64 ((wd b 1 : Nat) : Int)) ∧ w'.cell? ⟨w.heap.size + 1, 2, none⟩ = some (.int .u64 ((wd b 2 : Nat) : Int)) ∧ w'.cell? ⟨w.heap.size + 1, 3, none⟩ = some (.int .u64 ((wd b 3 : Nat) : Int)))
          (first | exact hk2 | assumption)
          (first
          | (go_at_call 18; with_reducible refine (HHa.out _).mono ?_; rintro e w4 ⟨rfl, hb4⟩; have HB' : Hid (Stt w w4 [(w.heap.size, a), (w.heap.size + 1, b), (A5, a &&& b), (A6, a ||| b), (A7, ~~~a)]) := (by first | exact hid (HB.out.step hb4) | exact hid (HB.out.stepD hb4)); clear hb4 HB; have HB := HB'; clear HB'; have hk2 := HB.out.two_of_five)
          | (go_at_call 18; with_reducible refine (HHb.out _).mono ?_; rintro e w4 ⟨rfl, hb4⟩; have HB' : Hid (Stt w w4 [(w.heap.size, a), (w.heap.size + 1, b), (A5, a &&& b), (A6, a ||| b), (A7, ~~~a)]) := (by first | exact hid (HB.out.step hb4) | exact hid (HB.out.stepD hb4)); clear hb4 HB; have HB := HB'; clear HB'; have hk2 := HB.out.two_of_five))
        obtain ⟨⟨q0, q1, q2, q3⟩, ⟨q4, q5, q6, q7⟩, ⟨q8, q9, q10, q11⟩⟩ := HB.out.rest_cells
        go_wp2_with (first
          | (go_at_call 18; with_reducible refine (HH5.out _).mono ?_; rintro e w4 ⟨rfl, hb4⟩; have HB' : Hid (Stt w w4 [(w.heap.size, a), (w.heap.size + 1, b), (A5, a &&& b), (A6, a ||| b), (A7, ~~~a)]) := (by first | exact hid (HB.out.step hb4) | exact hid (HB.out.stepD hb4)); clear hb4 HB; have HB := HB'; clear HB'; clear q0 q1 q2 q3 q4 q5 q6 q7 q8 q9 q10 q11; obtain ⟨⟨q0, q1, q2, q3⟩, ⟨q4, q5, q6, q7⟩, ⟨q8, q9, q10, q11⟩⟩ := HB.out.rest_cells)
          | (go_at_call 18; with_reducible refine (HH6.out _).mono ?_; rintro e w4 ⟨rfl, hb4⟩; have HB' : Hid (Stt w w4 [(w.heap.size, a), (w.heap.size + 1, b), (A5, a &&& b), (A6, a ||| b), (A7, ~~~a)]) := (by first | exact hid (HB.out.step hb4) | exact hid (HB.out.stepD hb4)); clear hb4 HB; have HB := HB'; clear HB'; clear q0 q1 q2 q3 q4 q5 q6 q7 q8 q9 q10 q11; obtain ⟨⟨q0, q1, q2, q3⟩, ⟨q4, q5, q6, q7⟩, ⟨q8, q9, q10, q11⟩⟩ := HB.out.rest_cells)
          | (go_at_call 18; with_reducible refine (HH7.out _).mono ?_; rintro e w4 ⟨rfl, hb4⟩; have HB' : Hid (Stt w w4 [(w.heap.size, a), (w.heap.size + 1, b), (A5, a &&& b), (A6, a ||| b), (A7, ~~~a)]) := (by first | exact hid (HB.out.step hb4) | exact hid (HB.out.stepD hb4)); clear hb4 HB; have HB := HB'; clear HB'; clear q0 q1 q2 q3 q4 q5 q6 q7 q8 q9 q10 q11; obtain ⟨⟨q0, q1, q2, q3⟩, ⟨q4, q5, q6, q7⟩, ⟨q8, q9, q10, q11⟩⟩ := HB.out.rest_cells))
        have HK2 : lastK a (k + 1) = c :: lastK a k := by simpa using HK.out
        go_roundw
        case rel => exact ⟨k + 1, by omega, by rw [HK2, List.length_cons]; go_num, by rw [HK2]; rfl, congrArg (Value.int .i64) (by omega), HB⟩
        case measure => first | (simp [intOf]; done) | (simp [intOf]; omega)
    · obtain rfl : k = 256 := by omega
      have HF := hid (fun (W : World) (h : TabAt W) => first_any a h)
      have HL := hid (fun W => len_any a W)
      have HE := hid (fun W => empty_any a W)
      have HC := hid (fun W => check_any a W)
      rw [lastK_all]
      have hle := bytesOf_len a
      have hnil := bytes_nil a
      have hfi : ∀ x t, bytesOf a = x :: t → firstN a = x := fun x t h => by simp [firstN, h]
      have hf0 : bytesOf a = [] → firstN a = 0 := fun h => by simp [firstN, h]
      rw [show (255 : Int) - ((256 : Nat) : Int) = -1 by decide]
      obtain ⟨q0, q1, q2, q3, _⟩ := HB.out.two_of_five
      unfold setV at HF HL HE HC
      cases hl : bytesOf a with
      | nil =>
        have ha := hnil.1 hl
        rw [hf0 hl, decide_eq_true ha] at HF
        rw [hl] at HL
        rw [decide_eq_true ha] at HE
        rw [if_pos ha] at HC
        clear hnil hfi hf0 hle hl ha
        go_wp2_with (first
          | (go_at_call 19; with_reducible refine (HF.out _ (by exact HB.out.tab)).mono ?_; rintro e w4 ⟨rfl, hb4⟩; have HB' : Hid (Stt w w4 [(w.heap.size, a), (w.heap.size + 1, b), (A5, a &&& b), (A6, a ||| b), (A7, ~~~a)]) := (by first | exact hid (HB.out.step hb4) | exact hid (HB.out.stepD hb4)); clear hb4 HB; have HB := HB'; clear HB'; clear q0 q1 q2 q3; obtain ⟨q0, q1, q2, q3, _⟩ := HB.out.two_of_five)
          | (go_at_call 20; with_reducible refine (HL.out _).mono ?_; rintro e w4 ⟨rfl, hb4⟩; have HB' : Hid (Stt w w4 [(w.heap.size, a), (w.heap.size + 1, b), (A5, a &&& b), (A6, a ||| b), (A7, ~~~a)]) := (by first | exact hid (HB.out.step hb4) | exact hid (HB.out.stepD hb4)); clear hb4 HB; have HB := HB'; clear HB'; clear q0 q1 q2 q3; obtain ⟨q0, q1, q2, q3, _⟩ := HB.out.two_of_five)
          | (go_at_call 21; with_reducible refine (HE.out _).mono ?_; rintro e w4 ⟨rfl, hb4⟩; have HB' : Hid (Stt w w4 [(w.heap.size, a), (w.heap.size + 1, b), (A5, a &&& b), (A6, a ||| b), (A7, ~~~a)]) := (by first | exact hid (HB.out.step hb4) | exact hid (HB.out.stepD hb4)); clear hb4 HB; have HB := HB'; clear HB'; clear q0 q1 q2 q3; obtain ⟨q0, q1, q2, q3, _⟩ := HB.out.two_of_five)
          | (go_at_call 22; with_reducible refine (HC.out _).mono ?_; rintro e w4 ⟨rfl, hb4⟩; have HB' : Hid (Stt w w4 [(w.heap.size, a), (w.heap.size + 1, b), (A5, a &&& b), (A6, a ||| b), (A7, ~~~a)]) := (by first | exact hid (HB.out.step hb4) | exact hid (HB.out.stepD hb4)); clear hb4 HB; have HB := HB'; clear HB'; clear q0 q1 q2 q3; obtain ⟨q0, q1, q2, q3, _⟩ := HB.out.two_of_five))
        go_ret
        exact ⟨rfl, HB.out.bel⟩
      | cons x t =>
        have ha : a ≠ 0#256 := fun h => by rw [hnil.2 h] at hl; cases hl
        rw [hfi x t hl, decide_eq_false ha] at HF
        rw [hl] at HL hle
        rw [decide_eq_false ha] at HE
        rw [if_neg ha] at HC
        have hx : x < 256 := bytesOf_lt a x (by rw [hl]; simp)
        obtain ⟨m, hm, hm0⟩ : ∃ m : Nat, (x :: t).length = m ∧ 0 < m := ⟨_, rfl, by simp⟩
        rw [hm] at HL hle
        rw [hm]
        clear hnil hfi hf0 hl ha hm
        go_wp2_with (first
          | (go_at_call 19; with_reducible refine (HF.out _ (by exact HB.out.tab)).mono ?_; rintro e w4 ⟨rfl, hb4⟩; have HB' : Hid (Stt w w4 [(w.heap.size, a), (w.heap.size + 1, b), (A5, a &&& b), (A6, a ||| b), (A7, ~~~a)]) := (by first | exact hid (HB.out.step hb4) | exact hid (HB.out.stepD hb4)); clear hb4 HB; have HB := HB'; clear HB'; clear q0 q1 q2 q3; obtain ⟨q0, q1, q2, q3, _⟩ := HB.out.two_of_five)
          | (go_at_call 20; with_reducible refine (HL.out _).mono ?_; rintro e w4 ⟨rfl, hb4⟩; have HB' : Hid (Stt w w4 [(w.heap.size, a), (w.heap.size + 1, b), (A5, a &&& b), (A6, a ||| b), (A7, ~~~a)]) := (by first | exact hid (HB.out.step hb4) | exact hid (HB.out.stepD hb4)); clear hb4 HB; have HB := HB'; clear HB'; clear q0 q1 q2 q3; obtain ⟨q0, q1, q2, q3, _⟩ := HB.out.two_of_five)
          | (go_at_call 21; with_reducible refine (HE.out _).mono ?_; rintro e w4 ⟨rfl, hb4⟩; have HB' : Hid (Stt w w4 [(w.heap.size, a), (w.heap.size + 1, b), (A5, a &&& b), (A6, a ||| b), (A7, ~~~a)]) := (by first | exact hid (HB.out.step hb4) | exact hid (HB.out.stepD hb4)); clear hb4 HB; have HB := HB'; clear HB'; clear q0 q1 q2 q3; obtain ⟨q0, q1, q2, q3, _⟩ := HB.out.two_of_five)
          | (go_at_call 22; with_reducible refine (HC.out _).mono ?_; rintro e w4 ⟨rfl, hb4⟩; have HB' : Hid (Stt w w4 [(w.heap.size, a), (w.heap.size + 1, b), (A5, a &&& b), (A6, a ||| b), (A7, ~~~a)]) := (by first | exact hid (HB.out.step hb4) | exact hid (HB.out.stepD hb4)); clear hb4 HB; have HB := HB'; clear HB'; clear q0 q1 q2 q3; obtain ⟨q0, q1, q2, q3, _⟩ := HB.out.two_of_five))
        go_ret
        exact ⟨rfl, HB.out.bel⟩
end Go.Proofs.YthafegignjhcnaaDoor
