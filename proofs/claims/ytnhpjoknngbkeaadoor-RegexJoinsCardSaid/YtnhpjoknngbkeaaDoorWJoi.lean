/- The law RegexJoins, walked. -/
import Derived.Test.YtnhpjoknngbkeaaDoorRB7
import Derived.Test.YtnhpjoknngbkeaaDoorRl
namespace Go.Proofs.YtnhpjoknngbkeaaDoor
open Go.RowKit

theorem same_pair (k : Int) {vx vy v : RV} {tx ty : RT} {W : World} {P : Nat → Prop} (hv : Rep W P v (.nd k (0#256) [tx, ty] 0 0)) (hx : Rep W P vx tx) (hy : Rep W P vy ty) (B : Nat) (hB : Blk W B 27 (vx.cells ++ vy.cells)) (hs : szT (.nd k (0#256) [tx, ty] 0 0) ≤ 512) :
    Calls Tryd.prog 10 #[v.val, .agg #[.int .i64 k, .int .u64 0, .int .u64 0, .int .u64 0, .int .u64 0, .slice (some ⟨B, 0, none⟩) 2 2, .int .i64 0, .int .i64 0]] W fun e w' => e = .returned (.bool true) ∧ Below W.heap.size W w' := by
  have hr : Rep W (fun _ => True) ⟨k, 0#256, some ⟨B, 0, none⟩, 2, 2, 0, 0⟩ (.nd k (0#256) [tx, ty] 0 0) := by
    refine .mk ⟨k, 0#256, some ⟨B, 0, none⟩, 2, 2, 0, 0⟩ [tx, ty] (fun j => if j = 0 then vx else vy) rfl (fun _ => ⟨B, 0, rfl, hB.lt, trivial, fun j hj => ?_⟩) (fun j hj => ?_)
    · have hj2 : j < 2 := hj
      intro i hi
      rw [Nat.zero_add]
      have h1 := Blk.at hB (j * 8 + i)
      rw [h1]
      rcases (show j = 0 ∨ j = 1 by omega) with rfl | rfl
      · simp only [if_pos] at hi ⊢
        rw [RV.len] at hi
        rw [Nat.zero_mul, Nat.zero_add, List.getElem?_append_left (by rw [RV.len]; exact hi), List.getElem?_eq_getElem]
      · simp only [show ¬ (1 = 0) by omega, if_false] at hi ⊢
        rw [RV.len] at hi
        rw [List.getElem?_append_right (by rw [RV.len]; omega), RV.len, show 1 * 8 + i - 8 = i by omega, List.getElem?_eq_getElem]
    · simp only [List.length_cons, List.length_nil] at hj
      rcases (show j = 0 ∨ j = 1 by omega) with rfl | rfl
      · exact hx.mono (Nat.le_refl _) (fun _ _ _ => rfl) (fun _ _ _ => trivial)
      · exact hy.mono (Nat.le_refl _) (fun _ _ _ => rfl) (fun _ _ _ => trivial)
  have h := same_any _ _ v _ W _ _ hv hr hs hs
  rw [sm_refl] at h
  have e : (RV.mk k (0#256) (some ⟨B, 0, none⟩) 2 2 0 0).val = .agg #[.int .i64 k, .int .u64 0, .int .u64 0, .int .u64 0, .int .u64 0, .slice (some ⟨B, 0, none⟩) 2 2, .int .i64 0, .int .i64 0] := by simp [RV.val, wd_zero]
  rw [e] at h
  exact h
theorem same_one {vx v : RV} {tx : RT} {W : World} {P : Nat → Prop} (hv : Rep W P v (.nd 5 (0#256) [tx] 0 (-1))) (hx : Rep W P vx tx) (B : Nat) (hB : Blk W B 27 vx.cells) (hs : szT (.nd 5 (0#256) [tx] 0 (-1)) ≤ 512) :
    Calls Tryd.prog 10 #[v.val, .agg #[.int .i64 5, .int .u64 0, .int .u64 0, .int .u64 0, .int .u64 0, .slice (some ⟨B, 0, none⟩) 1 1, .int .i64 0, .int .i64 (-1)]] W fun e w' => e = .returned (.bool true) ∧ Below W.heap.size W w' := by
  have hr : Rep W (fun _ => True) ⟨5, 0#256, some ⟨B, 0, none⟩, 1, 1, 0, -1⟩ (.nd 5 (0#256) [tx] 0 (-1)) := by
    refine .mk ⟨5, 0#256, some ⟨B, 0, none⟩, 1, 1, 0, -1⟩ [tx] (fun _ => vx) rfl (fun _ => ⟨B, 0, rfl, hB.lt, trivial, fun j hj => ?_⟩) (fun j hj => ?_)
    · have hj2 : j < 1 := hj
      obtain rfl : j = 0 := by omega
      intro i hi
      rw [RV.len] at hi
      rw [Blk.at hB (0 + 0 * 8 + i), Nat.zero_mul, Nat.zero_add, List.getElem?_eq_getElem]
    · simp only [List.length_cons, List.length_nil] at hj
      obtain rfl : j = 0 := by omega
      exact hx.mono (Nat.le_refl _) (fun _ _ _ => rfl) (fun _ _ _ => trivial)
  have h := same_any _ _ v _ W _ _ hv hr hs hs
  rw [sm_refl] at h
  have e : (RV.mk 5 (0#256) (some ⟨B, 0, none⟩) 1 1 0 (-1)).val = .agg #[.int .i64 5, .int .u64 0, .int .u64 0, .int .u64 0, .int .u64 0, .slice (some ⟨B, 0, none⟩) 1 1, .int .i64 0, .int .i64 (-1)] := by simp [RV.val, wd_zero]
  rw [e] at h
  exact h
/-- What Parse answers, whatever it is. -/
theorem ParseR.un {r : Except (Nat × Nat) RT} {w : World} {e : Ending} {w' : World} (h : ParseR r w e w') (hne : ∀ e, r = .error e → e.1 ≠ 0) : Below w.heap.size w w' ∧ ∃ (v : RV) (c p : Nat) (t : RT), e = .returned (.tuple #[.agg v.cells.toArray, .agg (faultC (c : Int) (p : Int))]) ∧ (c = 0 → p = 0 ∧ r = .ok t ∧ Rep w' (w.heap.size ≤ ·) v t) ∧ (c ≠ 0 → r = .error (c, p)) := by
  obtain ⟨hb, h⟩ := h
  refine ⟨hb, ?_⟩
  cases r with
  | error x =>
    obtain ⟨c, p⟩ := x
    exact ⟨RV.zero, c, p, .nd 0 (0#256) [] 0 0, by rw [zeroR_eq]; exact h, fun hc => absurd hc (hne _ rfl), fun _ => rfl⟩
  | ok t =>
    obtain ⟨v, rfl, hr⟩ := h
    exact ⟨v, 0, 0, t, rfl, fun _ => ⟨rfl, rfl, hr⟩, fun h => absurd rfl h⟩
/-- What the law holds: expressions that were read, if they were, and faults. -/
structure Jn (w : World) (L : List (Nat × RV × RT × Nat)) (F : List (Nat × Nat × Nat)) (W : World) : Prop where
  bel : Below w.heap.size w W
  rx : ∀ x ∈ L, x.2.2.2 = 0 → Blk W x.1 27 x.2.1.cells ∧ Rep W (w.heap.size ≤ ·) x.2.1 x.2.2.1
  ft : ∀ x ∈ F, Blk W x.1 30 (faultC (x.2.1 : Int) (x.2.2 : Int)).toList
theorem Jn.step {w W W' : World} {L : List (Nat × RV × RT × Nat)} {F : List (Nat × Nat × Nat)} (h : Jn w L F W) (hb : Below W.heap.size W W') : Jn w L F W' :=
  ⟨h.bel.trans (hb.mono h.bel.size), fun x hx h0 => ⟨(h.rx x hx h0).1.keep hb, (h.rx x hx h0).2.keep hb⟩, fun x hx => (h.ft x hx).keep hb⟩
/-- The two new variables. -/
def boxW (W : World) (v : RV) (c p : Int) : World := (((W.alloc (.cells #[.int .i64 0, .int .u64 0, .int .u64 0, .int .u64 0, .int .u64 0, .slice none 0 0, .int .i64 0, .int .i64 0] 27)).alloc (.cells #[.int .i64 0, .int .i64 0] 30)).setRow W.heap.size v.cells.toArray).setRow (W.heap.size + 1) (faultC c p)
theorem Jn.push {w W W' : World} {L : List (Nat × RV × RT × Nat)} {F : List (Nat × Nat × Nat)} (h : Jn w L F W) (hb : Below W.heap.size W W') (v : RV) (c p : Nat) {t : RT} (hr : c = 0 → Rep W' (W.heap.size ≤ ·) v t) : Jn w (L ++ [(W'.heap.size, v, t, c)]) (F ++ [(W'.heap.size + 1, c, p)]) (boxW W' v c p) := by
  obtain ⟨hbx, hx, hf⟩ := box_pf W' v c p
  have h2 := (h.step hb).step hbx
  refine ⟨h2.bel, fun x hx2 h0 => ?_, fun x hx2 => ?_⟩
  · rcases List.mem_append.1 hx2 with hx3 | hx3
    · exact h2.rx x hx3 h0
    · simp only [List.mem_cons, List.not_mem_nil, or_false] at hx3
      subst hx3
      exact ⟨hx, ((hr h0).mono (Nat.le_refl _) (fun _ _ _ => rfl) (fun b hb2 _ => Nat.le_trans h.bel.size hb2)).keep hbx⟩
  · rcases List.mem_append.1 hx2 with hx3 | hx3
    · exact h2.ft x hx3
    · simp only [List.mem_cons, List.not_mem_nil, or_false] at hx3
      subst hx3
      exact hf
theorem run_idx3_0 (a b c d e f : Value) (W : World) : (Instr.index 38 (.agg #[a, b, c, d, e, f]) (.int .i64 0)).run Tryd.prog W = .ok (.agg #[a, b]) W := by kernel_rfl
theorem run_idx3_1 (a b c d e f : Value) (W : World) : (Instr.index 38 (.agg #[a, b, c, d, e, f]) (.int .i64 1)).run Tryd.prog W = .ok (.agg #[c, d]) W := by kernel_rfl
theorem run_idx3_2 (a b c d e f : Value) (W : World) : (Instr.index 38 (.agg #[a, b, c, d, e, f]) (.int .i64 2)).run Tryd.prog W = .ok (.agg #[e, f]) W := by kernel_rfl
theorem pair_call (k : Int) {w W : World} {L : List (Nat × RV × RT × Nat)} {F : List (Nat × Nat × Nat)} (h : Jn w L F W) {bx bz b : Nat} {vx vy v : RV} {tx ty : RT} (hx : (bx, vx, tx, 0) ∈ L) (hy : (bz, vy, ty, 0) ∈ L) (hv : (b, v, RT.nd k (0#256) [tx, ty] 0 0, 0) ∈ L) (hs : szT (.nd k (0#256) [tx, ty] 0 0) ≤ 512) :
    Calls Tryd.prog 10 #[.agg #[.int .i64 v.k, .int .u64 ((wd v.s 0 : Nat) : Int), .int .u64 ((wd v.s 1 : Nat) : Int), .int .u64 ((wd v.s 2 : Nat) : Int), .int .u64 ((wd v.s 3 : Nat) : Int), .slice v.A v.n v.c, .int .i64 v.lo, .int .i64 v.hi], .agg #[.int .i64 k, .int .u64 0, .int .u64 0, .int .u64 0, .int .u64 0, .slice (some ⟨W.heap.size, 0, none⟩) 2 2, .int .i64 0, .int .i64 0]] (W.alloc (.cells #[.int .i64 vx.k, .int .u64 ((wd vx.s 0 : Nat) : Int), .int .u64 ((wd vx.s 1 : Nat) : Int), .int .u64 ((wd vx.s 2 : Nat) : Int), .int .u64 ((wd vx.s 3 : Nat) : Int), .slice vx.A vx.n vx.c, .int .i64 vx.lo, .int .i64 vx.hi, .int .i64 vy.k, .int .u64 ((wd vy.s 0 : Nat) : Int), .int .u64 ((wd vy.s 1 : Nat) : Int), .int .u64 ((wd vy.s 2 : Nat) : Int), .int .u64 ((wd vy.s 3 : Nat) : Int), .slice vy.A vy.n vy.c, .int .i64 vy.lo, .int .i64 vy.hi] 27)) fun e w' => e = .returned (.bool true) ∧ Jn w L F w' := by
  have hb : Below W.heap.size W (W.alloc (.cells (vx.cells ++ vy.cells).toArray 27)) := (Below.refl _ _).alloc (Nat.le_refl _) _
  have h2 := h.step hb
  refine (same_pair k (h2.rx _ hv rfl).2 (h2.rx _ hx rfl).2 (h2.rx _ hy rfl).2 W.heap.size (heap_alloc_new W _) hs).mono ?_
  rintro e w' ⟨he, hb2⟩
  exact ⟨he, h2.step hb2⟩
theorem one_call {w W : World} {L : List (Nat × RV × RT × Nat)} {F : List (Nat × Nat × Nat)} (h : Jn w L F W) {bx b : Nat} {vx v : RV} {tx : RT} (hx : (bx, vx, tx, 0) ∈ L) (hv : (b, v, RT.nd 5 (0#256) [tx] 0 (-1), 0) ∈ L) (hs : szT (.nd 5 (0#256) [tx] 0 (-1)) ≤ 512) :
    Calls Tryd.prog 10 #[.agg #[.int .i64 v.k, .int .u64 ((wd v.s 0 : Nat) : Int), .int .u64 ((wd v.s 1 : Nat) : Int), .int .u64 ((wd v.s 2 : Nat) : Int), .int .u64 ((wd v.s 3 : Nat) : Int), .slice v.A v.n v.c, .int .i64 v.lo, .int .i64 v.hi], .agg #[.int .i64 5, .int .u64 0, .int .u64 0, .int .u64 0, .int .u64 0, .slice (some ⟨W.heap.size, 0, none⟩) 1 1, .int .i64 0, .int .i64 (-1)]] (W.alloc (.cells #[.int .i64 vx.k, .int .u64 ((wd vx.s 0 : Nat) : Int), .int .u64 ((wd vx.s 1 : Nat) : Int), .int .u64 ((wd vx.s 2 : Nat) : Int), .int .u64 ((wd vx.s 3 : Nat) : Int), .slice vx.A vx.n vx.c, .int .i64 vx.lo, .int .i64 vx.hi] 27)) fun e w' => e = .returned (.bool true) ∧ Jn w L F w' := by
  have hb : Below W.heap.size W (W.alloc (.cells vx.cells.toArray 27)) := (Below.refl _ _).alloc (Nat.le_refl _) _
  have h2 := h.step hb
  refine (same_one (h2.rx _ hv rfl).2 (h2.rx _ hx rfl).2 W.heap.size (heap_alloc_new W _) hs).mono ?_
  rintro e w' ⟨he, hb2⟩
  exact ⟨he, h2.step hb2⟩
set_option maxRecDepth 100000 in
set_option maxHeartbeats 8000000 in
theorem joins_walk (la lb : List UInt8) (w : World) (hT : TabAt w) :
    Calls Tryd.prog 4 #[.string ⟨la.toArray⟩, .string ⟨lb.toArray⟩] w fun e w' => e = .returned (.bool true) ∧ Below w.heap.size w w' := by
  have HRd := hid (reads_any hT)
  have sa : (⟨la.toArray⟩ : ByteArray).size = la.length := by simp [ByteArray.size]
  have sb : (⟨lb.toArray⟩ : ByteArray).size = lb.length := by simp [ByteArray.size]
  by_cases hla : 200 < la.length
  · have n1 : (200 : Int) < ((⟨la.toArray⟩ : ByteArray).size : Int) := by rw [sa]; omega
    generalize (⟨la.toArray⟩ : ByteArray) = A at *
    generalize (⟨lb.toArray⟩ : ByteArray) = B at *
    clear sa sb hT hla
    go_enter Tryd.func4, Tryd.ntmps4
    go_wp2_with fail
    refine HRd.out.mono ?_
    rintro e w1 ⟨rfl, hb⟩
    have HB := hid hb
    clear hb
    go_wp2_with fail
    go_ret
    exact ⟨rfl, HB.out⟩
  by_cases hlb : 200 < lb.length
  · have n1 : ¬ (200 : Int) < ((⟨la.toArray⟩ : ByteArray).size : Int) := by rw [sa]; omega
    have n2 : (200 : Int) < ((⟨lb.toArray⟩ : ByteArray).size : Int) := by rw [sb]; omega
    generalize (⟨la.toArray⟩ : ByteArray) = A at *
    generalize (⟨lb.toArray⟩ : ByteArray) = B at *
    clear sa sb hT hlb hla
    go_enter Tryd.func4, Tryd.ntmps4
    go_wp2_with fail
    refine HRd.out.mono ?_
    rintro e w1 ⟨rfl, hb⟩
    have HB := hid hb
    clear hb
    go_wp2_with fail
    go_ret
    exact ⟨rfl, HB.out⟩
  have n1 : ¬ (200 : Int) < (la.length : Int) := by omega
  have n2 : ¬ (200 : Int) < (lb.length : Int) := by omega
  have HPa := hid (fun W => parse_any ⟨la.toArray⟩ W)
  have HPb := hid (fun W => parse_any ⟨lb.toArray⟩ W)
  have HEa := hid (show ∀ e, pParse la = .error e → e.1 ≠ 0 from fun e h => by have := (pParse_er h).1.1; omega)
  have HEb := hid (show ∀ e, pParse lb = .error e → e.1 ≠ 0 from fun e h => by have := (pParse_er h).1.1; omega)
  have HJ := hid (fun x y (h1 : pParse la = .ok x) (h2 : pParse lb = .ok y) => joins_cat h1 h2 (by omega))
  have HJ2 := hid (fun x y (h1 : pParse la = .ok x) (h2 : pParse lb = .ok y) => joins_alt h1 h2 (by omega))
  have HJ3 := hid (fun x (h1 : pParse la = .ok x) => joins_rep h1 (by omega))
  have HLa := hid (show la.length ≤ 200 by omega)
  have HLb := hid (show lb.length ≤ 200 by omega)
  clear hT hla hlb sa sb
  go_enter Tryd.func4, Tryd.ntmps4
  go_wp2_with fail
  refine HRd.out.mono ?_
  rintro e w1 ⟨rfl, hb1⟩
  have G1 := hid (show Jn w [] [] w1 from ⟨hb1, (fun x hx => nomatch hx), (fun x hx => nomatch hx)⟩)
  clear hb1 HRd
  go_wp2_with fail
  refine (HPa.out _).mono ?_
  rintro e w2 hp2
  obtain ⟨hb2, vx, cf, pf, tx, rfl, hr2, hr2'⟩ := ParseR.un hp2 HEa.out
  have G2 := hid (G1.out.push hb2 vx cf pf (t := tx) (fun h => (hr2 h).2.2))
  have OX := hid (fun h => (hr2 h).2.1)
  clear hp2 hb2 hr2 hr2' HPa n1 n2 G1 HEa
  go_upto_region 6 with (first
      | (refine wpList_store_row rfl 27 _ _ rfl w2.heap.size (vx.cells.toArray) ?_ ?_ 27 #[.int .i64 0, .int .u64 0, .int .u64 0, .int .u64 0, .int .u64 0, .slice none 0 0, .int .i64 0, .int .i64 0] ((Below.heap_alloc _ _ _ (by simp)).trans (heap_alloc_new w2 _)) (rx_size vx) ?_ (rx_one vx) ?_; exact rfl; exact rfl; exact rfl)
      | (refine wpList_store_row rfl 30 _ _ rfl (w2.heap.size + 1) (faultC (cf : Int) (pf : Int)) ?_ ?_ 30 #[.int .i64 0, .int .i64 0] (pf_mid w2 _) (fault_size (cf : Int) (pf : Int)) ?_ (fault_one (cf : Int) (pf : Int)) ?_; exact rfl; exact rfl; exact rfl))
  change Code.wp _ _ _ _ (boxW w2 vx cf pf)
  generalize boxW w2 vx cf pf = w3 at *
  generalize w2.heap.size = bx at *
  go_wp2_with fail
  refine (HPb.out _).mono ?_
  rintro e w4 hp4
  obtain ⟨hb4, vy, cg, pg, ty, rfl, hr4, hr4'⟩ := ParseR.un hp4 HEb.out
  have G4 := hid (G2.out.push hb4 vy cg pg (t := ty) (fun h => (hr4 h).2.2))
  have OY := hid (fun h => (hr4 h).2.1)
  clear hp4 hb4 hr4 hr4' HPb G2 HEb
  go_upto_region 7 with (first
      | (refine wpList_store_row rfl 27 _ _ rfl w4.heap.size (vy.cells.toArray) ?_ ?_ 27 #[.int .i64 0, .int .u64 0, .int .u64 0, .int .u64 0, .int .u64 0, .slice none 0 0, .int .i64 0, .int .i64 0] ((Below.heap_alloc _ _ _ (by simp)).trans (heap_alloc_new w4 _)) (rx_size vy) ?_ (rx_one vy) ?_; exact rfl; exact rfl; exact rfl)
      | (refine wpList_store_row rfl 30 _ _ rfl (w4.heap.size + 1) (faultC (cg : Int) (pg : Int)) ?_ ?_ 30 #[.int .i64 0, .int .i64 0] (pf_mid w4 _) (fault_size (cg : Int) (pg : Int)) ?_ (fault_one (cg : Int) (pg : Int)) ?_; exact rfl; exact rfl; exact rfl))
  change Code.wp _ _ _ _ (boxW w4 vy cg pg)
  generalize boxW w4 vy cg pg = w5 at *
  generalize w4.heap.size = bz at *
  have f0 : w5.cell? ⟨bx + 1, 0, none⟩ = some (.int .i64 (cf : Int)) := (faultB (G4.out.ft (bx + 1, cf, pf) (by simp))).1
  have g0 : w5.cell? ⟨bz + 1, 0, none⟩ = some (.int .i64 (cg : Int)) := (faultB (G4.out.ft (bz + 1, cg, pg) (by simp))).1
  by_cases hcf : cf = 0
  rotate_left
  · have h' : ¬ (cf : Int) = 0 := by omega
    have HB5 := hid G4.out.bel
    clear G4 HJ HJ2 HJ3 OX OY
    go_wp2_with fail
    go_ret
    exact ⟨rfl, HB5.out⟩
  by_cases hcg : cg = 0
  rotate_left
  · have h' : ¬ (cg : Int) = 0 := by omega
    have hcf' : (cf : Int) = 0 := by omega
    have HB5 := hid G4.out.bel
    clear G4 HJ HJ2 HJ3 OX OY hcg hcf
    go_wp2_with fail
    go_ret
    exact ⟨rfl, HB5.out⟩
  obtain rfl := hcf
  obtain rfl := hcg
  have hx := OX.out rfl
  have hy := OY.out rfl
  have W1 := hid (HJ.out tx ty hx hy)
  have W2 := hid (HJ2.out tx ty hx hy)
  have W3 := hid (HJ3.out tx hx)
  clear HJ HJ2 HJ3 hx hy OX OY
  have had1 := fun W => run_strAdd [40] la (by have := HLa.out; simp; omega) W
  have had2 := fun W => run_strAdd ([40] ++ la) [41, 40] (by have := HLa.out; simp; omega) W
  have had3 := fun W => run_strAdd ([40] ++ la ++ [41, 40]) lb (by have := HLa.out; have := HLb.out; simp; omega) W
  have had4 := fun W => run_strAdd ([40] ++ la ++ [41, 40] ++ lb) [41] (by have := HLa.out; have := HLb.out; simp; omega) W
  have had5 := fun W => run_strAdd ([40] ++ la) [41, 124, 40] (by have := HLa.out; simp; omega) W
  have had6 := fun W => run_strAdd ([40] ++ la ++ [41, 124, 40]) lb (by have := HLa.out; have := HLb.out; simp; omega) W
  have had7 := fun W => run_strAdd ([40] ++ la ++ [41, 124, 40] ++ lb) [41] (by have := HLa.out; have := HLb.out; simp; omega) W
  have had8 := fun W => run_strAdd ([40] ++ la) [41, 42] (by have := HLa.out; simp; omega) W
  simp only [List.cons_append, List.nil_append] at had1 had2 had3 had4 had5 had6 had7 had8
  go_wp2_with fail
  refine (parse_any _ _).mono ?_
  rintro e w6 hp
  rw [show ((ByteArray.mk #[40]) ++ (ByteArray.mk la.toArray) ++ (ByteArray.mk #[41, 40]) ++ (ByteArray.mk lb.toArray) ++ (ByteArray.mk #[41])).data.toList = 40 :: (la ++ 41 :: 40 :: (lb ++ [41])) by simp] at hp
  obtain ⟨hb, v1, c1, p1, t, rfl, hr, hr'⟩ := ParseR.un hp (fun e h => by have := (pParse_er h).1.1; omega)
  have G6 := hid (G4.out.push hb v1 c1 p1 (t := (.nd 3 (0#256) [tx, ty] 0 0)) (fun h => by
    obtain ⟨_, h1, h2⟩ := hr h
    rcases W1.out with h3 | ⟨q, r, h3, _⟩
    · rw [h3] at h1; injection h1 with h1; rw [h1]; exact h2
    · rw [h3] at h1; cases h1))
  have Z1 := hid (show c1 = 0 → szT (.nd 3 (0#256) [tx, ty] 0 0) ≤ 512 from fun h => by
    obtain ⟨_, h1, _⟩ := hr h
    have h4 := (pParse_fine h1).2.1
    rcases W1.out with h3 | ⟨q, r, h3, _⟩
    · rw [h3] at h1; injection h1 with h1; rw [h1]; exact h4
    · rw [h3] at h1; cases h1)
  have C1 := hid (show c1 = 0 ∨ c1 = 2 ∨ c1 = 6 by
    by_cases h : c1 = 0
    · exact .inl h
    · have h1 := hr' h
      rcases W1.out with h3 | ⟨q, r, h3, h4⟩
      · rw [h3] at h1; cases h1
      · rw [h3] at h1; injection h1 with h1; injection h1 with h1 _; omega)
  clear hp hb hr hr' G4 W1
  go_upto_region 10 with (first
      | (refine wpList_store_row rfl 27 _ _ rfl w6.heap.size (v1.cells.toArray) ?_ ?_ 27 #[.int .i64 0, .int .u64 0, .int .u64 0, .int .u64 0, .int .u64 0, .slice none 0 0, .int .i64 0, .int .i64 0] ((Below.heap_alloc _ _ _ (by simp)).trans (heap_alloc_new w6 _)) (rx_size v1) ?_ (rx_one v1) ?_; exact rfl; exact rfl; exact rfl)
      | (refine wpList_store_row rfl 30 _ _ rfl (w6.heap.size + 1) (faultC (c1 : Int) (p1 : Int)) ?_ ?_ 30 #[.int .i64 0, .int .i64 0] (pf_mid w6 _) (fault_size (c1 : Int) (p1 : Int)) ?_ (fault_one (c1 : Int) (p1 : Int)) ?_; exact rfl; exact rfl; exact rfl))
  change Code.wp _ _ _ _ (boxW w6 v1 c1 p1)
  generalize boxW w6 v1 c1 p1 = w7 at *
  generalize w6.heap.size = b1 at *
  go_wp2_with fail
  refine (parse_any _ _).mono ?_
  rintro e w8 hp
  rw [show ((ByteArray.mk #[40]) ++ (ByteArray.mk la.toArray) ++ (ByteArray.mk #[41, 124, 40]) ++ (ByteArray.mk lb.toArray) ++ (ByteArray.mk #[41])).data.toList = 40 :: (la ++ 41 :: 124 :: 40 :: (lb ++ [41])) by simp] at hp
  obtain ⟨hb, v2, c2, p2, t, rfl, hr, hr'⟩ := ParseR.un hp (fun e h => by have := (pParse_er h).1.1; omega)
  have G8 := hid (G6.out.push hb v2 c2 p2 (t := (.nd 4 (0#256) [tx, ty] 0 0)) (fun h => by
    obtain ⟨_, h1, h2⟩ := hr h
    rcases W2.out with h3 | ⟨q, r, h3, _⟩
    · rw [h3] at h1; injection h1 with h1; rw [h1]; exact h2
    · rw [h3] at h1; cases h1))
  have Z2 := hid (show c2 = 0 → szT (.nd 4 (0#256) [tx, ty] 0 0) ≤ 512 from fun h => by
    obtain ⟨_, h1, _⟩ := hr h
    have h4 := (pParse_fine h1).2.1
    rcases W2.out with h3 | ⟨q, r, h3, _⟩
    · rw [h3] at h1; injection h1 with h1; rw [h1]; exact h4
    · rw [h3] at h1; cases h1)
  have C2 := hid (show c2 = 0 ∨ c2 = 2 ∨ c2 = 6 by
    by_cases h : c2 = 0
    · exact .inl h
    · have h1 := hr' h
      rcases W2.out with h3 | ⟨q, r, h3, h4⟩
      · rw [h3] at h1; cases h1
      · rw [h3] at h1; injection h1 with h1; injection h1 with h1 _; omega)
  clear hp hb hr hr' G6 W2
  go_upto_region 11 with (first
      | (refine wpList_store_row rfl 27 _ _ rfl w8.heap.size (v2.cells.toArray) ?_ ?_ 27 #[.int .i64 0, .int .u64 0, .int .u64 0, .int .u64 0, .int .u64 0, .slice none 0 0, .int .i64 0, .int .i64 0] ((Below.heap_alloc _ _ _ (by simp)).trans (heap_alloc_new w8 _)) (rx_size v2) ?_ (rx_one v2) ?_; exact rfl; exact rfl; exact rfl)
      | (refine wpList_store_row rfl 30 _ _ rfl (w8.heap.size + 1) (faultC (c2 : Int) (p2 : Int)) ?_ ?_ 30 #[.int .i64 0, .int .i64 0] (pf_mid w8 _) (fault_size (c2 : Int) (p2 : Int)) ?_ (fault_one (c2 : Int) (p2 : Int)) ?_; exact rfl; exact rfl; exact rfl))
  change Code.wp _ _ _ _ (boxW w8 v2 c2 p2)
  generalize boxW w8 v2 c2 p2 = w9 at *
  generalize w8.heap.size = b2 at *
  go_wp2_with fail
  refine (parse_any _ _).mono ?_
  rintro e w10 hp
  rw [show ((ByteArray.mk #[40]) ++ (ByteArray.mk la.toArray) ++ (ByteArray.mk #[41, 42])).data.toList = 40 :: (la ++ [41, 42]) by simp] at hp
  obtain ⟨hb, v3, c3, p3, t, rfl, hr, hr'⟩ := ParseR.un hp (fun e h => by have := (pParse_er h).1.1; omega)
  have G10 := hid (G8.out.push hb v3 c3 p3 (t := (.nd 5 (0#256) [tx] 0 (-1))) (fun h => by
    obtain ⟨_, h1, h2⟩ := hr h
    rcases W3.out with h3 | ⟨q, r, h3, _⟩
    · rw [h3] at h1; injection h1 with h1; rw [h1]; exact h2
    · rw [h3] at h1; cases h1))
  have Z3 := hid (show c3 = 0 → szT (.nd 5 (0#256) [tx] 0 (-1)) ≤ 512 from fun h => by
    obtain ⟨_, h1, _⟩ := hr h
    have h4 := (pParse_fine h1).2.1
    rcases W3.out with h3 | ⟨q, r, h3, _⟩
    · rw [h3] at h1; injection h1 with h1; rw [h1]; exact h4
    · rw [h3] at h1; cases h1)
  have C3 := hid (show c3 = 0 ∨ c3 = 2 ∨ c3 = 6 by
    by_cases h : c3 = 0
    · exact .inl h
    · have h1 := hr' h
      rcases W3.out with h3 | ⟨q, r, h3, h4⟩
      · rw [h3] at h1; cases h1
      · rw [h3] at h1; injection h1 with h1; injection h1 with h1 _; omega)
  clear hp hb hr hr' G8 W3
  go_upto_region 12 with (first
      | (refine wpList_store_row rfl 27 _ _ rfl w10.heap.size (v3.cells.toArray) ?_ ?_ 27 #[.int .i64 0, .int .u64 0, .int .u64 0, .int .u64 0, .int .u64 0, .slice none 0 0, .int .i64 0, .int .i64 0] ((Below.heap_alloc _ _ _ (by simp)).trans (heap_alloc_new w10 _)) (rx_size v3) ?_ (rx_one v3) ?_; exact rfl; exact rfl; exact rfl)
      | (refine wpList_store_row rfl 30 _ _ rfl (w10.heap.size + 1) (faultC (c3 : Int) (p3 : Int)) ?_ ?_ 30 #[.int .i64 0, .int .i64 0] (pf_mid w10 _) (fault_size (c3 : Int) (p3 : Int)) ?_ (fault_one (c3 : Int) (p3 : Int)) ?_; exact rfl; exact rfl; exact rfl))
  change Code.wp _ _ _ _ (boxW w10 v3 c3 p3)
  generalize boxW w10 v3 c3 p3 = w11 at *
  generalize w10.heap.size = b3 at *
  clear had1 had2 had3 had4 had5 had6 had7 had8 f0 g0
  obtain ⟨e0, e1⟩ := faultB (G10.out.ft (b1 + 1, c1, p1) (by simp))
  obtain ⟨e2, e3⟩ := faultB (G10.out.ft (b2 + 1, c2, p2) (by simp))
  obtain ⟨e4, e5⟩ := faultB (G10.out.ft (b3 + 1, c3, p3) (by simp))
  go_wp2_with fail
  go_loopg [76] 4 (fun m i wr => ∃ j : Nat, j ≤ 3 ∧ 3 < m + j ∧ i = .int .i64 (j : Int) ∧ (0 < j → c1 = 0) ∧ (1 < j → c2 = 0) ∧ (2 < j → c3 = 0) ∧ Hid (Jn w [(bx, vx, tx, 0), (bz, vy, ty, 0), (b1, v1, .nd 3 (0#256) [tx, ty] 0 0, c1), (b2, v2, .nd 4 (0#256) [tx, ty] 0 0, c2), (b3, v3, .nd 5 (0#256) [tx] 0 (-1), c3)] [(bx + 1, 0, pf), (bz + 1, 0, pg), (b1 + 1, c1, p1), (b2 + 1, c2, p2), (b3 + 1, c3, p3)] wr))
  case atStart => exact ⟨0, by omega, by omega, rfl, by omega, by omega, by omega, G10⟩
  case round =>
    clear G10 e0 e1 e2 e3 e4 e5
    obtain ⟨j, hj, hm, rfl, hc1, hc2, hc3, HG⟩ := hrel
    obtain ⟨m, rfl⟩ : ∃ m, gk = m + 1 := ⟨gk - 1, by omega⟩
    rcases (show j = 0 ∨ j = 1 ∨ j = 2 ∨ j = 3 by omega) with rfl | rfl | rfl | rfl
    · have hal : Below wr.heap.size wr (wr.alloc (.cells #[.int .i64 (c1 : Int), .int .i64 (p1 : Int)] 30)) := (Below.refl _ _).alloc (Nat.le_refl _) _
      have HGn := hid (HG.out.step hal)
      have d0 : (wr.alloc (.cells #[.int .i64 (c1 : Int), .int .i64 (p1 : Int)] 30)).cell? ⟨wr.heap.size, 0, none⟩ = some (.int .i64 (c1 : Int)) := Blk.at (Blk.fresh wr 30 [.int .i64 (c1 : Int), .int .i64 (p1 : Int)]) 0
      have q0 := fun a b c d e f W => run_idx3_0 a b c d e f W
      clear hal HG
      go_upto_region 15 with (fail)
      generalize wr.alloc (.cells #[.int .i64 (c1 : Int), .int .i64 (p1 : Int)] 30) = w12 at *
      have HC := hid (show (1 = 1 ∧ c1 = 0) ∨ c1 = 2 ∨ c1 = 6 by rcases C1.out with h | h | h; exact .inl ⟨rfl, h⟩; exact .inr (.inl h); exact .inr (.inr h))
      by_cases h : c1 = 0
      · have d1 : w12.cell? ⟨wr.heap.size, 0, none⟩ = some (.int .i64 0) := by rw [d0, h]; rfl
        have R1 := hid (show (0 < 1 → c1 = 0) ∧ (1 < 1 → c2 = 0) ∧ (2 < 1 → c3 = 0) from ⟨fun _ => h, fun h => absurd h (by omega), fun h => absurd h (by omega)⟩)
        clear d0 h hc1 hc2 hc3 HC q0
        go_wp2_with fail
        go_roundg m
        case measure => omega
        case rel => exact ⟨1, by omega, by omega, rfl, R1.out.1, R1.out.2.1, R1.out.2.2, HGn⟩
      · by_cases h2 : c1 = 2
        · have d1 : w12.cell? ⟨wr.heap.size, 0, none⟩ = some (.int .i64 2) := by rw [d0, h2]; rfl
          clear d0 h h2 hc1 hc2 hc3 HC q0
          go_wp2_with fail
          go_ret
          exact ⟨rfl, HGn.out.bel⟩
        · have d1 : w12.cell? ⟨wr.heap.size, 0, none⟩ = some (.int .i64 6) := by
            rw [d0, show c1 = 6 by have := HC.out; omega]; rfl
          clear d0 h h2 hc1 hc2 hc3 HC q0
          go_wp2_with fail
          go_ret
          exact ⟨rfl, HGn.out.bel⟩
    · have hal : Below wr.heap.size wr (wr.alloc (.cells #[.int .i64 (c2 : Int), .int .i64 (p2 : Int)] 30)) := (Below.refl _ _).alloc (Nat.le_refl _) _
      have HGn := hid (HG.out.step hal)
      have d0 : (wr.alloc (.cells #[.int .i64 (c2 : Int), .int .i64 (p2 : Int)] 30)).cell? ⟨wr.heap.size, 0, none⟩ = some (.int .i64 (c2 : Int)) := Blk.at (Blk.fresh wr 30 [.int .i64 (c2 : Int), .int .i64 (p2 : Int)]) 0
      have q0 := fun a b c d e f W => run_idx3_1 a b c d e f W
      clear hal HG
      go_upto_region 15 with (fail)
      generalize wr.alloc (.cells #[.int .i64 (c2 : Int), .int .i64 (p2 : Int)] 30) = w12 at *
      have HC := hid (show (1 = 1 ∧ c2 = 0) ∨ c2 = 2 ∨ c2 = 6 by rcases C2.out with h | h | h; exact .inl ⟨rfl, h⟩; exact .inr (.inl h); exact .inr (.inr h))
      by_cases h : c2 = 0
      · have d1 : w12.cell? ⟨wr.heap.size, 0, none⟩ = some (.int .i64 0) := by rw [d0, h]; rfl
        have R1 := hid (show (0 < 2 → c1 = 0) ∧ (1 < 2 → c2 = 0) ∧ (2 < 2 → c3 = 0) from ⟨fun _ => hc1 (by omega), fun _ => h, fun h => absurd h (by omega)⟩)
        clear d0 h hc1 hc2 hc3 HC q0
        go_wp2_with fail
        go_roundg m
        case measure => omega
        case rel => exact ⟨2, by omega, by omega, rfl, R1.out.1, R1.out.2.1, R1.out.2.2, HGn⟩
      · by_cases h2 : c2 = 2
        · have d1 : w12.cell? ⟨wr.heap.size, 0, none⟩ = some (.int .i64 2) := by rw [d0, h2]; rfl
          clear d0 h h2 hc1 hc2 hc3 HC q0
          go_wp2_with fail
          go_ret
          exact ⟨rfl, HGn.out.bel⟩
        · have d1 : w12.cell? ⟨wr.heap.size, 0, none⟩ = some (.int .i64 6) := by
            rw [d0, show c2 = 6 by have := HC.out; omega]; rfl
          clear d0 h h2 hc1 hc2 hc3 HC q0
          go_wp2_with fail
          go_ret
          exact ⟨rfl, HGn.out.bel⟩
    · have hal : Below wr.heap.size wr (wr.alloc (.cells #[.int .i64 (c3 : Int), .int .i64 (p3 : Int)] 30)) := (Below.refl _ _).alloc (Nat.le_refl _) _
      have HGn := hid (HG.out.step hal)
      have d0 : (wr.alloc (.cells #[.int .i64 (c3 : Int), .int .i64 (p3 : Int)] 30)).cell? ⟨wr.heap.size, 0, none⟩ = some (.int .i64 (c3 : Int)) := Blk.at (Blk.fresh wr 30 [.int .i64 (c3 : Int), .int .i64 (p3 : Int)]) 0
      have q0 := fun a b c d e f W => run_idx3_2 a b c d e f W
      clear hal HG
      go_upto_region 15 with (fail)
      generalize wr.alloc (.cells #[.int .i64 (c3 : Int), .int .i64 (p3 : Int)] 30) = w12 at *
      have HC := hid (show (1 = 1 ∧ c3 = 0) ∨ c3 = 2 ∨ c3 = 6 by rcases C3.out with h | h | h; exact .inl ⟨rfl, h⟩; exact .inr (.inl h); exact .inr (.inr h))
      by_cases h : c3 = 0
      · have d1 : w12.cell? ⟨wr.heap.size, 0, none⟩ = some (.int .i64 0) := by rw [d0, h]; rfl
        have R1 := hid (show (0 < 3 → c1 = 0) ∧ (1 < 3 → c2 = 0) ∧ (2 < 3 → c3 = 0) from ⟨fun _ => hc1 (by omega), fun _ => hc2 (by omega), fun _ => h⟩)
        clear d0 h hc1 hc2 hc3 HC q0
        go_wp2_with fail
        go_roundg m
        case measure => omega
        case rel => exact ⟨3, by omega, by omega, rfl, R1.out.1, R1.out.2.1, R1.out.2.2, HGn⟩
      · by_cases h2 : c3 = 2
        · have d1 : w12.cell? ⟨wr.heap.size, 0, none⟩ = some (.int .i64 2) := by rw [d0, h2]; rfl
          clear d0 h h2 hc1 hc2 hc3 HC q0
          go_wp2_with fail
          go_ret
          exact ⟨rfl, HGn.out.bel⟩
        · have d1 : w12.cell? ⟨wr.heap.size, 0, none⟩ = some (.int .i64 6) := by
            rw [d0, show c3 = 6 by have := HC.out; omega]; rfl
          clear d0 h h2 hc1 hc2 hc3 HC q0
          go_wp2_with fail
          go_ret
          exact ⟨rfl, HGn.out.bel⟩
    · obtain rfl := hc1 (by omega)
      obtain rfl := hc2 (by omega)
      obtain rfl := hc3 (by omega)
      clear hc1 hc2 hc3 hj hm C1 C2 C3
      have K1 := hid (fun W (h : Jn w [(bx, vx, tx, 0), (bz, vy, ty, 0), (b1, v1, .nd 3 (0#256) [tx, ty] 0 0, 0), (b2, v2, .nd 4 (0#256) [tx, ty] 0 0, 0), (b3, v3, .nd 5 (0#256) [tx] 0 (-1), 0)] [(bx + 1, 0, pf), (bz + 1, 0, pg), (b1 + 1, 0, p1), (b2 + 1, 0, p2), (b3 + 1, 0, p3)] W) => pair_call 3 h (bx := bx) (bz := bz) (b := b1) (vx := vx) (vy := vy) (v := v1) (tx := tx) (ty := ty) (by simp) (by simp) (by simp) (Z1.out rfl))
      have K2 := hid (fun W (h : Jn w [(bx, vx, tx, 0), (bz, vy, ty, 0), (b1, v1, .nd 3 (0#256) [tx, ty] 0 0, 0), (b2, v2, .nd 4 (0#256) [tx, ty] 0 0, 0), (b3, v3, .nd 5 (0#256) [tx] 0 (-1), 0)] [(bx + 1, 0, pf), (bz + 1, 0, pg), (b1 + 1, 0, p1), (b2 + 1, 0, p2), (b3 + 1, 0, p3)] W) => pair_call 4 h (bx := bx) (bz := bz) (b := b2) (vx := vx) (vy := vy) (v := v2) (tx := tx) (ty := ty) (by simp) (by simp) (by simp) (Z2.out rfl))
      have K3 := hid (fun W (h : Jn w [(bx, vx, tx, 0), (bz, vy, ty, 0), (b1, v1, .nd 3 (0#256) [tx, ty] 0 0, 0), (b2, v2, .nd 4 (0#256) [tx, ty] 0 0, 0), (b3, v3, .nd 5 (0#256) [tx] 0 (-1), 0)] [(bx + 1, 0, pf), (bz + 1, 0, pg), (b1 + 1, 0, p1), (b2 + 1, 0, p2), (b3 + 1, 0, p3)] W) => one_call h (bx := bx) (b := b3) (vx := vx) (v := v3) (tx := tx) (by simp) (by simp) (Z3.out rfl))
      clear Z1 Z2 Z3
      obtain ⟨x0, x1, x2, x3, x4, x5, x6, x7⟩ := Blk.cells8' (HG.out.rx (bx, vx, tx, 0) (by simp) rfl).1
      obtain ⟨y0, y1, y2, y3, y4, y5, y6, y7⟩ := Blk.cells8' (HG.out.rx (bz, vy, ty, 0) (by simp) rfl).1
      obtain ⟨z0, z1, z2, z3, z4, z5, z6, z7⟩ := Blk.cells8' (HG.out.rx (b1, v1, .nd 3 (0#256) [tx, ty] 0 0, 0) (by simp) rfl).1
      go_wp2_with fail
      refine (K1.out wr HG.out).mono ?_
      rintro e w13 ⟨rfl, hg13⟩
      have HG2 := hid hg13
      clear hg13 HG K1 x0 x1 x2 x3 x4 x5 x6 x7 y0 y1 y2 y3 y4 y5 y6 y7 z0 z1 z2 z3 z4 z5 z6 z7
      obtain ⟨x0, x1, x2, x3, x4, x5, x6, x7⟩ := Blk.cells8' (HG2.out.rx (bx, vx, tx, 0) (by simp) rfl).1
      obtain ⟨y0, y1, y2, y3, y4, y5, y6, y7⟩ := Blk.cells8' (HG2.out.rx (bz, vy, ty, 0) (by simp) rfl).1
      obtain ⟨z0, z1, z2, z3, z4, z5, z6, z7⟩ := Blk.cells8' (HG2.out.rx (b2, v2, .nd 4 (0#256) [tx, ty] 0 0, 0) (by simp) rfl).1
      go_wp2_with fail
      refine (K2.out w13 HG2.out).mono ?_
      rintro e w14 ⟨rfl, hg14⟩
      have HG3 := hid hg14
      clear hg14 HG2 K2 x0 x1 x2 x3 x4 x5 x6 x7 y0 y1 y2 y3 y4 y5 y6 y7 z0 z1 z2 z3 z4 z5 z6 z7
      obtain ⟨x0, x1, x2, x3, x4, x5, x6, x7⟩ := Blk.cells8' (HG3.out.rx (bx, vx, tx, 0) (by simp) rfl).1
      obtain ⟨z0, z1, z2, z3, z4, z5, z6, z7⟩ := Blk.cells8' (HG3.out.rx (b3, v3, .nd 5 (0#256) [tx] 0 (-1), 0) (by simp) rfl).1
      go_wp2_with fail
      refine (K3.out w14 HG3.out).mono ?_
      rintro e w15 ⟨rfl, hg15⟩
      have HB := hid hg15.bel
      clear hg15 HG3 K3 x0 x1 x2 x3 x4 x5 x6 x7 z0 z1 z2 z3 z4 z5 z6 z7
      go_wp2_with fail
      go_ret
      exact ⟨rfl, HB.out⟩
theorem bytes_eq (a : ByteArray) : (⟨a.data.toList.toArray⟩ : ByteArray) = a := by cases a; rfl
theorem joins_law (a b : ByteArray) {w : World} (hT : TabAt w) : Calls Tryd.prog 4 #[.string a, .string b] w fun e w' => e = .returned (.bool true) ∧ Below w.heap.size w w' := by
  have h := joins_walk a.data.toList b.data.toList w hT
  rw [bytes_eq, bytes_eq] at h
  exact h
end Go.Proofs.YtnhpjoknngbkeaaDoor
