/- lex: the law LexGreat, walked. -/
import Derived.Test.YtmefllfmcjjbaaaLxK
import Derived.Lib.Repeat
namespace Go.Proofs.Ytmefllfmcjjbaaa
open Go.RowKit

theorem repeat_one (x : UInt8) : ∀ n, Lib.repeatL [x] n = List.replicate n x
  | 0 => rfl
  | n + 1 => by
    rw [Lib.repeatL, repeat_one x n, List.replicate_succ]
    rfl
theorem gap_semi (t : List UInt8) : gap false (59 :: t) = 0 := rfl
theorem front_semi (t : List UInt8) : front (59 :: t) = .ok (4, [59], 1) := by
  rw [front_cons, if_neg (by decide), if_neg (by decide), if_neg (by decide), if_neg (fun h => absurd h.1 (by decide)), if_pos (by decide)]
theorem semi_ok : ∀ (k m p n : Nat), k < m → n + k ≤ 8192 → ∃ ts, scanF m (List.replicate k 59) p n = .ok ts
  | 0, m, p, n, hm, _ => by
    obtain ⟨m, rfl⟩ : ∃ q, m = q + 1 := ⟨m - 1, by omega⟩
    exact ⟨_, rfl⟩
  | k + 1, m, p, n, hm, hn => by
    obtain ⟨m, rfl⟩ : ∃ q, m = q + 1 := ⟨m - 1, by omega⟩
    obtain ⟨ts, h⟩ := semi_ok k m (p + 0 + 1) (n + 1) (by omega) (by omega)
    rw [scanF_succ, List.replicate_succ, gap_semi, List.drop_zero, scanG_ok (by simp) (by omega) (front_semi _)]
    rw [show List.drop 1 (59 :: List.replicate k 59) = List.replicate k (59 : UInt8) from rfl, h]
    exact ⟨_, rfl⟩
theorem semi_bad : ∀ (k m p n : Nat), k < m → n ≤ 8192 → 8192 < n + k → scanF m (List.replicate k 59) p n = .error (2, p + (8192 - n))
  | 0, _, _, _, _, h1, h2 => absurd h2 (by omega)
  | k + 1, m, p, n, hm, hn, hk => by
    obtain ⟨m, rfl⟩ : ∃ q, m = q + 1 := ⟨m - 1, by omega⟩
    rw [scanF_succ, List.replicate_succ, gap_semi, List.drop_zero]
    by_cases h : n = 8192
    · subst h
      rw [scanG_full (by simp)]
    · rw [scanG_ok (by simp) h (front_semi _)]
      rw [show List.drop 1 (59 :: List.replicate k 59) = List.replicate k (59 : UInt8) from rfl, semi_bad k m _ _ (by omega) (by omega) (by omega)]
      show Except.error (2, p + 0 + 1 + (8192 - (n + 1))) = Except.error (2, p + (8192 - n))
      rw [show p + 0 + 1 + (8192 - (n + 1)) = p + (8192 - n) by omega]
theorem span_rep (p : UInt8 → Bool) (c : UInt8) (h : p c = true) : ∀ n, span p (List.replicate n c) = n
  | 0 => rfl
  | n + 1 => by rw [List.replicate_succ, span_cons, if_pos h, span_rep p c h n]
theorem gap_blank : ∀ n, gap false (List.replicate n 32) = n
  | 0 => rfl
  | n + 1 => by rw [List.replicate_succ, gap_cons, if_neg (by decide), if_pos (by decide), gap_blank n]
def fltT : Except (Nat × Nat) (List Tk) → Nat × Nat
  | .error e => e
  | .ok _ => (0, 0)
theorem scan_flt (s : ByteArray) (w : World) : Calls Try.prog 9 #[.string s] w fun e w' => Below w.heap.size w w' ∧ ∃ v, e = .returned (.tuple #[v, .agg #[.int .i64 ((fltT (scanT s.data.toList)).1 : Int), .int .i64 ((fltT (scanT s.data.toList)).2 : Int)]]) := by
  refine (scan_any s w).mono ?_
  rintro e w' ⟨hb, h⟩
  refine ⟨hb, ?_⟩
  cases hr : scanT s.data.toList with
  | error c =>
    rw [hr] at h
    exact ⟨_, h⟩
  | ok ts =>
    rw [hr] at h
    obtain ⟨v, h, _⟩ := h
    exact ⟨v, h⟩
theorem flt_semi (m : Nat) (hm : m ≤ 3) : fltT (scanT (List.replicate (8192 + m) 59)) = if m = 0 then (0, 0) else (2, 8192) := by
  unfold scanT
  rw [if_neg (by rw [List.length_replicate]; omega), List.length_replicate]
  by_cases h : m = 0
  · rw [if_pos h]
    obtain ⟨ts, e⟩ := semi_ok (8192 + m) (8192 + m + 2) 0 0 (by omega) (by omega)
    rw [e]; rfl
  · rw [if_neg h, semi_bad _ _ 0 0 (by omega) (by omega) (by omega)]; rfl
theorem flt_name (m : Nat) (hm : m ≤ 3) : fltT (scanT (List.replicate (24 + m) 97)) = if m = 0 then (0, 0) else (2, 0) := by
  have hs := span_rep namB 97 (by decide) (24 + m)
  have hlen : (List.replicate (24 + m) (97 : UInt8)).length = 24 + m := List.length_replicate
  obtain ⟨t, ht⟩ : ∃ t, List.replicate (24 + m) (97 : UInt8) = 97 :: t := ⟨List.replicate (23 + m) 97, by rw [show 24 + m = (23 + m) + 1 by omega, List.replicate_succ]⟩
  rw [ht] at hs hlen ⊢
  have hg : gap false (97 :: t) = 0 := rfl
  unfold scanT
  rw [if_neg (by omega), scanF_succ, hg, List.drop_zero]
  by_cases h : m = 0
  · rw [if_pos h]
    have hf : front (97 :: t) = .ok (1, (97 :: t).take (24 + m), 24 + m) := by rw [front_cons, if_pos (by decide), if_neg (by omega), hs]
    rw [scanG_ok (by simp) (by omega) hf, List.drop_eq_nil_of_le (by omega)]
    obtain ⟨f, hf2⟩ : ∃ f, (97 :: t).length + 1 = f + 1 := ⟨_, rfl⟩
    rw [hf2]
    rfl
  · rw [if_neg h]
    have hf : front (97 :: t) = .error 2 := by rw [front_cons, if_pos (by decide), if_pos (by omega)]
    rw [scanG_bad (by simp) (by omega) hf]; rfl
theorem flt_digits (m : Nat) (hm : m ≤ 3) : fltT (scanT (List.replicate (20 + m) 49)) = if m = 0 then (0, 0) else (2, 0) := by
  have hs := span_rep digB 49 (by decide) (20 + m)
  have hlen : (List.replicate (20 + m) (49 : UInt8)).length = 20 + m := List.length_replicate
  obtain ⟨t, ht⟩ : ∃ t, List.replicate (20 + m) (49 : UInt8) = 49 :: t := ⟨List.replicate (19 + m) 49, by rw [show 20 + m = (19 + m) + 1 by omega, List.replicate_succ]⟩
  rw [ht] at hs hlen ⊢
  have hg : gap false (49 :: t) = 0 := rfl
  unfold scanT
  rw [if_neg (by omega), scanF_succ, hg, List.drop_zero]
  by_cases h : m = 0
  · rw [if_pos h]
    have hf : front (49 :: t) = .ok (2, (49 :: t).take (20 + m), 20 + m) := by rw [front_cons, if_neg (by decide), if_pos (by decide), if_neg (by omega), if_neg (by simp), hs]
    rw [scanG_ok (by simp) (by omega) hf, List.drop_eq_nil_of_le (by omega)]
    obtain ⟨f, hf2⟩ : ∃ f, (49 :: t).length + 1 = f + 1 := ⟨_, rfl⟩
    rw [hf2]
    rfl
  · rw [if_neg h]
    have hf : front (49 :: t) = .error 2 := by rw [front_cons, if_neg (by decide), if_pos (by decide), if_pos (by omega)]
    rw [scanG_bad (by simp) (by omega) hf]; rfl
theorem flt_blank (m : Nat) (hm : m ≤ 3) : fltT (scanT (List.replicate (65536 + m) 32)) = if m = 0 then (0, 0) else (2, 0) := by
  unfold scanT
  rw [List.length_replicate]
  by_cases h : m = 0
  · rw [if_neg (by omega), if_pos h, scanF_succ, gap_blank, List.drop_eq_nil_of_le (by rw [List.length_replicate]; omega), scanG_end]; rfl
  · rw [if_pos (by omega), if_neg h]; rfl
theorem run_ft1 (W : World) : (binOp .eql 26 (.agg #[.int .i64 2, .int .i64 8192]) (.agg #[.int .i64 2, .int .i64 8192])).run Try.prog W = .ok (.bool true) W := by kernel_rfl
theorem run_ft2 (W : World) : (binOp .eql 26 (.agg #[.int .i64 2, .int .i64 0]) (.agg #[.int .i64 2, .int .i64 0])).run Try.prog W = .ok (.bool true) W := by kernel_rfl
/-- What the law's calls leave: so many faults. -/
structure GrSt (w : World) (L : List (Nat × Nat × Nat)) (W : World) : Prop where
  bel : Below w.heap.size w W
  ft : ∀ x ∈ L, Blk W x.1 26 [.int .i64 (x.2.1 : Int), .int .i64 (x.2.2 : Int)]
theorem GrSt.step {w W W' : World} {L : List (Nat × Nat × Nat)} (h : GrSt w L W) (hb : Below W.heap.size W W') : GrSt w L W' :=
  ⟨h.bel.trans (hb.mono h.bel.size), fun x hx => (h.ft x hx).keep hb⟩
theorem GrSt.push {w W : World} {L : List (Nat × Nat × Nat)} (h : GrSt w L W) (c p : Nat) : GrSt w (L ++ [(W.heap.size, c, p)]) (W.alloc (.cells #[.int .i64 (c : Int), .int .i64 (p : Int)] 26)) := by
  have hb := (Below.refl W.heap.size W).alloc (Nat.le_refl _) (.cells #[.int .i64 (c : Int), .int .i64 (p : Int)] 26)
  refine ⟨(h.step hb).bel, fun x hx => ?_⟩
  rcases List.mem_append.1 hx with hx | hx
  · exact (h.step hb).ft x hx
  · simp only [List.mem_cons, List.not_mem_nil, or_false] at hx
    subst hx
    exact Blk.fresh W 26 [.int .i64 (c : Int), .int .i64 (p : Int)]
/-- 'strings.Repeat' of one byte. -/
theorem rep_call (x : UInt8) (n : Nat) (hn : n ≤ 140737488355328) (w : World) : Calls Try.prog 16 #[.string ⟨#[x]⟩, .int .i64 (n : Int)] w fun e w' => e = .returned (.string ⟨(List.replicate n x).toArray⟩) ∧ Below w.heap.size w w' := by
  have h := Try.strings_Repeat ⟨#[x]⟩ n w (by omega) (by rw [show (⟨#[x]⟩ : ByteArray).size = 1 from rfl]; omega)
  rw [show (⟨#[x]⟩ : ByteArray).data.toList = [x] from rfl, repeat_one] at h
  exact h
set_option maxRecDepth 100000 in
set_option maxHeartbeats 8000000 in
theorem great_walk (m : Nat) (hm : m ≤ 3) (w : World) (fa fb fc fd : Nat × Nat) (ha : fltT (scanT (List.replicate (8192 + m) 59)) = fa) (hb : fltT (scanT (List.replicate (24 + m) 97)) = fb) (hc : fltT (scanT (List.replicate (20 + m) 49)) = fc) (hd : fltT (scanT (List.replicate (65536 + m) 32)) = fd)
    (hcase : (m = 0 ∧ fa = (0, 0) ∧ fb = (0, 0) ∧ fc = (0, 0) ∧ fd = (0, 0)) ∨ (m ≠ 0 ∧ fa = (2, 8192) ∧ fb = (2, 0) ∧ fc = (2, 0) ∧ fd = (2, 0))) :
    Calls Try.prog 7 #[.int .i64 (m : Int)] w fun e w' => e = .returned (.bool true) ∧ Below w.heap.size w w' := by
  have HCu := hid (fun W => cuts_any W)
  have r1 := hid (fun W => rep_call 59 (8192 + m) (by omega) W)
  have r2 := hid (fun W => rep_call 97 (24 + m) (by omega) W)
  have r3 := hid (fun W => rep_call 49 (20 + m) (by omega) W)
  have r4 := hid (fun W => rep_call 32 (65536 + m) (by omega) W)
  have s1 := hid (fun W => scan_flt ⟨(List.replicate (8192 + m) 59).toArray⟩ W)
  have s2 := hid (fun W => scan_flt ⟨(List.replicate (24 + m) 97).toArray⟩ W)
  have s3 := hid (fun W => scan_flt ⟨(List.replicate (20 + m) 49).toArray⟩ W)
  have s4 := hid (fun W => scan_flt ⟨(List.replicate (65536 + m) 32).toArray⟩ W)
  rw [show ((⟨(List.replicate (8192 + m) (59 : UInt8)).toArray⟩ : ByteArray)).data.toList = List.replicate (8192 + m) 59 by rfl, ha] at s1
  rw [show ((⟨(List.replicate (24 + m) (97 : UInt8)).toArray⟩ : ByteArray)).data.toList = List.replicate (24 + m) 97 by rfl, hb] at s2
  rw [show ((⟨(List.replicate (20 + m) (49 : UInt8)).toArray⟩ : ByteArray)).data.toList = List.replicate (20 + m) 49 by rfl, hc] at s3
  rw [show ((⟨(List.replicate (65536 + m) (32 : UInt8)).toArray⟩ : ByteArray)).data.toList = List.replicate (65536 + m) 32 by rfl, hd] at s4
  clear ha hb hc hd
  have z1 : ((8192 + m : Nat) : Int) = 8192 + (m : Int) := by omega
  have z2 : ((24 + m : Nat) : Int) = 24 + (m : Int) := by omega
  have z3 : ((20 + m : Nat) : Int) = 20 + (m : Int) := by omega
  have z4 : ((65536 + m : Nat) : Int) = 65536 + (m : Int) := by omega
  rw [z1] at r1
  rw [z2] at r2
  rw [z3] at r3
  rw [z4] at r4
  generalize (⟨(List.replicate (8192 + m) (59 : UInt8)).toArray⟩ : ByteArray) = T1 at *
  generalize (⟨(List.replicate (24 + m) (97 : UInt8)).toArray⟩ : ByteArray) = T2 at *
  generalize (⟨(List.replicate (20 + m) (49 : UInt8)).toArray⟩ : ByteArray) = T3 at *
  generalize (⟨(List.replicate (65536 + m) (32 : UInt8)).toArray⟩ : ByteArray) = T4 at *
  have o1 : wrap64 (8192 + (m : Int)) = 8192 + (m : Int) := by unfold wrap64; omega
  have o2 : wrap64 (24 + (m : Int)) = 24 + (m : Int) := by unfold wrap64; omega
  have o3 : wrap64 (20 + (m : Int)) = 20 + (m : Int) := by unfold wrap64; omega
  have o4 : wrap64 (65536 + (m : Int)) = 65536 + (m : Int) := by unfold wrap64; omega
  have m1 : ¬ (m : Int) < 0 := by omega
  have m2 : ¬ (3 : Int) < (m : Int) := by omega
  have HC := hid hcase
  obtain ⟨a0, a1⟩ := fa
  obtain ⟨b0, b1⟩ := fb
  obtain ⟨c0, c1⟩ := fc
  obtain ⟨d0, d1⟩ := fd
  simp only at s1 s2 s3 s4
  clear hcase z1 z2 z3 z4
  go_enter Try.func7, Try.ntmps7
  go_wp2_with fail
  refine (HCu.out _).mono ?_
  rintro e w0 ⟨rfl, hb0⟩
  have G0 := hid (show GrSt w [] w0 from ⟨hb0, fun x hx => by cases hx⟩)
  clear hb0 HCu
  go_wp2_with fail
  refine (r1.out _).mono ?_
  rintro e w1 ⟨rfl, hb1⟩
  have G1 := hid (G0.out.step hb1)
  clear hb1 G0 r1
  go_wp2_with fail
  refine (s1.out _).mono ?_
  rintro e w2 ⟨hb2, v2, rfl⟩
  have G2 := hid ((G1.out.step hb2).push a0 a1)
  clear hb2 G1 s1
  go_upto_region 6 with (fail)
  generalize w2.heap.size = n2 at *
  generalize w2.alloc (.cells #[.int .i64 (a0 : Int), .int .i64 (a1 : Int)] 26) = w3 at *
  go_wp2_with fail
  refine (r2.out _).mono ?_
  rintro e w4 ⟨rfl, hb1⟩
  have G3 := hid (G2.out.step hb1)
  clear hb1 G2 r2
  go_wp2_with fail
  refine (s2.out _).mono ?_
  rintro e w5 ⟨hb2, v5, rfl⟩
  have G4 := hid ((G3.out.step hb2).push b0 b1)
  clear hb2 G3 s2
  go_upto_region 7 with (fail)
  generalize w5.heap.size = n5 at *
  generalize w5.alloc (.cells #[.int .i64 (b0 : Int), .int .i64 (b1 : Int)] 26) = w6 at *
  go_wp2_with fail
  refine (r3.out _).mono ?_
  rintro e w7 ⟨rfl, hb1⟩
  have G5 := hid (G4.out.step hb1)
  clear hb1 G4 r3
  go_wp2_with fail
  refine (s3.out _).mono ?_
  rintro e w8 ⟨hb2, v8, rfl⟩
  have G6 := hid ((G5.out.step hb2).push c0 c1)
  clear hb2 G5 s3
  go_upto_region 8 with (fail)
  generalize w8.heap.size = n8 at *
  generalize w8.alloc (.cells #[.int .i64 (c0 : Int), .int .i64 (c1 : Int)] 26) = w9 at *
  go_wp2_with fail
  refine (r4.out _).mono ?_
  rintro e w10 ⟨rfl, hb1⟩
  have G7 := hid (G6.out.step hb1)
  clear hb1 G6 r4
  go_wp2_with fail
  refine (s4.out _).mono ?_
  rintro e w11 ⟨hb2, v11, rfl⟩
  have G8 := hid ((G7.out.step hb2).push d0 d1)
  clear hb2 G7 s4
  go_upto_region 9 with (fail)
  generalize w11.heap.size = n11 at *
  generalize w11.alloc (.cells #[.int .i64 (d0 : Int), .int .i64 (d1 : Int)] 26) = w12 at *
  have f1 := G8.out.ft (n2, a0, a1) (by simp)
  have f2 := G8.out.ft (n5, b0, b1) (by simp)
  have f3 := G8.out.ft (n8, c0, c1) (by simp)
  have f4 := G8.out.ft (n11, d0, d1) (by simp)
  simp only at f1 f2 f3 f4
  have HB := hid G8.out.bel
  obtain ⟨x0, x1⟩ : w12.cell? ⟨n2, 0, none⟩ = some (.int .i64 (a0 : Int)) ∧ w12.cell? ⟨n2, 1, none⟩ = some (.int .i64 (a1 : Int)) := ⟨Blk.at f1 0, Blk.at f1 1⟩
  obtain ⟨x2, x3⟩ : w12.cell? ⟨n5, 0, none⟩ = some (.int .i64 (b0 : Int)) ∧ w12.cell? ⟨n5, 1, none⟩ = some (.int .i64 (b1 : Int)) := ⟨Blk.at f2 0, Blk.at f2 1⟩
  obtain ⟨x4, x5⟩ : w12.cell? ⟨n8, 0, none⟩ = some (.int .i64 (c0 : Int)) ∧ w12.cell? ⟨n8, 1, none⟩ = some (.int .i64 (c1 : Int)) := ⟨Blk.at f3 0, Blk.at f3 1⟩
  obtain ⟨x6, x7⟩ : w12.cell? ⟨n11, 0, none⟩ = some (.int .i64 (d0 : Int)) ∧ w12.cell? ⟨n11, 1, none⟩ = some (.int .i64 (d1 : Int)) := ⟨Blk.at f4 0, Blk.at f4 1⟩
  clear f1 f2 f3 f4 G8 o1 o2 o3 o4 m1 m2
  rcases HC.out with ⟨h0, e1, e2, e3, e4⟩ | ⟨h0, e1, e2, e3, e4⟩
  · simp only [Prod.mk.injEq] at e1 e2 e3 e4
    obtain ⟨rfl, rfl⟩ := e1
    obtain ⟨rfl, rfl⟩ := e2
    obtain ⟨rfl, rfl⟩ := e3
    obtain ⟨rfl, rfl⟩ := e4
    have h0' : (m : Int) = 0 := by omega
    clear HC h0
    go_wp2
    go_ret
    exact ⟨rfl, HB.out⟩
  · simp only [Prod.mk.injEq] at e1 e2 e3 e4
    obtain ⟨rfl, rfl⟩ := e1
    obtain ⟨rfl, rfl⟩ := e2
    obtain ⟨rfl, rfl⟩ := e3
    obtain ⟨rfl, rfl⟩ := e4
    have h0' : ¬ (m : Int) = 0 := by omega
    have q1 := fun W => run_ft1 W
    have q2 := fun W => run_ft2 W
    clear HC h0
    go_wp2
    go_ret
    exact ⟨rfl, HB.out⟩
theorem great_law (m : Nat) (hm : m ≤ 3) (w : World) : Calls Try.prog 7 #[.int .i64 (m : Int)] w fun e w' => e = .returned (.bool true) ∧ Below w.heap.size w w' := by
  refine great_walk m hm w _ _ _ _ (flt_semi m hm) (flt_name m hm) (flt_digits m hm) (flt_blank m hm) ?_
  by_cases h : m = 0
  · left; simp [h]
  · right; simp [h]
set_option maxRecDepth 100000 in
theorem great_off (z : Int) (hz : z < 0 ∨ 3 < z) (w : World) : Calls Try.prog 7 #[.int .i64 z] w fun e w' => e = .returned (.bool true) ∧ Below w.heap.size w w' := by
  have HCu := hid (fun W => cuts_any W)
  rcases hz with h | h
  · go_enter Try.func7, Try.ntmps7
    go_wp2_with fail
    refine (HCu.out _).mono ?_
    rintro e w0 ⟨rfl, hb0⟩
    have HB := hid hb0
    clear hb0
    go_wp2_with fail
    go_ret
    exact ⟨rfl, HB.out⟩
  · have h2 : ¬ z < 0 := by omega
    go_enter Try.func7, Try.ntmps7
    go_wp2_with fail
    refine (HCu.out _).mono ?_
    rintro e w0 ⟨rfl, hb0⟩
    have HB := hid hb0
    clear hb0
    go_wp2_with fail
    go_ret
    exact ⟨rfl, HB.out⟩
end Go.Proofs.Ytmefllfmcjjbaaa
