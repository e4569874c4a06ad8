/- tree: TreeCounts, the functions that it hands to Each, and what they count. -/
import Derived.Test.YtdhipmdapodpkaaTrG
namespace Go.Proofs.Ytdhipmdapodpkaa
set_option linter.unusedSimpArgs false
set_option linter.unusedVariables false
open Go.RowKit

theorem ent15 (args : Array Value) (w : World) : (callFunc 15 args).run Try.prog w = .ok (.enter 15 args) w := by kernel_rfl
theorem ent17 (args : Array Value) (w : World) : (callFunc 17 args).run Try.prog w = .ok (.enter 17 args) w := by kernel_rfl
set_option maxRecDepth 100000 in
set_option maxHeartbeats 4000000 in
theorem call15 (g c : Nat) (v : TV) (w : World) (hY : Blk w g 3 [.int .i64 (c : Int)]) (hc : c < 1048576) :
    Calls Try.prog 15 #[v.val, .pointer (some ⟨g, 0, none⟩)] w fun e w' => e = .returned (.bool true) ∧ Blk w' g 3 [.int .i64 ((c + 1 : Nat) : Int)] ∧ Chg w w' (· = g) := by
  obtain ⟨RR, hRR⟩ : ∃ RR : Ending → World → Prop, RR = fun e w' => e = .returned (.bool true) ∧ Blk w' g 3 [.int .i64 ((c + 1 : Nat) : Int)] ∧ Chg w w' (· = g) := ⟨_, rfl⟩
  rw [← hRR]
  have HRR := hid hRR
  obtain ⟨hb, h1⟩ := box_new w v
  have hvc : v.cells.toArray = #[.int .u64 (v.num : Int), .bool v.bl, .slice v.D.A v.D.n v.D.c, .slice v.K.A v.K.n v.K.c] := rfl
  rw [hvc] at hb h1
  have HB := hid hb
  have HY := hid (hY.keep hb)
  clear hRR h1 hvc hY hb
  unfold TV.val
  obtain ⟨num, bl, ⟨DA, Dn, Dc⟩, ⟨KA, n, Kc⟩⟩ := v
  simp only at *
  go_enter Try.func15, Try.ntmps15
  go_upto_region 1 with (fail)
  generalize w.alloc (.cells #[.int .u64 (num : Int), .bool bl, .slice DA Dn Dc, .slice KA n Kc] 26) = w1 at *
  have l0 := Blk.at HY.out 0
  have lf := Blk.free HY.out 0
  simp only [List.getElem?_cons_zero] at l0
  have HLc := hid (HY.out.put 0 (.int .i64 ((c : Int) + 1)))
  have HBc := hid (show Chg w (w1.setCell ⟨g, 0, none⟩ (.int .i64 ((c : Int) + 1))) (· = g) from (Chg.of_below HB.out (· = g)).set g 0 rfl _)
  go_wp2_with fail
  show RR (.returned (.bool true)) _
  rw [HRR.out]
  refine ⟨rfl, ?_, HBc.out⟩
  have := HLc.out
  simpa using this
set_option maxRecDepth 100000 in
set_option maxHeartbeats 4000000 in
theorem call17 (g s c : Nat) (st : Int) (v : TV) (w : World) (hY : Blk w g 3 [.int .i64 (c : Int)]) (hS : Blk w s 3 [.int .i64 st]) (hgs : s ≠ g) (hc : c < 1048576) :
    Calls Try.prog 17 #[v.val, .pointer (some ⟨g, 0, none⟩), .pointer (some ⟨s, 0, none⟩)] w fun e w' => e = .returned (.bool (decide (((c + 1 : Nat) : Int) < st))) ∧ (Blk w' g 3 [.int .i64 ((c + 1 : Nat) : Int)] ∧ Blk w' s 3 [.int .i64 st]) ∧ Chg w w' (· = g) := by
  obtain ⟨RR, hRR⟩ : ∃ RR : Ending → World → Prop, RR = fun e w' => e = .returned (.bool (decide (((c + 1 : Nat) : Int) < st))) ∧ (Blk w' g 3 [.int .i64 ((c + 1 : Nat) : Int)] ∧ Blk w' s 3 [.int .i64 st]) ∧ Chg w w' (· = g) := ⟨_, rfl⟩
  rw [← hRR]
  have HRR := hid hRR
  obtain ⟨hb, h1⟩ := box_new w v
  have hvc : v.cells.toArray = #[.int .u64 (v.num : Int), .bool v.bl, .slice v.D.A v.D.n v.D.c, .slice v.K.A v.K.n v.K.c] := rfl
  rw [hvc] at hb h1
  have HB := hid hb
  have HY := hid (hY.keep hb)
  have HS := hid (hS.keep hb)
  clear hRR h1 hvc hY hS hb
  unfold TV.val
  obtain ⟨num, bl, ⟨DA, Dn, Dc⟩, ⟨KA, n, Kc⟩⟩ := v
  simp only at *
  go_enter Try.func17, Try.ntmps17
  go_upto_region 1 with (fail)
  generalize w.alloc (.cells #[.int .u64 (num : Int), .bool bl, .slice DA Dn Dc, .slice KA n Kc] 26) = w1 at *
  have l0 := Blk.at HY.out 0
  have lf := Blk.free HY.out 0
  simp only [List.getElem?_cons_zero] at l0
  have HLc := hid (HY.out.put 0 (.int .i64 ((c : Int) + 1)))
  have HBc := hid (show Chg w (w1.setCell ⟨g, 0, none⟩ (.int .i64 ((c : Int) + 1))) (· = g) from (Chg.of_below HB.out (· = g)).set g 0 rfl _)
  have HSc := hid (HS.out.other (p := ⟨g, 0, none⟩) (by simpa using hgs) (.int .i64 ((c : Int) + 1)))
  go_upto_region 2 with (fail)
  change Code.wp _ _ _ _ (w1.setCell ⟨g, 0, none⟩ (.int .i64 ((c : Int) + 1)))
  generalize w1.setCell ⟨g, 0, none⟩ (.int .i64 ((c : Int) + 1)) = w2 at *
  clear l0 lf
  have l0 := Blk.at HLc.out 0
  have s0 := Blk.at HSc.out 0
  simp only [List.set_cons_zero, List.getElem?_cons_zero] at l0 s0
  go_wp2_with fail
  rw [HRR.out]
  refine ⟨?_, ⟨?_, HSc.out⟩, HBc.out⟩
  · simp
  · have := HLc.out
    simpa using this
theorem y15 (g : Nat) : YieldsT 15 #[.pointer (some ⟨g, 0, none⟩)] g (fun _ => true) (fun c W => Blk W g 3 [.int .i64 (c : Int)]) where
  ent := ent15
  call := fun c v W hY hc => call15 g c v W hY hc
  keep := fun c W W' h hb => h.keep hb
  lt := fun c W h => h.lt
theorem y17 (g s : Nat) (st : Int) (hgs : s ≠ g) : YieldsT 17 #[.pointer (some ⟨g, 0, none⟩), .pointer (some ⟨s, 0, none⟩)] g (fun c => decide ((c : Int) < st)) (fun c W => Blk W g 3 [.int .i64 (c : Int)] ∧ Blk W s 3 [.int .i64 st]) where
  ent := ent17
  call := fun c v W hY hc => call17 g s c st v W hY.1 hY.2 hgs hc
  keep := fun c W W' h hb => ⟨h.1.keep hb, h.2.keep hb⟩
  lt := fun c W h => h.1.lt
theorem vis_all : ∀ (k c : Nat), visN (fun _ => true) k c = (true, c + k)
  | 0, c => rfl
  | k + 1, c => by
    simp only [visN]
    rw [if_pos trivial, vis_all k (c + 1)]
    congr 1
    omega
theorem vis_stop (st : Int) : ∀ (k c : Nat), (c : Int) < st → visN (fun c => decide ((c : Int) < st)) k c = if ((c + k : Nat) : Int) < st then (true, c + k) else (false, st.toNat)
  | 0, c, h => by
    simp only [visN, Nat.add_zero]
    rw [if_pos h]
  | k + 1, c, h => by
    simp only [visN]
    by_cases h1 : ((c + 1 : Nat) : Int) < st
    · rw [if_pos (by simpa using h1), vis_stop st k (c + 1) h1, show c + 1 + k = c + (k + 1) by omega]
    · rw [if_neg (by simpa using h1), if_neg (by omega)]
      congr 1
      omega
/-- What the second count comes to. -/
theorem vis_end (st : Int) (k : Nat) (hk : 1 ≤ k) : (st < 1 ∧ visN (fun c => decide ((c : Int) < st)) k 0 = (false, 1)) ∨ (1 ≤ st ∧ (k : Int) < st ∧ visN (fun c => decide ((c : Int) < st)) k 0 = (true, k)) ∨ (1 ≤ st ∧ st ≤ (k : Int) ∧ visN (fun c => decide ((c : Int) < st)) k 0 = (false, st.toNat)) := by
  by_cases h : st < 1
  · left
    refine ⟨h, ?_⟩
    obtain ⟨k, rfl⟩ : ∃ j, k = j + 1 := ⟨k - 1, by omega⟩
    simp only [visN]
    rw [if_neg (by simp; omega)]
  · right
    have h0 := vis_stop st k 0 (by omega)
    rw [Nat.zero_add] at h0
    by_cases h1 : (k : Int) < st
    · left
      rw [if_pos h1] at h0
      exact ⟨by omega, h1, h0⟩
    · right
      rw [if_neg h1] at h0
      exact ⟨by omega, by omega, h0⟩
end Go.Proofs.Ytdhipmdapodpkaa
