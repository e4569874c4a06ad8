/- lex: the laws' head. -/
import Derived.Test.YtmefllfmcjjbaaaLxJ
namespace Go.Proofs.Ytmefllfmcjjbaaa
open Go.RowKit

def cutL : List UInt8 := [110, 58, 32, 117, 56, 32, 49, 46, 46, 54, 51, 59, 32, 35, 32, 115, 111, 10, 47, 97, 32, 98, 47]
def cutT : List Tk := [⟨1, 0, [110]⟩, ⟨4, 1, [58]⟩, ⟨1, 3, [117, 56]⟩, ⟨2, 6, [49]⟩, ⟨4, 7, [46, 46]⟩, ⟨2, 9, [54, 51]⟩, ⟨4, 11, [59]⟩, ⟨3, 18, [97, 32, 98]⟩, ⟨5, 23, []⟩]
theorem cut_scan : scanT cutL = .ok cutT := by kernel_rfl
theorem cut_bad : scanT [97, 32, 63] = .error (100, 2) := by kernel_rfl
theorem cut_join : joinT (cutT.take 3) = [110, 32, 58, 32, 117, 56] := by kernel_rfl
theorem run_tk1 (W : World) : (binOp .eql 33 (.agg #[.int .i64 1, .int .i64 0, .string ⟨#[110]⟩]) (.agg #[.int .i64 1, .int .i64 0, .string ⟨#[110]⟩])).run Try.prog W = .ok (.bool true) W := by kernel_rfl
theorem run_tk2 (W : World) : (binOp .eql 33 (.agg #[.int .i64 2, .int .i64 6, .string ⟨#[49]⟩]) (.agg #[.int .i64 2, .int .i64 6, .string ⟨#[49]⟩])).run Try.prog W = .ok (.bool true) W := by kernel_rfl
theorem run_tk3 (W : World) : (binOp .eql 33 (.agg #[.int .i64 3, .int .i64 18, .string ⟨#[97, 32, 98]⟩]) (.agg #[.int .i64 3, .int .i64 18, .string ⟨#[97, 32, 98]⟩])).run Try.prog W = .ok (.bool true) W := by kernel_rfl
theorem run_ft (W : World) : (binOp .eql 26 (.agg #[.int .i64 100, .int .i64 2]) (.agg #[.int .i64 100, .int .i64 2])).run Try.prog W = .ok (.bool true) W := by kernel_rfl
set_option maxRecDepth 100000 in
set_option maxHeartbeats 8000000 in
theorem cuts_any (w : World) : Calls Try.prog 8 #[] w fun e w' => e = .returned (.bool true) ∧ Below w.heap.size w w' := by
  have HS1 := hid (fun W => scan_any ⟨cutL.toArray⟩ W)
  have HS2 := hid (fun W => scan_any ⟨#[97, 32, 63]⟩ W)
  unfold cutL at HS1
  go_enter Try.func8, Try.ntmps8
  go_wp2_with fail
  refine (HS1.out _).mono ?_
  rintro e w1 ⟨hb1, hp1⟩
  rw [show scanT ([110, 58, 32, 117, 56, 32, 49, 46, 46, 54, 51, 59, 32, 35, 32, 115, 111, 10, 47, 97, 32, 98, 47] : List UInt8) = .ok cutT from cut_scan] at hp1
  obtain ⟨v, rfl, hown⟩ := hp1
  obtain ⟨A, c, rfl⟩ := owns_shape hown
  have hcap : 9 ≤ c := by
    rcases hown.2 with ⟨_, hz⟩ | ⟨g, cap, cur, hv, hb, hg, hnc, _⟩
    · exact absurd hz (by decide)
    · injection hv with _ _ h3
      rw [h3]
      exact hnc
  have HRd := hid (RdK.of_own hown rfl)
  have HB1 := hid hb1
  clear hown hb1 HS1
  unfold faultC
  have HB2 := hid (HB1.out.trans (((Below.refl w1.heap.size w1).alloc (Nat.le_refl _) (.cells #[.int .i64 0, .int .i64 0] 26)).mono HB1.out.size))
  have HR2 := hid (HRd.out.keep ((Below.refl w1.heap.size w1).alloc (Nat.le_refl _) (.cells #[.int .i64 0, .int .i64 0] 26)))
  have HF2 := hid (Blk.fresh w1 26 [.int .i64 0, .int .i64 0])
  rw [show cutT.length = 9 from rfl]
  go_upto_region 2 with (fail)
  change Code.wp _ _ _ _ (w1.alloc (.cells [.int .i64 0, .int .i64 0].toArray 26))
  generalize w1.alloc (.cells [.int .i64 0, .int .i64 0].toArray 26) = w2 at *
  go_wp2_with fail
  refine (HS2.out w2).mono ?_
  rintro e w3 ⟨hb3, hp3⟩
  rw [cut_bad] at hp3
  obtain rfl := hp3
  have HB3 := hid (HB2.out.trans (hb3.mono HB2.out.size))
  have HR3 := hid (HR2.out.keep hb3)
  have HF3 := hid (HF2.out.keep hb3)
  clear hb3 HB2 HR2 HF2 HS2 HB1 HRd
  have hba : Below w3.heap.size w3 (w3.alloc (.cells #[.int .i64 100, .int .i64 2] 26)) := (Below.refl w3.heap.size w3).alloc (Nat.le_refl _) _
  have HB4 := hid (HB3.out.trans (hba.mono HB3.out.size))
  have HR4 := hid (HR3.out.keep hba)
  have HF4 := hid (HF3.out.keep hba)
  have HG4 := hid (Blk.fresh w3 26 [.int .i64 100, .int .i64 2])
  clear hba HB3 HR3 HF3
  unfold faultC
  go_upto_region 3 with (fail)
  change Code.wp _ _ _ _ (w3.alloc (.cells [.int .i64 100, .int .i64 2].toArray 26))
  generalize w3.alloc (.cells [.int .i64 100, .int .i64 2].toArray 26) = w4 at *
  obtain ⟨b, o, rfl, hbl, hcs⟩ := HR4.out (by decide)
  have HTk := hid (show RdK w4 (some ⟨b, o, none⟩) (cutT.take 3) from HR4.out.take 3)
  have k0 := hcs 0 (by decide)
  have k3 := hcs 3 (by decide)
  have k4 := hcs 4 (by decide)
  have k7 := hcs 7 (by decide)
  have k8 := hcs 8 (by decide)
  simp only [cutT, List.getElem_cons_zero, List.getElem_cons_succ, Nat.zero_mul, Nat.add_zero, Nat.reduceMul] at k0 k3 k4 k7 k8
  obtain ⟨a0, a1, a2⟩ := k0
  obtain ⟨a3, a4, a5⟩ := k3
  obtain ⟨a6, a7, a8⟩ := k4
  obtain ⟨a9, a10, a11⟩ := k7
  obtain ⟨a12, a13, a14⟩ := k8
  have f0 := Blk.at HF4.out 0
  have g0 := Blk.at HG4.out 0
  have g1 := Blk.at HG4.out 1
  simp only [List.getElem?_cons_zero, List.getElem?_cons_succ] at f0 g0 g1
  have q1 := fun W => run_tk1 W
  have q2 := fun W => run_tk2 W
  have q3 := fun W => run_tk3 W
  have q4 := fun W => run_ft W
  have hc9 : (9 : Int) ≤ (c : Int) := by omega
  have hc3 : (3 : Int) ≤ (c : Int) := by omega
  have HSh := hid (fun W => show_any ⟨3, 18, [97, 32, 98]⟩ (by decide) W)
  have HJn := hid (fun W (h : RdK W (some ⟨b, o, none⟩) (cutT.take 3)) => join_any (cap := c) h (by decide) (by decide) (by rw [cut_join]; decide))
  rw [cut_join] at HJn
  rw [show shT ⟨3, 18, [97, 32, 98]⟩ = [47, 97, 32, 98, 47] from rfl] at HSh
  rw [show (cutT.take 3).length = 3 from rfl] at HJn
  simp only [List.append]
  clear hcs HR4 HF4 HG4 hcap
  go_wp2_with (first
    | (go_at_call 14; refine (HSh.out _).mono ?_; rintro e w5 ⟨rfl, hb5⟩; have HB5 := hid (HB4.out.trans (hb5.mono HB4.out.size)); have HT5 := hid (HTk.out.keep hb5); clear hb5 a0 a1 a2 a3 a4 a5 a6 a7 a8 a9 a10 a11 a12 a13 a14 f0 g0 g1)
    | (go_at_call 11; refine (HJn.out _ HT5.out).mono ?_; rintro e w6 ⟨rfl, hb6⟩; have HB6 := hid (HB5.out.trans (hb6.mono HB5.out.size)); clear hb6))
  go_ret
  exact ⟨rfl, HB6.out⟩
end Go.Proofs.Ytmefllfmcjjbaaa
