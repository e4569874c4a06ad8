/- crc.Table: Seal, Open. -/
import Derived.Test.YtmbbjhlpfgpibaaPutGet
import Derived.Deep.RegionHeld
namespace Go.Proofs.Ytmbbjhlpfgpibaa
open Go.RowKit

theorem chg_undrew {w w' : World} {S : Nat → Prop} (h : Chg w.drew w' S) : Chg w w' S := ⟨h.os, h.tape, h.output, h.size, h.block⟩
theorem putC_end (l : List UInt8) (v : Nat) (X : List Value) (h : X.length = 4) : putC (l.map isB ++ X) l.length v 4 = (l ++ sumD v).map isB := by
  match X, h with
  | [a, b, c, d], _ =>
    simp only [putC]
    have hl : (l.map isB).length = l.length := by simp
    rw [List.set_append_right _ _ (by omega), List.set_append_right _ _ (by omega), List.set_append_right _ _ (by omega), List.set_append_right _ _ (by omega), hl]
    simp [sumD, Nat.add_sub_cancel_left]

theorem splice_front (l : List UInt8) (k : Nat) : splice (zeros (l.length + k)).toList 0 (l.map isB) = l.map isB ++ (List.replicate k (0 : UInt8)).map isB := by
  simp [splice, zeros]

theorem run_tail4 (p n : Nat) (w : World) :
    (Instr.slice 22 (.slice (some ⟨p, 0, none⟩) (n + 4) (n + 4)) (some (.int .i64 (n : Int))) none none).run Try.prog w = .ok (.slice (some ⟨p, n, none⟩) 4 4) w := by
  have h := run_sliceB_from (some ⟨p, 0, none⟩) (n + 4) (n + 4) n (by omega) w
  rw [if_neg (by omega), Nat.add_sub_cancel_left, Option.map_some, addr_add, Nat.zero_add] at h
  exact h

set_option maxRecDepth 4000 in
theorem seal_any {w : World} {g b : Nat} {md : Bool} {A : Option Addr} {n c : Nat} {l : List UInt8} (hT : Tab w g md b) (hR : RdB w A n l) (hn : n ≤ 100000) (hb : b ≤ 100000) :
    Calls Try.prog 23 #[.pointer (some ⟨g, 0, none⟩), .slice A n c] w fun e w' => ∃ p, e = .returned (.slice (some ⟨p, 0, none⟩) (n + 4) (n + 4)) ∧ Blk w' p 5 ((l ++ sumD (crcN l)).map isB) ∧ w.heap.size ≤ p ∧ Tab w' g true (b + n) ∧ Chg w w' (fun k => k = g) := by
  have hml := hid hR.1
  have hmk := run_makeB (n + 4) (by omega)
  rw [Int.natCast_add, show ((4 : Nat) : Int) = 4 from rfl] at hmk
  have hfit : 0 + n ≤ (zeros (n + 4)).toList.length := by rw [zeros_len]; omega
  have HT := hid hT
  have HR := hid hR
  have hgl := hT.lt
  clear hT hR
  go_enter Try.func23, Try.ntmps23
  go_wp2_with (first
    | (with_reducible refine wpList_copyB rfl (.tmp 10) (.tmp 11) rfl _ _ _ rfl _ _ _ rfl w.heap.size 0 (zeros (n + 4)).toList (Blk.zeros_ w _) l (HR.out.alloc _) (fun _ => rfl) (by omega) hfit ?_; intro w2 HG hg2))
  have hG := HG.out
  rw [show n = l.length by rw [hml.out], splice_front] at hG
  have hsl := run_tail4 w.heap.size n
  have HG := hid hG
  have hB2 := below_fresh hg2
  have HT2 := hid (HT.out.below hB2)
  have HR2 := hid (HR.out.below hB2)
  have HB2 := hid hB2
  clear hG hg2 hmk hB2 HT HR
  have hpg : g < w.heap.size := hgl
  have HW := hid (Nat.le_refl w.heap.size)
  generalize hp : w.heap.size = p at HG hsl hpg HW ⊢
  have HP := hid hp
  clear hp
  go_wp2
  go_region_held3 (fun _ => True) (trivial) (first
    | (go_at_call 16; refine (of_any (by exact HT2.out) (by exact HR2.out) (by omega) (by omega)).mono ?_; rintro e w3 ⟨rfl, hT3, hC3⟩; have hC3' := chg_undrew hC3)
    | (go_at_call 48; refine (put_any (HG.out.chg hC3' (by omega)) (crcN_lt l) (by decide) (by decide) (by simp; have := hml.out; omega)).mono ?_; rintro e w4 ⟨rfl, hB4, hg4⟩))
  have HV := hid (putC_end l (crcN l) ((List.replicate 4 (0 : UInt8)).map isB) (by simp))
  rw [show l.length = n by rw [hml.out]] at HV
  rw [HV.out] at hB4
  have HB4 := hid hB4
  have HT4 := hid (hT3.chg (Chg.of_grown hg4) (by intro h; injection h with h; omega))
  have hb2 := HB2.out
  have HC4 := hid (show Chg w w4 (fun k => k = g) from
    ⟨hg4.os.trans (hC3'.os.trans hb2.os), hg4.tape.trans (hC3'.tape.trans hb2.tape), hg4.output.trans (hC3'.output.trans hb2.output), Nat.le_trans hb2.size (Nat.le_trans hC3'.size hg4.size), fun k hk hn => by
      have e1 := hb2.block k hk
      have hk2 : k < w2.heap.size := Nat.lt_of_lt_of_le hk hb2.size
      have e2 := hC3'.block k hk2 hn
      have e3 := hg4.block k (Nat.lt_of_lt_of_le hk2 hC3'.size) (by intro h; injection h with h; have := HP.out; omega)
      exact e3.trans (e2.trans e1)⟩)
  clear hB4 hg4 hT3 hC3 hC3' hb2
  go_wp2
  go_ret
  exact ⟨p, rfl, HB4.out, by rw [HP.out]; exact Nat.le_refl _, HT4.out, HC4.out⟩
end Go.Proofs.Ytmbbjhlpfgpibaa
