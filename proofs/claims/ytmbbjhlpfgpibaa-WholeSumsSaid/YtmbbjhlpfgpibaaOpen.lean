/- crc.Table: Open. -/
import Derived.Test.YtmbbjhlpfgpibaaSeal
import Derived.Test.YtmbbjhlpfgpibaaSmall
namespace Go.Proofs.Ytmbbjhlpfgpibaa
open Go.RowKit

theorem open_short {w : World} {g : Nat} {A : Option Addr} {n c : Nat} (hn : n < 4) :
    Calls Try.prog 24 #[.pointer (some ⟨g, 0, none⟩), .slice A n c] w fun e w' => e = .returned (.tuple #[.slice none 0 0, .bool false]) ∧ w = w' := by
  have d : decide ((n : Int) < 4) = true := by simp; omega
  go_enter Try.func24, Try.ntmps24
  go_wp2
  go_ret2
  exact ⟨rfl, rfl⟩

/-- What is told of bytes: as long as the call found their checksum right. -/
def Opened (w w' : World) (g b : Nat) (m : Nat) (l : List UInt8) (e : Ending) : Prop :=
  ∃ p, e = .returned (.tuple #[.slice (some ⟨p, 0, none⟩) m m, .bool true]) ∧ Blk w' p 5 ((l.take m).map isB) ∧ w.heap.size ≤ p ∧ Tab w' g true (b + m) ∧ Chg w w' (fun k => k = g)

set_option maxRecDepth 4000 in
theorem open_yes {w : World} {g b : Nat} {md : Bool} {A : Option Addr} {m c : Nat} {l : List UInt8} (hT : Tab w g md b) (hR : RdB w A (m + 4) l) (hc : m + 4 ≤ c) (hn : m ≤ 100000) (hb : b ≤ 100000) (heq : crcN (l.take m) = getN (l.drop m)) :
    Calls Try.prog 24 #[.pointer (some ⟨g, 0, none⟩), .slice A (m + 4) c] w fun e w' => Opened w w' g b m l e := by
  have d : decide (((m + 4 : Nat) : Int) < 4) = false := by simp; omega
  have hsl1 := run_sliceB_to A (m + 4) c m (by omega)
  have hsl2 := run_sliceB_from A (m + 4) c m (by omega)
  rw [Nat.add_sub_cancel_left] at hsl2
  have hF := hid (hR.front m (by omega))
  have hB := hid (hR.back m c (by omega) hc)
  rw [Nat.add_sub_cancel_left] at hB
  have hmk := run_makeB m (by omega)
  have hne := hid (fun h0 => hT.ne hR h0)
  have hneB := hid (cut_block (A := A) c m)
  generalize (if c = m then A else A.map (·.add m)) = A2 at hsl2 hB hneB
  have HT := hid hT
  have HE := hid heq
  have hgl := hT.lt
  clear hT hR heq
  go_enter Try.func24, Try.ntmps24
  go_wp2
  go_region_held3 (fun _ => True) (trivial) (first
    | (go_at_call 16; refine (of_any (by exact HT.out) (by exact hF.out) (by omega) (by omega)).mono ?_; rintro e w3 ⟨rfl, hT3, hC3⟩; have hC3' := chg_undrew hC3; rw [HE.out])
    | (go_at_call 49; refine (get_any (hB.out.chg hC3' (fun h0 a ha e => by obtain ⟨a0, h1, h2⟩ := hneB.out a ha; exact hne.out (by omega) a0 h1 (by omega))) (by decide) (by decide)).mono ?_; rintro e w4 ⟨rfl, rfl⟩))
  have HT3 := hid hT3
  have HF3 := hid (hF.out.chg hC3' (fun h0 a ha e => hne.out (by omega) a ha e))
  have HC3 := hid hC3'
  have hfit : 0 + m ≤ (zeros m).toList.length := by rw [zeros_len]; omega
  have hl := hid hF.out.1
  clear hT3 hC3 hC3' hF hB
  go_wp2_with (first
    | (with_reducible refine wpList_copyB rfl (.tmp 28) (.tmp 29) rfl _ _ _ rfl _ _ _ rfl w3.heap.size 0 (zeros m).toList (Blk.zeros_ w3 _) (l.take m) (HF3.out.alloc _) (fun _ => rfl) (by omega) hfit ?_; intro w4 HG hg4))
  have hG := HG.out
  rw [splice_zeros m _ hl.out] at hG
  have hB4 := below_fresh hg4
  have hT4 := HT3.out.below hB4
  have HC4 := HC3.out.trans (Chg.of_below hB4 (fun k => k = g))
  go_wp2
  go_ret2
  exact ⟨w3.heap.size, rfl, hG, HC3.out.size, hT4, HC4⟩

set_option maxRecDepth 4000 in
theorem open_no {w : World} {g b : Nat} {md : Bool} {A : Option Addr} {m c : Nat} {l : List UInt8} (hT : Tab w g md b) (hR : RdB w A (m + 4) l) (hc : m + 4 ≤ c) (hn : m ≤ 100000) (hb : b ≤ 100000) (heq : crcN (l.take m) ≠ getN (l.drop m)) :
    Calls Try.prog 24 #[.pointer (some ⟨g, 0, none⟩), .slice A (m + 4) c] w fun e w' => e = .returned (.tuple #[.slice none 0 0, .bool false]) ∧ Tab w' g true (b + m) ∧ Chg w w' (fun k => k = g) := by
  have d : decide (((m + 4 : Nat) : Int) < 4) = false := by simp; omega
  have hsl1 := run_sliceB_to A (m + 4) c m (by omega)
  have hsl2 := run_sliceB_from A (m + 4) c m (by omega)
  rw [Nat.add_sub_cancel_left] at hsl2
  have hF := hid (hR.front m (by omega))
  have hB := hid (hR.back m c (by omega) hc)
  rw [Nat.add_sub_cancel_left] at hB
  have hne := hid (fun h0 => hT.ne hR h0)
  have hneB := hid (cut_block (A := A) c m)
  generalize (if c = m then A else A.map (·.add m)) = A2 at hsl2 hB hneB
  have HT := hid hT
  have hcmp := beq_no (show ((crcN (l.take m) : Nat) : Int) ≠ ((getN (l.drop m) : Nat) : Int) by omega)
  have hgl := hT.lt
  clear hT hR heq
  go_enter Try.func24, Try.ntmps24
  go_wp2
  go_region_held3 (fun _ => True) (trivial) (first
    | (go_at_call 16; refine (of_any (by exact HT.out) (by exact hF.out) (by omega) (by omega)).mono ?_; rintro e w3 ⟨rfl, hT3, hC3⟩; have hC3' := chg_undrew hC3)
    | (go_at_call 49; refine (get_any (hB.out.chg hC3' (fun h0 a ha e => by obtain ⟨a0, h1, h2⟩ := hneB.out a ha; exact hne.out (by omega) a0 h1 (by omega))) (by decide) (by decide)).mono ?_; rintro e w4 ⟨rfl, rfl⟩))
  have HT3 := hid hT3
  have HC3 := hid hC3'
  clear hT3 hC3 hC3' hF hB
  go_wp2
  go_ret2
  exact ⟨rfl, HT3.out, HC3.out⟩
end Go.Proofs.Ytmbbjhlpfgpibaa
