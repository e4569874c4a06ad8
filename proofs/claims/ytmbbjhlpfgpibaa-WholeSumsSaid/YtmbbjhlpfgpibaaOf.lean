/- crc: Start, Value, Of; a new table; Join of no bytes. -/
import Derived.Test.YtmbbjhlpfgpibaaAdd
namespace Go.Proofs.Ytmbbjhlpfgpibaa
open Go.RowKit

theorem start_any (w : World) : Calls Try.prog 18 #[] w fun e w' => e = .returned (.agg #[.int .u32 0]) ∧ Below w.heap.size w w' := by
  go_enter Try.func18, Try.ntmps18
  go_wp2
  refine bodyPost_ret (v := .agg #[.int .u32 0]) (by simp [results, Try.results18, go_sem]) rfl ⟨rfl, ?_⟩
  exact (Below.refl _ _).alloc (Nat.le_refl _) _

theorem value_any (s : Int) (w : World) : Calls Try.prog 22 #[.agg #[.int .u32 s]] w fun e w' => e = .returned (.int .u32 s) ∧ Below w.heap.size w w' := by
  go_enter Try.func22, Try.ntmps22
  go_wp2
  go_ret
  exact ⟨rfl, (Below.refl _ _).alloc (Nat.le_refl _) _⟩

theorem of_any {w : World} {g b : Nat} {md : Bool} {A : Option Addr} {n c : Nat} {l : List UInt8} (hT : Tab w g md b) (hR : RdB w A n l) (hn : n ≤ 9223372036854775807) (hb : b + n ≤ 9223372036854775807) :
    Calls Try.prog 16 #[.pointer (some ⟨g, 0, none⟩), .slice A n c] w fun e w' => e = .returned (.int .u32 ((crcN l : Nat) : Int)) ∧ Tab w' g true (b + n) ∧ Chg w w' (fun k => k = g) := by
  have HT := hid hT
  have HR := hid hR
  clear hT hR
  go_enter Try.func16, Try.ntmps16
  go_wp2_with fail
  refine (start_any _).mono ?_
  rintro e w1 ⟨rfl, hb1⟩
  go_wp2_with fail
  refine (add_any (s := 0) (HT.out.below hb1) (HR.out.below hb1) (by decide) hn hb).mono ?_
  rintro e w2 ⟨rfl, hT2, hC2⟩
  go_wp2_with fail
  refine (value_any _ _).mono ?_
  rintro e w3 ⟨rfl, hb3⟩
  have HV := hid (show more 0 l = crcN l from rfl)
  have HT3 := hid (hT2.below hb3)
  have HC3 := hid (((Chg.of_below hb1 (fun k => k = g)).trans hC2).trans (Chg.of_below hb3 _))
  clear hT2 hC2 hb3 hb1
  go_wp2
  go_ret
  exact ⟨by rw [HV.out]; rfl, HT3.out, HC3.out⟩

theorem join_none (a b : Nat) (long : Int) (h : long ≤ 0) (w : World) :
    Calls Try.prog 37 #[.int .u32 a, .int .u32 b, .int .i64 long] w fun e w' => e = .returned (.int .u32 a) ∧ w = w' := by
  go_enter Try.func37, Try.ntmps37
  go_wp2
  go_ret
  exact ⟨rfl, rfl⟩

theorem tab_fresh (w : World) (cs : Array Value) (h : cs.toList = tbl 0 0 (List.replicate 256 0) 0 0) : Tab (w.alloc (.cells cs 45)) w.heap.size false 0 := by
  refine ⟨List.replicate 256 0, List.length_replicate, ?_, fun h => by cases h⟩
  have := Blk.fresh w 45 cs.toList
  rw [h] at this
  have e : cs = (tbl 0 0 (List.replicate 256 0) 0 0).toArray := by rw [← h]
  rw [e]
  exact this
end Go.Proofs.Ytmbbjhlpfgpibaa
