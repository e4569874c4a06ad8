/- tree: the reader. -/
import Derived.Test.YtdhipmdapodpkaaTrP
import Derived.Test.YtdhipmdapodpkaaTrJ
import Derived.Test.YtdhipmdapodpkaaPar
import Derived.Deep.RegionHeld3
namespace Go.Proofs.Ytdhipmdapodpkaa
set_option linter.unusedSimpArgs false
set_option linter.unusedVariables false
open Go.RowKit

theorem idx_run (s : ByteArray) (c : Nat) (w : World) : (callFunc 53 #[.string s, .int .u8 (c : Int)]).run Try.prog w = .ok (.value (.int .i64 (firstIdx s c.toUInt8))) w := by
  rw [run_callFunc_extern Try.func53 (by kernel_rfl) (by kernel_rfl) (by kernel_rfl) (e := Extern.BytealgIndexByte.indexByte) (by kernel_rfl), run_indexByte_string]
  simp only [Result.andThen, Int.toNat_natCast]
theorem index_any (s : ByteArray) (c : Nat) (w : World) :
    Calls Try.prog 46 #[.string s, .int .u8 (c : Int)] w fun e w' => e = .returned (.int .i64 (firstIdx s c.toUInt8)) ∧ w = w' := by
  have hr := idx_run s c
  generalize firstIdx s c.toUInt8 = k at hr ⊢
  go_enter Try.func46, Try.ntmps46
  go_wp2
  go_ret
  exact ⟨rfl, rfl⟩
/-- The reader's block. -/
def Rd (w : World) (g : Nat) (s : ByteArray) (i : Nat) : Prop := Blk w g 51 [.string s, .int .i64 (i : Int)]
theorem Rd.two {w : World} {g : Nat} {s : ByteArray} {i : Nat} (h : Rd w g s i) : w.cell? ⟨g, 0, none⟩ = some (.string s) ∧ w.cell? ⟨g, 1, none⟩ = some (.int .i64 (i : Int)) ∧ w.frozen? ⟨g, 1, none⟩ = false :=
  ⟨Blk.at h 0, Blk.at h 1, Blk.free h 1⟩
theorem Rd.keep {w w' : World} {g : Nat} {s : ByteArray} {i : Nat} (h : Rd w g s i) (hb : Below w.heap.size w w') : Rd w' g s i := Blk.keep h hb
theorem Rd.set {w : World} {g : Nat} {s : ByteArray} {i : Nat} (h : Rd w g s i) (j : Nat) : Rd (w.setCell ⟨g, 1, none⟩ (.int .i64 (j : Int))) g s j := by
  have := Blk.put h 1 (.int .i64 (j : Int))
  simpa [Rd] using this
theorem below_draws (w : World) (n : Nat) : Below w.heap.size w (w.drewN n) := ⟨rfl, rfl, rfl, Nat.le_refl _, fun _ _ => rfl⟩
section
variable {w : World} {g : Nat} {s : ByteArray} {i : Nat}
set_option maxRecDepth 100000 in
theorem next_any (h : Rd w g s i) (hi : i ≤ s.size) (hs : s.size ≤ 1048576) :
    Calls Try.prog 32 #[.pointer (some ⟨g, 0, none⟩)] w fun e w' => e = .returned (.int .u8 ((nx s.data.toList i : Nat) : Int)) ∧ Below w.heap.size w w' := by
  obtain ⟨h0, h1, _⟩ := h.two
  have hsz : s.size ≤ 9223372036854775807 := by omega
  by_cases he : i = s.size
  · have hn : nx s.data.toList i = 0 := nx_end (by rw [he]; exact Nat.le_refl _)
    have HN := hid hn
    clear hn
    subst he
    go_enter Try.func32, Try.ntmps32
    go_wp2
    go_region
    all_goals
      go_wp2
      go_ret
      exact ⟨by rw [HN.out]; rfl, below_draw (Below.refl _ _)⟩
  · have hlt : i < s.size := by omega
    have HN := hid (nx_at (l := s.data.toList) (i := i) hlt)
    have hne : ¬ (i : Int) = (s.size : Int) := by omega
    go_enter Try.func32, Try.ntmps32
    go_wp2
    go_region
    all_goals
      go_wp2
      go_region
      all_goals
        go_wp2
        go_ret
        exact ⟨by rw [HN.out]; rfl, ⟨rfl, rfl, rfl, Nat.le_refl _, fun _ _ => rfl⟩⟩
set_option maxRecDepth 100000 in
theorem took_yes (h : Rd w g s i) (hi : i ≤ s.size) (hs : s.size ≤ 1048576) (x : Nat) (hx : nx s.data.toList i = x) :
    Calls Try.prog 34 #[.pointer (some ⟨g, 0, none⟩), .int .u8 (x : Int)] w fun e w' => e = .returned (.bool true) ∧ Rd w' g s (i + 1) ∧ Chg w w' (· = g) := by
  have HN := hid (next_any h hi hs)
  rw [hx] at HN
  have HR := hid h
  have hil : i ≤ 1048576 := by omega
  clear h hx
  go_enter Try.func34, Try.ntmps34
  go_wp2_with fail
  refine HN.out.mono ?_
  rintro e w1 ⟨rfl, hb⟩
  obtain ⟨h0, h1, f1⟩ := (HR.out.keep hb).two
  have HS := hid ((HR.out.keep hb).set (i + 1))
  have HG := hid ((Chg.of_below hb (· = g)).set g 1 rfl (.int .i64 ((i : Int) + 1)))
  clear hb
  go_wp2
  go_ret
  exact ⟨rfl, HS.out, HG.out⟩
set_option maxRecDepth 100000 in
theorem took_no (h : Rd w g s i) (hi : i ≤ s.size) (hs : s.size ≤ 1048576) (x : Nat) (hx : nx s.data.toList i ≠ x) :
    Calls Try.prog 34 #[.pointer (some ⟨g, 0, none⟩), .int .u8 (x : Int)] w fun e w' => e = .returned (.bool false) ∧ Below w.heap.size w w' := by
  have HN := hid (next_any h hi hs)
  have hne : ¬ ((nx s.data.toList i : Nat) : Int) = (x : Int) := by omega
  generalize nx s.data.toList i = y at *
  clear h hx
  go_enter Try.func34, Try.ntmps34
  go_wp2_with fail
  refine HN.out.mono ?_
  rintro e w1 ⟨rfl, hb⟩
  have HB := hid hb
  clear hb
  go_wp2
  go_ret
  exact ⟨rfl, HB.out⟩
set_option maxRecDepth 100000 in
theorem decimal_any (h : Rd w g s i) (hi : i ≤ s.size) (hs : s.size ≤ 1048576) :
    Calls Try.prog 33 #[.pointer (some ⟨g, 0, none⟩)] w fun e w' => e = .returned (.bool (digC (nx s.data.toList i))) ∧ Below w.heap.size w w' := by
  have HN := hid (fun W (hb : Below w.heap.size w W) => next_any (h.keep hb) hi hs)
  have hxb := nx_byte s.data.toList i
  obtain ⟨x, hx⟩ : ∃ x, x = nx s.data.toList i := ⟨_, rfl⟩
  rw [← hx] at HN hxb ⊢
  clear h hx
  have HB0 := hid (Below.refl w.heap.size w)
  by_cases c1 : 48 ≤ x
  · have c1' : (48 : Int) ≤ (x : Int) := by omega
    by_cases c2 : x ≤ 57
    · have c2' : (x : Int) ≤ 57 := by omega
      have HD := hid (show digC x = true from (digC_iff x).2 ⟨c1, c2⟩)
      go_enter Try.func33, Try.ntmps33
      go_wp2_with (first
        | (go_at_call 32; (with_reducible refine (HN.out _ HB0.out).mono ?_); rintro e w1 ⟨rfl, hb⟩; have hbn := HB0.out.trans (hb.mono HB0.out.size); clear HB0; have HB0 := hid hbn; clear hb hbn))
      go_ret
      exact ⟨by rw [HD.out]; rfl, HB0.out⟩
    · have c2' : ¬ (x : Int) ≤ 57 := by omega
      have HD := hid (show digC x = false by cases hd : digC x with | false => rfl | true => exact absurd ((digC_iff x).1 hd).2 c2)
      go_enter Try.func33, Try.ntmps33
      go_wp2_with (first
        | (go_at_call 32; (with_reducible refine (HN.out _ HB0.out).mono ?_); rintro e w1 ⟨rfl, hb⟩; have hbn := HB0.out.trans (hb.mono HB0.out.size); clear HB0; have HB0 := hid hbn; clear hb hbn))
      go_ret
      exact ⟨by rw [HD.out]; (show Ending.returned (Value.bool (decide ((x : Int) ≤ 57))) = _); rw [decide_eq_false (by omega)], HB0.out⟩
  · have c1' : ¬ (48 : Int) ≤ (x : Int) := by omega
    have HD := hid (show digC x = false by cases hd : digC x with | false => rfl | true => exact absurd ((digC_iff x).1 hd).1 c1)
    go_enter Try.func33, Try.ntmps33
    go_wp2_with (first
      | (go_at_call 32; (with_reducible refine (HN.out _ HB0.out).mono ?_); rintro e w1 ⟨rfl, hb⟩; have hbn := HB0.out.trans (hb.mono HB0.out.size); clear HB0; have HB0 := hid hbn; clear hb hbn))
    go_ret
    exact ⟨by rw [HD.out]; rfl, HB0.out⟩
set_option maxRecDepth 100000 in
theorem digit_any (h : Rd w g s i) (hi : i ≤ s.size) (hs : s.size ≤ 1048576) :
    Calls Try.prog 42 #[.pointer (some ⟨g, 0, none⟩)] w fun e w' => e = .returned (.int .i64 (hexI (nx s.data.toList i))) ∧ Below w.heap.size w w' := by
  have HN := hid (next_any h hi hs)
  have HI := hid (fun W => index_any rxHex (nx s.data.toList i) W)
  have he : hexI (nx s.data.toList i) = firstIdx rxHex (nx s.data.toList i).toUInt8 := rfl
  rw [← he] at HI
  generalize hexI (nx s.data.toList i) = k at *
  clear h he
  unfold rxHex at HI
  go_enter Try.func42, Try.ntmps42
  go_wp2_with (first
    | (go_at_call 32; (with_reducible refine HN.out.mono ?_); rintro e w1 ⟨rfl, hb⟩; have HB := hid hb; clear hb)
    | (go_at_call 46; (with_reducible refine (HI.out _).mono ?_); rintro e w2 ⟨rfl, rfl⟩))
  go_ret
  exact ⟨rfl, HB.out⟩
end
end Go.Proofs.Ytdhipmdapodpkaa
