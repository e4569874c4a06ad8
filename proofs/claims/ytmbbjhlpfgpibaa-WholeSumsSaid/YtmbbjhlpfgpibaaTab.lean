/- crc.Table: Made, Bytes, Add, Of. -/
import Derived.Test.YtmbbjhlpfgpibaaDo
namespace Go.Proofs.Ytmbbjhlpfgpibaa
open Go.RowKit

/-- Block g is a table: made or not; so many bytes. -/
def Tab (w : World) (g : Nat) (md : Bool) (b : Nat) : Prop :=
  ∃ R, R.length = 256 ∧ Blk w g 45 (tbl (if md then 1 else 0) 0 R (if md then 1 else 0) b) ∧ (md = true → R = rests)
section
variable {w w' : World} {g b : Nat} {md : Bool}
theorem Tab.lt (h : Tab w g md b) : g < w.heap.size := by obtain ⟨R, _, hB, _⟩ := h; exact hB.lt
theorem Tab.chg {S : Nat → Prop} (h : Tab w g md b) (hc : Chg w w' S) (hg : ¬ S g) : Tab w' g md b := by obtain ⟨R, hR, hB, hm⟩ := h; exact ⟨R, hR, hB.chg hc hg, hm⟩
theorem Tab.below (h : Tab w g md b) (hb : Below w.heap.size w w') : Tab w' g md b := by obtain ⟨R, hR, hB, hm⟩ := h; exact ⟨R, hR, hB.keep hb, hm⟩
theorem Tab.alloc (h : Tab w g md b) (o : Obj) : Tab (w.alloc o) g md b := by obtain ⟨R, hR, hB, hm⟩ := h; exact ⟨R, hR, hB.alloc o, hm⟩
/-- Bytes don't lie in a table. -/
theorem Tab.ne {A : Option Addr} {n : Nat} {l : List UInt8} (h : Tab w g md b) (hR : RdB w A n l) (hn : 0 < n) : ∀ a, A = some a → a.block ≠ g := by
  obtain ⟨R, hRl, hB, _⟩ := h
  obtain ⟨b', o, e, hlt, hc⟩ := hR.2 hn
  intro a ha
  rw [ha] at e
  injection e with e
  subst e
  intro hbg
  simp only at hbg
  subst hbg
  have h1 := hc 0 (by rw [hR.1]; exact hn)
  rw [Nat.add_zero, hB.at] at h1
  have h2 := List.mem_of_getElem? h1
  unfold tbl u32V at h2
  simp at h2
end

theorem made_any {w : World} {g b : Nat} {md : Bool} (h : Tab w g md b) :
    Calls Try.prog 20 #[.pointer (some ⟨g, 0, none⟩)] w fun e w' => e = .returned (.int .i64 (if md then 1 else 0)) ∧ w = w' := by
  obtain ⟨R, hR, hB, _⟩ := h
  have h0 := hB.at 259
  rw [tbl_made hR] at h0
  have hl := run_call_load (P := Try.prog) Try.func65 (by kernel_rfl) (by kernel_rfl) (by kernel_rfl) .i64 (by kernel_rfl) h0
  clear hB h0 hR
  cases md
  all_goals
    simp only [if_true, if_false, Bool.false_eq_true] at hl ⊢
    go_enter Try.func20, Try.ntmps20
    go_wp2
    go_ret
    exact ⟨rfl, rfl⟩
theorem bytes_any {w : World} {g b : Nat} {md : Bool} (h : Tab w g md b) :
    Calls Try.prog 21 #[.pointer (some ⟨g, 0, none⟩)] w fun e w' => e = .returned (.int .u64 b) ∧ w = w' := by
  obtain ⟨R, hR, hB, _⟩ := h
  have h0 := hB.at 260
  rw [tbl_bytes hR] at h0
  have hl := run_call_load (P := Try.prog) Try.func66 (by kernel_rfl) (by kernel_rfl) (by kernel_rfl) .u64 (by kernel_rfl) h0
  clear hB h0 hR
  go_enter Try.func21, Try.ntmps21
  go_wp2
  go_ret
  exact ⟨rfl, rfl⟩

theorem doneTab {w : World} {g b : Nat} {md : Bool} (h : Tab w g md b) :
    Calls Try.prog 43 #[.pointer (some ⟨g, 0, none⟩), .func (.func 44) #[.pointer (some ⟨g, 0, none⟩)] #[]] w fun e w' => e = .returned (.tuple #[]) ∧ Blk w' g 45 (tbl 1 0 rests 1 b) ∧ w.grownBy w' (some g) := by
  obtain ⟨R, hR, hB, hm⟩ := h
  cases md
  · exact do_first hB hR
  · rw [hm rfl] at hB
    refine (do_done _ hB).mono ?_
    rintro e w' ⟨rfl, rfl⟩
    exact ⟨rfl, hB, World.grownBy.refl _ _⟩
end Go.Proofs.Ytmbbjhlpfgpibaa
