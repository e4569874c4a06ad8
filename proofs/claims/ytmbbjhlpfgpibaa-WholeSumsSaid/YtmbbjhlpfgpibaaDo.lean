/- sync.Once over the table: what is asked first makes it. -/
import Derived.Test.YtmbbjhlpfgpibaaFill
namespace Go.Proofs.Ytmbbjhlpfgpibaa
open Go.RowKit

theorem disable (w : World) : (callFunc 76 #[]).run Try.prog w = .ok (.value (.tuple #[])) w := run_call_mark0 Try.func76 (by kernel_rfl) (by kernel_rfl) (by kernel_rfl) .disable (by kernel_rfl) w
theorem enable (w : World) : (callFunc 78 #[]).run Try.prog w = .ok (.value (.tuple #[])) w := run_call_mark0 Try.func78 (by kernel_rfl) (by kernel_rfl) (by kernel_rfl) .enable (by kernel_rfl) w
theorem acquire (a : Addr) (w : World) : (callFunc 79 #[.pointer (some a)]).run Try.prog w = .ok (.value (.tuple #[])) w := run_call_marked Try.func79 (by kernel_rfl) (by kernel_rfl) (by kernel_rfl) .acquire (by kernel_rfl) a w
theorem releaseMerge (a : Addr) (w : World) : (callFunc 81 #[.pointer (some a)]).run Try.prog w = .ok (.value (.tuple #[])) w := run_call_marked Try.func81 (by kernel_rfl) (by kernel_rfl) (by kernel_rfl) .releaseMerge (by kernel_rfl) a w

/-- The store of 'done', as a deferred call. -/
theorem store_deferred (a : Addr) (x : Value) (u : FrameMode) (w : World) (hc : w.cell? a = some x) (hz : w.frozen? a = false) :
    CallsD Try.prog 70 #[.pointer (some a), .bool true] u w fun e u' w' => u' = u ∧ (e = .returned (.tuple #[]) ∧ w' = w.drew.setCell a (.int .u32 1)) := by
  have hc' : w.drew.cell? a = some x := by go_simp
  have hz' : w.drew.frozen? a = false := by go_simp
  have hst := run_call_store (P := Try.prog) Try.func74 (by kernel_rfl) (by kernel_rfl) (by kernel_rfl) (by kernel_rfl) (k := .u32) (y := 1) hc' hz'
  go_enter_d Try.func70, Try.ntmps70
  go_wp2
  go_region_calls
  all_goals (go_end0; exact ⟨rfl, rfl⟩)

set_option maxRecDepth 100000 in
/-- The lock is let go, as a deferred call. -/
theorem unlock_deferred (a : Addr) (u : FrameMode) (w : World) (hc : w.cell? a = some (.int .i32 1)) (hz : w.frozen? a = false) :
    CallsD Try.prog 69 #[.pointer (some a)] u w fun e u' w' => u' = u ∧ (e = .returned (.tuple #[]) ∧ w' = w.setCell a (.int .i32 0)) := by
  have hd := disable
  have he := enable
  have hr := releaseMerge
  have hadd := run_call_add (P := Try.prog) Try.func82 (by kernel_rfl) (by kernel_rfl) (by kernel_rfl) .i32 (by kernel_rfl) (y := -1) (s := 0) hc hz (by simp [go_sem]; rfl)
  have hcv := run_convert_to_unsafe (P := Try.prog) (src := 125) (dst := 129) Try.underlying125 Try.underlying129 (by kernel_rfl) hc
  go_enter_d Try.func69, Try.ntmps69
  go_wp2
  go_end0
  exact ⟨rfl, rfl⟩

set_option maxRecDepth 100000 in
/-- The lock, free, is taken. -/
theorem lock_free (a : Addr) (w : World) (hc : w.cell? a = some (.int .i32 0)) (hz : w.frozen? a = false) :
    Calls Try.prog 68 #[.pointer (some a)] w fun e w' => e = .returned (.tuple #[]) ∧ w' = w.setCell a (.int .i32 1) := by
  have hd := disable
  have he := enable
  have ha := acquire
  have hcas := run_call_cas_hit (P := Try.prog) Try.func77 (by kernel_rfl) (by kernel_rfl) (by kernel_rfl) .i32 (by kernel_rfl) (y := 1) hc hz
  have hc' : (w.setCell a (.int .i32 1)).cell? a = some (.int .i32 1) := World.cell?_setCell_same w a _ hc
  have hcv := run_convert_to_unsafe (P := Try.prog) (src := 125) (dst := 129) Try.underlying125 Try.underlying129 (by kernel_rfl) hc'
  go_enter Try.func68, Try.ntmps68
  go_wp2
  go_end0
  exact ⟨rfl, rfl⟩

theorem bload_no (a : Addr) (w : World) (h0 : w.cell? a = some (.int .u32 0)) :
    Calls Try.prog 60 #[.pointer (some a)] w fun e w' => e = .returned (.bool false) ∧ w = w' := by
  have hl := run_call_load (P := Try.prog) Try.func67 (by kernel_rfl) (by kernel_rfl) (by kernel_rfl) .u32 (by kernel_rfl) h0
  go_enter Try.func60, Try.ntmps60
  go_wp2
  go_ret
  exact ⟨rfl, rfl⟩
theorem bload_yes (a : Addr) (w : World) (h0 : w.cell? a = some (.int .u32 1)) :
    Calls Try.prog 60 #[.pointer (some a)] w fun e w' => e = .returned (.bool true) ∧ w = w' := by
  have hl := run_call_load (P := Try.prog) Try.func67 (by kernel_rfl) (by kernel_rfl) (by kernel_rfl) .u32 (by kernel_rfl) h0
  go_enter Try.func60, Try.ntmps60
  go_wp2
  go_ret
  exact ⟨rfl, rfl⟩

set_option maxRecDepth 100000 in
set_option maxHeartbeats 1600000 in
theorem slow_any {w : World} {g : Nat} {R : List Nat} {b : Nat} (hB : Blk w g 45 (tbl 0 0 R 0 b)) (hR : R.length = 256) :
    Calls Try.prog 61 #[.pointer (some ⟨g, 0, none⟩), .func (.func 44) #[.pointer (some ⟨g, 0, none⟩)] #[]] w fun e w' => e = .returned (.tuple #[]) ∧ Blk w' g 45 (tbl 1 0 rests 1 b) ∧ w.grownBy w' (some g) := by
  have hB1 := (hB.put 1 (.int .i32 1))
  rw [tbl_set1] at hB1
  have h0 := hB1.at 0
  rw [tbl_c0] at h0
  have h1 := hB.at 1
  rw [tbl_c1] at h1
  have f1 := hB.free 1
  have HB1 := hid hB1
  have hg1 : w.grownBy (w.setCell ⟨g, 1, none⟩ (.int .i32 1)) (some g) := grown_set w 0 g 1 (.int .i32 1)
  have HR := hid hR
  have hnot : ∀ (x : Bool) (w : World), (Op.unary .not (.bool x)).run Try.prog w = .ok (.bool (!x)) w := fun _ _ => rfl
  clear hB hB1 hR
  go_enter_defers Try.func61, Try.ntmps61
  go_wp2_with (go_at_call 68; refine (lock_free ⟨g, 1, none⟩ _ h1 f1).mono ?_; rintro e w' ⟨rfl, rfl⟩)
  refine (bload_no ⟨g, 0, none⟩ _ h0).mono ?_
  rintro e w' ⟨rfl, rfl⟩
  clear h0 h1
  generalize w.setCell ⟨g, 1, none⟩ (.int .i32 1) = w1 at *
  go_wp2_with fail
  refine (fill_any HB1.out HR.out (by decide)).mono ?_
  rintro e w2 ⟨rfl, hB2, hg2⟩
  go_wp2
  have hw : w.grownBy w2 (some g) := grown_trans hg1 hg2
  refine leaves_cons (f := 70) (args := #[.pointer (some ⟨g, 0, none⟩), .bool true]) (by simp) (by simp [go_sem]) ?_
  refine (store_deferred ⟨g, 0, none⟩ (.int .u32 0) .returning _ (by have := hB2.at 0; rw [tbl_c0] at this; exact this) (hB2.free 0)).mono ?_
  rintro e u' w'' ⟨rfl, rfl, rfl⟩
  have hB3 := (hB2.drew).put 0 (.int .u32 1)
  rw [tbl_set0] at hB3
  have hg3 := grown_trans hw (grown_set w2 1 g 0 (.int .u32 1))
  refine leaves_cons (f := 69) (args := #[.pointer (some ⟨g, 1, none⟩)]) (by simp [settle]) (by simp [go_sem]) ?_
  refine (unlock_deferred ⟨g, 1, none⟩ _ _ (by have := hB3.at 1; rw [tbl_c1] at this; exact this) (hB3.free 1)).mono ?_
  rintro e u' w'' ⟨rfl, rfl, rfl⟩
  have hB4 := hB3.put 1 (.int .i32 0)
  rw [tbl_set1] at hB4
  have hg4 := grown_trans hg3 (grown_set _ 0 g 1 (.int .i32 0))
  simp [Leaves, settle, results, Try.results61]
  exact ⟨hB4, hg4⟩

set_option maxRecDepth 100000 in
set_option maxHeartbeats 1600000 in
theorem do_first {w : World} {g : Nat} {R : List Nat} {b : Nat} (hB : Blk w g 45 (tbl 0 0 R 0 b)) (hR : R.length = 256) :
    Calls Try.prog 43 #[.pointer (some ⟨g, 0, none⟩), .func (.func 44) #[.pointer (some ⟨g, 0, none⟩)] #[]] w fun e w' => e = .returned (.tuple #[]) ∧ Blk w' g 45 (tbl 1 0 rests 1 b) ∧ w.grownBy w' (some g) := by
  have h0 := hB.at 0
  rw [tbl_c0] at h0
  have hnot : ∀ (x : Bool) (w : World), (Op.unary .not (.bool x)).run Try.prog w = .ok (.bool (!x)) w := fun _ _ => rfl
  have HB := hid hB
  clear hB
  go_enter Try.func43, Try.ntmps43
  go_wp2_with fail
  refine (bload_no ⟨g, 0, none⟩ _ h0).mono ?_
  rintro e w' ⟨rfl, rfl⟩
  go_wp2_with fail
  refine (slow_any HB.out hR).mono ?_
  rintro e w1 ⟨rfl, hB1, hg1⟩
  go_wp2
  go_end0
  exact ⟨rfl, hB1, hg1⟩

set_option maxRecDepth 100000 in
theorem do_done {w : World} {g : Nat} {R : List Nat} {m b : Nat} (fv : Value) (hB : Blk w g 45 (tbl 1 0 R m b)) :
    Calls Try.prog 43 #[.pointer (some ⟨g, 0, none⟩), fv] w fun e w' => e = .returned (.tuple #[]) ∧ w = w' := by
  have h0 := hB.at 0
  rw [tbl_c0] at h0
  have hnot : ∀ (x : Bool) (w : World), (Op.unary .not (.bool x)).run Try.prog w = .ok (.bool (!x)) w := fun _ _ => rfl
  have HB := hid hB
  clear hB
  go_enter Try.func43, Try.ntmps43
  go_wp2_with fail
  refine (bload_yes ⟨g, 0, none⟩ _ h0).mono ?_
  rintro e w' ⟨rfl, rfl⟩
  go_wp2
  go_end0
  exact ⟨rfl, rfl⟩
end Go.Proofs.Ytmbbjhlpfgpibaa
