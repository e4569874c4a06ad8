/- lex: the cursor, what a byte is, and what is gone past. -/
import Derived.Test.YtmefllfmcjjbaaaLxM
import Derived.Test.YtmefllfmcjjbaaaBase
import Derived.Deep.Cut
import Derived.OwnWalk
namespace Go.Proofs.Ytmefllfmcjjbaaa
open Go.RowKit

/-- The cursor's block. -/
def Cu (w : World) (g : Nat) (s : ByteArray) (i : Nat) : Prop := Blk w g 44 [.string s, .int .i64 (i : Int)]
theorem Cu.cells {w : World} {g : Nat} {s : ByteArray} {i : Nat} (h : Cu w g s i) : w.cell? ⟨g, 0, none⟩ = some (.string s) ∧ w.cell? ⟨g, 1, none⟩ = some (.int .i64 (i : Int)) ∧ w.frozen? ⟨g, 1, none⟩ = false := ⟨Blk.at h 0, Blk.at h 1, Blk.free h 1⟩
theorem Cu.drewN {w : World} {g : Nat} {s : ByteArray} {i : Nat} (h : Cu w g s i) (n : Nat) : Cu (w.drewN n) g s i := h
theorem Cu.drew {w : World} {g : Nat} {s : ByteArray} {i : Nat} (h : Cu w g s i) : Cu w.drew g s i := h
theorem Cu.put {w : World} {g : Nat} {s : ByteArray} {i : Nat} (h : Cu w g s i) (j : Nat) : Cu (w.setCell ⟨g, 1, none⟩ (.int .i64 (j : Int))) g s j := by
  have := Blk.put h 1 (.int .i64 (j : Int))
  simpa [Cu] using this
theorem Cu.keep {w w' : World} {g : Nat} {s : ByteArray} {i : Nat} (h : Cu w g s i) (hb : Below w.heap.size w w') : Cu w' g s i := Blk.keep h hb
theorem grown_refl (w : World) (g : Option Nat) : w.grownBy w g := ⟨rfl, rfl, rfl, Nat.le_refl _, fun _ _ _ => rfl⟩
theorem grown_set1 (w : World) (g o : Nat) (u : Value) : w.grownBy (w.setCell ⟨g, o, none⟩ u) (some g) :=
  ⟨rfl, rfl, rfl, by simp [World.setCell], fun j _ hne => Below.heap_setCell w ⟨g, o, none⟩ u j (fun e => hne (by rw [e]))⟩

theorem i_le {a b : Nat} : ((a : Int) ≤ (b : Int)) ↔ a ≤ b := by omega
/-- letter(b). -/
theorem letter_any (c : Nat) (W : World) : Calls Try.prog 31 #[.int .u8 (c : Int)] W fun e w' => e = .returned (.bool (letN c)) ∧ ∃ q, w' = W.drewN q := by
  unfold letN
  by_cases h1 : 97 ≤ c <;> by_cases h2 : c ≤ 122 <;> by_cases h3 : 65 ≤ c <;> by_cases h4 : c ≤ 90 <;> by_cases h5 : c = 95
  all_goals first | (exfalso; omega) | skip
  all_goals
    have z1 : (97 : Int) ≤ (c : Int) ↔ 97 ≤ c := by omega
    have z2 : (c : Int) ≤ 122 ↔ c ≤ 122 := by omega
    have z3 : (65 : Int) ≤ (c : Int) ↔ 65 ≤ c := by omega
    have z4 : (c : Int) ≤ 90 ↔ c ≤ 90 := by omega
    have z5 : (c : Int) = 95 ↔ c = 95 := by omega
    go_enter Try.func31, Try.ntmps31
    go_wp2
    all_goals first | (exfalso; omega) | (go_ret; exact ⟨by simp [h1, h2, h3, h4, h5, z5], 0, rfl⟩)
theorem digit_any (c : Nat) (W : World) : Calls Try.prog 33 #[.int .u8 (c : Int)] W fun e w' => e = .returned (.bool (digN c)) ∧ ∃ q, w' = W.drewN q := by
  unfold digN
  by_cases h1 : 48 ≤ c <;> by_cases h2 : c ≤ 57
  all_goals first | (exfalso; omega) | skip
  all_goals
    have z1 : (48 : Int) ≤ (c : Int) ↔ 48 ≤ c := by omega
    have z2 : (c : Int) ≤ 57 ↔ c ≤ 57 := by omega
    go_enter Try.func33, Try.ntmps33
    go_wp2
    all_goals first | (exfalso; omega) | (go_ret; exact ⟨by simp [h1, h2], 0, rfl⟩)
/-- A function value that tells of a byte whether it is of a sort. -/
def Tells (f : Nat) (p : UInt8 → Bool) : Prop := ∀ (c : UInt8) (W : World), Calls Try.prog f #[.int .u8 ((c.toNat : Nat) : Int)] W fun e w' => e = .returned (.bool (p c)) ∧ ∃ q, w' = W.drewN q
theorem digit_tells : Tells 33 digB := fun c W => digit_any c.toNat W
theorem name1_tells : Tells 44 namB := fun c W => by
  have HL := hid (fun W => letter_any c.toNat W)
  have HD := hid (fun W => digit_any c.toNat W)
  unfold namB
  generalize c.toNat = n at *
  cases e1 : letN n <;> cases e2 : digN n
  all_goals
    rw [e1] at HL
    rw [e2] at HD
    go_enter Try.func44, Try.ntmps44
    go_wp2_with (first
      | (go_at_call 31; refine (HL.out _).mono ?_; rintro e w' ⟨rfl, q1, rfl⟩)
      | (go_at_call 33; refine (HD.out _).mono ?_; rintro e w' ⟨rfl, q2, rfl⟩))
    go_ret
    first | exact ⟨rfl, _, rfl⟩ | exact ⟨rfl, _, World.drewN_drewN _ _ _⟩
theorem pattern1_tells : Tells 45 patB := fun c W => by
  unfold patB
  generalize c.toNat = n
  by_cases h1 : 32 ≤ n <;> by_cases h2 : n ≤ 126 <;> by_cases h3 : n = 47
  all_goals first | (exfalso; omega) | skip
  all_goals
    have z1 : (32 : Int) ≤ (n : Int) ↔ 32 ≤ n := by omega
    have z2 : (n : Int) ≤ 126 ↔ n ≤ 126 := by omega
    have z3 : (n : Int) = 47 ↔ n = 47 := by omega
    go_enter Try.func45, Try.ntmps45
    go_wp2
    all_goals first | (exfalso; omega) | (go_ret; refine ⟨?_, 0, rfl⟩; first | (simp [h1, h2, h3]; done) | (simp [h1, h2, h3]; rfl) | (simp [h1, h2, h3]; exact fun h => h3 (by have h : (n : Int) = 47 := h; omega)))
theorem skip1_tells : Tells 30 nlB := fun c W => by
  unfold nlB
  generalize c.toNat = n
  by_cases h3 : n = 10
  all_goals
    have z3 : (n : Int) = 10 ↔ n = 10 := by omega
    go_enter Try.func30, Try.ntmps30
    go_wp2
    all_goals first | (exfalso; omega) | (go_ret; exact ⟨by simp [h3, z3], 0, rfl⟩)
end Go.Proofs.Ytmefllfmcjjbaaa
