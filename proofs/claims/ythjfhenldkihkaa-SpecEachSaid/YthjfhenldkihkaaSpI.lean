/- spec: hold; a type's parts in order; parts hands them on. -/
import Derived.Test.YthjfhenldkihkaaSpH
namespace Go.Proofs.Ythjfhenldkihkaa
set_option linter.unusedSimpArgs false
set_option linter.unusedVariables false
open Go.RowKit

/-- The types of which a type is made, in order. -/
def NT.parts (t : NT) : List Int := t.ks ++ t.fs.map FT.ty ++ t.cs.map CT.ty ++ (if t.k = 9 ∧ 0 ≤ t.el then [t.el] else [])
/-- A function value that is handed the parts ps one by one, with what it captured. -/
structure Hands (F : Nat) (caps : Array Value) (ps : List Int) (B : Nat) (Inv : Nat → World → Prop) (Stp : World → Prop) : Prop where
  ent : ∀ args w, (callFunc F args).run Try.prog w = .ok (.enter F args) w
  call : ∀ i (h : i < ps.length) W, Inv i W → B < W.heap.size → Calls Try.prog F (#[.int .i64 ps[i]] ++ caps) W fun e W' => ∃ b, e = .returned (.bool b) ∧ (W'.heap[B]? = W.heap[B]? ∧ W.heap.size ≤ W'.heap.size) ∧ (b = true → Inv (i + 1) W') ∧ (b = false → Stp W')
  keep : ∀ i W W', Inv i W → Below W.heap.size W W' → Inv i W'
/-- What parts leaves. -/
def PartsR (n : Nat) (Inv : Nat → World → Prop) (Stp : World → Prop) (e : Ending) (w' : World) : Prop :=
  ∃ b, e = .returned (.bool b) ∧ (b = true → Inv n w') ∧ (b = false → Stp w')
def heldC (l : List Bool) : List Value := boolC l
/-- A type is held. -/
def holdF (l : List Bool) (at_ : Int) : Except Nat (List Bool) :=
  if at_ < 0 ∨ (l.length : Int) ≤ at_ then .error 3 else if l.getD at_.toNat true = true then .error 4 else .ok (l.set at_.toNat true)
def holdR (l : List Bool) (m : Nat) (at_ : Int) (w : World) (g : Nat) (e : Ending) (w' : World) : Prop :=
  match holdF (l.take m) at_ with
  | .error c => e = .returned (.int .i64 (c : Nat)) ∧ w' = w
  | .ok _ => e = .returned (.int .i64 0) ∧ w' = w.setCell ⟨g, at_.toNat, none⟩ (.bool true)
set_option maxRecDepth 100000 in
set_option maxHeartbeats 1000000 in
theorem hold_any (l : List Bool) (m c : Nat) (hm : m ≤ l.length) (g : Nat) (at_ : Int) (w : World) (h : Blk w g 4 (boolC l)) : Calls Try.prog 23 #[.slice (some ⟨g, 0, none⟩) m c, .int .i64 at_] w (holdR l m at_ w g) := by
  have HP := hid (show holdR l m at_ w g = holdR l m at_ w g from rfl)
  by_cases h0 : at_ < 0
  · have hP : holdF (l.take m) at_ = .error 3 := by unfold holdF; rw [if_pos (.inl h0)]
    have HQ := hid (show holdR l m at_ w g = fun e w' => e = .returned (.int .i64 (3 : Nat)) ∧ w' = w by unfold holdR; rw [hP])
    rw [HQ.out]
    clear h HP HQ hP hm
    go_enter Try.func23, Try.ntmps23
    go_wp2
    go_ret
    exact ⟨rfl, rfl⟩
  obtain ⟨k, rfl⟩ : ∃ k : Nat, at_ = (k : Int) := ⟨at_.toNat, by omega⟩
  by_cases h1 : m ≤ k
  · have hP : holdF (l.take m) (k : Int) = .error 3 := by unfold holdF; rw [if_pos (.inr (by rw [List.length_take, Nat.min_eq_left hm]; omega))]
    have HQ := hid (show holdR l m (k : Int) w g = fun e w' => e = .returned (.int .i64 (3 : Nat)) ∧ w' = w by unfold holdR; rw [hP])
    rw [HQ.out]
    clear h HP HQ hP hm
    have h2 : (m : Int) ≤ (k : Int) := by omega
    go_enter Try.func23, Try.ntmps23
    go_wp2
    go_ret
    exact ⟨rfl, rfl⟩
  have hkl : k < l.length := by omega
  have hc : w.cell? ⟨g, k, none⟩ = some (.bool l[k]) := by
    rw [Blk.at h, List.getElem?_eq_getElem (by rw [boolC_len]; exact hkl)]
    simp [boolC]
  have hf := Blk.free h k
  have hgd : (l.take m).getD k true = l[k] := by
    rw [List.getD_eq_getElem?_getD, List.getElem?_take_of_lt (by omega), List.getElem?_eq_getElem hkl]
    rfl
  have e1 : ¬ ((k : Int) < 0 ∨ (((l.take m).length : Nat) : Int) ≤ (k : Int)) := by rw [List.length_take, Nat.min_eq_left hm]; omega
  have hlt : (k : Int) < (m : Int) := by omega
  have h00 : (0 : Int) ≤ (k : Int) := by omega
  cases hb : l[k]
  · have hP : holdF (l.take m) (k : Int) = .ok ((l.take m).set k true) := by unfold holdF; rw [if_neg e1, Int.toNat_natCast, hgd, hb, if_neg (by decide)]
    have HQ := hid (show holdR l m (k : Int) w g = fun e w' => e = .returned (.int .i64 0) ∧ w' = w.setCell ⟨g, k, none⟩ (.bool true) by unfold holdR; rw [hP]; rfl)
    rw [HQ.out]
    rw [hb] at hc
    clear h HP HQ hP hgd e1 hb hkl h0 h1 hm
    go_enter Try.func23, Try.ntmps23
    go_wp2
    go_ret
    exact ⟨rfl, rfl⟩
  · have hP : holdF (l.take m) (k : Int) = .error 4 := by unfold holdF; rw [if_neg e1, Int.toNat_natCast, hgd, hb, if_pos rfl]
    have HQ := hid (show holdR l m (k : Int) w g = fun e w' => e = .returned (.int .i64 (4 : Nat)) ∧ w' = w by unfold holdR; rw [hP])
    rw [HQ.out]
    rw [hb] at hc
    clear h HP HQ hP hgd e1 hb hkl h0 h1 hm
    go_enter Try.func23, Try.ntmps23
    go_wp2
    go_ret
    exact ⟨rfl, rfl⟩
end Go.Proofs.Ythjfhenldkihkaa
