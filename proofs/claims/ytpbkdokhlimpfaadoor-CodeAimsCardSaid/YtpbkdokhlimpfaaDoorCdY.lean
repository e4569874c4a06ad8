/- code: Reached. -/
import Derived.Test.YtpbkdokhlimpfaaDoorCdX
namespace Go.Proofs.YtpbkdokhlimpfaaDoor
set_option linter.unusedSimpArgs false
set_option linter.unusedVariables false
open Go.RowKit

theorem info_boolV : (Tryd.prog.info? 4).map (fun i => (i.zero, i.size, i.bytes)) = some (some (.bool false), 1, 1) := by kernel_rfl
def bools (l : List Bool) : List Value := l.map Value.bool
theorem made_bools (n : Nat) : (madeCells (Value.bool false).cells n) = (bools (List.replicate n false)).toArray := by
  apply Array.ext'
  simp [madeCells, bools, Value.cells]
  apply List.ext_getElem (by simp)
  intro i h1 h2
  simp [Nat.mod_one]
theorem mk_bools (n : Nat) (hn : n ≤ 1048576) (w : World) : (Instr.makeSlice 52 (.int .i64 (n : Int)) (.int .i64 (n : Int))).run Tryd.prog w = .ok (.slice (some ⟨w.heap.size, 0, none⟩) n n) (w.alloc (.cells (bools (List.replicate n false)).toArray 4)) := by
  obtain ⟨i0, hi, hz0, hz1, hz2⟩ := info_parts info_boolV
  have hr := run_make (P := Tryd.prog) w 52 4 i0 _ Tryd.underlying52 hi hz0 .i64 .i64 n n (by omega) (by omega) (by rw [hz2]; omega) (by omega)
  rw [hz1] at hr
  simp only [Int.toNat_natCast, Nat.mul_one] at hr
  rw [made_bools] at hr
  exact hr
/-- Reached on its way. -/
structure RcI (w : World) (p : PT) (g0 gm : Nat) (met : List Bool) (todo : List Int) (A : Option Addr) (n c : Nat) (wr : World) : Prop where
  bel : Below w.heap.size w wr
  lo : w.heap.size ≤ gm
  lo0 : w.heap.size ≤ g0
  box : BoxP wr g0 p
  met : Blk wr gm 4 (bools met)
  row : wr.ownsRow w.heap.size 3 1 (.slice A n c) n (ints todo)
theorem RcI.keep {w wr w' : World} {p : PT} {g0 gm : Nat} {met : List Bool} {todo : List Int} {A : Option Addr} {n c : Nat} (h : RcI w p g0 gm met todo A n c wr) (hb : Below wr.heap.size wr w') : RcI w p g0 gm met todo A n c w' :=
  ⟨h.bel.trans (hb.mono h.bel.size), h.lo, h.lo0, Blk.keep h.box hb, Blk.keep h.met hb, owns_mono h.row (fun b hh => hb.block b (owns_block h.row b hh).2)⟩
theorem RcI.app {w wr w' w7 : World} {p : PT} {g0 gm : Nat} {met : List Bool} {todo : List Int} {A A' : Option Addr} {n c c' : Nat} {t : Int} (h : RcI w p g0 gm met todo A n c wr) (hb : Below wr.heap.size wr w') (hown : w7.ownsRow w.heap.size 3 1 (.slice A' (n + 1) c') (n + 1) (ints todo ++ ints [t])) (hg : w'.grownBy w7 (Value.slice A n c).ownBlock) : RcI w p g0 gm met (todo ++ [t]) A' (n + 1) c' w7 := by
  have h1 := h.keep hb
  refine ⟨h1.bel.grown hg h1.bel.size (fun k hk => (owns_block h.row k hk).1), h.lo, h.lo0, Blk.grown h1.box hg (fun e => own_neN h1.row h1.box (by decide) e.symm), Blk.grown h1.met hg (fun e => own_neN h1.row h1.met (by decide) e.symm), ?_⟩
  have e : ints (todo ++ [t]) = ints todo ++ ints [t] := by unfold ints; rw [List.map_append]
  rw [e]
  exact hown
theorem RcI.mark {w wr : World} {p : PT} {g0 gm : Nat} {met : List Bool} {todo : List Int} {A : Option Addr} {n c : Nat} (h : RcI w p g0 gm met todo A n c wr) (i : Nat) : RcI w p g0 gm (met.set i true) todo A n c (wr.setCell ⟨gm, i, none⟩ (.bool true)) := by
  refine ⟨h.bel.setCell h.lo _, h.lo, h.lo0, Blk.other h.box (fun e => ?_) _, ?_, owns_mono h.row (fun b hh => Below.heap_setCell wr _ _ b (fun e => ?_))⟩
  · simp only at e
    have h1 := h.box
    have h2 := h.met
    unfold BoxP Blk at h1
    unfold Blk at h2
    rw [e, h2] at h1
    injection h1 with h1
    injection h1 with _ h1
    revert h1
    decide
  · have := Blk.put h.met i (.bool true)
    unfold bools at this ⊢
    rw [List.map_set]
    exact this
  · simp only at e
    subst e
    exact own_neN h.row h.met (by decide) hh
theorem own_pop {w : World} {base : Nat} {e : TypeId} {A : Option Addr} {n c : Nat} {xs : List Value} (h : w.ownsRow base e 1 (.slice A (n + 1) c) (n + 1) xs) : w.ownsRow base e 1 (.slice A n c) n (xs.take n) := by
  refine ⟨by rw [List.length_take, h.1]; omega, ?_⟩
  rcases h.2 with ⟨hv, hm⟩ | ⟨g, cap, cur, hv, hb, hg, h1, h2, h3, h4⟩
  · omega
  · injection hv with e1 e2 e3
    subst e1 e3
    exact .inr ⟨g, c, cur, rfl, hb, hg, by omega, h2, h3, by rw [← h4, List.take_take]; congr 1; omega⟩
theorem RcI.pop {w wr : World} {p : PT} {g0 gm : Nat} {met : List Bool} {todo : List Int} {t : Int} {A : Option Addr} {n c : Nat} (h : RcI w p g0 gm met (todo ++ [t]) A (n + 1) c wr) : RcI w p g0 gm met todo A n c wr := by
  refine ⟨h.bel, h.lo, h.lo0, h.box, h.met, ?_⟩
  have hl := h.row.1
  unfold ints at hl
  rw [List.length_map, List.length_append, List.length_singleton] at hl
  have := own_pop h.row
  have e : (ints (todo ++ [t])).take n = ints todo := by
    unfold ints
    rw [List.map_append, List.take_left' (by rw [List.length_map]; omega)]
  rw [e] at this
  exact this
end Go.Proofs.YtpbkdokhlimpfaaDoor
