/- strings.Builder: what its writers do to one that the call has made. -/
import Derived.Test.YtplldfbjbekdlaaDoorBytes
import Derived.Lib.Builder
import Derived.Lib.UnsafeStr
import Derived.Lib.AppendStr
import Derived.Lib.OthersKept
import Derived.Laws.Externs
import Derived.Test.YtplldfbjbekdlaaDoorShelf
namespace Go.Proofs.YtplldfbjbekdlaaDoor
set_option linter.unusedVariables false
set_option linter.unusedSimpArgs false
open Go.RowKit

abbrev bldT : TypeId := 51
abbrev bT : TypeId := 5
/-- A builder that has been written: it holds these bytes. -/
def BldU (w : World) (base b : Nat) (l : List UInt8) : Prop :=
  base ≤ b ∧ ∃ A c, Blk w b bldT [.pointer (some ⟨b, 0, none⟩), .slice A l.length c] ∧ w.ownsRow base bT 1 (.slice A l.length c) l.length (l.map isB)
/-- A builder. -/
def Bld (w : World) (base b : Nat) (l : List UInt8) : Prop := (base ≤ b ∧ l = [] ∧ Blk w b bldT [.pointer none, .slice none 0 0]) ∨ BldU w base b l
/-- What else is as it was. -/
abbrev Oth (b : Nat) (w w' : World) : Prop := Lib.OthersKept bT (some b) w w'

theorem BldU.below {w w' : World} {base b : Nat} {l : List UInt8} (h : BldU w base b l) (hb : Below w.heap.size w w') : BldU w' base b l := by
  obtain ⟨hB, A, c, hk, ho⟩ := h
  exact ⟨hB, A, c, hk.keep hb, owns_chg ho (Chg.of_below hb (fun _ => False)) (fun _ _ => id)⟩
theorem Bld.below {w w' : World} {base b : Nat} {l : List UInt8} (h : Bld w base b l) (hb : Below w.heap.size w w') : Bld w' base b l := by
  rcases h with ⟨hB, hl, hk⟩ | h
  · exact .inl ⟨hB, hl, hk.keep hb⟩
  · exact .inr (h.below hb)
theorem Bld.lt {w : World} {base b : Nat} {l : List UInt8} (h : Bld w base b l) : b < w.heap.size := by
  rcases h with ⟨_, _, hk⟩ | ⟨_, _, _, hk, _⟩
  · exact hk.lt
  · exact hk.lt
theorem Bld.base_le {w : World} {base b : Nat} {l : List UInt8} (h : Bld w base b l) : base ≤ b := by
  rcases h with ⟨hB, _, _⟩ | ⟨hB, _⟩
  · exact hB
  · exact hB

theorem bld_size : (Tryd.prog.info? bldT).map (·.size) = some 2 := by kernel_rfl
theorem bld_lies : liesAt Tryd.prog Tryd.prog.depth bldT (2 / Tryd.prog.cellsOf bldT) 0 bldT 1 = true := by kernel_rfl
theorem Blk.shape {w : World} {g : Nat} {t : TypeId} {cs : List Value} (h : Blk w g t cs) : w.shape? g = some (t, cs.length) := by
  unfold Blk at h
  simp [World.shape?, h]

set_option maxRecDepth 100000 in
theorem cc_fresh {w : World} {b : Nat} (hk : Blk w b bldT [.pointer none, .slice none 0 0]) :
    Calls Tryd.prog 39 #[.pointer (some ⟨b, 0, none⟩)] w fun e w' => e = .returned (.tuple #[]) ∧ w.setCell ⟨b, 0, none⟩ (.pointer (some ⟨b, 0, none⟩)) = w' := by
  obtain ⟨j, hj, hjs⟩ := Option.map_eq_some_iff.1 bld_size
  have h0 := hk.at 0
  have hf := hk.free 0
  have hto := Lib.run_to_unsafe w ⟨b, 0, none⟩ Tryd.underlying48 Tryd.underlying90 hj (by rw [hjs]; decide) hk.shape (Nat.zero_lt_succ 1)
  have hfrom := Lib.run_from_unsafe w ⟨b, 0, none⟩ Tryd.underlying90 Tryd.underlying48 hj hk.shape bld_lies
  have hno : (callFunc 55 #[.pointer (some ⟨b, 0, none⟩)]).run Tryd.prog w = .ok (.value (.pointer (some ⟨b, 0, none⟩))) w := by
    rw [run_callFunc_extern Tryd.func55 (by kernel_rfl) (by kernel_rfl) (by kernel_rfl) (e := Extern.AbiNoEscape.same) (by kernel_rfl), Lib.run_noEscape]
    rfl
  clear hk hj hjs
  go_enter Tryd.func39, Tryd.ntmps39
  go_wp2
  go_end0
  exact ⟨rfl, rfl⟩
set_option maxRecDepth 100000 in
theorem cc_used {w : World} {b : Nat} {v : Value} (hk : Blk w b bldT [.pointer (some ⟨b, 0, none⟩), v]) :
    Calls Tryd.prog 39 #[.pointer (some ⟨b, 0, none⟩)] w fun e w' => e = .returned (.tuple #[]) ∧ w = w' := by
  obtain ⟨j, hj, hjs⟩ := Option.map_eq_some_iff.1 bld_size
  have h0 := hk.at 0
  have hne := Lib.run_neq_ptr_same w ⟨b, 0, none⟩ Tryd.underlying48 hj
  clear hk hj hjs
  go_enter Tryd.func39, Tryd.ntmps39
  go_wp2
  go_end0
  exact ⟨rfl, rfl⟩
/-- Behind copyCheck it is one that has been written. -/
theorem cc_any {w : World} {base b : Nat} {l : List UInt8} (h : Bld w base b l) :
    Calls Tryd.prog 39 #[.pointer (some ⟨b, 0, none⟩)] w fun e w' => e = .returned (.tuple #[]) ∧ BldU w' base b l ∧ Below base w w' ∧ Oth b w w' := by
  rcases h with ⟨hB, rfl, hk⟩ | ⟨hB, A, c, hk, ho⟩
  · refine (cc_fresh hk).mono ?_
    rintro e w' ⟨rfl, rfl⟩
    exact ⟨rfl, ⟨hB, none, 0, hk.put 0 (.pointer (some ⟨b, 0, none⟩)), World.ownsRow_nil _ _ _ _⟩, (Below.refl _ _).setCell (p := ⟨b, 0, none⟩) hB _, (Lib.OthersKept.refl _ _ w).setCell ⟨b, 0, none⟩ rfl _⟩
  · refine (cc_used hk).mono ?_
    rintro e w' ⟨rfl, rfl⟩
    exact ⟨rfl, ⟨hB, A, c, hk, ho⟩, Below.refl _ _, Lib.OthersKept.refl _ _ _⟩

theorem RdB.one (w : World) (c : Nat) (hc : c < 256) : RdB (w.alloc (.cells #[.int .u8 (c : Int)] bT)) (some ⟨w.heap.size, 0, none⟩) 1 [c.toUInt8] := by
  have h := Blk.fresh w bT [.int .u8 (c : Int)]
  refine ⟨rfl, fun _ => ⟨w.heap.size, 0, rfl, h.lt, fun j hj => ?_⟩⟩
  rw [Nat.zero_add, show (#[Value.int .u8 (c : Int)] : Array Value) = [Value.int .u8 (c : Int)].toArray from rfl, h.at j]
  have : j = 0 := by simp at hj; omega
  subst this
  simp
  omega
theorem owned_row {w : World} {base : Nat} {e : TypeId} {v : Value} {n : Nat} {xs : List Value} (h : w.ownsRow base e 1 v n xs) : ∀ g, v.ownBlock = some g → ∃ c fz, w.heap[g]? = some (.cells c e fz) := by
  intro g hg
  rcases h.2 with ⟨rfl, _⟩ | ⟨g', cap, cur, rfl, _, hh, _⟩
  · simp [Value.ownBlock] at hg
  · obtain rfl : g' = g := by simpa [Value.ownBlock] using hg
    exact ⟨_, _, hh⟩

set_option maxRecDepth 100000 in
theorem wb_any {w : World} {base b : Nat} {l : List UInt8} (h : Bld w base b l) (c : Nat) (hc : c < 256) (hl : l.length + 1 ≤ 4294967296) (hbs : base ≤ w.heap.size) :
    Calls Tryd.prog 27 #[.pointer (some ⟨b, 0, none⟩), .int .u8 (c : Int)] w fun e w' => e = .returned .nilIface ∧ BldU w' base b (l ++ [c.toUInt8]) ∧ Below base w w' ∧ Oth b w w' := by
  have HC := hid (cc_any h)
  clear h
  go_enter Tryd.func27, Tryd.ntmps27
  go_wp2_with fail
  refine HC.out.mono ?_
  rintro e w1 ⟨rfl, ⟨hB, A, c0, hk, ho⟩, hb1, ho1⟩
  have h1 := hk.at 1
  have hX := RdB.one w1 c hc
  have hs1 := hb1.size
  go_wp2_with (at_builtin; refine wpList_appB rfl _ _ rfl base (.slice A l.length c0) l.length (l.map isB) rfl (ho.alloc _) (some ⟨w1.heap.size, 0, none⟩) 1 1 [c.toUInt8] rfl hX hl (by rw [World.size_alloc]; omega) ?_)
  intro A2 c2 w2 hown2 hg2 _
  have hne : (some b : Option Nat) ≠ (Value.slice A l.length c0).ownBlock := fun e => own_ne ho hk (by decide) e.symm
  have hk2 := (hk.alloc (.cells #[.int .u8 (c : Int)] bT)).grown hg2 hne
  have d1 := hk2.at 1
  have f1 := hk2.free 1
  have hk3 := hid (hk2.put 1 (.slice A2 (l.length + 1) c2))
  have ho3 := hid ((show w2.ownsRow base bT 1 (.slice A2 (l.length + 1) c2) (l.length + 1) (l.map isB ++ [c.toUInt8].map isB) from hown2.out).kept (w' := w2.setCell ⟨b, 1, none⟩ (.slice A2 (l.length + 1) c2)) (row := some b) ⟨rfl, rfl, rfl, by simp [World.setCell], fun k _ hk => Below.heap_setCell _ _ _ _ (fun e => hk (by simp [e]))⟩ (.inr (fun e => own_ne hown2.out hk2 (by decide) e)))
  have hbw : Below base w (w2.setCell ⟨b, 1, none⟩ (.slice A2 (l.length + 1) c2)) := ((hb1.alloc (by omega) _).grown hg2 (by simp; omega) (fun k hk => (ho.lt k hk).1)).setCell (p := ⟨b, 1, none⟩) hB _
  have how : Oth b w (w2.setCell ⟨b, 1, none⟩ (.slice A2 (l.length + 1) c2)) := ((ho1.alloc (.cells #[.int .u8 (c : Int)] bT)).grown hg2 (owned_row (ho.alloc _))).setCell ⟨b, 1, none⟩ rfl _
  clear hk hk2 hown2 ho hb1 ho1 hg2 h1 hX
  go_wp2
  go_ret
  exact ⟨rfl, ⟨hB, A2, c2, by simpa using hk3.out, by simpa using ho3.out⟩, hbw, how⟩

theorem strCells_isB (s : List UInt8) : Lib.strCells ⟨s.toArray⟩ = s.map isB := rfl
theorem own_slice {w : World} {base n : Nat} {v : Value} {xs : List Value} (h : w.ownsRow base bT 1 v n xs) : ∃ A c, v = .slice A n c := own_shape h
set_option maxRecDepth 100000 in
theorem ws_any {w : World} {base b : Nat} {l : List UInt8} (h : Bld w base b l) (s : List UInt8) (hl : l.length + s.length ≤ 4294967296) (hbs : base ≤ w.heap.size) :
    Calls Tryd.prog 25 #[.pointer (some ⟨b, 0, none⟩), .string ⟨s.toArray⟩] w fun e w' => e = .returned (.tuple #[.int .i64 (s.length : Int), .nilIface]) ∧ BldU w' base b (l ++ s) ∧ Below base w w' ∧ Oth b w w' := by
  have HC := hid (cc_any h)
  obtain ⟨i0, hi, hz0, hz1, hz2⟩ := info_parts info_b
  have hsz : (⟨s.toArray⟩ : ByteArray).size = s.length := by simp [ByteArray.size]
  have HS := hid hsz
  clear h
  go_enter Tryd.func25, Tryd.ntmps25
  go_wp2_with fail
  refine HC.out.mono ?_
  rintro e w1 ⟨rfl, ⟨hB, A, c0, hk, ho⟩, hb1, ho1⟩
  have h1 := hk.at 1
  have hs1 := hb1.size
  go_wp2_with (at_builtin; refine Lib.wpList_append_own_string _ rfl _ _ 49 9 rfl base bT i0 Tryd.underlying49 Tryd.underlying9 hi hz0 hz1 hz2 _ _ _ rfl ho ⟨s.toArray⟩ rfl (by rw [HS.out]; simp only [maxLen]; omega) (by rw [HS.out]; omega) (by omega) ?_)
  intro v2 w2 hown2 hg2 _
  rw [strCells_isB] at hown2
  obtain ⟨A2, c2, rfl⟩ := own_slice hown2
  have hne : (some b : Option Nat) ≠ (Value.slice A l.length c0).ownBlock := fun e => own_ne ho hk (by decide) e.symm
  have hk2 := hk.grown hg2 hne
  have d1 := hk2.at 1
  have f1 := hk2.free 1
  have hk3 := hid (hk2.put 1 (.slice A2 (l.length + s.length) c2))
  have ho3 := hid (hown2.kept (w' := w2.setCell ⟨b, 1, none⟩ (.slice A2 (l.length + s.length) c2)) (row := some b) ⟨rfl, rfl, rfl, by simp [World.setCell], fun k _ hk => Below.heap_setCell _ _ _ _ (fun e => hk (by simp [e]))⟩ (.inr (fun e => own_ne hown2 hk2 (by decide) e)))
  have hbw : Below base w (w2.setCell ⟨b, 1, none⟩ (.slice A2 (l.length + s.length) c2)) := (hb1.grown hg2 (by omega) (fun k hk => (ho.lt k hk).1)).setCell (p := ⟨b, 1, none⟩) hB _
  have how : Oth b w (w2.setCell ⟨b, 1, none⟩ (.slice A2 (l.length + s.length) c2)) := (ho1.grown hg2 (owned_row ho)).setCell ⟨b, 1, none⟩ rfl _
  clear hk hk2 hown2 ho hb1 ho1 hg2 h1
  go_wp2
  go_ret2
  exact ⟨rfl, ⟨hB, A2, c2, by simpa using hk3.out, by simpa using ho3.out⟩, hbw, how⟩

theorem Bld.lib {w : World} {base b : Nat} {l : List UInt8} (h : Bld w base b l) : Lib.IsBuilderF bldT bT base b (Lib.byteCells l) w := by
  rcases h with ⟨hB, rfl, hk⟩ | ⟨hB, A, c, hk, ho⟩
  · exact Lib.IsBuilderF.of (.inl ⟨hB, .slice none 0 0, hk, World.ownsRow_nil _ _ _ _, by simp [Value.ownBlock]⟩)
  · refine Lib.IsBuilderF.of (.inr ⟨hB, .slice A l.length c, hk, ?_, own_ne ho hk (by decide)⟩)
    have e : (Lib.byteCells l).length = l.length := by simp [Lib.byteCells]
    rw [e]
    exact ho
theorem bstr_any {w : World} {base b : Nat} {l : List UInt8} (h : Bld w base b l) (hbs : base ≤ w.heap.size) :
    Calls Tryd.prog 17 #[.pointer (some ⟨b, 0, none⟩)] w fun e w' => e = .returned (.string ⟨l.toArray⟩) ∧ Below base w w' ∧ Oth b w w' :=
  (Tryd.Builder_String_any_k base b l w h.lib hbs).mono fun e w' hh => ⟨hh.1, hh.2.2.1, hh.2.2.2⟩
end Go.Proofs.YtplldfbjbekdlaaDoor
