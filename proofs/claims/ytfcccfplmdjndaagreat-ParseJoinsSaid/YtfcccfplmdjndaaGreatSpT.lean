/- spec: Root, Def. -/
import Derived.Test.YtfcccfplmdjndaaGreatSpN
namespace Go.Proofs.YtfcccfplmdjndaaGreat
set_option linter.unusedSimpArgs false
set_option linter.unusedVariables false
open Go.RowKit

def rootS (ds : List DT) : Int := match ds.getLast? with | some d => d.ty | none => -1
theorem sbox (w : World) (a b : Value) : Below w.heap.size w (w.alloc (.cells #[a, b] 32)) ∧ Blk (w.alloc (.cells #[a, b] 32)) w.heap.size 32 [a, b] :=
 ⟨(Below.refl _ _).alloc (Nat.le_refl _) _, heap_alloc_new w _⟩
theorem def_cell {w : World} {P : Nat → Prop} {S : SV} {ds : List DT} (h : Rw w P S (flatD ds)) {q : Nat} (hq : q < ds.length) : ∃ b o, S.A = some ⟨b, o, none⟩ ∧ b < w.heap.size ∧ P b ∧ w.cell? ⟨b, o + q * 2, none⟩ = some (.string ds[q].nm) ∧ w.cell? ⟨b, o + q * 2 + 1, none⟩ = some (.int .i64 ds[q].ty) := by
 obtain ⟨b, o, hA, hl, hP, hc⟩ := h.at (by rw [flatD_len]; omega)
 have hcell : ∀ i, i < 2 → w.cell? ⟨b, o + q * 2 + i, none⟩ = ds[q].cells[i]? := fun i hi => by
  rw [Nat.add_assoc, hc (q * 2 + i) (by rw [flatD_len]; omega)]
  exact flat_get (f := DT.cells) (m := 2) (fun _ => rfl) ds q i hq hi
 exact ⟨b, o, hA, hl, hP, hcell 0 (by decide), hcell 1 (by decide)⟩
set_option maxRecDepth 100000 in
set_option maxHeartbeats 2000000 in
theorem Root_any {P : Nat → Prop} (s : SpV) (w : World) (h : SpecOk w P s) (hd : s.D.n ≤ 1048576) : Calls Tryz.prog 18 #[s.val] w fun e w' => e = .returned (.int .i64 (rootS s.ds)) ∧ Below w.heap.size w w' := by
 obtain ⟨vs, ds, N, D⟩ := s
 obtain ⟨NA, Nn, Nc⟩ := N
 obtain ⟨DA, Dn, Dc⟩ := D
 unfold SpV.val
 simp only at hd ⊢
 obtain ⟨hbx, hb0⟩ := sbox w (.slice NA Nn Nc) (.slice DA Dn Dc)
 have hdn : Dn = ds.length := h.dn
 have HB := hid hbx
 have x1 := Blk.at hb0 1
 simp only [List.getElem?_cons_succ, List.getElem?_cons_zero] at x1
 obtain ⟨R, hR⟩ : ∃ R, R = rootS ds := ⟨_, rfl⟩
 rw [← hR]
 by_cases h0 : Dn = 0
 ·subst h0
  have hds : ds = [] := List.eq_nil_of_length_eq_zero hdn.symm
  have HR := hid (show R = -1 by rw [hR, hds]; rfl)
  rw [HR.out]
  clear h hbx hb0 hdn hR hds
  go_enter Tryz.func18, Tryz.ntmps18
  go_wp2
  go_ret
  exact ⟨rfl, HB.out⟩
 ·obtain ⟨b, o, hA, hl, hP, c0, c1⟩ := def_cell h.d (q := Dn - 1) (by simp only; omega)
  have hA' : DA = some ⟨b, o, none⟩ := hA
  have hR2 : R = (ds[Dn - 1]'(by omega)).ty := by
   rw [hR]
   unfold rootS
   have e : ds.getLast? = some (ds[Dn - 1]'(by omega)) := by rw [List.getLast?_eq_getElem?, show ds.length - 1 = Dn - 1 by omega, List.getElem?_eq_getElem (by omega)]
   rw [e]
  simp only at c1
  rw [← hR2] at c1
  have c1' := (World.cell?_of_block (w := w) (a := ⟨b, o + (Dn - 1) * 2 + 1, none⟩) (hbx.block b hl)).trans c1
  obtain ⟨m, rfl⟩ : ∃ m, Dn = m + 1 := ⟨Dn - 1, by omega⟩
  rw [Nat.add_sub_cancel] at c1'
  have e1 : wrap64 (((m + 1 : Nat) : Int) - 1) = (m : Int) := by unfold wrap64; omega
  have e1' : wrap64 ((m : Int) + 1 - 1) = (m : Int) := by unfold wrap64; omega
  have l1 : (m : Int) < ((m + 1 : Nat) : Int) := by omega
  have l2 : ¬ ((m + 1 : Nat) : Int) = 0 := by omega
  rw [hA'] at x1 c1' ⊢
  rw [hA'] at HB
  clear h hbx hb0 hdn hR hR2 c0 c1 hA hA' hP hl h0
  go_enter Tryz.func18, Tryz.ntmps18
  go_wp2
  go_ret
  exact ⟨rfl, HB.out⟩
end Go.Proofs.YtfcccfplmdjndaaGreat
