/- spec: Root, Def. -/
import Derived.Test.YthjfhenldkihkaaSpN
namespace Go.Proofs.Ythjfhenldkihkaa
set_option linter.unusedSimpArgs false
set_option linter.unusedVariables false
open Go.RowKit

/-- The number of the type with a name. -/
def defS (nm : ByteArray) : List DT → Int
  | [] => -1
  | d :: ds => if (d.nm.toList == nm.toList) = true then d.ty else defS nm ds
def rootS (ds : List DT) : Int := match ds.getLast? with | some d => d.ty | none => -1
theorem sbox (w : World) (a b : Value) : Below w.heap.size w (w.alloc (.cells #[a, b] 25)) ∧ Blk (w.alloc (.cells #[a, b] 25)) w.heap.size 25 [a, b] :=
  ⟨(Below.refl _ _).alloc (Nat.le_refl _) _, heap_alloc_new w _⟩
theorem def_cell {w : World} {P : Nat → Prop} {S : SV} {ds : List DT} (h : Rw w P S (flatD ds)) {q : Nat} (hq : q < ds.length) : ∃ b o, S.A = some ⟨b, o, none⟩ ∧ b < w.heap.size ∧ P b ∧ w.cell? ⟨b, o + q * 2, none⟩ = some (.string ds[q].nm) ∧ w.cell? ⟨b, o + q * 2 + 1, none⟩ = some (.int .i64 ds[q].ty) := by
  obtain ⟨b, o, hA, hl, hP, hc⟩ := h.at (by rw [flatD_len]; omega)
  have hcell : ∀ i, i < 2 → w.cell? ⟨b, o + q * 2 + i, none⟩ = ds[q].cells[i]? := fun i hi => by
    rw [Nat.add_assoc, hc (q * 2 + i) (by rw [flatD_len]; omega)]
    exact flat_get (f := DT.cells) (m := 2) (fun _ => rfl) ds q i hq hi
  exact ⟨b, o, hA, hl, hP, hcell 0 (by decide), hcell 1 (by decide)⟩
set_option maxRecDepth 100000 in
set_option maxHeartbeats 2000000 in
theorem Root_any {P : Nat → Prop} (s : SpV) (w : World) (h : SpecOk w P s) (hd : s.D.n ≤ 1048576) : Calls Try.prog 9 #[s.val] w fun e w' => e = .returned (.int .i64 (rootS s.ds)) ∧ Below w.heap.size w w' := by
  obtain ⟨vs, ds, N, D⟩ := s
  obtain ⟨NA, Nn, Nc⟩ := N
  obtain ⟨DA, Dn, Dc⟩ := D
  unfold SpV.val
  simp only at hd ⊢
  obtain ⟨hbx, hb0⟩ := sbox w (.slice NA Nn Nc) (.slice DA Dn Dc)
  have hdn : Dn = ds.length := h.dn
  have HB := hid hbx
  have x1 := Blk.at hb0 1
  simp only [List.getElem?_cons_succ, List.getElem?_cons_zero] at x1
  obtain ⟨R, hR⟩ : ∃ R, R = rootS ds := ⟨_, rfl⟩
  rw [← hR]
  by_cases h0 : Dn = 0
  · subst h0
    have hds : ds = [] := List.eq_nil_of_length_eq_zero hdn.symm
    have HR := hid (show R = -1 by rw [hR, hds]; rfl)
    rw [HR.out]
    clear h hbx hb0 hdn hR hds
    go_enter Try.func9, Try.ntmps9
    go_wp2
    go_ret
    exact ⟨rfl, HB.out⟩
  · obtain ⟨b, o, hA, hl, hP, c0, c1⟩ := def_cell h.d (q := Dn - 1) (by simp only; omega)
    have hA' : DA = some ⟨b, o, none⟩ := hA
    have hR2 : R = (ds[Dn - 1]'(by omega)).ty := by
      rw [hR]
      unfold rootS
      have e : ds.getLast? = some (ds[Dn - 1]'(by omega)) := by rw [List.getLast?_eq_getElem?, show ds.length - 1 = Dn - 1 by omega, List.getElem?_eq_getElem (by omega)]
      rw [e]
    simp only at c1
    rw [← hR2] at c1
    have c1' := (World.cell?_of_block (w := w) (a := ⟨b, o + (Dn - 1) * 2 + 1, none⟩) (hbx.block b hl)).trans c1
    obtain ⟨m, rfl⟩ : ∃ m, Dn = m + 1 := ⟨Dn - 1, by omega⟩
    rw [Nat.add_sub_cancel] at c1'
    have e1 : wrap64 (((m + 1 : Nat) : Int) - 1) = (m : Int) := by unfold wrap64; omega
    have e1' : wrap64 ((m : Int) + 1 - 1) = (m : Int) := by unfold wrap64; omega
    have l1 : (m : Int) < ((m + 1 : Nat) : Int) := by omega
    have l2 : ¬ ((m + 1 : Nat) : Int) = 0 := by omega
    rw [hA'] at x1 c1' ⊢
    rw [hA'] at HB
    clear h hbx hb0 hdn hR hR2 c0 c1 hA hA' hP hl h0
    go_enter Try.func9, Try.ntmps9
    go_wp2
    go_ret
    exact ⟨rfl, HB.out⟩
theorem dts_size (f : DT) : (Try.prog.info? 32).map (·.size) = some f.cells.toArray.size := by rw [show f.cells.toArray.size = 2 from rfl]; kernel_rfl
theorem dts_one (f : DT) : f.cells.toArray.all (·.oneCell') = true := by simp [DT.cells, Value.oneCell']
set_option maxRecDepth 100000 in
set_option maxHeartbeats 2000000 in
theorem Def_any {P : Nat → Prop} (s : SpV) (nm : ByteArray) (w : World) (h : SpecOk w P s) (hd : s.D.n ≤ 1048576) : Calls Try.prog 15 #[s.val, .string nm] w fun e w' => e = .returned (.int .i64 (defS nm s.ds)) ∧ Below w.heap.size w w' := by
  obtain ⟨vs, ds, N, D⟩ := s
  obtain ⟨NA, Nn, Nc⟩ := N
  obtain ⟨DA, Dn, Dc⟩ := D
  unfold SpV.val
  simp only at hd ⊢
  obtain ⟨hbx, hb0⟩ := sbox w (.slice NA Nn Nc) (.slice DA Dn Dc)
  have HDn := hid (show Dn = ds.length from h.dn)
  have HB := hid hbx
  have HO := hid h
  have x1 := Blk.at hb0 1
  simp only [List.getElem?_cons_succ, List.getElem?_cons_zero] at x1
  obtain ⟨R, hR⟩ : ∃ R, R = defS nm ds := ⟨_, rfl⟩
  rw [← hR]
  have HZ := hid (show R = defS nm (ds.drop 0) from hR)
  clear h hbx hb0 hR
  go_enter Try.func15, Try.ntmps15
  go_upto_region 1 with (fail)
  generalize w.alloc (.cells #[.slice NA Nn Nc, .slice DA Dn Dc] 25) = w1 at *
  go_wp2_with fail
  go_loopw [10] (fun i wr => ∃ q : Nat, q ≤ Dn ∧ i = .int .i64 q ∧ Hid (R = defS nm (ds.drop q)) ∧ Hid (Below w.heap.size w wr)) (fun i _ => Dn - (intOf i).toNat)
  case atStart => exact ⟨0, by omega, rfl, HZ, HB⟩
  case round =>
    clear HZ HB x1
    obtain ⟨q, hq, rfl, HZ, HB⟩ := hrel
    by_cases hlt : q < Dn
    · have hlt' : (q : Int) < (Dn : Int) := by omega
      have hql : q < ds.length := by rw [← HDn.out]; exact hlt
      obtain ⟨b, o, hA, hbl, hPb, c0, c1⟩ := def_cell HO.out.d (q := q) hql
      have hA' : DA = some ⟨b, o, none⟩ := hA
      have y0 := (World.cell?_of_block (w := w) (a := ⟨b, o + q * 2, none⟩) (HB.out.block b hbl)).trans c0
      have y1 := (World.cell?_of_block (w := w) (a := ⟨b, o + q * 2 + 1, none⟩) (HB.out.block b hbl)).trans c1
      obtain ⟨f, hf0⟩ : ∃ f, f = ds[q] := ⟨_, rfl⟩
      simp only at y0 y1
      rw [← hf0] at y0 y1
      have HZ4 := hid (show R = if (f.nm.toList == nm.toList) = true then f.ty else defS nm (ds.drop (q + 1)) by rw [HZ.out, List.drop_eq_getElem_cons hql, hf0]; rfl)
      have hbx := row_new wr 32 #[.string ⟨#[]⟩, .int .i64 0] f.cells.toArray
      have HB5 := hid (HB.out.trans (hbx.mono HB.out.size))
      have HBx := hid (show Blk ((wr.alloc (.cells #[.string ⟨#[]⟩, .int .i64 0] 32)).setRow wr.heap.size f.cells.toArray) wr.heap.size 32 f.cells from setRow_heap _ _ _ _ _ (0, 0) (heap_alloc_new wr _))
      have HSz := hid (dts_size f)
      have HOne := hid (dts_one f)
      clear hbl hPb c0 c1 hf0 hbx HZ hA hql
      rw [hA']
      by_cases hnm : (f.nm.toList == nm.toList) = true
      · have HZ5 := hid (show R = f.ty by rw [HZ4.out, if_pos hnm])
        clear HZ4
        go_wp2_with ((with_reducible refine wpList_store_row rfl 32 _ _ rfl wr.heap.size f.cells.toArray ?_ ?_ 32 #[.string ⟨#[]⟩, .int .i64 0] (heap_alloc_new wr _) HSz.out ?_ HOne.out ?_); exact rfl; exact rfl; exact rfl; generalize (wr.alloc (.cells #[.string ⟨#[]⟩, .int .i64 0] 32)).setRow wr.heap.size f.cells.toArray = w4 at *; have z0 := Blk.at HBx.out 0; have z1 := Blk.at HBx.out 1; simp only [DT.cells, List.getElem?_cons_succ, List.getElem?_cons_zero] at z0 z1)
        go_ret
        first | exact ⟨by rw [HZ5.out]; rfl, HB5.out⟩ | exact ⟨by rw [HZ5.out]; rfl, HB.out.alloc HB.out.size _⟩
      · have HZ5 := hid (show R = defS nm (ds.drop (q + 1)) by rw [HZ4.out, if_neg hnm])
        have hnm2 : (f.nm.toList == nm.toList) = false := by simpa using hnm
        clear HZ4 hnm
        go_wp2_with ((with_reducible refine wpList_store_row rfl 32 _ _ rfl wr.heap.size f.cells.toArray ?_ ?_ 32 #[.string ⟨#[]⟩, .int .i64 0] (heap_alloc_new wr _) HSz.out ?_ HOne.out ?_); exact rfl; exact rfl; exact rfl; generalize (wr.alloc (.cells #[.string ⟨#[]⟩, .int .i64 0] 32)).setRow wr.heap.size f.cells.toArray = w4 at *; have z0 := Blk.at HBx.out 0; have z1 := Blk.at HBx.out 1; simp only [DT.cells, List.getElem?_cons_succ, List.getElem?_cons_zero] at z0 z1)
        all_goals first
          | exact ⟨⟨q + 1, by omega, by go_num, HZ5, by first | exact HB5 | exact hid (HB.out.alloc HB.out.size _)⟩, by simp [intOf]; omega⟩
    · obtain rfl : q = Dn := by omega
      have HZ5 := hid (show R = -1 by rw [HZ.out, HDn.out, List.drop_length]; rfl)
      go_wp2
      go_ret
      exact ⟨by rw [HZ5.out]; rfl, HB.out⟩
end Go.Proofs.Ythjfhenldkihkaa
