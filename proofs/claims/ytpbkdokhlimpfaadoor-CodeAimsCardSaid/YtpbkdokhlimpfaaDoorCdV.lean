/- code: the steps that can come behind one. -/
import Derived.Test.YtpbkdokhlimpfaaDoorCdU
namespace Go.Proofs.YtpbkdokhlimpfaaDoor
set_option linter.unusedSimpArgs false
set_option linter.unusedVariables false
open Go.RowKit

def ints (l : List Int) : List Value := l.map (Value.int .i64)
theorem ints_one (l : List Int) : ∀ u ∈ ints l, u.oneCell' = true := by
  intro u hu
  obtain ⟨x, _, rfl⟩ := List.mem_map.1 hu
  rfl
def strs (l : List ByteArray) : List Value := l.map Value.string
theorem strs_one (l : List ByteArray) : ∀ u ∈ strs l, u.oneCell' = true := by
  intro u hu
  obtain ⟨x, _, rfl⟩ := List.mem_map.1 hu
  rfl
/-- Elements of a new block behind an owned row. -/
theorem wpList_appRow {ops : Array Oper} {rest : List Oper} {o : Oper} {a : Act} {w : World} {Q : Exit → Act → World → Prop} (hgd : o.guard = none) (s x : Operand) (S e : TypeId) (bt : Nat) (z : Value) (hu : Tryd.prog.underlying S = some (.slice e))
    (hi : (Tryd.prog.info? e).map (fun i => (i.zero, i.size, i.bytes)) = some (some z, 1, bt)) (hz : z.cells.size = 1) (hbt : bt ≤ 16) (ho : o.op = .call { callee := .builtin .append, args := #[s, x], argTypes := #[S, S] })
    (base : Nat) (v : Value) (n : Nat) (xs : List Value) (hs : a.eval s = v) (hown : w.ownsRow base e 1 v n xs) (g m : Nat) (ys : List Value) (hx : a.eval x = .slice (some ⟨g, 0, none⟩) m m) (hr : Blk w g e ys) (hm : ys.length = m) (h1 : ∀ u ∈ ys, u.oneCell' = true) (hb : n + m ≤ 4294967296) (hbase : base ≤ w.heap.size)
    (h : ∀ A c w', w'.ownsRow base e 1 (.slice A (n + m) c) (n + m) (xs ++ ys) → w.grownBy w' v.ownBlock → wpList Tryd.prog ops Q rest (a.put o.dst (.slice A (n + m) c)) w') : wpList Tryd.prog ops Q (o :: rest) a w := by
  obtain ⟨i0, hi0, hz0, hz1, hz2⟩ := info_parts hi
  have hmul : (n + m) * bt ≤ 4294967296 * 16 := Nat.mul_le_mul hb hbt
  refine wpList_append_own_at _ hgd s x S ho base e i0 z 1 bt hu hi0 hz0 hz1 hz2 hz (by decide) v n xs hs hown ⟨g, 0, none⟩ m m ys hx (by omega) (fun j u hj => by rw [addr_add, Nat.zero_add, Blk.at hr j]; exact hj) h1 (by unfold maxLen; omega) (by omega) hbase ?_
  intro v' w' h2 h3 _ _
  obtain ⟨A, c, rfl⟩ := owns_shape h2
  exact h A c w' h2 h3
theorem info_intV : (Tryd.prog.info? 3).map (fun i => (i.zero, i.size, i.bytes)) = some (some (.int .i64 0), 1, 8) := by kernel_rfl
theorem info_strV : (Tryd.prog.info? 9).map (fun i => (i.zero, i.size, i.bytes)) = some (some (.string ⟨#[]⟩), 1, 16) := by kernel_rfl
def fkL (x : ST) : List Int := x.ws.map WT.to ++ (if x.k = 13 ∧ x.b ≠ -1 then [x.b] else [])
def ldL (i : Int) (x : ST) : List Int :=
  if x.k = 16 ∨ x.k = 20 then [] else if x.k = 11 then [x.a] else if x.k = 10 ∨ x.k = 12 ∨ x.k = 15 then [x.a, i + 1] else if x.k = 13 ∨ x.k = 14 then fkL x else [i + 1]
/-- A list of numbers of one's own. -/
def IntsR (w : World) (l : List Int) (e : Ending) (w' : World) : Prop := ∃ A c, e = .returned (.slice A l.length c) ∧ w'.ownsRow w.heap.size 3 1 (.slice A l.length c) l.length (ints l) ∧ Below w.heap.size w w'
structure IntS (w : World) (l : List Int) (A : Option Addr) (n c : Nat) (wr : World) : Prop where
  bel : Below w.heap.size w wr
  row : wr.ownsRow w.heap.size 3 1 (.slice A n c) n (ints l)
theorem IntS.app {w wr w' w7 : World} {l : List Int} {A A' : Option Addr} {n c c' : Nat} {t : Int} (h : IntS w l A n c wr) (hb : Below wr.heap.size wr w') (hown : w7.ownsRow w.heap.size 3 1 (.slice A' (n + 1) c') (n + 1) (ints l ++ ints [t])) (hg : w'.grownBy w7 (Value.slice A n c).ownBlock) : IntS w (l ++ [t]) A' (n + 1) c' w7 := by
  have h1 := h.bel.trans (hb.mono h.bel.size)
  refine ⟨h1.grown hg h1.size (fun k hk => (owns_block h.row k hk).1), ?_⟩
  have e : ints (l ++ [t]) = ints l ++ ints [t] := by unfold ints; rw [List.map_append]
  rw [e]
  exact hown
theorem IntS.keep {w wr w' : World} {l : List Int} {A : Option Addr} {n c : Nat} (h : IntS w l A n c wr) (hb : Below wr.heap.size wr w') : IntS w l A n c w' :=
  ⟨h.bel.trans (hb.mono h.bel.size), owns_mono h.row (fun b hh => hb.block b (owns_block h.row b hh).2)⟩
theorem IntS.nil (w : World) : IntS w [] none 0 0 w := ⟨Below.refl _ _, World.ownsRow_nil w _ _ _⟩
theorem one_int (w : World) (t : Int) : Blk (w.alloc (.cells #[.int .i64 t] 3)) w.heap.size 3 (ints [t]) ∧ Below w.heap.size w (w.alloc (.cells #[.int .i64 t] 3)) := ⟨heap_alloc_new w _, (Below.refl _ _).alloc (Nat.le_refl _) _⟩
theorem IntS.res {w wr : World} {l : List Int} {A : Option Addr} {n c : Nat} (h : IntS w l A n c wr) (hn : n = l.length) : IntsR w l (.returned (.slice A n c)) wr := by
  subst hn
  exact ⟨A, c, rfl, h.row, h.bel⟩
set_option maxRecDepth 100000 in
set_option maxHeartbeats 4000000 in
theorem forks_any (x : ST) (b o : Nat) (w : World) {P : Nat → Prop} (hA : At w b o x) (hW : StOk w P x) (hl : x.ws.length ≤ 1000000) : Calls Tryd.prog 44 #[.pointer (some ⟨b, o, none⟩)] w (IntsR w (fkL x)) := by
  obtain ⟨RR, hRR⟩ : ∃ RR, RR = IntsR w (fkL x) := ⟨_, rfl⟩
  rw [← hRR]
  have HRR := hid hRR
  clear hRR
  have HA := hid hA
  have HW := hid hW
  have HWn := hid hW.wn
  obtain ⟨W, hWW⟩ : ∃ W, W = x.W := ⟨_, rfl⟩
  have HWe := hid hWW
  obtain ⟨wA, wN, wC⟩ := W
  have c8 := hA.low.c8
  rw [← hWW] at c8
  have hwn : wN = x.ws.length := by have := HWn.out; rw [← hWW] at this; exact this
  have hnb : wN ≤ 1000000 := by omega
  have HWl := hid hwn
  clear hA hW hWW hwn hl
  go_enter Tryd.func44, Tryd.ntmps44
  go_wp2_with fail
  clear c8
  go_loopw [3, 11] (fun v i wr => ∃ (q : Nat) (A : Option Addr) (c : Nat), q ≤ wN ∧ v = .slice A q c ∧ i = .int .i64 q ∧ Hid (IntS w ((x.ws.take q).map WT.to) A q c wr)) (fun _ i _ => wN - (intOf i).toNat)
  case atStart => exact ⟨0, none, 0, by omega, rfl, rfl, hid (IntS.nil w)⟩
  case round =>
    obtain ⟨q, A, c, hq, rfl, rfl, HS⟩ := hrel
    have hLo := (HA.out.keep (HS.out.bel.block b HA.out.lt)).low
    by_cases hlt : q < wN
    · have hlt' : (q : Int) < (wN : Int) := by omega
      have hql : q < x.ws.length := by rw [← HWl.out]; exact hlt
      obtain ⟨b1, o1, hwA, hbl, _, e0, e1⟩ := way_at (HW.out.keep HS.out.bel) hql
      rw [← HWe.out] at hwA
      have hwA : wA = some ⟨b1, o1, none⟩ := hwA
      have HTk := hid (show (x.ws.take (q + 1)).map WT.to = (x.ws.take q).map WT.to ++ [(x.ws[q]).to] from by rw [List.take_succ_eq_append_getElem hql, List.map_append]; rfl)
      obtain ⟨y, hy⟩ : ∃ y, y = x.ws[q] := ⟨_, rfl⟩
      rw [← hy] at e0 e1 HTk
      have HSf := hid (way_size y)
      have HOf := hid (way_one y)
      clear hbl hy hql hLo
      rw [hwA]
      go_upto_region 5 with (first
        | ((refine wpList_box rfl 46 _ _ rfl _ 46 y.cells.toArray ?_ ?_ HSf.out ?_ HOf.out ?_); exact rfl; exact rfl; exact rfl; intro W4 HB4 HK4))
      have z0 := Blk.at HK4.out 0
      have z1 := Blk.at HK4.out 1
      simp only [WT.cells, List.getElem?_cons_zero, List.getElem?_cons_succ] at z0 z1
      have HO1 := hid (one_int W4 y.to)
      have HS4 := hid (HS.out.keep HB4.out)
      have HS5 := hid (HS4.out.keep HO1.out.2)
      clear e0 e1 HS
      go_wp2_with (first
        | ((refine wpList_appRow rfl _ _ 74 3 8 _ Tryd.underlying74 info_intV rfl (by decide) rfl w.heap.size (.slice A q c) q _ ?_ HS5.out.row W4.heap.size 1 (ints [y.to]) ?_ HO1.out.1 rfl (ints_one _) ?_ HS5.out.bel.size ?_); rfl; rfl; omega; intro A7 c7 w7 hown7 hg7; have HS7 := hid (HS4.out.app HO1.out.2 hown7 hg7)))
      exact ⟨⟨q + 1, A7, c7, by omega, rfl, by go_num, hid (by rw [HTk.out]; exact HS7.out)⟩, by simp [intOf]; omega⟩
    · obtain rfl : q = wN := by omega
      have e : x.ws.take q = x.ws := by rw [HWl.out, List.take_length]
      rw [e] at HS
      have c0 := hLo.c0
      try simp only [Nat.add_zero] at c0
      have c2 := hLo.c2
      clear e hlt hLo
      by_cases hk : x.k = 13
      · have hk' : (x.k == 13) = true := by simpa using hk
        have HKk := hid hk
        clear hk
        by_cases hb : x.b = -1
        · have hb' : (x.b != -1) = false := by simpa using hb
          have HF := hid (show fkL x = x.ws.map WT.to from by unfold fkL; rw [if_neg (by rw [hb]; simp)]; simp)
          clear hb
          go_wp2_with fail
          show RR (.returned (.slice A q c)) wr
          rw [HRR.out, HF.out]
          exact HS.out.res (by rw [List.length_map]; exact HWl.out)
        · have hb' : (x.b != -1) = true := by simpa using hb
          have HF := hid (show fkL x = x.ws.map WT.to ++ [x.b] from by unfold fkL; rw [if_pos ⟨HKk.out, hb⟩])
          have HO1 := hid (one_int wr x.b)
          have HS5 := hid (HS.out.keep HO1.out.2)
          clear hb
          go_wp2_with (first
            | ((refine wpList_appRow rfl _ _ 74 3 8 _ Tryd.underlying74 info_intV rfl (by decide) rfl w.heap.size (.slice A q c) q _ ?_ HS5.out.row wr.heap.size 1 (ints [x.b]) ?_ HO1.out.1 rfl (ints_one _) ?_ HS5.out.bel.size ?_); rfl; rfl; omega; intro A7 c7 w7 hown7 hg7; have HS7 := hid (HS.out.app HO1.out.2 hown7 hg7)))
          show RR (.returned (.slice A7 (q + 1) c7)) w7
          rw [HRR.out, HF.out]
          exact HS7.out.res (by rw [List.length_append, List.length_map, HWl.out]; rfl)
      · have hk' : (x.k == 13) = false := by simpa using hk
        have HF := hid (show fkL x = x.ws.map WT.to from by unfold fkL; rw [if_neg (fun h => hk h.1)]; simp)
        clear hk
        go_wp2_with fail
        show RR (.returned (.slice A q c)) wr
        rw [HRR.out, HF.out]
        exact HS.out.res (by rw [List.length_map]; exact HWl.out)
end Go.Proofs.YtpbkdokhlimpfaaDoor
