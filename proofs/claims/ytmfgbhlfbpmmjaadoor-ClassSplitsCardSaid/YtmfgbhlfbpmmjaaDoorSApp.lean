/- class: an owned row of sets: one set stored, one appended. -/
import Derived.Test.YtmfgbhlfbpmmjaaDoorRowS
import Derived.Deep.MidRow
import Derived.Laws.OwnMore
namespace Go.Proofs.YtmfgbhlfbpmmjaaDoor
open Go.RowKit

theorem flatS_set (l : List BS) (i : Nat) (x : BS) (hi : i < l.length) : flatS (l.set i x) = ((((flatS l).set (i * 4) (u64V (wd x 0))).set (i * 4 + 1) (u64V (wd x 1))).set (i * 4 + 2) (u64V (wd x 2))).set (i * 4 + 3) (u64V (wd x 3)) := by
  induction l generalizing i with
  | nil => simp at hi
  | cons p l ih =>
    cases i with
    | zero => rw [List.set_cons_zero, flatS_cons, flatS_cons]; rfl
    | succ i =>
      rw [List.set_cons_succ, flatS_cons, flatS_cons, ih i (by simpa using hi)]
      simp only [show (i + 1) * 4 = i * 4 + 4 by omega, show i * 4 + 4 + 1 = i * 4 + 1 + 4 by omega, show i * 4 + 4 + 2 = i * 4 + 2 + 4 by omega, show i * 4 + 4 + 3 = i * 4 + 3 + 4 by omega]
      rfl
theorem own_set {w : World} {base g n cap : Nat} {l : List BS} (h : w.ownsRow base 26 4 (.slice (some ⟨g, 0, none⟩) n cap) n (flatS l)) (i : Nat) (x : BS) (hi : i < l.length) :
    (w.setCells g (i * 4) (setL x)).ownsRow base 26 4 (.slice (some ⟨g, 0, none⟩) n cap) n (flatS (l.set i x)) ∧ w.grownBy (w.setCells g (i * 4) (setL x)) (some g) := by
  rw [flatS_set l i x hi]
  have h0 := h.stored (i * 4) (u64V (wd x 0))
  have h1 := h0.1.stored (i * 4 + 1) (u64V (wd x 1))
  have h2 := h1.1.stored (i * 4 + 2) (u64V (wd x 2))
  have h3 := h2.1.stored (i * 4 + 3) (u64V (wd x 3))
  refine ⟨h3.1, ?_⟩
  have hj : ∀ {a b c : World}, a.grownBy b (some g) → b.grownBy c (some g) → a.grownBy c (some g) := fun {a b c} p q =>
    ⟨q.os.trans p.os, q.tape.trans p.tape, q.output.trans p.output, Nat.le_trans p.size q.size, fun k hk hne => (q.block k (Nat.lt_of_lt_of_le hk p.size) hne).trans (p.block k hk hne)⟩
  exact hj (hj (hj h0.2 h1.2) h2.2) h3.2
theorem own_there {w : World} {base g n cap : Nat} {l : List BS} (h : w.ownsRow base 26 4 (.slice (some ⟨g, 0, none⟩) n cap) n (flatS l)) (i : Nat) (hi : i < l.length) : w.there g (i * 4) 4 := by
  intro j hj
  have hl := flatS_len l
  have hn : n * 4 = 4 * l.length := by rw [← h.1]; exact hl
  refine ⟨?_, h.frozenAt _⟩
  rw [h.cellAt (i * 4 + j) (by omega), List.getElem?_eq_getElem (by omega)]
  rfl

theorem below_own {B g : Nat} {a w w' : World} (hb : Below B a w) (hg : w.grownBy w' (some g)) (h : B ≤ g) (hs : B ≤ w.heap.size) : Below B a w' :=
  ⟨hg.os.trans hb.os, hg.tape.trans hb.tape, hg.output.trans hb.output, Nat.le_trans hb.size hg.size, fun k hk => (hg.block k (by omega) (by simp; omega)).trans (hb.block k hk)⟩

/-- One set more at the end: in place or in a new row; what lay in the old one still lies there. -/
theorem run_app_set {w : World} {base g n cap : Nat} {l : List BS} {x : BS} {b c : Nat} (ty : TypeId) (hown : w.ownsRow base 26 4 (.slice (some ⟨g, 0, none⟩) n cap) n (flatS l)) (hx : Blk w b 26 (setL x)) (hn : n ≤ 1073741824) (hbase : base ≤ w.heap.size) :
    ∃ g' cap' w', (Builtin.append_ #[34, 34] ty #[.slice (some ⟨g, 0, none⟩) n cap, .slice (some ⟨b, 0, none⟩) 1 c]).run Tryd.prog w = .ok (.slice (some ⟨g', 0, none⟩) (n + 1) cap') w' ∧
      w'.ownsRow base 26 4 (.slice (some ⟨g', 0, none⟩) (n + 1) cap') (n + 1) (flatS (l ++ [x])) ∧ w.grownBy w' (some g) ∧ (g' = g ∨ g' = w.heap.size) ∧
      (∀ g0 j y, j < n → g0 < w.heap.size → (g0 = g → l[j]? = some y) → SetAt w g0 (j * 4) y → SetAt w' g0 (j * 4) y) := by
  have hnews : ∀ j u, (setL x)[j]? = some u → w.cell? ((⟨b, 0, none⟩ : Addr).add j) = some u := by
    intro j u hu
    rw [Addr.add_mid, Nat.zero_add, cell_of_row w b j _ _ _ hx]
    simpa using hu
  have hone : ∀ u ∈ setL x, u.oneCell' = true := by
    have := one_setL [x]
    simpa [flatS] using this
  have hfl : flatS (l ++ [x]) = flatS l ++ setL x := by simp [flatS]
  have hll : l.length = n := by
    have := hown.1
    rw [flatS_len] at this
    omega
  obtain ⟨i, hi, hz, hsz, hby⟩ : ∃ i, Tryd.prog.info? 26 = some i ∧ i.zero = some (.agg #[.int .u64 0, .int .u64 0, .int .u64 0, .int .u64 0]) ∧ i.size = 4 ∧ i.bytes = 32 := by
    have h := info_set
    cases hi : Tryd.prog.info? 26 with
    | none => rw [hi] at h; cases h
    | some i =>
      rw [hi] at h
      simp only [Option.map_some, Option.some.injEq, Prod.mk.injEq] at h
      exact ⟨i, rfl, h.1, h.2.1, h.2.2⟩
  rw [hfl]
  by_cases hroom : n + 1 ≤ cap
  · obtain ⟨w', hr, ho, hg⟩ := run_append_fits (P := Tryd.prog) w base 34 ty 26 i 4 (by kernel_rfl) hi hsz g n cap (flatS l) hown ⟨b, 0, none⟩ 1 c (setL x) rfl hnews hone hroom
    refine ⟨g, cap, w', hr, ho, hg, .inl rfl, ?_⟩
    intro g0 j y hj hlt hy hs
    by_cases hgg : g0 = g
    · subst hgg
      have ho' : w'.ownsRow base 26 4 (.slice (some ⟨g0, 0, none⟩) (n + 1) cap) (n + 1) (flatS (l ++ [x])) := by rw [hfl]; exact ho
      obtain ⟨_, hrd⟩ := RdS.of_own ho'
      obtain ⟨b', o', e, _, hc⟩ := hrd (by omega)
      injection e with e
      injection e with e1 e2 e3
      have hjl : j < (l ++ [x]).length := by simp; omega
      have := hc j hjl
      have hyj : (l ++ [x])[j] = y := by
        have h1 := hy rfl
        rw [List.getElem_append_left (by omega)]
        exact (List.getElem?_eq_some_iff.1 h1).2
      rw [hyj, ← e1, ← e2, Nat.zero_add] at this
      exact this
    · exact hs.block (hg.block g0 hlt (by simpa using hgg))
  · have hr := run_append_grow (P := Tryd.prog) w 34 ty 26 i (.agg #[.int .u64 0, .int .u64 0, .int .u64 0, .int .u64 0]) (by kernel_rfl) hi hz ⟨g, 0, none⟩ n cap (flatS l) (by rw [hown.1, hsz]) (fun j v hv => by
        rw [Addr.add_mid, Nat.zero_add, hown.cellAt j (by have := (List.getElem?_eq_some_iff.1 hv).1; rw [hown.1] at this; exact this)]; exact hv)
      ⟨b, 0, none⟩ 1 c (setL x) (by rw [hsz]; rfl) hnews (by omega) (by omega) (growslice_fits (by omega) (by rw [hby]; omega))
    have hge := grownCap_ge w (n + 1) cap 26
    have hcm : grownCap w (n + 1) cap 26 ≤ maxLen := grownCap_le_maxLen w (n + 1) cap _ (by simp only [maxLen]; omega)
    have hlen : (flatS l ++ setL x).length = (n + 1) * 4 := by rw [List.length_append, hown.1, setL_len]; omega
    refine ⟨w.heap.size, _, _, hr, ⟨hlen, .inr ⟨w.heap.size, _, _, rfl, hbase, heap_alloc_new w.drew _, hge, hcm, ?_, ?_⟩⟩, ⟨rfl, rfl, rfl, by simp, fun k hk _ => heap_alloc_old w.drew _ hk⟩, .inr rfl, ?_⟩
    · simp only [Array.size_append, List.size_toArray, size_zeroCells, hown.1, setL_len, Value.cells, List.length_cons, List.length_nil]
      omega
    · simp only [Array.toList_append, List.append_assoc]
      rw [← List.append_assoc, ← hlen]
      exact List.take_left
    · intro g0 j y hj hlt _ hs
      exact hs.block (heap_alloc_old w.drew _ hlt)
theorem wpList_appS {w : World} {ops : Array Oper} {rest : List Oper} {o : Oper} {a : Act} {Q : Exit → Act → World → Prop} (hgd : o.guard = none) (sx x : Operand)
    (ho : o.op = .call { callee := .builtin .append, args := #[sx, x], argTypes := #[34, 34] })
    (base g n cap : Nat) (l : List BS) (hs : a.eval sx = .slice (some ⟨g, 0, none⟩) n cap) (hown : w.ownsRow base 26 4 (.slice (some ⟨g, 0, none⟩) n cap) n (flatS l))
    (b c : Nat) (X : BS) (hx : a.eval x = .slice (some ⟨b, 0, none⟩) 1 c) (hX : Blk w b 26 (setL X)) (hn : n ≤ 1073741824) (hbase : base ≤ w.heap.size)
    (h : ∀ g' cap' w', Hid (w'.ownsRow base 26 4 (.slice (some ⟨g', 0, none⟩) (n + 1) cap') (n + 1) (flatS (l ++ [X]))) → w.grownBy w' (some g) → (g' = g ∨ g' = w.heap.size) →
      Hid (∀ g0 j y, j < n → g0 < w.heap.size → (g0 = g → l[j]? = some y) → SetAt w g0 (j * 4) y → SetAt w' g0 (j * 4) y) →
      wpList Tryd.prog ops Q rest (a.put o.dst (.slice (some ⟨g', 0, none⟩) (n + 1) cap')) w') :
    wpList Tryd.prog ops Q (o :: rest) a w := by
  refine wpList_plain hgd fun K hK => ?_
  obtain ⟨g', c', w', hrun, h2, h3, h4, h5⟩ := run_app_set (c := c) o.type hown hX hn hbase
  unfold Oper.wp execOp
  simp only [ho, resolve, invoke, builtin, Sem.run_bind, Sem.run_pure, Result.andThen_ok, List.map_toArray, List.map_cons, List.map_nil, hs, hx, hrun]
  exact hK _ _ (h g' c' w' h2 h3 h4 h5)
end Go.Proofs.YtmfgbhlfbpmmjaaDoor
