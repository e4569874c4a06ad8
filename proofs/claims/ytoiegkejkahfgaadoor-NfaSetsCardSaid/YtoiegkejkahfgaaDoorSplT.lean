/- class: rows of sets. -/
import Derived.Test.YtoiegkejkahfgaaDoorBytB
import Derived.Deep.MidRow
import Derived.Laws.OwnMore
namespace Go.Proofs.YtoiegkejkahfgaaDoor
set_option linter.unusedVariables false
set_option linter.unusedSimpArgs false
open Go.RowKit

/-- Sets behind each other, as cells. -/
def flatS (ps : List BS) : List Value := ps.flatMap setL
theorem setL_len (a : BS) : (setL a).length = 4 := rfl
theorem flatS_len (ps : List BS) : (flatS ps).length = 4 * ps.length := by
  induction ps with
  | nil => rfl
  | cons p ps ih => simp only [flatS, List.flatMap_cons, List.length_append, List.length_cons, setL_len] at *; omega
theorem flatS_cons (p : BS) (ps : List BS) : flatS (p :: ps) = setL p ++ flatS ps := by simp [flatS]
theorem flatS_append (ps qs : List BS) : flatS (ps ++ qs) = flatS ps ++ flatS qs := by simp [flatS]
theorem flatS_get (ps : List BS) (j i : Nat) (hj : j < ps.length) (hi : i < 4) : (flatS ps)[j * 4 + i]? = some (.int .u64 ((wd ps[j] i : Nat) : Int)) := by
  induction ps generalizing j with
  | nil => simp at hj
  | cons p ps ih =>
    rw [flatS_cons]
    cases j with
    | zero =>
      rw [List.getElem?_append_left (by rw [setL_len]; omega), Nat.zero_mul, Nat.zero_add]
      exact four_get (wd p) i hi
    | succ j =>
      rw [List.getElem?_append_right (by rw [setL_len]; omega), setL_len, show (j + 1) * 4 + i - 4 = j * 4 + i by omega]
      rw [ih j (by simpa using hj)]
      rfl
/-- The four cells from an address on are a set's. -/
def SetAt (w : World) (b o : Nat) (a : BS) : Prop := w.cell? ⟨b, o, none⟩ = some (.int .u64 ((wd a 0 : Nat) : Int)) ∧ w.cell? ⟨b, o + 1, none⟩ = some (.int .u64 ((wd a 1 : Nat) : Int)) ∧
  w.cell? ⟨b, o + 2, none⟩ = some (.int .u64 ((wd a 2 : Nat) : Int)) ∧ w.cell? ⟨b, o + 3, none⟩ = some (.int .u64 ((wd a 3 : Nat) : Int))
theorem SetAt.block {w w' : World} {b o : Nat} {a : BS} (h : SetAt w b o a) (hb : w'.heap[b]? = w.heap[b]?) : SetAt w' b o a := by
  have e : ∀ i, w'.cell? ⟨b, i, none⟩ = w.cell? ⟨b, i, none⟩ := fun i => World.cell?_of_block (w := w) (w' := w') (a := ⟨b, i, none⟩) hb
  unfold SetAt
  rw [e, e, e, e]
  exact h
/-- A slice of sets, where they lie. -/
def RdS (w : World) (A : Option Addr) (n : Nat) (ps : List BS) : Prop :=
  ps.length = n ∧ (0 < n → ∃ b o, A = some ⟨b, o, none⟩ ∧ b < w.heap.size ∧ ∀ j (h : j < ps.length), SetAt w b (o + j * 4) ps[j])
theorem RdS.below {w w' : World} {A : Option Addr} {n : Nat} {ps : List BS} (h : RdS w A n ps) (hb : Below w.heap.size w w') : RdS w' A n ps :=
  ⟨h.1, fun hn => by
    obtain ⟨b, o, e, hl, hc⟩ := h.2 hn
    exact ⟨b, o, e, Nat.lt_of_lt_of_le hl hb.size, fun j hj => (hc j hj).block (hb.block b hl)⟩⟩
theorem setAt_of_row {w : World} {g : Nat} {cur : Array Value} {t : TypeId} {fr : Nat × Nat} (hg : w.heap[g]? = some (.cells cur t fr)) (ps : List BS) (m : Nat) (ht : cur.toList.take m = flatS ps) (j : Nat) (hj : j < ps.length) : SetAt w g (j * 4) ps[j] := by
  have hm : 4 * ps.length ≤ m := by
    have := congrArg List.length ht
    rw [List.length_take, flatS_len] at this
    omega
  have hc : ∀ i, i < 4 → w.cell? ⟨g, j * 4 + i, none⟩ = some (.int .u64 ((wd ps[j] i : Nat) : Int)) := by
    intro i hi
    rw [cell_of_row w g (j * 4 + i) cur t fr hg]
    have e := flatS_get ps j i hj hi
    rw [← ht, List.getElem?_take_of_lt (by omega)] at e
    simpa using e
  exact ⟨hc 0 (by decide), hc 1 (by decide), hc 2 (by decide), hc 3 (by decide)⟩
/-- What the call owns reads as sets. -/
theorem RdS.of_own {w : World} {base : Nat} {A : Option Addr} {n c : Nat} {ps : List BS} (h : w.ownsRow base 43 4 (.slice A n c) n (flatS ps)) : RdS w A n ps := by
  have hl : ps.length = n := by
    have := h.1
    rw [flatS_len] at this
    omega
  refine ⟨hl, fun hn => ?_⟩
  rcases h.2 with ⟨hv, h0⟩ | ⟨g, cap, cur, hv, hb, hg, hnc, hcm, hcs, ht⟩
  · omega
  · injection hv with hA _ _
    exact ⟨g, 0, hA, (Array.getElem?_eq_some_iff.1 hg).1, fun j hj => by rw [Nat.zero_add]; exact setAt_of_row hg ps _ ht j hj⟩
theorem one_setL (ps : List BS) : ∀ v ∈ flatS ps, v.oneCell' = true := by
  intro v hv
  obtain ⟨p, _, hv⟩ := List.mem_flatMap.1 hv
  simp only [setL, four, u64V, List.mem_cons, List.not_mem_nil, or_false] at hv
  rcases hv with rfl | rfl | rfl | rfl <;> rfl
theorem info_set : (Tryd.prog.info? 43).map (fun i => (i.zero, i.size, i.bytes)) = some (some (.agg #[.int .u64 0, .int .u64 0, .int .u64 0, .int .u64 0]), 4, 32) := by kernel_rfl

/-- Split, one set more: each piece that it cuts is cut. -/
def cuts (s p : BS) : Bool := !decide (p &&& s = 0#256) && !decide (p &&& ~~~s = 0#256)
def inN (s p : BS) : BS := if cuts s p then p &&& s else p
def outN (s : BS) (ps : List BS) : List BS := ps.filterMap (fun p => if cuts s p then some (p &&& ~~~s) else none)
def stepS (ps : List BS) (s : BS) : List BS := ps.map (inN s) ++ outN s ps
def pieceS (l : List BS) : List BS := l.foldl stepS [~~~(0#256)]
end Go.Proofs.YtoiegkejkahfgaaDoor

/- class: an owned row of sets: one set stored, one appended. -/
namespace Go.Proofs.YtoiegkejkahfgaaDoor
set_option linter.unusedVariables false
set_option linter.unusedSimpArgs false
open Go.RowKit

theorem flatS_set (l : List BS) (i : Nat) (x : BS) (hi : i < l.length) : flatS (l.set i x) = ((((flatS l).set (i * 4) (u64V (wd x 0))).set (i * 4 + 1) (u64V (wd x 1))).set (i * 4 + 2) (u64V (wd x 2))).set (i * 4 + 3) (u64V (wd x 3)) := by
  induction l generalizing i with
  | nil => simp at hi
  | cons p l ih =>
    cases i with
    | zero => rw [List.set_cons_zero, flatS_cons, flatS_cons]; rfl
    | succ i =>
      rw [List.set_cons_succ, flatS_cons, flatS_cons, ih i (by simpa using hi)]
      simp only [show (i + 1) * 4 = i * 4 + 4 by omega, show i * 4 + 4 + 1 = i * 4 + 1 + 4 by omega, show i * 4 + 4 + 2 = i * 4 + 2 + 4 by omega, show i * 4 + 4 + 3 = i * 4 + 3 + 4 by omega]
      rfl
theorem own_set {w : World} {base g n cap : Nat} {l : List BS} (h : w.ownsRow base 43 4 (.slice (some ⟨g, 0, none⟩) n cap) n (flatS l)) (i : Nat) (x : BS) (hi : i < l.length) :
    (w.setCells g (i * 4) (setL x)).ownsRow base 43 4 (.slice (some ⟨g, 0, none⟩) n cap) n (flatS (l.set i x)) ∧ w.grownBy (w.setCells g (i * 4) (setL x)) (some g) := by
  rw [flatS_set l i x hi]
  have h0 := h.stored (i * 4) (u64V (wd x 0))
  have h1 := h0.1.stored (i * 4 + 1) (u64V (wd x 1))
  have h2 := h1.1.stored (i * 4 + 2) (u64V (wd x 2))
  have h3 := h2.1.stored (i * 4 + 3) (u64V (wd x 3))
  refine ⟨h3.1, ?_⟩
  have hj : ∀ {a b c : World}, a.grownBy b (some g) → b.grownBy c (some g) → a.grownBy c (some g) := fun {a b c} p q =>
    ⟨q.os.trans p.os, q.tape.trans p.tape, q.output.trans p.output, Nat.le_trans p.size q.size, fun k hk hne => (q.block k (Nat.lt_of_lt_of_le hk p.size) hne).trans (p.block k hk hne)⟩
  exact hj (hj (hj h0.2 h1.2) h2.2) h3.2
theorem own_there {w : World} {base g n cap : Nat} {l : List BS} (h : w.ownsRow base 43 4 (.slice (some ⟨g, 0, none⟩) n cap) n (flatS l)) (i : Nat) (hi : i < l.length) : w.there g (i * 4) 4 := by
  intro j hj
  have hl := flatS_len l
  have hn : n * 4 = 4 * l.length := by rw [← h.1]; exact hl
  refine ⟨?_, h.frozenAt _⟩
  rw [h.cellAt (i * 4 + j) (by omega), List.getElem?_eq_getElem (by omega)]
  rfl

theorem below_own {B g : Nat} {a w w' : World} (hb : Below B a w) (hg : w.grownBy w' (some g)) (h : B ≤ g) (hs : B ≤ w.heap.size) : Below B a w' :=
  ⟨hg.os.trans hb.os, hg.tape.trans hb.tape, hg.output.trans hb.output, Nat.le_trans hb.size hg.size, fun k hk => (hg.block k (by omega) (by simp; omega)).trans (hb.block k hk)⟩

/-- One set more at the end: in place or in a new row; what lay in the old one still lies there. -/
theorem run_app_set {w : World} {base g n cap : Nat} {l : List BS} {x : BS} {b c : Nat} (ty : TypeId) (hown : w.ownsRow base 43 4 (.slice (some ⟨g, 0, none⟩) n cap) n (flatS l)) (hx : Blk w b 43 (setL x)) (hn : n ≤ 1073741824) (hbase : base ≤ w.heap.size) :
    ∃ g' cap' w', (Builtin.append_ #[40, 40] ty #[.slice (some ⟨g, 0, none⟩) n cap, .slice (some ⟨b, 0, none⟩) 1 c]).run Tryd.prog w = .ok (.slice (some ⟨g', 0, none⟩) (n + 1) cap') w' ∧
      w'.ownsRow base 43 4 (.slice (some ⟨g', 0, none⟩) (n + 1) cap') (n + 1) (flatS (l ++ [x])) ∧ w.grownBy w' (some g) ∧ (g' = g ∨ g' = w.heap.size) ∧
      (∀ g0 j y, j < n → g0 < w.heap.size → (g0 = g → l[j]? = some y) → SetAt w g0 (j * 4) y → SetAt w' g0 (j * 4) y) := by
  have hnews : ∀ j u, (setL x)[j]? = some u → w.cell? ((⟨b, 0, none⟩ : Addr).add j) = some u := by
    intro j u hu
    rw [Addr.add_mid, Nat.zero_add, cell_of_row w b j _ _ _ hx]
    simpa using hu
  have hone : ∀ u ∈ setL x, u.oneCell' = true := by
    have := one_setL [x]
    simpa [flatS] using this
  have hfl : flatS (l ++ [x]) = flatS l ++ setL x := by simp [flatS]
  have hll : l.length = n := by
    have := hown.1
    rw [flatS_len] at this
    omega
  obtain ⟨i, hi, hz, hsz, hby⟩ : ∃ i, Tryd.prog.info? 43 = some i ∧ i.zero = some (.agg #[.int .u64 0, .int .u64 0, .int .u64 0, .int .u64 0]) ∧ i.size = 4 ∧ i.bytes = 32 := by
    have h := info_set
    cases hi : Tryd.prog.info? 43 with
    | none => rw [hi] at h; cases h
    | some i =>
      rw [hi] at h
      simp only [Option.map_some, Option.some.injEq, Prod.mk.injEq] at h
      exact ⟨i, rfl, h.1, h.2.1, h.2.2⟩
  rw [hfl]
  by_cases hroom : n + 1 ≤ cap
  · obtain ⟨w', hr, ho, hg⟩ := run_append_fits (P := Tryd.prog) w base 40 ty 43 i 4 (by kernel_rfl) hi hsz g n cap (flatS l) hown ⟨b, 0, none⟩ 1 c (setL x) rfl hnews hone hroom
    refine ⟨g, cap, w', hr, ho, hg, .inl rfl, ?_⟩
    intro g0 j y hj hlt hy hs
    by_cases hgg : g0 = g
    · subst hgg
      have ho' : w'.ownsRow base 43 4 (.slice (some ⟨g0, 0, none⟩) (n + 1) cap) (n + 1) (flatS (l ++ [x])) := by rw [hfl]; exact ho
      obtain ⟨_, hrd⟩ := RdS.of_own ho'
      obtain ⟨b', o', e, _, hc⟩ := hrd (by omega)
      injection e with e
      injection e with e1 e2 e3
      have hjl : j < (l ++ [x]).length := by simp; omega
      have := hc j hjl
      have hyj : (l ++ [x])[j] = y := by
        have h1 := hy rfl
        rw [List.getElem_append_left (by omega)]
        exact (List.getElem?_eq_some_iff.1 h1).2
      rw [hyj, ← e1, ← e2, Nat.zero_add] at this
      exact this
    · exact hs.block (hg.block g0 hlt (by simpa using hgg))
  · have hr := run_append_grow (P := Tryd.prog) w 40 ty 43 i (.agg #[.int .u64 0, .int .u64 0, .int .u64 0, .int .u64 0]) (by kernel_rfl) hi hz ⟨g, 0, none⟩ n cap (flatS l) (by rw [hown.1, hsz]) (fun j v hv => by
        rw [Addr.add_mid, Nat.zero_add, hown.cellAt j (by have := (List.getElem?_eq_some_iff.1 hv).1; rw [hown.1] at this; exact this)]; exact hv)
      ⟨b, 0, none⟩ 1 c (setL x) (by rw [hsz]; rfl) hnews (by omega) (by omega) (growslice_fits (by omega) (by rw [hby]; omega))
    have hge := grownCap_ge w (n + 1) cap 43
    have hcm : grownCap w (n + 1) cap 43 ≤ maxLen := grownCap_le_maxLen w (n + 1) cap _ (by simp only [maxLen]; omega)
    have hlen : (flatS l ++ setL x).length = (n + 1) * 4 := by rw [List.length_append, hown.1, setL_len]; omega
    refine ⟨w.heap.size, _, _, hr, ⟨hlen, .inr ⟨w.heap.size, _, _, rfl, hbase, heap_alloc_new w.drew _, hge, hcm, ?_, ?_⟩⟩, ⟨rfl, rfl, rfl, by simp, fun k hk _ => heap_alloc_old w.drew _ hk⟩, .inr rfl, ?_⟩
    · simp only [Array.size_append, List.size_toArray, size_zeroCells, hown.1, setL_len, Value.cells, List.length_cons, List.length_nil]
      omega
    · simp only [Array.toList_append, List.append_assoc]
      rw [← List.append_assoc, ← hlen]
      exact List.take_left
    · intro g0 j y hj hlt _ hs
      exact hs.block (heap_alloc_old w.drew _ hlt)
theorem wpList_appS {w : World} {ops : Array Oper} {rest : List Oper} {o : Oper} {a : Act} {Q : Exit → Act → World → Prop} (hgd : o.guard = none) (sx x : Operand)
    (ho : o.op = .call { callee := .builtin .append, args := #[sx, x], argTypes := #[40, 40] })
    (base g n cap : Nat) (l : List BS) (hs : a.eval sx = .slice (some ⟨g, 0, none⟩) n cap) (hown : w.ownsRow base 43 4 (.slice (some ⟨g, 0, none⟩) n cap) n (flatS l))
    (b c : Nat) (X : BS) (hx : a.eval x = .slice (some ⟨b, 0, none⟩) 1 c) (hX : Blk w b 43 (setL X)) (hn : n ≤ 1073741824) (hbase : base ≤ w.heap.size)
    (h : ∀ g' cap' w', Hid (w'.ownsRow base 43 4 (.slice (some ⟨g', 0, none⟩) (n + 1) cap') (n + 1) (flatS (l ++ [X]))) → w.grownBy w' (some g) → (g' = g ∨ g' = w.heap.size) →
      Hid (∀ g0 j y, j < n → g0 < w.heap.size → (g0 = g → l[j]? = some y) → SetAt w g0 (j * 4) y → SetAt w' g0 (j * 4) y) →
      wpList Tryd.prog ops Q rest (a.put o.dst (.slice (some ⟨g', 0, none⟩) (n + 1) cap')) w') :
    wpList Tryd.prog ops Q (o :: rest) a w := by
  refine wpList_plain hgd fun K hK => ?_
  obtain ⟨g', c', w', hrun, h2, h3, h4, h5⟩ := run_app_set (c := c) o.type hown hX hn hbase
  unfold Oper.wp execOp
  simp only [ho, resolve, invoke, builtin, Sem.run_bind, Sem.run_pure, Result.andThen_ok, List.map_toArray, List.map_cons, List.map_nil, hs, hx, hrun]
  exact hK _ _ (h g' c' w' h2 h3 h4 h5)
end Go.Proofs.YtoiegkejkahfgaaDoor

/- class: Split's pieces, as lists. -/
namespace Go.Proofs.YtoiegkejkahfgaaDoor
set_option linter.unusedVariables false
set_option linter.unusedSimpArgs false

/-- The pieces when the first i have been looked at. -/
def curS (s : BS) (ps : List BS) (i : Nat) : List BS := (ps.take i).map (inN s) ++ ps.drop i ++ outN s (ps.take i)
theorem curS_zero (s : BS) (ps : List BS) : curS s ps 0 = ps := by simp [curS, outN]
theorem curS_all (s : BS) (ps : List BS) : curS s ps ps.length = stepS ps s := by simp [curS, stepS]
theorem curS_get (s : BS) (ps : List BS) (i j : Nat) (hij : i ≤ j) (hj : j < ps.length) : (curS s ps i)[j]? = some ps[j] := by
  unfold curS
  rw [List.append_assoc, List.getElem?_append_right (by simp; omega), List.getElem?_append_left (by simp; omega)]
  simp only [List.length_map, List.length_take, List.getElem?_drop]
  rw [show i + (j - min i ps.length) = j by omega]
  simp [hj]
theorem outN_snoc (s p : BS) (ps : List BS) : outN s (ps ++ [p]) = outN s ps ++ (if cuts s p then [p &&& ~~~s] else []) := by
  unfold outN
  rw [List.filterMap_append]
  congr 1
  by_cases h : cuts s p = true <;> simp [h]
theorem curS_keep (s : BS) (ps : List BS) (i : Nat) (hi : i < ps.length) (hc : cuts s ps[i] = false) : curS s ps (i + 1) = curS s ps i := by
  unfold curS
  rw [List.take_succ_eq_append_getElem hi, outN_snoc, hc, List.map_append, List.drop_eq_getElem_cons hi]
  simp [inN, hc]
theorem curS_cut (s : BS) (ps : List BS) (i : Nat) (hi : i < ps.length) (hc : cuts s ps[i] = true) : curS s ps (i + 1) = (curS s ps i).set i (ps[i] &&& s) ++ [ps[i] &&& ~~~s] := by
  unfold curS
  rw [List.take_succ_eq_append_getElem hi, outN_snoc, hc, List.map_append, List.drop_eq_getElem_cons hi]
  have hl : ((ps.take i).map (inN s)).length = i := by simp; omega
  simp only [List.append_assoc, List.cons_append, List.nil_append, List.map_cons, List.map_nil]
  rw [List.set_append_right _ _ (by omega), hl, Nat.sub_self, List.set_cons_zero]
  simp [inN, hc]
theorem curS_len (s : BS) (ps : List BS) (i : Nat) : (curS s ps i).length = ps.length + (outN s (ps.take i)).length := by
  unfold curS
  simp
  omega
theorem outN_len (s : BS) (ps : List BS) : (outN s ps).length ≤ ps.length := List.length_filterMap_le _ _
theorem curS_le (s : BS) (ps : List BS) (i : Nat) : (curS s ps i).length ≤ ps.length + ps.length := by
  rw [curS_len]
  have := outN_len s (ps.take i)
  have h2 : (ps.take i).length ≤ ps.length := by simp; omega
  omega
theorem cuts_iff (s p : BS) : cuts s p = true ↔ p &&& s ≠ 0#256 ∧ p &&& ~~~s ≠ 0#256 := by simp [cuts]
theorem pieceS_snoc (l : List BS) (s : BS) : pieceS (l ++ [s]) = stepS (pieceS l) s := by simp [pieceS, List.foldl_append]
theorem pieceS_take (l : List BS) (k : Nat) (hk : k < l.length) : pieceS (l.take (k + 1)) = stepS (pieceS (l.take k)) l[k] := by
  rw [List.take_succ_eq_append_getElem hk, pieceS_snoc]
end Go.Proofs.YtoiegkejkahfgaaDoor

/- class: how many pieces; what is in them. -/
namespace Go.Proofs.YtoiegkejkahfgaaDoor
set_option linter.unusedVariables false
set_option linter.unusedSimpArgs false

theorem stepS_len (ps : List BS) (s : BS) : (stepS ps s).length ≤ 2 * ps.length := by
  have h := curS_le s ps ps.length
  rw [curS_all] at h
  omega
theorem pieceS_len (l : List BS) : (pieceS l).length ≤ 2 ^ l.length := by
  have h : ∀ (l ps : List BS), (l.foldl stepS ps).length ≤ 2 ^ l.length * ps.length := by
    intro l
    induction l with
    | nil => intro ps; simp
    | cons s l ih =>
      intro ps
      rw [List.foldl_cons, List.length_cons, Nat.pow_succ, Nat.mul_assoc]
      exact Nat.le_trans (ih _) (Nat.mul_le_mul_left _ (stepS_len ps s))
  have h2 := h l [~~~(0#256)]
  rw [List.length_singleton, Nat.mul_one] at h2
  exact h2
theorem pieceS_small (l : List BS) (hl : l.length ≤ 20) (k : Nat) : (pieceS (l.take k)).length ≤ 1048576 := by
  refine Nat.le_trans (pieceS_len _) ?_
  have h1 : (l.take k).length ≤ 20 := by simp; omega
  exact Nat.pow_le_pow_right (by decide) h1
/-- Each byte is in a piece. -/
theorem step_cover {ps : List BS} (s : BS) (h : ∀ c, c < 256 → ∃ p ∈ ps, has p c = true) : ∀ c, c < 256 → ∃ p ∈ stepS ps s, has p c = true := by
  intro c hc
  obtain ⟨p, hp, hpc⟩ := h c hc
  by_cases hcut : cuts s p = true
  · cases hs : has s c
    · refine ⟨p &&& ~~~s, List.mem_append_right _ (List.mem_filterMap.2 ⟨p, hp, by simp [hcut]⟩), ?_⟩
      rw [has_and, hpc, has_not, hs, decide_eq_true hc]
      rfl
    · refine ⟨p &&& s, List.mem_append_left _ (List.mem_map.2 ⟨p, hp, by simp [inN, hcut]⟩), ?_⟩
      rw [has_and, hpc, hs]
      rfl
  · exact ⟨p, List.mem_append_left _ (List.mem_map.2 ⟨p, hp, by simp [inN, hcut]⟩), hpc⟩
/-- No piece is empty. -/
theorem step_ne {ps : List BS} (s : BS) (h : ∀ p ∈ ps, p ≠ 0#256) : ∀ p ∈ stepS ps s, p ≠ 0#256 := by
  intro p hp
  rcases List.mem_append.1 hp with hp | hp
  · obtain ⟨q, hq, rfl⟩ := List.mem_map.1 hp
    unfold inN
    split
    · rename_i hc; exact ((cuts_iff s q).1 hc).1
    · exact h q hq
  · obtain ⟨q, hq, he⟩ := List.mem_filterMap.1 hp
    split at he
    · rename_i hc
      injection he with he
      rw [← he]
      exact ((cuts_iff s q).1 hc).2
    · cases he
/-- Each piece of the next list lies within the set or without. -/
theorem step_whole {ps : List BS} (s : BS) : ∀ p ∈ stepS ps s, p &&& s = 0#256 ∨ p &&& ~~~s = 0#256 := by
  intro p hp
  rcases List.mem_append.1 hp with hp | hp
  · obtain ⟨q, hq, rfl⟩ := List.mem_map.1 hp
    unfold inN
    split
    · right
      refine bs_has_ext fun c hc => ?_
      rw [has_and, has_and, has_not, has_zero]
      cases has s c <;> simp
    · rename_i hc
      have : ¬(q &&& s ≠ 0#256 ∧ q &&& ~~~s ≠ 0#256) := fun h => hc ((cuts_iff s q).2 h)
      by_cases h1 : q &&& s = 0#256
      · exact .inl h1
      · right
        by_cases h2 : q &&& ~~~s = 0#256
        · exact h2
        · exact absurd ⟨h1, h2⟩ this
  · obtain ⟨q, hq, he⟩ := List.mem_filterMap.1 hp
    split at he
    · injection he with he
      left
      rw [← he]
      refine bs_has_ext fun c hc => ?_
      rw [has_and, has_and, has_not, has_zero]
      cases has s c <;> simp
    · cases he

/-- No byte in common. -/
def Apart (p q : BS) : Prop := p &&& q = 0#256
theorem apart_iff (p q : BS) : Apart p q ↔ ∀ c, has p c = true → has q c = true → False := by
  unfold Apart
  constructor
  · intro h c h1 h2
    have := congrArg (fun x => has x c) h
    simp only [has_and, h1, h2, has_zero] at this
    cases this
  · intro h
    refine bs_has_ext fun c _ => ?_
    rw [has_and, has_zero]
    cases h1 : has p c
    · rfl
    · cases h2 : has q c
      · rfl
      · exact (h c h1 h2).elim
theorem apart_sub {p q p' q' : BS} (h : Apart p q) (hp : ∀ c, has p' c = true → has p c = true) (hq : ∀ c, has q' c = true → has q c = true) : Apart p' q' :=
  (apart_iff _ _).2 fun c h1 h2 => (apart_iff _ _).1 h c (hp c h1) (hq c h2)
theorem pw_all {R : BS → BS → Prop} {ps : List BS} (h : ps.Pairwise R) (hs : ∀ a b, R a b → R b a) : ∀ p ∈ ps, ∀ q ∈ ps, p ≠ q → R p q := by
  induction h with
  | nil => intro p hp; cases hp
  | cons h1 _ ih =>
    intro p hp q hq hne
    rcases List.mem_cons.1 hp with e1 | m1
    · rcases List.mem_cons.1 hq with e2 | m2
      · exact absurd (e1.trans e2.symm) hne
      · rw [e1]; exact h1 q m2
    · rcases List.mem_cons.1 hq with e2 | m2
      · rw [e2]; exact hs _ _ (h1 p m1)
      · exact ih p m1 q m2 hne
theorem and_sub (p s : BS) (c : Nat) (h : has (p &&& s) c = true) : has p c = true := by
  rw [has_and] at h
  exact (Bool.and_eq_true_iff.1 h).1
theorem inN_sub (s p : BS) (c : Nat) (h : has (inN s p) c = true) : has p c = true := by
  unfold inN at h
  split at h
  · exact and_sub _ _ _ h
  · exact h
theorem step_apart {ps : List BS} (s : BS) (h : ps.Pairwise Apart) : (stepS ps s).Pairwise Apart := by
  have hs : ∀ a b, Apart a b → Apart b a := fun a b h => (apart_iff _ _).2 fun c h1 h2 => (apart_iff _ _).1 h c h2 h1
  unfold stepS
  refine List.pairwise_append.2 ⟨?_, ?_, ?_⟩
  · exact List.pairwise_map.2 (h.imp fun hab => apart_sub hab (inN_sub s _) (inN_sub s _))
  · refine List.pairwise_filterMap.2 (h.imp fun {a b} hab x hx y hy => ?_)
    split at hx
    · injection hx with hx
      split at hy
      · injection hy with hy
        rw [← hx, ← hy]
        exact apart_sub hab (and_sub _ _) (and_sub _ _)
      · cases hy
    · cases hx
  · intro x hx y hy
    obtain ⟨p, hp, rfl⟩ := List.mem_map.1 hx
    obtain ⟨q, hq, he⟩ := List.mem_filterMap.1 hy
    split at he
    · rename_i hc
      injection he with he
      rw [← he]
      by_cases hpq : p = q
      · subst hpq
        unfold inN
        rw [if_pos hc]
        refine (apart_iff _ _).2 fun c h1 h2 => ?_
        rw [has_and, Bool.and_eq_true] at h1 h2
        rw [has_not, h1.2] at h2
        simp at h2
      · exact apart_sub (pw_all h hs p hp q hq hpq) (inN_sub s p) (and_sub _ _)
    · cases he
end Go.Proofs.YtoiegkejkahfgaaDoor

/- class: the pieces: apart, whole, told apart. -/
namespace Go.Proofs.YtoiegkejkahfgaaDoor
set_option linter.unusedVariables false
set_option linter.unusedSimpArgs false
/-- Some set of these has all of one piece, and nothing of the other. -/
def Sub (p q : BS) : Prop := ∀ c, has p c = true → has q c = true
def Sep (seen : List BS) (p q : BS) : Prop := ∃ s ∈ seen, (Sub p s ∧ Apart q s) ∨ (Sub q s ∧ Apart p s)
theorem sep_symm {seen : List BS} {p q : BS} (h : Sep seen p q) : Sep seen q p := by
  obtain ⟨s, hs, h | h⟩ := h
  · exact ⟨s, hs, .inr h⟩
  · exact ⟨s, hs, .inl h⟩
theorem sub_trans {p q r : BS} (h : Sub p q) (k : Sub q r) : Sub p r := fun c hc => k c (h c hc)
theorem apart_left {p q s : BS} (h : Sub p q) (k : Apart q s) : Apart p s := apart_sub k h (fun _ h => h)
theorem sep_sub {seen : List BS} {p q p' q' : BS} (h : Sep seen p q) (hp : Sub p' p) (hq : Sub q' q) : Sep seen p' q' := by
  obtain ⟨s, hs, ⟨h1, h2⟩ | ⟨h1, h2⟩⟩ := h
  · exact ⟨s, hs, .inl ⟨sub_trans hp h1, apart_left hq h2⟩⟩
  · exact ⟨s, hs, .inr ⟨sub_trans hq h1, apart_left hp h2⟩⟩
theorem sep_more {seen : List BS} {p q : BS} (s : BS) (h : Sep seen p q) : Sep (seen ++ [s]) p q := by
  obtain ⟨s0, hs, h⟩ := h
  exact ⟨s0, List.mem_append_left _ hs, h⟩
theorem apart_of_sep {seen : List BS} {p q : BS} (h : Sep seen p q) : Apart p q := by
  obtain ⟨s, _, ⟨h1, h2⟩ | ⟨h1, h2⟩⟩ := h
  · exact (apart_iff _ _).2 fun c hp hq => (apart_iff _ _).1 h2 c hq (h1 c hp)
  · exact (apart_iff _ _).2 fun c hp hq => (apart_iff _ _).1 h2 c hp (h1 c hq)
theorem sub_and (p s : BS) : Sub (p &&& s) p := fun c h => and_sub p s c h
theorem sub_and2 (p s : BS) : Sub (p &&& s) s := fun c h => by
  rw [has_and] at h
  exact (Bool.and_eq_true_iff.1 h).2
theorem not_apart (p s : BS) : Apart (p &&& ~~~s) s := (apart_iff _ _).2 fun c h1 h2 => by
  rw [has_and, has_not, h2] at h1
  simp at h1
theorem step_sep {seen ps : List BS} (s : BS) (h : ps.Pairwise (Sep seen)) : (stepS ps s).Pairwise (Sep (seen ++ [s])) := by
  have hs : ∀ a b, Sep seen a b → Sep seen b a := fun a b h => sep_symm h
  unfold stepS
  refine List.pairwise_append.2 ⟨?_, ?_, ?_⟩
  · exact List.pairwise_map.2 (h.imp fun hab => sep_more s (sep_sub hab (inN_sub s _) (inN_sub s _)))
  · refine List.pairwise_filterMap.2 (h.imp fun {a b} hab x hx y hy => ?_)
    split at hx
    · injection hx with hx
      split at hy
      · injection hy with hy
        rw [← hx, ← hy]
        exact sep_more s (sep_sub hab (sub_and _ _) (sub_and _ _))
      · cases hy
    · cases hx
  · intro x hx y hy
    obtain ⟨p, hp, rfl⟩ := List.mem_map.1 hx
    obtain ⟨q, hq, he⟩ := List.mem_filterMap.1 hy
    split at he
    · rename_i hc
      injection he with he
      rw [← he]
      by_cases hpq : p = q
      · subst hpq
        unfold inN
        rw [if_pos hc]
        exact ⟨s, by simp, .inl ⟨sub_and2 _ _, not_apart _ _⟩⟩
      · exact sep_more s (sep_sub (pw_all h hs p hp q hq hpq) (inN_sub s p) (sub_and _ _))
    · cases he
/-- Each piece lies within a set, or without. -/
def Whole1 (s p : BS) : Prop := p &&& s = 0#256 ∨ p &&& s = p
theorem and_zero_iff (p s : BS) : p &&& ~~~s = 0#256 ↔ p &&& s = p := by
  constructor
  · intro h
    refine bs_has_ext fun c hc => ?_
    have := congrArg (fun x => has x c) h
    simp only [has_and, has_not, has_zero, decide_eq_true hc, Bool.true_and] at this
    rw [has_and]
    cases h1 : has p c <;> cases h2 : has s c <;> simp_all
  · intro h
    refine bs_has_ext fun c hc => ?_
    have := congrArg (fun x => has x c) h
    simp only [has_and] at this
    rw [has_and, has_not, has_zero]
    cases h1 : has p c <;> cases h2 : has s c <;> simp_all
theorem whole_sub {s p p' : BS} (h : Whole1 s p) (hs : Sub p' p) : Whole1 s p' := by
  rcases h with h | h
  · left
    exact apart_left hs h
  · right
    refine bs_has_ext fun c _ => ?_
    rw [has_and]
    cases h1 : has p' c
    · rfl
    · have h2 := hs c h1
      have := congrArg (fun x => has x c) h
      simp only [has_and, h2, Bool.true_and] at this
      rw [this]
      rfl
theorem step_parent {ps : List BS} (s : BS) : ∀ p ∈ stepS ps s, ∃ q ∈ ps, Sub p q := by
  intro p hp
  rcases List.mem_append.1 hp with hp | hp
  · obtain ⟨q, hq, rfl⟩ := List.mem_map.1 hp
    exact ⟨q, hq, inN_sub s q⟩
  · obtain ⟨q, hq, he⟩ := List.mem_filterMap.1 hp
    split at he
    · injection he with he
      exact ⟨q, hq, by rw [← he]; exact sub_and _ _⟩
    · cases he
structure Good (seen ps : List BS) : Prop where
  ne : ∀ p ∈ ps, p ≠ 0#256
  cover : ∀ c, c < 256 → ∃ p ∈ ps, has p c = true
  whole : ∀ s ∈ seen, ∀ p ∈ ps, Whole1 s p
  sep : ps.Pairwise (Sep seen)
theorem good_step {seen ps : List BS} (s : BS) (h : Good seen ps) : Good (seen ++ [s]) (stepS ps s) where
  ne := step_ne s h.ne
  cover := step_cover s h.cover
  whole := by
    intro t ht p hp
    rcases List.mem_append.1 ht with ht | ht
    · obtain ⟨q, hq, hs⟩ := step_parent s p hp
      exact whole_sub (h.whole t ht q hq) hs
    · obtain rfl := List.mem_singleton.1 ht
      rcases step_whole t p hp with h1 | h1
      · exact .inl h1
      · exact .inr ((and_zero_iff _ _).1 h1)
  sep := step_sep s h.sep
theorem good_fold (l : List BS) : ∀ (seen ps : List BS), Good seen ps → Good (seen ++ l) (l.foldl stepS ps) := by
  induction l with
  | nil => intro seen ps h; simpa using h
  | cons s l ih =>
    intro seen ps h
    have := ih _ _ (good_step s h)
    rwa [List.append_assoc] at this
theorem good_pieces (l : List BS) : Good l (pieceS l) := by
  have h : Good [] [~~~(0#256)] := {
    ne := by
      intro p hp
      obtain rfl := List.mem_singleton.1 hp
      decide
    cover := fun c hc => ⟨_, List.mem_singleton.2 rfl, by rw [has_not, decide_eq_true hc, has_zero]; rfl⟩
    whole := by simp
    sep := List.pairwise_singleton _ _ }
  exact good_fold l [] _ h
theorem good_perm {l ps qs : List BS} (h : Good l ps) (hp : qs.Perm ps) : Good l qs where
  ne := fun p hm => h.ne p (hp.mem_iff.1 hm)
  cover := fun c hc => by
    obtain ⟨p, hm, hh⟩ := h.cover c hc
    exact ⟨p, hp.mem_iff.2 hm, hh⟩
  whole := fun s hs p hm => h.whole s hs p (hp.mem_iff.1 hm)
  sep := (hp.pairwise_iff (fun {a b} h => sep_symm h)).2 h.sep
/-- What is in one of them at least. -/
def orL (ps : List BS) : BS := ps.foldl (· ||| ·) 0#256
theorem orL_take (ps : List BS) (k : Nat) (hk : k < ps.length) : orL (ps.take (k + 1)) = orL (ps.take k) ||| ps[k] := by
  unfold orL
  rw [List.take_succ_eq_append_getElem hk, List.foldl_append]
  rfl
theorem has_orL (ps : List BS) (c : Nat) : has (orL ps) c = ps.any (fun p => has p c) := by
  suffices h : ∀ s : BS, has (ps.foldl (· ||| ·) s) c = (has s c || ps.any (fun p => has p c)) by
    have := h 0#256
    rwa [has_zero, Bool.false_or] at this
  induction ps with
  | nil => intro s; simp
  | cons d l ih =>
    intro s
    rw [List.foldl_cons, ih, has_or, List.any_cons, Bool.or_assoc]
theorem Good.all {l ps : List BS} (h : Good l ps) : orL ps = ~~~(0#256) := by
  refine bs_has_ext fun c hc => ?_
  rw [has_orL, has_not, has_zero, decide_eq_true hc]
  obtain ⟨p, hp, hh⟩ := h.cover c hc
  rw [List.any_eq_true.2 ⟨p, hp, hh⟩]
  rfl
theorem Good.apart {l ps : List BS} (h : Good l ps) (i j : Nat) (hij : i < j) (hj : j < ps.length) : Sep l ps[i] ps[j] :=
  List.pairwise_iff_getElem.1 h.sep i j (by omega) hj hij
theorem Good.none {l ps : List BS} (h : Good l ps) (k : Nat) (hk : k < ps.length) : orL (ps.take k) &&& ps[k] = 0#256 := by
  refine bs_has_ext fun c _ => ?_
  rw [has_and, has_orL, has_zero]
  cases h1 : (ps.take k).any (fun p => has p c)
  · rfl
  · obtain ⟨p, hp, hh⟩ := List.any_eq_true.1 h1
    obtain ⟨i, hi, rfl⟩ := List.mem_iff_getElem.1 hp
    simp only [List.getElem_take] at hh
    have hi2 : i < k := by simp at hi; omega
    have := (apart_iff _ _).1 (apart_of_sep (h.apart i k hi2 hk)) c hh
    cases h2 : has ps[k] c
    · simp
    · exact (this h2).elim
/-- Some set tells them apart. -/
def tells (p q s : BS) : Bool := decide (p &&& s = 0#256) != decide (q &&& s = 0#256)
theorem Good.tells {l ps : List BS} (h : Good l ps) (i j : Nat) (hij : i < j) (hj : j < ps.length) : l.any (tells ps[j] ps[i]) = true := by
  have hn1 := h.ne ps[i] (List.getElem_mem _)
  have hn2 := h.ne ps[j] (List.getElem_mem _)
  have hsub : ∀ p s : BS, Sub p s → p ≠ 0#256 → p &&& s ≠ 0#256 := by
    intro p s hs hn he
    apply hn
    refine bs_has_ext fun c _ => ?_
    have := congrArg (fun x => has x c) he
    simp only [has_and, has_zero] at this
    rw [has_zero]
    cases h1 : has p c
    · rfl
    · rw [h1, hs c h1] at this
      exact this
  obtain ⟨s, hs, ⟨h1, h2⟩ | ⟨h1, h2⟩⟩ := h.apart i j hij hj
  · refine List.any_eq_true.2 ⟨s, hs, ?_⟩
    unfold Go.Proofs.YtoiegkejkahfgaaDoor.tells
    unfold Apart at h2
    rw [decide_eq_true h2, decide_eq_false (hsub _ _ h1 hn1)]
    rfl
  · refine List.any_eq_true.2 ⟨s, hs, ?_⟩
    unfold Go.Proofs.YtoiegkejkahfgaaDoor.tells
    unfold Apart at h2
    rw [decide_eq_true h2, decide_eq_false (hsub _ _ h1 hn2)]
    rfl
theorem has_firstN (p : BS) (h : p ≠ 0#256) : has p (firstN p) = true := by
  unfold firstN
  cases he : bytesOf p with
  | nil => exact absurd ((bytesOf_nil p).1 he) h
  | cons x xs => exact (mem_bytesOf p x).1 (by rw [he]; simp)
theorem Good.rising {l ps : List BS} (h : Good l ps) (hs : ps.Pairwise (fun a b => firstN a ≤ firstN b)) (i j : Nat) (hij : i < j) (hj : j < ps.length) : firstN ps[i] < firstN ps[j] := by
  have h1 := List.pairwise_iff_getElem.1 hs i j (by omega) hj hij
  have h2 := apart_of_sep (h.apart i j hij hj)
  have h3 := has_firstN _ (h.ne ps[i] (List.getElem_mem _))
  have h4 := has_firstN _ (h.ne ps[j] (List.getElem_mem _))
  rcases Nat.lt_or_eq_of_le h1 with h5 | h5
  · exact h5
  · rw [← h5] at h4
    exact ((apart_iff _ _).1 h2 _ h3 h4).elim
end Go.Proofs.YtoiegkejkahfgaaDoor
