/- What came in, where a row lists a table: expressions. -/
import Derived.Test.YtoiegkejkahfgaaDoorLay
import Derived.Test.YtoiegkejkahfgaaDoorRx
import Derived.Test.YtoiegkejkahfgaaDoorSplT
import Derived.Deep.Slices
import Derived.Test.YtoiegkejkahfgaaDoorNfX
import Derived.Test.YtoiegkejkahfgaaDoorNfY
import Derived.Test.YtoiegkejkahfgaaDoorNfV
import Derived.Test.YtoiegkejkahfgaaDoorSplit
import Derived.Test.YtoiegkejkahfgaaDoorBytB
namespace Go.Proofs.YtoiegkejkahfgaaDoor
set_option linter.unusedVariables false
set_option linter.unusedSimpArgs false
open Go.ChangeShapes Go.WideShapes Go.ChangeAt Go.RowKit

section
variable {H : Type} {enc : TypeId × Value → H} {W : World}
set_option maxRecDepth 10000 in
theorem open_words {cs : List Value} {fuel : Nat} {x : DataW H × List MemPlace} (h : DataW.trod enc Tryd.prog W 0 (fun _ => true) true fuel 23 cs = some x) :
    ∃ a : BS, cs = [.int .u64 ((wd a 0 : Nat) : Int), .int .u64 ((wd a 1 : Nat) : Int), .int .u64 ((wd a 2 : Nat) : Int), .int .u64 ((wd a 3 : Nat) : Int)] := by
  obtain ⟨xs, m, rfl, hx, hlen, hn, hel⟩ := DataW.trod_array Tryd.underlying23 h
  have c4 : Tryd.prog.cellsOf 23 = 4 := by kernel_rfl
  have c1 : Tryd.prog.cellsOf 22 = 1 := by kernel_rfl
  rw [c4] at hlen
  have hc : ∀ i, i < 4 → ∃ n : Nat, n < 18446744073709551616 ∧ cs[i]? = some (.int .u64 (n : Int)) := by
    intro i hi
    have h1 := hel i hi
    rw [c1, Nat.mul_one, List.getElem?_eq_getElem (by omega)] at h1
    obtain ⟨n, e1, _, hw⟩ := DataW.trod_int Tryd.underlying22 h1
    have hb := bounds_u64 hw
    exact ⟨n.toNat, by omega, by rw [cell_of_part e1, show ((n.toNat : Nat) : Int) = n by omega]⟩
  obtain ⟨n0, l0, e0⟩ := hc 0 (by decide)
  obtain ⟨n1, l1, e1⟩ := hc 1 (by decide)
  obtain ⟨n2, l2, e2⟩ := hc 2 (by decide)
  obtain ⟨n3, l3, e3⟩ := hc 3 (by decide)
  obtain ⟨a, ha⟩ := of_words (fun i => if i = 0 then n0 else if i = 1 then n1 else if i = 2 then n2 else n3) (fun i => by
    show (if i = 0 then n0 else if i = 1 then n1 else if i = 2 then n2 else n3) < _
    split
    · exact l0
    · split
      · exact l1
      · split
        · exact l2
        · exact l3)
  have h0 : wd a 0 = n0 := ha 0 (by decide)
  have h1 : wd a 1 = n1 := ha 1 (by decide)
  have h2 : wd a 2 = n2 := ha 2 (by decide)
  have h3 : wd a 3 = n3 := ha 3 (by decide)
  refine ⟨a, ?_⟩
  rw [h0, h1, h2, h3]
  have hc4 : ∃ p q r t, cs = [p, q, r, t] := by
    match cs, hlen with
    | [p, q, r, t], _ => exact ⟨p, q, r, t, rfl⟩
  obtain ⟨p, q, r, t, rfl⟩ := hc4
  rw [Option.some.inj (show some p = _ from e0), Option.some.inj (show some q = _ from e1), Option.some.inj (show some r = _ from e2), Option.some.inj (show some t = _ from e3)]
set_option maxRecDepth 10000 in
/-- An expression that came in. -/
theorem open_rx_fuel : ∀ (fuel : Nat) (cs : List Value) (x : DataW H × List MemPlace), DataW.trod enc Tryd.prog W 0 (fun _ => true) true fuel 26 cs = some x → ∃ (v : RV) (t : RT), cs = v.cells ∧ Rep W (· < W.heap.size) v t := by
  intro fuel
  induction fuel using Nat.strongRecOn with
  | _ fuel ih =>
    intro cs x h
    obtain ⟨xs, n, rfl, hx, hlen, hxl, hf⟩ := DataW.trod_struct Tryd.underlying26 h
    have c8 : Tryd.prog.cellsOf 26 = 8 := by kernel_rfl
    have c4 : Tryd.prog.cellsOf 23 = 4 := by kernel_rfl
    have c1 : Tryd.prog.cellsOf 3 = 1 := by kernel_rfl
    have cs1 : Tryd.prog.cellsOf 24 = 1 := by kernel_rfl
    rw [c8] at hlen
    have hxl5 : xs.length = 5 := hxl
    have f0 : DataW.trod enc Tryd.prog W 0 (fun _ => true) true n 3 ((cs.drop 0).take (Tryd.prog.cellsOf 3)) = xs[0]? := hf 0 _ rfl
    rw [c1] at f0
    have f1 : DataW.trod enc Tryd.prog W 0 (fun _ => true) true n 23 ((cs.drop 1).take (Tryd.prog.cellsOf 23)) = xs[1]? := hf 1 _ rfl
    rw [c4] at f1
    have f2 : DataW.trod enc Tryd.prog W 0 (fun _ => true) true n 24 ((cs.drop 5).take (Tryd.prog.cellsOf 24)) = xs[2]? := hf 2 _ rfl
    rw [cs1] at f2
    have f3 : DataW.trod enc Tryd.prog W 0 (fun _ => true) true n 3 ((cs.drop 6).take (Tryd.prog.cellsOf 3)) = xs[3]? := hf 3 _ rfl
    rw [c1] at f3
    have f4 : DataW.trod enc Tryd.prog W 0 (fun _ => true) true n 3 ((cs.drop 7).take (Tryd.prog.cellsOf 3)) = xs[4]? := hf 4 _ rfl
    rw [c1] at f4
    rw [List.getElem?_eq_getElem (by omega)] at f0 f1 f2 f3 f4
    obtain ⟨k, e0, _, _⟩ := DataW.trod_int Tryd.underlying3 f0
    obtain ⟨s, e1⟩ := open_words f1
    obtain ⟨lo, e3, _, _⟩ := DataW.trod_int Tryd.underlying3 f3
    obtain ⟨hi, e4, _, _⟩ := DataW.trod_int Tryd.underlying3 f4
    have hcs : ∀ sl, (cs.drop 5).take 1 = [sl] → cs = [.int .i64 k, .int .u64 ((wd s 0 : Nat) : Int), .int .u64 ((wd s 1 : Nat) : Int), .int .u64 ((wd s 2 : Nat) : Int), .int .u64 ((wd s 3 : Nat) : Int), sl, .int .i64 lo, .int .i64 hi] := by
      intro sl e5
      match cs, hlen with
      | [q0, q1, q2, q3, q4, q5, q6, q7], _ =>
        simp at e0 e1 e3 e4 e5
        obtain ⟨rfl, rfl, rfl, rfl⟩ := e1
        subst e0 e3 e4 e5
        rfl
    rcases DataW.trod_slice Tryd.underlying24 f2 with ⟨e5, _⟩ | ⟨a, len, cap, elems, rest, m, hm, e5, _, _, hl, hcm, hel, hall, _⟩
    · exact ⟨⟨k, s, none, 0, 0, lo, hi⟩, .nd k s [] lo hi, hcs _ e5, Rep.leaf _ _ _ _ _ _ _ _⟩
    · have hx2 : ∀ i, ∃ (p : RV × RT), i < len → Rep W (· < W.heap.size) p.1 p.2 ∧ ∀ j, j < 8 → W.cell? (a.add (i * 8 + j)) = p.1.cells[j]? := by
        intro i
        by_cases hi : i < len
        · have h1 := hall i hi
          rw [List.getElem?_eq_getElem (by omega), c8] at h1
          obtain ⟨cs', h2, h3⟩ := Option.bind_eq_some_iff.1 h1
          obtain ⟨v, t, rfl, hr⟩ := ih m (by omega) _ _ h3
          refine ⟨(v, t), fun _ => ⟨hr, fun j hj => ?_⟩⟩
          have h4 := (World.cells?_some h2).2.2 j hj
          have ha : (a.add (i * 8)).add j = a.add (i * 8 + j) := Addr.add_add _ _ _
          rw [← ha, h4]
        · exact ⟨(RV.zero, .nd 0 (0#256) [] 0 0), fun h => absurd h hi⟩
      have hx3 : ∃ f : Nat → RV × RT, ∀ i, i < len → Rep W (· < W.heap.size) (f i).1 (f i).2 ∧ ∀ j, j < 8 → W.cell? (a.add (i * 8 + j)) = (f i).1.cells[j]? := ⟨fun i => (hx2 i).choose, fun i => (hx2 i).choose_spec⟩
      obtain ⟨f, hf2⟩ := hx3
      refine ⟨⟨k, s, some a, len, cap, lo, hi⟩, .nd k s ((List.range len).map fun i => (f i).2) lo hi, hcs _ e5, ?_⟩
      refine .mk ⟨k, s, some a, len, cap, lo, hi⟩ _ (fun i => (f i).1) (by simp) (fun h0 => ?_) (fun j hj => ?_)
      · obtain ⟨b, o, spot⟩ := a
        have h0 : 0 < len := h0
        have h1 := (hf2 0 h0).2 0 (by decide)
        have hc0 : (f 0).1.cells[0]? = some (.int .i64 (f 0).1.k) := rfl
        rw [hc0] at h1
        have hs : spot = none := by simpa [Addr.add] using World.cell?_spot h1
        subst hs
        have hbl : b < W.heap.size := by simpa [Addr.add] using World.block_lt_of_cell? _ _ h1
        refine ⟨b, o, rfl, hbl, hbl, fun j hj i hi => ?_⟩
        have h2 := (hf2 j hj).2 i (by rw [RV.len] at hi; exact hi)
        rw [addr_add] at h2
        rw [Nat.add_assoc, h2, List.getElem?_eq_getElem hi]
      · have hj' : j < len := by simpa using hj
        have := (hf2 j hj').1
        simpa using this
theorem open_rx {v : Value} {d : DataW H} {p : List MemPlace} (h : DataW.Trod enc Tryd.prog W 0 (fun _ => true) true 26 v d p) : ∃ (x : RV) (t : RT), v = x.val ∧ Rep W (· < W.heap.size) x t := by
  obtain ⟨fuel, h⟩ := h
  obtain ⟨x, t, e, hr⟩ := open_rx_fuel fuel _ _ h
  refine ⟨x, t, ?_, hr⟩
  have hl := congrArg List.length e
  rw [RV.len] at hl
  clear h
  cases v with
  | agg cs =>
    obtain ⟨l⟩ := cs
    have e : l = x.cells := e
    rw [e]
    rfl
  | _ => simp [Value.cells] at hl
end
end Go.Proofs.YtoiegkejkahfgaaDoor

/- What came in, where a row lists a table: bytes, and sets. -/
namespace Go.Proofs.YtoiegkejkahfgaaDoor
set_option linter.unusedVariables false
set_option linter.unusedSimpArgs false
open Go.ChangeShapes Go.WideShapes Go.ChangeAt Go.RowKit Go.Deep

/-- The slice value 'a, len, cap' is nil, or leads to a row of 'cap' numbers zs of this kind. -/
def IsRow (k : IntKind) (w : World) (a : Option Addr) (len cap : Nat) (zs : List Int) : Prop :=
  (a = none ∧ len = 0 ∧ cap = 0 ∧ zs = []) ∨
  ∃ x, a = some x ∧ len ≤ cap ∧ cap ≤ maxLen ∧ zs.length = cap ∧ (∀ i, i < zs.length → w.cell? (x.add i) = some (.int k (zs.getD i 0))) ∧ ∀ n ∈ zs, (Lit.int k n).wf = true
/-- The bytes that it reads as. -/
theorem IsRow.bytes {w : World} {a : Option Addr} {len cap : Nat} {zs : List Int} (h : IsRow .u8 w a len cap zs) : ∃ l, RdB w a len l := by
  rcases h with ⟨rfl, rfl, rfl, rfl⟩ | ⟨x, rfl, hl, hm, hz, hc, hw⟩
  · exact ⟨[], RdB.nil_ _ _⟩
  · refine ⟨(zs.take len).map fun n => UInt8.ofNat n.toNat, by simp; omega, fun hn => ?_⟩
    obtain ⟨b, o, spot⟩ := x
    have h0 := hc 0 (by omega)
    have hs : spot = none := by simpa [Addr.add] using World.cell?_spot h0
    subst hs
    refine ⟨b, o, rfl, by simpa [Addr.add] using World.block_lt_of_cell? _ _ h0, fun j hj => ?_⟩
    have hj' : j < len := by simp at hj; omega
    have h1 := hc j (by omega)
    rw [addr_add] at h1
    rw [h1]
    have hb := bounds_u8 (hw _ (List.getElem_mem (show j < zs.length by omega)))
    have hg : zs.getD j 0 = zs[j]'(by omega) := by simp [List.getD, show j < zs.length by omega]
    rw [hg]
    simp only [List.getElem_map, List.getElem_take, UInt8.toNat_ofNat']
    congr 2
    omega
theorem open_bytes {H : Type} {enc : TypeId × Value → H} {W : World} {a : Option Addr} {len cap : Nat} {d : DataW H} {p : List MemPlace} (h : DataW.Trod enc Tryd.prog W 0 (fun _ => true) true 27 (.slice a len cap) d p) : ∃ l, RdB W a len l ∧ len ≤ 9223372036854775807 := by
  obtain ⟨z0, w0⟩ : ∃ zs, IsRow .u8 W a len cap zs := by
    obtain ⟨fuel, hf⟩ := h
    rcases open_ints Tryd.underlying27 Tryd.underlying5 (by kernel_rfl) hf with ⟨hcs, _⟩ | ⟨x, l, c, zs, hcs, _, hl, hm, hz, _, hcell, hwz⟩
    · simp [Value.cells] at hcs
      obtain ⟨rfl, rfl, rfl⟩ := hcs
      exact ⟨[], .inl ⟨rfl, rfl, rfl, rfl⟩⟩
    · simp [Value.cells] at hcs
      obtain ⟨rfl, rfl, rfl⟩ := hcs
      exact ⟨zs, .inr ⟨_, rfl, hl, hm, by simpa using hz, hcell, hwz⟩⟩
  obtain ⟨l, hl⟩ := w0.bytes
  refine ⟨l, hl, ?_⟩
  rcases w0 with ⟨_, rfl, _, _⟩ | ⟨_, _, h1, h2, _⟩
  · omega
  · unfold maxLen at h2; omega
theorem open_sets {H : Type} {enc : TypeId × Value → H} {W : World} {a : Option Addr} {len cap : Nat} {d : DataW H} {p : List MemPlace} (h : DataW.Trod enc Tryd.prog W 0 (fun _ => true) true 40 (.slice a len cap) d p) : ∃ l, RdS W a len l ∧ len ≤ 9223372036854775807 := by
  obtain ⟨fuel, hf⟩ := h
  rcases open_slice Tryd.underlying40 hf with ⟨hcs, _⟩ | ⟨x, l, c, m, n, D, Pl, hcs, _, hl, hm, hmm, _, hx⟩
  · simp [Value.cells] at hcs
    obtain ⟨rfl, rfl, rfl⟩ := hcs
    exact ⟨[], ⟨rfl, fun h => absurd h (by omega)⟩, by omega⟩
  · simp [Value.cells] at hcs
    obtain ⟨rfl, rfl, rfl⟩ := hcs
    have c4 : Tryd.prog.cellsOf 43 = 4 := by kernel_rfl
    rw [c4] at hx
    have hx2 : ∀ i, ∃ s : BS, i < len → ∀ j, j < 4 → W.cell? (x.add (i * 4 + j)) = some (.int .u64 ((wd s j : Nat) : Int)) := by
      intro i
      by_cases hi : i < len
      · obtain ⟨cs, h1, h2⟩ := hx i (by simp at hmm; omega)
        obtain ⟨s, hs⟩ := open_set (v := .agg cs.toArray) ⟨n, by simpa [Value.cells] using h2⟩
        refine ⟨s, fun _ j hj => ?_⟩
        have h3 := (World.cells?_some h1).2.2 j hj
        have hcs : cs = setL s := by
          have := congrArg Value.cells hs
          simpa [Value.cells, setV_eq] using this
        have ha : (x.add (i * 4)).add j = x.add (i * 4 + j) := Addr.add_add _ _ _
        rw [← ha, h3, hcs]
        exact four_get (wd s) j hj
      · exact ⟨0#256, fun h => absurd h hi⟩
    have hx3 : ∃ f : Nat → BS, ∀ i, i < len → ∀ j, j < 4 → W.cell? (x.add (i * 4 + j)) = some (.int .u64 ((wd (f i) j : Nat) : Int)) := ⟨fun i => (hx2 i).choose, fun i => (hx2 i).choose_spec⟩
    obtain ⟨f, hf2⟩ := hx3
    refine ⟨(List.range len).map f, ⟨by simp, fun hn => ?_⟩, by unfold maxLen at hm; omega⟩
    obtain ⟨b, o, spot⟩ := x
    have h0 := hf2 0 hn 0 (by decide)
    have hs : spot = none := by simpa [Addr.add] using World.cell?_spot h0
    subst hs
    refine ⟨b, o, rfl, by simpa [Addr.add] using World.block_lt_of_cell? _ _ h0, fun i hi => ?_⟩
    have hi' : i < len := by simpa using hi
    have e : ∀ j, j < 4 → W.cell? ⟨b, o + i * 4 + j, none⟩ = some (.int .u64 ((wd (f i) j : Nat) : Int)) := by
      intro j hj
      have := hf2 i hi' j hj
      rw [addr_add] at this
      rw [Nat.add_assoc]
      exact this
    simp only [List.getElem_map, List.getElem_range]
    exact ⟨e 0 (by decide), e 1 (by decide), e 2 (by decide), e 3 (by decide)⟩
end Go.Proofs.YtoiegkejkahfgaaDoor

/- nfa: bytes that no set of the edges tells apart. Plain mathematics. -/
namespace Go.Proofs.YtoiegkejkahfgaaDoor
set_option linter.unusedSimpArgs false
set_option linter.unusedVariables false
open Go.RowKit

theorem nodup_lt : ∀ (n : Nat) (l : List Nat), l.Nodup → (∀ x ∈ l, x < n) → l.length ≤ n
  | 0, l, _, h => by
    cases l with
    | nil => exact Nat.le_refl _
    | cons x l => exact absurd (h x (by simp)) (Nat.not_lt_zero _)
  | n + 1, l, hn, h => by
    have h1 := nodup_lt n (l.erase n) (hn.erase n) (fun x hx => by
      have h2 := (hn.mem_erase_iff).1 hx
      have h3 := h x h2.2
      have h4 := h2.1
      omega)
    by_cases hm : n ∈ l
    · rw [List.length_erase_of_mem hm] at h1
      omega
    · rw [List.erase_of_not_mem hm] at h1
      omega
/-- Pieces are few. -/
theorem good_len {l ps : List BS} (h : Good l ps) : ps.length ≤ 256 := by
  have hn : (ps.map firstN).Nodup := by
    rw [List.nodup_iff_pairwise_ne, List.pairwise_map]
    refine List.Pairwise.imp_of_mem ?_ h.sep
    intro p q hp hq hs e
    have h1 := has_firstN p (h.ne p hp)
    have h2 := has_firstN q (h.ne q hq)
    rw [e] at h1
    exact (apart_iff p q).1 (apart_of_sep hs) _ h1 h2
  have := nodup_lt 256 _ hn (fun x hx => by
    obtain ⟨p, hp, rfl⟩ := List.mem_map.1 hx
    exact has_lt p _ (has_firstN p (h.ne p hp)))
  simpa using this
theorem piece_lens (l : List BS) : ∀ k, k ≤ l.length → (pieceS (l.take k)).length ≤ 1048576 := fun k _ => Nat.le_trans (good_len (good_pieces _)) (by omega)
/-- Two bytes of a piece are told apart by none of the sets. -/
theorem piece_same {l ps : List BS} (h : Good l ps) {p s : BS} (hp : p ∈ ps) (hs : s ∈ l) {c x : Nat} (hc : has p c = true) (hx : has p x = true) : has s x = has s c := by
  rcases h.whole s hs p hp with e | e
  · have h1 := congrArg (fun q => has q c) e
    have h2 := congrArg (fun q => has q x) e
    simp only [has_and, hc, hx, has_zero, Bool.true_and] at h1 h2
    rw [h1, h2]
  · have h1 := congrArg (fun q => has q c) e
    have h2 := congrArg (fun q => has q x) e
    simp only [has_and, hc, hx, Bool.true_and] at h1 h2
    rw [h1, h2]
theorem setsE1_mem : ∀ (l : List Ed) (out : List BS), (∀ s ∈ out, s ∈ setsE1 l out) ∧ ∀ e ∈ l, e.fr = false → e.set ∈ setsE1 l out
  | [], out => ⟨fun s h => h, fun e h => absurd h (by simp)⟩
  | e :: l, out => by
    have e1 : setsE1 (e :: l) out = setsE1 l (if out.contains e.set || e.fr then out else out ++ [e.set]) := rfl
    rw [e1]
    obtain ⟨h1, h2⟩ := setsE1_mem l (if out.contains e.set || e.fr then out else out ++ [e.set])
    refine ⟨fun s hs => h1 s (by split; exact hs; exact List.mem_append_left _ hs), fun d hd hf => ?_⟩
    rcases List.mem_cons.1 hd with rfl | hd
    · refine h1 _ ?_
      rw [hf, Bool.or_false]
      split
      · rename_i hq
        simpa using hq
      · simp
    · exact h2 d hd hf
theorem setsE_mem : ∀ (E : EG) (out : List BS), (∀ s ∈ out, s ∈ setsE E out) ∧ ∀ l ∈ E, ∀ e ∈ l, e.fr = false → e.set ∈ setsE E out
  | [], out => ⟨fun s h => h, fun l h => absurd h (by simp)⟩
  | l :: E, out => by
    have e1 : setsE (l :: E) out = setsE E (setsE1 l out) := rfl
    rw [e1]
    obtain ⟨h1, h2⟩ := setsE_mem E (setsE1 l out)
    obtain ⟨h3, h4⟩ := setsE1_mem l out
    refine ⟨fun s hs => h1 s (h3 s hs), fun k hk d hd hf => ?_⟩
    rcases List.mem_cons.1 hk with rfl | hk
    · exact h1 _ (h4 d hd hf)
    · exact h2 k hk d hd hf
theorem behP_same {l : List Ed} {x c : Nat} (h : ∀ e ∈ l, e.fr = false → has e.set x = has e.set c) : behP l x = behP l c := by
  unfold behP
  congr 1
  refine List.filter_congr fun e he => ?_
  cases hf : e.fr with
  | true => rfl
  | false => rw [h e he hf]
theorem stepP_same {E : EG} {x c : Nat} (h : ∀ l ∈ E, ∀ e ∈ l, e.fr = false → has e.set x = has e.set c) (l : List Int) : stepP E l x = stepP E l c := by
  unfold stepP
  congr 1
  unfold behL
  refine congrArg (fun f => List.flatMap f l) (funext fun s => ?_)
  split
  · refine behP_same ?_
    rw [List.getD_eq_getElem?_getD]
    cases hs : E[s.toNat]? with
    | none => intro e he; simp at he
    | some k => exact h k (List.mem_of_getElem? hs)
  · rfl
theorem piece_step {E : EG} {ps : List BS} (h : Good (setsE E []) ps) {p : BS} (hp : p ∈ ps) {c x : Nat} (hc : has p c = true) (hx : has p x = true) (l : List Int) : stepP E l x = stepP E l c :=
  stepP_same (fun k hk e he hf => piece_same h hp ((setsE_mem E []).2 k hk e he hf) hc hx) l
end Go.Proofs.YtoiegkejkahfgaaDoor

/- nfa: NfaSets, walked. -/
namespace Go.Proofs.YtoiegkejkahfgaaDoor
set_option linter.unusedSimpArgs false
set_option linter.unusedVariables false
open Go.RowKit

theorem autE_len {t : RT} (h : wgT t = 0) : (autE t).length = 1 + cnT t := by
  have := (put_ok t h [[]] 0 (by simp)).1
  unfold autE
  rw [this]
  rfl
theorem runP_is (E : EG) : ∀ (b : List Nat) (l : List Nat), (∃ m, l = reachP E m) → ∃ m, runP E l b = reachP E m
  | [], l, h => h
  | c :: b, l, h => runP_is E b _ ⟨_, rfl⟩
theorem BL.take {w : World} {A : Option Addr} {l : List Nat} (h : BL w A l) (j : Nat) : BL w A (l.take j) := fun h0 => by
  have h1 : 0 < l.length := by rw [List.length_take] at h0; omega
  obtain ⟨b, o, e, hl, hc⟩ := h h1
  refine ⟨b, o, e, hl, fun k hk => ?_⟩
  have h2 : k < l.length := by rw [List.length_take] at hk; omega
  rw [hc k h2, List.getElem_take]
theorem bl_of_rd {w : World} {A : Option Addr} {n : Nat} {l : List UInt8} (h : RdB w A n l) : BL w A (l.map (·.toNat)) := fun h0 => by
  obtain ⟨b, o, e, hb, hc⟩ := h.2 (by have := h.1; simp at h0; omega)
  exact ⟨b, o, e, hb, fun j hj => by rw [hc j (by simpa using hj)]; simp⟩
theorem equal_any {w : World} {A1 A2 : Option Addr} {l : List Int} (c1 c2 : Nat) (h1 : IL w A1 l) (h2 : IL w A2 l) (hn : l.length ≤ 1000000000) : Calls Tryd.prog 13 #[.slice A1 l.length c1, .slice A2 l.length c2] w fun e w' => ∃ v, e = .returned v ∧ v = .bool true ∧ Below w.heap.size w w' := by
  cases l with
  | nil => exact (Tryd.slices_Equal_int_empty A1 A2 c1 0 c2 w (by omega)).mono fun e w' ⟨e1, e2⟩ => ⟨_, e1, by simp, by rw [e2]; exact Below.refl _ _⟩
  | cons x xs =>
    obtain ⟨b1, o1, rfl, _, hc1⟩ := h1 (by simp)
    obtain ⟨b2, o2, rfl, _, hc2⟩ := h2 (by simp)
    refine (Tryd.slices_Equal_int b1 o1 (x :: xs).length c1 b2 o2 (x :: xs).length c2 (x :: xs) (x :: xs) w (Nat.le_refl _) (Nat.le_refl _) (by omega) (by omega) (IL.getD hc1) (IL.getD hc2)).mono fun e w' ⟨e1, q, e2⟩ => ⟨_, e1, by simp, by rw [e2]; exact below_drewN (Below.refl _ _) q⟩
set_option maxRecDepth 100000 in
set_option maxHeartbeats 2000000 in
theorem nsets_walk (v : RV) (t : RT) (w : World) (hR : Rep w (· < w.heap.size) v t) (BA : Option Addr) (bc : Nat) (l : List Nat) (hl : BL w BA l) (hl2 : ∀ x ∈ l, x < 256) (hbig : l.length ≤ 9223372036854775807) (c9 : Nat) (hc9 : c9 < 256) (hT : TabAt w) : Calls Tryd.prog 3 #[v.val, .slice BA l.length bc, .int .u8 (c9 : Int)] w fun e w' => e = .returned (.bool true) ∧ Below w.heap.size w w' := by
  obtain ⟨hb, hN⟩ := box_new w v
  have HB := hid hb
  have HX := hid hN
  have HR := hid (hR.keep hb)
  have HL := hid hl
  have HL2 := hid hl2
  have HTab := hid hT
  clear hb hN hR hl hl2 hT
  have HRun := hid (fun W => runs_any W)
  unfold RV.val
  rw [show (#[.int .i64 v.k, .int .u64 ((wd v.s 0 : Nat) : Int), .int .u64 ((wd v.s 1 : Nat) : Int), .int .u64 ((wd v.s 2 : Nat) : Int), .int .u64 ((wd v.s 3 : Nat) : Int), .slice v.A v.n v.c, .int .i64 v.lo, .int .i64 v.hi] : Array Value) = v.cells.toArray from rfl]
  go_enter Tryd.func3, Tryd.ntmps3
  go_upto_region 1 with (fail)
  change Code.wp _ _ _ _ (w.alloc (.cells v.cells.toArray 26))
  generalize w.alloc (.cells v.cells.toArray 26) = w1 at *
  go_upto_region 4 with (go_at_call 4; refine (HRun.out _).mono ?_; rintro e w2 ⟨rfl, hb2⟩)
  have hal := al_belowN w2 (.cells #[.int .i64 30] 3)
  have HX3 := hid ((HX.out.keep hb2).keep hal)
  have HNe := hid (show w.heap.size ≠ w2.heap.size from by have h1 := HX.out.lt; have h2 := hb2.size; omega)
  have HB3 := hid ((HB.out.trans (hb2.mono HB.out.size)).trans (hal.mono (Nat.le_trans HB.out.size hb2.size)))
  have HR3 := hid ((HR.out.keep hb2).keep hal)
  have HFew := hid (few_any t v (w2.alloc (.cells #[.int .i64 30] 3)) w2.heap.size 30 (· < w.heap.size) HR3.out (fun b hb => by have h1 := HX.out.lt; have h2 := hb2.size; have h3 : b < w.heap.size := hb; omega) (Blk.fresh w2 3 [.int .i64 30]) (by omega) (by omega))
  have HFs := hid (fg_sz t 30)
  have hw2 : w.heap.size ≤ w2.heap.size := by have h1 := HX.out.lt; have h2 := hb2.size; omega
  have HFin := hid (fun W (hg : (w2.alloc (.cells #[.int .i64 30] 3)).grownBy W (some w2.heap.size)) => (show Below w.heap.size w W from Chg.below HB3.out (Chg.of_grown hg) HB3.out.size (fun q hq => by injection hq with hq; omega)))
  clear hal hb2 HX HR HB HRun
  generalize w2.heap.size = g at *
  generalize w2.alloc (.cells #[.int .i64 30] 3) = w3 at *
  obtain ⟨x0, x1, x2, x3, x4, x5, x6, x7⟩ := Blk.cells8' (v := v) HX3.out
  unfold RV.val at HFew
  cases hfw : (fgT t 30).1 with
  | false =>
    rw [hfw] at HFew
    clear hfw HFs
    go_wp2_with (go_at_call 5; refine HFew.out.mono ?_; rintro e w4 ⟨rfl, hg4, _⟩; have HX4 := hid (show Blk w4 w.heap.size 26 v.cells from (hg4.block _ HX3.out.lt (fun e => HNe.out (by injection e))).trans HX3.out); have HG4 := hid hg4; have HR4 := hid (HR3.out.step hg4 (fun b hb => by have h3 : b < w.heap.size := hb; omega)); clear hg4 x0 x1 x2 x3 x4 x5 x6 x7; obtain ⟨x0, x1, x2, x3, x4, x5, x6, x7⟩ := Blk.cells8' (v := v) HX4.out)
    go_ret
    exact ⟨rfl, HFin.out _ HG4.out⟩
  | true =>
    rw [hfw] at HFew
    have hsz : szT t ≤ 30 := by have := (HFs.out hfw).1; omega
    clear hfw HFs
    by_cases c2 : (30 : Int) < (l.length : Int)
    · go_wp2_with (go_at_call 5; refine HFew.out.mono ?_; rintro e w4 ⟨rfl, hg4, _⟩; have HX4 := hid (show Blk w4 w.heap.size 26 v.cells from (hg4.block _ HX3.out.lt (fun e => HNe.out (by injection e))).trans HX3.out); have HG4 := hid hg4; have HR4 := hid (HR3.out.step hg4 (fun b hb => by have h3 : b < w.heap.size := hb; omega)); clear hg4 x0 x1 x2 x3 x4 x5 x6 x7; obtain ⟨x0, x1, x2, x3, x4, x5, x6, x7⟩ := Blk.cells8' (v := v) HX4.out)
      go_ret
      exact ⟨rfl, HFin.out _ HG4.out⟩
    have hlt4 : ∀ W, w3.grownBy W (some g) → w.heap.size ≤ W.heap.size := fun W hW => by have h1 := HX3.out.lt; have h2 := hW.size; omega
    go_upto_region 6 with (go_at_call 5; refine HFew.out.mono ?_; rintro e w4 ⟨rfl, hg4, _⟩; have HX4 := hid (show Blk w4 w.heap.size 26 v.cells from (hg4.block _ HX3.out.lt (fun e => HNe.out (by injection e))).trans HX3.out); have HG4 := hid hg4; have HR4 := hid (HR3.out.step hg4 (fun b hb => by have h3 : b < w.heap.size := hb; omega)); clear hg4 x0 x1 x2 x3 x4 x5 x6 x7; obtain ⟨x0, x1, x2, x3, x4, x5, x6, x7⟩ := Blk.cells8' (v := v) HX4.out)
    have hl4 := hlt4 _ HG4.out
    have HB4 := hid (HFin.out _ HG4.out)
    have HMk := hid (make_any v t w4 (· < w.heap.size) HR4.out (fun b hb => Nat.lt_of_lt_of_le hb hl4) (by omega))
    unfold RV.val at HMk
    clear HG4 HFin HFew hlt4 HX3 HR3 HB3 HR4
    by_cases hw0 : wgT t = 0
    rotate_left
    · have hw1 : (((wgT t : Nat) : Int) != 0) = true := by simpa using hw0
      have HW0 := hid hw0
      clear hw0
      go_wp2_with (go_at_call 6; refine HMk.out.mono ?_; rintro e w6 ⟨hb6, hmk⟩; rcases hmk with ⟨hz, rfl⟩ | ⟨hz, _, _⟩ | ⟨hz, _, _⟩; rotate_left; exact absurd hz HW0.out; exact absurd hz HW0.out; have HH := hid hb6; clear hb6 hz)
      go_ret
      exact ⟨rfl, (HB4.out.trans (HH.out.mono hl4)).trans ((al_belowN w6 _).mono (Nat.le_trans hl4 HH.out.size))⟩
    have HW0 := hid hw0
    clear hw0
    go_upto_region 7 with (go_at_call 6; refine HMk.out.mono ?_; rintro e w6 ⟨hb6, hmk⟩; rcases hmk with ⟨hz, _⟩ | ⟨_, hz, rfl⟩ | ⟨_, hz1, A1, c1, rfl, hau1⟩; exact absurd HW0.out hz)
    · go_wp2
      go_ret
      exact ⟨rfl, (HB4.out.trans (hb6.mono hl4)).trans ((al_belowN w6 _).mono (Nat.le_trans hl4 hb6.size))⟩
    have hcn := ad_cn t HW0.out
    have hE : (autE t).length ≤ 4096 := by rw [autE_len HW0.out]; omega
    have HE2 := hid (show ∀ s, ((autE t).getD s []).length ≤ 100000 from rows_tot (by
      obtain ⟨_, _, h1, _⟩ := put_ok t HW0.out [[]] 0 (by simp)
      unfold autE
      have h2 : totE [[]] = 0 := rfl
      omega))
    have HR0 := hid (show RnH w w6.heap.size A1 c1 (autE t) (autF t) (w6.alloc (.cells #[.slice A1 (autE t).length c1, .int .i64 ((autF t : Nat) : Int)] 33)) from ⟨(HB4.out.trans (hb6.mono HB4.out.size)).trans ((al_belowN w6 _).mono (Nat.le_trans HB4.out.size hb6.size)), hau1.keep (al_belowN w6 _), Blk.fresh w6 _ _⟩)
    clear hcn hz1 hb6 hau1 HMk HB4 HX4 HW0 x0 x1 x2 x3 x4 x5 x6 x7 hsz
    generalize w6.alloc (.cells #[.slice A1 (autE t).length c1, .int .i64 ((autF t : Nat) : Int)] 33) = w7 at *
    generalize w6.heap.size = g6 at *
    generalize autE t = E at *
    generalize autF t = q at *
    obtain ⟨d0, d1⟩ := HR0.out.cells
    have HS := hid (start_any (en := (q : Int)) HR0.out.au (by omega) HE2.out)
    have hsl : (startP E).length ≤ E.length := reachP_len E _
    go_wp2_with (go_at_call 7; refine HS.out.mono ?_; rintro e w8 ⟨A2, c2, rfl, ho, hb⟩; have HR8 := hid (HR0.out.step hb); have HO8 := hid (rowN_il ho); clear ho hb d0 d1)
    clear HS
    have HKr := hid (show ∃ m, startP E = reachP E m from ⟨_, rfl⟩)
    go_loopw [10, 39] (fun u i wr => ∃ j : Nat, j ≤ l.length ∧ i = .int .i64 (j : Int) ∧ ∃ A3 c3, u = .slice A3 (runP E (startP E) (l.take j)).length c3 ∧ Hid (IL wr A3 (natI (runP E (startP E) (l.take j)))) ∧ Hid (RnH w g6 A1 c1 E q wr)) (fun _ i _ => l.length - (intOf i).toNat)
    case atStart => exact ⟨0, Nat.zero_le _, rfl, A2, c2, rfl, HO8, HR8⟩
    case round =>
      clear HR8 HO8 HR0
      obtain ⟨j, hj, rfl, A3, c3, rfl, HI, HRr⟩ := hrel
      have hRl := runP_len E (l.take j) (startP E) hsl
      have HT := hid (fun hlt : j < l.length => (runP_succ E (startP E) l hlt).symm)
      have HE5 : E.length ≤ 5000 := by omega
      by_cases hlt : j < l.length
      · obtain ⟨bb, ob, rfl, hbl, hcs⟩ := HL.out (by omega)
        have k1 := (HRr.out.bel.cell (p := ⟨bb, ob + j, none⟩) hbl).trans (hcs j hlt)
        have p5 : (j : Int) < (l.length : Int) := by omega
        have hx := HL2.out _ (List.getElem_mem hlt)
        have HT2 := hid (HT.out hlt)
        clear hcs HT
        generalize runP E (startP E) (l.take j) = R at *
        generalize l[j]'hlt = x at *
        have HSt := hid (step_any (en := (q : Int)) HRr.out.au HE5 HE2.out A3 c3 (natI R) HI.out (by rw [natI_len]; omega) x hx)
        rw [HT2.out, natI_len] at HSt
        obtain ⟨d0, d1⟩ := HRr.out.cells
        have HRn := hid (fun (W : World) (hb : Below wr.heap.size wr W) => HRr.out.step (W' := W) hb)
        clear HL HL2 HI
        go_wp2_with (go_at_call 8; refine HSt.out.mono ?_; rintro e w9 ⟨A9, c9', rfl, ho, hb⟩; have HR9 := hid (HRn.out _ hb); have HI9 := hid (rowN_il ho); clear ho hb d0 d1)
        go_roundw
        case rel => exact ⟨j + 1, by omega, by go_num, A9, c9', rfl, HI9, HR9⟩
        case measure => simp [intOf]; omega
      · have p5 : ¬ (j : Int) < (l.length : Int) := by omega
        clear HT HL HL2 hlt hj
        generalize runP E (startP E) (l.take j) = R at *
        have HSt := hid (step_any (en := (q : Int)) HRr.out.au HE5 HE2.out A3 c3 (natI R) HI.out (by rw [natI_len]; omega) c9 hc9)
        rw [natI_len] at HSt
        have hWl : (stepP E (natI R) c9).length ≤ E.length := reachP_len E _
        have HWd := hid (show ∃ X, X = stepP E (natI R) c9 from ⟨_, rfl⟩)
        obtain ⟨Wn, hWn⟩ := HWd.out
        rw [← hWn] at HSt hWl
        have HWn := hid hWn
        clear hWn HWd
        obtain ⟨d0, d1⟩ := HRr.out.cells
        have HRn := hid (fun (W : World) (hb : Below wr.heap.size wr W) => HRr.out.step (W' := W) hb)
        have HIn := hid (fun (W : World) (hb : Below wr.heap.size wr W) => HI.out.keep (w' := W) hb)
        go_upto_region 16 with (go_at_call 8; refine HSt.out.mono ?_; rintro e w9 ⟨A4, c4, rfl, ho, hb⟩; have HR9 := hid (HRn.out _ hb); have HI9 := hid (rowN_il ho); have HJ9 := hid (HIn.out _ hb); clear ho hb d0 d1)
        obtain ⟨d0, d1⟩ := HR9.out.cells
        clear HRn HIn HSt HRr HI
        have HSe := hid (sets_any (en := (q : Int)) HR9.out.au HE5 HE2.out)
        have hsl2 : (setsE E []).length ≤ 9223372036854775807 := by
          have h1 := setsE_le E [] (fun l hl => by
            obtain ⟨k, hk, rfl⟩ := List.mem_iff_getElem.1 hl
            have := HE2.out k
            rw [List.getD_eq_getElem?_getD, List.getElem?_eq_getElem hk] at this
            exact this)
          rw [List.length_nil] at h1
          have h2 : E.length * 100000 ≤ 5000 * 100000 := Nat.mul_le_mul_right _ HE5
          omega
        have HSp := hid (fun (W : World) (A : Option Addr) (cp : Nat) (hT : TabAt W) (hR : RdS W A (setsE E []).length (setsE E [])) => split_walk (cap := cp) hT hR hsl2 (piece_lens _))
        have HSm := hid (fun (qs : List BS) (hq : qs.Perm (pieceS (setsE E []))) => good_perm (good_pieces (setsE E [])) hq)
        have HPs := hid (fun (ps : List BS) (hg : Good (setsE E []) ps) (p : BS) (hp : p ∈ ps) (x : Nat) (h1 : has p c9 = true) (h2 : has p x = true) => piece_step hg hp h1 h2 (natI R))
        clear hsl2
        generalize setsE E [] = SS at *
        go_upto_region 17 with (first
          | (go_at_call 10; refine HSe.out.mono ?_; rintro e wa ⟨A5, c5, rfl, ho, hb⟩; have HRa := hid (HR9.out.step hb); have HIa := hid (HI9.out.keep hb); have HJa := hid (HJ9.out.keep hb); have HSa := hid (RdS.of_own ho); clear ho hb d0 d1)
          | (go_at_call 9; refine (HSp.out _ A5 c5 (HTab.out.keep HRa.out.bel) HSa.out).mono ?_; rintro e wb ⟨A6, c6, qs, rfl, hq, _, hr, hb, _⟩; have HRb := hid (HRa.out.step hb); have HIb := hid (HIa.out.keep hb); have HJb := hid (HJa.out.keep hb); have HSb := hid hr; have HGd := hid (HSm.out qs hq); clear hq hr hb))
        go_wp2
        clear HSa HIa HJa HRa HSp HSm HSe HR9 HI9 HJ9
        have hq256 : qs.length ≤ 256 := good_len HGd.out
        go_loopw [56] (fun i wr => ∃ j : Nat, j ≤ qs.length ∧ i = .int .i64 (j : Int) ∧ Hid (RnH w g6 A1 c1 E q wr) ∧ Hid (IL wr A3 (natI R)) ∧ Hid (IL wr A4 (natI Wn)) ∧ Hid (RdS wr A6 qs.length qs)) (fun i _ => qs.length - (intOf i).toNat)
        case atStart => exact ⟨0, Nat.zero_le _, rfl, HRb, HJb, HIb, HSb⟩
        case round =>
          clear HRb HJb HIb HSb
          obtain ⟨k, hk, rfl, HRb, HJb, HIb, HSb⟩ := hrel
          by_cases hlt : k < qs.length
          · have p6 : (k : Int) < (qs.length : Int) := by omega
            obtain ⟨gl, ol, rfl, hgl, hcell⟩ := HSb.out.2 (by omega)
            obtain ⟨s0, s1, s2, s3⟩ := hcell k hlt
            have HPm := hid (List.getElem_mem hlt)
            clear hcell
            generalize qs[k]'hlt = pc at *
            have hbx := row_new wr 43 #[.int .u64 0, .int .u64 0, .int .u64 0, .int .u64 0] (setL pc).toArray
            have HX := hid (show Blk ((wr.alloc (.cells #[.int .u64 0, .int .u64 0, .int .u64 0, .int .u64 0] 43)).setRow wr.heap.size (setL pc).toArray) wr.heap.size 43 (setL pc) from setRow_heap _ _ _ _ _ (0, 0) (heap_alloc_new wr _))
            have HR6 := hid (HRb.out.step hbx)
            have HJ6 := hid (HJb.out.keep hbx)
            have HI6 := hid (HIb.out.keep hbx)
            have HS6 := hid (HSb.out.below hbx)
            have HHs := hid (fun (W : World) => has_any pc c9 hc9 W)
            clear hbx HRb HJb HIb HSb
            unfold setV at HHs
            cases hh : has pc c9 with
            | false =>
              rw [hh] at HHs
              clear hh
              go_wp2_with (first
                | (refine wpList_store_row rfl 43 _ _ rfl wr.heap.size (setL pc).toArray ?_ ?_ 43 #[.int .u64 0, .int .u64 0, .int .u64 0, .int .u64 0] (heap_alloc_new wr _) (set_info _) ?_ (four_one _) ?_; exact rfl; exact rfl; exact rfl; generalize (wr.alloc (.cells #[.int .u64 0, .int .u64 0, .int .u64 0, .int .u64 0] 43)).setRow wr.heap.size (setL pc).toArray = w6 at *; generalize wr.heap.size = gb at *; obtain ⟨e0, e1, e2, e3⟩ := HX.out.cells4)
                | (go_at_call 11; refine (HHs.out _).mono ?_; rintro e w9 ⟨rfl, hb⟩; have HR9 := hid (HR6.out.step hb); have HJ9 := hid (HJ6.out.keep hb); have HI9 := hid (HI6.out.keep hb); have HS9 := hid (HS6.out.below hb); clear hb e0 e1 e2 e3))
              go_roundw
              case rel => exact ⟨k + 1, by omega, by go_num, HR9, HJ9, HI9, HS9⟩
              case measure => simp [intOf]; omega
            | true =>
              rw [hh] at HHs
              have HBy := hid (fun (W : World) (hT : TabAt W) => (bytes_any pc hT).mono (R' := fun e w' => ∃ A c, e = .returned (.slice A (bytesOf pc).length c) ∧ BL w' A (bytesOf pc) ∧ Below W.heap.size W w') fun e w' ⟨v, he, ho, hb⟩ => by
                obtain ⟨A, c, rfl⟩ := own_shape ho
                have h1 := bl_of_rd (RdB.of_own ho)
                rw [show (toB (bytesOf pc)).map (·.toNat) = bytesOf pc from by
                  unfold toB
                  rw [List.map_map]
                  exact (List.map_congr_left fun x hx => by
                    have := bytesOf_lt pc x hx
                    simp
                    omega).trans (List.map_id _)] at h1
                exact ⟨A, c, he, h1, hb⟩)
              have HSame := hid (fun (x : Nat) (hx : x ∈ bytesOf pc) => (HPs.out qs HGd.out pc HPm.out x hh ((mem_bytesOf pc x).1 hx)).trans HWn.out.symm)
              have HBlt := hid (fun (x : Nat) (hx : x ∈ bytesOf pc) => bytesOf_lt pc x hx)
              have hbl : (bytesOf pc).length ≤ 256 := bytesOf_len pc
              unfold setV at HBy
              clear hh
              generalize bytesOf pc = bl at *
              go_upto_region 21 with (first
                | (refine wpList_store_row rfl 43 _ _ rfl wr.heap.size (setL pc).toArray ?_ ?_ 43 #[.int .u64 0, .int .u64 0, .int .u64 0, .int .u64 0] (heap_alloc_new wr _) (set_info _) ?_ (four_one _) ?_; exact rfl; exact rfl; exact rfl; generalize (wr.alloc (.cells #[.int .u64 0, .int .u64 0, .int .u64 0, .int .u64 0] 43)).setRow wr.heap.size (setL pc).toArray = w6 at *; generalize wr.heap.size = gb at *; obtain ⟨e0, e1, e2, e3⟩ := HX.out.cells4)
                | (go_at_call 11; refine (HHs.out _).mono ?_; rintro e w9 ⟨rfl, hb⟩; have HR9 := hid (HR6.out.step hb); have HJ9 := hid (HJ6.out.keep hb); have HI9 := hid (HI6.out.keep hb); have HS9 := hid (HS6.out.below hb); have HX9 := hid (HX.out.keep hb); clear hb e0 e1 e2 e3; obtain ⟨e0, e1, e2, e3⟩ := HX9.out.cells4)
                | (go_at_call 12; refine (HBy.out _ (HTab.out.keep HR9.out.bel)).mono ?_; rintro e wc ⟨A8, c8, rfl, hbL, hb⟩; have HRc := hid (HR9.out.step hb); have HJc := hid (HJ9.out.keep hb); have HIc := hid (HI9.out.keep hb); have HSc := hid (HS9.out.below hb); have HLc := hid hbL; clear hb hbL e0 e1 e2 e3))
              go_wp2
              clear HX HX9 HR9 HJ9 HI9 HS9 HR6 HJ6 HI6 HS6
              go_loopw [67] (fun i wr => ∃ m : Nat, m ≤ bl.length ∧ i = .int .i64 (m : Int) ∧ Hid (RnH w g6 A1 c1 E q wr) ∧ Hid (IL wr A3 (natI R)) ∧ Hid (IL wr A4 (natI Wn)) ∧ Hid (RdS wr (some ⟨gl, ol, none⟩) qs.length qs) ∧ Hid (BL wr A8 bl)) (fun i _ => bl.length - (intOf i).toNat)
              case atStart => exact ⟨0, Nat.zero_le _, rfl, HRc, HJc, HIc, HSc, HLc⟩
              case round =>
                clear HRc HJc HIc HSc HLc
                obtain ⟨m, hm, rfl, HRc, HJc, HIc, HSc, HLc⟩ := hrel
                by_cases hml : m < bl.length
                · have p7 : (m : Int) < (bl.length : Int) := by omega
                  obtain ⟨bg, bo, rfl, hbg, hbc⟩ := HLc.out (by omega)
                  have k1 := hbc m hml
                  have HSm := hid (HSame.out _ (List.getElem_mem hml))
                  have hxl := HBlt.out _ (List.getElem_mem hml)
                  clear hbc
                  generalize bl[m]'hml = x at *
                  obtain ⟨d0, d1⟩ := HRc.out.cells
                  have HSt := hid (step_any (en := (q : Int)) HRc.out.au HE5 HE2.out A3 c3 (natI R) HJc.out (by rw [natI_len]; omega) x hxl)
                  rw [HSm.out, natI_len] at HSt
                  by_cases h40 : m < 40
                  · have p8 : (m : Int) < 40 := by omega
                    have HEq := hid (fun (W : World) (A : Option Addr) (cc : Nat) (h1 : IL W A (natI Wn)) (h2 : IL W A4 (natI Wn)) => equal_any cc c4 h1 h2 (by rw [natI_len]; omega))
                    rw [natI_len] at HEq
                    go_wp2_with (first
                      | (go_at_call 8; refine HSt.out.mono ?_; rintro e wd ⟨A9, c9', rfl, ho, hb⟩; have HRd := hid (HRc.out.step hb); have HJd := hid (HJc.out.keep hb); have HId := hid (HIc.out.keep hb); have HSd := hid (HSc.out.below hb); have HLd := hid (HLc.out.keep hb); have HKd := hid (rowN_il ho); clear ho hb d0 d1)
                      | (go_at_call 13; refine (HEq.out _ _ _ HKd.out HId.out).mono ?_; rintro e we ⟨_, rfl, rfl, hb⟩; have HRe := hid (HRd.out.step hb); have HJe := hid (HJd.out.keep hb); have HIe := hid (HId.out.keep hb); have HSe := hid (HSd.out.below hb); have HLe := hid (HLd.out.keep hb); clear hb))
                    go_roundw
                    case rel => exact ⟨m + 1, by omega, by go_num, HRe, HJe, HIe, HSe, HLe⟩
                    case measure => simp [intOf]; omega
                  · have p8 : ¬ (m : Int) < 40 := by omega
                    go_wp2
                    go_roundw
                    case rel => exact ⟨m + 1, by omega, by go_num, HRc, HJc, HIc, HSc, HLc⟩
                    case measure => simp [intOf]; omega
                · have p7 : ¬ (m : Int) < (bl.length : Int) := by omega
                  go_wp2
                  go_roundw
                  case rel => exact ⟨k + 1, by omega, by go_num, HRc, HJc, HIc, HSc⟩
                  case measure => simp [intOf]; omega
          · have p6 : ¬ (k : Int) < (qs.length : Int) := by omega
            have HB9 := hid HRb.out.bel
            go_wp2
            go_ret
            exact ⟨rfl, HB9.out⟩
theorem nsets_law (v : RV) (t : RT) {w : World} (hR : Rep w (· < w.heap.size) v t) (A : Option Addr) (n c : Nat) (l : List UInt8) (hn : n ≤ 9223372036854775807) (rd : RdB w A n l) (a : Nat) (ha : a < 256) (hT : TabAt w) : Calls Tryd.prog 3 #[v.val, .slice A n c, .int .u8 (a : Int)] w fun e w' => e = .returned (.bool true) ∧ Below w.heap.size w w' := by
  have h := nsets_walk v t w hR A c (l.map (·.toNat)) (bl_of_rd rd) (fun x hx => by
    obtain ⟨y, _, rfl⟩ := List.mem_map.1 hx
    exact y.toNat_lt) (by rw [List.length_map, rd.1]; exact hn) a ha hT
  rw [List.length_map, rd.1] at h
  exact h
end Go.Proofs.YtoiegkejkahfgaaDoor

/- For every input the law NfaSets returns true, and what came in reads as before. -/
namespace Go.Proofs.YtoiegkejkahfgaaDoor.nfaSetsLaw
open Go.ChangeShapes Go.WideShapes Go.ChangeAt Go.RowKit
set_option linter.unusedVariables false

set_option maxRecDepth 100000 in
theorem lifted (os : Os) (started : os.Started) (H : Type) (enc : TypeId × Value → H) :
    ReturnsInHanded {} Tryd.checked os 3 .any (fun w args => (Rows.nfaSetsSpec.pre enc Tryd.prog Tryd.f3 [] false w args ∧ laidMetH Tryd.prog laidL w) ∧ sizedMet enc Tryd.prog Tryd.f3 (OpenSpec.ofChange Rows.nfaSetsSpec) false w args)
      (Rows.nfaSetsSpec.post enc Tryd.prog Tryd.f3 false true false false) := by
  refine returnsInHanded_of_change_and (C := Tryd.checked) (X := fun w _ => laidMetH Tryd.prog laidL w) (fun _ _ _ hh h => h.of_heap hh) own started (by kernel_rfl) Tryd.func3
    (ChangeSpec.witness_shaped (enc := enc) (C := Tryd.checked) (os := os) (X := fun w _ => laidMetH Tryd.prog laidL w) false (World.doorLaid Tryd.prog 400 os) #[.agg #[.int .i64 0, .int .u64 0, .int .u64 0, .int .u64 0, .int .u64 0, .slice none 0 0, .int .i64 0, .int .i64 0], .slice none 0 0, .int .u8 0] 8 rfl (World.shaped_of_RefB (by kernel_rfl) (by kernel_rfl)) (by kernel_rfl) (by kernel_rfl) (by kernel_rfl) (door_met os _)) ?_
  intro W base args ds gs before hval0 hW _ _ hL _
  have hval : ∀ (j : Nat) t v, Tryd.f3.params[j]? = some t → args[j]? = some v → Value.okWide Tryd.prog W .any base t v := hval0
  have hW' := hW
  obtain ⟨p, q, hA0, hV, rfl, hfz, hnd⟩ := hW
  have hA : DataW.TrodAll enc Tryd.prog W 0 (fun _ => true) true Tryd.f3.params.toList args.toList ds p := hA0
  rw [Tryd.params3] at hA hval
  obtain ⟨v0, vs0, d0, ds0, p0, q0, hargs, rfl, rfl, h0, r0⟩ := trodAll_cons hA
  obtain ⟨v1, vs1, d1, ds1, p1, q1, rfl, rfl, rfl, h1, r1⟩ := trodAll_cons r0
  obtain ⟨v2, vs2, d2, ds2, p2, q2, rfl, rfl, rfl, h2, r2⟩ := trodAll_cons r1
  obtain ⟨rfl, rfl, rfl⟩ := trodAll_nil r2
  obtain rfl : args = #[v0, v1, v2] := by cases args; simp_all
  obtain ⟨rfl, rfl⟩ := trodVars_none hV
  have k0 := h0
  have lt0 : ∀ x ∈ p0, x.block < W.heap.size := by obtain ⟨m, hm⟩ := k0; exact DataW.trod_lt m _ _ _ hm
  obtain ⟨a0, t0, rfl, rr0⟩ := open_rx h0
  obtain ⟨A1, n1, c1, rfl⟩ := okWide_slice Tryd.underlying27 (hval 1 27 v1 rfl rfl)
  have k1 := h1
  have lt1 : ∀ x ∈ p1, x.block < W.heap.size := by obtain ⟨m, hm⟩ := k1; exact DataW.trod_lt m _ _ _ hm
  obtain ⟨l1, rd1, ln1⟩ := open_bytes h1
  obtain ⟨z2, rfl, rfl, rfl, w2⟩ := open_int Tryd.underlying5 (hval 2 5 v2 rfl rfl) h2
  have b2 := bounds_u8 w2
  obtain ⟨a2, rfl⟩ : ∃ n : Nat, z2 = (n : Int) := ⟨z2.toNat, by omega⟩
  clear hA0 hval0
  refine (nsets_law a0 t0 rr0 A1 n1 c1 l1 ln1 rd1 a2 (by omega) (tab_of_laid hL)).mono fun e W' ⟨he, bel⟩ => ?_
  subst he
  exact ⟨_, rfl, _, _, _, [], _, [], hW', trodAll_mk1 (shut_bool Tryd.underlying4 _), (trodAll_cons_mk (Below.trod laidOut (by kernel_rfl) (of_decide_eq_true (by kernel_rfl)) k0 bel lt0) (trodAll_cons_mk (Below.trod laidOut (by kernel_rfl) (of_decide_eq_true (by kernel_rfl)) k1 bel lt1) (trodAll_cons_mk (shut_int Tryd.underlying5 w2) trodAll_mk0))), rfl, bel.frame _, fun h => by cases h⟩

theorem over : Rows.NfaSetsSaid :=
  OpenClaim.holds_of_wide 3 Tryd.f3 rfl rfl rfl rfl rfl rfl rfl ⟨rfl, rfl, rfl, rfl, rfl⟩ rfl rfl rfl rfl rfl (by kernel_rfl) Tryd.func3 (by kernel_rfl)
    (of_decide_eq_true (by kernel_rfl)) (by unfold Func.isWrapper; first | (rw [if_pos (by decide +kernel)]; kernel_rfl) | (rw [if_neg (by decide +kernel)]; exact ⟨rfl, rfl⟩))
    (fun os started H enc _ => lifted os started H enc)

/-- The given statement. -/
theorem proved : Rows.NfaSetsCardSaid :=
  Claim7.holds_tied_plain_at .later [] [.data] true (true, "4c91c3a8a1d53aeadf21d5d743a02ace31d31f5f2c0f36da2c17ab017a099ac4") false
    over (fun _ h => by cases h) (by kernel_rfl) (fun _ h => by cases h) nfaSets_row_tie rfl ⟨rfl, rfl⟩ (by kernel_rfl) rfl
    (fun f fn hf hfn => by
      obtain rfl : f = 3 := Option.some.inj ((show Tryd.prog.funcNamed "guipure/guipurelaw07.NfaSets" = some 3 by kernel_rfl).symm.trans hf) |>.symm
      obtain rfl : fn = Tryd.f3 := (Option.some.inj (Tryd.func3.symm.trans hfn)).symm
      exact ⟨by kernel_rfl, fun j t ht => by
        rw [Tryd.params3] at ht
        have hm : t ∈ [26, 27, 5] := by simpa using Array.mem_of_getElem? ht
        have hall : ([26, 27, 5].all fun u => !Tryd.prog.wantsStandIn u) = true := by kernel_rfl
        exact (show Tryd.prog.wantsStandIn t = false by simpa using List.all_eq_true.1 hall t hm)⟩)
    (by kernel_rfl)
end Go.Proofs.YtoiegkejkahfgaaDoor.nfaSetsLaw
