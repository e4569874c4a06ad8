/- What a law is told of a slice of integers that came in, and what that gives. -/
import Derived.Test.YtimffgmbchpfeaaRows
import Derived.Test.YtimffgmbchpfeaaMem
import Derived.ProofKit
import Derived.OpenShut
import Derived.ShutString
import Derived.ChangeOld
import Derived.LaidMore
import Derived.Stop.Joined
import Derived.Test.YtimffgmbchpfeaaRx
namespace Go.Proofs.Ytimffgmbchpfeaa
open Go.ChangeShapes Go.WideShapes Go.ChangeAt Go.RowKit

theorem own : ownKnob Try.prog.godebug = none := by kernel_rfl
theorem laidOut : laidOutB Try.prog = true := by kernel_rfl

/-- The slice value 'a, len, cap' is nil, or leads to a row of 'cap' numbers zs of this kind. -/
def IsRow (k : IntKind) (w : World) (a : Option Addr) (len cap : Nat) (zs : List Int) : Prop :=
  (a = none ∧ len = 0 ∧ cap = 0 ∧ zs = []) ∨
  ∃ x, a = some x ∧ len ≤ cap ∧ cap ≤ maxLen ∧ zs.length = cap ∧ (∀ i, i < zs.length → w.cell? (x.add i) = some (.int k (zs.getD i 0))) ∧ ∀ n ∈ zs, (Lit.int k n).wf = true

theorem wf_u8_bounds {n : Int} (h : (Lit.int .u8 n).wf = true) : 0 ≤ n ∧ n ≤ 255 := bounds_u8 h
theorem wf_u64_bounds {n : Int} (h : (Lit.int .u64 n).wf = true) : 0 ≤ n ∧ n ≤ 18446744073709551615 := bounds_u64 h
theorem wf_i64_bounds {n : Int} (h : (Lit.int .i64 n).wf = true) : -9223372036854775808 ≤ n ∧ n ≤ 9223372036854775807 := bounds_i64 h

theorem IsRow.cap {k : IntKind} {w : World} {a : Option Addr} {len cap : Nat} {zs : List Int} (h : IsRow k w a len cap zs) : len ≤ cap ∧ cap ≤ 9223372036854775807 := by
  rcases h with ⟨_, rfl, rfl, _⟩ | ⟨_, _, h1, h2, _⟩
  · omega
  · exact ⟨h1, by simpa [maxLen] using h2⟩

/-- The bytes that it reads as. -/
theorem IsRow.bytes {w : World} {a : Option Addr} {len cap : Nat} {zs : List Int} (h : IsRow .u8 w a len cap zs) : ∃ l, RdB w a len l := by
  rcases h with ⟨rfl, rfl, rfl, rfl⟩ | ⟨x, rfl, hl, hm, hz, hc, hw⟩
  · exact ⟨[], RdB.nil_ _ _⟩
  · refine ⟨(zs.take len).map fun n => UInt8.ofNat n.toNat, by simp; omega, fun hn => ?_⟩
    obtain ⟨b, o, spot⟩ := x
    have h0 := hc 0 (by omega)
    have hs : spot = none := by simpa [Addr.add] using World.cell?_spot h0
    subst hs
    refine ⟨b, o, rfl, by simpa [Addr.add] using World.block_lt_of_cell? _ _ h0, fun j hj => ?_⟩
    have hj' : j < len := by simp at hj; omega
    have h1 := hc j (by omega)
    rw [addr_add] at h1
    rw [h1]
    have hb := wf_u8_bounds (hw _ (List.getElem_mem (show j < zs.length by omega)))
    have hg : zs.getD j 0 = zs[j]'(by omega) := by simp [List.getD, show j < zs.length by omega]
    rw [hg]
    simp only [List.getElem_map, List.getElem_take, UInt8.toNat_ofNat']
    congr 2
    omega

/-- The numbers of a slice, where they lie. -/
def RdI (k : IntKind) (w : World) (A : Option Addr) (n : Nat) (l : List Int) : Prop :=
  l.length = n ∧ (0 < n → ∃ b o, A = some ⟨b, o, none⟩ ∧ b < w.heap.size ∧ ∀ j (h : j < l.length), w.cell? ⟨b, o + j, none⟩ = some (.int k l[j]))

theorem IsRow.ints {k : IntKind} {w : World} {a : Option Addr} {len cap : Nat} {zs : List Int} (h : IsRow k w a len cap zs) : ∃ l, RdI k w a len l ∧ ∀ n ∈ l, (Lit.int k n).wf = true := by
  rcases h with ⟨rfl, rfl, rfl, rfl⟩ | ⟨x, rfl, hl, hm, hz, hc, hw⟩
  · exact ⟨[], ⟨rfl, fun h => absurd h (by omega)⟩, by simp⟩
  · refine ⟨zs.take len, ⟨by simp; omega, fun hn => ?_⟩, fun n hn => hw n (List.mem_of_mem_take hn)⟩
    obtain ⟨b, o, spot⟩ := x
    have h0 := hc 0 (by omega)
    have hs : spot = none := by simpa [Addr.add] using World.cell?_spot h0
    subst hs
    refine ⟨b, o, rfl, by simpa [Addr.add] using World.block_lt_of_cell? _ _ h0, fun j hj => ?_⟩
    have hj' : j < len := by simp at hj; omega
    have h1 := hc j (by omega)
    rw [addr_add] at h1
    rw [h1]
    have hg : zs.getD j 0 = zs[j]'(by omega) := by simp [List.getD, show j < zs.length by omega]
    rw [hg]
    simp

theorem RdI.chg {k : IntKind} {a b : World} {S : Nat → Prop} {A : Option Addr} {n : Nat} {l : List Int} (h : RdI k a A n l) (hc : Chg a b S) (hA : 0 < n → ∀ x, A = some x → ¬ S x.block) : RdI k b A n l := by
  refine ⟨h.1, fun hn => ?_⟩
  obtain ⟨g, o, e, hb, hcell⟩ := h.2 hn
  exact ⟨g, o, e, Nat.lt_of_lt_of_le hb hc.size, fun j hj => (World.cell?_of_block (w := a) (w' := b) (a := ⟨g, o + j, none⟩) (hc.block g hb (hA hn _ e))).trans (hcell j hj)⟩
theorem RdI.below {k : IntKind} {a b : World} {A : Option Addr} {n : Nat} {l : List Int} (h : RdI k a A n l) (hb : Below a.heap.size a b) : RdI k b A n l :=
  h.chg (Chg.of_below hb (fun _ => False)) (fun _ _ _ => id)
end Go.Proofs.Ytimffgmbchpfeaa

/- What came in, where a row lists a table: expressions. -/
namespace Go.Proofs.Ytimffgmbchpfeaa
open Go.ChangeShapes Go.WideShapes Go.ChangeAt Go.RowKit

theorem cell_of_part {l : List Value} {i : Nat} {c : Value} (h : (l.drop i).take 1 = [c]) : l[i]? = some c := by
  have := congrArg (·[0]?) h
  simpa using this
section
variable {H : Type} {enc : TypeId × Value → H} {W : World}
set_option maxRecDepth 10000 in
theorem open_words {cs : List Value} {fuel : Nat} {x : DataW H × List MemPlace} (h : DataW.trod enc Try.prog W 0 (fun _ => true) true fuel 23 cs = some x) :
    ∃ a : BS, cs = [.int .u64 ((wd a 0 : Nat) : Int), .int .u64 ((wd a 1 : Nat) : Int), .int .u64 ((wd a 2 : Nat) : Int), .int .u64 ((wd a 3 : Nat) : Int)] := by
  obtain ⟨xs, m, rfl, hx, hlen, hn, hel⟩ := DataW.trod_array Try.underlying23 h
  have c4 : Try.prog.cellsOf 23 = 4 := by kernel_rfl
  have c1 : Try.prog.cellsOf 22 = 1 := by kernel_rfl
  rw [c4] at hlen
  have hc : ∀ i, i < 4 → ∃ n : Nat, n < 18446744073709551616 ∧ cs[i]? = some (.int .u64 (n : Int)) := by
    intro i hi
    have h1 := hel i hi
    rw [c1, Nat.mul_one, List.getElem?_eq_getElem (by omega)] at h1
    obtain ⟨n, e1, _, hw⟩ := DataW.trod_int Try.underlying22 h1
    have hb := bounds_u64 hw
    exact ⟨n.toNat, by omega, by rw [cell_of_part e1, show ((n.toNat : Nat) : Int) = n by omega]⟩
  obtain ⟨n0, l0, e0⟩ := hc 0 (by decide)
  obtain ⟨n1, l1, e1⟩ := hc 1 (by decide)
  obtain ⟨n2, l2, e2⟩ := hc 2 (by decide)
  obtain ⟨n3, l3, e3⟩ := hc 3 (by decide)
  obtain ⟨a, ha⟩ := of_words (fun i => if i = 0 then n0 else if i = 1 then n1 else if i = 2 then n2 else n3) (fun i => by
    show (if i = 0 then n0 else if i = 1 then n1 else if i = 2 then n2 else n3) < _
    split
    · exact l0
    · split
      · exact l1
      · split
        · exact l2
        · exact l3)
  have h0 : wd a 0 = n0 := ha 0 (by decide)
  have h1 : wd a 1 = n1 := ha 1 (by decide)
  have h2 : wd a 2 = n2 := ha 2 (by decide)
  have h3 : wd a 3 = n3 := ha 3 (by decide)
  refine ⟨a, ?_⟩
  rw [h0, h1, h2, h3]
  have hc4 : ∃ p q r t, cs = [p, q, r, t] := by
    match cs, hlen with
    | [p, q, r, t], _ => exact ⟨p, q, r, t, rfl⟩
  obtain ⟨p, q, r, t, rfl⟩ := hc4
  rw [Option.some.inj (show some p = _ from e0), Option.some.inj (show some q = _ from e1), Option.some.inj (show some r = _ from e2), Option.some.inj (show some t = _ from e3)]
set_option maxRecDepth 10000 in
/-- An expression that came in. -/
theorem open_rx_fuel : ∀ (fuel : Nat) (cs : List Value) (x : DataW H × List MemPlace), DataW.trod enc Try.prog W 0 (fun _ => true) true fuel 26 cs = some x → ∃ (v : RV) (t : RT), cs = v.cells ∧ Rep W (· < W.heap.size) v t := by
  intro fuel
  induction fuel using Nat.strongRecOn with
  | _ fuel ih =>
    intro cs x h
    obtain ⟨xs, n, rfl, hx, hlen, hxl, hf⟩ := DataW.trod_struct Try.underlying26 h
    have c8 : Try.prog.cellsOf 26 = 8 := by kernel_rfl
    have c4 : Try.prog.cellsOf 23 = 4 := by kernel_rfl
    have c1 : Try.prog.cellsOf 3 = 1 := by kernel_rfl
    have cs1 : Try.prog.cellsOf 24 = 1 := by kernel_rfl
    rw [c8] at hlen
    have hxl5 : xs.length = 5 := hxl
    have f0 : DataW.trod enc Try.prog W 0 (fun _ => true) true n 3 ((cs.drop 0).take (Try.prog.cellsOf 3)) = xs[0]? := hf 0 _ rfl
    rw [c1] at f0
    have f1 : DataW.trod enc Try.prog W 0 (fun _ => true) true n 23 ((cs.drop 1).take (Try.prog.cellsOf 23)) = xs[1]? := hf 1 _ rfl
    rw [c4] at f1
    have f2 : DataW.trod enc Try.prog W 0 (fun _ => true) true n 24 ((cs.drop 5).take (Try.prog.cellsOf 24)) = xs[2]? := hf 2 _ rfl
    rw [cs1] at f2
    have f3 : DataW.trod enc Try.prog W 0 (fun _ => true) true n 3 ((cs.drop 6).take (Try.prog.cellsOf 3)) = xs[3]? := hf 3 _ rfl
    rw [c1] at f3
    have f4 : DataW.trod enc Try.prog W 0 (fun _ => true) true n 3 ((cs.drop 7).take (Try.prog.cellsOf 3)) = xs[4]? := hf 4 _ rfl
    rw [c1] at f4
    rw [List.getElem?_eq_getElem (by omega)] at f0 f1 f2 f3 f4
    obtain ⟨k, e0, _, _⟩ := DataW.trod_int Try.underlying3 f0
    obtain ⟨s, e1⟩ := open_words f1
    obtain ⟨lo, e3, _, _⟩ := DataW.trod_int Try.underlying3 f3
    obtain ⟨hi, e4, _, _⟩ := DataW.trod_int Try.underlying3 f4
    have hcs : ∀ sl, (cs.drop 5).take 1 = [sl] → cs = [.int .i64 k, .int .u64 ((wd s 0 : Nat) : Int), .int .u64 ((wd s 1 : Nat) : Int), .int .u64 ((wd s 2 : Nat) : Int), .int .u64 ((wd s 3 : Nat) : Int), sl, .int .i64 lo, .int .i64 hi] := by
      intro sl e5
      match cs, hlen with
      | [q0, q1, q2, q3, q4, q5, q6, q7], _ =>
        simp at e0 e1 e3 e4 e5
        obtain ⟨rfl, rfl, rfl, rfl⟩ := e1
        subst e0 e3 e4 e5
        rfl
    rcases DataW.trod_slice Try.underlying24 f2 with ⟨e5, _⟩ | ⟨a, len, cap, elems, rest, m, hm, e5, _, _, hl, hcm, hel, hall, _⟩
    · exact ⟨⟨k, s, none, 0, 0, lo, hi⟩, .nd k s [] lo hi, hcs _ e5, Rep.leaf _ _ _ _ _ _ _ _⟩
    · have hx2 : ∀ i, ∃ (p : RV × RT), i < len → Rep W (· < W.heap.size) p.1 p.2 ∧ ∀ j, j < 8 → W.cell? (a.add (i * 8 + j)) = p.1.cells[j]? := by
        intro i
        by_cases hi : i < len
        · have h1 := hall i hi
          rw [List.getElem?_eq_getElem (by omega), c8] at h1
          obtain ⟨cs', h2, h3⟩ := Option.bind_eq_some_iff.1 h1
          obtain ⟨v, t, rfl, hr⟩ := ih m (by omega) _ _ h3
          refine ⟨(v, t), fun _ => ⟨hr, fun j hj => ?_⟩⟩
          have h4 := (World.cells?_some h2).2.2 j hj
          have ha : (a.add (i * 8)).add j = a.add (i * 8 + j) := Addr.add_add _ _ _
          rw [← ha, h4]
        · exact ⟨(RV.zero, .nd 0 (0#256) [] 0 0), fun h => absurd h hi⟩
      have hx3 : ∃ f : Nat → RV × RT, ∀ i, i < len → Rep W (· < W.heap.size) (f i).1 (f i).2 ∧ ∀ j, j < 8 → W.cell? (a.add (i * 8 + j)) = (f i).1.cells[j]? := ⟨fun i => (hx2 i).choose, fun i => (hx2 i).choose_spec⟩
      obtain ⟨f, hf2⟩ := hx3
      refine ⟨⟨k, s, some a, len, cap, lo, hi⟩, .nd k s ((List.range len).map fun i => (f i).2) lo hi, hcs _ e5, ?_⟩
      refine .mk ⟨k, s, some a, len, cap, lo, hi⟩ _ (fun i => (f i).1) (by simp) (fun h0 => ?_) (fun j hj => ?_)
      · obtain ⟨b, o, spot⟩ := a
        have h0 : 0 < len := h0
        have h1 := (hf2 0 h0).2 0 (by decide)
        have hc0 : (f 0).1.cells[0]? = some (.int .i64 (f 0).1.k) := rfl
        rw [hc0] at h1
        have hs : spot = none := by simpa [Addr.add] using World.cell?_spot h1
        subst hs
        have hbl : b < W.heap.size := by simpa [Addr.add] using World.block_lt_of_cell? _ _ h1
        refine ⟨b, o, rfl, hbl, hbl, fun j hj i hi => ?_⟩
        have h2 := (hf2 j hj).2 i (by rw [RV.len] at hi; exact hi)
        rw [addr_add] at h2
        rw [Nat.add_assoc, h2, List.getElem?_eq_getElem hi]
      · have hj' : j < len := by simpa using hj
        have := (hf2 j hj').1
        simpa using this
theorem open_rx {v : Value} {d : DataW H} {p : List MemPlace} (h : DataW.Trod enc Try.prog W 0 (fun _ => true) true 26 v d p) : ∃ (x : RV) (t : RT), v = x.val ∧ Rep W (· < W.heap.size) x t := by
  obtain ⟨fuel, h⟩ := h
  obtain ⟨x, t, e, hr⟩ := open_rx_fuel fuel _ _ h
  refine ⟨x, t, ?_, hr⟩
  have hl := congrArg List.length e
  rw [RV.len] at hl
  clear h
  cases v with
  | agg cs =>
    obtain ⟨l⟩ := cs
    have e : l = x.cells := e
    rw [e]
    rfl
  | _ => simp [Value.cells] at hl
end
end Go.Proofs.Ytimffgmbchpfeaa
