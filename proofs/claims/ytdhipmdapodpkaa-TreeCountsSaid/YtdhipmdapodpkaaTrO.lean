/- tree: a tree that came in. -/
import Derived.Test.YtdhipmdapodpkaaTrB
import Derived.Test.YtdhipmdapodpkaaRow
import Derived.ChangeArms
import Derived.DataReads
namespace Go.Proofs.Ytdhipmdapodpkaa
set_option linter.unusedSimpArgs false
set_option linter.unusedVariables false
open Go.ChangeShapes Go.WideShapes Go.ChangeAt Go.RowKit

theorem part_at {cs vs : List Value} {o m : Nat} (h : (cs.drop o).take m = vs) {i : Nat} (hi : i < m) : cs[o + i]? = vs[i]? := by
  rw [← h, List.getElem?_take_of_lt hi, List.getElem?_drop]
theorem flat_one {α : Type} (g : α → Value) (l : List α) : l.flatMap (fun x => [g x]) = l.map g := by
  induction l with
  | nil => rfl
  | cons x l ih => rw [List.flatMap_cons, ih]; rfl
instance : Inhabited TV := ⟨TV.zero⟩
instance : Inhabited TT := ⟨TT.zero⟩
section
variable {H : Type} {enc : TypeId × Value → H} {W : World}
theorem open_listF {α : Type} [Inhabited α] (f : α → List Value) (m : Nat) (hm0 : 0 < m) (hfl : ∀ x, (f x).length = m) (Q : α → Prop) {T S : TypeId} {fuel : Nat} (hu : Try.prog.underlying S = some (.slice T)) (hc : Try.prog.cellsOf T = m)
    (hopen : ∀ fu, fu < fuel → ∀ cs x, DataW.trod enc Try.prog W 0 (fun _ => true) true fu T cs = some x → ∃ y, cs = f y ∧ Q y) {cs : List Value} {x : DataW H × List MemPlace}
    (h : DataW.trod enc Try.prog W 0 (fun _ => true) true fuel S cs = some x) : ∃ (s : SV) (l : List α), cs = [.slice s.A s.n s.c] ∧ s.n = l.length ∧ Rw W (· < W.heap.size) s (l.flatMap f) ∧ (∀ y ∈ l, Q y) := by
  rcases DataW.trod_slice hu h with ⟨e5, _⟩ | ⟨a, len, cap, elems, rest, n, hn, e5, _, _, hl, hcm, hel, hall, _⟩
  · exact ⟨SV.nil, [], e5, rfl, Rw.nil _ _ _, (fun y hy => by simp at hy)⟩
  · have hx2 : ∀ i, ∃ y : α, i < len → Q y ∧ ∀ j, j < m → W.cell? (a.add (i * m + j)) = (f y)[j]? := by
      intro i
      by_cases hi : i < len
      · have h1 := hall i hi
        rw [List.getElem?_eq_getElem (by omega), hc] at h1
        obtain ⟨cs', h2, h3⟩ := Option.bind_eq_some_iff.1 h1
        obtain ⟨y, rfl, hq⟩ := hopen _ (by omega) _ _ h3
        refine ⟨y, fun _ => ⟨hq, fun j hj => ?_⟩⟩
        have h4 := (World.cells?_some h2).2.2 j hj
        have ha : (a.add (i * m)).add j = a.add (i * m + j) := Addr.add_add _ _ _
        rw [← ha, h4]
      · exact ⟨default, fun h => absurd h hi⟩
    have hx3 : ∃ g : Nat → α, ∀ i, i < len → Q (g i) ∧ ∀ j, j < m → W.cell? (a.add (i * m + j)) = (f (g i))[j]? := ⟨fun i => (hx2 i).choose, fun i => (hx2 i).choose_spec⟩
    obtain ⟨g, hg⟩ := hx3
    refine ⟨⟨some a, len, cap⟩, (List.range len).map g, e5, by simp, ⟨(fun e => by cases e), fun h0 => ?_⟩, (fun y hy => ?_)⟩
    · rw [flat_len hfl, List.length_map, List.length_range] at h0
      have hl0 : 0 < len := Nat.pos_of_mul_pos_right h0
      obtain ⟨b, o, spot⟩ := a
      have h1 := (hg 0 hl0).2 0 hm0
      rw [List.getElem?_eq_getElem (by rw [hfl]; exact hm0)] at h1
      have hs : spot = none := by simpa [Addr.add] using World.cell?_spot h1
      subst hs
      have hbl : b < W.heap.size := by simpa [Addr.add] using World.block_lt_of_cell? _ _ h1
      refine ⟨b, o, rfl, hbl, hbl, fun j hj => ?_⟩
      have hj2 := hj
      rw [flat_len hfl, List.length_map, List.length_range] at hj2
      have hq : j / m < len := Nat.div_lt_of_lt_mul (by rw [Nat.mul_comm]; exact hj2)
      have hr : j % m < m := Nat.mod_lt _ hm0
      have e : j / m * m + j % m = j := Nat.div_add_mod' j m
      have h2 := (hg _ hq).2 _ hr
      rw [addr_add, e] at h2
      rw [h2, ← List.getElem?_eq_getElem hj]
      have h3 := flat_get hfl ((List.range len).map g) (j / m) (j % m) (by simpa using hq) hr
      rw [e] at h3
      rw [h3]
      simp
    · obtain ⟨i, hi, rfl⟩ := List.mem_map.1 hy
      exact (hg i (List.mem_range.1 hi)).1
set_option maxRecDepth 10000 in
theorem open_tree_fuel : ∀ (fuel : Nat) (cs : List Value) (x : DataW H × List MemPlace), DataW.trod enc Try.prog W 0 (fun _ => true) true fuel 26 cs = some x → ∃ (p : TV × TT), cs = p.1.cells ∧ Rep W (· < W.heap.size) p.1 p.2 := by
  intro fuel
  induction fuel using Nat.strongRecOn with
  | _ fuel ih =>
    intro cs x h
    obtain ⟨xs, n, rfl, hx, hlen, hxl, hf⟩ := DataW.trod_struct Try.underlying26 h
    have c4 : Try.prog.cellsOf 26 = 4 := by kernel_rfl
    have cu : Try.prog.cellsOf 22 = 1 := by kernel_rfl
    have cb : Try.prog.cellsOf 4 = 1 := by kernel_rfl
    have c8 : Try.prog.cellsOf 5 = 1 := by kernel_rfl
    have cd : Try.prog.cellsOf 23 = 1 := by kernel_rfl
    have ck : Try.prog.cellsOf 24 = 1 := by kernel_rfl
    rw [c4] at hlen
    have hxl4 : xs.length = 4 := hxl
    have f0 : DataW.trod enc Try.prog W 0 (fun _ => true) true n 22 ((cs.drop 0).take (Try.prog.cellsOf 22)) = xs[0]? := hf 0 _ rfl
    have f1 : DataW.trod enc Try.prog W 0 (fun _ => true) true n 4 ((cs.drop 1).take (Try.prog.cellsOf 4)) = xs[1]? := hf 1 _ rfl
    have f2 : DataW.trod enc Try.prog W 0 (fun _ => true) true n 23 ((cs.drop 2).take (Try.prog.cellsOf 23)) = xs[2]? := hf 2 _ rfl
    have f3 : DataW.trod enc Try.prog W 0 (fun _ => true) true n 24 ((cs.drop 3).take (Try.prog.cellsOf 24)) = xs[3]? := hf 3 _ rfl
    rw [cu, List.getElem?_eq_getElem (by omega)] at f0
    rw [cb, List.getElem?_eq_getElem (by omega)] at f1
    rw [cd, List.getElem?_eq_getElem (by omega)] at f2
    rw [ck, List.getElem?_eq_getElem (by omega)] at f3
    obtain ⟨num, e0, _, w0⟩ := DataW.trod_int Try.underlying22 f0
    have b0 := bounds_u64 w0
    rw [show num = ((num.toNat : Nat) : Int) by omega] at e0
    obtain ⟨bl, e1, _⟩ := DataW.trod_bool Try.underlying4 f1
    obtain ⟨D, d, e2, dn, dr, _⟩ := open_listF (fun c : UInt8 => [isB c]) 1 (by decide) (fun _ => rfl) (fun _ => True) Try.underlying23 c8 (fun fu _ cs x h => by
      obtain ⟨y, e, _, wy⟩ := DataW.trod_int Try.underlying5 h
      have hb := wf_u8_bounds wy
      refine ⟨UInt8.ofNat y.toNat, ?_, trivial⟩
      rw [e]
      simp only [isB, UInt8.toNat_ofNat']
      congr 2
      omega) f2
    obtain ⟨K, l, e3, kn, kr, kq⟩ := open_listF (fun p : TV × TT => p.1.cells) 4 (by decide) (fun _ => rfl) (fun p => Rep W (· < W.heap.size) p.1 p.2) Try.underlying24 c4 (fun fu hfu cs x h => ih fu (by omega) cs x h) f3
    rw [flat_one] at dr
    refine ⟨(⟨num.toNat, bl, D, K⟩, .nd num.toNat bl d (l.map Prod.snd)), ?_, .mk ⟨num.toNat, bl, D, K⟩ d (l.map Prod.snd) (l.map Prod.fst) (by show num.toNat < _; omega) dn dr (by rw [List.length_map]; exact kn) (by simp) ?_ (fun j h1 h2 => ?_)⟩
    · apply List.ext_getElem?
      intro i
      by_cases hi : i < 4
      · obtain rfl | rfl | rfl | rfl : i = 0 ∨ i = 1 ∨ i = 2 ∨ i = 3 := by omega
        · exact part_at e0 (i := 0) (by decide)
        · exact part_at e1 (i := 0) (by decide)
        · exact part_at e2 (i := 0) (by decide)
        · exact part_at e3 (i := 0) (by decide)
      · rw [List.getElem?_eq_none (by omega), List.getElem?_eq_none (by show 4 ≤ i; omega)]
    · have e : flatV (l.map Prod.fst) = l.flatMap (fun p => p.1.cells) := by
        unfold flatV
        rw [List.flatMap_map]
      rw [e]
      exact kr
    · rw [List.getElem_map, List.getElem_map]
      exact kq _ (List.getElem_mem _)
/-- A tree that came in. -/
theorem open_tree {v : Value} {d : DataW H} {p : List MemPlace} (h : DataW.Trod enc Try.prog W 0 (fun _ => true) true 26 v d p) : ∃ (x : TV) (t : TT), v = x.val ∧ Rep W (· < W.heap.size) x t := by
  obtain ⟨fuel, h⟩ := h
  obtain ⟨⟨x, t⟩, e, hr⟩ := open_tree_fuel fuel _ _ h
  refine ⟨x, t, ?_, hr⟩
  have hl := congrArg List.length e
  rw [TV.len] at hl
  clear h
  cases v with
  | agg cs =>
    obtain ⟨l⟩ := cs
    have e : l = x.cells := e
    rw [e]
    rfl
  | _ => simp [Value.cells] at hl
end
end Go.Proofs.Ytdhipmdapodpkaa
