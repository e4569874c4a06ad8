/- What came in: names are no longer than the form's reach. -/
import Derived.Test.YtbhfkgaenahchaaSpRw
import Derived.SizedLaws
namespace Go.Proofs.Ytbhfkgaenahchaa
set_option linter.unusedSimpArgs false
set_option linter.unusedVariables false
open Go.RowKit

section
variable {H : Type} {enc : TypeId × Value → H} {W : World} {P : Program} {R : Nat}
theorem wt_part {t : TypeId} {fs : Array Field} {parts : List (DataW H)} (hu : P.underlying t = some (.struct fs)) (h : ∀ n ∈ (DataW.agg parts).weights P t, n ≤ R) {i : Nat} {f : Field} {d : DataW H} (hf : fs[i]? = some f) (hd : parts[i]? = some d) : ∀ n ∈ d.weights P f.type, n ≤ R := by
  intro n hn
  refine h n ?_
  simp only [DataW.weights, hu]
  exact DataW.weights_mem_each (j := i) (by simp [hf]) hd n hn
theorem wt_all {e : TypeId} : ∀ (l : List (DataW H)) (d : DataW H), d ∈ l → ∀ n ∈ d.weights P e, n ∈ DataW.weightsAll P e l
  | [], _, h, _, _ => by cases h
  | x :: r, d, h, n, hn => by
    simp only [DataW.weightsAll, List.mem_append]
    rcases List.mem_cons.1 h with rfl | h
    · exact .inl hn
    · exact .inr (wt_all r d h n hn)
theorem wt_elem {t e : TypeId} {elems spare : List (DataW H)} (hu : P.underlying t = some (.slice e)) (h : ∀ n ∈ (DataW.slice elems spare).weights P t, n ≤ R) {d : DataW H} (hd : d ∈ elems) : ∀ n ∈ d.weights P e, n ≤ R := by
  intro n hn
  refine h n ?_
  simp only [DataW.weights, hu, List.mem_cons, List.mem_append]
  exact .inr (.inl (wt_all _ _ hd n hn))
end
section
variable {H : Type} {enc : TypeId × Value → H} {W : World} {R : Nat}
theorem wt_list {T S : TypeId} (m : Nat) (hm0 : 0 < m) (hu : Try.prog.underlying S = some (.slice T)) (hc : Try.prog.cellsOf T = m) {Q : Nat → Prop} {fuel : Nat} {x : DataW H × List MemPlace} {s : SV} (h : DataW.trod enc Try.prog W 0 (fun _ => true) true fuel S [.slice s.A s.n s.c] = some x)
    (hw : ∀ n ∈ x.1.weights Try.prog S, n ≤ R) {xs : List Value} (hr : Rw W Q s xs) (hxl : xs.length = s.n * m) {i : Nat} (hi : i < s.n) :
    ∃ (fuel' : Nat) (y : DataW H × List MemPlace), DataW.trod enc Try.prog W 0 (fun _ => true) true fuel' T ((xs.drop (i * m)).take m) = some y ∧ ∀ n ∈ y.1.weights Try.prog T, n ≤ R := by
  rcases DataW.trod_slice hu h with ⟨e5, _⟩ | ⟨a, len, cap, elems, rest, n, _, e5, hx, _, hl, hcm, hel, hall, _⟩
  · simp only [List.cons.injEq, Value.slice.injEq, and_true] at e5
    omega
  · simp only [List.cons.injEq, Value.slice.injEq, and_true] at e5
    obtain ⟨ha, hn, _⟩ := e5
    have hi2 : i < len := by omega
    have h1 := hall i hi2
    rw [List.getElem?_eq_getElem (by omega), hc] at h1
    obtain ⟨cs', h2, h3⟩ := Option.bind_eq_some_iff.1 h1
    have hle : i * m + m ≤ xs.length := by rw [hxl, ← Nat.succ_mul]; exact Nat.mul_le_mul_right m hi
    obtain ⟨b, o, hA, _, _, hcell⟩ := hr.at (by omega)
    rw [ha] at hA
    injection hA with hA
    subst hA
    have hl2 := World.cells?_some h2
    have e : cs' = (xs.drop (i * m)).take m := by
      apply List.ext_getElem?
      intro j
      by_cases hj : j < m
      · have h4 := hl2.2.2 j hj
        rw [part_at rfl hj (cs := xs) (o := i * m) |>.symm, ← hcell (i * m + j) (by omega), ← h4, Addr.add_add, addr_add]
      · rw [List.getElem?_eq_none (by have := hl2.1; omega), List.getElem?_eq_none (by rw [List.length_take, List.length_drop]; omega)]
    rw [← e]
    refine ⟨_, _, h3, ?_⟩
    subst hx
    exact wt_elem hu hw (List.mem_map_of_mem (List.getElem_mem _))
set_option maxRecDepth 10000 in
/-- Of a specification that came in each field's name is of bounded length. -/
theorem names_short {v : Value} {d : DataW H} {p : List MemPlace} (h : DataW.Trod enc Try.prog W 0 (fun _ => true) true 25 v d p) {x : SpV} (hv : v = x.val) {Q : Nat → Prop} (hO : SpecOk W Q x) (hw : ∀ n ∈ d.weights Try.prog 25, n ≤ R) :
    ∀ y ∈ x.vs, ∀ f ∈ y.t.fs, f.nm.size ≤ R := by
  subst hv
  obtain ⟨fuel, h⟩ := h
  obtain ⟨xs, n, rfl, hx, hlen, hxl, hf⟩ := DataW.trod_struct Try.underlying25 h
  have hxl2 : xs.length = 2 := hxl
  have ca : Try.prog.cellsOf 22 = 1 := by kernel_rfl
  have cf : Try.prog.cellsOf 35 = 1 := by kernel_rfl
  have cs : Try.prog.cellsOf 9 = 1 := by kernel_rfl
  have f0 : DataW.trod enc Try.prog W 0 (fun _ => true) true n 22 ((x.val.cells.toList.drop 0).take (Try.prog.cellsOf 22)) = xs[0]? := hf 0 _ rfl
  rw [ca, List.getElem?_eq_getElem (by omega)] at f0
  have f0' : DataW.trod enc Try.prog W 0 (fun _ => true) true n 22 [.slice x.N.A x.N.n x.N.c] = some xs[0] := f0
  injection hx with hx _
  subst hx
  have w0 : ∀ n ∈ xs[0].1.weights Try.prog 22, n ≤ R := wt_part (i := 0) (d := xs[0].1) Try.underlying25 hw rfl (by rw [List.getElem?_map, List.getElem?_eq_getElem (by omega)]; rfl)
  intro y hy f hfm
  obtain ⟨i, hi, rfl⟩ := List.mem_iff_getElem.1 hy
  obtain ⟨q, hq, rfl⟩ := List.mem_iff_getElem.1 hfm
  have hok := hO.each _ hy
  obtain ⟨fuel2, z, h2, w2⟩ := wt_list 18 (by decide) Try.underlying22 (by kernel_rfl) f0' w0 hO.n (by rw [flatN_len, hO.nn]) (i := i) (by rw [hO.nn]; exact hi)
  have e2 : ((flatN x.vs).drop (i * 18)).take 18 = x.vs[i].cells := by
    apply List.ext_getElem?
    intro j
    by_cases hj : j < 18
    · rw [← part_at rfl hj]
      exact flat_get (f := NV.cells) (m := 18) (fun _ => rfl) x.vs i j hi hj
    · rw [List.getElem?_eq_none (by rw [List.length_take]; omega), List.getElem?_eq_none (by rw [NV.len]; omega)]
  rw [e2] at h2
  obtain ⟨zs, n2, rfl, hz, _, hzl, hg⟩ := DataW.trod_struct Try.underlying38 h2
  have hzl2 : zs.length = 16 := hzl
  have g0 : DataW.trod enc Try.prog W 0 (fun _ => true) true n2 35 ((x.vs[i].cells.drop 13).take (Try.prog.cellsOf 35)) = zs[11]? := hg 11 _ rfl
  rw [cf, List.getElem?_eq_getElem (by omega)] at g0
  have g0' : DataW.trod enc Try.prog W 0 (fun _ => true) true n2 35 [.slice x.vs[i].F.A x.vs[i].F.n x.vs[i].F.c] = some zs[11] := g0
  subst hz
  have w3 : ∀ n ∈ zs[11].1.weights Try.prog 35, n ≤ R := wt_part (i := 11) (d := zs[11].1) Try.underlying38 w2 rfl (by rw [List.getElem?_map, List.getElem?_eq_getElem (by omega)]; rfl)
  obtain ⟨fuel3, u, h3, w4⟩ := wt_list 5 (by decide) Try.underlying35 (by kernel_rfl) g0' w3 hok.f (by rw [flatF_len, hok.fn]) (i := q) (by rw [hok.fn]; exact hq)
  have e3 : ((flatF x.vs[i].t.fs).drop (q * 5)).take 5 = x.vs[i].t.fs[q].cells := by
    apply List.ext_getElem?
    intro j
    by_cases hj : j < 5
    · rw [← part_at rfl hj]
      exact flat_get (f := FT.cells) (m := 5) (fun _ => rfl) x.vs[i].t.fs q j hq hj
    · rw [List.getElem?_eq_none (by rw [List.length_take]; omega), List.getElem?_eq_none (by show 5 ≤ j; omega)]
  rw [e3] at h3
  obtain ⟨us, n3, rfl, hu, _, hul, hk⟩ := DataW.trod_struct Try.underlying53 h3
  have hul2 : us.length = 5 := hul
  have k0 : DataW.trod enc Try.prog W 0 (fun _ => true) true n3 9 ((x.vs[i].t.fs[q].cells.drop 0).take (Try.prog.cellsOf 9)) = us[0]? := hk 0 _ rfl
  rw [cs, List.getElem?_eq_getElem (by omega)] at k0
  have k0' : DataW.trod enc Try.prog W 0 (fun _ => true) true n3 9 [.string x.vs[i].t.fs[q].nm] = some us[0] := k0
  subst hu
  have w5 : ∀ n ∈ us[0].1.weights Try.prog 9, n ≤ R := wt_part (i := 0) (d := us[0].1) Try.underlying53 w4 rfl (by rw [List.getElem?_map, List.getElem?_eq_getElem (by omega)]; rfl)
  obtain ⟨s, e5, e6, _⟩ := DataW.trod_string Try.underlying9 k0'
  injection e5 with e5 _
  injection e5 with e5
  rw [e6] at w5
  have := w5 s.data.toList.length (by simp [DataW.weights])
  rw [e5]
  rw [Array.length_toList] at this
  exact this
end
end Go.Proofs.Ytbhfkgaenahchaa
