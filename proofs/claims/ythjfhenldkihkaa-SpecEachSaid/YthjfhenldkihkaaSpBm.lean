/- spec: what SpecBuilds' walk wants: codes by what is said, and a built specification that is stored into. -/
import Derived.Test.YthjfhenldkihkaaSpLa
import Derived.Test.YthjfhenldkihkaaSpSm
namespace Go.Proofs.Ythjfhenldkihkaa
set_option linter.unusedSimpArgs false
set_option linter.unusedVariables false
open Go.RowKit

def Shp (x : NV) : Prop := x.K.n = x.t.ks.length ∧ x.L.n = x.t.ls.length ∧ x.F.n = x.t.fs.length ∧ x.C.n = x.t.cs.length
theorem NodeOk.shp {w : World} {P : Nat → Prop} {x : NV} (h : NodeOk w P x) : Shp x := ⟨h.kn, h.ln, h.fn, h.cn⟩
theorem NodeOwn.shp {w : World} {base : Nat} {x : NV} (h : NodeOwn w base x) : Shp x := ⟨h.kn, h.ln, h.fn, h.cn⟩
theorem ckV_t {x y : NV} (ht : x.t = y.t) (hx : Shp x) (hy : Shp y) : ckV x = ckV y := by
  unfold Shp at hx hy
  obtain ⟨t, ⟨_, k, _⟩, ⟨_, l, _⟩, ⟨_, f, _⟩, ⟨_, s, _⟩⟩ := x
  obtain ⟨t', ⟨_, k', _⟩, ⟨_, l', _⟩, ⟨_, f', _⟩, ⟨_, s', _⟩⟩ := y
  simp only at ht hx hy
  subst ht
  obtain ⟨rfl, rfl, rfl, rfl⟩ := hx
  obtain ⟨rfl, rfl, rfl, rfl⟩ := hy
  rfl
theorem ckN_t : ∀ (vs us : List NV) (j : Nat) (l : List Bool), vs.map NV.t = us.map NV.t → (∀ v ∈ vs, Shp v) → (∀ v ∈ us, Shp v) → ckN j l vs = ckN j l us
  | [], [], _, _, _, _, _ => rfl
  | [], _ :: _, _, _, h, _, _ => by cases h
  | _ :: _, [], _, _, h, _, _ => by cases h
  | v :: vs, u :: us, j, l, h, hv, hu => by
    simp only [List.map_cons, List.cons.injEq] at h
    rw [ckN_at, ckN_at, ckV_t h.1 (hv v (by simp)) (hu u (by simp)), h.1]
    split
    · rfl
    · cases hsF j l u.t.parts with
      | error c => rfl
      | ok l' => exact ckN_t vs us (j + 1) l' h.2 (fun x hx => hv x (by simp [hx])) (fun x hx => hu x (by simp [hx]))
theorem ckS_t {vs us : List NV} (ds : List DT) (h : vs.map NV.t = us.map NV.t) (hv : ∀ v ∈ vs, Shp v) (hu : ∀ v ∈ us, Shp v) : ckS vs ds = ckS us ds := by
  have hl : vs.length = us.length := by simpa using congrArg List.length h
  unfold ckS
  rw [hl, ckN_t vs us 0 _ h hv hu]

/-- A specification in one's own memory that may be stored into: its rows are where they were; numbers are numbers, names are names, of bounded length. -/
structure Gd (W : World) (base : Nat) (s : SpV) (B : Nat) : Prop where
  n : ∀ i (h : i < s.vs.length), ∃ b o, s.N.A = some ⟨b, o, none⟩ ∧ W.cell? ⟨b, o + i * 18 + 11, none⟩ = some (.slice s.vs[i].K.A s.vs[i].K.n s.vs[i].K.c) ∧ W.cell? ⟨b, o + i * 18 + 13, none⟩ = some (.slice s.vs[i].F.A s.vs[i].F.n s.vs[i].F.c)
  k : ∀ v ∈ s.vs, ∀ q, q < v.K.n → ∃ b o z, v.K.A = some ⟨b, o, none⟩ ∧ base ≤ b ∧ W.cell? ⟨b, o + q, none⟩ = some (.int .i64 z) ∧ W.frozen? ⟨b, o + q, none⟩ = false
  f : ∀ v ∈ s.vs, ∀ q, q < v.F.n → ∃ b o nm, v.F.A = some ⟨b, o, none⟩ ∧ base ≤ b ∧ W.cell? ⟨b, o + q * 5, none⟩ = some (.string nm) ∧ W.frozen? ⟨b, o + q * 5, none⟩ = false ∧ nm.size ≤ B
theorem cell_kept {W : World} {p a : Addr} {x v : Value} (hp : W.cell? p = some x) (ha : W.cell? a = some v) (hne : x ≠ v) (u : Value) : (W.setCell p u).cell? a = some v := by
  rw [World.cell?_setCell_other _ _ _ _ (fun e => hne (by rw [e, ha] at hp; injection hp with hp; exact hp.symm))]
  exact ha
theorem Gd.setI {W : World} {base : Nat} {s : SpV} {B : Nat} (h : Gd W base s B) {p : Addr} {z z' : Int} (hp : W.cell? p = some (.int .i64 z)) : Gd (W.setCell p (.int .i64 z')) base s B := by
  refine ⟨fun i hi => ?_, fun v hv q hq => ?_, fun v hv q hq => ?_⟩
  · obtain ⟨b, o, h1, h2, h3⟩ := h.n i hi
    exact ⟨b, o, h1, cell_kept hp h2 (by simp) _, cell_kept hp h3 (by simp) _⟩
  · obtain ⟨b, o, y, h1, h2, h3, h4⟩ := h.k v hv q hq
    by_cases e : p = ⟨b, o + q, none⟩
    · exact ⟨b, o, z', h1, h2, by rw [e]; exact World.cell?_setCell_same _ _ _ h3, by rw [World.frozen?_setCell]; exact h4⟩
    · exact ⟨b, o, y, h1, h2, by rw [World.cell?_setCell_other _ _ _ _ e]; exact h3, by rw [World.frozen?_setCell]; exact h4⟩
  · obtain ⟨b, o, nm, h1, h2, h3, h4, h5⟩ := h.f v hv q hq
    exact ⟨b, o, nm, h1, h2, cell_kept hp h3 (by simp) _, by rw [World.frozen?_setCell]; exact h4, h5⟩
theorem Gd.setS {W : World} {base : Nat} {s : SpV} {B B' : Nat} (h : Gd W base s B) (hB : B ≤ B') {p : Addr} {z z' : ByteArray} (hp : W.cell? p = some (.string z)) (hz : z'.size ≤ B') : Gd (W.setCell p (.string z')) base s B' := by
  refine ⟨fun i hi => ?_, fun v hv q hq => ?_, fun v hv q hq => ?_⟩
  · obtain ⟨b, o, h1, h2, h3⟩ := h.n i hi
    exact ⟨b, o, h1, cell_kept hp h2 (by simp) _, cell_kept hp h3 (by simp) _⟩
  · obtain ⟨b, o, y, h1, h2, h3, h4⟩ := h.k v hv q hq
    exact ⟨b, o, y, h1, h2, cell_kept hp h3 (by simp) _, by rw [World.frozen?_setCell]; exact h4⟩
  · obtain ⟨b, o, nm, h1, h2, h3, h4, h5⟩ := h.f v hv q hq
    by_cases e : p = ⟨b, o + q * 5, none⟩
    · exact ⟨b, o, z', h1, h2, by rw [e]; exact World.cell?_setCell_same _ _ _ h3, by rw [World.frozen?_setCell]; exact h4, hz⟩
    · exact ⟨b, o, nm, h1, h2, by rw [World.cell?_setCell_other _ _ _ _ e]; exact h3, by rw [World.frozen?_setCell]; exact h4, Nat.le_trans h5 hB⟩
theorem own_free {w : World} {base : Nat} {T : TypeId} {s : SV} {xs : List Value} (h : OwnL w base T s xs) {b o : Nat} (hA : s.A = some ⟨b, o, none⟩) (i : Nat) : w.frozen? ⟨b, i, none⟩ = false := by
  rcases h with ⟨e, _⟩ | ⟨g, e, _, hB⟩
  · rw [e] at hA; cases hA
  · rw [e] at hA
    injection hA with hA
    injection hA with hA _ _
    subst hA
    exact Blk.free hB i
theorem Gd.of {W : World} {base : Nat} {s : SpV} {B : Nat} (h : SpecOwn W base s) (hB : ∀ v ∈ s.vs, ∀ f ∈ v.t.fs, f.nm.size ≤ B) : Gd W base s B := by
  have hk := SpecOwn.ok h
  refine ⟨fun i hi => ?_, fun v hv q hq => ?_, fun v hv q hq => ?_⟩
  · obtain ⟨b, o, hA, _, _, hc⟩ := hk.n.at (by rw [flatN_len]; omega)
    have hcell : ∀ j, j < 18 → W.cell? ⟨b, o + i * 18 + j, none⟩ = s.vs[i].cells[j]? := fun j hj => by
      rw [Nat.add_assoc, hc (i * 18 + j) (by rw [flatN_len]; omega)]
      exact flat_get (f := NV.cells) (m := 18) (fun _ => rfl) s.vs i j hi hj
    exact ⟨b, o, hA, hcell 11 (by decide), hcell 13 (by decide)⟩
  · have ho := h.each v hv
    have hl : q < v.t.ks.length := by rw [← ho.kn]; exact hq
    obtain ⟨b, o, hA, _, hP, hc⟩ := ho.k.rw_.at (by rw [intC_len]; omega)
    refine ⟨b, o, v.t.ks[q], hA, hP, ?_, own_free ho.k hA _⟩
    rw [hc q (by rw [intC_len]; exact hl)]
    simp [intC, List.getElem?_eq_getElem hl]
  · have ho := h.each v hv
    have hl : q < v.t.fs.length := by rw [← ho.fn]; exact hq
    obtain ⟨b, o, hA, _, hP, hc⟩ := ho.f.rw_.at (by rw [flatF_len]; omega)
    refine ⟨b, o, v.t.fs[q].nm, hA, hP, ?_, own_free ho.f hA _, hB v hv _ (List.getElem_mem _)⟩
    have := flat_get (f := FT.cells) (m := 5) (fun _ => rfl) v.t.fs q 0 hl (by decide)
    rw [hc (q * 5) (by rw [flatF_len]; omega)]
    exact this
end Go.Proofs.Ythjfhenldkihkaa
