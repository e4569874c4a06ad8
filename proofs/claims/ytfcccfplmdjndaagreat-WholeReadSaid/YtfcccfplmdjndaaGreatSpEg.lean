/- spec: codes by what is said. -/
import Derived.Test.YtfcccfplmdjndaaGreatSpSa
import Derived.Test.YtfcccfplmdjndaaGreatSpX
import Derived.Test.YtfcccfplmdjndaaGreatSpCh
import Derived.Test.YtfcccfplmdjndaaGreatSpHa
namespace Go.Proofs.YtfcccfplmdjndaaGreat
set_option linter.unusedSimpArgs false
set_option linter.unusedVariables false
open Go.RowKit

def Shp (x : NV) : Prop := x.K.n = x.t.ks.length ∧ x.L.n = x.t.ls.length ∧ x.F.n = x.t.fs.length ∧ x.C.n = x.t.cs.length
theorem NodeOk.shp {w : World} {P : Nat → Prop} {x : NV} (h : NodeOk w P x) : Shp x := ⟨h.kn, h.ln, h.fn, h.cn⟩
theorem NodeOwn.shp {w : World} {base : Nat} {x : NV} (h : NodeOwn w base x) : Shp x := ⟨h.kn, h.ln, h.fn, h.cn⟩
theorem ckV_t {x y : NV} (ht : x.t = y.t) (hx : Shp x) (hy : Shp y) : ckV x = ckV y := by
 unfold Shp at hx hy
 obtain ⟨t, ⟨_, k, _⟩, ⟨_, l, _⟩, ⟨_, f, _⟩, ⟨_, s, _⟩⟩ := x
 obtain ⟨t', ⟨_, k', _⟩, ⟨_, l', _⟩, ⟨_, f', _⟩, ⟨_, s', _⟩⟩ := y
 simp only at ht hx hy
 subst ht
 obtain ⟨rfl, rfl, rfl, rfl⟩ := hx
 obtain ⟨rfl, rfl, rfl, rfl⟩ := hy
 rfl
theorem ckN_t : ∀ (vs us : List NV) (j : Nat) (l : List Bool), vs.map NV.t = us.map NV.t → (∀ v ∈ vs, Shp v) → (∀ v ∈ us, Shp v) → ckN j l vs = ckN j l us
 | [], [], _, _, _, _, _ => rfl
 | [], _ :: _, _, _, h, _, _ => by cases h
 | _ :: _, [], _, _, h, _, _ => by cases h
 | v :: vs, u :: us, j, l, h, hv, hu => by
  simp only [List.map_cons, List.cons.injEq] at h
  rw [ckN_at, ckN_at, ckV_t h.1 (hv v (by simp)) (hu u (by simp)), h.1]
  split
  ·rfl
  ·cases hsF j l u.t.parts with
   | error c => rfl
   | ok l' => exact ckN_t vs us (j + 1) l' h.2 (fun x hx => hv x (by simp [hx])) (fun x hx => hu x (by simp [hx]))
theorem ckS_t {vs us : List NV} (ds : List DT) (h : vs.map NV.t = us.map NV.t) (hv : ∀ v ∈ vs, Shp v) (hu : ∀ v ∈ us, Shp v) : ckS vs ds = ckS us ds := by
 have hl : vs.length = us.length := by simpa using congrArg List.length h
 unfold ckS
 rw [hl, ckN_t vs us 0 _ h hv hu]

end Go.Proofs.YtfcccfplmdjndaaGreat

/- spec: Each: what is visited, and the closure that is handed in. -/
namespace Go.Proofs.YtfcccfplmdjndaaGreat
set_option linter.unusedSimpArgs false
set_option linter.unusedVariables false
open Go.RowKit

/-- What a walk over a list of types visits: whether it was all, and all that has been visited. -/
def vis (ret : List Int → Bool) : List Nat → List Int → Bool × List Int
 | [], sg => (true, sg)
 | i :: l, sg => if ret (sg ++ [(i : Int)]) = true then vis ret l (sg ++ [(i : Int)]) else (false, sg ++ [(i : Int)])
theorem vis_app (ret : List Int → Bool) : ∀ (l m : List Nat) (sg : List Int), vis ret (l ++ m) sg = if (vis ret l sg).1 = true then vis ret m (vis ret l sg).2 else vis ret l sg
 | [], m, sg => by simp [vis]
 | i :: l, m, sg => by
  simp only [List.cons_append, vis]
  split
  ·exact vis_app ret l m _
  ·simp
theorem vis_len (ret : List Int → Bool) : ∀ (l : List Nat) (sg : List Int), (vis ret l sg).2.length ≤ sg.length + l.length
 | [], sg => by simp [vis]
 | i :: l, sg => by
  simp only [vis]
  split
  ·have := vis_len ret l (sg ++ [(i : Int)])
   simp only [List.length_append, List.length_cons, List.length_nil] at this ⊢
   omega
  ·simp only [List.length_append, List.length_cons, List.length_nil]; omega

/-- A closure's own memory: the box cb, and what it owns. -/
def Own (cb : Nat) (W : World) (k : Nat) : Prop := k = cb ∨ ∃ v, W.cell? ⟨cb, 0, none⟩ = some v ∧ v.ownBlock = some k
theorem own_same {cb : Nat} {W W' : World} (h : W'.heap[cb]? = W.heap[cb]?) (k : Nat) : Own cb W' k ↔ Own cb W k := by
 unfold Own
 rw [World.cell?_of_block (w := W) (w' := W') (a := ⟨cb, 0, none⟩) h]
/-- Nothing but the closure's own memory, and met, changes. -/
structure Ev (cb gm : Nat) (w w' : World) : Prop where
 chg : Chg w w' (fun k => k = gm ∨ Own cb w k)
 old : ∀ k, k < w.heap.size → ¬ Own cb w k → ¬ Own cb w' k
theorem Ev.trans {cb gm : Nat} {a b c : World} (h : Ev cb gm a b) (k : Ev cb gm b c) : Ev cb gm a c := by
 refine ⟨⟨k.chg.os.trans h.chg.os, k.chg.tape.trans h.chg.tape, k.chg.output.trans h.chg.output, Nat.le_trans h.chg.size k.chg.size, fun j hj hn => ?_⟩, fun j hj hn => k.old j (Nat.lt_of_lt_of_le hj h.chg.size) (h.old j hj hn)⟩
 have h1 : ¬ Own cb a j := fun e => hn (.inr e)
 rw [k.chg.block j (Nat.lt_of_lt_of_le hj h.chg.size) (fun e => e.elim (fun e => hn (.inl e)) (h.old j hj h1)), h.chg.block j hj hn]
theorem Ev.of_below {cb gm : Nat} {w w' : World} (hc : cb < w.heap.size) (h : Below w.heap.size w w') : Ev cb gm w w' :=
 ⟨Chg.of_below h _, fun k _ hn e => hn ((own_same (h.block cb hc) k).1 e)⟩
theorem Ev.set {cb gm : Nat} (w : World) (hne : gm ≠ cb) (x : Nat) (u : Value) : Ev cb gm w (w.setCell ⟨gm, x, none⟩ u) :=
 ⟨(Chg.refl w _).set gm x (.inl rfl) u, fun k _ hn e => hn ((own_same (Below.heap_setCell w ⟨gm, x, none⟩ u cb (fun e => hne e.symm)) k).1 e)⟩
/-- A function value that is handed types one by one: what it answers by all that it has been handed. -/
structure Yields (F : Nat) (caps : Array Value) (cb : Nat) (ret : List Int → Bool) (Y : List Int → World → Prop) : Prop where
 ent : ∀ args w, (callFunc F args).run Tryz.prog w = .ok (.enter F args) w
 call : ∀ (sg : List Int) (i : Nat) W, Y sg W → sg.length < 4096 → Calls Tryz.prog F (#[.int .i64 (i : Int)] ++ caps) W fun e W' => e = .returned (.bool (ret (sg ++ [(i : Int)]))) ∧ Y (sg ++ [(i : Int)]) W' ∧ Chg W W' (Own cb W) ∧ ∀ k, k < W.heap.size → ¬ Own cb W k → ¬ Own cb W' k
 keep : ∀ sg W W' (S : Nat → Prop), Y sg W → Chg W W' S → (∀ k, S k → ¬ Own cb W k ∧ ∃ cs, Blk W k 4 cs) → Y sg W'
 lt : ∀ sg W, Y sg W → cb < W.heap.size
 ob : ∀ sg W k, Y sg W → Own cb W k → k < W.heap.size
/-- The memory of a call of Each. -/
structure EaS (s : SpV) (base gs gb gm gy gh F cb : Nat) (caps : Array Value) (Y : List Int → World → Prop) (S : List Nat) (sg : List Int) (W : World) : Prop where
 bs : Blk W gs 32 [.slice s.N.A s.N.n s.N.c, .slice s.D.A s.D.n s.D.c]
 bb : Blk W gb 50 [.slice (some ⟨gm, 0, none⟩) s.vs.length s.vs.length]
 me : Blk W gm 4 (boolC (markL s.vs.length S))
 yb : Blk W gy 45 [.func (.func F) #[] caps]
 hb : Blk W gh 45 [.func (.func 32) #[] #[.pointer (some ⟨gs, 0, none⟩), .pointer (some ⟨gb, 0, none⟩), .pointer (some ⟨gy, 0, none⟩), .pointer (some ⟨gh, 0, none⟩)]]
 ok : SpecOk W (· < base) s
 y : Y sg W
 no : ¬ Own cb W gs ∧ ¬ Own cb W gb ∧ ¬ Own cb W gm ∧ ¬ Own cb W gy ∧ ¬ Own cb W gh
 nP : ∀ b, b < base → ¬ Own cb W b
 bl : base ≤ gs ∧ base ≤ gm
theorem blk_ne {W : World} {g g' : Nat} {T U : TypeId} {cs ds : List Value} (h : Blk W g T cs) (k : Blk W g' U ds) (hT : T ≠ U) : g ≠ g' := fun e => by
 subst e
 exact hT (blk_type h k)
section
variable {s : SpV} {base gs gb gm gy gh F cb : Nat} {caps : Array Value} {ret : List Int → Bool} {Y : List Int → World → Prop} {S : List Nat} {sg : List Int} {W W' : World}
theorem EaS.keep (h : EaS s base gs gb gm gy gh F cb caps Y S sg W) (HY : Yields F caps cb ret Y) (hb : Below W.heap.size W W') : EaS s base gs gb gm gy gh F cb caps Y S sg W' := by
 have hc := HY.lt _ _ h.y
 have ho := own_same (hb.block cb hc)
 exact ⟨h.bs.keep hb, h.bb.keep hb, h.me.keep hb, h.yb.keep hb, h.hb.keep hb, h.ok.keep hb, HY.keep _ _ _ (fun _ => False) h.y (Chg.of_below hb _) (fun _ e => e.elim), by simpa only [ho] using h.no, fun b hl => by rw [ho]; exact h.nP b hl, h.bl⟩
theorem EaS.mark (h : EaS s base gs gb gm gy gh F cb caps Y S sg W) (HY : Yields F caps cb ret Y) (x : Nat) : EaS s base gs gb gm gy gh F cb caps Y (S ++ [x]) sg (W.setCell ⟨gm, x, none⟩ (.bool true)) := by
 have hc : Chg W (W.setCell ⟨gm, x, none⟩ (.bool true)) (· = gm) := (Chg.refl W (· = gm)).set gm x rfl _
 have hgc : gm ≠ cb := fun e => h.no.2.2.1 (.inl e)
 have ho := own_same (W' := W.setCell ⟨gm, x, none⟩ (.bool true)) (Below.heap_setCell W ⟨gm, x, none⟩ (.bool true) cb (fun e => hgc e.symm))
 refine ⟨h.bs.chg hc (blk_ne h.bs h.me (by decide)), h.bb.chg hc (blk_ne h.bb h.me (by decide)), ?_, h.yb.chg hc (blk_ne h.yb h.me (by decide)), h.hb.chg hc (blk_ne h.hb h.me (by decide)), h.ok.mono (fun b hl hlt => hc.block b hlt (fun e => by have := h.bl.2; omega)) hc.size (fun _ hp _ => hp), HY.keep _ _ _ _ h.y hc (fun k e => by rw [e]; exact ⟨h.no.2.2.1, _, h.me⟩), by simpa only [ho] using h.no, fun b hl => by rw [ho]; exact h.nP b hl, h.bl⟩
 have := h.me.put x (.bool true)
 rw [← markL_set]
 simpa [boolC, List.map_set] using this
theorem EaS.went (h : EaS s base gs gb gm gy gh F cb caps Y S sg W) {sg' : List Int} (hy : Y sg' W') (hc : Chg W W' (Own cb W)) (ho : ∀ k, k < W.heap.size → ¬ Own cb W k → ¬ Own cb W' k) (hbs : base ≤ W.heap.size) : EaS s base gs gb gm gy gh F cb caps Y S sg' W' := by
 obtain ⟨n1, n2, n3, n4, n5⟩ := h.no
 exact ⟨h.bs.chg hc n1, h.bb.chg hc n2, h.me.chg hc n3, h.yb.chg hc n4, h.hb.chg hc n5, h.ok.mono (fun b hl hlt => hc.block b hlt (h.nP b hl)) hc.size (fun _ hp _ => hp), hy, ⟨ho _ h.bs.lt n1, ho _ h.bb.lt n2, ho _ h.me.lt n3, ho _ h.yb.lt n4, ho _ h.hb.lt n5⟩, fun b hl => ho b (by omega) (h.nP b hl), h.bl⟩
end
end Go.Proofs.YtfcccfplmdjndaaGreat

/- spec: Each: a type is handed on, then its parts. -/
namespace Go.Proofs.YtfcccfplmdjndaaGreat
set_option linter.unusedSimpArgs false
set_option linter.unusedVariables false
open Go.RowKit

/-- A type and the first of its parts, with all below them. -/
def subP (pt : Nat → List Int) (x i : Nat) : List Nat := x :: ((pt x).take i).flatMap (fun p => sub pt p.toNat)
theorem subP_zero (pt : Nat → List Int) (x : Nat) : subP pt x 0 = [x] := rfl
theorem subP_all {n : Nat} {pt : Nat → List Int} {rs : List Int} (H : Val n pt rs) (x : Nat) (hx : x < n) : subP pt x (pt x).length = sub pt x := by
 rw [sub_eq H x hx]; unfold subP; rw [List.take_length]
theorem subP_more (pt : Nat → List Int) (x i : Nat) (hi : i < (pt x).length) : subP pt x (i + 1) = subP pt x i ++ sub pt (pt x)[i].toNat := by
 unfold subP
 rw [List.take_add_one, List.getElem?_eq_getElem hi, List.flatMap_append]
 simp
theorem subP_rest {n : Nat} {pt : Nat → List Int} {rs : List Int} (H : Val n pt rs) (x : Nat) (hx : x < n) (i : Nat) (hi : i ≤ (pt x).length) : sub pt x = subP pt x i ++ ((pt x).drop i).flatMap (fun p => sub pt p.toNat) := by
 rw [sub_eq H x hx]; unfold subP
 rw [List.cons_append, ← List.flatMap_append, List.take_append_drop]
section
variable {s : SpV} {base gs gb gm gy gh F cb : Nat} {caps : Array Value} {ret : List Int → Bool} {Y : List Int → World → Prop} {rs : List Int}
/-- What a call of the inner function leaves. -/
def EaR (s : SpV) (base gs gb gm gy gh F cb : Nat) (caps : Array Value) (ret : List Int → Bool) (Y : List Int → World → Prop) (x : Nat) (S : List Nat) (sg : List Int) (w : World) (e : Ending) (w' : World) : Prop :=
 e = .returned (.bool (vis ret (sub (ptT s.ts) x) sg).1) ∧ Ev cb gm w w' ∧ ∃ S', EaS s base gs gb gm gy gh F cb caps Y S' (vis ret (sub (ptT s.ts) x) sg).2 w' ∧ ((vis ret (sub (ptT s.ts) x) sg).1 = true → S' = S ++ sub (ptT s.ts) x)
/-- What parts is told, and what it leaves. -/
def EaI (s : SpV) (base gs gb gm gy gh F cb : Nat) (caps : Array Value) (ret : List Int → Bool) (Y : List Int → World → Prop) (x : Nat) (S : List Nat) (sg : List Int) (w : World) (B i : Nat) (W : World) : Prop :=
 Ev cb gm w W ∧ ¬ Own cb W B ∧ EaS s base gs gb gm gy gh F cb caps Y (S ++ subP (ptT s.ts) x i) (vis ret (subP (ptT s.ts) x i) sg).2 W ∧ (vis ret (subP (ptT s.ts) x i) sg).1 = true
def EaT (s : SpV) (base gs gb gm gy gh F cb : Nat) (caps : Array Value) (ret : List Int → Bool) (Y : List Int → World → Prop) (x : Nat) (sg : List Int) (w W : World) : Prop :=
 Ev cb gm w W ∧ (∃ S', EaS s base gs gb gm gy gh F cb caps Y S' (vis ret (sub (ptT s.ts) x) sg).2 W) ∧ (vis ret (sub (ptT s.ts) x) sg).1 = false
theorem ea_hands (HY : Yields F caps cb ret Y) (H : Val s.vs.length (ptT s.ts) rs) {x : Nat} (hx : x < s.vs.length) {S : List Nat} {sg : List Int} {w : World} (hz : ∀ z ∈ sub (ptT s.ts) x, z ∉ S) (hl : sg.length + (sub (ptT s.ts) x).length ≤ 4096) (hbs : base ≤ w.heap.size) (hgm : gm < w.heap.size)
  (ih : ∀ y, y < x → y < s.vs.length → ∀ S sg w, EaS s base gs gb gm gy gh F cb caps Y S sg w → base ≤ w.heap.size → (∀ z ∈ sub (ptT s.ts) y, z ∉ S) → sg.length + (sub (ptT s.ts) y).length ≤ 4096 →
   Calls Tryz.prog 32 #[.int .i64 (y : Int), .pointer (some ⟨gs, 0, none⟩), .pointer (some ⟨gb, 0, none⟩), .pointer (some ⟨gy, 0, none⟩), .pointer (some ⟨gh, 0, none⟩)] w (EaR s base gs gb gm gy gh F cb caps ret Y y S sg w)) (B : Nat) (hB : w.heap.size ≤ B) :
  Hands 32 #[.pointer (some ⟨gs, 0, none⟩), .pointer (some ⟨gb, 0, none⟩), .pointer (some ⟨gy, 0, none⟩), .pointer (some ⟨gh, 0, none⟩)] (ptT s.ts x) B (EaI s base gs gb gm gy gh F cb caps ret Y x S sg w B) (EaT s base gs gb gm gy gh F cb caps ret Y x sg w) where
 ent := enters_of Tryz.func32 (by kernel_rfl) rfl
 call := by
  rintro i h W ⟨hev, hno, hE, hv⟩ hBl
  have hp := H.lt x hx _ (List.getElem_mem h)
  obtain ⟨p, hpe⟩ : ∃ p : Nat, (ptT s.ts x)[i] = (p : Int) := ⟨(ptT s.ts x)[i].toNat, by omega⟩
  have hpl : p < x := by rw [hpe] at hp; omega
  have hmore := subP_more (ptT s.ts) x i h
  rw [hpe, Int.toNat_natCast] at hmore
  have hrest := subP_rest H x hx (i + 1) h
  rw [hmore] at hrest
  have hnd := sub_nodup H x hx
  rw [hrest, List.append_assoc, List.nodup_append] at hnd
  have hlen : (sub (ptT s.ts) x).length = (subP (ptT s.ts) x i).length + (sub (ptT s.ts) p).length + (((ptT s.ts x).drop (i + 1)).flatMap (fun p => sub (ptT s.ts) p.toNat)).length := by rw [hrest]; simp only [List.length_append]
  have hvl := vis_len ret (subP (ptT s.ts) x i) sg
  have hsz := hev.chg.size
  rw [hpe]
  refine (ih p hpl (by omega) _ _ W hE (by omega) (fun z hzp hzS => ?_) (by omega)).mono ?_
  ·rcases List.mem_append.1 hzS with h1 | h1
   ·exact hz z (by rw [hrest]; simp [hzp]) h1
   ·exact hnd.2.2 z h1 z (List.mem_append.2 (.inl hzp)) rfl
  ·rintro e W' ⟨rfl, hev2, S', hE2, hS'⟩
   have hva := vis_app ret (subP (ptT s.ts) x i) (sub (ptT s.ts) p) sg
   rw [if_pos hv, ← hmore] at hva
   refine ⟨_, rfl, ⟨hev2.chg.block B hBl (fun e => e.elim (fun e => by omega) hno), hev2.chg.size⟩, fun hb => ?_, fun hb => ?_⟩
   ·refine ⟨hev.trans hev2, hev2.old B hBl hno, ?_, by rw [hva]; exact hb⟩
    rw [hva, hmore, ← List.append_assoc, ← hS' hb]
    exact hE2
   ·have hvw := vis_app ret (subP (ptT s.ts) x (i + 1)) (((ptT s.ts x).drop (i + 1)).flatMap (fun p => sub (ptT s.ts) p.toNat)) sg
    rw [hmore, ← hrest, ← hmore, hva, if_neg (by rw [hb]; decide)] at hvw
    exact ⟨hev.trans hev2, ⟨S', by rw [hvw]; exact hE2⟩, by rw [hvw]; exact hb⟩
 keep := by
  rintro i W W' ⟨hev, hno, hE, hv⟩ hb
  have hc := HY.lt _ _ hE.y
  exact ⟨hev.trans (Ev.of_below hc hb), fun e => hno ((own_same (hb.block cb hc) B).1 e), hE.keep HY hb, hv⟩
end
end Go.Proofs.YtfcccfplmdjndaaGreat

/- spec: what is met from some types on: plain mathematics. -/
namespace Go.Proofs.YtfcccfplmdjndaaGreat
set_option linter.unusedSimpArgs false
set_option linter.unusedVariables false
open Go.RowKit

/-- All that is met from some types on. -/
def seenF (pt : Nat → List Int) (rs : List Int) : List Int := (rs.flatMap (fun p => sub pt p.toNat)).map (fun (i : Nat) => (i : Int))
theorem vis_true : ∀ (l : List Nat) (sg : List Int), vis (fun _ => true) l sg = (true, sg ++ l.map (fun (i : Nat) => (i : Int)))
 | [], sg => by simp [vis]
 | i :: l, sg => by simp [vis, vis_true l]
section
variable {n : Nat} {pt : Nat → List Int} {rs : List Int}
theorem roots_perm (H : Val n pt rs) : (rs.flatMap (fun p => sub pt p.toNat)).Perm (List.range n) := by
 rw [List.perm_iff_count]
 intro a
 rw [(roots_nodup H).count, List.nodup_range.count]
 have h : a ∈ rs.flatMap (fun p => sub pt p.toNat) ↔ a ∈ List.range n := by
  rw [List.mem_range]
  constructor
  ·intro h
   obtain ⟨p, hp, hz⟩ := List.mem_flatMap.1 h
   have h1 := (H.inb p hp).2
   have := sub_le H _ a h1 hz
   omega
  ·exact fun h => roots_cover H (n - a) a (Nat.le_refl _) h
 simp only [h]
theorem seen_all_len (H : Val n pt rs) : (seenF pt rs).length = n := by
 unfold seenF
 rw [List.length_map, (roots_perm H).length_eq, List.length_range]
theorem seen_app (xs ys : List Int) : seenF pt (xs ++ ys) = seenF pt xs ++ seenF pt ys := by
 unfold seenF
 rw [List.flatMap_append, List.map_append]
theorem seen_len (H : Val n pt rs) (j : Nat) : (seenF pt (rs.take j)).length ≤ n := by
 have h := seen_all_len H
 rw [← List.take_append_drop j rs, seen_app, List.length_append] at h
 omega
theorem seen_next {j : Nat} {p : Int} (h : rs[j]? = some p) : seenF pt (rs.take (j + 1)) = seenF pt (rs.take j) ++ (sub pt p.toNat).map (fun (i : Nat) => (i : Int)) := by
 rw [List.take_add_one, h, seen_app]
 congr 1
 simp [seenF]
theorem seen_fits (H : Val n pt rs) {j : Nat} {p : Int} (h : rs[j]? = some p) : (seenF pt (rs.take j)).length + (sub pt p.toNat).length ≤ n := by
 have := seen_len H (j + 1)
 rw [seen_next h, List.length_append, List.length_map] at this
 omega
end
end Go.Proofs.YtfcccfplmdjndaaGreat
