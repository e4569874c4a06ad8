/- spec: Each: a type is handed on, then its parts. -/
import Derived.Test.YthjfhenldkihkaaSpEa
import Derived.Test.YthjfhenldkihkaaSpLa
namespace Go.Proofs.Ythjfhenldkihkaa
set_option linter.unusedSimpArgs false
set_option linter.unusedVariables false
open Go.RowKit

/-- A type and the first of its parts, with all below them. -/
def subP (pt : Nat → List Int) (x i : Nat) : List Nat := x :: ((pt x).take i).flatMap (fun p => sub pt p.toNat)
theorem subP_zero (pt : Nat → List Int) (x : Nat) : subP pt x 0 = [x] := rfl
theorem subP_all {n : Nat} {pt : Nat → List Int} {rs : List Int} (H : Val n pt rs) (x : Nat) (hx : x < n) : subP pt x (pt x).length = sub pt x := by
  rw [sub_eq H x hx]; unfold subP; rw [List.take_length]
theorem subP_more (pt : Nat → List Int) (x i : Nat) (hi : i < (pt x).length) : subP pt x (i + 1) = subP pt x i ++ sub pt (pt x)[i].toNat := by
  unfold subP
  rw [List.take_add_one, List.getElem?_eq_getElem hi, List.flatMap_append]
  simp
theorem subP_rest {n : Nat} {pt : Nat → List Int} {rs : List Int} (H : Val n pt rs) (x : Nat) (hx : x < n) (i : Nat) (hi : i ≤ (pt x).length) : sub pt x = subP pt x i ++ ((pt x).drop i).flatMap (fun p => sub pt p.toNat) := by
  rw [sub_eq H x hx]; unfold subP
  rw [List.cons_append, ← List.flatMap_append, List.take_append_drop]
section
variable {s : SpV} {base gs gb gm gy gh F cb : Nat} {caps : Array Value} {ret : List Int → Bool} {Y : List Int → World → Prop} {rs : List Int}
/-- What a call of the inner function leaves. -/
def EaR (s : SpV) (base gs gb gm gy gh F cb : Nat) (caps : Array Value) (ret : List Int → Bool) (Y : List Int → World → Prop) (x : Nat) (S : List Nat) (sg : List Int) (w : World) (e : Ending) (w' : World) : Prop :=
  e = .returned (.bool (vis ret (sub (ptT s.ts) x) sg).1) ∧ Ev cb gm w w' ∧ ∃ S', EaS s base gs gb gm gy gh F cb caps Y S' (vis ret (sub (ptT s.ts) x) sg).2 w' ∧ ((vis ret (sub (ptT s.ts) x) sg).1 = true → S' = S ++ sub (ptT s.ts) x)
/-- What parts is told, and what it leaves. -/
def EaI (s : SpV) (base gs gb gm gy gh F cb : Nat) (caps : Array Value) (ret : List Int → Bool) (Y : List Int → World → Prop) (x : Nat) (S : List Nat) (sg : List Int) (w : World) (B i : Nat) (W : World) : Prop :=
  Ev cb gm w W ∧ ¬ Own cb W B ∧ EaS s base gs gb gm gy gh F cb caps Y (S ++ subP (ptT s.ts) x i) (vis ret (subP (ptT s.ts) x i) sg).2 W ∧ (vis ret (subP (ptT s.ts) x i) sg).1 = true
def EaT (s : SpV) (base gs gb gm gy gh F cb : Nat) (caps : Array Value) (ret : List Int → Bool) (Y : List Int → World → Prop) (x : Nat) (sg : List Int) (w W : World) : Prop :=
  Ev cb gm w W ∧ (∃ S', EaS s base gs gb gm gy gh F cb caps Y S' (vis ret (sub (ptT s.ts) x) sg).2 W) ∧ (vis ret (sub (ptT s.ts) x) sg).1 = false
theorem ea_hands (HY : Yields F caps cb ret Y) (H : Val s.vs.length (ptT s.ts) rs) {x : Nat} (hx : x < s.vs.length) {S : List Nat} {sg : List Int} {w : World} (hz : ∀ z ∈ sub (ptT s.ts) x, z ∉ S) (hl : sg.length + (sub (ptT s.ts) x).length ≤ 4096) (hbs : base ≤ w.heap.size) (hgm : gm < w.heap.size)
    (ih : ∀ y, y < x → y < s.vs.length → ∀ S sg w, EaS s base gs gb gm gy gh F cb caps Y S sg w → base ≤ w.heap.size → (∀ z ∈ sub (ptT s.ts) y, z ∉ S) → sg.length + (sub (ptT s.ts) y).length ≤ 4096 →
      Calls Try.prog 25 #[.int .i64 (y : Int), .pointer (some ⟨gs, 0, none⟩), .pointer (some ⟨gb, 0, none⟩), .pointer (some ⟨gy, 0, none⟩), .pointer (some ⟨gh, 0, none⟩)] w (EaR s base gs gb gm gy gh F cb caps ret Y y S sg w)) (B : Nat) (hB : w.heap.size ≤ B) :
    Hands 25 #[.pointer (some ⟨gs, 0, none⟩), .pointer (some ⟨gb, 0, none⟩), .pointer (some ⟨gy, 0, none⟩), .pointer (some ⟨gh, 0, none⟩)] (ptT s.ts x) B (EaI s base gs gb gm gy gh F cb caps ret Y x S sg w B) (EaT s base gs gb gm gy gh F cb caps ret Y x sg w) where
  ent := enters_of Try.func25 (by kernel_rfl) rfl
  call := by
    rintro i h W ⟨hev, hno, hE, hv⟩ hBl
    have hp := H.lt x hx _ (List.getElem_mem h)
    obtain ⟨p, hpe⟩ : ∃ p : Nat, (ptT s.ts x)[i] = (p : Int) := ⟨(ptT s.ts x)[i].toNat, by omega⟩
    have hpl : p < x := by rw [hpe] at hp; omega
    have hmore := subP_more (ptT s.ts) x i h
    rw [hpe, Int.toNat_natCast] at hmore
    have hrest := subP_rest H x hx (i + 1) h
    rw [hmore] at hrest
    have hnd := sub_nodup H x hx
    rw [hrest, List.append_assoc, List.nodup_append] at hnd
    have hlen : (sub (ptT s.ts) x).length = (subP (ptT s.ts) x i).length + (sub (ptT s.ts) p).length + (((ptT s.ts x).drop (i + 1)).flatMap (fun p => sub (ptT s.ts) p.toNat)).length := by rw [hrest]; simp only [List.length_append]
    have hvl := vis_len ret (subP (ptT s.ts) x i) sg
    have hsz := hev.chg.size
    rw [hpe]
    refine (ih p hpl (by omega) _ _ W hE (by omega) (fun z hzp hzS => ?_) (by omega)).mono ?_
    · rcases List.mem_append.1 hzS with h1 | h1
      · exact hz z (by rw [hrest]; simp [hzp]) h1
      · exact hnd.2.2 z h1 z (List.mem_append.2 (.inl hzp)) rfl
    · rintro e W' ⟨rfl, hev2, S', hE2, hS'⟩
      have hva := vis_app ret (subP (ptT s.ts) x i) (sub (ptT s.ts) p) sg
      rw [if_pos hv, ← hmore] at hva
      refine ⟨_, rfl, ⟨hev2.chg.block B hBl (fun e => e.elim (fun e => by omega) hno), hev2.chg.size⟩, fun hb => ?_, fun hb => ?_⟩
      · refine ⟨hev.trans hev2, hev2.old B hBl hno, ?_, by rw [hva]; exact hb⟩
        rw [hva, hmore, ← List.append_assoc, ← hS' hb]
        exact hE2
      · have hvw := vis_app ret (subP (ptT s.ts) x (i + 1)) (((ptT s.ts x).drop (i + 1)).flatMap (fun p => sub (ptT s.ts) p.toNat)) sg
        rw [hmore, ← hrest, ← hmore, hva, if_neg (by rw [hb]; decide)] at hvw
        exact ⟨hev.trans hev2, ⟨S', by rw [hvw]; exact hE2⟩, by rw [hvw]; exact hb⟩
  keep := by
    rintro i W W' ⟨hev, hno, hE, hv⟩ hb
    have hc := HY.lt _ _ hE.y
    exact ⟨hev.trans (Ev.of_below hc hb), fun e => hno ((own_same (hb.block cb hc) B).1 e), hE.keep HY hb, hv⟩
end
end Go.Proofs.Ythjfhenldkihkaa
