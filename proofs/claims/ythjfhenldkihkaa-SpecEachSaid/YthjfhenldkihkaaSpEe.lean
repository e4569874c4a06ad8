/- spec: Each. -/
import Derived.Test.YthjfhenldkihkaaSpEc
namespace Go.Proofs.Ythjfhenldkihkaa
set_option linter.unusedSimpArgs false
set_option linter.unusedVariables false
open Go.RowKit

theorem store_fn {W : World} {p : Addr} {u : Value} (g : Fn) (cs : Array Value) (hc : W.cell? p = some u) (hf : W.frozen? p = false) : Sem.run Try.prog (store p (.func g #[] cs)) W = .ok () (W.setCell p (.func g #[] cs)) := by
  rw [run_store _ _ _ _ _ rfl]
  simp [hc, hf]
theorem nil_no (F : Nat) (caps : Array Value) (W : World) : Sem.run Try.prog (binOp BinOp.eql 34 (.func (.func F) #[] caps) .nilFunc) W = .ok (.bool false) W := by kernel_rfl
set_option maxRecDepth 100000 in
set_option maxHeartbeats 4000000 in
theorem Each_any {s : SpV} {base F cb : Nat} {caps : Array Value} {ret : List Int → Bool} {Y : List Int → World → Prop} {rs : List Int} (HY : Yields F caps cb ret Y) (H : Val s.vs.length (ptT s.ts) rs) (hck : ∀ v ∈ s.vs, ckV v = 0) (hn0 : s.vs.length ≤ 2048)
    (x : Nat) (hx : x < s.vs.length) (sg : List Int) (w : World) (hO : SpecOk w (· < base) s) (hbs : base ≤ w.heap.size) (hy : Y sg w) (hnP : ∀ b, b < base → ¬ Own cb w b) (hl : sg.length + (sub (ptT s.ts) x).length ≤ 4096) :
    Calls Try.prog 7 #[s.val, .int .i64 (x : Int), .func (.func F) #[] caps] w fun e w' => e = .returned (.bool (vis ret (sub (ptT s.ts) x) sg).1) ∧ Y (vis ret (sub (ptT s.ts) x) sg).2 w' ∧ Chg w w' (Own cb w) ∧ ∀ k, k < w.heap.size → ¬ Own cb w k → ¬ Own cb w' k := by
  obtain ⟨hbx, hb0⟩ := spec_box w (.slice s.N.A s.N.n s.N.c) (.slice s.D.A s.D.n s.D.c)
  have HB := hid hbx
  have HX := hid hb0
  clear hbx hb0
  have hnn : s.N.n = s.vs.length := hO.nn
  obtain ⟨n, hn⟩ : ∃ n, s.N.n = n := ⟨_, rfl⟩
  have hnb : n ≤ 2048 := by omega
  have hent := HY.ent
  have hnil := fun W => nil_no F caps W
  have hmk := fun W => mk_boolz n (by omega) W
  unfold SpV.val
  rw [hn] at HB HX ⊢
  obtain ⟨RR, hRR⟩ : ∃ RR : Ending → World → Prop, RR = fun e w' => e = .returned (.bool (vis ret (sub (ptT s.ts) x) sg).1) ∧ Y (vis ret (sub (ptT s.ts) x) sg).2 w' ∧ Chg w w' (Own cb w) ∧ ∀ k, k < w.heap.size → ¬ Own cb w k → ¬ Own cb w' k := ⟨_, rfl⟩
  rw [← hRR]
  have HRR := hid hRR
  have HA := hid (And.intro hx (And.intro hO (And.intro hbs (And.intro hy (And.intro hnP hl)))))
  have HN := hid (And.intro hnn hn)
  clear hRR hO hbs hy hnP hl hnn hn hx
  go_enter Try.func7, Try.ntmps7
  go_upto_region 5 with (fail)
  change Code.wp _ _ _ _ (((((w.alloc (.cells #[.slice s.N.A n s.N.c, .slice s.D.A s.D.n s.D.c] 25)).alloc (.cells #[.func (.func F) #[] caps] 34)).alloc (.cells (boolC (List.replicate n false)).toArray 4)).alloc (.cells #[.slice (some ⟨w.heap.size + 1 + 1, 0, none⟩) n n] 45)).alloc (.cells #[.nilFunc] 34))
  have S0 : w.heap.size = w.heap.size := rfl
  have A1 := (Below.refl w.heap.size w).alloc (Nat.le_refl _) (.cells #[.slice s.N.A n s.N.c, .slice s.D.A s.D.n s.D.c] 25)
  have K1 : Blk (w.alloc (.cells #[.slice s.N.A n s.N.c, .slice s.D.A s.D.n s.D.c] 25)) w.heap.size 25 [.slice s.N.A n s.N.c, .slice s.D.A s.D.n s.D.c] := heap_alloc_new w _
  have S1 : (w.alloc (.cells #[.slice s.N.A n s.N.c, .slice s.D.A s.D.n s.D.c] 25)).heap.size = w.heap.size + 1 := by rw [World.size_alloc, S0]
  rw [S0] at K1
  generalize w.alloc (.cells #[.slice s.N.A n s.N.c, .slice s.D.A s.D.n s.D.c] 25) = W1 at *
  have A2 := (Below.refl W1.heap.size W1).alloc (Nat.le_refl _) (.cells #[.func (.func F) #[] caps] 34)
  have K2 : Blk (W1.alloc (.cells #[.func (.func F) #[] caps] 34)) W1.heap.size 34 [.func (.func F) #[] caps] := heap_alloc_new W1 _
  have S2 : (W1.alloc (.cells #[.func (.func F) #[] caps] 34)).heap.size = w.heap.size + 1 + 1 := by rw [World.size_alloc, S1]
  rw [S1] at K2
  replace K1 := K1.keep A2
  replace A2 := A1.trans (A2.mono A1.size)
  clear A1
  have A1 := A2
  clear A2
  generalize W1.alloc (.cells #[.func (.func F) #[] caps] 34) = W2 at *
  have A3 := (Below.refl W2.heap.size W2).alloc (Nat.le_refl _) (.cells (boolC (List.replicate n false)).toArray 4)
  have K3 : Blk (W2.alloc (.cells (boolC (List.replicate n false)).toArray 4)) W2.heap.size 4 (boolC (List.replicate n false)) := heap_alloc_new W2 _
  have S3 : (W2.alloc (.cells (boolC (List.replicate n false)).toArray 4)).heap.size = w.heap.size + 1 + 1 + 1 := by rw [World.size_alloc, S2]
  rw [S2] at K3
  replace K1 := K1.keep A3
  replace K2 := K2.keep A3
  replace A3 := A1.trans (A3.mono A1.size)
  clear A1
  have A1 := A3
  clear A3
  generalize W2.alloc (.cells (boolC (List.replicate n false)).toArray 4) = W3 at *
  have A4 := (Below.refl W3.heap.size W3).alloc (Nat.le_refl _) (.cells #[.slice (some ⟨w.heap.size + 1 + 1, 0, none⟩) n n] 45)
  have K4 : Blk (W3.alloc (.cells #[.slice (some ⟨w.heap.size + 1 + 1, 0, none⟩) n n] 45)) W3.heap.size 45 [.slice (some ⟨w.heap.size + 1 + 1, 0, none⟩) n n] := heap_alloc_new W3 _
  have S4 : (W3.alloc (.cells #[.slice (some ⟨w.heap.size + 1 + 1, 0, none⟩) n n] 45)).heap.size = w.heap.size + 1 + 1 + 1 + 1 := by rw [World.size_alloc, S3]
  rw [S3] at K4
  replace K1 := K1.keep A4
  replace K2 := K2.keep A4
  replace K3 := K3.keep A4
  replace A4 := A1.trans (A4.mono A1.size)
  clear A1
  have A1 := A4
  clear A4
  generalize W3.alloc (.cells #[.slice (some ⟨w.heap.size + 1 + 1, 0, none⟩) n n] 45) = W4 at *
  have A5 := (Below.refl W4.heap.size W4).alloc (Nat.le_refl _) (.cells #[.nilFunc] 34)
  have K5 : Blk (W4.alloc (.cells #[.nilFunc] 34)) W4.heap.size 34 [.nilFunc] := heap_alloc_new W4 _
  have S5 : (W4.alloc (.cells #[.nilFunc] 34)).heap.size = w.heap.size + 1 + 1 + 1 + 1 + 1 := by rw [World.size_alloc, S4]
  rw [S4] at K5
  replace K1 := K1.keep A5
  replace K2 := K2.keep A5
  replace K3 := K3.keep A5
  replace K4 := K4.keep A5
  replace A5 := A1.trans (A5.mono A1.size)
  clear A1
  have A1 := A5
  clear A5
  generalize W4.alloc (.cells #[.nilFunc] 34) = W5 at *
  have y0 := Blk.at K5 0
  have hfz := Blk.free K5 0
  simp only [List.getElem?_cons_zero] at y0
  have hst := fun g cs => store_fn g cs y0 hfz
  go_upto_region 6 with (fail)
  obtain ⟨hx, hO, hbs, hy, hnP, hl⟩ := HA.out
  have hcl := HY.lt _ _ hy
  have hB6 : Below w.heap.size w (W5.setCell ⟨w.heap.size + 1 + 1 + 1 + 1, 0, none⟩ (.func (.func 25) #[] #[.pointer (some ⟨w.heap.size, 0, none⟩), .pointer (some ⟨w.heap.size + 1 + 1 + 1, 0, none⟩), .pointer (some ⟨w.heap.size + 1, 0, none⟩), .pointer (some ⟨w.heap.size + 1 + 1 + 1 + 1, 0, none⟩)])) := A1.setCell (by show w.heap.size ≤ w.heap.size + 1 + 1 + 1 + 1; omega) _
  have hown : ∀ k, Own cb (W5.setCell ⟨w.heap.size + 1 + 1 + 1 + 1, 0, none⟩ (.func (.func 25) #[] #[.pointer (some ⟨w.heap.size, 0, none⟩), .pointer (some ⟨w.heap.size + 1 + 1 + 1, 0, none⟩), .pointer (some ⟨w.heap.size + 1, 0, none⟩), .pointer (some ⟨w.heap.size + 1 + 1 + 1 + 1, 0, none⟩)])) k ↔ Own cb w k := fun k => own_same (hB6.block cb hcl) k
  have hno : ∀ k, w.heap.size ≤ k → ¬ Own cb (W5.setCell ⟨w.heap.size + 1 + 1 + 1 + 1, 0, none⟩ (.func (.func 25) #[] #[.pointer (some ⟨w.heap.size, 0, none⟩), .pointer (some ⟨w.heap.size + 1 + 1 + 1, 0, none⟩), .pointer (some ⟨w.heap.size + 1, 0, none⟩), .pointer (some ⟨w.heap.size + 1 + 1 + 1 + 1, 0, none⟩)])) k := fun k hk e => by have := HY.ob _ _ k hy ((hown k).1 e); omega
  have k1 := K1.other (p := ⟨w.heap.size + 1 + 1 + 1 + 1, 0, none⟩) (by show w.heap.size ≠ w.heap.size + 1 + 1 + 1 + 1; omega) (.func (.func 25) #[] #[.pointer (some ⟨w.heap.size, 0, none⟩), .pointer (some ⟨w.heap.size + 1 + 1 + 1, 0, none⟩), .pointer (some ⟨w.heap.size + 1, 0, none⟩), .pointer (some ⟨w.heap.size + 1 + 1 + 1 + 1, 0, none⟩)])
  have k2 := K2.other (p := ⟨w.heap.size + 1 + 1 + 1 + 1, 0, none⟩) (by show w.heap.size + 1 ≠ w.heap.size + 1 + 1 + 1 + 1; omega) (.func (.func 25) #[] #[.pointer (some ⟨w.heap.size, 0, none⟩), .pointer (some ⟨w.heap.size + 1 + 1 + 1, 0, none⟩), .pointer (some ⟨w.heap.size + 1, 0, none⟩), .pointer (some ⟨w.heap.size + 1 + 1 + 1 + 1, 0, none⟩)])
  have k3 := K3.other (p := ⟨w.heap.size + 1 + 1 + 1 + 1, 0, none⟩) (by show w.heap.size + 1 + 1 ≠ w.heap.size + 1 + 1 + 1 + 1; omega) (.func (.func 25) #[] #[.pointer (some ⟨w.heap.size, 0, none⟩), .pointer (some ⟨w.heap.size + 1 + 1 + 1, 0, none⟩), .pointer (some ⟨w.heap.size + 1, 0, none⟩), .pointer (some ⟨w.heap.size + 1 + 1 + 1 + 1, 0, none⟩)])
  have k4 := K4.other (p := ⟨w.heap.size + 1 + 1 + 1 + 1, 0, none⟩) (by show w.heap.size + 1 + 1 + 1 ≠ w.heap.size + 1 + 1 + 1 + 1; omega) (.func (.func 25) #[] #[.pointer (some ⟨w.heap.size, 0, none⟩), .pointer (some ⟨w.heap.size + 1 + 1 + 1, 0, none⟩), .pointer (some ⟨w.heap.size + 1, 0, none⟩), .pointer (some ⟨w.heap.size + 1 + 1 + 1 + 1, 0, none⟩)])
  have k5 := K5.put 0 (.func (.func 25) #[] #[.pointer (some ⟨w.heap.size, 0, none⟩), .pointer (some ⟨w.heap.size + 1 + 1 + 1, 0, none⟩), .pointer (some ⟨w.heap.size + 1, 0, none⟩), .pointer (some ⟨w.heap.size + 1 + 1 + 1 + 1, 0, none⟩)])
  have hE : EaS s base w.heap.size (w.heap.size + 1 + 1 + 1) (w.heap.size + 1 + 1) (w.heap.size + 1) (w.heap.size + 1 + 1 + 1 + 1) F cb caps Y [] sg (W5.setCell ⟨w.heap.size + 1 + 1 + 1 + 1, 0, none⟩ (.func (.func 25) #[] #[.pointer (some ⟨w.heap.size, 0, none⟩), .pointer (some ⟨w.heap.size + 1 + 1 + 1, 0, none⟩), .pointer (some ⟨w.heap.size + 1, 0, none⟩), .pointer (some ⟨w.heap.size + 1 + 1 + 1 + 1, 0, none⟩)])) :=
    ⟨by rw [HN.out.2]; exact k1, by rw [← HN.out.1, HN.out.2]; exact k4, by
      rw [show markL s.vs.length [] = List.replicate n false by rw [← HN.out.1, HN.out.2]; simp [markL, List.map_const']]
      exact k3, k2, k5, hO.keep hB6, HY.keep _ _ _ (fun _ => False) hy (Chg.of_below hB6 _) (fun _ e => e.elim), ⟨hno _ (by omega), hno _ (by omega), hno _ (by omega), hno _ (by omega), hno _ (by omega)⟩, fun b hb e => hnP b hb ((hown b).1 e), ⟨hbs, by omega⟩⟩
  have HC := hid (each1_any HY H hck hn0 x hx [] sg (W5.setCell ⟨w.heap.size + 1 + 1 + 1 + 1, 0, none⟩ (.func (.func 25) #[] #[.pointer (some ⟨w.heap.size, 0, none⟩), .pointer (some ⟨w.heap.size + 1 + 1 + 1, 0, none⟩), .pointer (some ⟨w.heap.size + 1, 0, none⟩), .pointer (some ⟨w.heap.size + 1 + 1 + 1 + 1, 0, none⟩)])) hE (Nat.le_trans hbs hB6.size) (fun z _ => by simp) hl)
  have h5 := Blk.at k5 0
  simp only [List.set_cons_zero, List.getElem?_cons_zero] at h5
  have hent1 := enters_of Try.func25 (by kernel_rfl) rfl
  have HB6 := hid (And.intro hB6 (And.intro hown (And.intro hno hcl)))
  clear hB6 hown hno k1 k2 k3 k4 k5 hE K1 K2 K3 K4 K5 A1 hx hO hbs hy hnP hl hcl y0 hfz hst hnil hmk S0 S1 S2 S3 S4 S5
  change Code.wp _ _ _ _ (W5.setCell ⟨w.heap.size + 1 + 1 + 1 + 1, 0, none⟩ (.func (.func 25) #[] #[.pointer (some ⟨w.heap.size, 0, none⟩), .pointer (some ⟨w.heap.size + 1 + 1 + 1, 0, none⟩), .pointer (some ⟨w.heap.size + 1, 0, none⟩), .pointer (some ⟨w.heap.size + 1 + 1 + 1 + 1, 0, none⟩)]))
  generalize (W5.setCell ⟨w.heap.size + 1 + 1 + 1 + 1, 0, none⟩ (.func (.func 25) #[] #[.pointer (some ⟨w.heap.size, 0, none⟩), .pointer (some ⟨w.heap.size + 1 + 1 + 1, 0, none⟩), .pointer (some ⟨w.heap.size + 1, 0, none⟩), .pointer (some ⟨w.heap.size + 1 + 1 + 1 + 1, 0, none⟩)])) = W6 at *
  go_wp2_with fail
  refine HC.out.mono ?_
  rintro e w7 ⟨rfl, hev, S', hE, _⟩
  go_wp2_with fail
  try go_ret
  show RR (.returned (.bool (vis ret (sub (ptT s.ts) x) sg).1)) w7
  rw [HRR.out]
  refine ⟨rfl, hE.y, ⟨hev.chg.os.trans HB6.out.1.os, hev.chg.tape.trans HB6.out.1.tape, hev.chg.output.trans HB6.out.1.output, Nat.le_trans HB6.out.1.size hev.chg.size, fun k hk hn => ?_⟩, fun k hk hn => hev.old k (Nat.lt_of_lt_of_le hk HB6.out.1.size) (fun e => hn ((HB6.out.2.1 k).1 e))⟩
  rw [hev.chg.block k (Nat.lt_of_lt_of_le hk HB6.out.1.size) (fun e => e.elim (fun e => by omega) (fun e => hn ((HB6.out.2.1 k).1 e))), HB6.out.1.block k hk]
end Go.Proofs.Ythjfhenldkihkaa
