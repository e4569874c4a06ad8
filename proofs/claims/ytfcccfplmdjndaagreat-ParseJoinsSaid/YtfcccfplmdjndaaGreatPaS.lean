/- parse: a reader in memory; what each of its small steps does. -/
import Derived.Test.YtfcccfplmdjndaaGreatPaHk
import Derived.Test.YtfcccfplmdjndaaGreatPaFw
import Derived.Test.YtfcccfplmdjndaaGreatLxI
import Derived.Deep.Cut
namespace Go.Proofs.YtfcccfplmdjndaaGreat
set_option linter.unusedSimpArgs false
set_option linter.unusedVariables false
open Go.RowKit

def restL (L : List Tk) (n : Nat) : List Tk := L.drop (L.length - n)
def hdT (L : List Tk) (n : Nat) : Tk := match restL L n with | [] => ⟨5, 0, []⟩ | t :: _ => t
def placeL (L : List Tk) (n : Nat) : Nat := match restL L n with | [] => 0 | t :: _ => t.p
theorem rest_len {L : List Tk} {n : Nat} (h : n ≤ L.length) : (restL L n).length = n := by unfold restL; rw [List.length_drop]; omega
theorem rest_drop {L : List Tk} {n j : Nat} (h : n ≤ L.length) (hj : j ≤ n) : (restL L n).drop j = restL L (n - j) := by
 unfold restL
 rw [List.drop_drop]
 congr 1
 omega
theorem strip_drop (l : List Tk) (j : Nat) : (stripT l).drop j = stripT (l.drop j) := by simp [stripT, List.map_drop]
theorem RdK.back {w : World} {A : Option Addr} {ts : List Tk} (h : RdK w A ts) (j c : Nat) (hj : j < ts.length) (hc : ts.length ≤ c) : RdK w (A.map (·.add (j * 3))) (ts.drop j) := fun h0 => by
 obtain ⟨b, o, e, hl, hcl⟩ := h (by omega)
 refine ⟨b, o + j * 3, ?_, hl, fun i hi => ?_⟩
 ·rw [e]
  simp [Addr.add]
 ·have hi' : j + i < ts.length := by rw [List.length_drop] at hi; omega
  have := hcl (j + i) hi'
  rw [show o + (j + i) * 3 = o + j * 3 + i * 3 by omega] at this
  simpa [List.getElem_drop] using this
theorem RdK.chg {w w' : World} {S : Nat → Prop} {A : Option Addr} {ts : List Tk} (h : RdK w A ts) (hc : Chg w w' S) (hS : ∀ a, A = some a → ¬ S a.block) : RdK w' A ts := fun h0 => by
 obtain ⟨b, o, e, hl, hcl⟩ := h h0
 refine ⟨b, o, e, Nat.lt_of_lt_of_le hl hc.size, fun j hj => ?_⟩
 have hbl := hc.block b hl (hS _ e)
 obtain ⟨h1, h2, h3⟩ := hcl j hj
 exact ⟨(World.cell?_of_block (w := w) (w' := w') (a := ⟨b, _, none⟩) hbl).trans h1, (World.cell?_of_block (w := w) (w' := w') (a := ⟨b, _, none⟩) hbl).trans h2, (World.cell?_of_block (w := w) (w' := w') (a := ⟨b, _, none⟩) hbl).trans h3⟩
theorem back_block {A : Option Addr} (k : Nat) : ∀ a, A.map (·.add k) = some a → ∃ a0, A = some a0 ∧ a.block = a0.block := by
 intro a h
 cases A with
 | none => cases h
 | some a0 =>
  injection h with h
  subst h
  exact ⟨a0, rfl, by unfold Addr.add; split <;> rfl⟩
def rdCells (L : List Tk) (A : Option Addr) (c : Nat) (nv dv : Value) (s : RS) : List Value := [.slice A s.ts.length c, nv, dv, .int .i64 (s.du : Int), .int .i64 (s.fc : Int), .int .i64 (placeL L s.fi : Int)]
structure RdO (w : World) (O : Nat → Prop) (g : Nat) (L : List Tk) (A : Option Addr) (c : Nat) (vs : List NV) (nv dv : Value) (s : RS) : Prop where
 bo : BO w O 72 (rdCells L A c nv dv s) g 1 vs s.ds nv dv
 ns : vs.map NV.t = s.ns
 fit : ∀ v ∈ vs, Fits v
 tk : RdK w A (restL L s.ts.length)
 ob : ∀ a, A = some a → O a.block
 ty : ∀ a, A = some a → ∃ cs, Blk w a.block 70 cs
 ts : s.ts = stripT (restL L s.ts.length)
 pos : 0 < s.ts.length
 le : s.ts.length ≤ L.length
 cap : s.ts.length ≤ c
 big : L.length ≤ 65536
 txt : ∀ t ∈ L, t.x.length ≤ 65536
 nn : vs.length ≤ 2048
 dn : s.ds.length ≤ 64
variable {w w' : World} {O S : Nat → Prop} {g : Nat} {L : List Tk} {A : Option Addr} {c : Nat} {vs : List NV} {nv dv : Value} {s : RS}
theorem RdO.chg (h : RdO w O g L A c vs nv dv s) (hc : Chg w w' S) (hS : ∀ b, O b → ¬ S b) : RdO w' O g L A c vs nv dv s :=
 ⟨h.bo.chg hc hS, h.ns, h.fit, h.tk.chg hc (fun a e => hS _ (h.ob a e)), h.ob, fun a e => (by obtain ⟨cs, hB⟩ := h.ty a e; exact ⟨cs, hB.chg hc (hS _ (h.ob a e))⟩), h.ts, h.pos, h.le, h.cap, h.big, h.txt, h.nn, h.dn⟩
theorem RdO.keep (h : RdO w O g L A c vs nv dv s) (hb : Below w.heap.size w w') : RdO w' O g L A c vs nv dv s :=
 h.chg (Chg.of_below hb (fun _ => False)) (fun _ _ h => h)
theorem RdO.drew (h : RdO w O g L A c vs nv dv s) : RdO w.drew O g L A c vs nv dv s := h.keep ⟨rfl, rfl, rfl, Nat.le_refl _, fun _ _ => rfl⟩
theorem RdO.blk (h : RdO w O g L A c vs nv dv s) : Blk w g 72 (rdCells L A c nv dv s) := h.bo.bo
theorem RdO.c0 (h : RdO w O g L A c vs nv dv s) : w.cell? ⟨g, 0, none⟩ = some (.slice A s.ts.length c) := Blk.at h.bo.bo 0
theorem RdO.c3 (h : RdO w O g L A c vs nv dv s) : w.cell? ⟨g, 3, none⟩ = some (.int .i64 (s.du : Int)) := Blk.at h.bo.bo 3
theorem RdO.c4 (h : RdO w O g L A c vs nv dv s) : w.cell? ⟨g, 4, none⟩ = some (.int .i64 (s.fc : Int)) := Blk.at h.bo.bo 4
theorem RdO.c5 (h : RdO w O g L A c vs nv dv s) : w.cell? ⟨g, 5, none⟩ = some (.int .i64 (placeL L s.fi : Int)) := Blk.at h.bo.bo 5
theorem RdO.fz (h : RdO w O g L A c vs nv dv s) (i : Nat) : w.frozen? ⟨g, i, none⟩ = false := Blk.free h.bo.bo i
theorem RdO.cons (h : RdO w O g L A c vs nv dv s) : restL L s.ts.length = hdT L s.ts.length :: restL L (s.ts.length - 1) := by
 have hl := rest_len h.le
 have hp := h.pos
 unfold hdT
 match hr : restL L s.ts.length, hl with
 | [], hl => simp at hl; omega
 | t :: r, hl =>
  have := rest_drop h.le (j := 1) hp
  rw [hr] at this
  simpa using this
theorem RdO.nx (h : RdO w O g L A c vs nv dv s) : nxt s = ((hdT L s.ts.length).k, (hdT L s.ts.length).x) := by
 unfold nxt
 have e := h.ts
 rw [h.cons] at e
 generalize hdT L s.ts.length = t at *
 rw [e]
 rfl
theorem RdO.pl (h : RdO w O g L A c vs nv dv s) : placeL L s.ts.length = (hdT L s.ts.length).p := by
 unfold placeL hdT
 rw [h.cons]
theorem RdO.head (h : RdO w O g L A c vs nv dv s) : ∃ b o, A = some ⟨b, o, none⟩ ∧ b < w.heap.size ∧ w.cell? ⟨b, o, none⟩ = some (.int .i64 ((hdT L s.ts.length).k : Int)) ∧ w.cell? ⟨b, o + 1, none⟩ = some (.int .i64 ((hdT L s.ts.length).p : Int)) ∧ w.cell? ⟨b, o + 2, none⟩ = some (.string ⟨(hdT L s.ts.length).x.toArray⟩) := by
 obtain ⟨b, o, e, hb, hc⟩ := h.tk (by rw [h.cons]; simp)
 have h0 := hc 0 (by rw [h.cons]; simp)
 simp only [h.cons, Nat.zero_mul, Nat.add_zero, List.getElem_cons_zero] at h0
 exact ⟨b, o, e, hb, h0.1, h0.2.1, h0.2.2⟩
theorem RdO.hx (h : RdO w O g L A c vs nv dv s) : (hdT L s.ts.length).x.length ≤ 1000000 := by
 have hm : hdT L s.ts.length ∈ L := by
  have h1 : hdT L s.ts.length ∈ restL L s.ts.length := by rw [h.cons]; exact List.mem_cons_self
  exact List.mem_of_mem_drop h1
 have := h.txt _ hm
 omega
theorem tok_size (t : Tk) : (Tryz.prog.info? 70).map (·.size) = some (#[.int .i64 (t.k : Int), .int .i64 (t.p : Int), .string ⟨t.x.toArray⟩] : Array Value).size := by
 have h : (Tryz.prog.info? 70).map (·.size) = some 3 := by kernel_rfl
 exact h
def tokV (t : Tk) : Value := .agg #[.int .i64 (t.k : Int), .int .i64 (t.p : Int), .string ⟨t.x.toArray⟩]
set_option maxRecDepth 100000 in
set_option maxHeartbeats 1000000 in
theorem next_any (h : RdO w O g L A c vs nv dv s) : Calls Tryz.prog 51 #[.pointer (some ⟨g, 0, none⟩)] w fun e w' => e = .returned (tokV (hdT L s.ts.length)) ∧ Below w.heap.size w w' := by
 obtain ⟨b, o, rfl, hb, c0, c1, c2⟩ := h.head
 generalize hdT L s.ts.length = t at *
 have x0 := h.c0
 have hp := h.pos
 have hgl := h.blk.lt
 clear h
 generalize s.ts.length = n at *
 have hp' : (0 : Int) < (n : Int) := by omega
 go_enter Tryz.func51, Tryz.ntmps51
 go_wp2
 refine bodyPost_ret (v := tokV t) (results_cell_row (P := Tryz.prog) (fn := Tryz.f51) rfl _ _ w.heap.size 70 #[.int .i64 (t.k : Int), .int .i64 (t.p : Int), .string ⟨t.x.toArray⟩] (0, 0) _ rfl (heap_alloc_new w _) Tryz.underlying70 rfl (tok_size t)) rfl ?_
 exact ⟨rfl, (Below.refl _ _).alloc (Nat.le_refl _) _⟩
theorem tok_f0 (k p : Int) (x : ByteArray) (W : World) : (Instr.field 70 (.agg #[.int .i64 k, .int .i64 p, .string x]) 0).run Tryz.prog W = .ok (.int .i64 k) W := by kernel_rfl
theorem tok_f1 (k p : Int) (x : ByteArray) (W : World) : (Instr.field 70 (.agg #[.int .i64 k, .int .i64 p, .string x]) 1).run Tryz.prog W = .ok (.int .i64 p) W := by kernel_rfl
theorem tok_f2 (k p : Int) (x : ByteArray) (W : World) : (Instr.field 70 (.agg #[.int .i64 k, .int .i64 p, .string x]) 2).run Tryz.prog W = .ok (.string x) W := by kernel_rfl
theorem RdO.tok_ne (h : RdO w O g L A c vs nv dv s) {a : Addr} (e : A = some a) : ¬ a.block = g := by
 obtain ⟨cs, hB⟩ := h.ty a e
 intro e2
 rw [e2] at hB
 exact absurd (blk_type hB h.blk) (by decide)
theorem run_sliceK_from (A : Option Addr) (n c j : Nat) (h : j < n) (hc : n ≤ c) (w : World) :
  (Instr.slice 23 (.slice A n c) (some (.int .i64 (j : Int))) none none).run Tryz.prog w = .ok (.slice (A.map (·.add (j * 3))) (n - j) (c - j)) w := by
 have hs : (sizeOf 70).run Tryz.prog w = .ok 3 w := by kernel_rfl
 have h' : j ≤ n := by omega
 have hne : ¬ c = j := by omega
 simp [Instr.slice, run_underlying Tryz.underlying23, Instr.sliceBounds, Instr.sliceBound, asIntOf, hs, h', hne]
theorem RdO.setF (h : RdO w O g L A c vs nv dv s) (code i : Nat) : RdO ((w.setCell ⟨g, 4, none⟩ (.int .i64 (code : Int))).setCell ⟨g, 5, none⟩ (.int .i64 (placeL L i : Int))) O g L A c vs nv dv ⟨s.ts, s.ns, s.ds, s.du, code, i⟩ := by
 have hc : Chg w ((w.setCell ⟨g, 4, none⟩ (.int .i64 (code : Int))).setCell ⟨g, 5, none⟩ (.int .i64 (placeL L i : Int))) (fun k => k = g) := ((Chg.refl w (fun k => k = g)).set g 4 rfl _).set g 5 rfl _
 have hb := (h.bo.set 4 (.int .i64 (code : Int)) (by decide) (by decide)).set 5 (.int .i64 (placeL L i : Int)) (by decide) (by decide)
 exact ⟨hb, h.ns, h.fit, h.tk.chg hc (fun a ha => h.tok_ne ha), h.ob, fun a e => (by obtain ⟨cs, hB⟩ := h.ty a e; exact ⟨cs, hB.chg hc (h.tok_ne e)⟩), h.ts, h.pos, h.le, h.cap, h.big, h.txt, h.nn, h.dn⟩
theorem RdO.setD (h : RdO w O g L A c vs nv dv s) (code : Nat) : RdO (w.setCell ⟨g, 3, none⟩ (.int .i64 (code : Int))) O g L A c vs nv dv ⟨s.ts, s.ns, s.ds, code, s.fc, s.fi⟩ := by
 have hc : Chg w (w.setCell ⟨g, 3, none⟩ (.int .i64 (code : Int))) (fun k => k = g) := (Chg.refl w (fun k => k = g)).set g 3 rfl _
 have hb := h.bo.set 3 (.int .i64 (code : Int)) (by decide) (by decide)
 exact ⟨hb, h.ns, h.fit, h.tk.chg hc (fun a ha => h.tok_ne ha), h.ob, fun a e => (by obtain ⟨cs, hB⟩ := h.ty a e; exact ⟨cs, hB.chg hc (h.tok_ne e)⟩), h.ts, h.pos, h.le, h.cap, h.big, h.txt, h.nn, h.dn⟩
theorem RdO.back (h : RdO w O g L A c vs nv dv s) (j : Nat) (hj : j < s.ts.length) : RdO (w.setCell ⟨g, 0, none⟩ (.slice (A.map (·.add (j * 3))) (s.ts.length - j) (c - j))) O g L (A.map (·.add (j * 3))) (c - j) vs nv dv ⟨s.ts.drop j, s.ns, s.ds, s.du, s.fc, s.fi⟩ := by
 have hc : Chg w (w.setCell ⟨g, 0, none⟩ (.slice (A.map (·.add (j * 3))) (s.ts.length - j) (c - j))) (fun k => k = g) := (Chg.refl w (fun k => k = g)).set g 0 rfl _
 have hb := h.bo.set 0 (.slice (A.map (·.add (j * 3))) (s.ts.length - j) (c - j)) (by decide) (by decide)
 have hl : (s.ts.drop j).length = s.ts.length - j := List.length_drop
 have hle := h.le
 have hcap := h.cap
 have hrl : (restL L s.ts.length).length = s.ts.length := rest_len h.le
 refine ⟨?_, h.ns, h.fit, ?_, ?_, ?_, ?_, by rw [hl]; omega, by rw [hl]; omega, by rw [hl]; omega, h.big, h.txt, h.nn, h.dn⟩
 ·have e : rdCells L (A.map (·.add (j * 3))) (c - j) nv dv ⟨s.ts.drop j, s.ns, s.ds, s.du, s.fc, s.fi⟩ = (rdCells L A c nv dv s).set 0 (.slice (A.map (·.add (j * 3))) (s.ts.length - j) (c - j)) := by
   unfold rdCells
   simp only [hl, List.set_cons_zero]
  rw [e]
  exact hb
 ·rw [hl, ← rest_drop h.le (by omega)]
  exact (h.tk.chg hc (fun a ha => h.tok_ne ha)).back j c (by omega) (by omega)
 ·intro a ha
  obtain ⟨a0, h0, h1⟩ := back_block (j * 3) a ha
  rw [h1]
  exact h.ob a0 h0
 ·intro a ha
  obtain ⟨a0, h0, h1⟩ := back_block (j * 3) a ha
  rw [h1]
  obtain ⟨cs, hB⟩ := h.ty a0 h0
  exact ⟨cs, hB.chg hc (h.tok_ne h0)⟩
 ·show s.ts.drop j = stripT (restL L (s.ts.drop j).length)
  rw [hl, ← rest_drop h.le (by omega), ← strip_drop, ← h.ts]
set_option maxRecDepth 100000 in
set_option maxHeartbeats 1000000 in
theorem len_wrap (h : RdO w O g L A c vs nv dv s) : wrap64 ((s.ts.length : Int) - 1) = ((s.ts.length - 1 : Nat) : Int) := by
 have h1 := h.pos
 have h2 := h.le
 have h3 := h.big
 unfold wrap64
 omega
theorem chg_drew (h : Chg w w' O) : Chg w w'.drew O := ⟨h.os, h.tape, h.output, h.size, h.block⟩
set_option maxRecDepth 100000 in
set_option maxHeartbeats 1000000 in
theorem fail_any (h : RdO w O g L A c vs nv dv s) (code : Nat) : Calls Tryz.prog 85 #[.pointer (some ⟨g, 0, none⟩), .int .i64 (code : Int)] w fun e w' => e = .returned (.tuple #[]) ∧ (∃ A' c', RdO w' O g L A' c' vs nv dv (failP code s)) ∧ Chg w w' O := by
 have HN := hid (fun W (k : RdO W O g L A c vs nv dv s) => next_any k)
 have x0 := h.c0
 have x4 := h.c4
 have f4 := h.fz 4
 have HF := hid h
 have hp := h.pos
 have hog := h.bo.og
 have HO := hid hog
 have hsl := run_sliceK_from A s.ts.length c (s.ts.length - 1) (by omega) h.cap
 have hw1 := len_wrap h
 clear h hog
 by_cases h0 : s.fc = 0
 ·rw [h0] at x4
  have HZ := hid h0
  go_enter Tryz.func85, Tryz.ntmps85
  go_wp2_with (go_at_call 51; (with_reducible refine (HN.out w HF.out).mono ?_); rintro e w3 ⟨rfl, hb3⟩; have HF3 := hid (HF.out.keep hb3); have HB3 := hid hb3; clear hb3; have y0 := HF3.out.c0; have y4 := HF3.out.c4; have y5 := HF3.out.c5; have z4 := HF3.out.fz 4; have z5 := HF3.out.fz 5; rw [h0] at y4; unfold tokV; have q1 := tok_f1 ((hdT L s.ts.length).k : Int) ((hdT L s.ts.length).p : Int) ⟨(hdT L s.ts.length).x.toArray⟩)
  have HG := hid (HF3.out.setF code s.ts.length)
  rw [HF3.out.pl] at HG
  have HC := hid (((Chg.of_below HB3.out O).set g 4 HO.out (.int .i64 (code : Int))).set g 5 HO.out (.int .i64 ((hdT L s.ts.length).p : Int)))
  clear y0 y4 y5 z4 z5 q1 x0 x4 f4
  generalize (w3.setCell ⟨g, 4, none⟩ (.int .i64 (code : Int))).setCell ⟨g, 5, none⟩ (.int .i64 ((hdT L s.ts.length).p : Int)) = w4 at *
  have y0 : w4.cell? ⟨g, 0, none⟩ = some (.slice A s.ts.length c) := HG.out.c0
  have f0 := HG.out.fz 0
  have HD := hid (HG.out.back (s.ts.length - 1) (by show s.ts.length - 1 < s.ts.length; omega))
  clear h0
  go_region
  all_goals
   go_wp2_with fail
   go_end0
   have e : failP code s = ⟨s.ts.drop (s.ts.length - 1), s.ns, s.ds, s.du, code, s.ts.length⟩ := by unfold failP; rw [HZ.out]; rfl
   rw [e]
   exact ⟨rfl, ⟨_, _, HD.out.drew⟩, chg_drew (HC.out.set g 0 HO.out _)⟩
 ·have HZ := hid h0
  have h0b : ((s.fc : Int) == 0) = false := by simpa using h0
  have HD := hid (HF.out.back (s.ts.length - 1) (by omega))
  have f0 := HF.out.fz 0
  clear h0
  go_enter Tryz.func85, Tryz.ntmps85
  go_upto_region 2 with fail
  go_region
  all_goals
   go_wp2_with fail
   go_end0
   have e : failP code s = ⟨s.ts.drop (s.ts.length - 1), s.ns, s.ds, s.du, s.fc, s.fi⟩ := by unfold failP; rw [if_neg HZ.out, if_neg HZ.out]
   rw [e]
   exact ⟨rfl, ⟨_, _, HD.out.drew⟩, chg_drew ((Chg.refl w O).set g 0 HO.out _)⟩
end Go.Proofs.YtfcccfplmdjndaaGreat

/- parse: the reader's small steps: what is due, what is passed, what is taken. -/
namespace Go.Proofs.YtfcccfplmdjndaaGreat
set_option linter.unusedSimpArgs false
set_option linter.unusedVariables false
open Go.RowKit

def Stp (w : World) (O : Nat → Prop) (g : Nat) (L : List Tk) (vs : List NV) (nv dv : Value) (s' : RS) (w' : World) : Prop := (∃ A' c', RdO w' O g L A' c' vs nv dv s') ∧ Chg w w' O
variable {w w' : World} {O S : Nat → Prop} {g : Nat} {L : List Tk} {A : Option Addr} {c : Nat} {vs : List NV} {nv dv : Value} {s : RS}
set_option maxRecDepth 100000 in
set_option maxHeartbeats 1000000 in
theorem owe_any (h : RdO w O g L A c vs nv dv s) (code : Nat) : Calls Tryz.prog 55 #[.pointer (some ⟨g, 0, none⟩), .int .i64 (code : Int)] w fun e w' => e = .returned (.tuple #[]) ∧ Stp w O g L vs nv dv (oweP code s) w' := by
 have x3 := h.c3
 have f3 := h.fz 3
 have HF := hid h
 have hog := h.bo.og
 have HO := hid hog
 clear h hog
 by_cases h0 : s.du = 0
 ·rw [h0] at x3
  have HZ := hid h0
  have HG := hid (HF.out.setD code)
  clear h0
  go_enter Tryz.func55, Tryz.ntmps55
  go_wp2_with fail
  go_end0
  have e : oweP code s = ⟨s.ts, s.ns, s.ds, code, s.fc, s.fi⟩ := by unfold oweP; rw [HZ.out]; rfl
  rw [e]
  exact ⟨rfl, ⟨_, _, HG.out⟩, (Chg.refl w O).set g 3 HO.out _⟩
 ·have HZ := hid h0
  have h0b : ((s.du : Int) == 0) = false := by simpa using h0
  clear h0
  go_enter Tryz.func55, Tryz.ntmps55
  go_wp2_with fail
  go_end0
  have e : oweP code s = s := by unfold oweP; rw [if_neg HZ.out]
  rw [e]
  exact ⟨rfl, ⟨_, _, HF.out⟩, Chg.refl _ _⟩
set_option maxRecDepth 100000 in
set_option maxHeartbeats 1000000 in
theorem pass_any (h : RdO w O g L A c vs nv dv s) : Calls Tryz.prog 56 #[.pointer (some ⟨g, 0, none⟩)] w fun e w' => e = .returned (.tuple #[]) ∧ Stp w O g L vs nv dv (passP s) w' := by
 have x0 := h.c0
 have x3 := h.c3
 have HF := hid h
 have hog := h.bo.og
 have HO := hid hog
 have HFa := hid (fun W (k : RdO W O g L A c vs nv dv s) => fail_any k s.du)
 have hp := h.pos
 by_cases h0 : s.du = 0
 ·rw [h0] at x3
  have HZ := hid h0
  by_cases h1 : 1 < s.ts.length
  ·have hne : ¬ c = 1 := by have := h.cap; omega
   have HG := hid (h.back 1 h1)
   have f0 := h.fz 0
   have h1' : (1 : Int) < (s.ts.length : Int) := by omega
   have HP1 := hid h1
   clear h0 h hog
   go_enter Tryz.func56, Tryz.ntmps56
   go_wp2_with fail
   go_end0
   have e : passP s = ⟨s.ts.drop 1, s.ns, s.ds, s.du, s.fc, s.fi⟩ := by unfold passP; rw [if_neg (by rw [HZ.out]; decide), if_pos HP1.out]
   rw [e]
   exact ⟨rfl, ⟨_, _, HG.out⟩, (Chg.refl w O).set g 0 HO.out _⟩
  ·have h1' : ¬ (1 : Int) < (s.ts.length : Int) := by omega
   have HP1 := hid h1
   clear h0 h hog
   go_enter Tryz.func56, Tryz.ntmps56
   go_wp2_with fail
   go_end0
   have e : passP s = s := by unfold passP; rw [if_neg (by rw [HZ.out]; decide), if_neg HP1.out]
   rw [e]
   exact ⟨rfl, ⟨_, _, HF.out⟩, Chg.refl _ _⟩
 ·have HZ := hid h0
  have h0b : ((s.du : Int) == 0) = false := by simpa using h0
  clear h0 h hog
  go_enter Tryz.func56, Tryz.ntmps56
  go_wp2_with (go_at_call 85; (with_reducible refine (HFa.out w HF.out).mono ?_); rintro e w3 ⟨rfl, hs⟩; have HS := hid hs; clear hs)
  go_end0
  have e : passP s = failP s.du s := by unfold passP; rw [if_pos HZ.out]
  rw [e]
  exact ⟨rfl, HS.out⟩
theorem Stp.after {w3 : World} {s' : RS} (hb : Below w.heap.size w w3) (h : Stp w3 O g L vs nv dv s' w') : Stp w O g L vs nv dv s' w' := ⟨h.1, (Chg.of_below hb O).trans h.2⟩
theorem al_below (w : World) (o : Obj) : Below w.heap.size w (w.alloc o) := (Below.refl _ _).alloc (Nat.le_refl _) o
set_option maxRecDepth 100000 in
set_option maxHeartbeats 1000000 in
theorem took_any (h : RdO w O g L A c vs nv dv s) (k : Nat) (x : List UInt8) : Calls Tryz.prog 86 #[.pointer (some ⟨g, 0, none⟩), .int .i64 (k : Int), .string ⟨x.toArray⟩] w fun e w' => e = .returned (.bool (tookP k x s).1) ∧ Stp w O g L vs nv dv (tookP k x s).2 w' := by
 have HF := hid h
 have HN := hid (next_any h)
 have HP := hid (fun W (k : RdO W O g L A c vs nv dv s) => pass_any k)
 have HX := hid h.nx
 clear h
 generalize hdT L s.ts.length = t at *
 obtain ⟨k', p', x'⟩ := t
 have q0 := tok_f0 (k' : Int) (p' : Int) ⟨x'.toArray⟩
 have q2 := tok_f2 (k' : Int) (p' : Int) ⟨x'.toArray⟩
 obtain ⟨P, hP⟩ : ∃ P, P = tookP k x s := ⟨_, rfl⟩
 have HQ := hid hP
 rw [← hP]
 clear hP
 by_cases h1 : k' = k
 ·by_cases h2 : x' = x
  ·have HE := hid (show isP k x s = true from by unfold isP; rw [HX.out, h1, h2]; simp)
   clear HX
   subst h1 h2
   go_enter Tryz.func86, Tryz.ntmps86
   go_wp2_with (first
    | (go_at_call 51; (with_reducible refine HN.out.mono ?_); rintro e w3 ⟨rfl, hb3⟩; have HF3 := hid (HF.out.keep hb3); have HB3 := hid hb3; clear hb3; unfold tokV; simp only)
    | (go_at_call 56; (with_reducible refine (HP.out _ (HF3.out.keep (al_below _ _))).mono ?_); rintro e w4 ⟨rfl, hs4⟩; have HS := hid (Stp.after (HB3.out.trans ((al_below _ _).mono HB3.out.size)) hs4); clear hs4))
   go_ret
   rw [HQ.out]
   unfold tookP
   rw [if_pos HE.out]
   exact ⟨rfl, HS.out⟩
  ·have hs : (x' == x) = false := by simpa using h2
   have HE := hid (show ¬ isP k x s = true from by unfold isP; rw [HX.out]; simp [h2])
   clear h2 HX
   subst h1
   go_enter Tryz.func86, Tryz.ntmps86
   go_wp2_with (go_at_call 51; (with_reducible refine HN.out.mono ?_); rintro e w3 ⟨rfl, hb3⟩; have HF3 := hid (HF.out.keep hb3); have HB3 := hid hb3; clear hb3; unfold tokV; simp only)
   go_ret
   rw [HQ.out]
   unfold tookP
   rw [if_neg HE.out]
   exact ⟨rfl, ⟨_, _, HF3.out.keep (al_below _ _)⟩, Chg.of_below (HB3.out.trans ((al_below _ _).mono HB3.out.size)) _⟩
 ·have h1' : ¬ (k' : Int) = (k : Int) := by omega
  have h1b : ((k' : Int) == (k : Int)) = false := by simpa using h1'
  have HE := hid (show ¬ isP k x s = true from by unfold isP; rw [HX.out]; simp [h1])
  clear h1 HX
  go_enter Tryz.func86, Tryz.ntmps86
  go_wp2_with (go_at_call 51; (with_reducible refine HN.out.mono ?_); rintro e w3 ⟨rfl, hb3⟩; have HF3 := hid (HF.out.keep hb3); have HB3 := hid hb3; clear hb3; unfold tokV; simp only)
  go_ret
  rw [HQ.out]
  unfold tookP
  rw [if_neg HE.out]
  exact ⟨rfl, ⟨_, _, HF3.out.keep (al_below _ _)⟩, Chg.of_below (HB3.out.trans ((al_below _ _).mono HB3.out.size)) _⟩
end Go.Proofs.YtfcccfplmdjndaaGreat
