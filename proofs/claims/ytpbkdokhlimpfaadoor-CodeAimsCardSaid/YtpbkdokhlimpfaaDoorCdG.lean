/- code: a kind's name; the law's small. -/
import Derived.Test.YtpbkdokhlimpfaaDoorCdC
import Derived.Laws.Tables
namespace Go.Proofs.YtpbkdokhlimpfaaDoor
set_option linter.unusedSimpArgs false
set_option linter.unusedVariables false
open Go.RowKit

theorem wpList_build {P : Program} {ops : Array Oper} {rest : List Oper} {op : Oper} {a : Act} {w : World} {Q : Exit → Act → World → Prop} (hgd : op.guard = none) (t : TypeId) (parts : Array (Nat × Operand)) (ho : op.op = .build t parts) (cells : Array Value)
    (hb : P.built t (parts.map fun (i, x) => (i, a.eval x)).toList = some cells) (h : wpList P ops Q rest (a.put op.dst (.agg cells)) w) : wpList P ops Q (op :: rest) a w :=
  wpList_plain hgd fun K hK => by
    unfold Oper.wp
    have e : (execOp a.eval op).run P w = .ok (.value (.agg cells)) w := by
      unfold execOp
      simp only [ho]
      have := run_build (P := P) w t (parts.map fun (i, x) => (i, a.eval x)) cells hb
      simp [this]
    rw [e]
    exact hK _ _ h
def nmL : List ByteArray := [⟨#[]⟩, ⟨#[111, 112, 101, 110]⟩, ⟨#[99, 108, 111, 115, 101]⟩, ⟨#[102, 105, 120, 101, 100]⟩, ⟨#[118, 97, 114, 105, 110, 116]⟩, ⟨#[116, 111, 107, 101, 110]⟩, ⟨#[98, 108, 111, 98]⟩, ⟨#[101, 110, 116, 101, 114]⟩, ⟨#[108, 101, 97, 118, 101]⟩, ⟨#[99, 111, 117, 110, 116]⟩, ⟨#[110, 101, 120, 116]⟩, ⟨#[106, 117, 109, 112]⟩, ⟨#[109, 97, 110, 121]⟩, ⟨#[115, 119, 105, 116, 99, 104]⟩, ⟨#[99, 104, 111, 105, 99, 101]⟩, ⟨#[99, 97, 108, 108]⟩, ⟨#[114, 101, 116, 117, 114, 110]⟩, ⟨#[109, 97, 114, 107]⟩, ⟨#[115, 116, 111, 112]⟩, ⟨#[115, 117, 109]⟩, ⟨#[101, 110, 100]⟩]
/-- A kind's name. -/
def nmS (k : Int) : ByteArray := if amg k 21 = true then nmL.getD k.toNat ⟨#[]⟩ else ⟨#[]⟩
set_option maxRecDepth 100000 in
set_option maxHeartbeats 4000000 in
theorem Name_any (k : Int) (w : World) : Calls Tryd.prog 23 #[.int .i64 k] w fun e w' => e = .returned (.string (nmS k)) ∧ Below w.heap.size w w' := by
  obtain ⟨RR, hRR⟩ : ∃ RR : Ending → World → Prop, RR = fun e w' => e = .returned (.string (nmS k)) ∧ Below w.heap.size w w' := ⟨_, rfl⟩
  rw [← hRR]
  have HRR := hid hRR
  clear hRR
  obtain ⟨T, hT⟩ : ∃ T : TypeId, T = 76 := ⟨_, rfl⟩
  have HAm := hid (among_any k 21)
  obtain ⟨X, hX⟩ : ∃ X : Array Value, X = (nmL.map Value.string).toArray := ⟨_, rfl⟩
  have HZX := hid (And.intro hX trivial)
  have HB := hid (row_new w 76 #[.string ⟨#[]⟩, .string ⟨#[]⟩, .string ⟨#[]⟩, .string ⟨#[]⟩, .string ⟨#[]⟩, .string ⟨#[]⟩, .string ⟨#[]⟩, .string ⟨#[]⟩, .string ⟨#[]⟩, .string ⟨#[]⟩, .string ⟨#[]⟩, .string ⟨#[]⟩, .string ⟨#[]⟩, .string ⟨#[]⟩, .string ⟨#[]⟩, .string ⟨#[]⟩, .string ⟨#[]⟩, .string ⟨#[]⟩, .string ⟨#[]⟩, .string ⟨#[]⟩, .string ⟨#[]⟩] X)
  have HK := hid (setRow_heap _ w.heap.size _ X _ _ (heap_alloc_new w (.cells #[.string ⟨#[]⟩, .string ⟨#[]⟩, .string ⟨#[]⟩, .string ⟨#[]⟩, .string ⟨#[]⟩, .string ⟨#[]⟩, .string ⟨#[]⟩, .string ⟨#[]⟩, .string ⟨#[]⟩, .string ⟨#[]⟩, .string ⟨#[]⟩, .string ⟨#[]⟩, .string ⟨#[]⟩, .string ⟨#[]⟩, .string ⟨#[]⟩, .string ⟨#[]⟩, .string ⟨#[]⟩, .string ⟨#[]⟩, .string ⟨#[]⟩, .string ⟨#[]⟩, .string ⟨#[]⟩] 76)))
  obtain ⟨W4, hW4⟩ : ∃ W4, W4 = (w.alloc (.cells #[.string ⟨#[]⟩, .string ⟨#[]⟩, .string ⟨#[]⟩, .string ⟨#[]⟩, .string ⟨#[]⟩, .string ⟨#[]⟩, .string ⟨#[]⟩, .string ⟨#[]⟩, .string ⟨#[]⟩, .string ⟨#[]⟩, .string ⟨#[]⟩, .string ⟨#[]⟩, .string ⟨#[]⟩, .string ⟨#[]⟩, .string ⟨#[]⟩, .string ⟨#[]⟩, .string ⟨#[]⟩, .string ⟨#[]⟩, .string ⟨#[]⟩, .string ⟨#[]⟩, .string ⟨#[]⟩] 76)).setRow w.heap.size X := ⟨_, rfl⟩
  rw [← hW4] at HB HK
  have HW4 := hid hW4
  have HSf := hid (show (Tryd.prog.info? 76).map (·.size) = some X.size by rw [hX]; kernel_rfl)
  have HOf := hid (show X.all (·.oneCell') = true by rw [hX]; decide +kernel)
  have HXs := hid (show (21 : Nat) = X.size by rw [hX]; rfl)
  clear hX hW4
  obtain ⟨am, ham⟩ : ∃ am, am = amg k 21 := ⟨_, rfl⟩
  rw [← ham] at HAm
  have HA := hid ham
  clear ham hT T
  go_enter Tryd.func23, Tryd.ntmps23
  go_upto_region 2 with (first | (refine wpList_build rfl 76 _ rfl X (by rw [HZX.out.1]; kernel_rfl) ?_) | ((with_reducible refine wpList_store_row rfl 76 _ _ rfl w.heap.size X ?_ ?_ 76 #[.string ⟨#[]⟩, .string ⟨#[]⟩, .string ⟨#[]⟩, .string ⟨#[]⟩, .string ⟨#[]⟩, .string ⟨#[]⟩, .string ⟨#[]⟩, .string ⟨#[]⟩, .string ⟨#[]⟩, .string ⟨#[]⟩, .string ⟨#[]⟩, .string ⟨#[]⟩, .string ⟨#[]⟩, .string ⟨#[]⟩, .string ⟨#[]⟩, .string ⟨#[]⟩, .string ⟨#[]⟩, .string ⟨#[]⟩, .string ⟨#[]⟩, .string ⟨#[]⟩, .string ⟨#[]⟩] (heap_alloc_new w _) HSf.out ?_ HOf.out ?_); exact rfl; exact rfl; exact HXs.out; rw [← HW4.out]))
  generalize W4 = w1 at *
  have HAm1 := hid (HAm.out w1)
  cases am
  · go_wp2_with (go_at_call 33; (with_reducible refine HAm1.out.mono ?_); rintro e w4 ⟨rfl, rfl⟩)
    show RR (.returned (.string ⟨#[]⟩)) _
    rw [HRR.out]
    exact ⟨by unfold nmS; rw [← HA.out, if_neg (by simp)], HB.out⟩
  · have hk : 0 ≤ k ∧ k < 21 := by
      have h := HA.out.symm
      unfold amg at h
      simpa using h
    obtain ⟨q, rfl⟩ : ∃ q : Nat, k = (q : Int) := ⟨k.toNat, by omega⟩
    have hq : (q : Int) < 21 := hk.2
    have hq0 : (0 : Int) ≤ (q : Int) := hk.1
    have HE := hid (show nmS (q : Int) = nmL.getD q ⟨#[]⟩ by unfold nmS; rw [← HA.out, if_pos rfl]; rfl)
    have l0 : w1.cell? ⟨w.heap.size, q, none⟩ = some (.string (nmL.getD q ⟨#[]⟩)) := by
      have h := Blk.at (show Blk w1 w.heap.size 76 (nmL.map Value.string) by have h0 := HK.out; rw [HZX.out.1] at h0; exact h0) q
      rw [h, List.getElem?_map]
      have hl : q < nmL.length := by show q < 21; omega
      rw [List.getElem?_eq_getElem hl, List.getD_eq_getElem?_getD, List.getElem?_eq_getElem hl]
      rfl
    clear hk
    go_wp2_with (go_at_call 33; (with_reducible refine HAm1.out.mono ?_); rintro e w4 ⟨rfl, rfl⟩)
    show RR (.returned (.string _)) _
    rw [HRR.out]
    exact ⟨by rw [HE.out, List.getD_eq_getElem?_getD], HB.out⟩
/-- A program is small. -/
def smS (p : PT) : Bool := p.ss.all (fun x => decide (x.ws.length ≤ 300)) && decide (p.ss.length ≤ 200)
end Go.Proofs.YtpbkdokhlimpfaaDoor
