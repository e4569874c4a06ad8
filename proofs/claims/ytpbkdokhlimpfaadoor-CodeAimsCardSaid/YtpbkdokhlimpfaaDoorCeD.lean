/- code: Lines. -/
import Derived.Test.YtpbkdokhlimpfaaDoorCeC
namespace Go.Proofs.YtpbkdokhlimpfaaDoor
set_option linter.unusedSimpArgs false
set_option linter.unusedVariables false
open Go.RowKit Go.Sort

def linesS (l : List ST) : List ByteArray := l.mapIdx (fun i x => lineS (i : Int) x)
theorem lines_take (l : List ST) {q : Nat} (h : q < l.length) : linesS (l.take (q + 1)) = linesS (l.take q) ++ [lineS (q : Int) l[q]] := by
  unfold linesS
  rw [List.take_succ_eq_append_getElem h, List.mapIdx_concat, List.length_take]
  rw [Nat.min_eq_left (by omega)]
theorem one_str (w : World) (s : ByteArray) : Blk (w.alloc (.cells #[.string s] 9)) w.heap.size 9 (strs [s]) ∧ Below w.heap.size w (w.alloc (.cells #[.string s] 9)) := ⟨heap_alloc_new w _, (Below.refl _ _).alloc (Nat.le_refl _) _⟩
theorem StrS.nil (w : World) : StrS w [] none 0 0 w := ⟨Below.refl _ _, World.ownsRow_nil w _ _ _⟩
/-- What Lines answers. -/
def LinesR (w : World) (p : PT) (e : Ending) (w' : World) : Prop := ∃ A n c, e = .returned (.slice A n c) ∧ StrS w (linesS p.ss) A n c w'
set_option maxRecDepth 100000 in
set_option maxHeartbeats 4000000 in
theorem Lines_any (p : PT) (w : World) {P : Nat → Prop} (hP : PtOk w P p) (hl : p.ss.length ≤ 1000000) (hws : ∀ x ∈ p.ss, x.ws.length ≤ 1000000) (hx : ∀ x ∈ p.ss, StNum x) (ht : Tab10 w) : Calls Tryd.prog 18 #[p.val] w (LinesR w p) := by
  obtain ⟨RR, hRR⟩ : ∃ RR, RR = LinesR w p := ⟨_, rfl⟩
  rw [← hRR]
  have HRR := hid hRR
  clear hRR
  obtain ⟨hb, h1⟩ := box_prog w p
  have hpc : p.cells.toArray = #[.slice p.S.A p.S.n p.S.c, .int .i64 p.sl, .int .i64 p.su, .int .i64 p.au] := rfl
  rw [hpc] at hb h1
  have HX := hid h1
  have HB := hid hb
  have HP := hid hP
  have HNe := hid hP.n
  have HLi := hid (fun (q : Nat) (hq : q < p.ss.length) (b o : Nat) W (hA : At W b o p.ss[q]) (hW : Below w.heap.size w W) => line_any (q : Int) p.ss[q] b o W hA ((hP.each _ (List.getElem_mem hq)).keep hW) (hws _ (List.getElem_mem hq)) ⟨by omega, by omega⟩ (hx _ (List.getElem_mem hq)) (Tab10.keep ht hW))
  obtain ⟨x0, x1, x2, x3⟩ := h1.four
  have hnb : p.S.n ≤ 1000000 := by rw [hP.n]; exact hl
  unfold PT.val
  clear hb h1 hpc hP hl hws hx ht
  obtain ⟨ss, ⟨A, n, c⟩, sl, su, au⟩ := p
  simp only at *
  go_enter Tryd.func18, Tryd.ntmps18
  go_upto_region 2 with (fail)
  generalize w.alloc (.cells #[.slice A n c, .int .i64 sl, .int .i64 su, .int .i64 au] 24) = w1 at *
  go_wp2_with fail
  clear x0 x1 x2 x3
  go_loopg [3, 8] n (fun m v t wr => ∃ (q : Nat) (A2 : Option Addr) (c2 : Nat), q ≤ n ∧ n ≤ m + q ∧ v = .slice A2 q c2 ∧ t = .int .i64 (q : Int) ∧ Hid (BoxP wr w.heap.size ⟨ss, ⟨A, n, c⟩, sl, su, au⟩) ∧ Hid (StrS w (linesS (ss.take q)) A2 q c2 wr))
  case atStart => exact ⟨0, none, 0, by omega, by omega, rfl, rfl, HX, hid ⟨HB.out, World.ownsRow_nil _ _ _ _⟩⟩
  case round =>
    obtain ⟨q, A2, c2, hq, hm, rfl, rfl, HBr, HS⟩ := hrel
    by_cases hlt : q < n
    · have hlt' : (q : Int) < (n : Int) := by omega
      have hql : q < ss.length := by have h : n = ss.length := HNe.out; omega
      obtain ⟨b1, o1, hA, hbl, _, hAt⟩ := (HP.out.keep HS.out.bel).at hql
      have hA : A = some ⟨b1, o1, none⟩ := hA
      subst hA
      have HTk := hid (lines_take ss hql)
      have HL1 := hid (HLi.out q hql b1 (o1 + q * 265) wr hAt HS.out.bel)
      obtain ⟨x0, x1, x2, x3⟩ := BoxP.four (p := ⟨ss, ⟨some ⟨b1, o1, none⟩, n, c⟩, sl, su, au⟩) HBr.out
      simp only at x0
      obtain ⟨L, hL⟩ : ∃ L, L = lineS (q : Int) ss[q] := ⟨_, rfl⟩
      rw [← hL] at HL1 HTk
      clear hAt hbl hL hql x1 x2 x3
      go_wp2_with (first
        | (go_at_call 31; (with_reducible refine HL1.out.mono ?_); rintro e w5 ⟨rfl, hb5⟩; have HB5 := hid hb5; clear hb5; have HO5 := hid (one_str w5 L); have HS5 := hid ((HS.out.keep HB5.out).keep HO5.out.2))
        | ((refine wpList_appRow rfl _ _ 43 9 16 _ Tryd.underlying43 info_strV rfl (by decide) rfl w.heap.size (.slice A2 q c2) q _ ?_ HS5.out.row w5.heap.size 1 (strs [L]) ?_ HO5.out.1 rfl (strs_one _) ?_ HS5.out.bel.size ?_); rfl; rfl; omega; intro A7 c7 w7 hown7 hg7; have HS7 := hid (StrS.app (wr := wr) HS5.out hown7 hg7); have HG7 := hid hg7; clear hown7 hg7))
      go_roundg (n - (q + 1))
      case measure => omega
      case rel =>
        refine ⟨q + 1, A7, c7, by omega, by omega, rfl, by go_num, hid ?_, hid (by rw [HTk.out]; exact HS7.out)⟩
        exact Blk.grown (Blk.keep (Blk.keep HBr.out HB5.out) HO5.out.2) HG7.out (fun e => own_neN HS5.out.row (Blk.keep (Blk.keep HBr.out HB5.out) HO5.out.2) (by decide) e.symm)
    · obtain rfl : q = n := by omega
      have e : ss.take q = ss := by rw [show q = ss.length from HNe.out, List.take_length]
      rw [e] at HS
      clear e hlt
      go_wp2_with fail
      show RR (.returned (.slice A2 q c2)) wr
      rw [HRR.out]
      exact ⟨A2, q, c2, rfl, HS.out⟩
end Go.Proofs.YtpbkdokhlimpfaaDoor
