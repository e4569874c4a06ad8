/- lex: Same of tokens that are alike. -/
import Derived.Test.YtmefllfmcjjbaaaLxP
namespace Go.Proofs.Ytmefllfmcjjbaaa
open Go.RowKit

set_option maxRecDepth 100000 in
theorem same1_any (k p q : Nat) (X : ByteArray) (w : World) : Calls Try.prog 22 #[.agg #[.int .i64 (k : Int), .int .i64 (p : Int), .string X], .agg #[.int .i64 (k : Int), .int .i64 (q : Int), .string X]] w fun e w' => e = .returned (.bool true) ∧ Below w.heap.size w w' := by
  have hb1 : Below w.heap.size w (w.alloc (.cells #[.int .i64 (k : Int), .int .i64 (p : Int), .string X] 33)) := (Below.refl _ _).alloc (Nat.le_refl _) _
  have hb2 := hb1.alloc (Nat.le_of_lt (show w.heap.size < (w.alloc (.cells #[.int .i64 (k : Int), .int .i64 (p : Int), .string X] 33)).heap.size by simp)) (.cells #[.int .i64 (k : Int), .int .i64 (q : Int), .string X] 33)
  have HB := hid hb2
  have hF := (Blk.fresh w 33 [.int .i64 (k : Int), .int .i64 (p : Int), .string X]).alloc (.cells #[.int .i64 (k : Int), .int .i64 (q : Int), .string X] 33)
  have hG := Blk.fresh (w.alloc (.cells #[.int .i64 (k : Int), .int .i64 (p : Int), .string X] 33)) 33 [.int .i64 (k : Int), .int .i64 (q : Int), .string X]
  rw [World.size_alloc] at hG
  have c0 := Blk.at hF 0
  have c2 := Blk.at hF 2
  have d0 := Blk.at hG 0
  have d2 := Blk.at hG 2
  simp only [List.getElem?_cons_zero, List.getElem?_cons_succ] at c0 c2 d0 d2
  clear hF hG hb1 hb2
  go_enter Try.func22, Try.ntmps22
  go_wp2
  go_ret
  exact ⟨by simp, HB.out⟩
/-- What the loop holds: both lists of tokens. -/
structure SmSt (w : World) (A B : Option Addr) (ts us : List Tk) (W : World) : Prop where
  bel : Below w.heap.size w W
  ra : RdK W A ts
  rb : RdK W B us
theorem SmSt.step {w W W' : World} {A B : Option Addr} {ts us : List Tk} (h : SmSt w A B ts us W) (hb : Below W.heap.size W W') : SmSt w A B ts us W' := ⟨h.bel.trans (hb.mono h.bel.size), h.ra.keep hb, h.rb.keep hb⟩
theorem Alike.len {a b : List Tk} (h : Alike a b) : a.length = b.length := by
  have := congrArg List.length h
  simpa using this
theorem Alike.get {a b : List Tk} (h : Alike a b) (j : Nat) (h1 : j < a.length) (h2 : j < b.length) : a[j].k = b[j].k ∧ a[j].x = b[j].x := by
  have h3 : (a.map (fun t => (t.k, t.x)))[j]'(by simpa using h1) = (b.map (fun t => (t.k, t.x)))[j]'(by simpa using h2) := by
    have : ∀ (x y : List (Nat × List UInt8)) (e : x = y) (hx : j < x.length) (hy : j < y.length), x[j] = y[j] := fun x y e hx hy => by subst e; rfl
    exact this _ _ h _ _
  simp only [List.getElem_map, Prod.mk.injEq] at h3
  exact h3
set_option maxRecDepth 100000 in
set_option maxHeartbeats 4000000 in
theorem equal_any {w : World} {A B : Option Addr} {ca cb n : Nat} {ts us : List Tk} (hA : RdK w A ts) (hB : RdK w B us) (h : Alike ts us) (hn : ts.length = n) (hn9 : n ≤ 4294967296) :
    Calls Try.prog 21 #[.slice A n ca, .slice B n cb, .func (.func 22) #[] #[]] w fun e w' => e = .returned (.bool true) ∧ Below w.heap.size w w' := by
  have HL := hid h
  have HU := hid (show us.length = n by rw [← h.len, hn])
  have HN := hid hn
  have HS := hid (show SmSt w A B ts us w from ⟨Below.refl _ _, hA, hB⟩)
  have HEq := hid (fun k p q X W => same1_any k p q X W)
  have eg := enters_of (P := Try.prog) Try.func22 (by kernel_rfl) rfl
  clear hA hB h hn
  go_enter Try.func21, Try.ntmps21
  go_wp2_with fail
  go_loopg [17] (n + 1) (fun m i wr => ∃ j : Nat, j ≤ n ∧ n < m + j ∧ i = .int .i64 (j : Int) ∧ Hid (SmSt w A B ts us wr))
  case atStart => exact ⟨0, by omega, by omega, rfl, HS⟩
  case round =>
    clear HS
    obtain ⟨j, hj, hm, rfl, HS⟩ := hrel
    obtain ⟨m, rfl⟩ : ∃ m, gk = m + 1 := ⟨gk - 1, by omega⟩
    rcases Nat.lt_or_ge j n with hlt | hge
    · have n1 : (j : Int) < (n : Int) := by omega
      have hjt : j < ts.length := by have := HN.out; omega
      have hju : j < us.length := by have := HU.out; omega
      obtain ⟨b, o, e, hbl, hcs⟩ := HS.out.ra (by omega)
      obtain ⟨b', o', e', hbl', hcs'⟩ := HS.out.rb (by omega)
      obtain ⟨c0, c1, c2⟩ := hcs j hjt
      obtain ⟨d0, d1, d2⟩ := hcs' j hju
      obtain ⟨g1, g2⟩ := HL.out.get j hjt hju
      rw [← g1] at d0
      rw [← g2] at d2
      subst e
      subst e'
      obtain ⟨k, hk⟩ : ∃ k, k = ts[j].k := ⟨_, rfl⟩
      obtain ⟨p, hp⟩ : ∃ p, p = ts[j].p := ⟨_, rfl⟩
      obtain ⟨q, hq⟩ : ∃ q, q = us[j].p := ⟨_, rfl⟩
      obtain ⟨X, hX⟩ : ∃ X : ByteArray, X = ⟨ts[j].x.toArray⟩ := ⟨_, rfl⟩
      rw [← hk] at c0 d0
      rw [← hp] at c1
      rw [← hq] at d1
      rw [← hX] at c2 d2
      have hb1 : Below wr.heap.size wr (wr.alloc (.cells #[.int .i64 (k : Int), .int .i64 (p : Int), .string X] 33)) := (Below.refl _ _).alloc (Nat.le_refl _) _
      have HF := hid (Blk.fresh wr 33 [.int .i64 (k : Int), .int .i64 (p : Int), .string X])
      have y0 := (World.cell?_of_block (w := wr) (w' := wr.alloc (.cells #[.int .i64 (k : Int), .int .i64 (p : Int), .string X] 33)) (a := ⟨b', o' + j * 3, none⟩) (hb1.block b' hbl')).trans d0
      have y1 := (World.cell?_of_block (w := wr) (w' := wr.alloc (.cells #[.int .i64 (k : Int), .int .i64 (p : Int), .string X] 33)) (a := ⟨b', o' + j * 3 + 1, none⟩) (hb1.block b' hbl')).trans d1
      have y2 := (World.cell?_of_block (w := wr) (w' := wr.alloc (.cells #[.int .i64 (k : Int), .int .i64 (p : Int), .string X] 33)) (a := ⟨b', o' + j * 3 + 2, none⟩) (hb1.block b' hbl')).trans d2
      have HS1 := hid (HS.out.step hb1)
      clear hb1 hbl hbl' hcs hcs' HS d0 d1 d2 g1 g2 hk hp hq hX
      go_upto_region 6 with (fail)
      generalize wr.alloc (.cells #[.int .i64 (k : Int), .int .i64 (p : Int), .string X] 33) = w1 at *
      generalize wr.heap.size = g1 at *
      clear c0 c1 c2
      have hb2 : Below w1.heap.size w1 (w1.alloc (.cells #[.int .i64 (k : Int), .int .i64 (q : Int), .string X] 33)) := (Below.refl _ _).alloc (Nat.le_refl _) _
      have HF2 := hid (HF.out.keep hb2)
      have HG2 := hid (Blk.fresh w1 33 [.int .i64 (k : Int), .int .i64 (q : Int), .string X])
      have HS2 := hid (HS1.out.step hb2)
      clear hb2 HS1 HF
      go_upto_region 7 with (fail)
      change Code.wp _ _ _ _ (w1.alloc (.cells [.int .i64 (k : Int), .int .i64 (q : Int), .string X].toArray 33))
      generalize w1.alloc (.cells [.int .i64 (k : Int), .int .i64 (q : Int), .string X].toArray 33) = w2 at *
      generalize w1.heap.size = g2 at *
      clear y0 y1 y2
      obtain ⟨c0, c1, c2⟩ : w2.cell? ⟨g1, 0, none⟩ = some (.int .i64 (k : Int)) ∧ w2.cell? ⟨g1, 1, none⟩ = some (.int .i64 (p : Int)) ∧ w2.cell? ⟨g1, 2, none⟩ = some (.string X) := ⟨Blk.at HF2.out 0, Blk.at HF2.out 1, Blk.at HF2.out 2⟩
      obtain ⟨d0, d1, d2⟩ : w2.cell? ⟨g2, 0, none⟩ = some (.int .i64 (k : Int)) ∧ w2.cell? ⟨g2, 1, none⟩ = some (.int .i64 (q : Int)) ∧ w2.cell? ⟨g2, 2, none⟩ = some (.string X) := ⟨Blk.at HG2.out 0, Blk.at HG2.out 1, Blk.at HG2.out 2⟩
      go_wp2_with fail
      refine (HEq.out k p q X _).mono ?_
      rintro e w3 ⟨rfl, hb3⟩
      have HS3 := hid (HS2.out.step hb3)
      clear hb3 HS2 HF2 HG2 c0 c1 c2 d0 d1 d2
      go_wp2_with fail
      go_roundg m
      case measure => omega
      case rel => exact ⟨j + 1, by omega, by omega, by go_num, HS3⟩
    · obtain rfl : j = n := by omega
      go_wp2_with fail
      go_ret
      exact ⟨rfl, HS.out.bel⟩
set_option maxRecDepth 100000 in
theorem same_tokens {w : World} {A B : Option Addr} {ca cb n : Nat} {ts us : List Tk} (hA : RdK w A ts) (hB : RdK w B us) (h : Alike ts us) (hn : ts.length = n) (hn9 : n ≤ 4294967296) :
    Calls Try.prog 12 #[.slice A n ca, .slice B n cb] w fun e w' => e = .returned (.bool true) ∧ Below w.heap.size w w' := by
  have HE := hid (equal_any (ca := ca) (cb := cb) hA hB h hn hn9)
  clear hA hB h hn hn9
  go_enter Try.func12, Try.ntmps12
  go_wp2_with fail
  refine HE.out.mono ?_
  rintro e w1 ⟨rfl, hb⟩
  have HB := hid hb
  clear hb
  go_wp2
  go_ret
  exact ⟨rfl, HB.out⟩
end Go.Proofs.Ytmefllfmcjjbaaa
