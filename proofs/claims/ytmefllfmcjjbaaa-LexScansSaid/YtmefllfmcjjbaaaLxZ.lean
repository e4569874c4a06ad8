/- lex: LexScans. -/
import Derived.Test.YtmefllfmcjjbaaaLxY
import Derived.Test.YtmefllfmcjjbaaaLxX
namespace Go.Proofs.Ytmefllfmcjjbaaa
open Go.RowKit
set_option linter.unusedSimpArgs false
set_option linter.unusedVariables false

theorem RdK.of_own_r {w : World} {base : Nat} {A : Option Addr} {n c : Nat} {ts : List Tk} (h : w.ownsRow base 34 3 (.slice A n c) n (flatK ts)) (hn : n = ts.length) : RdK w A ts := fun h0 => by
  rcases h.2 with ⟨_, hz⟩ | ⟨g, cap, cur, hv, hb, hg, hnc, hcm, hcs, ht⟩
  · omega
  · injection hv with hA _ _
    refine ⟨g, 0, hA, (Array.getElem?_eq_some_iff.1 hg).1, fun j hj => ?_⟩
    have key : ∀ i (hi : i < 3), w.cell? ⟨g, 0 + j * 3 + i, none⟩ = ts[j].cells[i]? := by
      intro i hi
      rw [Nat.zero_add, cell_of_row w g (j * 3 + i) cur _ (0, 0) hg]
      have e := flatK_get ts j i hj hi
      rw [← ht, List.getElem?_take_of_lt (by omega)] at e
      rw [← Array.getElem?_toList, e]
    exact ⟨key 0 (by omega), key 1 (by omega), key 2 (by omega)⟩
theorem RfR.un {r : Except (Nat × Nat) (List Tk)} {w : World} {e : Ending} {w' : World} (h : RfR r w e w') : Below w.heap.size w w' ∧ ∃ (A : Option Addr) (n cap : Nat) (ts : List Tk) (c p : Nat), e = .returned (.tuple #[.slice A n cap, .int .i64 (p : Int), .int .i64 (c : Int)]) ∧ n = ts.length ∧ RdK w' A ts ∧ ((c = 0 ∧ p = 0 ∧ r = .ok ts) ∨ (r = .error (c, p) ∧ ts = [])) := by
  obtain ⟨hb, h⟩ := h
  refine ⟨hb, ?_⟩
  cases r with
  | error x =>
    obtain ⟨c, p⟩ := x
    exact ⟨none, 0, 0, [], c, p, h, rfl, fun h => absurd h (by simp), .inr ⟨rfl, rfl⟩⟩
  | ok ts =>
    obtain ⟨v, rfl, hown⟩ := h
    obtain ⟨A, cap, rfl⟩ := owns_shape hown
    exact ⟨A, ts.length, cap, ts, 0, 0, rfl, rfl, RdK.of_own_r hown rfl, .inl ⟨rfl, rfl, rfl⟩⟩
set_option maxRecDepth 100000 in
set_option maxHeartbeats 8000000 in
theorem scans_walk (s : ByteArray) (w : World) : Calls Try.prog 3 #[.string s] w fun e w' => e = .returned (.bool true) ∧ Below w.heap.size w w' := by
  have HCu := hid (fun W => cuts_any W)
  by_cases hs : 3000 < s.size
  · have hs' : (3000 : Int) < (s.size : Int) := by omega
    go_enter Try.func3, Try.ntmps3
    go_wp2_with fail
    refine (HCu.out _).mono ?_
    rintro e w0 ⟨rfl, hb0⟩
    have HB := hid hb0
    clear hb0
    go_wp2_with fail
    go_ret
    exact ⟨rfl, HB.out⟩
  have hs' : ¬ (3000 : Int) < (s.size : Int) := by omega
  have HSc := hid (fun W => scan_any s W)
  have HRf := hid (fun W => scan_ref s (by omega) W)
  have HNe := hid (show ∀ e, scanT s.data.toList = .error e → e.1 ≠ 0 from fun e h => scanT_err h)
  have hlen : s.data.toList.length = s.size := rfl
  go_enter Try.func3, Try.ntmps3
  go_wp2_with fail
  refine (HCu.out _).mono ?_
  rintro e w0 ⟨rfl, hb0⟩
  have HB0 := hid hb0
  clear hb0 HCu
  go_wp2_with fail
  refine (HSc.out _).mono ?_
  rintro e w1 hp
  obtain ⟨hb1, A, n, cap, ts, c, p, rfl, hcap, hn, hrd, hr⟩ := ScanR.un hp HNe.out
  have HN := hid hn
  clear hn
  have hal : Below w1.heap.size w1 (w1.alloc (.cells #[.int .i64 (c : Int), .int .i64 (p : Int)] 26)) := (Below.refl _ _).alloc (Nat.le_refl _) _
  have HB1 := hid (HB0.out.trans (hb1.mono HB0.out.size))
  have HG := hid (show WhSt w A ts (w1.alloc (.cells #[.int .i64 (c : Int), .int .i64 (p : Int)] 26)) from WhSt.step ⟨HB1.out, hrd⟩ hal)
  have HFt := hid (Blk.fresh w1 26 [.int .i64 (c : Int), .int .i64 (p : Int)])
  have HR := hid hr
  clear hp hb1 hrd hal HSc HNe HB0 HB1 hr
  go_upto_region 6 with (fail)
  replace HFt := hid (show Blk (w1.alloc (.cells #[.int .i64 (c : Int), .int .i64 (p : Int)] 26)) w1.heap.size 26 [.int .i64 (c : Int), .int .i64 (p : Int)] from HFt.out)
  generalize w1.heap.size = n1 at *
  generalize w1.alloc (.cells #[.int .i64 (c : Int), .int .i64 (p : Int)] 26) = w2 at *
  go_wp2_with fail
  refine (HRf.out _).mono ?_
  rintro e w3 hp3
  obtain ⟨hb3, A2, n2, cap2, ts2, c2, p2, rfl, hn2, hrd2, hr2⟩ := RfR.un hp3
  have key : c2 = c ∧ p2 = p ∧ ts2 = ts := by
    rcases HR.out with ⟨h1, h2, h3⟩ | ⟨_, h3, h4⟩ <;> rcases hr2 with ⟨g1, g2, g3⟩ | ⟨g3, g4⟩
    · rw [h3] at g3; injection g3 with g3; exact ⟨by omega, by omega, g3.symm⟩
    · rw [h3] at g3; cases g3
    · rw [h3] at g3; cases g3
    · rw [h3] at g3; injection g3 with g3; injection g3 with a b; exact ⟨a.symm, b.symm, by rw [g4, h4]⟩
  have hnn : n2 = n := by rw [hn2, key.2.2]; exact HN.out.symm
  have hn3 : n ≤ 4294967296 := by
    rcases HR.out with ⟨_, _, h3⟩ | ⟨_, _, h4⟩
    · have := scan_ok_len h3
      have := HN.out
      omega
    · have := HN.out
      rw [h4] at this
      simp at this
      omega
  clear hr2 hn2 hp3 HR HRf
  obtain ⟨rfl, rfl, rfl⟩ := key
  subst hnn
  have HG3 := hid (HG.out.step hb3)
  have HFt3 := hid (HFt.out.keep hb3)
  have HR3 := hid hrd2
  have f0 := Blk.at HFt3.out 0
  have f1 := Blk.at HFt3.out 1
  simp only [List.getElem?_cons_zero, List.getElem?_cons_succ] at f0 f1
  clear hb3 HG HFt hrd2
  go_wp2_with fail
  clear f0 f1 HFt3
  go_loopg [45] (n2 + 1) (fun m i wr => ∃ j : Nat, j ≤ n2 ∧ n2 < m + j ∧ i = .int .i64 (j : Int) ∧ Hid (WhSt w A ts2 wr) ∧ Hid (RdK wr A2 ts2))
  case atStart => exact ⟨0, by omega, by omega, rfl, HG3, HR3⟩
  case round =>
    clear HG3 HR3
    obtain ⟨j, hj, hm, rfl, HG, HR⟩ := hrel
    obtain ⟨m, rfl⟩ : ∃ m, gk = m + 1 := ⟨gk - 1, by omega⟩
    rcases Nat.lt_or_ge j n2 with hlt | hge
    · have n1' : (j : Int) < (n2 : Int) := by omega
      have hjt : j < ts2.length := by have := HN.out; omega
      obtain ⟨b, o, e, hbl, hcs⟩ := HG.out.rd (by omega)
      obtain ⟨c0, c1, c2⟩ := hcs j hjt
      have hal : Below wr.heap.size wr (wr.alloc (.cells #[.int .i64 (ts2[j].k : Int), .int .i64 (ts2[j].p : Int), .string ⟨ts2[j].x.toArray⟩] 33)) := (Below.refl _ _).alloc (Nat.le_refl _) _
      have HG5 := hid (HG.out.step hal)
      have HR5 := hid (HR.out.keep hal)
      have HF := hid (Blk.fresh wr 33 [.int .i64 (ts2[j].k : Int), .int .i64 (ts2[j].p : Int), .string ⟨ts2[j].x.toArray⟩])
      obtain ⟨b2, o2, e2, hbl2, hcs2⟩ := HR5.out (by omega)
      obtain ⟨k0, k1, k2⟩ := hcs2 j hjt
      replace HF := hid (show Blk (wr.alloc (.cells #[.int .i64 (ts2[j].k : Int), .int .i64 (ts2[j].p : Int), .string ⟨ts2[j].x.toArray⟩] 33)) wr.heap.size 33 [.int .i64 (ts2[j].k : Int), .int .i64 (ts2[j].p : Int), .string ⟨ts2[j].x.toArray⟩] from HF.out)
      generalize ts2[j] = T at *
      generalize (⟨T.x.toArray⟩ : ByteArray) = X at *
      subst e e2
      clear hal hcs hcs2 hbl hbl2
      have HK0 := hid k0
      have HK1 := hid k1
      have HK2 := hid k2
      clear k0 k1 k2
      go_upto_region 12 with (fail)
      have d0 := Blk.at HF.out 0
      have d1 := Blk.at HF.out 1
      have d2 := Blk.at HF.out 2
      simp only [List.getElem?_cons_zero, List.getElem?_cons_succ] at d0 d1 d2
      have k0 := HK0.out
      have k1 := HK1.out
      have k2 := HK2.out
      generalize wr.alloc (.cells #[.int .i64 (T.k : Int), .int .i64 (T.p : Int), .string X] 33) = w5 at *
      generalize wr.heap.size = g5 at *
      clear c0 c1 c2 HK0 HK1 HK2
      go_quiet (fail)
      have HG6 := hid (HG5.out.step (below_drewN (Below.refl _ _) nq))
      have HR6 := hid (HR5.out.keep (below_drewN (Below.refl _ _) nq))
      clear HG5 HR5 HF d0 d1 d2 k0 k1 k2
      generalize w5.drewN nq = w6 at *
      go_wp2_with fail
      go_roundg m
      case measure => omega
      case rel => exact ⟨j + 1, by omega, by omega, by go_num, HG6, HR6⟩
    · obtain rfl : j = n2 := by omega
      go_wp2_with fail
      go_ret
      exact ⟨rfl, HG.out.bel⟩
end Go.Proofs.Ytmefllfmcjjbaaa
