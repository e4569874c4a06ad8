/- lex: the law LexWhole, walked. -/
import Derived.Test.YtmefllfmcjjbaaaLxW
namespace Go.Proofs.Ytmefllfmcjjbaaa
open Go.RowKit

/-- What the law holds: the tokens. -/
structure WhSt (w : World) (A : Option Addr) (ts : List Tk) (W : World) : Prop where
  bel : Below w.heap.size w W
  rd : RdK W A ts
theorem WhSt.step {w W W' : World} {A : Option Addr} {ts : List Tk} (h : WhSt w A ts W) (hb : Below W.heap.size W W') : WhSt w A ts W' := ⟨h.bel.trans (hb.mono h.bel.size), h.rd.keep hb⟩
theorem tk_x_len {l : List UInt8} {k : Nat} {x : List UInt8} {n : Nat} (h : front l = .ok (k, x, n)) : x.length ≤ l.length := by
  have h1 := front_show h 0
  have h2 := congrArg List.length h1
  rw [List.length_take] at h2
  unfold shT at h2
  by_cases h3 : k = 3
  · rw [if_pos h3] at h2
    simp only [List.length_cons, List.length_append, List.length_nil] at h2
    omega
  · rw [if_neg h3] at h2
    simp only at h2
    omega
set_option maxRecDepth 100000 in
set_option maxHeartbeats 8000000 in
theorem whole_walk (s : ByteArray) (w : World) : Calls Try.prog 5 #[.string s] w fun e w' => e = .returned (.bool true) ∧ Below w.heap.size w w' := by
  have HCu := hid (fun W => cuts_any W)
  by_cases hs : 3000 < s.size
  · have hs' : (3000 : Int) < (s.size : Int) := by omega
    go_enter Try.func5, Try.ntmps5
    go_wp2_with fail
    refine (HCu.out _).mono ?_
    rintro e w0 ⟨rfl, hb0⟩
    have HB := hid hb0
    clear hb0
    go_wp2_with fail
    go_ret
    exact ⟨rfl, HB.out⟩
  have hs' : ¬ (3000 : Int) < (s.size : Int) := by omega
  have HSc := hid (fun W => scan_any s W)
  have HNe := hid (show ∀ e, scanT s.data.toList = .error e → e.1 ≠ 0 from fun e h => scanT_err h)
  go_enter Try.func5, Try.ntmps5
  go_wp2_with fail
  refine (HCu.out _).mono ?_
  rintro e w0 ⟨rfl, hb0⟩
  have HB0 := hid hb0
  clear hb0 HCu
  go_wp2_with fail
  refine (HSc.out _).mono ?_
  rintro e w1 hp
  obtain ⟨hb1, A, n, cap, ts, c, p, rfl, hcap, hn, hrd, hr⟩ := ScanR.un hp HNe.out
  have HN := hid hn
  clear hn
  have hal : Below w1.heap.size w1 (w1.alloc (.cells #[.int .i64 (c : Int), .int .i64 (p : Int)] 26)) := (Below.refl _ _).alloc (Nat.le_refl _) _
  have HB1 := hid (HB0.out.trans (hb1.mono HB0.out.size))
  have HG := hid (show WhSt w A ts (w1.alloc (.cells #[.int .i64 (c : Int), .int .i64 (p : Int)] 26)) from WhSt.step ⟨HB1.out, hrd⟩ hal)
  have f0 : (w1.alloc (.cells #[.int .i64 (c : Int), .int .i64 (p : Int)] 26)).cell? ⟨w1.heap.size, 0, none⟩ = some (.int .i64 (c : Int)) := Blk.at (Blk.fresh w1 26 [.int .i64 (c : Int), .int .i64 (p : Int)]) 0
  clear hp hb1 hrd hal HSc HNe HB0 HB1
  go_upto_region 6 with (fail)
  generalize w1.heap.size = n1 at *
  generalize w1.alloc (.cells #[.int .i64 (c : Int), .int .i64 (p : Int)] 26) = w2 at *
  rcases hr with ⟨rfl, rfl, hok⟩ | ⟨hc, _, _⟩
  rotate_left
  · have hc' : ¬ (c : Int) = 0 := by omega
    go_wp2_with fail
    go_ret
    exact ⟨rfl, HG.out.bel⟩
  have HCh := hid (chain_scan hok)
  have hl := scan_ok_len hok
  have hlen : s.data.toList.length = s.size := rfl
  have hn3 : n ≤ 3001 := by have := HN.out; omega
  clear hok hl
  go_wp2_with fail
  go_loopg [5, 24] (n + 1) (fun m a i wr => ∃ (j q : Nat), j ≤ n ∧ n < m + j ∧ i = .int .i64 (j : Int) ∧ a = .int .i64 (q : Int) ∧ q ≤ s.size ∧ Hid (Chain s.data.toList q (ts.drop j)) ∧ Hid (WhSt w A ts wr))
  case atStart => exact ⟨0, 0, by omega, by omega, rfl, rfl, by omega, HCh, HG⟩
  case round =>
    clear HG HCh f0
    obtain ⟨j, q, hj, hm, rfl, rfl, hq, HCh, HG⟩ := hrel
    obtain ⟨m, rfl⟩ : ∃ m, gk = m + 1 := ⟨gk - 1, by omega⟩
    rcases Nat.lt_or_ge j n with hlt | hge
    rotate_left
    · exfalso
      have h := HCh.out
      rw [List.drop_eq_nil_of_le (by have := HN.out; omega)] at h
      exact h
    have n1' : (j : Int) < (n : Int) := by omega
    have hjt : j < ts.length := by have := HN.out; omega
    obtain ⟨b, o, e, hbl, hcs⟩ := HG.out.rd (by omega)
    obtain ⟨c0, c1, c2⟩ := hcs j hjt
    obtain ⟨T, hT⟩ : ∃ T, T = ts[j] := ⟨_, rfl⟩
    rw [← hT] at c0 c1 c2
    have hch := HCh.out
    rw [List.drop_eq_getElem_cons hjt, ← hT] at hch
    obtain ⟨hp, hch⟩ := hch
    have hgl := gap_le false (s.data.toList.drop q)
    rw [List.length_drop, hlen] at hgl
    have hps : T.p ≤ s.size := by omega
    have HPQ := hid (show T.p = q + gap false (s.data.toList.drop q) from hp)
    have HGap := hid (fun W => Gap_any (s.extract q s.size) (by rw [drop_str s q hq]; show (s.data.toList.drop q).toArray.size ≤ 65536; simp; omega) W)
    rw [show (s.extract q s.size).data.toList = s.data.toList.drop q by rw [drop_str s q hq]] at HGap
    generalize gap false (s.data.toList.drop q) = G at *
    have hTx : T.x.length ≤ 65536 := by
      rcases hch with ⟨_, e2, _⟩ | ⟨k, e2, _⟩
      · rw [e2]; simp
      · have := tk_x_len e2
        rw [List.length_drop, hlen] at this
        omega
    have HSh := hid (fun W => show_any T hTx W)
    have hal : Below wr.heap.size wr (wr.alloc (.cells #[.int .i64 (T.k : Int), .int .i64 (T.p : Int), .string ⟨T.x.toArray⟩] 33)) := (Below.refl _ _).alloc (Nat.le_refl _) _
    have HG5 := hid (HG.out.step hal)
    have hF := Blk.fresh wr 33 [.int .i64 (T.k : Int), .int .i64 (T.p : Int), .string ⟨T.x.toArray⟩]
    have HF := hid hF
    have hrev : ∀ W : World, Blk W wr.heap.size 33 [.int .i64 (T.k : Int), .int .i64 (T.p : Int), .string ⟨T.x.toArray⟩] → W.cell? ⟨wr.heap.size, 0, none⟩ = some (.int .i64 (T.k : Int)) ∧ W.cell? ⟨wr.heap.size, 1, none⟩ = some (.int .i64 (T.p : Int)) ∧ W.cell? ⟨wr.heap.size, 2, none⟩ = some (.string ⟨T.x.toArray⟩) := fun W h => ⟨Blk.at h 0, Blk.at h 1, Blk.at h 2⟩
    have HRev := hid hrev
    obtain ⟨d0, d1, d2⟩ := HRev.out _ HF.out
    have HCh2 := hid hch
    have HTe := hid hT
    have hlt5 : ¬ (T.p : Int) < (q : Int) := by have := HPQ.out; omega
    have hneq : ((G : Int) != (T.p : Int) - (q : Int)) = false := by
      have h : (G : Int) = (T.p : Int) - (q : Int) := by have := HPQ.out; omega
      rw [← h]; simp
    clear hF hrev hcs hbl hal HG hT hch HCh hp
    subst e
    go_upto_region 12 with (fail)
    generalize (⟨T.x.toArray⟩ : ByteArray) = X at *
    generalize wr.alloc (.cells #[.int .i64 (T.k : Int), .int .i64 (T.p : Int), .string X] 33) = w5 at *
    generalize wr.heap.size = g5 at *
    clear c0 c1 c2
    have hq' : (q : Int) ≤ (s.size : Int) := by omega
    have HGq := hid (fun n => (HGap.out (w5.drewN n)))
    go_quiet (first | (go_at_call 13; exact Calls.quiet_of_same (HGq.out _)))
    have HG6 := hid (HG5.out.step (below_drewN (Below.refl _ _) nq))
    have HF6 := hid (show Blk (w5.drewN nq) g5 33 [.int .i64 (T.k : Int), .int .i64 (T.p : Int), .string X] from HF.out)
    clear HG5 HF d0 d1 d2 HGq HGap
    generalize w5.drewN nq = w6 at *
    obtain ⟨d0, d1, d2⟩ := HRev.out _ HF6.out
    go_wp2_with fail
    refine (HSh.out _).mono ?_
    rintro e w7 ⟨rfl, hb7⟩
    have HG7 := hid (HG6.out.step hb7)
    have HF7 := hid (HF6.out.keep hb7)
    clear HG6 HF6 d0 d1 d2 hb7 HSh hneq hlt5
    obtain ⟨d0, d1, d2⟩ := HRev.out _ HF7.out
    rcases HCh2.out with ⟨e1, e2, e3⟩ | ⟨k, hf, hnx⟩
    · have hk5 : (T.k : Int) = 5 := by rw [e2]; rfl
      have hpl : (T.p : Int) = (s.size : Int) := by
        have h := congrArg List.length e1
        rw [List.length_drop, List.length_nil, hlen] at h
        omega
      have hsh : (⟨(shT T).toArray⟩ : ByteArray) = ⟨#[]⟩ := by rw [e2]; rfl
      rw [hsh]
      rw [hk5] at d0
      rw [hpl] at d1
      clear e1 e2 e3 hk5 hpl hsh HCh2
      go_wp2_with fail
      go_ret
      exact ⟨rfl, HG7.out.bel⟩
    · have hfl := front_len hf
      have hk5 : ¬ (T.k : Int) = 5 := by omega
      have hpl : (T.p : Int) ≤ (s.size : Int) := by omega
      have hsh := front_show hf T.p
      have hsh2 : shT T = (s.data.toList.drop T.p).take k := hsh
      rw [List.length_drop, hlen] at hfl
      have hsl : (shT T).length = k := by
        rw [hsh2, List.length_take, List.length_drop, hlen]
        omega
      have HH := hid (fun W => Try.strings_HasPrefix (s.extract T.p s.size) ⟨(shT T).toArray⟩ W)
      rw [show Lib.hasPrefix (s.extract T.p s.size).data.toList (⟨(shT T).toArray⟩ : ByteArray).data.toList = true by
        rw [drop_str s T.p hps]
        show Lib.hasPrefix (s.data.toList.drop T.p) (shT T) = true
        rw [hsh2]
        exact pre_take _ _] at HH
      have hYs : (⟨(shT T).toArray⟩ : ByteArray).size = k := by
        show (shT T).toArray.size = k
        simp [hsl]
      have HCh3 := hid (show Chain s.data.toList (T.p + k) (ts.drop (j + 1)) from hnx)
      have hks : T.p + k ≤ s.size := by omega
      have hw1 : wrap64 ((T.p : Int) + (k : Int)) = (T.p : Int) + (k : Int) := by unfold wrap64; omega
      clear hsh hsh2 hsl hfl hf hnx HCh2
      generalize (⟨(shT T).toArray⟩ : ByteArray) = Y at *
      go_wp2_with fail
      refine (HH.out _).mono ?_
      rintro e w8 ⟨rfl, rfl⟩
      go_wp2_with fail
      go_roundg m
      case measure => omega
      case rel => exact ⟨j + 1, T.p + k, by omega, by omega, by go_num, by go_num, hks, HCh3, HG7⟩
end Go.Proofs.Ytmefllfmcjjbaaa
