/- lex: the law LexBack, walked. -/
import Derived.Test.YtmefllfmcjjbaaaLxQ
import Derived.Test.YtmefllfmcjjbaaaLxX
namespace Go.Proofs.Ytmefllfmcjjbaaa
open Go.RowKit

theorem chain_x {l : List UInt8} : ∀ (ts : List Tk) (a : Nat), Chain l a ts → ∀ t ∈ ts, t.x.length ≤ l.length
  | [], _, h => h.elim
  | t :: ts, a, h => by
    obtain ⟨hp, h⟩ := h
    intro u hu
    rcases h with ⟨_, h2, h3⟩ | ⟨n, hf, hc⟩
    · subst h3
      simp only [List.mem_cons, List.not_mem_nil, or_false] at hu
      subst hu
      rw [h2]
      simp
    · rcases List.mem_cons.1 hu with rfl | hu
      · have := tk_x_len hf
        rw [List.length_drop] at this
        omega
      · exact chain_x ts _ hc u hu
set_option maxRecDepth 100000 in
set_option maxHeartbeats 8000000 in
theorem back_walk (s : ByteArray) (w : World) : Calls Try.prog 4 #[.string s] w fun e w' => e = .returned (.bool true) ∧ Below w.heap.size w w' := by
  have HCu := hid (fun W => cuts_any W)
  by_cases hs : 3000 < s.size
  · have hs' : (3000 : Int) < (s.size : Int) := by omega
    go_enter Try.func4, Try.ntmps4
    go_wp2_with fail
    refine (HCu.out _).mono ?_
    rintro e w0 ⟨rfl, hb0⟩
    have HB := hid hb0
    clear hb0
    go_wp2_with fail
    go_ret
    exact ⟨rfl, HB.out⟩
  have hs' : ¬ (3000 : Int) < (s.size : Int) := by omega
  have hlen : s.data.toList.length = s.size := rfl
  have HSc := hid (fun W => scan_any s W)
  have HNe := hid (show ∀ e, scanT s.data.toList = .error e → e.1 ≠ 0 from fun e h => scanT_err h)
  go_enter Try.func4, Try.ntmps4
  go_wp2_with fail
  refine (HCu.out _).mono ?_
  rintro e w0 ⟨rfl, hb0⟩
  have HB0 := hid hb0
  clear hb0 HCu
  go_wp2_with fail
  refine (HSc.out _).mono ?_
  rintro e w1 hp
  obtain ⟨hb1, A, n, cap, ts, c, p, rfl, hcap, hn, hrd, hr⟩ := ScanR.un hp HNe.out
  have HN := hid hn
  clear hn
  have hal : Below w1.heap.size w1 (w1.alloc (.cells #[.int .i64 (c : Int), .int .i64 (p : Int)] 26)) := (Below.refl _ _).alloc (Nat.le_refl _) _
  have HB1 := hid (HB0.out.trans (hb1.mono HB0.out.size))
  have HG := hid (show WhSt w A ts (w1.alloc (.cells #[.int .i64 (c : Int), .int .i64 (p : Int)] 26)) from WhSt.step ⟨HB1.out, hrd⟩ hal)
  have f0 : (w1.alloc (.cells #[.int .i64 (c : Int), .int .i64 (p : Int)] 26)).cell? ⟨w1.heap.size, 0, none⟩ = some (.int .i64 (c : Int)) := Blk.at (Blk.fresh w1 26 [.int .i64 (c : Int), .int .i64 (p : Int)]) 0
  clear hp hb1 hrd hal HSc HNe HB0 HB1
  go_upto_region 6 with (fail)
  generalize w1.heap.size = n1 at *
  generalize w1.alloc (.cells #[.int .i64 (c : Int), .int .i64 (p : Int)] 26) = w2 at *
  rcases hr with ⟨rfl, rfl, hok⟩ | ⟨hc, _, hts⟩
  rotate_left
  · have hc' : ¬ (c : Int) = 0 := by omega
    obtain rfl : n = 0 := by rw [HN.out, hts]; rfl
    clear hc
    go_wp2_with fail
    go_ret
    exact ⟨rfl, HG.out.bel⟩
  obtain ⟨hjl, us, hus, hal⟩ := back_scan hok (by omega)
  have hl := scan_ok_len hok
  have hcx := chain_x ts 0 (chain_scan hok)
  have HJ := hid (fun W (h : RdK W A ts) => join_any (cap := cap) h (by omega) (fun t ht => by have := hcx t ht; omega) (by omega))
  rw [← HN.out] at HJ
  have HSc2 := hid (fun W => scan_any ⟨(joinT ts).toArray⟩ W)
  rw [show (⟨(joinT ts).toArray⟩ : ByteArray).data.toList = joinT ts from rfl, hus] at HSc2
  have HAl := hid hal
  have hn5 : n ≤ 4294967296 := by have := HN.out; omega
  clear hjl hus hal hl hcx hok
  generalize (⟨(joinT ts).toArray⟩ : ByteArray) = J at *
  go_wp2_with fail
  refine (HJ.out _ HG.out.rd).mono ?_
  rintro e w3 ⟨rfl, hb3⟩
  have HG3 := hid (HG.out.step hb3)
  clear hb3 HG HJ f0
  go_wp2_with fail
  refine (HSc2.out _).mono ?_
  rintro e w4 hp4
  obtain ⟨hb4, A2, n2, cap2, us2, c2, p2, rfl, hcap2, hn2, hrd2, hr2⟩ := ScanR.un hp4 (fun e h => by cases h)
  rcases hr2 with ⟨rfl, rfl, hok2⟩ | ⟨_, h, _⟩
  rotate_left
  · cases h
  injection hok2 with hok2
  subst hok2
  have HG4 := hid (HG3.out.step hb4)
  obtain rfl : n2 = n := by rw [hn2, HAl.out.len, HN.out]
  have hal2 : Below w4.heap.size w4 (w4.alloc (.cells #[.int .i64 0, .int .i64 0] 26)) := (Below.refl _ _).alloc (Nat.le_refl _) _
  have HG5 := hid (HG4.out.step hal2)
  have HR5 := hid (hrd2.keep hal2)
  have g0 : (w4.alloc (.cells #[.int .i64 0, .int .i64 0] 26)).cell? ⟨w4.heap.size, 0, none⟩ = some (.int .i64 0) := Blk.at (Blk.fresh w4 26 [.int .i64 0, .int .i64 0]) 0
  have HSm := hid (fun W (h1 : RdK W A ts) (h2 : RdK W A2 us) => same_tokens (ca := cap) (cb := cap2) (n := n2) h1 h2 (by unfold Alike; exact HAl.out.symm) HN.out.symm hn5)
  clear hp4 hb4 hrd2 hal2 HG4 HG3 HSc2 hn2
  go_upto_region 10 with (fail)
  refine (HSm.out _ HG5.out.rd HR5.out).mono ?_
  rintro e w6 ⟨rfl, hb6⟩
  have HG6 := hid (HG5.out.step hb6)
  clear hb6 HG5 HR5 g0 HSm
  go_wp2_with fail
  go_ret
  exact ⟨rfl, HG6.out.bel⟩
end Go.Proofs.Ytmefllfmcjjbaaa
