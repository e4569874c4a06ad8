/- crc.Table: Add. -/
import Derived.Test.YtmbbjhlpfgpibaaTab
namespace Go.Proofs.Ytmbbjhlpfgpibaa
open Go.RowKit

theorem not32 (s : Nat) (h : s < 4294967296) : bits .xor .u32 IntKind.u32.max (s : Int) = ((s ^^^ ones : Nat) : Int) := by
  have e : IntKind.u32.max = ((4294967295 : Nat) : Int) := rfl
  rw [e, u32_xor_nat 4294967295 s (by decide) h, Nat.xor_comm]
  rfl
theorem unsigned32 : ¬ IntKind.u32.signed = true := by decide

theorem crcF_take_succ (r : Nat) (l : List UInt8) (k : Nat) (h : k < l.length) : crcF r (l.take (k + 1)) = upd (crcF r (l.take k)) l[k].toNat := by
  rw [List.take_succ_eq_append_getElem h, crcF_snoc]

theorem Chg.setNew {a b : World} {S : Nat → Prop} (h : Chg a b S) (p i : Nat) (hp : a.heap.size ≤ p) (u : Value) : Chg a (b.setCell ⟨p, i, none⟩ u) S :=
  ⟨h.os, h.tape, h.output, by simpa [World.setCell] using h.size, fun k hk hn => (Below.heap_setCell b ⟨p, i, none⟩ u k (fun e => by simp only at e; omega)).trans (h.block k hk hn)⟩
theorem uadd_any (a : Addr) (x y : Nat) (w : World) (hc : w.cell? a = some (.int .u64 x)) (hz : w.frozen? a = false) (h : x + y < 18446744073709551616) :
    Calls Try.prog 45 #[.pointer (some a), .int .u64 y] w fun e w' => e = .returned (.int .u64 ((x + y : Nat) : Int)) ∧ w.setCell a (.int .u64 ((x + y : Nat) : Int)) = w' := by
  have hadd := run_call_add (P := Try.prog) Try.func64 (by kernel_rfl) (by kernel_rfl) (by kernel_rfl) .u64 (by kernel_rfl) (y := (y : Int)) (s := ((x + y : Nat) : Int)) hc hz (by simp [go_sem]; rw [IntKind.wrap_u64]; omega)
  clear hc h
  generalize x + y = z at *
  go_enter Try.func45, Try.ntmps45
  go_wp2
  go_ret
  exact ⟨rfl, rfl⟩

/-- A round of the sum, as the walk spells it. -/
theorem sum_round (r c : Nat) (hr : r < 4294967296) (hc : c < 256) :
    bits .xor .u8 ((r : Int) % 256) (c : Int) = (((r % 256) ^^^ c : Nat) : Int) ∧ (r % 256) ^^^ c < 256 ∧
    bits .xor .u32 ((r : Int) / 256) ((behindN ((r % 256) ^^^ c) : Nat) : Int) = ((upd r c : Nat) : Int) := by
  have hx : (r % 256) ^^^ c < 256 := Nat.xor_lt_two_pow (n := 8) (by omega) (by omega)
  refine ⟨?_, hx, ?_⟩
  · rw [show (r : Int) % 256 = ((r % 256 : Nat) : Int) by omega]
    exact u8_xor_nat _ _ (by omega) hc
  · rw [show (r : Int) / 256 = ((r / 256 : Nat) : Int) by omega]
    exact u32_xor_nat _ _ (by omega) (behindN_lt (by omega))

set_option maxRecDepth 8000 in
set_option maxHeartbeats 1000000 in
theorem add_any {w : World} {g b : Nat} {md : Bool} {A : Option Addr} {n c s : Nat} {l : List UInt8} (hT : Tab w g md b) (hR : RdB w A n l) (hs : s < 4294967296) (hn : n ≤ 9223372036854775807) (hb : b + n ≤ 9223372036854775807) :
    Calls Try.prog 19 #[.pointer (some ⟨g, 0, none⟩), .agg #[.int .u32 s], .slice A n c] w fun e w' => e = .returned (.agg #[.int .u32 ((more s l : Nat) : Int)]) ∧ Tab w' g true (b + n) ∧ Chg w w' (fun k => k = g) := by
  have hlen := hid hR.1
  have hne := hid (fun h0 => hT.ne hR h0)
  have hT2 := (hT.alloc (.cells #[.int .u32 s] 51)).alloc (.cells #[.int .u32 0] 51)
  have hR2 := (hR.alloc (.cells #[.int .u32 s] 51)).alloc (.cells #[.int .u32 0] 51)
  have hglt := hT.lt
  have hC2 : Chg w ((w.alloc (.cells #[.int .u32 s] 51)).alloc (.cells #[.int .u32 0] 51)) (fun k => k = g) := Chg.of_below (((Below.refl _ _).alloc (Nat.le_refl _) _).alloc (by simp) _) _
  have hX1 : Blk ((w.alloc (.cells #[.int .u32 s] 51)).alloc (.cells #[.int .u32 0] 51)) w.heap.size 51 [.int .u32 s] := (Blk.fresh w 51 [.int .u32 s]).alloc _
  have hX2 : Blk ((w.alloc (.cells #[.int .u32 s] 51)).alloc (.cells #[.int .u32 0] 51)) (w.heap.size + 1) 51 [.int .u32 0] := by
    have := Blk.fresh (w.alloc (.cells #[.int .u32 s] 51)) 51 [.int .u32 0]
    simpa using this
  have hmf : ∀ (fn : Fn) (first cap : Array Value) (w : World), (Instr.makeFunc fn first cap).run Try.prog w = .ok (.func fn first cap) w := fun _ _ _ _ => rfl
  have HT2 := hid hT2
  have HR2 := hid hR2
  have HX1 := hid hX1
  have HX2 := hid hX2
  have HC2 := hid hC2
  clear hT2 hR2 hX1 hX2 hC2 hT hR
  go_enter Try.func19, Try.ntmps19
  go_wp2_with fail
  generalize (w.alloc (.cells #[.int .u32 s] 51)).alloc (.cells #[.int .u32 0] 51) = w2 at *
  refine (doneTab HT2.out).mono ?_
  rintro e w3 ⟨rfl, hB3, hg3⟩
  have hR3 := HR2.out.grown hg3 (fun h0 a ha e => hne.out h0 a ha (by injection e))
  have hX13 := HX1.out.grown hg3 (by intro e; injection e with e; omega)
  have hX23 := HX2.out.grown hg3 (by intro e; injection e with e; omega)
  have hC3 := HC2.out.trans ((Chg.of_grown hg3).more (fun k _ h => by injection h with h; exact h.symm))
  have h260 := hB3.at 260
  rw [tbl_bytes rests_len] at h260
  have f260 := hB3.free 260
  have HB3 := hid hB3
  have HR3 := hid hR3
  have HX13 := hid hX13
  have HX23 := hid hX23
  have HC3 := hid hC3
  clear HT2 HR2 HX1 HX2 HC2 hB3 hg3 hR3 hX13 hX23 hC3
  go_wp2_with fail
  refine (uadd_any ⟨g, 260, none⟩ b n _ h260 f260 (by omega)).mono ?_
  rintro e w4 ⟨rfl, rfl⟩
  have hB4 := HB3.out.put 260 (.int .u64 ((b + n : Nat) : Int))
  rw [tbl_setBytes rests_len] at hB4
  have hg4 := grown_set w3 0 g 260 (.int .u64 ((b + n : Nat) : Int))
  have hR4 := HR3.out.grown hg4 (fun h0 a ha e => hne.out h0 a ha (by injection e))
  have hX14 := HX13.out.grown hg4 (by intro e; injection e with e; omega)
  have hX24 := HX23.out.grown hg4 (by intro e; injection e with e; omega)
  have hC4 := HC3.out.trans ((Chg.of_grown hg4).more (fun k _ h => by injection h with h; exact h.symm))
  have c14 := hX14.at 0
  simp only [List.getElem?_cons_zero] at c14
  have HB4 := hid hB4
  have HR4 := hid hR4
  have HX24 := hid hX24
  have HC4 := hid hC4
  change Hid (Blk (w3.setCell _ _) _ _ _) at HB4
  change Hid (RdB (w3.setCell _ _) _ _ _) at HR4
  change Hid (Blk (w3.setCell _ _) _ _ _) at HX24
  change Hid (Chg _ (w3.setCell _ _) _) at HC4
  change (w3.setCell _ _).cell? _ = _ at c14
  clear hB4 hg4 hR4 hX14 hX24 hC4 HB3 HR3 HX13 HX23 HC3 h260 f260
  generalize w3.setCell ⟨g, 260, none⟩ (.int .u64 ((b + n : Nat) : Int)) = w4 at *
  have hnot := not32 s hs
  have hus := unsigned32
  go_wp2
  clear c14 hnot
  generalize hr0 : s ^^^ ones = r0 at *
  have HR0 := hid hr0
  have hr0l : r0 < 4294967296 := by rw [← hr0]; exact xor_lt32 hs ones_lt
  clear hr0
  go_loop [7, 28] (fun v i => ∃ k r : Nat, k ≤ n ∧ i = .int .i64 k ∧ v = .int .u32 r ∧ r < 4294967296 ∧ Hid (r = crcF r0 (l.take k))) (fun _ i => n - (intOf i).toNat)
  case atStart => exact ⟨0, r0, by omega, rfl, rfl, hr0l, hid (by simp [crcF])⟩
  case round =>
    obtain ⟨k, r, hk, rfl, rfl, hr, HQ⟩ := hrel
    by_cases hlt : k < n
    · obtain ⟨bb, o, rfl, hb2, hc⟩ := HR4.out.2 (by omega)
      have hck := hc k (by rw [hlen.out]; exact hlt)
      have hby := (l[k]'(by rw [hlen.out]; exact hlt)).toNat_lt
      have HS := hid (crcF_take_succ r0 l k (by rw [hlen.out]; exact hlt))
      generalize (l[k]'(by rw [hlen.out]; exact hlt)).toNat = x at *
      obtain ⟨e1, e2, e3⟩ := sum_round r x hr hby
      have hu := upd_lt hr hby
      generalize hix : (r % 256) ^^^ x = ix at e1 e2 e3
      have hcell := HB4.out.at (3 + ix)
      rw [tbl_cell ix (by rw [rests_len]; exact e2), rests_at] at hcell
      unfold u32V at hcell
      have HU := hid (show upd r x = crcF r0 (l.take (k + 1)) by rw [HS.out, HQ.out])
      clear hc hix
      generalize behindN ix = y at *
      generalize upd r x = z at *
      go_wp2
      go_round
      case rel => exact ⟨k + 1, z, by omega, by go_num, rfl, hu, HU⟩
      case measure => simp [intOf]; omega
    · have hE := hid (show r = crcF r0 l by rw [HQ.out, List.take_of_length_le (by rw [hlen.out]; omega)])
      have hnot := not32 r hr
      have f0 := HX24.out.free 0
      have c0 := HX24.out.at 0
      simp only [List.getElem?_cons_zero] at c0
      have HV := hid (show r ^^^ ones = more s l by unfold more; rw [HR0.out, hE.out])
      have hcs := World.cell?_setCell_same w4 ⟨w.heap.size + 1, 0, none⟩ (.int .u32 ((r ^^^ ones : Nat) : Int)) c0
      go_wp2
      refine bodyPost_ret (v := .agg #[.int .u32 ((r ^^^ ones : Nat) : Int)]) (by simp [results, Try.results19, go_sem, hcs]) rfl ⟨by rw [HV.out], ⟨rests, rests_len, ?_, fun _ => rfl⟩, HC4.out.setNew _ _ (by omega) _⟩
      exact HB4.out.other (show g ≠ w.heap.size + 1 by omega) _
end Go.Proofs.Ytmbbjhlpfgpibaa
