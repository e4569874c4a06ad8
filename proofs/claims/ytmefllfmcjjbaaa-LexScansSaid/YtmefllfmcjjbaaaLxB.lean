/- lex: what the cursor goes past. -/
import Derived.Test.YtmefllfmcjjbaaaLxA
import Derived.Test.YtmefllfmcjjbaaaShelf
namespace Go.Proofs.Ytmefllfmcjjbaaa
open Go.RowKit

theorem Calls.tells {f : Nat} {p : UInt8 → Bool} (h : Tells f p) (c : UInt8) (W : World) (n : Nat) : Calls Try.prog f #[.int .u8 ((c.toNat : Nat) : Int)] (W.drewN n) fun e w'' => e = .returned (.bool (p c)) ∧ ∃ m, w'' = W.drewN m :=
  (h c (W.drewN n)).mono fun _ _ ⟨he, q, hq⟩ => ⟨he, n + q, by rw [hq, World.drewN_drewN]⟩
theorem mid_str (s : ByteArray) (i e : Nat) (_ : i ≤ e) (_ : e ≤ s.size) : s.extract i e = ⟨((s.data.toList.drop i).take (e - i)).toArray⟩ := by
  apply ByteArray.ext
  rw [ByteArray.data_extract]
  apply Array.toList_inj.1
  simp only [Array.toList_extract, List.extract_eq_take_drop]
set_option maxRecDepth 100000 in
set_option maxHeartbeats 4000000 in
theorem past_any {w : World} {g : Nat} {s : ByteArray} {i : Nat} (h : Cu w g s i) (hi : i ≤ s.size) (hs : s.size ≤ 65536) (f : Nat) (p : UInt8 → Bool) (hf : Tells f p) (eg : ∀ args w, (callFunc f args).run Try.prog w = .ok (.enter f args) w) :
    Calls Try.prog 29 #[.pointer (some ⟨g, 0, none⟩), .func (.func f) #[] #[]] w fun e w' => e = .returned (.string ⟨((s.data.toList.drop i).take (span p (s.data.toList.drop i))).toArray⟩) ∧ Cu w' g s (i + span p (s.data.toList.drop i)) ∧ w.grownBy w' (some g) := by
  have HT := hid (fun c W n => Calls.tells hf c W n)
  obtain ⟨E, hE⟩ : ∃ E, E = i + span p (s.data.toList.drop i) := ⟨_, rfl⟩
  have hsp := span_le p (s.data.toList.drop i)
  rw [List.length_drop, show s.data.toList.length = s.size from rfl] at hsp
  have hEs : E ≤ s.size := by omega
  have hiE : i ≤ E := by omega
  have HR := hid (show (⟨((s.data.toList.drop i).take (span p (s.data.toList.drop i))).toArray⟩ : ByteArray) = s.extract i E by
    rw [mid_str s i E hiE hEs, show E - i = span p (s.data.toList.drop i) by omega])
  rw [HR.out, ← hE]
  have HE := hid hE
  clear hE hsp HR
  obtain ⟨h0, h1, f1⟩ := h.cells
  have HC := hid h
  have HG := hid (grown_refl w (some g))
  clear h hf
  go_enter Try.func29, Try.ntmps29
  go_wp2_with fail
  go_loopg [] (s.size + 1) (fun m wr => ∃ j : Nat, j ≤ s.size ∧ i ≤ j ∧ s.size < m + j ∧ Hid (E = j + span p (s.data.toList.drop j)) ∧ Hid (Cu wr g s j) ∧ Hid (w.grownBy wr (some g)))
  case atStart => exact ⟨i, hi, Nat.le_refl _, by omega, HE, HC, HG⟩
  case round =>
    clear HE HC HG h0 h1 f1
    obtain ⟨j, hj, hij, hm, HE, HC, HG⟩ := hrel
    obtain ⟨m, rfl⟩ : ∃ m, gk = m + 1 := ⟨gk - 1, by omega⟩
    obtain ⟨h0, h1, f1⟩ := HC.out.cells
    rcases Nat.lt_or_ge j s.size with hlt | hge
    · have hlt2 : j < s.data.toList.length := hlt
      have n1 : (j : Int) < (s.size : Int) := by omega
      cases hp : p (s.data.toList[j]'hlt2) with
      | true =>
        have HE2 := hid (show E = (j + 1) + span p (s.data.toList.drop (j + 1)) by rw [HE.out, span_at hlt2, if_pos hp]; omega)
        have HT2 := hid (fun n => HT.out (s.data.toList[j]'hlt2) wr n)
        rw [hp] at HT2
        clear hp HE
        go_wp2_with fail
        go_quiet (first | (exact HT2.out _))
        have HC2 := hid ((HC.out.drewN nq).put (j + 1))
        have HG2 := hid (grown_trans (grown_trans HG.out (grown_drewN _ nq _)) (grown_set1 (wr.drewN nq) g 1 (.int .i64 ((j + 1 : Nat) : Int))))
        have e1 : ((j + 1 : Nat) : Int) = (j : Int) + 1 := by omega
        rw [e1] at HC2 HG2
        have hw : wrap64 ((j : Int) + 1) = (j : Int) + 1 := by unfold wrap64; omega
        go_wp2_with fail
        go_roundg m
        case measure => omega
        case rel => exact ⟨j + 1, by omega, by omega, by omega, HE2, HC2, HG2⟩
      | false =>
        have HE2 := hid (show E = j by rw [HE.out, span_at hlt2, if_neg (by rw [hp]; decide)]; omega)
        have HT2 := hid (fun n => HT.out (s.data.toList[j]'hlt2) wr n)
        rw [hp] at HT2
        clear hp HE
        go_wp2_with fail
        go_quiet (first | (exact HT2.out _))
        obtain rfl := HE2.out
        have HC2 := hid (HC.out.drewN nq)
        have HG2 := hid (grown_trans HG.out (grown_drewN _ nq _))
        have hw1 : (i : Int) ≤ (E : Int) := by omega
        have hw2 : (E : Int) ≤ (s.size : Int) := by omega
        go_wp2_with fail
        go_quiet (fail)
        go_wp2
        go_ret
        exact ⟨rfl, HC2.out, grown_trans HG2.out (grown_drewN _ _ _)⟩
    · obtain rfl : j = s.size := by omega
      have HE2 := hid (show E = s.size by rw [HE.out, span_end (show s.data.toList.length ≤ s.size from Nat.le_refl _)]; omega)
      clear HE
      go_wp2_with fail
      go_quiet (fail)
      obtain rfl := HE2.out
      have HC2 := hid (HC.out.drewN nq)
      have HG2 := hid (grown_trans HG.out (grown_drewN _ nq _))
      have hw1 : (i : Int) ≤ (s.size : Int) := by omega
      go_wp2_with fail
      go_quiet (fail)
      go_wp2
      go_ret
      exact ⟨rfl, HC2.out, grown_trans HG2.out (grown_drewN _ _ _)⟩
end Go.Proofs.Ytmefllfmcjjbaaa
