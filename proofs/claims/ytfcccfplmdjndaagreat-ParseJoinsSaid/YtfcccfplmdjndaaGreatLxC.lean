/- lex: the cursor, what a byte is, and what is gone past. -/
import Derived.Test.YtfcccfplmdjndaaGreatDMath
import Derived.Test.YtfcccfplmdjndaaGreatTrA
import Derived.Deep.Cut
import Derived.OwnWalk
import Derived.Test.YtfcccfplmdjndaaGreatShelf
namespace Go.Proofs.YtfcccfplmdjndaaGreat
open Go.RowKit

def Cu (w : World) (g : Nat) (s : ByteArray) (i : Nat) : Prop := Blk w g 66 [.string s, .int .i64 (i : Int)]
theorem Cu.cells {w : World} {g : Nat} {s : ByteArray} {i : Nat} (h : Cu w g s i) : w.cell? ⟨g, 0, none⟩ = some (.string s) ∧ w.cell? ⟨g, 1, none⟩ = some (.int .i64 (i : Int)) ∧ w.frozen? ⟨g, 1, none⟩ = false := ⟨Blk.at h 0, Blk.at h 1, Blk.free h 1⟩
theorem Cu.drewN {w : World} {g : Nat} {s : ByteArray} {i : Nat} (h : Cu w g s i) (n : Nat) : Cu (w.drewN n) g s i := h
theorem Cu.drew {w : World} {g : Nat} {s : ByteArray} {i : Nat} (h : Cu w g s i) : Cu w.drew g s i := h
theorem Cu.put {w : World} {g : Nat} {s : ByteArray} {i : Nat} (h : Cu w g s i) (j : Nat) : Cu (w.setCell ⟨g, 1, none⟩ (.int .i64 (j : Int))) g s j := by
 have := Blk.put h 1 (.int .i64 (j : Int))
 simpa [Cu] using this
theorem Cu.keep {w w' : World} {g : Nat} {s : ByteArray} {i : Nat} (h : Cu w g s i) (hb : Below w.heap.size w w') : Cu w' g s i := Blk.keep h hb
theorem grown_refl (w : World) (g : Option Nat) : w.grownBy w g := ⟨rfl, rfl, rfl, Nat.le_refl _, fun _ _ _ => rfl⟩
theorem grown_set1 (w : World) (g o : Nat) (u : Value) : w.grownBy (w.setCell ⟨g, o, none⟩ u) (some g) :=
 ⟨rfl, rfl, rfl, by simp [World.setCell], fun j _ hne => Below.heap_setCell w ⟨g, o, none⟩ u j (fun e => hne (by rw [e]))⟩

theorem letter_any (c : Nat) (W : World) : Calls Tryz.prog 43 #[.int .u8 (c : Int)] W fun e w' => e = .returned (.bool (letN c)) ∧ ∃ q, w' = W.drewN q := by
 unfold letN
 by_cases h1 : 97 ≤ c <;> by_cases h2 : c ≤ 122 <;> by_cases h3 : 65 ≤ c <;> by_cases h4 : c ≤ 90 <;> by_cases h5 : c = 95
 all_goals first | (exfalso; omega) | skip
 all_goals
  have z1 : (97 : Int) ≤ (c : Int) ↔ 97 ≤ c := by omega
  have z2 : (c : Int) ≤ 122 ↔ c ≤ 122 := by omega
  have z3 : (65 : Int) ≤ (c : Int) ↔ 65 ≤ c := by omega
  have z4 : (c : Int) ≤ 90 ↔ c ≤ 90 := by omega
  have z5 : (c : Int) = 95 ↔ c = 95 := by omega
  go_enter Tryz.func43, Tryz.ntmps43
  go_wp2
  all_goals first | (exfalso; omega) | (go_ret; exact ⟨by simp [h1, h2, h3, h4, h5, z5], 0, rfl⟩)
theorem digit_any (c : Nat) (W : World) : Calls Tryz.prog 45 #[.int .u8 (c : Int)] W fun e w' => e = .returned (.bool (digN c)) ∧ ∃ q, w' = W.drewN q := by
 unfold digN
 by_cases h1 : 48 ≤ c <;> by_cases h2 : c ≤ 57
 all_goals first | (exfalso; omega) | skip
 all_goals
  have z1 : (48 : Int) ≤ (c : Int) ↔ 48 ≤ c := by omega
  have z2 : (c : Int) ≤ 57 ↔ c ≤ 57 := by omega
  go_enter Tryz.func45, Tryz.ntmps45
  go_wp2
  all_goals first | (exfalso; omega) | (go_ret; exact ⟨by simp [h1, h2], 0, rfl⟩)
def Tells (f : Nat) (p : UInt8 → Bool) : Prop := ∀ (c : UInt8) (W : World), Calls Tryz.prog f #[.int .u8 ((c.toNat : Nat) : Int)] W fun e w' => e = .returned (.bool (p c)) ∧ ∃ q, w' = W.drewN q
theorem digit_tells : Tells 45 digB := fun c W => digit_any c.toNat W
theorem name1_tells : Tells 81 namB := fun c W => by
 have HL := hid (fun W => letter_any c.toNat W)
 have HD := hid (fun W => digit_any c.toNat W)
 unfold namB
 generalize c.toNat = n at *
 cases e1 : letN n <;> cases e2 : digN n
 all_goals
  rw [e1] at HL
  rw [e2] at HD
  go_enter Tryz.func81, Tryz.ntmps81
  go_wp2_with (first
   | (go_at_call 43; refine (HL.out _).mono ?_; rintro e w' ⟨rfl, q1, rfl⟩)
   | (go_at_call 45; refine (HD.out _).mono ?_; rintro e w' ⟨rfl, q2, rfl⟩))
  go_ret
  first | exact ⟨rfl, _, rfl⟩ | exact ⟨rfl, _, World.drewN_drewN _ _ _⟩
theorem pattern1_tells : Tells 83 patB := fun c W => by
 unfold patB
 generalize c.toNat = n
 by_cases h1 : 32 ≤ n <;> by_cases h2 : n ≤ 126 <;> by_cases h3 : n = 47
 all_goals first | (exfalso; omega) | skip
 all_goals
  have z1 : (32 : Int) ≤ (n : Int) ↔ 32 ≤ n := by omega
  have z2 : (n : Int) ≤ 126 ↔ n ≤ 126 := by omega
  have z3 : (n : Int) = 47 ↔ n = 47 := by omega
  go_enter Tryz.func83, Tryz.ntmps83
  go_wp2
  all_goals first | (exfalso; omega) | (go_ret; refine ⟨?_, 0, rfl⟩; first | (simp [h1, h2, h3]; done) | (simp [h1, h2, h3]; rfl) | (simp [h1, h2, h3]; exact fun h => h3 (by have h : (n : Int) = 47 := h; omega)))
theorem skip1_tells : Tells 42 nlB := fun c W => by
 unfold nlB
 generalize c.toNat = n
 by_cases h3 : n = 10
 all_goals
  have z3 : (n : Int) = 10 ↔ n = 10 := by omega
  go_enter Tryz.func42, Tryz.ntmps42
  go_wp2
  all_goals first | (exfalso; omega) | (go_ret; exact ⟨by simp [h3, z3], 0, rfl⟩)
end Go.Proofs.YtfcccfplmdjndaaGreat

/- lex: what the cursor goes past. -/
namespace Go.Proofs.YtfcccfplmdjndaaGreat
open Go.RowKit

theorem Calls.tells {f : Nat} {p : UInt8 → Bool} (h : Tells f p) (c : UInt8) (W : World) (n : Nat) : Calls Tryz.prog f #[.int .u8 ((c.toNat : Nat) : Int)] (W.drewN n) fun e w'' => e = .returned (.bool (p c)) ∧ ∃ m, w'' = W.drewN m :=
 (h c (W.drewN n)).mono fun _ _ ⟨he, q, hq⟩ => ⟨he, n + q, by rw [hq, World.drewN_drewN]⟩
theorem mid_str (s : ByteArray) (i e : Nat) (_ : i ≤ e) (_ : e ≤ s.size) : s.extract i e = ⟨((s.data.toList.drop i).take (e - i)).toArray⟩ := by
 apply ByteArray.ext
 rw [ByteArray.data_extract]
 apply Array.toList_inj.1
 simp only [Array.toList_extract, List.extract_eq_take_drop]
set_option maxRecDepth 100000 in
set_option maxHeartbeats 4000000 in
theorem past_any {w : World} {g : Nat} {s : ByteArray} {i : Nat} (h : Cu w g s i) (hi : i ≤ s.size) (hs : s.size ≤ 65536) (f : Nat) (p : UInt8 → Bool) (hf : Tells f p) (eg : ∀ args w, (callFunc f args).run Tryz.prog w = .ok (.enter f args) w) :
  Calls Tryz.prog 41 #[.pointer (some ⟨g, 0, none⟩), .func (.func f) #[] #[]] w fun e w' => e = .returned (.string ⟨((s.data.toList.drop i).take (span p (s.data.toList.drop i))).toArray⟩) ∧ Cu w' g s (i + span p (s.data.toList.drop i)) ∧ w.grownBy w' (some g) := by
 have HT := hid (fun c W n => Calls.tells hf c W n)
 obtain ⟨E, hE⟩ : ∃ E, E = i + span p (s.data.toList.drop i) := ⟨_, rfl⟩
 have hsp := span_le p (s.data.toList.drop i)
 rw [List.length_drop, show s.data.toList.length = s.size from rfl] at hsp
 have hEs : E ≤ s.size := by omega
 have hiE : i ≤ E := by omega
 have HR := hid (show (⟨((s.data.toList.drop i).take (span p (s.data.toList.drop i))).toArray⟩ : ByteArray) = s.extract i E by
  rw [mid_str s i E hiE hEs, show E - i = span p (s.data.toList.drop i) by omega])
 rw [HR.out, ← hE]
 have HE := hid hE
 clear hE hsp HR
 obtain ⟨h0, h1, f1⟩ := h.cells
 have HC := hid h
 have HG := hid (grown_refl w (some g))
 clear h hf
 go_enter Tryz.func41, Tryz.ntmps41
 go_wp2_with fail
 go_loopg [] (s.size + 1) (fun m wr => ∃ j : Nat, j ≤ s.size ∧ i ≤ j ∧ s.size < m + j ∧ Hid (E = j + span p (s.data.toList.drop j)) ∧ Hid (Cu wr g s j) ∧ Hid (w.grownBy wr (some g)))
 case atStart => exact ⟨i, hi, Nat.le_refl _, by omega, HE, HC, HG⟩
 case round =>
  clear HE HC HG h0 h1 f1
  obtain ⟨j, hj, hij, hm, HE, HC, HG⟩ := hrel
  obtain ⟨m, rfl⟩ : ∃ m, gk = m + 1 := ⟨gk - 1, by omega⟩
  obtain ⟨h0, h1, f1⟩ := HC.out.cells
  rcases Nat.lt_or_ge j s.size with hlt | hge
  ·have hlt2 : j < s.data.toList.length := hlt
   have n1 : (j : Int) < (s.size : Int) := by omega
   cases hp : p (s.data.toList[j]'hlt2) with
   | true =>
    have HE2 := hid (show E = (j + 1) + span p (s.data.toList.drop (j + 1)) by rw [HE.out, span_at hlt2, if_pos hp]; omega)
    have HT2 := hid (fun n => HT.out (s.data.toList[j]'hlt2) wr n)
    rw [hp] at HT2
    clear hp HE
    go_wp2_with fail
    go_quiet (first | (exact HT2.out _))
    have HC2 := hid ((HC.out.drewN nq).put (j + 1))
    have HG2 := hid (grown_trans (grown_trans HG.out (grown_drewN _ nq _)) (grown_set1 (wr.drewN nq) g 1 (.int .i64 ((j + 1 : Nat) : Int))))
    have e1 : ((j + 1 : Nat) : Int) = (j : Int) + 1 := by omega
    rw [e1] at HC2 HG2
    have hw : wrap64 ((j : Int) + 1) = (j : Int) + 1 := by unfold wrap64; omega
    go_wp2_with fail
    go_roundg m
    case measure => omega
    case rel => exact ⟨j + 1, by omega, by omega, by omega, HE2, HC2, HG2⟩
   | false =>
    have HE2 := hid (show E = j by rw [HE.out, span_at hlt2, if_neg (by rw [hp]; decide)]; omega)
    have HT2 := hid (fun n => HT.out (s.data.toList[j]'hlt2) wr n)
    rw [hp] at HT2
    clear hp HE
    go_wp2_with fail
    go_quiet (first | (exact HT2.out _))
    obtain rfl := HE2.out
    have HC2 := hid (HC.out.drewN nq)
    have HG2 := hid (grown_trans HG.out (grown_drewN _ nq _))
    have hw1 : (i : Int) ≤ (E : Int) := by omega
    have hw2 : (E : Int) ≤ (s.size : Int) := by omega
    go_wp2_with fail
    go_quiet (fail)
    go_wp2
    go_ret
    exact ⟨rfl, HC2.out, grown_trans HG2.out (grown_drewN _ _ _)⟩
  ·obtain rfl : j = s.size := by omega
   have HE2 := hid (show E = s.size by rw [HE.out, span_end (show s.data.toList.length ≤ s.size from Nat.le_refl _)]; omega)
   clear HE
   go_wp2_with fail
   go_quiet (fail)
   obtain rfl := HE2.out
   have HC2 := hid (HC.out.drewN nq)
   have HG2 := hid (grown_trans HG.out (grown_drewN _ nq _))
   have hw1 : (i : Int) ≤ (s.size : Int) := by omega
   go_wp2_with fail
   go_quiet (fail)
   go_wp2
   go_ret
   exact ⟨rfl, HC2.out, grown_trans HG2.out (grown_drewN _ _ _)⟩
end Go.Proofs.YtfcccfplmdjndaaGreat

/- lex: a token. -/
namespace Go.Proofs.YtfcccfplmdjndaaGreat
open Go.RowKit

theorem drop_str (s : ByteArray) (k : Nat) (h : k ≤ s.size) : s.extract k s.size = ⟨(s.data.toList.drop k).toArray⟩ := by
 have h1 := mid_str s k s.size h (Nat.le_refl _)
 rw [h1, List.take_of_length_le (by rw [List.length_drop]; exact Nat.le_refl _)]
set_option maxRecDepth 100000 in
theorem rest_any {w : World} {g : Nat} {s : ByteArray} {i : Nat} (h : Cu w g s i) (hi : i ≤ s.size) (_ : s.size ≤ 65536) :
  Calls Tryz.prog 48 #[.pointer (some ⟨g, 0, none⟩)] w fun e w' => e = .returned (.string ⟨(s.data.toList.drop i).toArray⟩) ∧ ∃ q, w' = w.drewN q := by
 have HR := hid (drop_str s i hi)
 rw [← HR.out]
 clear HR
 obtain ⟨h0, h1, f1⟩ := h.cells
 have hw2 : (i : Int) ≤ (s.size : Int) := by omega
 go_enter Tryz.func48, Tryz.ntmps48
 go_wp2_with fail
 go_quiet (fail)
 go_wp2
 go_ret
 exact ⟨rfl, _, rfl⟩

def TkPost (r : Except Nat (Nat × List UInt8 × Nat)) (w : World) (g : Nat) (s : ByteArray) (i : Nat) (e : Ending) (w' : World) : Prop :=
 w.grownBy w' (some g) ∧ match r with
 | .error c => e = .returned (.tuple #[.int .i64 0, .string ⟨#[]⟩, .int .i64 (c : Int)])
 | .ok (k, x, n) => e = .returned (.tuple #[.int .i64 (k : Int), .string ⟨x.toArray⟩, .int .i64 0]) ∧ Cu w' g s (i + n)
theorem take_size (r : List UInt8) (n : Nat) (h : n ≤ r.length) : (⟨(r.take n).toArray⟩ : ByteArray).size = n := by
 show (r.take n).toArray.size = n
 simp
 omega
set_option maxRecDepth 100000 in
theorem name_any {w : World} {g : Nat} {s : ByteArray} {i : Nat} (h : Cu w g s i) (hi : i ≤ s.size) (hs : s.size ≤ 65536) :
  Calls Tryz.prog 44 #[.pointer (some ⟨g, 0, none⟩)] w (TkPost (if 24 < span namB (s.data.toList.drop i) then .error 2 else .ok (1, (s.data.toList.drop i).take (span namB (s.data.toList.drop i)), span namB (s.data.toList.drop i))) w g s i) := by
 have HP := hid (past_any h hi hs 81 namB name1_tells (enters_of Tryz.func81 (by kernel_rfl) rfl))
 have hsz := take_size (s.data.toList.drop i) (span namB (s.data.toList.drop i)) (span_le _ _)
 generalize s.data.toList.drop i = r at *
 generalize span namB r = n at *
 obtain ⟨X, hX⟩ : ∃ X : ByteArray, X = ⟨(r.take n).toArray⟩ := ⟨_, rfl⟩
 rw [← hX] at HP hsz
 have HX := hid hX
 clear hX h
 by_cases h24 : 24 < n
 ·rw [if_pos h24]
  have e24 : (24 : Int) < (X.size : Int) := by omega
  go_enter Tryz.func44, Tryz.ntmps44
  go_wp2_with fail
  refine HP.out.mono ?_
  rintro e w1 ⟨rfl, hc, hg⟩
  have HG := hid hg
  clear hc hg
  go_wp2
  go_ret3
  exact ⟨HG.out, rfl⟩
 ·rw [if_neg h24]
  have e24 : ¬ (24 : Int) < (X.size : Int) := by omega
  go_enter Tryz.func44, Tryz.ntmps44
  go_wp2_with fail
  refine HP.out.mono ?_
  rintro e w1 ⟨rfl, hc, hg⟩
  have HG := hid hg
  have HC := hid hc
  clear hc hg
  go_wp2
  go_ret3
  exact ⟨HG.out, by rw [← HX.out]; rfl, HC.out⟩
set_option maxRecDepth 100000 in
theorem number_any {w : World} {g : Nat} {s : ByteArray} {i : Nat} (h : Cu w g s i) (hi : i ≤ s.size) (hs : s.size ≤ 65536) (c : UInt8) (t : List UInt8) (hr : s.data.toList.drop i = c :: t) :
  Calls Tryz.prog 46 #[.pointer (some ⟨g, 0, none⟩)] w (TkPost (if 20 < span digB (c :: t) then .error 2 else if 1 < span digB (c :: t) ∧ c.toNat = 48 then .error 5 else .ok (2, (c :: t).take (span digB (c :: t)), span digB (c :: t))) w g s i) := by
 have HP := hid (past_any h hi hs 45 digB digit_tells (enters_of Tryz.func45 (by kernel_rfl) rfl))
 have hsz := take_size (c :: t) (span digB (c :: t)) (span_le _ _)
 rw [hr] at HP
 generalize span digB (c :: t) = n at *
 obtain ⟨X, hX⟩ : ∃ X : ByteArray, X = ⟨((c :: t).take n).toArray⟩ := ⟨_, rfl⟩
 rw [← hX] at HP hsz
 have hidx : ∀ h0 : 0 < X.size, (X[0]'h0).toNat = c.toNat := by
  intro h0
  subst hX
  obtain ⟨m, rfl⟩ : ∃ m, n = m + 1 := ⟨n - 1, by omega⟩
  rfl
 have HX := hid hX
 clear hX h
 by_cases h20 : 20 < n
 ·rw [if_pos h20]
  have e20 : (20 : Int) < (X.size : Int) := by omega
  clear hidx
  go_enter Tryz.func46, Tryz.ntmps46
  go_wp2_with fail
  refine HP.out.mono ?_
  rintro e w1 ⟨rfl, hc, hg⟩
  have HG := hid hg
  clear hc hg
  go_wp2
  go_ret3
  exact ⟨HG.out, rfl⟩
 ·rw [if_neg h20]
  have e20 : ¬ (20 : Int) < (X.size : Int) := by omega
  by_cases h1 : 1 < n
  ·have e1 : (1 : Int) < (X.size : Int) := by omega
   have h0 : 0 < X.size := by omega
   have hix := hidx h0
   by_cases h48 : c.toNat = 48
   ·rw [if_pos ⟨h1, h48⟩]
    rw [h48] at hix
    clear hidx
    go_enter Tryz.func46, Tryz.ntmps46
    go_wp2_with fail
    refine HP.out.mono ?_
    rintro e w1 ⟨rfl, hc, hg⟩
    have HG := hid hg
    clear hc hg
    go_wp2
    go_ret3
    exact ⟨HG.out, rfl⟩
   ·rw [if_neg (by omega)]
    have h48' : ¬ ((c.toNat : Nat) : Int) = 48 := by omega
    clear hidx
    go_enter Tryz.func46, Tryz.ntmps46
    go_wp2_with fail
    refine HP.out.mono ?_
    rintro e w1 ⟨rfl, hc, hg⟩
    have HG := hid hg
    have HC := hid hc
    clear hc hg
    go_wp2
    go_ret3
    exact ⟨HG.out, by rw [← HX.out]; rfl, HC.out⟩
  ·rw [if_neg (by omega)]
   have e1 : ¬ (1 : Int) < (X.size : Int) := by omega
   clear hidx
   go_enter Tryz.func46, Tryz.ntmps46
   go_wp2_with fail
   refine HP.out.mono ?_
   rintro e w1 ⟨rfl, hc, hg⟩
   have HG := hid hg
   have HC := hid hc
   clear hc hg
   go_wp2
   go_ret3
   exact ⟨HG.out, by rw [← HX.out]; rfl, HC.out⟩
end Go.Proofs.YtfcccfplmdjndaaGreat
