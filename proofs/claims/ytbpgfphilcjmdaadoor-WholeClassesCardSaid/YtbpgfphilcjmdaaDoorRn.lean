/- regex: a number. -/
import Derived.Test.YtbpgfphilcjmdaaDoorRc
import Derived.Test.YtbpgfphilcjmdaaDoorPar
import Derived.Test.YtbpgfphilcjmdaaDoorInt
import Derived.Deep.LoopGhost
import Derived.Outline
namespace Go.Proofs.YtbpgfphilcjmdaaDoor
open Go.RowKit

theorem digEnd_dig {l : List UInt8} : ∀ (k i j : Nat), i ≤ j → j < digEnd l k i → 48 ≤ nx l j ∧ nx l j ≤ 57 := by
  intro k
  induction k with
  | zero => intro i j h1 h2; exact absurd h2 (by unfold digEnd; omega)
  | succ k ih =>
    intro i j h1 h2
    unfold digEnd at h2
    split at h2
    · rename_i h
      rcases Nat.eq_or_lt_of_le h1 with rfl | h3
      · exact h
      · exact ih (i + 1) j h3 h2
    · omega
theorem digs_all (l : List UInt8) (i : Nat) : ∀ c ∈ digs l i, isDig c := by
  intro c hc
  unfold digs at hc
  obtain ⟨j, hj, rfl⟩ := List.mem_iff_getElem.1 hc
  simp only [List.getElem_take, List.getElem_drop]
  simp at hj
  have := digEnd_dig (l := l) (l.length + 1) i (i + j) (by omega) (by omega)
  rw [nx_at (by omega)] at this
  exact this
theorem wrt_digs (l : List UInt8) (i : Nat) : Wrt (digs l i) ↔ wrtB (digs l i) = true := by
  unfold Wrt wrtB
  have h := digs_all l i
  generalize digs l i = d at *
  simp only [Bool.and_eq_true, Bool.or_eq_true, decide_eq_true_eq, Bool.not_eq_true', List.isEmpty_eq_false_iff]
  exact ⟨fun ⟨_, h2, h3⟩ => ⟨h2, h3⟩, fun ⟨h2, h3⟩ => ⟨h, h2, h3⟩⟩
theorem mid_str (s : ByteArray) (i e : Nat) (h : i ≤ e) (h2 : e ≤ s.size) : s.extract i e = ⟨((s.data.toList.drop i).take (e - i)).toArray⟩ := by
  apply ByteArray.ext
  rw [ByteArray.data_extract]
  apply Array.toList_inj.1
  simp only [Array.toList_extract, List.extract_eq_take_drop]
/-- What the digits are as a number, and whether it is small. -/
theorem num_cases (l : List UInt8) (i : Nat) (hs : (⟨(digs l i).toArray⟩ : ByteArray).size ≤ 512) : ∃ (pv pe iv ie : Nat),
    Hid (∀ W : World, Calls Tryd.prog 76 #[.string ⟨(digs l i).toArray⟩] W fun e w' => e = .returned (.tuple #[.int .u64 (pv : Int), .int .i64 (pe : Int)]) ∧ w' = W) ∧
    Hid (∀ W : World, Calls Tryd.prog 77 #[.int .u64 (pv : Int), .int .i64 256] W fun e w' => e = .returned (.tuple #[.int .i64 (iv : Int), .int .i64 (ie : Int)]) ∧ w' = W) ∧
    ((pe = 5 ∧ pNum l i = .error (5, i)) ∨ (pe ≠ 5 ∧ (pe ≠ 0 ∨ ie ≠ 0) ∧ pNum l i = .error (1, i)) ∨ (pe = 0 ∧ ie = 0 ∧ pNum l i = .ok (iv, digEnd l (l.length + 1) i))) := by
  have hm : (⟨(digs l i).toArray⟩ : ByteArray).size ≤ maxLen := by unfold maxLen; omega
  have hd : (⟨(digs l i).toArray⟩ : ByteArray).data.toList = digs l i := rfl
  by_cases hw : Wrt (digs l i)
  · have hb := (wrt_digs l i).1 hw
    have hp : pNum l i = if valL (digs l i) ≤ 256 then .ok (valL (digs l i), digEnd l (l.length + 1) i) else .error (1, i) := by
      unfold pNum
      rw [if_neg (by rw [hb]; decide)]
    by_cases hv : valL (digs l i) < 18446744073709551616
    · by_cases h256 : valL (digs l i) ≤ 256
      · exact ⟨_, 0, valL (digs l i), 0, hid fun W => (parse_ok ⟨(digs l i).toArray⟩ hm hw hv W).mono fun _ _ ⟨h1, h2⟩ => ⟨h1, h2.symm⟩,
          hid fun W => (int_ok (valL (digs l i)) 256 (by decide) h256 W).mono fun _ _ ⟨h1, h2⟩ => ⟨h1, h2.symm⟩, .inr (.inr ⟨rfl, rfl, by rw [hp, if_pos h256]⟩)⟩
      · exact ⟨_, 0, 0, 40, hid fun W => (parse_ok ⟨(digs l i).toArray⟩ hm hw hv W).mono fun _ _ ⟨h1, h2⟩ => ⟨h1, h2.symm⟩,
          hid fun W => (int_over (valL (digs l i)) 256 (by decide) (by omega) W).mono fun _ _ ⟨h1, h2⟩ => ⟨h1, h2.symm⟩, .inr (.inl ⟨by decide, .inr (by decide), by rw [hp, if_neg h256]⟩)⟩
    · exact ⟨0, 40, 0, 0, hid fun W => (parse_over ⟨(digs l i).toArray⟩ hm hw (Nat.le_of_not_lt hv) W).mono fun _ _ ⟨h1, h2⟩ => ⟨h1, h2.symm⟩,
        hid fun W => (int_ok 0 256 (by decide) (by decide) W).mono fun _ _ ⟨h1, h2⟩ => ⟨h1, h2.symm⟩, .inr (.inl ⟨by decide, .inl (by decide), by rw [hp, if_neg (by omega)]⟩)⟩
  · have hb : wrtB (digs l i) = false := by
      cases h : wrtB (digs l i)
      · rfl
      · exact absurd ((wrt_digs l i).2 h) hw
    exact ⟨0, 5, 0, 0, hid fun W => (parse_form ⟨(digs l i).toArray⟩ hm hw W).mono fun _ _ ⟨h1, h2⟩ => ⟨h1, h2.symm⟩,
      hid fun W => (int_ok 0 256 (by decide) (by decide) W).mono fun _ _ ⟨h1, h2⟩ => ⟨h1, h2.symm⟩, .inl ⟨rfl, by unfold pNum; rw [if_pos hb]⟩⟩
theorem digEnd_stop {l : List UInt8} {k i : Nat} (h : ¬ (48 ≤ nx l i ∧ nx l i ≤ 57)) : digEnd l (k + 1) i = i := by
  rw [digEnd, if_neg h]
theorem digEnd_go {l : List UInt8} {k i : Nat} (h : 48 ≤ nx l i ∧ nx l i ≤ 57) : digEnd l (k + 1) i = digEnd l k (i + 1) := by
  rw [digEnd, if_pos h]

set_option maxRecDepth 100000 in
set_option maxHeartbeats 4000000 in
theorem num_any {w : World} {g : Nat} {s : ByteArray} {i nd : Nat} {c p : Int} (h : Rd w g s i nd c p) (hi : i ≤ s.size) (hs : s.size ≤ 512) :
    Calls Tryd.prog 73 #[.pointer (some ⟨g, 0, none⟩)] w (Post (pNum s.data.toList i) (fun n => .int .i64 ((n : Nat) : Int)) (fun v => ∃ n : Int, v = .int .i64 n) w g s nd) := by
  have hde := digEnd_le (l := s.data.toList) (s.data.toList.length + 1) i
  have hde2 := hde.2 hi
  have hsl : s.data.toList.length = s.size := rfl
  obtain ⟨pv, pe, iv, ie, HPa, HIn, hcase⟩ := num_cases s.data.toList i (by
    show (digs s.data.toList i).length ≤ 512
    unfold digs
    rw [List.length_take, List.length_drop]
    omega)
  have hstr : s.extract i (digEnd s.data.toList (s.data.toList.length + 1) i) = ⟨(digs s.data.toList i).toArray⟩ := mid_str s i _ hde.1 hde2
  rw [← hstr] at HPa
  generalize pNum s.data.toList i = P at *
  obtain ⟨E, hE⟩ : ∃ E, E = digEnd s.data.toList (s.data.toList.length + 1) i := ⟨_, rfl⟩
  rw [← hE] at HPa hcase hde hde2
  have HE := hid hE.symm
  have HC := hid hcase
  have HN := hid (fun (W : World) (j : Nat) (hj : j ≤ s.size) (h : Rd W g s j nd c p) => next_any h hj hs)
  clear hE hstr hcase
  have HR := hid h
  obtain ⟨k0, k1, k2, k3, k4, f1, f2, f3, f4⟩ := h.cells
  clear h
  have hEi := hde.1
  clear hde
  go_enter Tryd.func73, Tryd.ntmps73
  go_wp2_with fail
  go_loopg [] (s.size + 1) (fun m wr => ∃ j : Nat, i ≤ j ∧ j ≤ s.size ∧ s.size < m + j ∧ Hid (digEnd s.data.toList m j = E) ∧ Hid (Rd wr g s j nd c p) ∧ Hid (w.grownBy wr (some g)))
  case atStart => exact ⟨i, Nat.le_refl _, hi, by omega, HE, HR, hid (grown_refl _ _)⟩
  case round =>
    obtain ⟨j, hij, hj, hm, HEr, HRr, HGr⟩ := hrel
    clear HR HE k0 k1 k2 k3 k4 f1 f2 f3 f4
    obtain ⟨m, rfl⟩ : ∃ m, gk = m + 1 := ⟨gk - 1, by omega⟩
    have HN1 := hid (HN.out wr j hj HRr.out)
    have HN2 := hid (fun (W : World) (h : Rd W g s j nd c p) => HN.out W j hj h)
    by_cases hd : 48 ≤ nx s.data.toList j ∧ nx s.data.toList j ≤ 57
    · have HE2 := hid ((digEnd_go (k := m) hd).symm.trans HEr.out)
      have hj1 : j + 1 ≤ s.size := nx_lt (l := s.data.toList) (by omega)
      obtain ⟨hd1, hd2⟩ := hd
      have hj2 : j ≤ 512 := by omega
      clear HEr HN
      generalize nx s.data.toList j = x at *
      go_wp2_with fail
      refine HN1.out.mono ?_
      rintro e w1 ⟨rfl, hr1, hg1⟩
      have HG1 := hid (grown_trans HGr.out hg1)
      go_wp2_with fail
      refine (HN2.out _ hr1).mono ?_
      rintro e w2 ⟨rfl, hr2, hg2⟩
      have HG2 := hid (grown_trans HG1.out (grown_trans hg2 (grown_set1 w2 g 1 (.int .i64 ((j : Int) + 1)))))
      have HS := hid (show Rd (w2.setCell ⟨g, 1, none⟩ (.int .i64 ((j : Int) + 1))) g s (j + 1) nd c p by simpa [Rd] using Blk.put hr2 1 (.int .i64 ((j : Int) + 1)))
      obtain ⟨k0, k1, k2, k3, k4, f1, f2, f3, f4⟩ := hr2.cells
      clear hr1 hr2 hg1 hg2 HG1
      go_wp2_with fail
      go_roundg m
      case measure => omega
      case rel => exact ⟨j + 1, by omega, hj1, by omega, HE2, HS, HG2⟩
    · obtain rfl : j = E := (digEnd_stop (k := m) hd).symm.trans HEr.out
      clear HEr
      by_cases hx : nx s.data.toList j < 48
      · generalize nx s.data.toList j = x at *
        go_wp2_with fail
        refine HN1.out.mono ?_
        rintro e w1 ⟨rfl, hr1, hg1⟩
        have HRl := hid hr1
        have HGl := hid (grown_trans HGr.out hg1)
        clear hr1 hg1
        obtain ⟨k0, k1, k2, k3, k4, f1, f2, f3, f4⟩ := HRl.out.cells
        have hk := And.intro k0 k1
        have hw1 : (i : Int) ≤ (j : Int) := by omega
        have hw2 : (j : Int) ≤ (s.size : Int) := by omega
        have hsl2 : ∀ W : World, (Instr.slice 9 (.string s) (some (.int .i64 (i : Int))) (some (.int .i64 (j : Int))) none).run Tryd.prog W = .ok (.string (s.extract i j)) W := by
          intro W
          go_simp
        clear HN HN1 HN2 HRr HGr hd
        go_wp2_with fail
        go_region_held3 (fun w' => w'.cell? ⟨g, 0, none⟩ = some (.string s) ∧ w'.cell? ⟨g, 1, none⟩ = some (.int .i64 (j : Int)))
          (first | exact hk | assumption)
          (first | (go_at_call 76; with_reducible refine (HPa.out _).mono ?_; rintro e w5 ⟨rfl, rfl⟩; have hk5 := And.intro k0 k1))
        clear HPa hsl2
        rcases HC.out with ⟨rfl, hP⟩ | ⟨hne, h2, hP⟩ | ⟨rfl, rfl, hP⟩
        · have HP := hid hP
          clear HC hP
          go_wp2_with (first
            | (go_at_call 77; with_reducible refine (HIn.out _).mono ?_; rintro e w6 ⟨rfl, rfl⟩)
            | (go_at_call 23; refine (fail_any HRl.out.drew 5 (i : Int)).mono ?_; rintro e w7 ⟨rfl, hr7, hg7⟩))
          go_ret2
          rw [HP.out]
          exact ⟨grown_trans (grown_trans HGl.out (grown_drew _ g)) hg7, ⟨_, ⟨0, rfl⟩, rfl⟩, _, _, hr7⟩
        · have HP := hid hP
          have hne5 : ¬ (pe : Int) = 5 := by omega
          clear HC hP hne
          by_cases h0 : pe = 0
          · subst h0
            have hie : ¬ (ie : Int) = 0 := by omega
            clear h2
            go_wp2_with (first
              | (go_at_call 77; with_reducible refine (HIn.out _).mono ?_; rintro e w6 ⟨rfl, rfl⟩)
              | (go_at_call 23; refine (fail_any HRl.out.drew 1 (i : Int)).mono ?_; rintro e w7 ⟨rfl, hr7, hg7⟩))
            go_ret2
            rw [HP.out]
            exact ⟨grown_trans (grown_trans HGl.out (grown_drew _ g)) hg7, ⟨_, ⟨0, rfl⟩, rfl⟩, _, _, hr7⟩
          · have hpe : ¬ (pe : Int) = 0 := by omega
            clear h2
            go_wp2_with (first
              | (go_at_call 77; with_reducible refine (HIn.out _).mono ?_; rintro e w6 ⟨rfl, rfl⟩)
              | (go_at_call 23; refine (fail_any HRl.out.drew 1 (i : Int)).mono ?_; rintro e w7 ⟨rfl, hr7, hg7⟩))
            go_ret2
            rw [HP.out]
            exact ⟨grown_trans (grown_trans HGl.out (grown_drew _ g)) hg7, ⟨_, ⟨0, rfl⟩, rfl⟩, _, _, hr7⟩
        · have HP := hid hP
          clear HC hP
          go_wp2_with (first
            | (go_at_call 77; with_reducible refine (HIn.out _).mono ?_; rintro e w6 ⟨rfl, rfl⟩))
          go_ret2
          rw [HP.out]
          exact ⟨grown_trans HGl.out (grown_drew _ g), rfl, _, _, HRl.out.drew⟩
      · have hx2 : 57 < nx s.data.toList j := by omega
        have hx3 : 48 ≤ nx s.data.toList j := by omega
        generalize nx s.data.toList j = x at *
        go_wp2_with fail
        refine HN1.out.mono ?_
        rintro e w0 ⟨rfl, hr0, hg0⟩
        have HG0 := hid (grown_trans HGr.out hg0)
        go_wp2_with fail
        refine (HN2.out _ hr0).mono ?_
        rintro e w1 ⟨rfl, hr1, hg1⟩
        have HRl := hid hr1
        have HGl := hid (grown_trans HG0.out hg1)
        clear hr1 hg1 hr0 hg0 HG0
        obtain ⟨k0, k1, k2, k3, k4, f1, f2, f3, f4⟩ := HRl.out.cells
        have hk := And.intro k0 k1
        have hw1 : (i : Int) ≤ (j : Int) := by omega
        have hw2 : (j : Int) ≤ (s.size : Int) := by omega
        have hsl2 : ∀ W : World, (Instr.slice 9 (.string s) (some (.int .i64 (i : Int))) (some (.int .i64 (j : Int))) none).run Tryd.prog W = .ok (.string (s.extract i j)) W := by
          intro W
          go_simp
        clear HN HN1 HN2 HRr HGr hd
        go_wp2_with fail
        go_region_held3 (fun w' => w'.cell? ⟨g, 0, none⟩ = some (.string s) ∧ w'.cell? ⟨g, 1, none⟩ = some (.int .i64 (j : Int)))
          (first | exact hk | assumption)
          (first | (go_at_call 76; with_reducible refine (HPa.out _).mono ?_; rintro e w5 ⟨rfl, rfl⟩; have hk5 := And.intro k0 k1))
        clear HPa hsl2
        rcases HC.out with ⟨rfl, hP⟩ | ⟨hne, h2, hP⟩ | ⟨rfl, rfl, hP⟩
        · have HP := hid hP
          clear HC hP
          go_wp2_with (first
            | (go_at_call 77; with_reducible refine (HIn.out _).mono ?_; rintro e w6 ⟨rfl, rfl⟩)
            | (go_at_call 23; refine (fail_any HRl.out.drew 5 (i : Int)).mono ?_; rintro e w7 ⟨rfl, hr7, hg7⟩))
          go_ret2
          rw [HP.out]
          exact ⟨grown_trans (grown_trans HGl.out (grown_drew _ g)) hg7, ⟨_, ⟨0, rfl⟩, rfl⟩, _, _, hr7⟩
        · have HP := hid hP
          have hne5 : ¬ (pe : Int) = 5 := by omega
          clear HC hP hne
          by_cases h0 : pe = 0
          · subst h0
            have hie : ¬ (ie : Int) = 0 := by omega
            clear h2
            go_wp2_with (first
              | (go_at_call 77; with_reducible refine (HIn.out _).mono ?_; rintro e w6 ⟨rfl, rfl⟩)
              | (go_at_call 23; refine (fail_any HRl.out.drew 1 (i : Int)).mono ?_; rintro e w7 ⟨rfl, hr7, hg7⟩))
            go_ret2
            rw [HP.out]
            exact ⟨grown_trans (grown_trans HGl.out (grown_drew _ g)) hg7, ⟨_, ⟨0, rfl⟩, rfl⟩, _, _, hr7⟩
          · have hpe : ¬ (pe : Int) = 0 := by omega
            clear h2
            go_wp2_with (first
              | (go_at_call 77; with_reducible refine (HIn.out _).mono ?_; rintro e w6 ⟨rfl, rfl⟩)
              | (go_at_call 23; refine (fail_any HRl.out.drew 1 (i : Int)).mono ?_; rintro e w7 ⟨rfl, hr7, hg7⟩))
            go_ret2
            rw [HP.out]
            exact ⟨grown_trans (grown_trans HGl.out (grown_drew _ g)) hg7, ⟨_, ⟨0, rfl⟩, rfl⟩, _, _, hr7⟩
        · have HP := hid hP
          clear HC hP
          go_wp2_with (first
            | (go_at_call 77; with_reducible refine (HIn.out _).mono ?_; rintro e w6 ⟨rfl, rfl⟩))
          go_ret2
          rw [HP.out]
          exact ⟨grown_trans HGl.out (grown_drew _ g), rfl, _, _, HRl.out.drew⟩
end Go.Proofs.YtbpgfphilcjmdaaDoor
