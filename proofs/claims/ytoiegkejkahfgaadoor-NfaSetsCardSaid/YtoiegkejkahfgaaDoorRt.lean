/- regex: a number. -/
import Derived.Test.YtoiegkejkahfgaaDoorRc
import Derived.Test.YtoiegkejkahfgaaDoorInt
import Derived.Deep.LoopGhost
import Derived.Outline
set_option linter.unusedVariables false
set_option linter.unusedSimpArgs false
namespace Go.Proofs.YtoiegkejkahfgaaDoor
open Go.RowKit

theorem digEnd_dig {l : List UInt8} : ∀ (k i j : Nat), i ≤ j → j < digEnd l k i → 48 ≤ nx l j ∧ nx l j ≤ 57 := by
  intro k
  induction k with
  | zero => intro i j h1 h2; exact absurd h2 (by unfold digEnd; omega)
  | succ k ih =>
    intro i j h1 h2
    unfold digEnd at h2
    split at h2
    · rename_i h
      rcases Nat.eq_or_lt_of_le h1 with rfl | h3
      · exact h
      · exact ih (i + 1) j h3 h2
    · omega
theorem digs_all (l : List UInt8) (i : Nat) : ∀ c ∈ digs l i, isDig c := by
  intro c hc
  unfold digs at hc
  obtain ⟨j, hj, rfl⟩ := List.mem_iff_getElem.1 hc
  simp only [List.getElem_take, List.getElem_drop]
  simp at hj
  have := digEnd_dig (l := l) (l.length + 1) i (i + j) (by omega) (by omega)
  rw [nx_at (by omega)] at this
  exact this
theorem wrt_digs (l : List UInt8) (i : Nat) : Wrt (digs l i) ↔ wrtB (digs l i) = true := by
  unfold Wrt wrtB
  have h := digs_all l i
  generalize digs l i = d at *
  simp only [Bool.and_eq_true, Bool.or_eq_true, decide_eq_true_eq, Bool.not_eq_true', List.isEmpty_eq_false_iff]
  exact ⟨fun ⟨_, h2, h3⟩ => ⟨h2, h3⟩, fun ⟨h2, h3⟩ => ⟨h, h2, h3⟩⟩
theorem mid_str (s : ByteArray) (i e : Nat) (h : i ≤ e) (h2 : e ≤ s.size) : s.extract i e = ⟨((s.data.toList.drop i).take (e - i)).toArray⟩ := by
  apply ByteArray.ext
  rw [ByteArray.data_extract]
  apply Array.toList_inj.1
  simp only [Array.toList_extract, List.extract_eq_take_drop]
/-- What the digits are as a number, and whether it is small. -/
theorem num_cases (l : List UInt8) (i : Nat) (hs : (⟨(digs l i).toArray⟩ : ByteArray).size ≤ 512) : ∃ (pv pe iv ie : Nat),
    Hid (∀ W : World, Calls Tryd.prog 90 #[.string ⟨(digs l i).toArray⟩] W fun e w' => e = .returned (.tuple #[.int .u64 (pv : Int), .int .i64 (pe : Int)]) ∧ w' = W) ∧
    Hid (∀ W : World, Calls Tryd.prog 91 #[.int .u64 (pv : Int), .int .i64 256] W fun e w' => e = .returned (.tuple #[.int .i64 (iv : Int), .int .i64 (ie : Int)]) ∧ w' = W) ∧
    ((pe = 5 ∧ pNum l i = .error (5, i)) ∨ (pe ≠ 5 ∧ (pe ≠ 0 ∨ ie ≠ 0) ∧ pNum l i = .error (1, i)) ∨ (pe = 0 ∧ ie = 0 ∧ pNum l i = .ok (iv, digEnd l (l.length + 1) i))) := by
  have hm : (⟨(digs l i).toArray⟩ : ByteArray).size ≤ maxLen := by unfold maxLen; omega
  have hd : (⟨(digs l i).toArray⟩ : ByteArray).data.toList = digs l i := rfl
  by_cases hw : Wrt (digs l i)
  · have hb := (wrt_digs l i).1 hw
    have hp : pNum l i = if valL (digs l i) ≤ 256 then .ok (valL (digs l i), digEnd l (l.length + 1) i) else .error (1, i) := by
      unfold pNum
      rw [if_neg (by rw [hb]; decide)]
    by_cases hv : valL (digs l i) < 18446744073709551616
    · by_cases h256 : valL (digs l i) ≤ 256
      · exact ⟨_, 0, valL (digs l i), 0, hid fun W => (parse_ok ⟨(digs l i).toArray⟩ hm hw hv W).mono fun _ _ ⟨h1, h2⟩ => ⟨h1, h2.symm⟩,
          hid fun W => (int_ok (valL (digs l i)) 256 (by decide) h256 W).mono fun _ _ ⟨h1, h2⟩ => ⟨h1, h2.symm⟩, .inr (.inr ⟨rfl, rfl, by rw [hp, if_pos h256]⟩)⟩
      · exact ⟨_, 0, 0, 40, hid fun W => (parse_ok ⟨(digs l i).toArray⟩ hm hw hv W).mono fun _ _ ⟨h1, h2⟩ => ⟨h1, h2.symm⟩,
          hid fun W => (int_over (valL (digs l i)) 256 (by decide) (by omega) W).mono fun _ _ ⟨h1, h2⟩ => ⟨h1, h2.symm⟩, .inr (.inl ⟨by decide, .inr (by decide), by rw [hp, if_neg h256]⟩)⟩
    · exact ⟨0, 40, 0, 0, hid fun W => (parse_over ⟨(digs l i).toArray⟩ hm hw (Nat.le_of_not_lt hv) W).mono fun _ _ ⟨h1, h2⟩ => ⟨h1, h2.symm⟩,
        hid fun W => (int_ok 0 256 (by decide) (by decide) W).mono fun _ _ ⟨h1, h2⟩ => ⟨h1, h2.symm⟩, .inr (.inl ⟨by decide, .inl (by decide), by rw [hp, if_neg (by omega)]⟩)⟩
  · have hb : wrtB (digs l i) = false := by
      cases h : wrtB (digs l i)
      · rfl
      · exact absurd ((wrt_digs l i).2 h) hw
    exact ⟨0, 5, 0, 0, hid fun W => (parse_form ⟨(digs l i).toArray⟩ hm hw W).mono fun _ _ ⟨h1, h2⟩ => ⟨h1, h2.symm⟩,
      hid fun W => (int_ok 0 256 (by decide) (by decide) W).mono fun _ _ ⟨h1, h2⟩ => ⟨h1, h2.symm⟩, .inl ⟨rfl, by unfold pNum; rw [if_pos hb]⟩⟩
theorem digEnd_stop {l : List UInt8} {k i : Nat} (h : ¬ (48 ≤ nx l i ∧ nx l i ≤ 57)) : digEnd l (k + 1) i = i := by
  rw [digEnd, if_neg h]
theorem digEnd_go {l : List UInt8} {k i : Nat} (h : 48 ≤ nx l i ∧ nx l i ≤ 57) : digEnd l (k + 1) i = digEnd l k (i + 1) := by
  rw [digEnd, if_pos h]

set_option maxRecDepth 100000 in
set_option maxHeartbeats 4000000 in
theorem num_any {w : World} {g : Nat} {s : ByteArray} {i nd : Nat} {c p : Int} (h : Rd w g s i nd c p) (hi : i ≤ s.size) (hs : s.size ≤ 512) :
    Calls Tryd.prog 85 #[.pointer (some ⟨g, 0, none⟩)] w (Post (pNum s.data.toList i) (fun n => .int .i64 ((n : Nat) : Int)) (fun v => ∃ n : Int, v = .int .i64 n) w g s nd) := by
  have hde := digEnd_le (l := s.data.toList) (s.data.toList.length + 1) i
  have hde2 := hde.2 hi
  have hsl : s.data.toList.length = s.size := rfl
  obtain ⟨pv, pe, iv, ie, HPa, HIn, hcase⟩ := num_cases s.data.toList i (by
    show (digs s.data.toList i).length ≤ 512
    unfold digs
    rw [List.length_take, List.length_drop]
    omega)
  have hstr : s.extract i (digEnd s.data.toList (s.data.toList.length + 1) i) = ⟨(digs s.data.toList i).toArray⟩ := mid_str s i _ hde.1 hde2
  rw [← hstr] at HPa
  generalize pNum s.data.toList i = P at *
  obtain ⟨E, hE⟩ : ∃ E, E = digEnd s.data.toList (s.data.toList.length + 1) i := ⟨_, rfl⟩
  rw [← hE] at HPa hcase hde hde2
  have HE := hid hE.symm
  have HC := hid hcase
  have HN := hid (fun (W : World) (j : Nat) (hj : j ≤ s.size) (h : Rd W g s j nd c p) => next_any h hj hs)
  clear hE hstr hcase
  have HR := hid h
  obtain ⟨k0, k1, k2, k3, k4, f1, f2, f3, f4⟩ := h.cells
  clear h
  have hEi := hde.1
  clear hde
  go_enter Tryd.func85, Tryd.ntmps85
  go_wp2_with fail
  go_loopg [] (s.size + 1) (fun m wr => ∃ j : Nat, i ≤ j ∧ j ≤ s.size ∧ s.size < m + j ∧ Hid (digEnd s.data.toList m j = E) ∧ Hid (Rd wr g s j nd c p) ∧ Hid (w.grownBy wr (some g)))
  case atStart => exact ⟨i, Nat.le_refl _, hi, by omega, HE, HR, hid (grown_refl _ _)⟩
  case round =>
    obtain ⟨j, hij, hj, hm, HEr, HRr, HGr⟩ := hrel
    clear HR HE k0 k1 k2 k3 k4 f1 f2 f3 f4
    obtain ⟨m, rfl⟩ : ∃ m, gk = m + 1 := ⟨gk - 1, by omega⟩
    have HN1 := hid (HN.out wr j hj HRr.out)
    have HN2 := hid (fun (W : World) (h : Rd W g s j nd c p) => HN.out W j hj h)
    by_cases hd : 48 ≤ nx s.data.toList j ∧ nx s.data.toList j ≤ 57
    · have HE2 := hid ((digEnd_go (k := m) hd).symm.trans HEr.out)
      have hj1 : j + 1 ≤ s.size := nx_lt (l := s.data.toList) (by omega)
      obtain ⟨hd1, hd2⟩ := hd
      have hj2 : j ≤ 512 := by omega
      clear HEr HN
      generalize nx s.data.toList j = x at *
      go_wp2_with fail
      refine HN1.out.mono ?_
      rintro e w1 ⟨rfl, hr1, hg1⟩
      have HG1 := hid (grown_trans HGr.out hg1)
      go_wp2_with fail
      refine (HN2.out _ hr1).mono ?_
      rintro e w2 ⟨rfl, hr2, hg2⟩
      have HG2 := hid (grown_trans HG1.out (grown_trans hg2 (grown_set1 w2 g 1 (.int .i64 ((j : Int) + 1)))))
      have HS := hid (show Rd (w2.setCell ⟨g, 1, none⟩ (.int .i64 ((j : Int) + 1))) g s (j + 1) nd c p by simpa [Rd] using Blk.put hr2 1 (.int .i64 ((j : Int) + 1)))
      obtain ⟨k0, k1, k2, k3, k4, f1, f2, f3, f4⟩ := hr2.cells
      clear hr1 hr2 hg1 hg2 HG1
      go_wp2_with fail
      go_roundg m
      case measure => omega
      case rel => exact ⟨j + 1, by omega, hj1, by omega, HE2, HS, HG2⟩
    · obtain rfl : j = E := (digEnd_stop (k := m) hd).symm.trans HEr.out
      clear HEr
      by_cases hx : nx s.data.toList j < 48
      · generalize nx s.data.toList j = x at *
        go_wp2_with fail
        refine HN1.out.mono ?_
        rintro e w1 ⟨rfl, hr1, hg1⟩
        have HRl := hid hr1
        have HGl := hid (grown_trans HGr.out hg1)
        clear hr1 hg1
        obtain ⟨k0, k1, k2, k3, k4, f1, f2, f3, f4⟩ := HRl.out.cells
        have hk := And.intro k0 k1
        have hw1 : (i : Int) ≤ (j : Int) := by omega
        have hw2 : (j : Int) ≤ (s.size : Int) := by omega
        have hsl2 : ∀ W : World, (Instr.slice 9 (.string s) (some (.int .i64 (i : Int))) (some (.int .i64 (j : Int))) none).run Tryd.prog W = .ok (.string (s.extract i j)) W := by
          intro W
          go_simp
        clear HN HN1 HN2 HRr HGr hd
        go_wp2_with fail
        go_region_held3 (fun w' => w'.cell? ⟨g, 0, none⟩ = some (.string s) ∧ w'.cell? ⟨g, 1, none⟩ = some (.int .i64 (j : Int)))
          (first | exact hk | assumption)
          (first | (go_at_call 90; with_reducible refine (HPa.out _).mono ?_; rintro e w5 ⟨rfl, rfl⟩; have hk5 := And.intro k0 k1))
        clear HPa hsl2
        rcases HC.out with ⟨rfl, hP⟩ | ⟨hne, h2, hP⟩ | ⟨rfl, rfl, hP⟩
        · have HP := hid hP
          clear HC hP
          go_wp2_with (first
            | (go_at_call 91; with_reducible refine (HIn.out _).mono ?_; rintro e w6 ⟨rfl, rfl⟩)
            | (go_at_call 32; refine (fail_any HRl.out.drew 5 (i : Int)).mono ?_; rintro e w7 ⟨rfl, hr7, hg7⟩))
          go_ret2
          rw [HP.out]
          exact ⟨grown_trans (grown_trans HGl.out (grown_drew _ g)) hg7, ⟨_, ⟨0, rfl⟩, rfl⟩, _, _, hr7⟩
        · have HP := hid hP
          have hne5 : ¬ (pe : Int) = 5 := by omega
          clear HC hP hne
          by_cases h0 : pe = 0
          · subst h0
            have hie : ¬ (ie : Int) = 0 := by omega
            clear h2
            go_wp2_with (first
              | (go_at_call 91; with_reducible refine (HIn.out _).mono ?_; rintro e w6 ⟨rfl, rfl⟩)
              | (go_at_call 32; refine (fail_any HRl.out.drew 1 (i : Int)).mono ?_; rintro e w7 ⟨rfl, hr7, hg7⟩))
            go_ret2
            rw [HP.out]
            exact ⟨grown_trans (grown_trans HGl.out (grown_drew _ g)) hg7, ⟨_, ⟨0, rfl⟩, rfl⟩, _, _, hr7⟩
          · have hpe : ¬ (pe : Int) = 0 := by omega
            clear h2
            go_wp2_with (first
              | (go_at_call 91; with_reducible refine (HIn.out _).mono ?_; rintro e w6 ⟨rfl, rfl⟩)
              | (go_at_call 32; refine (fail_any HRl.out.drew 1 (i : Int)).mono ?_; rintro e w7 ⟨rfl, hr7, hg7⟩))
            go_ret2
            rw [HP.out]
            exact ⟨grown_trans (grown_trans HGl.out (grown_drew _ g)) hg7, ⟨_, ⟨0, rfl⟩, rfl⟩, _, _, hr7⟩
        · have HP := hid hP
          clear HC hP
          go_wp2_with (first
            | (go_at_call 91; with_reducible refine (HIn.out _).mono ?_; rintro e w6 ⟨rfl, rfl⟩))
          go_ret2
          rw [HP.out]
          exact ⟨grown_trans HGl.out (grown_drew _ g), rfl, _, _, HRl.out.drew⟩
      · have hx2 : 57 < nx s.data.toList j := by omega
        have hx3 : 48 ≤ nx s.data.toList j := by omega
        generalize nx s.data.toList j = x at *
        go_wp2_with fail
        refine HN1.out.mono ?_
        rintro e w0 ⟨rfl, hr0, hg0⟩
        have HG0 := hid (grown_trans HGr.out hg0)
        go_wp2_with fail
        refine (HN2.out _ hr0).mono ?_
        rintro e w1 ⟨rfl, hr1, hg1⟩
        have HRl := hid hr1
        have HGl := hid (grown_trans HG0.out hg1)
        clear hr1 hg1 hr0 hg0 HG0
        obtain ⟨k0, k1, k2, k3, k4, f1, f2, f3, f4⟩ := HRl.out.cells
        have hk := And.intro k0 k1
        have hw1 : (i : Int) ≤ (j : Int) := by omega
        have hw2 : (j : Int) ≤ (s.size : Int) := by omega
        have hsl2 : ∀ W : World, (Instr.slice 9 (.string s) (some (.int .i64 (i : Int))) (some (.int .i64 (j : Int))) none).run Tryd.prog W = .ok (.string (s.extract i j)) W := by
          intro W
          go_simp
        clear HN HN1 HN2 HRr HGr hd
        go_wp2_with fail
        go_region_held3 (fun w' => w'.cell? ⟨g, 0, none⟩ = some (.string s) ∧ w'.cell? ⟨g, 1, none⟩ = some (.int .i64 (j : Int)))
          (first | exact hk | assumption)
          (first | (go_at_call 90; with_reducible refine (HPa.out _).mono ?_; rintro e w5 ⟨rfl, rfl⟩; have hk5 := And.intro k0 k1))
        clear HPa hsl2
        rcases HC.out with ⟨rfl, hP⟩ | ⟨hne, h2, hP⟩ | ⟨rfl, rfl, hP⟩
        · have HP := hid hP
          clear HC hP
          go_wp2_with (first
            | (go_at_call 91; with_reducible refine (HIn.out _).mono ?_; rintro e w6 ⟨rfl, rfl⟩)
            | (go_at_call 32; refine (fail_any HRl.out.drew 5 (i : Int)).mono ?_; rintro e w7 ⟨rfl, hr7, hg7⟩))
          go_ret2
          rw [HP.out]
          exact ⟨grown_trans (grown_trans HGl.out (grown_drew _ g)) hg7, ⟨_, ⟨0, rfl⟩, rfl⟩, _, _, hr7⟩
        · have HP := hid hP
          have hne5 : ¬ (pe : Int) = 5 := by omega
          clear HC hP hne
          by_cases h0 : pe = 0
          · subst h0
            have hie : ¬ (ie : Int) = 0 := by omega
            clear h2
            go_wp2_with (first
              | (go_at_call 91; with_reducible refine (HIn.out _).mono ?_; rintro e w6 ⟨rfl, rfl⟩)
              | (go_at_call 32; refine (fail_any HRl.out.drew 1 (i : Int)).mono ?_; rintro e w7 ⟨rfl, hr7, hg7⟩))
            go_ret2
            rw [HP.out]
            exact ⟨grown_trans (grown_trans HGl.out (grown_drew _ g)) hg7, ⟨_, ⟨0, rfl⟩, rfl⟩, _, _, hr7⟩
          · have hpe : ¬ (pe : Int) = 0 := by omega
            clear h2
            go_wp2_with (first
              | (go_at_call 91; with_reducible refine (HIn.out _).mono ?_; rintro e w6 ⟨rfl, rfl⟩)
              | (go_at_call 32; refine (fail_any HRl.out.drew 1 (i : Int)).mono ?_; rintro e w7 ⟨rfl, hr7, hg7⟩))
            go_ret2
            rw [HP.out]
            exact ⟨grown_trans (grown_trans HGl.out (grown_drew _ g)) hg7, ⟨_, ⟨0, rfl⟩, rfl⟩, _, _, hr7⟩
        · have HP := hid hP
          clear HC hP
          go_wp2_with (first
            | (go_at_call 91; with_reducible refine (HIn.out _).mono ?_; rintro e w6 ⟨rfl, rfl⟩))
          go_ret2
          rw [HP.out]
          exact ⟨grown_trans HGl.out (grown_drew _ g), rfl, _, _, HRl.out.drew⟩
end Go.Proofs.YtoiegkejkahfgaaDoor

/- regex: how often something may come. -/
set_option linter.unusedVariables false
set_option linter.unusedSimpArgs false
namespace Go.Proofs.YtoiegkejkahfgaaDoor
open Go.RowKit

set_option maxRecDepth 100000 in
set_option maxHeartbeats 4000000 in
theorem bounds_any {w : World} {g : Nat} {s : ByteArray} {i nd : Nat} {c p : Int} (h : Rd w g s i nd c p) (hi : i ≤ s.size) (hs : s.size ≤ 512) :
    Calls Tryd.prog 80 #[.pointer (some ⟨g, 0, none⟩)] w (Post2 (pBounds s.data.toList i) (fun x => .int .i64 ((x.1 : Nat) : Int)) (fun x => .int .i64 x.2) w g s nd) := by
  have HN := hid (num_any h hi hs)
  have hlt : ∀ x j, pNum s.data.toList i = .ok (x, j) → j ≤ s.size ∧ x ≤ 256 := fun x j e => ⟨(pNum_lt e).2.1, (pNum_lt e).2.2⟩
  have HNum := hid (fun (W : World) (j : Nat) (c p : Int) (h : Rd W g s j nd c p) (hj : j ≤ s.size) => num_any h hj hs)
  have HNx := hid (fun (W : World) (j : Nat) (c p : Int) (h : Rd W g s j nd c p) (hj : j ≤ s.size) => next_any h hj hs)
  have hlt2 : Hid (∀ k x j, pNum s.data.toList k = .ok (x, j) → j ≤ s.size ∧ x ≤ 256) := hid (fun k x j e => ⟨(pNum_lt e).2.1, (pNum_lt e).2.2⟩)
  have HNX : Hid (∀ j, nx s.data.toList j = 44 → j < s.size) := hid (fun j e => nx_lt (l := s.data.toList) (by omega))
  have HP := hid (show pBounds s.data.toList i = match pNum s.data.toList i with
    | .error e => .error e
    | .ok (lo, j) =>
      if nx s.data.toList j = 44 then
        if nx s.data.toList (j + 1) = 125 then .ok ((lo, -1), j + 2)
        else match pNum s.data.toList (j + 1) with
          | .error e => .error e
          | .ok (hi, k) => if hi < lo then .error (1, i) else if nx s.data.toList k = 125 then .ok ((lo, (hi : Int)), k + 1) else .error (5, k)
      else if nx s.data.toList j = 125 then .ok ((lo, (lo : Int)), j + 1) else .error (5, j) from rfl)
  generalize pBounds s.data.toList i = P at *
  generalize pNum s.data.toList i = r at *
  obtain ⟨k0, k1, k2, k3, k4, f1, f2, f3, f4⟩ := h.cells
  clear h
  go_enter Tryd.func80, Tryd.ntmps80
  go_wp2_with fail
  refine HN.out.mono ?_
  rintro e w1 ⟨hg1, hp1⟩
  clear HN k0 k1 k2 k3 k4 f1 f2 f3 f4
  cases r with
  | error v =>
    have HP2 : Hid (P = .error v) := HP
    obtain ⟨⟨v', ⟨n, rfl⟩, rfl⟩, j', nd', hr1⟩ := hp1
    go_wp2_with fail
    go_ret3
    rw [HP2.out]
    exact ⟨hg1, ⟨_, _, rfl⟩, _, _, hr1⟩
  | ok v =>
    obtain ⟨lo, j⟩ := v
    obtain ⟨rfl, c1, p1, hr1⟩ := hp1
    obtain ⟨hj, hlo⟩ := hlt lo j rfl
    have HP2 : Hid (P = if nx s.data.toList j = 44 then
        if nx s.data.toList (j + 1) = 125 then .ok ((lo, -1), j + 2)
        else match pNum s.data.toList (j + 1) with
          | .error e => .error e
          | .ok (hi, k) => if hi < lo then .error (1, i) else if nx s.data.toList k = 125 then .ok ((lo, (hi : Int)), k + 1) else .error (5, k)
      else if nx s.data.toList j = 125 then .ok ((lo, (lo : Int)), j + 1) else .error (5, j)) := HP
    clear HP hlt
    by_cases h44 : nx s.data.toList j = 44
    · have HP3 := hid (HP2.out.trans (if_pos h44))
      clear HP2
      have hj1 := HNX.out j h44
      go_wp2_with fail
      refine (took_yes hr1 hj hs 44 h44).mono ?_
      rintro e w2 ⟨rfl, hr2, hg2⟩
      have HG2 := hid (grown_trans hg1 hg2)
      go_wp2_with fail
      refine (HNx.out w2 (j + 1) c1 p1 hr2 (by omega)).mono ?_
      rintro e w3 ⟨rfl, hr3, hg3⟩
      have HG3 := hid (grown_trans HG2.out hg3)
      have HR3 := hid hr3
      clear hr1 hr2 hr3 hg1 hg2 hg3 HG2 HNX h44
      by_cases h125 : nx s.data.toList (j + 1) = 125
      · have HP4 := hid (HP3.out.trans (if_pos h125))
        have HH := hid h125
        rw [h125]
        clear HP3 HNum HNx h125
        go_wp2_with fail
        refine (must_yes HR3.out (by omega) hs 125 HH.out).mono ?_
        rintro e w9 ⟨rfl, hr9, hg9⟩
        go_wp2_with fail
        go_ret3
        rw [HP4.out]
        exact ⟨grown_trans HG3.out hg9, rfl, _, _, hr9⟩
      · have HP4 := hid (HP3.out.trans (if_neg h125))
        have hne : ¬ ((nx s.data.toList (j + 1) : Nat) : Int) = 125 := by omega
        have HC := hid (HNum.out w3 (j + 1) c1 p1 HR3.out (by omega))
        have hl2 := fun x k => hlt2.out (j + 1) x k
        generalize nx s.data.toList (j + 1) = y at *
        generalize pNum s.data.toList (j + 1) = r2 at *
        clear HP3 HNum HNx h125 hlt2
        go_wp2_with fail
        refine HC.out.mono ?_
        rintro e w4 ⟨hg4, hp4⟩
        clear HC
        cases r2 with
        | error v =>
          have HP5 : Hid (P = .error v) := HP4
          obtain ⟨⟨v', ⟨n, rfl⟩, rfl⟩, j', nd', hr4⟩ := hp4
          go_wp2_with fail
          go_ret3
          rw [HP5.out]
          exact ⟨grown_trans HG3.out hg4, ⟨_, _, rfl⟩, _, _, hr4⟩
        | ok v =>
          obtain ⟨hi2, k⟩ := v
          obtain ⟨rfl, c4, p4, hr4⟩ := hp4
          obtain ⟨hk, hh⟩ := hl2 hi2 k rfl
          have HP5 : Hid (P = if hi2 < lo then .error (1, i) else if nx s.data.toList k = 125 then .ok ((lo, (hi2 : Int)), k + 1) else .error (5, k)) := HP4
          have HG4 := hid (grown_trans HG3.out hg4)
          clear HP4 hl2 hg4
          by_cases hlt3 : hi2 < lo
          · have HP6 := hid (HP5.out.trans (if_pos hlt3))
            go_wp2_with fail
            refine (fail_any hr4 1 (i : Int)).mono ?_
            rintro e w5 ⟨rfl, hr5, hg5⟩
            go_wp2_with fail
            go_ret3
            rw [HP6.out]
            exact ⟨grown_trans HG4.out hg5, ⟨_, _, rfl⟩, _, _, hr5⟩
          · have HP6 := hid (HP5.out.trans (if_neg hlt3))
            clear HP5
            by_cases h125 : nx s.data.toList k = 125
            · have HP7 := hid (HP6.out.trans (if_pos h125))
              have HH := hid h125
              clear h125 HP6
              go_wp2_with fail
              refine (must_yes hr4 (by omega) hs 125 HH.out).mono ?_
              rintro e w9 ⟨rfl, hr9, hg9⟩
              go_wp2_with fail
              go_ret3
              rw [HP7.out]
              exact ⟨grown_trans HG4.out hg9, rfl, _, _, hr9⟩
            · have HP7 := hid (HP6.out.trans (if_neg h125))
              have HH := hid h125
              clear h125 HP6
              go_wp2_with fail
              refine (must_no hr4 (by omega) hs 125 HH.out).mono ?_
              rintro e w9 ⟨rfl, hr9, hg9⟩
              go_wp2_with fail
              go_ret3
              rw [HP7.out]
              exact ⟨grown_trans HG4.out hg9, ⟨_, _, rfl⟩, _, _, hr9⟩
    · have HP3 := hid (HP2.out.trans (if_neg h44))
      clear HP2 HNum HNx hlt2 HNX
      go_wp2_with fail
      refine (took_no hr1 hj hs 44 h44).mono ?_
      rintro e w2 ⟨rfl, hr2, hg2⟩
      have HG2 := hid (grown_trans hg1 hg2)
      clear hr1 hg1 hg2 h44
      by_cases h125 : nx s.data.toList j = 125
      · have HP4 := hid (HP3.out.trans (if_pos h125))
        have HH := hid h125
        clear h125 HP3
        go_wp2_with fail
        refine (must_yes hr2 (by omega) hs 125 HH.out).mono ?_
        rintro e w9 ⟨rfl, hr9, hg9⟩
        go_wp2_with fail
        go_ret3
        rw [HP4.out]
        exact ⟨grown_trans HG2.out hg9, rfl, _, _, hr9⟩
      · have HP4 := hid (HP3.out.trans (if_neg h125))
        have HH := hid h125
        clear h125 HP3
        go_wp2_with fail
        refine (must_no hr2 (by omega) hs 125 HH.out).mono ?_
        rintro e w9 ⟨rfl, hr9, hg9⟩
        go_wp2_with fail
        go_ret3
        rw [HP4.out]
        exact ⟨grown_trans HG2.out hg9, ⟨_, _, rfl⟩, _, _, hr9⟩

set_option maxRecDepth 100000 in
set_option maxHeartbeats 4000000 in
theorem times_any {w : World} {g : Nat} {s : ByteArray} {i nd : Nat} {c p : Int} (h : Rd w g s i nd c p) (hi : i < s.size) (hs : s.size ≤ 512) :
    Calls Tryd.prog 75 #[.pointer (some ⟨g, 0, none⟩)] w (Post2 (pTimes s.data.toList i) (fun x => .int .i64 ((x.1 : Nat) : Int)) (fun x => .int .i64 x.2) w g s nd) := by
  have HN := hid (next_any h (by omega) hs)
  have HB := hid (fun (W : World) (h : Rd W g s (i + 1) nd c p) => bounds_any h (by omega) hs)
  have HP0 := hid (show pTimes s.data.toList i = if nx s.data.toList i = 42 then .ok ((0, -1), i + 1) else if nx s.data.toList i = 43 then .ok ((1, -1), i + 1) else if nx s.data.toList i = 63 then .ok ((0, 1), i + 1) else pBounds s.data.toList (i + 1) from rfl)
  have hi2 : i ≤ 512 := by omega
  generalize pTimes s.data.toList i = P at *
  clear h
  by_cases h42 : nx s.data.toList i = 42
  · have HP2 := hid (HP0.out.trans (if_pos h42))
    clear HP0
    rw [h42] at HN
    go_enter Tryd.func75, Tryd.ntmps75
    go_wp2_with fail
    refine HN.out.mono ?_
    rintro e w1 ⟨rfl, hr1, hg1⟩
    obtain ⟨k0, k1, k2, k3, k4, f1, f2, f3, f4⟩ := hr1.cells
    have HS := hid (show Rd (w1.setCell ⟨g, 1, none⟩ (.int .i64 ((i : Int) + 1))) g s (i + 1) nd c p by simpa [Rd] using Blk.put hr1 1 (.int .i64 ((i : Int) + 1)))
    have HG := hid (grown_trans hg1 (grown_set1 w1 g 1 (.int .i64 ((i : Int) + 1))))
    clear hr1 hg1 HN
    go_wp2_with fail
    go_ret3
    rw [HP2.out]
    exact ⟨HG.out, rfl, _, _, HS.out⟩
  have HP42 := hid (HP0.out.trans (if_neg h42))
  clear HP0
  by_cases h43 : nx s.data.toList i = 43
  · have HP2 := hid (HP42.out.trans (if_pos h43))
    clear HP42
    rw [h43] at HN
    go_enter Tryd.func75, Tryd.ntmps75
    go_wp2_with fail
    refine HN.out.mono ?_
    rintro e w1 ⟨rfl, hr1, hg1⟩
    obtain ⟨k0, k1, k2, k3, k4, f1, f2, f3, f4⟩ := hr1.cells
    have HS := hid (show Rd (w1.setCell ⟨g, 1, none⟩ (.int .i64 ((i : Int) + 1))) g s (i + 1) nd c p by simpa [Rd] using Blk.put hr1 1 (.int .i64 ((i : Int) + 1)))
    have HG := hid (grown_trans hg1 (grown_set1 w1 g 1 (.int .i64 ((i : Int) + 1))))
    clear hr1 hg1 HN
    go_wp2_with fail
    go_ret3
    rw [HP2.out]
    exact ⟨HG.out, rfl, _, _, HS.out⟩
  have HP43 := hid (HP42.out.trans (if_neg h43))
  clear HP42
  by_cases h63 : nx s.data.toList i = 63
  · have HP2 := hid (HP43.out.trans (if_pos h63))
    clear HP43
    rw [h63] at HN
    go_enter Tryd.func75, Tryd.ntmps75
    go_wp2_with fail
    refine HN.out.mono ?_
    rintro e w1 ⟨rfl, hr1, hg1⟩
    obtain ⟨k0, k1, k2, k3, k4, f1, f2, f3, f4⟩ := hr1.cells
    have HS := hid (show Rd (w1.setCell ⟨g, 1, none⟩ (.int .i64 ((i : Int) + 1))) g s (i + 1) nd c p by simpa [Rd] using Blk.put hr1 1 (.int .i64 ((i : Int) + 1)))
    have HG := hid (grown_trans hg1 (grown_set1 w1 g 1 (.int .i64 ((i : Int) + 1))))
    clear hr1 hg1 HN
    go_wp2_with fail
    go_ret3
    rw [HP2.out]
    exact ⟨HG.out, rfl, _, _, HS.out⟩
  have HP63 := hid (HP43.out.trans (if_neg h63))
  clear HP43
  have n42 : ¬ ((nx s.data.toList i : Nat) : Int) = 42 := by omega
  have n43 : ¬ ((nx s.data.toList i : Nat) : Int) = 43 := by omega
  have n63 : ¬ ((nx s.data.toList i : Nat) : Int) = 63 := by omega
  generalize nx s.data.toList i = x at *
  generalize pBounds s.data.toList (i + 1) = r at *
  go_enter Tryd.func75, Tryd.ntmps75
  go_wp2_with fail
  refine HN.out.mono ?_
  rintro e w1 ⟨rfl, hr1, hg1⟩
  obtain ⟨k0, k1, k2, k3, k4, f1, f2, f3, f4⟩ := hr1.cells
  have HS := hid (show Rd (w1.setCell ⟨g, 1, none⟩ (.int .i64 ((i : Int) + 1))) g s (i + 1) nd c p by simpa [Rd] using Blk.put hr1 1 (.int .i64 ((i : Int) + 1)))
  have HG := hid (grown_trans hg1 (grown_set1 w1 g 1 (.int .i64 ((i : Int) + 1))))
  clear hr1 hg1 HN
  go_wp2_with fail
  refine (HB.out _ HS.out).mono ?_
  rintro e w2 ⟨hg2, hp2⟩
  cases r with
  | error v =>
    obtain ⟨⟨u, v', rfl⟩, j', nd', hr2⟩ := hp2
    go_wp2_with fail
    go_ret3
    rw [HP63.out]
    exact ⟨grown_trans HG.out hg2, ⟨_, _, rfl⟩, _, _, hr2⟩
  | ok v =>
    obtain ⟨rfl, c2, p2, hr2⟩ := hp2
    go_wp2_with fail
    go_ret3
    rw [HP63.out]
    exact ⟨grown_trans HG.out hg2, rfl, _, _, hr2⟩
end Go.Proofs.YtoiegkejkahfgaaDoor
