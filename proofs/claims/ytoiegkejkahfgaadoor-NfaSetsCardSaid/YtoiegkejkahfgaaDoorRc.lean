/- regex: bytes of a text. -/
import Derived.Test.YtoiegkejkahfgaaDoorRd
import Derived.Deep.RegionHeld3
set_option linter.unusedVariables false
set_option linter.unusedSimpArgs false
namespace Go.Proofs.YtoiegkejkahfgaaDoor
open Go.RowKit

theorem alnum_cases (c : Nat) : c < 48 ∨ (48 ≤ c ∧ c ≤ 57) ∨ (57 < c ∧ c < 65) ∨ (65 ≤ c ∧ c ≤ 90) ∨ (90 < c ∧ c < 97) ∨ (97 ≤ c ∧ c ≤ 122) ∨ 122 < c := by omega
set_option maxRecDepth 100000 in
theorem alnum_any (c : Nat) (w : World) : Calls Tryd.prog 96 #[.int .u8 (c : Int)] w fun e w' => e = .returned (.bool (alnum c)) ∧ w' = w := by
  rcases alnum_cases c with h | ⟨h, h2⟩ | ⟨h, h2⟩ | ⟨h, h2⟩ | ⟨h, h2⟩ | ⟨h, h2⟩ | h
  all_goals
    go_enter Tryd.func96, Tryd.ntmps96
    go_wp2
    go_ret
    refine ⟨?_, rfl⟩
    unfold alnum
    congr 2
    simp
    try (first | omega | (rw [Bool.eq_iff_iff]; simp only [Bool.or_eq_true, Bool.and_eq_true, decide_eq_true_eq]; omega))

theorem index_same (s : ByteArray) (c : Nat) (w : World) :
    Calls Tryd.prog 74 #[.string s, .int .u8 (c : Int)] w fun e w' => e = .returned (.int .i64 (firstIdx s c.toUInt8)) ∧ w' = w := (index_any s c w).mono fun _ _ ⟨h1, h2⟩ => ⟨h1, h2.symm⟩
theorem hexI_ge (c : Nat) : -1 ≤ hexI c := by
  unfold hexI firstIdx
  split
  · omega
  · decide

theorem or_hex_fin : ∀ a : Fin 16, ∀ b : Fin 16, bits .or .i64 ((a.val : Int) * 16) (b.val : Int) % 256 = ((a.val * 16 + b.val : Nat) : Int) := by decide +kernel
theorem or_hex (a b : Nat) (ha : a < 16) (hb : b < 16) : bits .or .i64 ((a : Int) * 16) (b : Int) % 256 = ((a * 16 + b : Nat) : Int) := or_hex_fin ⟨a, ha⟩ ⟨b, hb⟩
set_option maxRecDepth 100000 in
set_option maxHeartbeats 2000000 in
theorem hex_any (r : List UInt8) (hr : r.length ≤ 512) (w : World) : Calls Tryd.prog 95 #[.string ⟨r.toArray⟩] w fun e w' => e = .returned (.tuple #[.int .u8 ((hexP r).1 : Nat), .int .i64 ((hexP r).2 : Nat)]) ∧ Below w.heap.size w w' := by
  have hsz : (⟨r.toArray⟩ : ByteArray).size = r.length := rfl
  by_cases h3 : r.length < 3
  · have hp : hexP r = (0, 0) := by unfold hexP; rw [if_pos h3]
    rw [hp]
    go_enter Tryd.func95, Tryd.ntmps95
    go_wp2
    go_ret2
    exact ⟨rfl, Below.refl _ _⟩
  · have e1 : nx r 1 = (r[1]'(by omega)).toNat := nx_at (by omega)
    have e2 : nx r 2 = (r[2]'(by omega)).toNat := nx_at (by omega)
    have i1 : ∀ W : World, (Instr.index 9 (.string ⟨r.toArray⟩) (.int .i64 1)).run Tryd.prog W = .ok (.int .u8 ((nx r 1 : Nat) : Int)) W := by
      intro W
      rw [e1]
      go_simp
      rw [dif_pos (by omega)]
      rfl
    have i2 : ∀ W : World, (Instr.index 9 (.string ⟨r.toArray⟩) (.int .i64 2)).run Tryd.prog W = .ok (.int .u8 ((nx r 2 : Nat) : Int)) W := by
      intro W
      rw [e2]
      go_simp
      rw [dif_pos (by omega)]
      rfl
    have H1 := hid (fun W => index_same rxHex (nx r 1) W)
    have H2 := hid (fun W => index_same rxHex (nx r 2) W)
    have b1 := hexI_lt (nx r 1)
    have b2 := hexI_lt (nx r 2)
    have c1 := hexI_ge (nx r 1)
    have c2 := hexI_ge (nx r 2)
    have HP := hid (show hexP r = if hexI (nx r 1) < 0 ∨ hexI (nx r 2) < 0 then (0, 0) else ((hexI (nx r 1)).toNat * 16 + (hexI (nx r 2)).toNat, 3) by unfold hexP; rw [if_neg h3])
    unfold hexI at b1 b2 c1 c2 HP
    rw [HP.out]
    clear HP e1 e2
    generalize firstIdx rxHex (nx r 1).toUInt8 = x at *
    generalize firstIdx rxHex (nx r 2).toUInt8 = y at *
    generalize nx r 1 = n1 at *
    generalize nx r 2 = n2 at *
    unfold rxHex at H1 H2
    by_cases hx : x < 0
    · have HR := hid (show (if x < 0 ∨ y < 0 then (0, 0) else (x.toNat * 16 + y.toNat, 3) : Nat × Nat) = (0, 0) by rw [if_pos (.inl hx)])
      rw [HR.out]
      go_enter Tryd.func95, Tryd.ntmps95
      go_wp2_with fail
      go_quiet (first | (go_at_call 74; refine Calls.quiet_of_same (H1.out _)) | (go_at_call 74; refine Calls.quiet_of_same (H2.out _)))
      go_wp2_with fail
      go_ret2
      exact ⟨rfl, ⟨rfl, rfl, rfl, Nat.le_refl _, fun _ _ => rfl⟩⟩
    · by_cases hy : y < 0
      · have HR := hid (show (if x < 0 ∨ y < 0 then (0, 0) else (x.toNat * 16 + y.toNat, 3) : Nat × Nat) = (0, 0) by rw [if_pos (.inr hy)])
        rw [HR.out]
        go_enter Tryd.func95, Tryd.ntmps95
        go_wp2_with fail
        go_quiet (first | (go_at_call 74; refine Calls.quiet_of_same (H1.out _)) | (go_at_call 74; refine Calls.quiet_of_same (H2.out _)))
        go_wp2_with fail
        go_ret2
        exact ⟨rfl, ⟨rfl, rfl, rfl, Nat.le_refl _, fun _ _ => rfl⟩⟩
      · have HR := hid (show (if x < 0 ∨ y < 0 then (0, 0) else (x.toNat * 16 + y.toNat, 3) : Nat × Nat) = (x.toNat * 16 + y.toNat, 3) by rw [if_neg (by omega)])
        rw [HR.out]
        obtain ⟨a, rfl⟩ : ∃ a : Nat, x = a := ⟨x.toNat, by omega⟩
        obtain ⟨b, rfl⟩ : ∃ b : Nat, y = b := ⟨y.toNat, by omega⟩
        clear HR
        go_enter Tryd.func95, Tryd.ntmps95
        go_wp2_with fail
        go_quiet (first | (go_at_call 74; refine Calls.quiet_of_same (H1.out _)) | (go_at_call 74; refine Calls.quiet_of_same (H2.out _)))
        go_wp2_with fail
        go_ret2
        refine ⟨?_, ⟨rfl, rfl, rfl, Nat.le_refl _, fun _ _ => rfl⟩⟩
        show Ending.returned (.tuple #[.int .u8 (bits .or .i64 ((a : Int) * 16) (b : Int) % 256), .int .i64 3]) = _
        rw [or_hex a b (by omega) (by omega)]
        rfl
end Go.Proofs.YtoiegkejkahfgaaDoor

/- regex: bytes of a text: behind a backslash, and all. -/
namespace Go.Proofs.YtoiegkejkahfgaaDoor
open Go.RowKit

set_option maxRecDepth 100000 in
set_option maxHeartbeats 4000000 in
theorem unesc_any (r : List UInt8) (hr : r.length ≤ 512) (w : World) : Calls Tryd.prog 92 #[.string ⟨r.toArray⟩] w fun e w' => e = .returned (.tuple #[.int .u8 ((unesc r).1 : Nat), .int .i64 ((unesc r).2 : Nat)]) ∧ Below w.heap.size w w' := by
  have HH := hid (fun W => hex_any r hr W)
  have HA := hid (fun c W => alnum_any c W)
  rcases r with _ | ⟨d, r⟩
  · have hu : unesc [] = (0, 0) := rfl
    rw [hu]
    go_enter Tryd.func92, Tryd.ntmps92
    go_wp2
    go_ret2
    exact ⟨rfl, Below.refl _ _⟩
  · have hd : nx (d :: r) 0 = d.toNat := rfl
    have hlt : nx (d :: r) 0 < 256 := nx_byte _ _
    have i0 : ∀ W : World, (Instr.index 9 (.string ⟨(d :: r).toArray⟩) (.int .i64 0)).run Tryd.prog W = .ok (.int .u8 ((nx (d :: r) 0 : Nat) : Int)) W := by
      intro W
      rw [hd]
      go_simp
      exact rfl
    have hU : unesc (d :: r) = (if nx (d :: r) 0 = 110 then (10, 1) else if nx (d :: r) 0 = 114 then (13, 1) else if nx (d :: r) 0 = 116 then (9, 1) else if nx (d :: r) 0 = 48 then (0, 1) else if nx (d :: r) 0 = 120 then hexP (d :: r)
      else if nx (d :: r) 0 ≤ 32 ∨ 126 < nx (d :: r) 0 ∨ alnum (nx (d :: r) 0) = true then (0, 0) else (nx (d :: r) 0, 1)) := by
      unfold unesc
      rw [if_neg (by simp)]
    have hne : (⟨(d :: r).toArray⟩ : ByteArray).toList.isEmpty = false := by rw [ByteArray.toList_eq]; rfl
    rw [hU]
    clear hU hd
    generalize hexP (d :: r) = hp at *
    generalize nx (d :: r) 0 = c at *
    generalize (⟨(d :: r).toArray⟩ : ByteArray) = s at *
    clear hr
    by_cases h110 : c = 110
    · rw [if_pos h110]
      subst h110
      go_enter Tryd.func92, Tryd.ntmps92
      go_wp2_with fail
      go_ret2
      exact ⟨rfl, Below.refl _ _⟩
    by_cases h114 : c = 114
    · rw [if_neg h110]; rw [if_pos h114]
      subst h114
      go_enter Tryd.func92, Tryd.ntmps92
      go_wp2_with fail
      go_ret2
      exact ⟨rfl, Below.refl _ _⟩
    by_cases h116 : c = 116
    · rw [if_neg h110]; rw [if_neg h114]; rw [if_pos h116]
      subst h116
      go_enter Tryd.func92, Tryd.ntmps92
      go_wp2_with fail
      go_ret2
      exact ⟨rfl, Below.refl _ _⟩
    by_cases h48 : c = 48
    · rw [if_neg h110]; rw [if_neg h114]; rw [if_neg h116]; rw [if_pos h48]
      subst h48
      go_enter Tryd.func92, Tryd.ntmps92
      go_wp2_with fail
      go_ret2
      exact ⟨rfl, Below.refl _ _⟩
    by_cases h120 : c = 120
    · rw [if_neg h110]; rw [if_neg h114]; rw [if_neg h116]; rw [if_neg h48]; rw [if_pos h120]
      subst h120
      go_enter Tryd.func92, Tryd.ntmps92
      go_wp2_with (go_at_call 95; refine (HH.out _).mono ?_; rintro e w1 ⟨rfl, hb1⟩)
      go_ret2
      exact ⟨rfl, hb1⟩
    rw [if_neg h110]; rw [if_neg h114]; rw [if_neg h116]; rw [if_neg h48]; rw [if_neg h120]
    clear HH
    by_cases k1 : c ≤ 32
    · rw [if_pos (.inl k1)]
      go_enter Tryd.func92, Tryd.ntmps92
      go_wp2_with fail
      go_ret2
      exact ⟨rfl, Below.refl _ _⟩
    by_cases k2 : 126 < c
    · rw [if_pos (.inr (.inl k2))]
      go_enter Tryd.func92, Tryd.ntmps92
      go_wp2_with fail
      go_ret2
      exact ⟨rfl, Below.refl _ _⟩
    cases k3 : alnum c with
    | true =>
      rw [if_pos (.inr (.inr rfl))]
      have HA2 := hid (HA.out c)
      rw [k3] at HA2
      clear HA k3
      go_enter Tryd.func92, Tryd.ntmps92
      go_wp2_with (go_at_call 96; refine (HA2.out _).mono ?_; rintro e w1 ⟨rfl, rfl⟩)
      go_ret2
      exact ⟨rfl, Below.refl _ _⟩
    | false =>
      rw [if_neg (by simp; omega)]
      have HA2 := hid (HA.out c)
      rw [k3] at HA2
      clear HA k3
      go_enter Tryd.func92, Tryd.ntmps92
      go_wp2_with (go_at_call 96; refine (HA2.out _).mono ?_; rintro e w1 ⟨rfl, rfl⟩)
      go_ret2
      exact ⟨rfl, Below.refl _ _⟩
end Go.Proofs.YtoiegkejkahfgaaDoor

/- regex: the byte that stands next. -/
namespace Go.Proofs.YtoiegkejkahfgaaDoor
open Go.RowKit

/-- What a step of the reader leaves, whose answer is a value and a yes. -/
def Post {α : Type} (r : CR α) (val : α → Value) (bad : Value → Prop) (w : World) (g : Nat) (s : ByteArray) (nd : Nat) (e : Ending) (w' : World) : Prop :=
  w.grownBy w' (some g) ∧ match r with
  | .ok (a, j) => e = .returned (.tuple #[val a, .bool true]) ∧ ∃ c p, Rd w' g s j nd c p
  | .error (c, p) => (∃ v, bad v ∧ e = .returned (.tuple #[v, .bool false])) ∧ ∃ j nd', Rd w' g s j nd' (c : Int) (p : Int)
theorem wrapS (n : Int) (h : -9223372036854775808 ≤ n) (h2 : n ≤ 9223372036854775807) : IntKind.i64.wrap n = n := by
  simp [IntKind.wrap, IntKind.bits, IntKind.signed]
  omega
theorem drop_str (s : ByteArray) (k : Nat) (h : k ≤ s.size) : s.extract k s.size = ⟨(s.data.toList.drop k).toArray⟩ := by
  apply ByteArray.ext
  rw [ByteArray.data_extract]
  apply Array.toList_inj.1
  simp only [Array.toList_extract, List.extract_eq_take_drop]
  rw [List.take_of_length_le]
  rw [List.length_drop]
  exact Nat.le_refl _

set_option maxRecDepth 100000 in
set_option maxHeartbeats 2000000 in
theorem esc_any {w : World} {g : Nat} {s : ByteArray} {i nd : Nat} {c p : Int} (h : Rd w g s i nd c p) (hi : i < s.size) (hs : s.size ≤ 512) :
    Calls Tryd.prog 89 #[.pointer (some ⟨g, 0, none⟩)] w (Post (pEsc s.data.toList i) (fun c => .int .u8 (c : Nat)) (· = .int .u8 0) w g s nd) := by
  have hl : (s.data.toList.drop (i + 1)).length ≤ 512 := by
    rw [List.length_drop]
    have : s.data.toList.length = s.size := rfl
    omega
  have HU := hid (fun W => unesc_any (s.data.toList.drop (i + 1)) hl W)
  rw [← drop_str s (i + 1) (by omega)] at HU
  have HP := hid (show pEsc s.data.toList i = if (unesc (s.data.toList.drop (i + 1))).2 = 0 then .error (5, i) else .ok ((unesc (s.data.toList.drop (i + 1))).1, i + 1 + (unesc (s.data.toList.drop (i + 1))).2) from rfl)
  have hul := unesc_len (s.data.toList.drop (i + 1))
  have hul2 : (unesc (s.data.toList.drop (i + 1))).2 ≤ 512 := Nat.le_trans hul.1 hl
  rw [HP.out]
  clear HP hul hl
  generalize unesc (s.data.toList.drop (i + 1)) = u at *
  obtain ⟨u1, u2⟩ := u
  simp only at *
  have HF := hid (fun (W : World) (h : Rd W g s i nd c p) => fail_any h 5 (i : Int))
  have hk := And.intro h.cells.1 h.cells.2.1
  have HR := hid h
  have HG := hid (grown_refl w (some g))
  clear h
  have hi1 : (i : Int) + 1 ≤ (s.size : Int) := by omega
  have hi2 : (0 : Int) ≤ (i : Int) + 1 := by omega
  have hsz : (s.size : Int) ≤ 512 := by omega
  have hw1 : IntKind.i64.wrap ((i : Int) + 1) = (i : Int) + 1 := wrapS _ (by omega) (by omega)
  have hsl : ∀ W : World, (Instr.slice 9 (.string s) (some (.int .i64 ((i : Int) + 1))) none none).run Tryd.prog W = .ok (.string (s.extract (i + 1) s.size)) W := by
    intro W
    go_simp
  by_cases h0 : u2 = 0
  · subst h0
    rw [if_pos rfl]
    go_enter Tryd.func89, Tryd.ntmps89
    go_wp2_with fail
    go_region_held3 (fun w' => w'.cell? ⟨g, 0, none⟩ = some (.string s) ∧ w'.cell? ⟨g, 1, none⟩ = some (.int .i64 (i : Int)))
      (first | exact hk | assumption)
      (first | (go_at_call 92; with_reducible refine (HU.out _).mono ?_; rintro e w1 ⟨rfl, hb1⟩; have HR1 := hid (HR.out.drew.keep hb1); have HG1 := hid (grown_trans (grown_drew w g) (grown_of_below hb1 (some g))); have hk := And.intro HR1.out.cells.1 HR1.out.cells.2.1; clear hb1))
    obtain ⟨k0, k1, k2, k3, k4, f1, f2, f3, f4⟩ := HR1.out.cells
    go_wp2_with (go_at_call 32; refine (HF.out _ HR1.out).mono ?_; rintro e w2 ⟨rfl, hr2, hg2⟩)
    go_ret2
    exact ⟨grown_trans HG1.out hg2, ⟨_, rfl, rfl⟩, _, _, hr2⟩
  · rw [if_neg h0]
    clear HF
    go_enter Tryd.func89, Tryd.ntmps89
    go_wp2_with fail
    go_region_held3 (fun w' => w'.cell? ⟨g, 0, none⟩ = some (.string s) ∧ w'.cell? ⟨g, 1, none⟩ = some (.int .i64 (i : Int)))
      (first | exact hk | assumption)
      (first | (go_at_call 92; with_reducible refine (HU.out _).mono ?_; rintro e w1 ⟨rfl, hb1⟩; have HR1 := hid (HR.out.drew.keep hb1); have HG1 := hid (grown_trans (grown_drew w g) (grown_of_below hb1 (some g))); have hk := And.intro HR1.out.cells.1 HR1.out.cells.2.1; clear hb1))
    obtain ⟨k0, k1, k2, k3, k4, f1, f2, f3, f4⟩ := HR1.out.cells
    have HS := hid (Blk.put HR1.out 1 (.int .i64 ((i : Int) + (1 + (u2 : Int)))))
    have HG2 := hid (grown_trans HG1.out (grown_set1 w1 g 1 (.int .i64 ((i : Int) + (1 + (u2 : Int))))))
    go_wp2_with fail
    go_ret2
    exact ⟨HG2.out, rfl, c, p, by simpa [Rd, Int.add_assoc] using HS.out⟩
end Go.Proofs.YtoiegkejkahfgaaDoor

/- regex: a byte, and a run of bytes. -/
namespace Go.Proofs.YtoiegkejkahfgaaDoor
open Go.RowKit

set_option maxRecDepth 100000 in
set_option maxHeartbeats 2000000 in
theorem char_any {w : World} {g : Nat} {s : ByteArray} {i nd : Nat} {c p : Int} (h : Rd w g s i nd c p) (hi : i ≤ s.size) (hs : s.size ≤ 512) :
    Calls Tryd.prog 82 #[.pointer (some ⟨g, 0, none⟩)] w (Post (pChar s.data.toList i) (fun c => .int .u8 (c : Nat)) (· = .int .u8 0) w g s nd) := by
  have HN := hid (next_any h hi hs)
  have HF := hid (fun (W : World) (h : Rd W g s i nd c p) => fail_any h 5 (i : Int))
  have hb := nx_byte s.data.toList i
  have HP := hid (show pChar s.data.toList i = if nx s.data.toList i = 92 then pEsc s.data.toList i else if nx s.data.toList i < 32 ∨ 126 < nx s.data.toList i ∨ isSign (nx s.data.toList i) = true then .error (5, i) else .ok (nx s.data.toList i, i + 1) from rfl)
  have HE : nx s.data.toList i = 92 → Hid (∀ W : World, Rd W g s i nd c p → Calls Tryd.prog 89 #[.pointer (some ⟨g, 0, none⟩)] W (Post (pEsc s.data.toList i) (fun c => .int .u8 (c : Nat)) (· = .int .u8 0) W g s nd)) := fun e => hid (fun W h => esc_any h (nx_lt (l := s.data.toList) (by omega)) hs)
  rw [HP.out]
  have HI := hid (fun W => index_same rxSigns (nx s.data.toList i) W)
  have HSg := hid (show isSign (nx s.data.toList i) = decide (0 ≤ firstIdx rxSigns (nx s.data.toList i).toUInt8) from rfl)
  clear HP h
  generalize nx s.data.toList i = x at *
  generalize firstIdx rxSigns x.toUInt8 = f at *
  unfold rxSigns at HI
  by_cases h92 : x = 92
  · have HE2 := HE h92
    clear HE
    rw [if_pos h92]
    subst h92
    generalize pEsc s.data.toList i = r at *
    go_enter Tryd.func82, Tryd.ntmps82
    go_wp2_with fail
    refine HN.out.mono ?_
    rintro e w1 ⟨rfl, hr1, hg1⟩
    go_wp2_with fail
    refine (HE2.out _ hr1).mono ?_
    rintro e w2 ⟨hg2, hp⟩
    cases r with
    | error v =>
      obtain ⟨⟨v', hv, rfl⟩, j, nd', hr⟩ := hp
      go_wp2_with fail
      go_ret2
      exact ⟨grown_trans hg1 hg2, ⟨_, rfl, rfl⟩, _, _, hr⟩
    | ok v =>
      obtain ⟨rfl, c', p', hr⟩ := hp
      go_wp2_with fail
      go_ret2
      exact ⟨grown_trans hg1 hg2, rfl, _, _, hr⟩
  · rw [if_neg h92]
    clear HE
    by_cases hbad : x < 32 ∨ 126 < x ∨ isSign x = true
    · rw [if_pos hbad]
      have h3 : x < 32 ∨ (32 ≤ x ∧ 126 < x) ∨ (32 ≤ x ∧ x ≤ 126 ∧ 0 ≤ f) := by
        rw [HSg.out] at hbad
        simp only [decide_eq_true_eq] at hbad
        omega
      clear hbad HSg
      rcases h3 with h3 | ⟨h3, h4⟩ | ⟨h3, h4, h5⟩
      all_goals
        go_enter Tryd.func82, Tryd.ntmps82
        go_wp2_with fail
        refine HN.out.mono ?_
        rintro e w1 ⟨rfl, hr1, hg1⟩
        have HR1 := hid hr1
        have HG1 := hid hg1
        obtain ⟨k0, k1, k2, k3, k4, f1, f2, f3, f4⟩ := hr1.cells
        clear hr1 hg1
        go_wp2_with (first
          | (go_at_call 74; refine (HI.out _).mono ?_; rintro e w9 ⟨rfl, rfl⟩)
          | (go_at_call 32; refine (HF.out _ HR1.out).mono ?_; rintro e w2 ⟨rfl, hr2, hg2⟩))
        go_ret2
        exact ⟨grown_trans HG1.out hg2, ⟨_, rfl, rfl⟩, _, _, hr2⟩
    · rw [if_neg hbad]
      have h3 : 32 ≤ x ∧ x ≤ 126 ∧ f < 0 := by
        rw [HSg.out] at hbad
        simp only [decide_eq_true_eq] at hbad
        omega
      clear hbad HSg HF
      obtain ⟨h3, h4, h5⟩ := h3
      go_enter Tryd.func82, Tryd.ntmps82
      go_wp2_with fail
      refine HN.out.mono ?_
      rintro e w1 ⟨rfl, hr1, hg1⟩
      have HS := hid (Blk.put hr1 1 (.int .i64 ((i : Int) + 1)))
      have HG := hid (grown_trans hg1 (grown_set1 w1 g 1 (.int .i64 ((i : Int) + 1))))
      obtain ⟨k0, k1, k2, k3, k4, f1, f2, f3, f4⟩ := hr1.cells
      clear hr1 hg1 HN
      have hi2 : i ≤ 512 := by omega
      go_wp2_with (first
        | (go_at_call 74; refine (HI.out _).mono ?_; rintro e w9 ⟨rfl, rfl⟩))
      go_ret2
      exact ⟨HG.out, rfl, c, p, by simpa [Rd] using HS.out⟩

/-- What a step of the reader leaves, whose answer is two values and a yes. -/
def Post2 {α : Type} (r : CR α) (v1 v2 : α → Value) (w : World) (g : Nat) (s : ByteArray) (nd : Nat) (e : Ending) (w' : World) : Prop :=
  w.grownBy w' (some g) ∧ match r with
  | .ok (a, j) => e = .returned (.tuple #[v1 a, v2 a, .bool true]) ∧ ∃ c p, Rd w' g s j nd c p
  | .error (c, p) => (∃ u v, e = .returned (.tuple #[u, v, .bool false])) ∧ ∃ j nd', Rd w' g s j nd' (c : Int) (p : Int)

set_option maxRecDepth 100000 in
set_option maxHeartbeats 2000000 in
theorem run_any {w : World} {g : Nat} {s : ByteArray} {i nd : Nat} {c p : Int} (h : Rd w g s i nd c p) (hi : i ≤ s.size) (hs : s.size ≤ 512) :
    Calls Tryd.prog 86 #[.pointer (some ⟨g, 0, none⟩)] w (Post2 (pRun s.data.toList i) (fun x => .int .u8 (x.1 : Nat)) (fun x => .int .u8 (x.2 : Nat)) w g s nd) := by
  have HC := hid (char_any h hi hs)
  have HRr := hid (show pRun s.data.toList i = match pChar s.data.toList i with
    | .error e => .error e
    | .ok (c, j) => if nx s.data.toList j = 45 then (match pChar s.data.toList (j + 1) with
      | .error e => .error e
      | .ok (d, k) => .ok ((c, d), k)) else .ok ((c, c), j) from rfl)
  generalize pRun s.data.toList i = R at *
  have hlt : ∀ x j, pChar s.data.toList i = .ok (x, j) → j ≤ s.size := fun x j e => (pChar_lt e).2.1
  have HT : Hid (∀ (W : World) (j : Nat) (c p : Int), Rd W g s j nd c p → j ≤ s.size → nx s.data.toList j ≠ 45 → Calls Tryd.prog 47 #[.pointer (some ⟨g, 0, none⟩), .int .u8 45] W fun e w' => e = .returned (.bool false) ∧ Rd w' g s j nd c p ∧ W.grownBy w' (some g)) := hid (fun W j c p h hj hx => took_no h hj hs 45 hx)
  have HT2 : Hid (∀ (W : World) (j : Nat) (c p : Int), Rd W g s j nd c p → j ≤ s.size → nx s.data.toList j = 45 → Calls Tryd.prog 47 #[.pointer (some ⟨g, 0, none⟩), .int .u8 45] W fun e w' => e = .returned (.bool true) ∧ Rd w' g s (j + 1) nd c p ∧ W.grownBy w' (some g)) := hid (fun W j c p h hj hx => took_yes h hj hs 45 hx)
  have HC2 := hid (fun (W : World) (j : Nat) (c p : Int) (h : Rd W g s j nd c p) (hj : j ≤ s.size) => char_any h hj hs)
  have HNX : Hid (∀ j, nx s.data.toList j = 45 → j < s.size) := hid (fun j e => nx_lt (l := s.data.toList) (by omega))
  generalize pChar s.data.toList i = r1 at *
  clear h
  go_enter Tryd.func86, Tryd.ntmps86
  go_wp2_with fail
  refine HC.out.mono ?_
  rintro e w1 ⟨hg1, hp1⟩
  cases r1 with
  | error v =>
    obtain ⟨⟨v', _, rfl⟩, j, nd', hr⟩ := hp1
    go_wp2_with fail
    go_ret3
    rw [show R = .error v from HRr.out]
    exact ⟨hg1, ⟨_, _, rfl⟩, _, _, hr⟩
  | ok v =>
    obtain ⟨rfl, c1, p1, hr1⟩ := hp1
    obtain ⟨x, j⟩ := v
    have hj := hlt x j rfl
    have HRk : Hid (R = if nx s.data.toList j = 45 then (match pChar s.data.toList (j + 1) with
      | .error e => .error e
      | .ok (d, k) => .ok ((x, d), k)) else .ok ((x, x), j)) := hid HRr.out
    clear HRr
    by_cases h45 : nx s.data.toList j = 45
    · have HRm := hid (HRk.out.trans (if_pos h45))
      clear HRk
      go_wp2_with fail
      refine (HT2.out _ j c1 p1 hr1 hj h45).mono ?_
      rintro e w2 ⟨rfl, hr2, hg2⟩
      have hj2 := HNX.out j h45
      have HC3 := hid (HC2.out w2 (j + 1) c1 p1 hr2 (by omega))
      clear hr2 hr1 h45 HC HT HT2 HC2 HNX
      generalize pChar s.data.toList (j + 1) = r2 at *
      go_wp2_with fail
      refine HC3.out.mono ?_
      rintro e w3 ⟨hg3, hp3⟩
      cases r2 with
      | error v =>
        obtain ⟨⟨v', _, rfl⟩, j', nd', hr⟩ := hp3
        go_wp2_with fail
        go_ret3
        rw [show R = .error v from HRm.out]
        exact ⟨grown_trans hg1 (grown_trans hg2 hg3), ⟨_, _, rfl⟩, _, _, hr⟩
      | ok v =>
        obtain ⟨rfl, c3, p3, hr3⟩ := hp3
        go_wp2_with fail
        go_ret3
        rw [show R = .ok ((x, v.1), v.2) from HRm.out]
        exact ⟨grown_trans hg1 (grown_trans hg2 hg3), rfl, _, _, hr3⟩
    · have HRm := hid (HRk.out.trans (if_neg h45))
      go_wp2_with fail
      refine (HT.out _ j c1 p1 hr1 hj h45).mono ?_
      rintro e w2 ⟨rfl, hr2, hg2⟩
      go_wp2_with fail
      go_ret3
      rw [HRm.out]
      exact ⟨grown_trans hg1 hg2, rfl, _, _, hr2⟩
end Go.Proofs.YtoiegkejkahfgaaDoor
