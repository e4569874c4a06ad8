/- regex: the reference: set. -/
import Derived.Test.YtplldfbjbekdlaaDoorRqB
import Derived.Test.YtplldfbjbekdlaaDoorRl
namespace Go.Proofs.YtplldfbjbekdlaaDoor
open Go.RowKit
set_option linter.unusedVariables false
set_option linter.unusedSimpArgs false

theorem rName_bel (s : ByteArray) (c : Nat) (h : nmP s.data.toList = some c) (w : World) : Calls Tryd.prog 38 #[.string s] w fun e w' => e = .returned (.int .u8 (c : Int)) ∧ Below w.heap.size w w' := by
  refine (rName_any s c h w).mono ?_
  rintro e w' ⟨rfl, rfl | ⟨n, rfl⟩⟩
  · exact ⟨rfl, Below.refl _ _⟩
  · exact ⟨rfl, rfl, rfl, rfl, Nat.le_refl _, fun _ _ => rfl⟩
theorem nmP_lt {l : List UInt8} {c : Nat} (h : nmP l = some c) : c < 256 := by
  have hb : ∀ i, nx l i < 256 := fun i => nx_byte _ _
  unfold nmP at h
  repeat' split at h
  all_goals first | (cases h; done) | (injection h with h; subst h; first | (have := hb 0; have := hb 1; omega) | (exact Nat.mod_lt _ (by decide)))
theorem ext_front (s : ByteArray) (n : Nat) : (s.extract 0 n).data.toList = s.data.toList.take n := by
  rw [ext_list, List.drop_zero, Nat.sub_zero]
/-- What set's loop holds: the set so far, in its block, and the result's. -/
structure SeS (w : World) (o : BS) (W : World) : Prop where
  out : Blk W (w.heap.size + 1) 24 (setL o)
  res : Blk W w.heap.size 24 (four (fun _ => 0))
  bel : Below w.heap.size w W
theorem SeS.below {w W W' : World} {o : BS} (h : SeS w o W) (hb : Below W.heap.size W W') : SeS w o W' := ⟨h.out.keep hb, h.res.keep hb, h.bel.trans (hb.mono h.bel.size)⟩
theorem SeS.put {w W : World} {o : BS} (h : SeS w o W) (q : BS) : SeS w q (W.setRow (w.heap.size + 1) (setL q).toArray) :=
  ⟨blk_row h.out _, (setRow_other W (w.heap.size + 1) w.heap.size _ (by omega)).trans h.res, below_row h.bel (by omega) _⟩
set_option maxRecDepth 100000 in
set_option maxHeartbeats 8000000 in
theorem rSet_any (s : ByteArray) (R : BS) (w : World) (hs : s.size ≤ 1000) (h : seP s.data.toList = some R) :
    Calls Tryd.prog 36 #[.string s] w fun e w' => e = .returned (setV R) ∧ Below w.heap.size w w' := by
  have hsz : s.data.toList.length = s.size := rfl
  have HSk := hid (fun (W : World) (t : ByteArray) (n : Nat) (ht : t.size ≤ 1000) (hn : skP 1 t.data.toList = some n) => rSkip_any 1 t n W ht hn)
  have HNm := hid (fun (W : World) (t : ByteArray) (c : Nat) (hn : nmP t.data.toList = some c) => rName_bel t c hn W)
  have HPu := hid (fun (W : World) (a : BS) (c : Nat) (hc : c < 256) => rPut_any a c hc W)
  unfold seP at h
  split at h
  · cases h
  rename_i h0
  rw [hsz] at h0
  have p0 : 0 < s.size := by omega
  have e0 := nx_str p0
  split at h
  · rename_i h1
    rw [h1] at e0
    cases hq : stP (s.data.toList.length + 1) (s.data.toList.drop 1) (0#256) with
    | none => rw [hq] at h; cases h
    | some Q =>
      rw [hq] at h
      simp only [Option.map_some, Option.some.injEq] at h
      subst h
      have hl1 := ext_drop s 1
      have hz1 := ext_siz s 1
      have q11 : (1 : Int) ≤ (s.size : Int) := by omega
      rw [← hl1] at hq
      have H := hid hq
      generalize hss : s.extract 1 s.size = s1 at *
      have hs1z : s1.size ≤ 1000 := by omega
      clear hq hl1 hz1 h1
      have hb := @below_alloc2 w (.cells (four (fun _ => 0)).toArray 24) (.cells (four (fun _ => 0)).toArray 24)
      have hC := (Blk.fresh w 24 (four (fun _ => 0))).alloc (.cells (four (fun _ => 0)).toArray 24)
      have hA := Blk.fresh (w.alloc (.cells (four (fun _ => 0)).toArray 24)) 24 (four (fun _ => 0))
      rw [show (w.alloc (.cells (four (fun _ => 0)).toArray 24)).heap.size = w.heap.size + 1 by simp] at hA
      have hs0 : four (fun _ => 0) = setL (0#256) := by simp [setL, four, wd_zero]
      have hA := Blk_cs hA hs0
      have HS := hid (SeS.mk hA hC hb)
      clear hA hC hb hs0
      go_enter Tryd.func36, Tryd.ntmps36
      go_wp2_with fail
      change Code.wp _ _ _ _ ((w.alloc (.cells (four (fun _ => 0)).toArray 24)).alloc (.cells (four (fun _ => 0)).toArray 24))
      generalize (w.alloc (.cells (four (fun _ => 0)).toArray 24)).alloc (.cells (four (fun _ => 0)).toArray 24) = w3 at *
      go_loopg [0] (s.data.toList.length + 1) (fun k v wr => ∃ (t : ByteArray) (o : BS), t.size ≤ 1000 ∧ v = .string t ∧ Hid (stP k t.data.toList o = some Q) ∧ Hid (SeS w o wr))
      case atStart => exact ⟨s1, 0#256, hs1z, rfl, H, HS⟩
      case round =>
        clear H HS
        obtain ⟨t, o, ht, rfl, H, HS⟩ := hrel
        obtain ⟨k, rfl⟩ : ∃ k, gk = k + 1 := by
          cases gk with
          | zero => exact absurd H.out (by unfold stP; intro q; cases q)
          | succ k => exact ⟨k, rfl⟩
        have h := H.out
        clear H
        have htz : t.data.toList.length = t.size := rfl
        unfold stP at h
        split at h
        · rename_i hz
          rw [htz] at hz
          injection h with h
          subst h
          have n9 : ¬ (0 : Int) < (t.size : Int) := by omega
          go_wp2_with fail
          go_loopw [9] (fun i wr => ∃ k : Nat, k ≤ 4 ∧ i = .int .i64 (k : Int) ∧ Hid (Blk wr (w.heap.size + 1) 24 (mix (wd (~~~o)) (wd o) k)) ∧ Hid (Blk wr w.heap.size 24 (four (fun _ => 0))) ∧ Hid (Below w.heap.size w wr)) (fun i _ => 4 - (intOf i).toNat)
          case atStart => exact ⟨0, by omega, rfl, hid (by rw [mix_zero]; exact HS.out.out), hid HS.out.res, hid HS.out.bel⟩
          case round =>
            clear HS
            obtain ⟨q, hq4, rfl, HA, HC, HB⟩ := hrel
            by_cases hlt : q < 4
            · have hca := (HA.out.at q).trans (mix_get (wd (~~~o)) (wd o) q hlt)
              have hfr := HA.out.free q
              have hS := HA.out.put q (u64V (wd (~~~o) q))
              rw [mix_set (wd (~~~o)) (wd o) q hlt] at hS
              have HS := hid hS
              have HC2 := hid (HC.out.other (p := ⟨w.heap.size + 1, q, none⟩) (show w.heap.size ≠ w.heap.size + 1 by omega) (u64V (wd (~~~o) q)))
              have HB2 := hid (HB.out.setCell (p := ⟨w.heap.size + 1, q, none⟩) (Nat.le_succ _) (u64V (wd (~~~o) q)))
              have hx1 := wd_lt o q
              have HX := hid (show bits .xor .u64 (if IntKind.u64.signed = true then -1 else IntKind.u64.max) ((wd o q : Nat) : Int) = ((wd (~~~o) q : Nat) : Int) by rw [wd_not o q hlt]; exact not64 _ hx1)
              unfold u64V at hca HS HC2 HB2
              clear hS HA HC HB
              generalize wd (~~~o) q = y at *
              generalize wd o q = x1 at *
              go_wp2
              go_roundw
              case rel => exact ⟨q + 1, by omega, by go_num, by rw [HX.out]; exact HS, by rw [HX.out]; exact HC2, by rw [HX.out]; exact HB2⟩
              case measure => simp [intOf]; omega
            · obtain rfl : q = 4 := by omega
              have hA := HA.out
              rw [mix_all] at hA
              have hg : wr.heap[w.heap.size + 1]? = some (.cells (setL (~~~o)).toArray 24) := hA
              have hzz : wr.heap[w.heap.size]? = some (.cells (four (fun _ => 0)).toArray 24) := HC.out
              have HRR := hid (blk_row HC.out (setL (~~~o)))
              have hB := hid (below_row HB.out (Nat.le_refl w.heap.size) (setL (~~~o)).toArray)
              generalize hqq : ~~~o = Q2 at *
              go_wp2_with (first
                | refine wpList_load_row rfl 24 _ rfl (w.heap.size + 1) rfl 24 _ (0, 0) _ hg Tryd.underlying24 rfl (rset_info _) ?_
                | refine wpList_store_row rfl 24 _ _ rfl w.heap.size (setL Q2).toArray rfl rfl 24 _ hzz (rset_info _) rfl (four_one _) ?_)
              exact bodyPost_ret (v := .agg (setL Q2).toArray) (results_cell_row (P := Tryd.prog) (fn := Tryd.f36) rfl _ _ w.heap.size 24 _ (0, 0) _ rfl HRR.out Tryd.underlying24 rfl (rset_info _)) rfl ⟨by rw [← hqq, setV_eq], hB.out⟩
        · rename_i hz
          rw [htz] at hz
          have p1 : (0 : Int) < (t.size : Int) := by omega
          cases hk : skP 1 t.data.toList with
          | none => rw [hk] at h; cases h
          | some n =>
            rw [hk] at h
            simp only at h
            have hn := skP_le _ _ _ hk
            rw [htz] at hn
            cases hf : nmP (t.data.toList.take n) with
            | none => rw [hf] at h; cases h
            | some F =>
              rw [hf] at h
              simp only at h
              have hF := nmP_lt hf
              have HK1 := hid (fun W => HSk.out W t n ht hk)
              have HN1 := hid (fun W => HNm.out W (t.extract 0 n) F (by rw [ext_front]; exact hf))
              have bn : (n : Int) ≤ (t.size : Int) := by omega
              have hrl := ext_drop t n
              have hrs := ext_siz t n
              split at h
              · rename_i hd
                cases hk2 : skP 1 ((t.data.toList.drop n).drop 1) with
                | none => rw [hk2] at h; cases h
                | some m =>
                  rw [hk2] at h
                  simp only at h
                  have hm := skP_le _ _ _ hk2
                  cases hf2 : nmP (((t.data.toList.drop n).drop 1).take m) with
                  | none => rw [hf2] at h; cases h
                  | some T =>
                    rw [hf2] at h
                    simp only at h
                    have hT256 := nmP_lt hf2
                    rw [← hrl] at h hd hk2 hf2 hm
                    generalize hrr : t.extract n t.size = r at *
                    have hr0 : 0 < r.size := by
                      rcases Nat.eq_zero_or_pos r.size with q | q
                      · exfalso
                        have hz0 : r.data.toList = [] := List.eq_nil_of_length_eq_zero q
                        rw [hz0] at hd
                        exact absurd hd (by decide)
                      · exact q
                    have er := nx_str hr0
                    rw [hd] at er
                    have hr1000 : r.size ≤ 1000 := by omega
                    have q1 : (0 : Int) < (r.size : Int) := by omega
                    have q11 : (1 : Int) ≤ (r.size : Int) := by omega
                    have hl2 := ext_drop r 1
                    have hs2 := ext_siz r 1
                    rw [← hl2] at h hk2 hf2 hm
                    have HK2 := hid (fun W => HSk.out W (r.extract 1 r.size) m (by omega) hk2)
                    have HN2 := hid (fun W => HNm.out W ((r.extract 1 r.size).extract 0 m) T (by rw [ext_front]; exact hf2))
                    generalize hr2 : r.extract 1 r.size = r2 at *
                    have hlz : r2.data.toList.length = r2.size := rfl
                    rw [hlz] at hm
                    have bm : (m : Int) ≤ (r2.size : Int) := by omega
                    have hl3 := ext_drop r2 m
                    have hs3 := ext_siz r2 m
                    rw [← hl3] at h
                    generalize hr3 : r2.extract m r2.size = r3 at *
                    have hr31000 : r3.size ≤ 1000 := by omega
                    have HH := hid h
                    clear h hk hf hk2 hf2 hl2 hl3 hrl hd hz hrs hs2 hs3 hlz hm hn ht hr1000 htz
                    go_wp2_with fail
                    refine (HK1.out _).mono ?_
                    rintro e w5 ⟨rfl, rfl⟩
                    go_wp2_with fail
                    refine (HN1.out _).mono ?_
                    rintro e w6 ⟨rfl, hb6⟩
                    have HS2 := hid (HS.out.below hb6)
                    clear HS hb6 HK1 HN1
                    go_wp2_with fail
                    refine (HK2.out _).mono ?_
                    rintro e w5 ⟨rfl, rfl⟩
                    go_wp2_with fail
                    refine (HN2.out _).mono ?_
                    rintro e w7 ⟨rfl, hb7⟩
                    have HS3 := hid (HS2.out.below hb7)
                    clear HS2 hb7 HK2 HN2
                    go_wp2_with fail
                    go_loopw [8] (fun i wr => ∃ j : Nat, j ≤ T + 1 - F ∧ i = .int .i64 ((F + j : Nat) : Int) ∧ Hid (SeS w (o ||| rngN F j) wr)) (fun i _ => T + 1 - (intOf i).toNat)
                    case atStart => exact ⟨0, by omega, rfl, by rw [show o ||| rngN F 0 = o by simp [rngN]]; exact HS3⟩
                    case round =>
                      obtain ⟨j, hj, rfl, HS⟩ := hrel
                      by_cases hlt : F + j ≤ T
                      · obtain ⟨c, hcd⟩ : ∃ c, c = F + j := ⟨_, rfl⟩
                        rw [← hcd] at hlt ⊢
                        have hc : c < 256 := by omega
                        obtain ⟨a, ha⟩ : ∃ a, a = o ||| rngN F j := ⟨_, rfl⟩
                        obtain ⟨a2, ha2⟩ : ∃ a2, a2 = o ||| rngN F (j + 1) := ⟨_, rfl⟩
                        have h12 : a ||| bit c = a2 := by rw [ha, ha2, hcd, BitVec.or_assoc]; rfl
                        rw [← ha] at HS
                        have HP := hid (fun W => HPu.out W a c hc)
                        rw [h12, setV_eq, setV_eq] at HP
                        have HA2 := hid ha2
                        have HCD := hid hcd
                        clear h12 ha ha2 hcd
                        have hw8 := wrap_u8_nat c hc
                        have hg1 : ∀ X : World, SeS w a X → X.heap[w.heap.size + 1]? = some (.cells (setL a).toArray 24) := fun X h => h.out
                        have HPut := hid (fun (X : World) (h : SeS w a X) => h.put a2)
                        have hi := rset_info (wd a)
                        change _ = some (setL a).toArray.size at hi
                        have hi2 := rset_info (wd a2)
                        change _ = some (setL a2).toArray.size at hi2
                        have ho2 : (setL a2).toArray.all (·.oneCell') = true := four_one _
                        have hsz2 : (setL a).toArray.size = (setL a2).toArray.size := rfl
                        generalize hVa : (setL a).toArray = Va at *
                        generalize hVb : (setL a2).toArray = Vb at *
                        have hg := hg1 _ HS.out
                        have hcT : (c : Int) ≤ (T : Int) := by omega
                        go_wp2_with (refine wpList_load_row rfl 24 _ rfl (w.heap.size + 1) rfl 24 _ (0, 0) _ hg Tryd.underlying24 rfl hi ?_)
                        refine (HP.out _).mono ?_
                        rintro e w8 ⟨rfl, hb8⟩
                        have HS8 := hid (HS.out.below hb8)
                        have hz8 := hg1 _ HS8.out
                        have HS9 := hid (HPut.out _ HS8.out)
                        clear hb8 HS hg HP HPut hg1
                        go_wp2_with (refine wpList_store_row rfl 24 _ _ rfl (w.heap.size + 1) Vb rfl rfl 24 _ hz8 hi2 hsz2 ho2 ?_)
                        go_roundw
                        case rel => exact ⟨j + 1, by have := HCD.out; omega, by rw [HCD.out]; go_num, by rw [← HA2.out]; exact HS9⟩
                        case measure => have := HCD.out; simp [intOf]; omega
                      · obtain rfl : j = T + 1 - F := by omega
                        have HSe : Hid (SeS w (o ||| rng F T) _) := HS
                        have hcT : ¬ ((F + (T + 1 - F) : Nat) : Int) ≤ (T : Int) := by omega
                        go_wp2_with fail
                        go_roundg k
                        case measure => omega
                        case rel => exact ⟨r3, o ||| rng F T, hr31000, rfl, HH, HSe⟩
              · rename_i hd
                obtain ⟨T, hT⟩ : ∃ T, T = F := ⟨F, rfl⟩
                rw [← hrl] at h hd
                have hT2 : rng F F = rng F T := by rw [hT]
                rw [hT2] at h
                have hTF := hid hT
                have hT256 : T < 256 := by omega
                have HH := hid h
                generalize hrr : t.extract n t.size = r at *
                have hr1000 : r.size ≤ 1000 := by omega
                clear h hk hf hrl hz
                rcases Nat.eq_zero_or_pos r.size with hr0 | hr0
                · have q1 : ¬ (0 : Int) < (r.size : Int) := by omega
                  have q2 : decide ((0 : Int) < (r.size : Int)) = false := decide_eq_false q1
                  go_wp2_with fail
                  refine (HK1.out _).mono ?_
                  rintro e w5 ⟨rfl, rfl⟩
                  go_wp2_with fail
                  refine (HN1.out _).mono ?_
                  rintro e w6 ⟨rfl, hb6⟩
                  have HS3 := hid (HS.out.below hb6)
                  clear HS hb6 HK1 HN1
                  go_wp2_with fail
                  go_loopw [8] (fun i wr => ∃ j : Nat, j ≤ T + 1 - F ∧ i = .int .i64 ((F + j : Nat) : Int) ∧ Hid (SeS w (o ||| rngN F j) wr)) (fun i _ => T + 1 - (intOf i).toNat)
                  case atStart => exact ⟨0, by omega, rfl, by rw [show o ||| rngN F 0 = o by simp [rngN]]; exact HS3⟩
                  case round =>
                    obtain ⟨j, hj, rfl, HS⟩ := hrel
                    by_cases hlt : F + j ≤ T
                    · obtain ⟨c, hcd⟩ : ∃ c, c = F + j := ⟨_, rfl⟩
                      rw [← hcd] at hlt ⊢
                      have hc : c < 256 := by omega
                      obtain ⟨a, ha⟩ : ∃ a, a = o ||| rngN F j := ⟨_, rfl⟩
                      obtain ⟨a2, ha2⟩ : ∃ a2, a2 = o ||| rngN F (j + 1) := ⟨_, rfl⟩
                      have h12 : a ||| bit c = a2 := by rw [ha, ha2, hcd, BitVec.or_assoc]; rfl
                      rw [← ha] at HS
                      have HP := hid (fun W => HPu.out W a c hc)
                      rw [h12, setV_eq, setV_eq] at HP
                      have HA2 := hid ha2
                      have HCD := hid hcd
                      clear h12 ha ha2 hcd
                      have hw8 := wrap_u8_nat c hc
                      have hg1 : ∀ X : World, SeS w a X → X.heap[w.heap.size + 1]? = some (.cells (setL a).toArray 24) := fun X h => h.out
                      have HPut := hid (fun (X : World) (h : SeS w a X) => h.put a2)
                      have hi := rset_info (wd a)
                      change _ = some (setL a).toArray.size at hi
                      have hi2 := rset_info (wd a2)
                      change _ = some (setL a2).toArray.size at hi2
                      have ho2 : (setL a2).toArray.all (·.oneCell') = true := four_one _
                      have hsz2 : (setL a).toArray.size = (setL a2).toArray.size := rfl
                      generalize hVa : (setL a).toArray = Va at *
                      generalize hVb : (setL a2).toArray = Vb at *
                      have hg := hg1 _ HS.out
                      have hcT : (c : Int) ≤ (T : Int) := by omega
                      go_wp2_with (refine wpList_load_row rfl 24 _ rfl (w.heap.size + 1) rfl 24 _ (0, 0) _ hg Tryd.underlying24 rfl hi ?_)
                      refine (HP.out _).mono ?_
                      rintro e w8 ⟨rfl, hb8⟩
                      have HS8 := hid (HS.out.below hb8)
                      have hz8 := hg1 _ HS8.out
                      have HS9 := hid (HPut.out _ HS8.out)
                      clear hb8 HS hg HP HPut hg1
                      go_wp2_with (refine wpList_store_row rfl 24 _ _ rfl (w.heap.size + 1) Vb rfl rfl 24 _ hz8 hi2 hsz2 ho2 ?_)
                      go_roundw
                      case rel => exact ⟨j + 1, by have := HCD.out; omega, by rw [HCD.out]; go_num, by rw [← HA2.out]; exact HS9⟩
                      case measure => have := HCD.out; simp [intOf]; omega
                    · obtain rfl : j = T + 1 - F := by omega
                      have HSe : Hid (SeS w (o ||| rng F T) _) := HS
                      have hcT : ¬ ((F + (T + 1 - F) : Nat) : Int) ≤ (T : Int) := by omega
                      go_wp2_with fail
                      go_roundg k
                      case measure => omega
                      case rel => exact ⟨r, o ||| rng F T, hr1000, rfl, HH, HSe⟩
                · have q1 : (0 : Int) < (r.size : Int) := by omega
                  have er := nx_str hr0
                  have n45 : ¬ (nx r.data.toList 0 : Int) = 45 := by omega
                  have m45 : ((nx r.data.toList 0 : Int) == 45) = false := by simp; omega
                  generalize nx r.data.toList 0 = x5 at *
                  clear hd
                  go_wp2_with fail
                  refine (HK1.out _).mono ?_
                  rintro e w5 ⟨rfl, rfl⟩
                  go_wp2_with fail
                  refine (HN1.out _).mono ?_
                  rintro e w6 ⟨rfl, hb6⟩
                  have HS3 := hid (HS.out.below hb6)
                  clear HS hb6 HK1 HN1
                  go_wp2_with fail
                  go_loopw [8] (fun i wr => ∃ j : Nat, j ≤ T + 1 - F ∧ i = .int .i64 ((F + j : Nat) : Int) ∧ Hid (SeS w (o ||| rngN F j) wr)) (fun i _ => T + 1 - (intOf i).toNat)
                  case atStart => exact ⟨0, by omega, rfl, by rw [show o ||| rngN F 0 = o by simp [rngN]]; exact HS3⟩
                  case round =>
                    obtain ⟨j, hj, rfl, HS⟩ := hrel
                    by_cases hlt : F + j ≤ T
                    · obtain ⟨c, hcd⟩ : ∃ c, c = F + j := ⟨_, rfl⟩
                      rw [← hcd] at hlt ⊢
                      have hc : c < 256 := by omega
                      obtain ⟨a, ha⟩ : ∃ a, a = o ||| rngN F j := ⟨_, rfl⟩
                      obtain ⟨a2, ha2⟩ : ∃ a2, a2 = o ||| rngN F (j + 1) := ⟨_, rfl⟩
                      have h12 : a ||| bit c = a2 := by rw [ha, ha2, hcd, BitVec.or_assoc]; rfl
                      rw [← ha] at HS
                      have HP := hid (fun W => HPu.out W a c hc)
                      rw [h12, setV_eq, setV_eq] at HP
                      have HA2 := hid ha2
                      have HCD := hid hcd
                      clear h12 ha ha2 hcd
                      have hw8 := wrap_u8_nat c hc
                      have hg1 : ∀ X : World, SeS w a X → X.heap[w.heap.size + 1]? = some (.cells (setL a).toArray 24) := fun X h => h.out
                      have HPut := hid (fun (X : World) (h : SeS w a X) => h.put a2)
                      have hi := rset_info (wd a)
                      change _ = some (setL a).toArray.size at hi
                      have hi2 := rset_info (wd a2)
                      change _ = some (setL a2).toArray.size at hi2
                      have ho2 : (setL a2).toArray.all (·.oneCell') = true := four_one _
                      have hsz2 : (setL a).toArray.size = (setL a2).toArray.size := rfl
                      generalize hVa : (setL a).toArray = Va at *
                      generalize hVb : (setL a2).toArray = Vb at *
                      have hg := hg1 _ HS.out
                      have hcT : (c : Int) ≤ (T : Int) := by omega
                      go_wp2_with (refine wpList_load_row rfl 24 _ rfl (w.heap.size + 1) rfl 24 _ (0, 0) _ hg Tryd.underlying24 rfl hi ?_)
                      refine (HP.out _).mono ?_
                      rintro e w8 ⟨rfl, hb8⟩
                      have HS8 := hid (HS.out.below hb8)
                      have hz8 := hg1 _ HS8.out
                      have HS9 := hid (HPut.out _ HS8.out)
                      clear hb8 HS hg HP HPut hg1
                      go_wp2_with (refine wpList_store_row rfl 24 _ _ rfl (w.heap.size + 1) Vb rfl rfl 24 _ hz8 hi2 hsz2 ho2 ?_)
                      go_roundw
                      case rel => exact ⟨j + 1, by have := HCD.out; omega, by rw [HCD.out]; go_num, by rw [← HA2.out]; exact HS9⟩
                      case measure => have := HCD.out; simp [intOf]; omega
                    · obtain rfl : j = T + 1 - F := by omega
                      have HSe : Hid (SeS w (o ||| rng F T) _) := HS
                      have hcT : ¬ ((F + (T + 1 - F) : Nat) : Int) ≤ (T : Int) := by omega
                      go_wp2_with fail
                      go_roundg k
                      case measure => omega
                      case rel => exact ⟨r, o ||| rng F T, hr1000, rfl, HH, HSe⟩
  · rename_i h1
    have n1 : ¬ (nx s.data.toList 0 : Int) = 94 := by omega
    generalize nx s.data.toList 0 = x0 at *
    have H := hid h
    have hb := @below_alloc2 w (.cells (four (fun _ => 0)).toArray 24) (.cells (four (fun _ => 0)).toArray 24)
    have hC := (Blk.fresh w 24 (four (fun _ => 0))).alloc (.cells (four (fun _ => 0)).toArray 24)
    have hA := Blk.fresh (w.alloc (.cells (four (fun _ => 0)).toArray 24)) 24 (four (fun _ => 0))
    rw [show (w.alloc (.cells (four (fun _ => 0)).toArray 24)).heap.size = w.heap.size + 1 by simp] at hA
    have hs0 : four (fun _ => 0) = setL (0#256) := by simp [setL, four, wd_zero]
    have hA := Blk_cs hA hs0
    have HS := hid (SeS.mk hA hC hb)
    clear hA hC hb hs0 h h1
    go_enter Tryd.func36, Tryd.ntmps36
    go_wp2_with fail
    change Code.wp _ _ _ _ ((w.alloc (.cells (four (fun _ => 0)).toArray 24)).alloc (.cells (four (fun _ => 0)).toArray 24))
    generalize (w.alloc (.cells (four (fun _ => 0)).toArray 24)).alloc (.cells (four (fun _ => 0)).toArray 24) = w3 at *
    go_loopg [0] (s.data.toList.length + 1) (fun k v wr => ∃ (t : ByteArray) (o : BS), t.size ≤ 1000 ∧ v = .string t ∧ Hid (stP k t.data.toList o = some R) ∧ Hid (SeS w o wr))
    case atStart => exact ⟨s, 0#256, hs, rfl, H, HS⟩
    case round =>
      clear H HS
      obtain ⟨t, o, ht, rfl, H, HS⟩ := hrel
      obtain ⟨k, rfl⟩ : ∃ k, gk = k + 1 := by
        cases gk with
        | zero => exact absurd H.out (by unfold stP; intro q; cases q)
        | succ k => exact ⟨k, rfl⟩
      have h := H.out
      clear H
      have htz : t.data.toList.length = t.size := rfl
      unfold stP at h
      split at h
      · rename_i hz
        rw [htz] at hz
        injection h with h
        subst h
        have n9 : ¬ (0 : Int) < (t.size : Int) := by omega
        have hg : wr.heap[w.heap.size + 1]? = some (.cells (setL o).toArray 24) := HS.out.out
        have hzz : wr.heap[w.heap.size]? = some (.cells (four (fun _ => 0)).toArray 24) := HS.out.res
        have HRR := hid (blk_row HS.out.res (setL o))
        have hB := hid (below_row HS.out.bel (Nat.le_refl w.heap.size) (setL o).toArray)
        go_wp2_with (first
          | refine wpList_load_row rfl 24 _ rfl (w.heap.size + 1) rfl 24 _ (0, 0) _ hg Tryd.underlying24 rfl (rset_info _) ?_
          | refine wpList_store_row rfl 24 _ _ rfl w.heap.size (setL o).toArray rfl rfl 24 _ hzz (rset_info _) rfl (four_one _) ?_)
        exact bodyPost_ret (v := .agg (setL o).toArray) (results_cell_row (P := Tryd.prog) (fn := Tryd.f36) rfl _ _ w.heap.size 24 _ (0, 0) _ rfl HRR.out Tryd.underlying24 rfl (rset_info _)) rfl ⟨by rw [setV_eq], hB.out⟩
      · rename_i hz
        rw [htz] at hz
        have p1 : (0 : Int) < (t.size : Int) := by omega
        cases hk : skP 1 t.data.toList with
        | none => rw [hk] at h; cases h
        | some n =>
          rw [hk] at h
          simp only at h
          have hn := skP_le _ _ _ hk
          rw [htz] at hn
          cases hf : nmP (t.data.toList.take n) with
          | none => rw [hf] at h; cases h
          | some F =>
            rw [hf] at h
            simp only at h
            have hF := nmP_lt hf
            have HK1 := hid (fun W => HSk.out W t n ht hk)
            have HN1 := hid (fun W => HNm.out W (t.extract 0 n) F (by rw [ext_front]; exact hf))
            have bn : (n : Int) ≤ (t.size : Int) := by omega
            have hrl := ext_drop t n
            have hrs := ext_siz t n
            split at h
            · rename_i hd
              cases hk2 : skP 1 ((t.data.toList.drop n).drop 1) with
              | none => rw [hk2] at h; cases h
              | some m =>
                rw [hk2] at h
                simp only at h
                have hm := skP_le _ _ _ hk2
                cases hf2 : nmP (((t.data.toList.drop n).drop 1).take m) with
                | none => rw [hf2] at h; cases h
                | some T =>
                  rw [hf2] at h
                  simp only at h
                  have hT256 := nmP_lt hf2
                  rw [← hrl] at h hd hk2 hf2 hm
                  generalize hrr : t.extract n t.size = r at *
                  have hr0 : 0 < r.size := by
                    rcases Nat.eq_zero_or_pos r.size with q | q
                    · exfalso
                      have hz0 : r.data.toList = [] := List.eq_nil_of_length_eq_zero q
                      rw [hz0] at hd
                      exact absurd hd (by decide)
                    · exact q
                  have er := nx_str hr0
                  rw [hd] at er
                  have hr1000 : r.size ≤ 1000 := by omega
                  have q1 : (0 : Int) < (r.size : Int) := by omega
                  have q11 : (1 : Int) ≤ (r.size : Int) := by omega
                  have hl2 := ext_drop r 1
                  have hs2 := ext_siz r 1
                  rw [← hl2] at h hk2 hf2 hm
                  have HK2 := hid (fun W => HSk.out W (r.extract 1 r.size) m (by omega) hk2)
                  have HN2 := hid (fun W => HNm.out W ((r.extract 1 r.size).extract 0 m) T (by rw [ext_front]; exact hf2))
                  generalize hr2 : r.extract 1 r.size = r2 at *
                  have hlz : r2.data.toList.length = r2.size := rfl
                  rw [hlz] at hm
                  have bm : (m : Int) ≤ (r2.size : Int) := by omega
                  have hl3 := ext_drop r2 m
                  have hs3 := ext_siz r2 m
                  rw [← hl3] at h
                  generalize hr3 : r2.extract m r2.size = r3 at *
                  have hr31000 : r3.size ≤ 1000 := by omega
                  have HH := hid h
                  clear h hk hf hk2 hf2 hl2 hl3 hrl hd hz hrs hs2 hs3 hlz hm hn ht hr1000 htz
                  go_wp2_with fail
                  refine (HK1.out _).mono ?_
                  rintro e w5 ⟨rfl, rfl⟩
                  go_wp2_with fail
                  refine (HN1.out _).mono ?_
                  rintro e w6 ⟨rfl, hb6⟩
                  have HS2 := hid (HS.out.below hb6)
                  clear HS hb6 HK1 HN1
                  go_wp2_with fail
                  refine (HK2.out _).mono ?_
                  rintro e w5 ⟨rfl, rfl⟩
                  go_wp2_with fail
                  refine (HN2.out _).mono ?_
                  rintro e w7 ⟨rfl, hb7⟩
                  have HS3 := hid (HS2.out.below hb7)
                  clear HS2 hb7 HK2 HN2
                  go_wp2_with fail
                  go_loopw [8] (fun i wr => ∃ j : Nat, j ≤ T + 1 - F ∧ i = .int .i64 ((F + j : Nat) : Int) ∧ Hid (SeS w (o ||| rngN F j) wr)) (fun i _ => T + 1 - (intOf i).toNat)
                  case atStart => exact ⟨0, by omega, rfl, by rw [show o ||| rngN F 0 = o by simp [rngN]]; exact HS3⟩
                  case round =>
                    obtain ⟨j, hj, rfl, HS⟩ := hrel
                    by_cases hlt : F + j ≤ T
                    · obtain ⟨c, hcd⟩ : ∃ c, c = F + j := ⟨_, rfl⟩
                      rw [← hcd] at hlt ⊢
                      have hc : c < 256 := by omega
                      obtain ⟨a, ha⟩ : ∃ a, a = o ||| rngN F j := ⟨_, rfl⟩
                      obtain ⟨a2, ha2⟩ : ∃ a2, a2 = o ||| rngN F (j + 1) := ⟨_, rfl⟩
                      have h12 : a ||| bit c = a2 := by rw [ha, ha2, hcd, BitVec.or_assoc]; rfl
                      rw [← ha] at HS
                      have HP := hid (fun W => HPu.out W a c hc)
                      rw [h12, setV_eq, setV_eq] at HP
                      have HA2 := hid ha2
                      have HCD := hid hcd
                      clear h12 ha ha2 hcd
                      have hw8 := wrap_u8_nat c hc
                      have hg1 : ∀ X : World, SeS w a X → X.heap[w.heap.size + 1]? = some (.cells (setL a).toArray 24) := fun X h => h.out
                      have HPut := hid (fun (X : World) (h : SeS w a X) => h.put a2)
                      have hi := rset_info (wd a)
                      change _ = some (setL a).toArray.size at hi
                      have hi2 := rset_info (wd a2)
                      change _ = some (setL a2).toArray.size at hi2
                      have ho2 : (setL a2).toArray.all (·.oneCell') = true := four_one _
                      have hsz2 : (setL a).toArray.size = (setL a2).toArray.size := rfl
                      generalize hVa : (setL a).toArray = Va at *
                      generalize hVb : (setL a2).toArray = Vb at *
                      have hg := hg1 _ HS.out
                      have hcT : (c : Int) ≤ (T : Int) := by omega
                      go_wp2_with (refine wpList_load_row rfl 24 _ rfl (w.heap.size + 1) rfl 24 _ (0, 0) _ hg Tryd.underlying24 rfl hi ?_)
                      refine (HP.out _).mono ?_
                      rintro e w8 ⟨rfl, hb8⟩
                      have HS8 := hid (HS.out.below hb8)
                      have hz8 := hg1 _ HS8.out
                      have HS9 := hid (HPut.out _ HS8.out)
                      clear hb8 HS hg HP HPut hg1
                      go_wp2_with (refine wpList_store_row rfl 24 _ _ rfl (w.heap.size + 1) Vb rfl rfl 24 _ hz8 hi2 hsz2 ho2 ?_)
                      go_roundw
                      case rel => exact ⟨j + 1, by have := HCD.out; omega, by rw [HCD.out]; go_num, by rw [← HA2.out]; exact HS9⟩
                      case measure => have := HCD.out; simp [intOf]; omega
                    · obtain rfl : j = T + 1 - F := by omega
                      have HSe : Hid (SeS w (o ||| rng F T) _) := HS
                      have hcT : ¬ ((F + (T + 1 - F) : Nat) : Int) ≤ (T : Int) := by omega
                      go_wp2_with fail
                      go_roundg k
                      case measure => omega
                      case rel => exact ⟨r3, o ||| rng F T, hr31000, rfl, HH, HSe⟩
            · rename_i hd
              obtain ⟨T, hT⟩ : ∃ T, T = F := ⟨F, rfl⟩
              rw [← hrl] at h hd
              have hT2 : rng F F = rng F T := by rw [hT]
              rw [hT2] at h
              have hTF := hid hT
              have hT256 : T < 256 := by omega
              have HH := hid h
              generalize hrr : t.extract n t.size = r at *
              have hr1000 : r.size ≤ 1000 := by omega
              clear h hk hf hrl hz
              rcases Nat.eq_zero_or_pos r.size with hr0 | hr0
              · have q1 : ¬ (0 : Int) < (r.size : Int) := by omega
                have q2 : decide ((0 : Int) < (r.size : Int)) = false := decide_eq_false q1
                go_wp2_with fail
                refine (HK1.out _).mono ?_
                rintro e w5 ⟨rfl, rfl⟩
                go_wp2_with fail
                refine (HN1.out _).mono ?_
                rintro e w6 ⟨rfl, hb6⟩
                have HS3 := hid (HS.out.below hb6)
                clear HS hb6 HK1 HN1
                go_wp2_with fail
                go_loopw [8] (fun i wr => ∃ j : Nat, j ≤ T + 1 - F ∧ i = .int .i64 ((F + j : Nat) : Int) ∧ Hid (SeS w (o ||| rngN F j) wr)) (fun i _ => T + 1 - (intOf i).toNat)
                case atStart => exact ⟨0, by omega, rfl, by rw [show o ||| rngN F 0 = o by simp [rngN]]; exact HS3⟩
                case round =>
                  obtain ⟨j, hj, rfl, HS⟩ := hrel
                  by_cases hlt : F + j ≤ T
                  · obtain ⟨c, hcd⟩ : ∃ c, c = F + j := ⟨_, rfl⟩
                    rw [← hcd] at hlt ⊢
                    have hc : c < 256 := by omega
                    obtain ⟨a, ha⟩ : ∃ a, a = o ||| rngN F j := ⟨_, rfl⟩
                    obtain ⟨a2, ha2⟩ : ∃ a2, a2 = o ||| rngN F (j + 1) := ⟨_, rfl⟩
                    have h12 : a ||| bit c = a2 := by rw [ha, ha2, hcd, BitVec.or_assoc]; rfl
                    rw [← ha] at HS
                    have HP := hid (fun W => HPu.out W a c hc)
                    rw [h12, setV_eq, setV_eq] at HP
                    have HA2 := hid ha2
                    have HCD := hid hcd
                    clear h12 ha ha2 hcd
                    have hw8 := wrap_u8_nat c hc
                    have hg1 : ∀ X : World, SeS w a X → X.heap[w.heap.size + 1]? = some (.cells (setL a).toArray 24) := fun X h => h.out
                    have HPut := hid (fun (X : World) (h : SeS w a X) => h.put a2)
                    have hi := rset_info (wd a)
                    change _ = some (setL a).toArray.size at hi
                    have hi2 := rset_info (wd a2)
                    change _ = some (setL a2).toArray.size at hi2
                    have ho2 : (setL a2).toArray.all (·.oneCell') = true := four_one _
                    have hsz2 : (setL a).toArray.size = (setL a2).toArray.size := rfl
                    generalize hVa : (setL a).toArray = Va at *
                    generalize hVb : (setL a2).toArray = Vb at *
                    have hg := hg1 _ HS.out
                    have hcT : (c : Int) ≤ (T : Int) := by omega
                    go_wp2_with (refine wpList_load_row rfl 24 _ rfl (w.heap.size + 1) rfl 24 _ (0, 0) _ hg Tryd.underlying24 rfl hi ?_)
                    refine (HP.out _).mono ?_
                    rintro e w8 ⟨rfl, hb8⟩
                    have HS8 := hid (HS.out.below hb8)
                    have hz8 := hg1 _ HS8.out
                    have HS9 := hid (HPut.out _ HS8.out)
                    clear hb8 HS hg HP HPut hg1
                    go_wp2_with (refine wpList_store_row rfl 24 _ _ rfl (w.heap.size + 1) Vb rfl rfl 24 _ hz8 hi2 hsz2 ho2 ?_)
                    go_roundw
                    case rel => exact ⟨j + 1, by have := HCD.out; omega, by rw [HCD.out]; go_num, by rw [← HA2.out]; exact HS9⟩
                    case measure => have := HCD.out; simp [intOf]; omega
                  · obtain rfl : j = T + 1 - F := by omega
                    have HSe : Hid (SeS w (o ||| rng F T) _) := HS
                    have hcT : ¬ ((F + (T + 1 - F) : Nat) : Int) ≤ (T : Int) := by omega
                    go_wp2_with fail
                    go_roundg k
                    case measure => omega
                    case rel => exact ⟨r, o ||| rng F T, hr1000, rfl, HH, HSe⟩
              · have q1 : (0 : Int) < (r.size : Int) := by omega
                have er := nx_str hr0
                have n45 : ¬ (nx r.data.toList 0 : Int) = 45 := by omega
                have m45 : ((nx r.data.toList 0 : Int) == 45) = false := by simp; omega
                generalize nx r.data.toList 0 = x5 at *
                clear hd
                go_wp2_with fail
                refine (HK1.out _).mono ?_
                rintro e w5 ⟨rfl, rfl⟩
                go_wp2_with fail
                refine (HN1.out _).mono ?_
                rintro e w6 ⟨rfl, hb6⟩
                have HS3 := hid (HS.out.below hb6)
                clear HS hb6 HK1 HN1
                go_wp2_with fail
                go_loopw [8] (fun i wr => ∃ j : Nat, j ≤ T + 1 - F ∧ i = .int .i64 ((F + j : Nat) : Int) ∧ Hid (SeS w (o ||| rngN F j) wr)) (fun i _ => T + 1 - (intOf i).toNat)
                case atStart => exact ⟨0, by omega, rfl, by rw [show o ||| rngN F 0 = o by simp [rngN]]; exact HS3⟩
                case round =>
                  obtain ⟨j, hj, rfl, HS⟩ := hrel
                  by_cases hlt : F + j ≤ T
                  · obtain ⟨c, hcd⟩ : ∃ c, c = F + j := ⟨_, rfl⟩
                    rw [← hcd] at hlt ⊢
                    have hc : c < 256 := by omega
                    obtain ⟨a, ha⟩ : ∃ a, a = o ||| rngN F j := ⟨_, rfl⟩
                    obtain ⟨a2, ha2⟩ : ∃ a2, a2 = o ||| rngN F (j + 1) := ⟨_, rfl⟩
                    have h12 : a ||| bit c = a2 := by rw [ha, ha2, hcd, BitVec.or_assoc]; rfl
                    rw [← ha] at HS
                    have HP := hid (fun W => HPu.out W a c hc)
                    rw [h12, setV_eq, setV_eq] at HP
                    have HA2 := hid ha2
                    have HCD := hid hcd
                    clear h12 ha ha2 hcd
                    have hw8 := wrap_u8_nat c hc
                    have hg1 : ∀ X : World, SeS w a X → X.heap[w.heap.size + 1]? = some (.cells (setL a).toArray 24) := fun X h => h.out
                    have HPut := hid (fun (X : World) (h : SeS w a X) => h.put a2)
                    have hi := rset_info (wd a)
                    change _ = some (setL a).toArray.size at hi
                    have hi2 := rset_info (wd a2)
                    change _ = some (setL a2).toArray.size at hi2
                    have ho2 : (setL a2).toArray.all (·.oneCell') = true := four_one _
                    have hsz2 : (setL a).toArray.size = (setL a2).toArray.size := rfl
                    generalize hVa : (setL a).toArray = Va at *
                    generalize hVb : (setL a2).toArray = Vb at *
                    have hg := hg1 _ HS.out
                    have hcT : (c : Int) ≤ (T : Int) := by omega
                    go_wp2_with (refine wpList_load_row rfl 24 _ rfl (w.heap.size + 1) rfl 24 _ (0, 0) _ hg Tryd.underlying24 rfl hi ?_)
                    refine (HP.out _).mono ?_
                    rintro e w8 ⟨rfl, hb8⟩
                    have HS8 := hid (HS.out.below hb8)
                    have hz8 := hg1 _ HS8.out
                    have HS9 := hid (HPut.out _ HS8.out)
                    clear hb8 HS hg HP HPut hg1
                    go_wp2_with (refine wpList_store_row rfl 24 _ _ rfl (w.heap.size + 1) Vb rfl rfl 24 _ hz8 hi2 hsz2 ho2 ?_)
                    go_roundw
                    case rel => exact ⟨j + 1, by have := HCD.out; omega, by rw [HCD.out]; go_num, by rw [← HA2.out]; exact HS9⟩
                    case measure => have := HCD.out; simp [intOf]; omega
                  · obtain rfl : j = T + 1 - F := by omega
                    have HSe : Hid (SeS w (o ||| rng F T) _) := HS
                    have hcT : ¬ ((F + (T + 1 - F) : Nat) : Int) ≤ (T : Int) := by omega
                    go_wp2_with fail
                    go_roundg k
                    case measure => omega
                    case rel => exact ⟨r, o ||| rng F T, hr1000, rfl, HH, HSe⟩
end Go.Proofs.YtplldfbjbekdlaaDoor

/- regex: the reference: piece. -/
namespace Go.Proofs.YtplldfbjbekdlaaDoor
open Go.RowKit
set_option linter.unusedVariables false
set_option linter.unusedSimpArgs false

/-- What the reference answers: an expression in memory of its own. -/
def RefP (t : RT) (w : World) (e : Ending) (w' : World) : Prop := Below w.heap.size w w' ∧ ∃ v : RV, e = .returned (.agg v.cells.toArray) ∧ Rep w' (w.heap.size ≤ ·) v t
set_option maxRecDepth 100000 in
set_option maxHeartbeats 8000000 in
theorem pi_dot (s : ByteArray) (h0 : 0 < s.size) (hc : nx s.data.toList 0 = 46) (w : World) :
    Calls Tryd.prog 22 #[.string s] w (RefP (.nd 2 (~~~(0#256)) [] 0 0) w) := by
  have e0 := nx_str h0
  rw [hc] at e0
  have HAl := hid (fun W => rAll_any W)
  generalize (~~~(0#256) : BS) = q at *
  unfold setV at HAl
  have hz := heap_alloc_new w (.cells #[.int .i64 0, .int .u64 0, .int .u64 0, .int .u64 0, .int .u64 0, .slice none 0 0, .int .i64 0, .int .i64 0] 27)
  have HZ := hid hz
  have HB := hid ((Below.refl w.heap.size w).alloc (Nat.le_refl _) (.cells #[.int .i64 0, .int .u64 0, .int .u64 0, .int .u64 0, .int .u64 0, .slice none 0 0, .int .i64 0, .int .i64 0] 27))
  clear hz hc
  go_enter Tryd.func22, Tryd.ntmps22
  go_wp2_with fail
  refine (HAl.out _).mono ?_
  rintro e w1 ⟨rfl, hb1⟩
  have HB1 := hid (HB.out.trans (hb1.mono HB.out.size))
  have hz1 : w1.heap[w.heap.size]? = some (.cells #[.int .i64 0, .int .u64 0, .int .u64 0, .int .u64 0, .int .u64 0, .slice none 0 0, .int .i64 0, .int .i64 0] 27) := Blk.keep (show Blk _ w.heap.size 27 [.int .i64 0, .int .u64 0, .int .u64 0, .int .u64 0, .int .u64 0, .slice none 0 0, .int .i64 0, .int .i64 0] from HZ.out) hb1
  have HR := hid (show (w1.setRow w.heap.size (RV.mk 2 q none 0 0 0 0).cells.toArray).heap[w.heap.size]? = some (.cells (RV.mk 2 q none 0 0 0 0).cells.toArray 27) from setRow_heap w1 w.heap.size _ _ _ (0, 0) hz1)
  have HB2 := hid (below_row HB1.out (Nat.le_refl _) (RV.mk 2 q none 0 0 0 0).cells.toArray)
  clear hb1 HAl HB HB1 HZ
  go_wp2_with (refine wpList_store_row rfl 27 _ _ rfl w.heap.size ((RV.mk 2 q none 0 0 0 0).cells.toArray) ?_ ?_ 27 _ hz1 (rx_size _) ?_ (rx_one _) ?_; exact rfl; exact rfl; exact rfl)
  exact bodyPost_ret (v := .agg (RV.mk 2 q none 0 0 0 0).cells.toArray) (results_cell_row (P := Tryd.prog) (fn := Tryd.f22) rfl _ _ w.heap.size 27 _ (0, 0) _ rfl HR.out Tryd.underlying27 rfl (rx_size _)) rfl ⟨HB2.out, _, rfl, Rep.leaf _ _ _ _ _ _ _ _⟩
set_option maxRecDepth 100000 in
set_option maxHeartbeats 8000000 in
theorem pi_name (s : ByteArray) (c : Nat) (h0 : 0 < s.size) (h1 : nx s.data.toList 0 ≠ 40) (h2 : nx s.data.toList 0 ≠ 46) (h3 : nx s.data.toList 0 ≠ 91) (hn : nmP s.data.toList = some c) (w : World) :
    Calls Tryd.prog 22 #[.string s] w (RefP (.nd 2 (bit c) [] 0 0) w) := by
  have e0 := nx_str h0
  have n1 : ¬ (nx s.data.toList 0 : Int) = 40 := by omega
  have n2 : ¬ (nx s.data.toList 0 : Int) = 46 := by omega
  have n3 : ¬ (nx s.data.toList 0 : Int) = 91 := by omega
  have HNm := hid (fun W => rName_bel s c hn W)
  have HAl := hid (fun W => rPut_any (0#256) c (nmP_lt hn) W)
  rw [show (0#256) ||| bit c = bit c by simp] at HAl
  generalize bit c = q at *
  unfold setV at HAl
  simp only [wd_zero] at HAl
  generalize nx s.data.toList 0 = x0 at *
  have hz := heap_alloc_new w (.cells #[.int .i64 0, .int .u64 0, .int .u64 0, .int .u64 0, .int .u64 0, .slice none 0 0, .int .i64 0, .int .i64 0] 27)
  have HZ := hid hz
  have HB := hid ((Below.refl w.heap.size w).alloc (Nat.le_refl _) (.cells #[.int .i64 0, .int .u64 0, .int .u64 0, .int .u64 0, .int .u64 0, .slice none 0 0, .int .i64 0, .int .i64 0] 27))
  clear hz h1 h2 h3 hn
  go_enter Tryd.func22, Tryd.ntmps22
  go_wp2_with fail
  refine (HNm.out _).mono ?_
  rintro e w0 ⟨rfl, hb0⟩
  have HB0 := hid (HB.out.trans (hb0.mono HB.out.size))
  have HZ0 := hid (Blk.keep (show Blk _ w.heap.size 27 [.int .i64 0, .int .u64 0, .int .u64 0, .int .u64 0, .int .u64 0, .slice none 0 0, .int .i64 0, .int .i64 0] from HZ.out) hb0)
  clear hb0 HB HZ HNm
  go_wp2_with fail
  refine (HAl.out _).mono ?_
  rintro e w1 ⟨rfl, hb1⟩
  have HB1 := hid (HB0.out.trans (hb1.mono HB0.out.size))
  have hz1 : w1.heap[w.heap.size]? = some (.cells #[.int .i64 0, .int .u64 0, .int .u64 0, .int .u64 0, .int .u64 0, .slice none 0 0, .int .i64 0, .int .i64 0] 27) := Blk.keep (show Blk _ w.heap.size 27 [.int .i64 0, .int .u64 0, .int .u64 0, .int .u64 0, .int .u64 0, .slice none 0 0, .int .i64 0, .int .i64 0] from HZ0.out) hb1
  have HR := hid (show (w1.setRow w.heap.size (RV.mk 2 q none 0 0 0 0).cells.toArray).heap[w.heap.size]? = some (.cells (RV.mk 2 q none 0 0 0 0).cells.toArray 27) from setRow_heap w1 w.heap.size _ _ _ (0, 0) hz1)
  have HB2 := hid (below_row HB1.out (Nat.le_refl _) (RV.mk 2 q none 0 0 0 0).cells.toArray)
  clear hb1 HAl HB0 HB1 HZ0
  go_wp2_with (refine wpList_store_row rfl 27 _ _ rfl w.heap.size ((RV.mk 2 q none 0 0 0 0).cells.toArray) ?_ ?_ 27 _ hz1 (rx_size _) ?_ (rx_one _) ?_; exact rfl; exact rfl; exact rfl)
  exact bodyPost_ret (v := .agg (RV.mk 2 q none 0 0 0 0).cells.toArray) (results_cell_row (P := Tryd.prog) (fn := Tryd.f22) rfl _ _ w.heap.size 27 _ (0, 0) _ rfl HR.out Tryd.underlying27 rfl (rx_size _)) rfl ⟨HB2.out, _, rfl, Rep.leaf _ _ _ _ _ _ _ _⟩
end Go.Proofs.YtplldfbjbekdlaaDoor
