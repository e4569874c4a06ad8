/- class: Text. -/
import Derived.Test.YtplldfbjbekdlaaDoorBld
import Derived.Deep.RegionHeld3
namespace Go.Proofs.YtplldfbjbekdlaaDoor
set_option linter.unusedVariables false
set_option linter.unusedSimpArgs false
open Go.RowKit

/-- What one byte of a set writes: nothing, if it stands in a run already. -/
def piece (a : BS) (c : Nat) : List UInt8 :=
  if 0 < c ∧ has a (c - 1) = true then [] else nameL c ++ (if c < lastN a c then 45 :: nameL (lastN a c) else [])
def pieces (a : BS) (l : List Nat) : List UInt8 := l.flatMap (piece a)
/-- A set's text. -/
def textL (a : BS) : List UInt8 :=
  if a = ~~~(0#256) then [46] else if a ≠ 0#256 ∧ a = bit (firstN a) then nameL (firstN a) else 91 :: (pieces a (bytesOf a) ++ [93])
theorem firstN_lt (a : BS) : firstN a < 256 := by
  unfold firstN
  cases h : bytesOf a with
  | nil => decide
  | cons c l => exact bytesOf_lt a c (by rw [h]; simp)
theorem ofL_one (c : Nat) (hc : c < 256) : ofL [c.toUInt8] = bit c := by
  have : c.toUInt8.toNat = c := by simp; omega
  simp [ofL, this]

set_option maxRecDepth 100000 in
theorem text_all (a : BS) (ha : a = ~~~(0#256)) {w : World} :
    Calls Tryd.prog 26 #[setV a] w fun e w' => e = .returned (.string ⟨[46].toArray⟩) ∧ Below w.heap.size w w' := by
  have HN := hid (fun W => all_any W)
  have hq := run_eqSet a (~~~(0#256))
  rw [decide_eq_true ha] at hq
  have HF := hid (fun (W : World) (h : TabAt W) => first_any a h)
  have hA := Blk.fresh w 76 (setL a)
  have hb := ((Below.refl w.heap.size w).alloc (Nat.le_refl _) (.cells (setL a).toArray 76))
  rw [show setV a = .agg (setL a).toArray from rfl]
  have hc := hA.cells4
  obtain ⟨hc0, hc1, hc2, hc3⟩ := hc
  have hq' := hq
  unfold setV at HN hq HF
  generalize (setL a).toArray = Va at *
  have hA2 := hid hA
  clear hA hq'
  clear HF
  rw [← ha] at HN hq
  clear ha
  go_enter Tryd.func26, Tryd.ntmps26
  go_wp2
  generalize w.alloc (.cells Va 76) = w1 at *
  go_region_held3 (fun w' => w'.cell? ⟨w.heap.size, 0, none⟩ = some (.int .u64 ((wd a 0 : Nat) : Int)) ∧ w'.cell? ⟨w.heap.size, 1, none⟩ = some (.int .u64 ((wd a 1 : Nat) : Int)) ∧ w'.cell? ⟨w.heap.size, 2, none⟩ = some (.int .u64 ((wd a 2 : Nat) : Int)) ∧ w'.cell? ⟨w.heap.size, 3, none⟩ = some (.int .u64 ((wd a 3 : Nat) : Int)))
    (first | exact ⟨hc0, hc1, hc2, hc3⟩ | exact hd | assumption)
    (first
    | (go_at_call 40; refine (HN.out _).mono ?_; rintro e w2 ⟨rfl, hb2⟩; have hb2' : Below w1.heap.size w1 w2 := ⟨hb2.os, hb2.tape, hb2.output, hb2.size, hb2.block⟩; have hA3 := hA2.out.keep hb2'; have hd := hA3.cells4; clear hb2))
  have hbw := hb.trans (hb2'.mono hb.size)
  have HB2 := hid hbw
  have HA3 := hid hA3
  obtain ⟨hc0, hc1, hc2, hc3⟩ := hd
  clear hA3 hA2 hb hb2' hbw
  go_wp2
  go_ret
  exact ⟨rfl, HB2.out⟩

set_option maxRecDepth 100000 in
theorem text_one (a : BS) (ha : a ≠ ~~~(0#256)) (h0 : a ≠ 0#256) (h1 : a = bit (firstN a)) {w : World} (hT : TabAt w) :
    Calls Tryd.prog 26 #[setV a] w fun e w' => e = .returned (.string ⟨(nameL (firstN a)).toArray⟩) ∧ Below w.heap.size w w' := by
  have hfl := firstN_lt a
  have hq2 := run_eqSet a (bit (firstN a))
  rw [decide_eq_true h1] at hq2
  have HO := hid (fun (W : World) => of_any (w := (W.alloc (.cells #[.int .u8 ((firstN a : Nat) : Int)] bT)).drew) (cap := 1) (RdB.one W (firstN a) hfl) (by decide))
  rw [ofL_one _ hfl] at HO
  have HM := hid (fun W => name_any (firstN a) hfl W)
  have HN := hid (fun W => all_any W)
  have hq := run_eqSet a (~~~(0#256))
  rw [decide_eq_false ha] at hq
  have HF := hid (fun (W : World) (h : TabAt W) => first_any a h)
  have hA := Blk.fresh w 76 (setL a)
  have hb := ((Below.refl w.heap.size w).alloc (Nat.le_refl _) (.cells (setL a).toArray 76))
  rw [show setV a = .agg (setL a).toArray from rfl]
  have hc := hA.cells4
  obtain ⟨hc0, hc1, hc2, hc3⟩ := hc
  have hq' := hq
  unfold setV at HN hq HF
  generalize (setL a).toArray = Va at *
  have hA2 := hid hA
  clear hA hq'
  generalize (#[.int .u64 ((wd (~~~(0#256) : BS) 0 : Nat) : Int), .int .u64 ((wd (~~~(0#256) : BS) 1 : Nat) : Int), .int .u64 ((wd (~~~(0#256) : BS) 2 : Nat) : Int), .int .u64 ((wd (~~~(0#256) : BS) 3 : Nat) : Int)] : Array Value) = vAll at HN hq
  rw [show (!decide (a = 0#256)) = true by rw [decide_eq_false h0]; rfl] at HF
  have HT1 := hid (hT.keep hb)
  unfold setV at HO hq2
  generalize firstN a = f at *
  generalize (#[.int .u64 ((wd (bit f) 0 : Nat) : Int), .int .u64 ((wd (bit f) 1 : Nat) : Int), .int .u64 ((wd (bit f) 2 : Nat) : Int), .int .u64 ((wd (bit f) 3 : Nat) : Int)] : Array Value) = vOne at HO hq2
  clear ha h0 h1 hT
  go_enter Tryd.func26, Tryd.ntmps26
  go_wp2
  generalize w.alloc (.cells Va 76) = w1 at *
  go_region_held3 (fun w' => w'.cell? ⟨w.heap.size, 0, none⟩ = some (.int .u64 ((wd a 0 : Nat) : Int)) ∧ w'.cell? ⟨w.heap.size, 1, none⟩ = some (.int .u64 ((wd a 1 : Nat) : Int)) ∧ w'.cell? ⟨w.heap.size, 2, none⟩ = some (.int .u64 ((wd a 2 : Nat) : Int)) ∧ w'.cell? ⟨w.heap.size, 3, none⟩ = some (.int .u64 ((wd a 3 : Nat) : Int)))
    (first | exact ⟨hc0, hc1, hc2, hc3⟩ | exact hd | assumption)
    (first
    | (go_at_call 40; refine (HN.out _).mono ?_; rintro e w2 ⟨rfl, hb2⟩; have hb2' : Below w1.heap.size w1 w2 := ⟨hb2.os, hb2.tape, hb2.output, hb2.size, hb2.block⟩; have hA3 := hA2.out.keep hb2'; have hd := hA3.cells4; clear hb2))
  have HT2 := hid (HT1.out.keep hb2')
  have hbw := hb.trans (hb2'.mono hb.size)
  have HB2 := hid hbw
  have HA3 := hid hA3
  obtain ⟨hc0, hc1, hc2, hc3⟩ := hd
  clear hA3 hA2 hb hb2' hbw
  go_wp2_with fail
  refine (HF.out _ HT2.out).mono ?_
  rintro e w3 ⟨rfl, hb3⟩
  have hbw := HB2.out.trans (hb3.mono HB2.out.size)
  have hA3' := HA3.out.keep hb3
  have hd3 := hA3'.cells4
  have hda := (hA3'.alloc (.cells #[.int .u8 (f : Int)] bT)).cells4
  obtain ⟨hc0, hc1, hc2, hc3⟩ := hd3
  clear hb3
  go_wp2
  go_region_held3 (fun w' => w'.cell? ⟨w.heap.size, 0, none⟩ = some (.int .u64 ((wd a 0 : Nat) : Int)) ∧ w'.cell? ⟨w.heap.size, 1, none⟩ = some (.int .u64 ((wd a 1 : Nat) : Int)) ∧ w'.cell? ⟨w.heap.size, 2, none⟩ = some (.int .u64 ((wd a 2 : Nat) : Int)) ∧ w'.cell? ⟨w.heap.size, 3, none⟩ = some (.int .u64 ((wd a 3 : Nat) : Int)))
    (first | exact ⟨hc0, hc1, hc2, hc3⟩ | exact hd3 | exact hda | exact hd4 | assumption)
    (first
    | (go_at_call 42; refine (HO.out _).mono ?_; rintro e w4 ⟨rfl, hb4⟩; have hb4' : Below (w3.alloc (.cells #[.int .u8 (f : Int)] bT)).heap.size (w3.alloc (.cells #[.int .u8 (f : Int)] bT)) w4 := ⟨hb4.os, hb4.tape, hb4.output, hb4.size, hb4.block⟩; have hA4 := (hA3'.alloc (.cells #[.int .u8 (f : Int)] bT)).keep hb4'; have hd4 := hA4.cells4; clear hb4))
  have HB4 := hid (hbw.trans (((Below.refl w3.heap.size w3).alloc (Nat.le_refl _) (.cells #[.int .u8 (f : Int)] bT)).trans (hb4'.mono (by simp)) |>.mono hbw.size))
  clear hb4' hA4 hd4 hda hA3' hbw
  go_wp2_with fail
  refine (HM.out _).mono ?_
  rintro e w5 ⟨rfl, hb5⟩
  go_wp2
  go_ret
  exact ⟨rfl, HB4.out.trans (hb5.mono HB4.out.size)⟩
end Go.Proofs.YtplldfbjbekdlaaDoor

/- class: Text: the loop over a set's runs. -/
namespace Go.Proofs.YtplldfbjbekdlaaDoor
set_option linter.unusedVariables false
set_option linter.unusedSimpArgs false
open Go.RowKit Go.Shelf
attribute [local go_sem] Oper.semAt_some
theorem own_bld {B base bb : Nat} (f : List Nat → List UInt8) (hB : bb < B) : OwnFrom B (fun pre W => Bld W base bb (f pre)) := fun s W W' row hs hgr hr => by
  have hne : ∀ g, g < B → (some g : Option Nat) ≠ row := fun g hg e => by have := (hr g e.symm).1; omega
  rcases hs with ⟨h1, h2, h3⟩ | ⟨h1, A, c, h3, h4⟩
  · exact .inl ⟨h1, h2, h3.grown hgr (hne _ hB)⟩
  · refine .inr ⟨h1, A, c, h3.grown hgr (hne _ hB), h4.kept hgr ?_⟩
    rcases h4.2 with ⟨hv, _⟩ | ⟨g, cap, cur, hv, _, hg, _⟩
    · rw [hv]; exact .inl rfl
    · refine .inr fun e => ?_
      rw [hv] at e
      obtain ⟨_, o, ho, hcell⟩ := hr g e.symm
      rw [hg] at ho
      cases ho
      cases hcell

/-- What holds within a round of Text's loop, which began in W. -/
structure TI (w : World) (a : BS) (bb : Nat) (W V : World) (l : List UInt8) : Prop where
  bld : Bld V w.heap.size bb l
  blk : Blk V w.heap.size 76 (setL a)
  tab : TabAt V
  bel : Below w.heap.size w V
  keep : KeepsOthers W V
theorem keeps_below {V X : World} (h : Below V.heap.size V X) : KeepsOthers V X := ⟨h.size, fun k o hk _ => (h.block k (Array.getElem?_eq_some_iff.1 hk).1).trans hk⟩
theorem TI.below {w W V X : World} {a : BS} {bb : Nat} {l : List UInt8} (h : TI w a bb W V l) (hb : Below V.heap.size V X) : TI w a bb W X l :=
  ⟨h.bld.below hb, h.blk.keep hb, h.tab.keep hb, h.bel.trans (hb.mono h.bel.size), h.keep.trans (keeps_below hb)⟩
theorem Bld.is_cells {w : World} {base b : Nat} {l : List UInt8} (h : Bld w base b l) : ∃ c, w.heap[b]? = some (.cells c bldT (0, 0)) := by
  rcases h with ⟨_, _, hk⟩ | ⟨_, _, _, hk, _⟩
  · exact ⟨_, hk⟩
  · exact ⟨_, hk⟩
theorem TI.wrote {w W V X : World} {a : BS} {bb : Nat} {l l' : List UInt8} (h : TI w a bb W V l) (hlt : w.heap.size < bb) (h0 : 0 < w.heap.size) (hx : BldU X w.heap.size bb l') (hb : Below w.heap.size V X) (ho : Oth bb V X) : TI w a bb W X l' := by
  refine ⟨.inr hx, ho _ _ h.blk (fun e => by injection e with e; omega) (fun c fz e => by injection e with _ e; exact absurd e (by decide)), h.tab.below h0 hb, h.bel.trans hb, h.keep.trans ⟨hb.size, fun k o hk hc => ho k o hk (fun e => ?_) (fun c fz e => by rw [e] at hc; cases hc)⟩⟩
  injection e with e
  obtain ⟨c, hcb⟩ := h.bld.is_cells
  rw [e, hcb] at hk
  cases hk
  cases hc
theorem nameL_len (c : Nat) : (nameL c).length ≤ 4 := by
  unfold nameL
  split <;> simp
theorem piece_len (a : BS) (c : Nat) : (piece a c).length ≤ 9 := by
  unfold piece
  have h1 := nameL_len c
  have h2 := nameL_len (lastN a c)
  split
  · simp
  · split <;> simp <;> omega
theorem pieces_snoc (a : BS) (l : List Nat) (c : Nat) : pieces a (l ++ [c]) = pieces a l ++ piece a c := by simp [pieces]
theorem pieces_len (a : BS) (l : List Nat) : (pieces a l).length ≤ 9 * l.length := by
  induction l with
  | nil => simp [pieces]
  | cons c l ih =>
    have h := piece_len a c
    have e : pieces a (c :: l) = piece a c ++ pieces a l := by simp [pieces]
    rw [e, List.length_append, List.length_cons]
    omega
theorem lastN_lt (a : BS) (c : Nat) (hc : c < 256) : lastN a c < 256 := by
  have := lastF_le a c 256 (by omega)
  unfold lastN
  omega
theorem lastN_ge (a : BS) (c : Nat) : c ≤ lastN a c := lastF_ge a c 256

set_option maxRecDepth 100000 in
set_option maxHeartbeats 1000000 in
theorem text_run (a : BS) (ha : a ≠ ~~~(0#256)) (h0 : a ≠ 0#256) (h1 : a ≠ bit (firstN a)) {w : World} (hT : TabAt w) :
    Calls Tryd.prog 26 #[setV a] w fun e w' => e = .returned (.string ⟨(91 :: (pieces a (bytesOf a) ++ [93])).toArray⟩) ∧ Below w.heap.size w w' := by
  refine (callsIn_wide (n := 3)).1 ?_
  have hfl := firstN_lt a
  have hq2 := run_eqSet a (bit (firstN a))
  rw [decide_eq_false h1] at hq2
  have HO := hid (fun (W : World) => of_any (w := (W.alloc (.cells #[.int .u8 ((firstN a : Nat) : Int)] bT)).drew) (cap := 1) (RdB.one W (firstN a) hfl) (by decide))
  rw [ofL_one _ hfl] at HO
  have HN := hid (fun W => all_any W)
  have hq := run_eqSet a (~~~(0#256))
  rw [decide_eq_false ha] at hq
  have HF := hid (fun (W : World) (h : TabAt W) => first_any a h)
  have hA := Blk.fresh w 76 (setL a)
  have hb := ((Below.refl w.heap.size w).alloc (Nat.le_refl _) (.cells (setL a).toArray 76))
  rw [show setV a = .agg (setL a).toArray from rfl]
  have hc := hA.cells4
  obtain ⟨hc0, hc1, hc2, hc3⟩ := hc
  have hq' := hq
  unfold setV at HN hq HF
  generalize (setL a).toArray = Va at *
  have hA2 := hid hA
  clear hA hq'
  generalize (#[.int .u64 ((wd (~~~(0#256) : BS) 0 : Nat) : Int), .int .u64 ((wd (~~~(0#256) : BS) 1 : Nat) : Int), .int .u64 ((wd (~~~(0#256) : BS) 2 : Nat) : Int), .int .u64 ((wd (~~~(0#256) : BS) 3 : Nat) : Int)] : Array Value) = vAll at HN hq
  rw [show (!decide (a = 0#256)) = true by rw [decide_eq_false h0]; rfl] at HF
  have HT1 := hid (hT.keep hb)
  unfold setV at HO hq2
  generalize firstN a = f at *
  generalize (#[.int .u64 ((wd (bit f) 0 : Nat) : Int), .int .u64 ((wd (bit f) 1 : Nat) : Int), .int .u64 ((wd (bit f) 2 : Nat) : Int), .int .u64 ((wd (bit f) 3 : Nat) : Int)] : Array Value) = vOne at HO hq2
  clear h1
  clear ha h0
  have hT0 := hT.lt
  clear hT
  refine callsIn_of_wp_marks Tryd.func26 rfl trivial ?_ rfl
  simp only [Tryd.ntmps26, List.size_toArray, List.length_cons, List.length_nil, Nat.reduceAdd, Nat.reduceSub, Array.replicate_succ, Array.replicate_zero, List.push_toArray, List.append_toArray, List.nil_append, List.cons_append]
  refine wpIn_wide.2 ?_
  go_wp2
  generalize w.alloc (.cells Va 76) = w1 at *
  go_region_held3 (fun w' => w'.cell? ⟨w.heap.size, 0, none⟩ = some (.int .u64 ((wd a 0 : Nat) : Int)) ∧ w'.cell? ⟨w.heap.size, 1, none⟩ = some (.int .u64 ((wd a 1 : Nat) : Int)) ∧ w'.cell? ⟨w.heap.size, 2, none⟩ = some (.int .u64 ((wd a 2 : Nat) : Int)) ∧ w'.cell? ⟨w.heap.size, 3, none⟩ = some (.int .u64 ((wd a 3 : Nat) : Int)))
    (first | exact ⟨hc0, hc1, hc2, hc3⟩ | exact hd | assumption)
    (first
    | (go_at_call 40; refine (HN.out _).mono ?_; rintro e w2 ⟨rfl, hb2⟩; have hb2' : Below w1.heap.size w1 w2 := ⟨hb2.os, hb2.tape, hb2.output, hb2.size, hb2.block⟩; have hA3 := hA2.out.keep hb2'; have hd := hA3.cells4; clear hb2))
  have HT2 := hid (HT1.out.keep hb2')
  have hbw := hb.trans (hb2'.mono hb.size)
  have HB2 := hid hbw
  have HA3 := hid hA3
  obtain ⟨hc0, hc1, hc2, hc3⟩ := hd
  clear hA3 hA2 hb hb2' hbw
  go_wp2_with fail
  refine (HF.out _ HT2.out).mono ?_
  rintro e w3 ⟨rfl, hb3⟩
  have hbw := HB2.out.trans (hb3.mono HB2.out.size)
  have hA3' := HA3.out.keep hb3
  have hd3 := hA3'.cells4
  have hda := (hA3'.alloc (.cells #[.int .u8 (f : Int)] bT)).cells4
  obtain ⟨hc0, hc1, hc2, hc3⟩ := hd3
  have HT3 := HT2.out.keep hb3
  clear hb3
  go_wp2
  go_region_held3 (fun w' => w'.cell? ⟨w.heap.size, 0, none⟩ = some (.int .u64 ((wd a 0 : Nat) : Int)) ∧ w'.cell? ⟨w.heap.size, 1, none⟩ = some (.int .u64 ((wd a 1 : Nat) : Int)) ∧ w'.cell? ⟨w.heap.size, 2, none⟩ = some (.int .u64 ((wd a 2 : Nat) : Int)) ∧ w'.cell? ⟨w.heap.size, 3, none⟩ = some (.int .u64 ((wd a 3 : Nat) : Int)))
    (first | exact ⟨hc0, hc1, hc2, hc3⟩ | exact hd3 | exact hda | exact hd4 | assumption)
    (first
    | (go_at_call 42; refine (HO.out _).mono ?_; rintro e w4 ⟨rfl, hb4⟩; have hb4' : Below (w3.alloc (.cells #[.int .u8 (f : Int)] bT)).heap.size (w3.alloc (.cells #[.int .u8 (f : Int)] bT)) w4 := ⟨hb4.os, hb4.tape, hb4.output, hb4.size, hb4.block⟩; have hA4 := (hA3'.alloc (.cells #[.int .u8 (f : Int)] bT)).keep hb4'; have hd4 := hA4.cells4; clear hb4))
  have HB4 := hid (hbw.trans (((Below.refl w3.heap.size w3).alloc (Nat.le_refl _) (.cells #[.int .u8 (f : Int)] bT)).trans (hb4'.mono (by simp)) |>.mono hbw.size))
  have HT4 := hid (HT3.below (Nat.lt_of_lt_of_le hT0 hbw.size) (((Below.refl w3.heap.size w3).alloc (Nat.le_refl _) (.cells #[.int .u8 (f : Int)] bT)).trans (hb4'.mono (by simp))))
  have HA4 := hid hA4
  clear hb4' hA4 hd4 hda hA3' hbw HT3
  go_wp2_with fail
  have hsz : w.heap.size ≤ w4.heap.size := HB4.out.size
  have hbB : Below w.heap.size w (w4.alloc (.cells #[.pointer none, .slice none 0 0] bldT)) := (HB4.out.alloc (HB4.out.size) (.cells #[.pointer none, .slice none 0 0] bldT))
  have hBl : Bld (w4.alloc (.cells #[.pointer none, .slice none 0 0] bldT)) w.heap.size w4.heap.size [] := .inl ⟨hsz, rfl, Blk.fresh w4 bldT [.pointer none, .slice none 0 0]⟩
  have HTb := HT4.out.keep ((Below.refl w4.heap.size w4).alloc (Nat.le_refl _) (.cells #[.pointer none, .slice none 0 0] bldT))
  have hAb := HA4.out.alloc (.cells #[.pointer none, .slice none 0 0] bldT)
  have hAl : w.heap.size < w4.heap.size := HA4.out.lt
  refine (wb_any hBl 91 (by decide) (by decide) (by have := hbB.size; omega)).mono ?_
  rintro e w6 ⟨rfl, hB6, hb6, ho6⟩
  have hA6 : Blk w6 w.heap.size 76 (setL a) := ho6 _ _ hAb (fun e => by injection e with e; omega) (fun c fz e => by injection e with _ e; exact absurd e (by decide))
  have hbw6 := hbB.trans hb6
  have hT6 := HTb.below hT0 hb6
  clear hBl hb6 ho6 hbB HTb hAb
  generalize w4.heap.size = bb at *
  have hB6' : Bld w6 w.heap.size bb (91 :: pieces a []) := .inr hB6
  obtain ⟨hc0, hc1, hc2, hc3⟩ := hA6.cells4
  have hle6 := hB6'.lt
  clear hB6
  go_wp2
  clear HN hq HF HB2 HA3 HB4 HT4 HA4 HT2 HT1
  refine (wpIn_wide (n := 3)).1 (range_each a rfl rfl
    (fun pre W => Bld W w.heap.size bb (91 :: pieces a pre) ∧ Blk W w.heap.size 76 (setL a) ∧ TabAt W ∧ Below w.heap.size w W)
    (fun _ _ _ => False)
    (OwnFrom.and (own_bld (fun pre => 91 :: pieces a pre) hle6) (OwnFrom.and (own_blk (by omega) _) (OwnFrom.and (own_tab (by omega)) (ownFrom_below (Nat.le_refl _) (by omega)))))
    (fun _ _ _ _ _ hs _ _ => hs)
    ⟨hB6', hA6, hT6, hbw6⟩ (fun _ _ h => h.2.2.1)
    (fun x => { tmps := #[Value.agg Va, Value.pointer (some { block := w.heap.size, off := 0 }), Value.string { data := #[] }, Value.int .u8 (f : Int), Value.bool true, Value.pointer (some { block := bb, off := 0 }), .int .u8 (x : Int), undef, Value.agg #[Value.int .u64 ((wd a 0 : Nat) : Int), .int .u64 ((wd a 1 : Nat) : Int), .int .u64 ((wd a 2 : Nat) : Int), .int .u64 ((wd a 3 : Nat) : Int)], Value.agg vAll, Value.bool false, Value.tuple #[Value.int .u8 (f : Int), Value.bool true], Value.agg #[Value.int .u64 ((wd a 0 : Nat) : Int), .int .u64 ((wd a 1 : Nat) : Int), .int .u64 ((wd a 2 : Nat) : Int), .int .u64 ((wd a 3 : Nat) : Int)], Value.tuple #[Value.int .u8 (f : Int), Value.bool true], Value.int .u8 (f : Int), Value.bool true, Value.bool true, Value.bool true, Value.agg #[Value.int .u64 ((wd a 0 : Nat) : Int), .int .u64 ((wd a 1 : Nat) : Int), .int .u64 ((wd a 2 : Nat) : Int), .int .u64 ((wd a 3 : Nat) : Int)], Value.int .u8 (f : Int), Value.slice (some { block := w3.heap.size, off := 0 }) 1 1, Value.agg vOne, Value.bool false, Value.bool false, undef, undef, Value.nilIface, Value.agg #[Value.int .u64 ((wd a 0 : Nat) : Int), .int .u64 ((wd a 1 : Nat) : Int), .int .u64 ((wd a 2 : Nat) : Int), .int .u64 ((wd a 3 : Nat) : Int)], Value.func (Fn.func 44) #[Value.agg #[Value.int .u64 ((wd a 0 : Nat) : Int), .int .u64 ((wd a 1 : Nat) : Int), .int .u64 ((wd a 2 : Nat) : Int), .int .u64 ((wd a 3 : Nat) : Int)]] #[], .int .u8 (x : Int), undef, undef, undef, undef, undef, undef, undef, undef, undef, undef, undef, undef, undef, undef, undef, undef, undef, undef, undef, undef, undef, undef, undef], defers := [] }) ?assign ?body ?done ?stop)
  case assign =>
    intro l x W K hK
    gi_wp2
    exact hK
  case body =>
    rintro l pre x post W ⟨h1, h2, h3, h4⟩ hpre
    have hc := h2.cells4
    obtain ⟨hc0, hc1, hc2, hc3⟩ := hc
    have hx : x < 256 := bytesOf_lt a x (by rw [hpre]; simp)
    have hpl : (91 :: pieces a pre).length ≤ 3000 := by
      have h1 := bytesOf_len a
      have h2 := pieces_len a pre
      rw [hpre] at h1
      simp at h1 ⊢
      omega
    have h0 : TI w a bb W W (91 :: pieces a pre) := ⟨h1, h2, h3, h4, KeepsOthers.refl W⟩
    have hlt0 := hAl
    clear h1 h2 h3 h4 hpre
    generalize hlg : 91 :: pieces a pre = lg at *
    have HLG := hid hlg
    clear hlg
    by_cases hx0 : 0 < x
    · have HH := hid (fun W => has_any a (x - 1) (by omega) W)
      rw [show ((x - 1 : Nat) : Int) = (x : Int) - 1 by omega] at HH
      unfold setV at HH
      cases hh : has a (x - 1) with
      | true =>
        rw [hh] at HH
        have HP := hid (show pieces a (pre ++ [x]) = pieces a pre by rw [pieces_snoc, piece, if_pos ⟨hx0, hh⟩, List.append_nil])
        clear hh
        gi_wp2_with fail
        (with_reducible refine round_call3 (HH.out _) ?_)
        rintro e W1 ⟨rfl, hb1⟩
        have h1 := h0.below hb1
        clear hb1
        gi_wp2
        refine ⟨h1.keep.from _, trivial, ?_, h1.blk, h1.tab, h1.bel⟩
        have hf := h1.bld
        rw [HP.out, HLG.out]
        exact hf
      | false =>
        rw [hh] at HH
        have hno : ¬ (0 < x ∧ has a (x - 1) = true) := fun h => by rw [hh] at h; exact absurd h.2 (by decide)
        clear hh
        gi_wp2_with fail
        (with_reducible refine round_call3 (HH.out _) ?_)
        rintro e W1 ⟨rfl, hb1⟩
        have h1 := h0.below hb1
        clear hb1

        have HM := hid (fun W => name_any x hx W)
        have HM2 := hid (fun W => name_any (lastN a x) (lastN_lt a x hx) W)
        have HLs := hid (fun W => last_any a x hx W)
        have had := fun W => run_strAdd [45] (nameL (lastN a x)) (by have := nameL_len (lastN a x); simp; omega) W
        have hge := lastN_ge a x
        have l1 := nameL_len x
        have l2 := nameL_len (lastN a x)
        unfold setV at HLs
        gi_wp2_with fail
        (with_reducible refine round_call3 (HM.out _) ?_)
        rintro e W2 ⟨rfl, hb2⟩
        have h2 := h1.below hb2
        gi_wp2_with fail
        (with_reducible refine round_call3 (ws_any h2.bld (nameL x) (by omega) h2.bel.size) ?_)
        rintro e W3 ⟨rfl, hB3, hb3, ho3⟩
        have h3 := h2.wrote hlt0 hT0 hB3 hb3 ho3
        obtain ⟨hd0, hd1, hd2, hd3⟩ := h3.blk.cells4
        clear hB3 hb3 ho3 hb2
        gi_wp2_with fail
        (with_reducible refine round_call3 (HLs.out _) ?_)
        rintro e W4 ⟨rfl, hb4⟩
        have h4 := h3.below hb4
        clear hb4
        by_cases hto : x < lastN a x
        · have HP := hid (show pieces a (pre ++ [x]) = pieces a pre ++ (nameL x ++ 45 :: nameL (lastN a x)) by rw [pieces_snoc]; congr 1; unfold piece; rw [if_neg hno, if_pos hto])
          generalize lastN a x = to at *
          gi_wp2_with fail
          (with_reducible refine round_call3 (HM2.out _) ?_)
          rintro e W5 ⟨rfl, hb5⟩
          have h5 := h4.below hb5
          clear hb5
          gi_wp2_with fail
          (with_reducible refine round_call3 (ws_any h5.bld ([45] ++ nameL to) (by simp; omega) h5.bel.size) ?_)
          rintro e W6 ⟨rfl, hB6, hb6, ho6⟩
          have h6 := h5.wrote hlt0 hT0 hB6 hb6 ho6
          clear hB6 hb6 ho6
          gi_wp2
          refine ⟨h6.keep.from _, trivial, ?_, h6.blk, h6.tab, h6.bel⟩
          have hf := h6.bld
          rw [HP.out, ← List.cons_append, HLG.out]
          simpa using hf
        · have HP := hid (show pieces a (pre ++ [x]) = pieces a pre ++ nameL x by rw [pieces_snoc]; congr 1; unfold piece; rw [if_neg hno, if_neg hto, List.append_nil])
          generalize lastN a x = to at *
          gi_wp2
          refine ⟨h4.keep.from _, trivial, ?_, h4.blk, h4.tab, h4.bel⟩
          have hf := h4.bld
          rw [HP.out, ← List.cons_append, HLG.out]
          simpa using hf

    · have hno : ¬ (0 < x ∧ has a (x - 1) = true) := fun h => hx0 h.1
      gi_wp2_with fail
      refine ⟨trivial, ?_⟩

      have HM := hid (fun W => name_any x hx W)
      have HM2 := hid (fun W => name_any (lastN a x) (lastN_lt a x hx) W)
      have HLs := hid (fun W => last_any a x hx W)
      have had := fun W => run_strAdd [45] (nameL (lastN a x)) (by have := nameL_len (lastN a x); simp; omega) W
      have hge := lastN_ge a x
      have l1 := nameL_len x
      have l2 := nameL_len (lastN a x)
      unfold setV at HLs
      gi_wp2_with fail
      (with_reducible refine round_call3 (HM.out _) ?_)
      rintro e W2 ⟨rfl, hb2⟩
      have h2 := h0.below hb2
      gi_wp2_with fail
      (with_reducible refine round_call3 (ws_any h2.bld (nameL x) (by omega) h2.bel.size) ?_)
      rintro e W3 ⟨rfl, hB3, hb3, ho3⟩
      have h3 := h2.wrote hlt0 hT0 hB3 hb3 ho3
      obtain ⟨hd0, hd1, hd2, hd3⟩ := h3.blk.cells4
      clear hB3 hb3 ho3 hb2
      gi_wp2_with fail
      (with_reducible refine round_call3 (HLs.out _) ?_)
      rintro e W4 ⟨rfl, hb4⟩
      have h4 := h3.below hb4
      clear hb4
      by_cases hto : x < lastN a x
      · have HP := hid (show pieces a (pre ++ [x]) = pieces a pre ++ (nameL x ++ 45 :: nameL (lastN a x)) by rw [pieces_snoc]; congr 1; unfold piece; rw [if_neg hno, if_pos hto])
        generalize lastN a x = to at *
        gi_wp2_with fail
        (with_reducible refine round_call3 (HM2.out _) ?_)
        rintro e W5 ⟨rfl, hb5⟩
        have h5 := h4.below hb5
        clear hb5
        gi_wp2_with fail
        (with_reducible refine round_call3 (ws_any h5.bld ([45] ++ nameL to) (by simp; omega) h5.bel.size) ?_)
        rintro e W6 ⟨rfl, hB6, hb6, ho6⟩
        have h6 := h5.wrote hlt0 hT0 hB6 hb6 ho6
        clear hB6 hb6 ho6
        gi_wp2
        refine ⟨h6.keep.from _, trivial, ?_, h6.blk, h6.tab, h6.bel⟩
        have hf := h6.bld
        rw [HP.out, ← List.cons_append, HLG.out]
        simpa using hf
      · have HP := hid (show pieces a (pre ++ [x]) = pieces a pre ++ nameL x by rw [pieces_snoc]; congr 1; unfold piece; rw [if_neg hno, if_neg hto, List.append_nil])
        generalize lastN a x = to at *
        gi_wp2
        refine ⟨h4.keep.from _, trivial, ?_, h4.blk, h4.tab, h4.bel⟩
        have hf := h4.bld
        rw [HP.out, ← List.cons_append, HLG.out]
        simpa using hf
  case done =>
    rintro D W hD ⟨h1, h2, h3, h4⟩ hK
    have hBs := h1
    have hpl : (91 :: pieces a (bytesOf a)).length ≤ 3000 := by
      have h1 := bytesOf_len a
      have h2 := pieces_len a (bytesOf a)
      simp
      omega
    go_wp2_with fail
    refine (wb_any h1 93 (by decide) (by omega) h4.size).mono ?_
    rintro e W7 ⟨rfl, hB7, hb7, ho7⟩
    have hK7 := ho7 _ _ hK (fun e => by injection e with e; omega) (fun c fz e => by cases e)
    have hbw7 := h4.trans hb7
    clear ho7 hb7
    go_wp2_with fail
    refine (bstr_any (.inr hB7) hbw7.size).mono ?_
    rintro e W8 ⟨rfl, hb8, hk8⟩
    have hbw8 := hbw7.trans hb8
    go_wp2
    refine ⟨by simp, .inl ⟨_, _, rfl, run_takeDeferred (hk8 _ _ hK7 (fun e => by injection e with e; omega) (fun c fz e => by cases e)), ?_⟩⟩
    exact ⟨_, results_tmp rfl _ _ _, rfl, below_putD hbw8 (by omega) (hk8 _ _ hK7 (fun e => by injection e with e; omega) (fun c fz e => by cases e)) _⟩
  case stop =>
    rintro D c pre x post W hD hpre h hK
    exact h.elim

set_option maxRecDepth 100000 in
set_option maxHeartbeats 1000000 in
theorem text_nil (a : BS) (ha : a ≠ ~~~(0#256)) (h0 : a = 0#256) {w : World} (hT : TabAt w) :
    Calls Tryd.prog 26 #[setV a] w fun e w' => e = .returned (.string ⟨(91 :: (pieces a (bytesOf a) ++ [93])).toArray⟩) ∧ Below w.heap.size w w' := by
  refine (callsIn_wide (n := 3)).1 ?_
  have hfl := firstN_lt a
  have HN := hid (fun W => all_any W)
  have hq := run_eqSet a (~~~(0#256))
  rw [decide_eq_false ha] at hq
  have HF := hid (fun (W : World) (h : TabAt W) => first_any a h)
  have hA := Blk.fresh w 76 (setL a)
  have hb := ((Below.refl w.heap.size w).alloc (Nat.le_refl _) (.cells (setL a).toArray 76))
  rw [show setV a = .agg (setL a).toArray from rfl]
  have hc := hA.cells4
  obtain ⟨hc0, hc1, hc2, hc3⟩ := hc
  have hq' := hq
  unfold setV at HN hq HF
  generalize (setL a).toArray = Va at *
  have hA2 := hid hA
  clear hA hq'
  generalize (#[.int .u64 ((wd (~~~(0#256) : BS) 0 : Nat) : Int), .int .u64 ((wd (~~~(0#256) : BS) 1 : Nat) : Int), .int .u64 ((wd (~~~(0#256) : BS) 2 : Nat) : Int), .int .u64 ((wd (~~~(0#256) : BS) 3 : Nat) : Int)] : Array Value) = vAll at HN hq
  rw [show (!decide (a = 0#256)) = false by rw [decide_eq_true h0]; rfl] at HF
  have HT1 := hid (hT.keep hb)
  generalize firstN a = f at *
  clear ha h0
  have hT0 := hT.lt
  clear hT
  refine callsIn_of_wp_marks Tryd.func26 rfl trivial ?_ rfl
  simp only [Tryd.ntmps26, List.size_toArray, List.length_cons, List.length_nil, Nat.reduceAdd, Nat.reduceSub, Array.replicate_succ, Array.replicate_zero, List.push_toArray, List.append_toArray, List.nil_append, List.cons_append]
  refine wpIn_wide.2 ?_
  go_wp2
  generalize w.alloc (.cells Va 76) = w1 at *
  go_region_held3 (fun w' => w'.cell? ⟨w.heap.size, 0, none⟩ = some (.int .u64 ((wd a 0 : Nat) : Int)) ∧ w'.cell? ⟨w.heap.size, 1, none⟩ = some (.int .u64 ((wd a 1 : Nat) : Int)) ∧ w'.cell? ⟨w.heap.size, 2, none⟩ = some (.int .u64 ((wd a 2 : Nat) : Int)) ∧ w'.cell? ⟨w.heap.size, 3, none⟩ = some (.int .u64 ((wd a 3 : Nat) : Int)))
    (first | exact ⟨hc0, hc1, hc2, hc3⟩ | exact hd | assumption)
    (first
    | (go_at_call 40; refine (HN.out _).mono ?_; rintro e w2 ⟨rfl, hb2⟩; have hb2' : Below w1.heap.size w1 w2 := ⟨hb2.os, hb2.tape, hb2.output, hb2.size, hb2.block⟩; have hA3 := hA2.out.keep hb2'; have hd := hA3.cells4; clear hb2))
  have HT2 := hid (HT1.out.keep hb2')
  have hbw := hb.trans (hb2'.mono hb.size)
  have HB2 := hid hbw
  have HA3 := hid hA3
  obtain ⟨hc0, hc1, hc2, hc3⟩ := hd
  clear hA3 hA2 hb hb2' hbw
  go_wp2_with fail
  refine (HF.out _ HT2.out).mono ?_
  rintro e w3 ⟨rfl, hb3⟩
  have hbw := HB2.out.trans (hb3.mono HB2.out.size)
  have hA3' := HA3.out.keep hb3
  have hd3 := hA3'.cells4
  have hda := (hA3'.alloc (.cells #[.int .u8 (f : Int)] bT)).cells4
  obtain ⟨hc0, hc1, hc2, hc3⟩ := hd3
  have HT3 := HT2.out.keep hb3
  clear hb3
  go_wp2
  have HB3 := hid (fun n => show Below w.heap.size w (w3.drewN n) from ⟨hbw.os, hbw.tape, hbw.output, hbw.size, hbw.block⟩)
  have HT3' := hid (fun n => show TabAt (w3.drewN n) from HT3)
  have HA3'' := hid (fun n => show Blk (w3.drewN n) w.heap.size 76 (setL a) from hA3')
  clear hda hA3' hbw HT3
  go_quiet (fail)
  go_wp2_with fail
  have HB4 := hid (HB3.out nq)
  have HT4 := hid (HT3'.out nq)
  have HA4 := hid (HA3''.out nq)
  have hsz : w.heap.size ≤ w3.heap.size := HB4.out.size
  have hbB : Below w.heap.size w ((w3.drewN nq).alloc (.cells #[.pointer none, .slice none 0 0] bldT)) := (HB4.out.alloc (HB4.out.size) (.cells #[.pointer none, .slice none 0 0] bldT))
  have hBl : Bld ((w3.drewN nq).alloc (.cells #[.pointer none, .slice none 0 0] bldT)) w.heap.size w3.heap.size [] := .inl ⟨hsz, rfl, Blk.fresh (w3.drewN nq) bldT [.pointer none, .slice none 0 0]⟩
  have HTb := HT4.out.keep ((Below.refl (w3.drewN nq).heap.size (w3.drewN nq)).alloc (Nat.le_refl _) (.cells #[.pointer none, .slice none 0 0] bldT))
  have hAb := HA4.out.alloc (.cells #[.pointer none, .slice none 0 0] bldT)
  have hAl : w.heap.size < w3.heap.size := HA4.out.lt
  refine (wb_any hBl 91 (by decide) (by decide) (by have := hbB.size; omega)).mono ?_
  rintro e w6 ⟨rfl, hB6, hb6, ho6⟩
  have hA6 : Blk w6 w.heap.size 76 (setL a) := ho6 _ _ hAb (fun e => by injection e with e; omega) (fun c fz e => by injection e with _ e; exact absurd e (by decide))
  have hbw6 := hbB.trans hb6
  have hT6 := HTb.below hT0 hb6
  clear hBl hb6 ho6 hbB HTb hAb
  generalize w3.heap.size = bb at *
  have hB6' : Bld w6 w.heap.size bb (91 :: pieces a []) := .inr hB6
  obtain ⟨hc0, hc1, hc2, hc3⟩ := hA6.cells4
  have hle6 := hB6'.lt
  clear hB6
  go_wp2
  clear HN hq HF HB2 HA3 HB4 HT4 HA4 HT2 HT1
  refine (wpIn_wide (n := 3)).1 (range_each a rfl rfl
    (fun pre W => Bld W w.heap.size bb (91 :: pieces a pre) ∧ Blk W w.heap.size 76 (setL a) ∧ TabAt W ∧ Below w.heap.size w W)
    (fun _ _ _ => False)
    (OwnFrom.and (own_bld (fun pre => 91 :: pieces a pre) hle6) (OwnFrom.and (own_blk (by omega) _) (OwnFrom.and (own_tab (by omega)) (ownFrom_below (Nat.le_refl _) (by omega)))))
    (fun _ _ _ _ _ hs _ _ => hs)
    ⟨hB6', hA6, hT6, hbw6⟩ (fun _ _ h => h.2.2.1)
    (fun x => { tmps := #[Value.agg Va, Value.pointer (some { block := w.heap.size, off := 0 }), Value.string { data := #[] }, Value.int .u8 (f : Int), Value.bool false, Value.pointer (some { block := bb, off := 0 }), .int .u8 (x : Int), undef, Value.agg #[Value.int .u64 ((wd a 0 : Nat) : Int), .int .u64 ((wd a 1 : Nat) : Int), .int .u64 ((wd a 2 : Nat) : Int), .int .u64 ((wd a 3 : Nat) : Int)], Value.agg vAll, Value.bool false, Value.tuple #[Value.int .u8 (f : Int), Value.bool false], Value.agg #[Value.int .u64 ((wd a 0 : Nat) : Int), .int .u64 ((wd a 1 : Nat) : Int), .int .u64 ((wd a 2 : Nat) : Int), .int .u64 ((wd a 3 : Nat) : Int)], Value.tuple #[Value.int .u8 (f : Int), Value.bool false], Value.int .u8 (f : Int), Value.bool false, Value.bool false, Value.bool false, undef, undef, undef, undef, undef, Value.bool false, undef, undef, Value.nilIface, Value.agg #[Value.int .u64 ((wd a 0 : Nat) : Int), .int .u64 ((wd a 1 : Nat) : Int), .int .u64 ((wd a 2 : Nat) : Int), .int .u64 ((wd a 3 : Nat) : Int)], Value.func (Fn.func 44) #[Value.agg #[Value.int .u64 ((wd a 0 : Nat) : Int), .int .u64 ((wd a 1 : Nat) : Int), .int .u64 ((wd a 2 : Nat) : Int), .int .u64 ((wd a 3 : Nat) : Int)]] #[], .int .u8 (x : Int), undef, undef, undef, undef, undef, undef, undef, undef, undef, undef, undef, undef, undef, undef, undef, undef, undef, undef, undef, undef, undef, undef, undef], defers := [] }) ?assign ?body ?done ?stop)
  case assign =>
    intro l x W K hK
    gi_wp2
    exact hK
  case body =>
    rintro l pre x post W ⟨h1, h2, h3, h4⟩ hpre
    have hc := h2.cells4
    obtain ⟨hc0, hc1, hc2, hc3⟩ := hc
    have hx : x < 256 := bytesOf_lt a x (by rw [hpre]; simp)
    have hpl : (91 :: pieces a pre).length ≤ 3000 := by
      have h1 := bytesOf_len a
      have h2 := pieces_len a pre
      rw [hpre] at h1
      simp at h1 ⊢
      omega
    have h0 : TI w a bb W W (91 :: pieces a pre) := ⟨h1, h2, h3, h4, KeepsOthers.refl W⟩
    have hlt0 := hAl
    clear h1 h2 h3 h4 hpre
    generalize hlg : 91 :: pieces a pre = lg at *
    have HLG := hid hlg
    clear hlg
    by_cases hx0 : 0 < x
    · have HH := hid (fun W => has_any a (x - 1) (by omega) W)
      rw [show ((x - 1 : Nat) : Int) = (x : Int) - 1 by omega] at HH
      unfold setV at HH
      cases hh : has a (x - 1) with
      | true =>
        rw [hh] at HH
        have HP := hid (show pieces a (pre ++ [x]) = pieces a pre by rw [pieces_snoc, piece, if_pos ⟨hx0, hh⟩, List.append_nil])
        clear hh
        gi_wp2_with fail
        (with_reducible refine round_call3 (HH.out _) ?_)
        rintro e W1 ⟨rfl, hb1⟩
        have h1 := h0.below hb1
        clear hb1
        gi_wp2
        refine ⟨h1.keep.from _, trivial, ?_, h1.blk, h1.tab, h1.bel⟩
        have hf := h1.bld
        rw [HP.out, HLG.out]
        exact hf
      | false =>
        rw [hh] at HH
        have hno : ¬ (0 < x ∧ has a (x - 1) = true) := fun h => by rw [hh] at h; exact absurd h.2 (by decide)
        clear hh
        gi_wp2_with fail
        (with_reducible refine round_call3 (HH.out _) ?_)
        rintro e W1 ⟨rfl, hb1⟩
        have h1 := h0.below hb1
        clear hb1

        have HM := hid (fun W => name_any x hx W)
        have HM2 := hid (fun W => name_any (lastN a x) (lastN_lt a x hx) W)
        have HLs := hid (fun W => last_any a x hx W)
        have had := fun W => run_strAdd [45] (nameL (lastN a x)) (by have := nameL_len (lastN a x); simp; omega) W
        have hge := lastN_ge a x
        have l1 := nameL_len x
        have l2 := nameL_len (lastN a x)
        unfold setV at HLs
        gi_wp2_with fail
        (with_reducible refine round_call3 (HM.out _) ?_)
        rintro e W2 ⟨rfl, hb2⟩
        have h2 := h1.below hb2
        gi_wp2_with fail
        (with_reducible refine round_call3 (ws_any h2.bld (nameL x) (by omega) h2.bel.size) ?_)
        rintro e W3 ⟨rfl, hB3, hb3, ho3⟩
        have h3 := h2.wrote hlt0 hT0 hB3 hb3 ho3
        obtain ⟨hd0, hd1, hd2, hd3⟩ := h3.blk.cells4
        clear hB3 hb3 ho3 hb2
        gi_wp2_with fail
        (with_reducible refine round_call3 (HLs.out _) ?_)
        rintro e W4 ⟨rfl, hb4⟩
        have h4 := h3.below hb4
        clear hb4
        by_cases hto : x < lastN a x
        · have HP := hid (show pieces a (pre ++ [x]) = pieces a pre ++ (nameL x ++ 45 :: nameL (lastN a x)) by rw [pieces_snoc]; congr 1; unfold piece; rw [if_neg hno, if_pos hto])
          generalize lastN a x = to at *
          gi_wp2_with fail
          (with_reducible refine round_call3 (HM2.out _) ?_)
          rintro e W5 ⟨rfl, hb5⟩
          have h5 := h4.below hb5
          clear hb5
          gi_wp2_with fail
          (with_reducible refine round_call3 (ws_any h5.bld ([45] ++ nameL to) (by simp; omega) h5.bel.size) ?_)
          rintro e W6 ⟨rfl, hB6, hb6, ho6⟩
          have h6 := h5.wrote hlt0 hT0 hB6 hb6 ho6
          clear hB6 hb6 ho6
          gi_wp2
          refine ⟨h6.keep.from _, trivial, ?_, h6.blk, h6.tab, h6.bel⟩
          have hf := h6.bld
          rw [HP.out, ← List.cons_append, HLG.out]
          simpa using hf
        · have HP := hid (show pieces a (pre ++ [x]) = pieces a pre ++ nameL x by rw [pieces_snoc]; congr 1; unfold piece; rw [if_neg hno, if_neg hto, List.append_nil])
          generalize lastN a x = to at *
          gi_wp2
          refine ⟨h4.keep.from _, trivial, ?_, h4.blk, h4.tab, h4.bel⟩
          have hf := h4.bld
          rw [HP.out, ← List.cons_append, HLG.out]
          simpa using hf

    · have hno : ¬ (0 < x ∧ has a (x - 1) = true) := fun h => hx0 h.1
      gi_wp2_with fail
      refine ⟨trivial, ?_⟩

      have HM := hid (fun W => name_any x hx W)
      have HM2 := hid (fun W => name_any (lastN a x) (lastN_lt a x hx) W)
      have HLs := hid (fun W => last_any a x hx W)
      have had := fun W => run_strAdd [45] (nameL (lastN a x)) (by have := nameL_len (lastN a x); simp; omega) W
      have hge := lastN_ge a x
      have l1 := nameL_len x
      have l2 := nameL_len (lastN a x)
      unfold setV at HLs
      gi_wp2_with fail
      (with_reducible refine round_call3 (HM.out _) ?_)
      rintro e W2 ⟨rfl, hb2⟩
      have h2 := h0.below hb2
      gi_wp2_with fail
      (with_reducible refine round_call3 (ws_any h2.bld (nameL x) (by omega) h2.bel.size) ?_)
      rintro e W3 ⟨rfl, hB3, hb3, ho3⟩
      have h3 := h2.wrote hlt0 hT0 hB3 hb3 ho3
      obtain ⟨hd0, hd1, hd2, hd3⟩ := h3.blk.cells4
      clear hB3 hb3 ho3 hb2
      gi_wp2_with fail
      (with_reducible refine round_call3 (HLs.out _) ?_)
      rintro e W4 ⟨rfl, hb4⟩
      have h4 := h3.below hb4
      clear hb4
      by_cases hto : x < lastN a x
      · have HP := hid (show pieces a (pre ++ [x]) = pieces a pre ++ (nameL x ++ 45 :: nameL (lastN a x)) by rw [pieces_snoc]; congr 1; unfold piece; rw [if_neg hno, if_pos hto])
        generalize lastN a x = to at *
        gi_wp2_with fail
        (with_reducible refine round_call3 (HM2.out _) ?_)
        rintro e W5 ⟨rfl, hb5⟩
        have h5 := h4.below hb5
        clear hb5
        gi_wp2_with fail
        (with_reducible refine round_call3 (ws_any h5.bld ([45] ++ nameL to) (by simp; omega) h5.bel.size) ?_)
        rintro e W6 ⟨rfl, hB6, hb6, ho6⟩
        have h6 := h5.wrote hlt0 hT0 hB6 hb6 ho6
        clear hB6 hb6 ho6
        gi_wp2
        refine ⟨h6.keep.from _, trivial, ?_, h6.blk, h6.tab, h6.bel⟩
        have hf := h6.bld
        rw [HP.out, ← List.cons_append, HLG.out]
        simpa using hf
      · have HP := hid (show pieces a (pre ++ [x]) = pieces a pre ++ nameL x by rw [pieces_snoc]; congr 1; unfold piece; rw [if_neg hno, if_neg hto, List.append_nil])
        generalize lastN a x = to at *
        gi_wp2
        refine ⟨h4.keep.from _, trivial, ?_, h4.blk, h4.tab, h4.bel⟩
        have hf := h4.bld
        rw [HP.out, ← List.cons_append, HLG.out]
        simpa using hf
  case done =>
    rintro D W hD ⟨h1, h2, h3, h4⟩ hK
    have hBs := h1
    have hpl : (91 :: pieces a (bytesOf a)).length ≤ 3000 := by
      have h1 := bytesOf_len a
      have h2 := pieces_len a (bytesOf a)
      simp
      omega
    go_wp2_with fail
    refine (wb_any h1 93 (by decide) (by omega) h4.size).mono ?_
    rintro e W7 ⟨rfl, hB7, hb7, ho7⟩
    have hK7 := ho7 _ _ hK (fun e => by injection e with e; omega) (fun c fz e => by cases e)
    have hbw7 := h4.trans hb7
    clear ho7 hb7
    go_wp2_with fail
    refine (bstr_any (.inr hB7) hbw7.size).mono ?_
    rintro e W8 ⟨rfl, hb8, hk8⟩
    have hbw8 := hbw7.trans hb8
    go_wp2
    refine ⟨by simp, .inl ⟨_, _, rfl, run_takeDeferred (hk8 _ _ hK7 (fun e => by injection e with e; omega) (fun c fz e => by cases e)), ?_⟩⟩
    exact ⟨_, results_tmp rfl _ _ _, rfl, below_putD hbw8 (by omega) (hk8 _ _ hK7 (fun e => by injection e with e; omega) (fun c fz e => by cases e)) _⟩
  case stop =>
    rintro D c pre x post W hD hpre h hK
    exact h.elim

theorem text_any (a : BS) {w : World} (hT : TabAt w) :
    Calls Tryd.prog 26 #[setV a] w fun e w' => e = .returned (.string ⟨(textL a).toArray⟩) ∧ Below w.heap.size w w' := by
  unfold textL
  by_cases ha : a = ~~~(0#256)
  · rw [if_pos ha]; exact text_all a ha
  · rw [if_neg ha]
    by_cases h0 : a = 0#256
    · rw [if_neg (fun h => h.1 h0)]; exact text_nil a ha h0 hT
    · by_cases h1 : a = bit (firstN a)
      · rw [if_pos ⟨h0, h1⟩]; exact text_one a ha h0 h1 hT
      · rw [if_neg (fun h => h1 h.2)]; exact text_run a ha h0 h1 hT
end Go.Proofs.YtplldfbjbekdlaaDoor
