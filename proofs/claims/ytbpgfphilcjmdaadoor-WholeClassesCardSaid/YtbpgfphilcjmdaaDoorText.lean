/- class: Text. -/
import Derived.Test.YtbpgfphilcjmdaaDoorBld
import Derived.Deep.RegionHeld3
namespace Go.Proofs.YtbpgfphilcjmdaaDoor
open Go.RowKit

/-- What one byte of a set writes: nothing, if it stands in a run already. -/
def piece (a : BS) (c : Nat) : List UInt8 :=
  if 0 < c ∧ has a (c - 1) = true then [] else nameL c ++ (if c < lastN a c then 45 :: nameL (lastN a c) else [])
def pieces (a : BS) (l : List Nat) : List UInt8 := l.flatMap (piece a)
/-- A set's text. -/
def textL (a : BS) : List UInt8 :=
  if a = ~~~(0#256) then [46] else if a ≠ 0#256 ∧ a = bit (firstN a) then nameL (firstN a) else 91 :: (pieces a (bytesOf a) ++ [93])
theorem firstN_lt (a : BS) : firstN a < 256 := by
  unfold firstN
  cases h : bytesOf a with
  | nil => decide
  | cons c l => exact bytesOf_lt a c (by rw [h]; simp)
theorem ofL_one (c : Nat) (hc : c < 256) : ofL [c.toUInt8] = bit c := by
  have : c.toUInt8.toNat = c := by simp; omega
  simp [ofL, this]

set_option maxRecDepth 100000 in
theorem text_all (a : BS) (ha : a = ~~~(0#256)) {w : World} :
    Calls Tryd.prog 15 #[setV a] w fun e w' => e = .returned (.string ⟨[46].toArray⟩) ∧ Below w.heap.size w w' := by
  have HN := hid (fun W => all_any W)
  have hq := run_eqSet a (~~~(0#256))
  rw [decide_eq_true ha] at hq
  have HF := hid (fun (W : World) (h : TabAt W) => first_any a h)
  have hA := Blk.fresh w 40 (setL a)
  have hb := ((Below.refl w.heap.size w).alloc (Nat.le_refl _) (.cells (setL a).toArray 40))
  rw [show setV a = .agg (setL a).toArray from rfl]
  have hc := hA.cells4
  obtain ⟨hc0, hc1, hc2, hc3⟩ := hc
  have hq' := hq
  unfold setV at HN hq HF
  generalize (setL a).toArray = Va at *
  have hA2 := hid hA
  clear hA hq'
  clear HF
  rw [← ha] at HN hq
  clear ha
  go_enter Tryd.func15, Tryd.ntmps15
  go_wp2
  generalize w.alloc (.cells Va 40) = w1 at *
  go_region_held3 (fun w' => w'.cell? ⟨w.heap.size, 0, none⟩ = some (.int .u64 ((wd a 0 : Nat) : Int)) ∧ w'.cell? ⟨w.heap.size, 1, none⟩ = some (.int .u64 ((wd a 1 : Nat) : Int)) ∧ w'.cell? ⟨w.heap.size, 2, none⟩ = some (.int .u64 ((wd a 2 : Nat) : Int)) ∧ w'.cell? ⟨w.heap.size, 3, none⟩ = some (.int .u64 ((wd a 3 : Nat) : Int)))
    (first | exact ⟨hc0, hc1, hc2, hc3⟩ | exact hd | assumption)
    (first
    | (go_at_call 20; refine (HN.out _).mono ?_; rintro e w2 ⟨rfl, hb2⟩; have hb2' : Below w1.heap.size w1 w2 := ⟨hb2.os, hb2.tape, hb2.output, hb2.size, hb2.block⟩; have hA3 := hA2.out.keep hb2'; have hd := hA3.cells4; clear hb2))
  have hbw := hb.trans (hb2'.mono hb.size)
  have HB2 := hid hbw
  have HA3 := hid hA3
  obtain ⟨hc0, hc1, hc2, hc3⟩ := hd
  clear hA3 hA2 hb hb2' hbw
  go_wp2
  go_ret
  exact ⟨rfl, HB2.out⟩

set_option maxRecDepth 100000 in
theorem text_one (a : BS) (ha : a ≠ ~~~(0#256)) (h0 : a ≠ 0#256) (h1 : a = bit (firstN a)) {w : World} (hT : TabAt w) :
    Calls Tryd.prog 15 #[setV a] w fun e w' => e = .returned (.string ⟨(nameL (firstN a)).toArray⟩) ∧ Below w.heap.size w w' := by
  have hfl := firstN_lt a
  have hq2 := run_eqSet a (bit (firstN a))
  rw [decide_eq_true h1] at hq2
  have HO := hid (fun (W : World) => of_any (w := (W.alloc (.cells #[.int .u8 ((firstN a : Nat) : Int)] bT)).drew) (cap := 1) (RdB.one W (firstN a) hfl) (by decide))
  rw [ofL_one _ hfl] at HO
  have HM := hid (fun W => name_any (firstN a) hfl W)
  have HN := hid (fun W => all_any W)
  have hq := run_eqSet a (~~~(0#256))
  rw [decide_eq_false ha] at hq
  have HF := hid (fun (W : World) (h : TabAt W) => first_any a h)
  have hA := Blk.fresh w 40 (setL a)
  have hb := ((Below.refl w.heap.size w).alloc (Nat.le_refl _) (.cells (setL a).toArray 40))
  rw [show setV a = .agg (setL a).toArray from rfl]
  have hc := hA.cells4
  obtain ⟨hc0, hc1, hc2, hc3⟩ := hc
  have hq' := hq
  unfold setV at HN hq HF
  generalize (setL a).toArray = Va at *
  have hA2 := hid hA
  clear hA hq'
  generalize (#[.int .u64 ((wd (~~~(0#256) : BS) 0 : Nat) : Int), .int .u64 ((wd (~~~(0#256) : BS) 1 : Nat) : Int), .int .u64 ((wd (~~~(0#256) : BS) 2 : Nat) : Int), .int .u64 ((wd (~~~(0#256) : BS) 3 : Nat) : Int)] : Array Value) = vAll at HN hq
  rw [show (!decide (a = 0#256)) = true by rw [decide_eq_false h0]; rfl] at HF
  have HT1 := hid (hT.keep hb)
  unfold setV at HO hq2
  generalize firstN a = f at *
  generalize (#[.int .u64 ((wd (bit f) 0 : Nat) : Int), .int .u64 ((wd (bit f) 1 : Nat) : Int), .int .u64 ((wd (bit f) 2 : Nat) : Int), .int .u64 ((wd (bit f) 3 : Nat) : Int)] : Array Value) = vOne at HO hq2
  clear ha h0 h1 hT
  go_enter Tryd.func15, Tryd.ntmps15
  go_wp2
  generalize w.alloc (.cells Va 40) = w1 at *
  go_region_held3 (fun w' => w'.cell? ⟨w.heap.size, 0, none⟩ = some (.int .u64 ((wd a 0 : Nat) : Int)) ∧ w'.cell? ⟨w.heap.size, 1, none⟩ = some (.int .u64 ((wd a 1 : Nat) : Int)) ∧ w'.cell? ⟨w.heap.size, 2, none⟩ = some (.int .u64 ((wd a 2 : Nat) : Int)) ∧ w'.cell? ⟨w.heap.size, 3, none⟩ = some (.int .u64 ((wd a 3 : Nat) : Int)))
    (first | exact ⟨hc0, hc1, hc2, hc3⟩ | exact hd | assumption)
    (first
    | (go_at_call 20; refine (HN.out _).mono ?_; rintro e w2 ⟨rfl, hb2⟩; have hb2' : Below w1.heap.size w1 w2 := ⟨hb2.os, hb2.tape, hb2.output, hb2.size, hb2.block⟩; have hA3 := hA2.out.keep hb2'; have hd := hA3.cells4; clear hb2))
  have HT2 := hid (HT1.out.keep hb2')
  have hbw := hb.trans (hb2'.mono hb.size)
  have HB2 := hid hbw
  have HA3 := hid hA3
  obtain ⟨hc0, hc1, hc2, hc3⟩ := hd
  clear hA3 hA2 hb hb2' hbw
  go_wp2_with fail
  refine (HF.out _ HT2.out).mono ?_
  rintro e w3 ⟨rfl, hb3⟩
  have hbw := HB2.out.trans (hb3.mono HB2.out.size)
  have hA3' := HA3.out.keep hb3
  have hd3 := hA3'.cells4
  have hda := (hA3'.alloc (.cells #[.int .u8 (f : Int)] bT)).cells4
  obtain ⟨hc0, hc1, hc2, hc3⟩ := hd3
  clear hb3
  go_wp2
  go_region_held3 (fun w' => w'.cell? ⟨w.heap.size, 0, none⟩ = some (.int .u64 ((wd a 0 : Nat) : Int)) ∧ w'.cell? ⟨w.heap.size, 1, none⟩ = some (.int .u64 ((wd a 1 : Nat) : Int)) ∧ w'.cell? ⟨w.heap.size, 2, none⟩ = some (.int .u64 ((wd a 2 : Nat) : Int)) ∧ w'.cell? ⟨w.heap.size, 3, none⟩ = some (.int .u64 ((wd a 3 : Nat) : Int)))
    (first | exact ⟨hc0, hc1, hc2, hc3⟩ | exact hd3 | exact hda | exact hd4 | assumption)
    (first
    | (go_at_call 14; refine (HO.out _).mono ?_; rintro e w4 ⟨rfl, hb4⟩; have hb4' : Below (w3.alloc (.cells #[.int .u8 (f : Int)] bT)).heap.size (w3.alloc (.cells #[.int .u8 (f : Int)] bT)) w4 := ⟨hb4.os, hb4.tape, hb4.output, hb4.size, hb4.block⟩; have hA4 := (hA3'.alloc (.cells #[.int .u8 (f : Int)] bT)).keep hb4'; have hd4 := hA4.cells4; clear hb4))
  have HB4 := hid (hbw.trans (((Below.refl w3.heap.size w3).alloc (Nat.le_refl _) (.cells #[.int .u8 (f : Int)] bT)).trans (hb4'.mono (by simp)) |>.mono hbw.size))
  clear hb4' hA4 hd4 hda hA3' hbw
  go_wp2_with fail
  refine (HM.out _).mono ?_
  rintro e w5 ⟨rfl, hb5⟩
  go_wp2
  go_ret
  exact ⟨rfl, HB4.out.trans (hb5.mono HB4.out.size)⟩
end Go.Proofs.YtbpgfphilcjmdaaDoor
