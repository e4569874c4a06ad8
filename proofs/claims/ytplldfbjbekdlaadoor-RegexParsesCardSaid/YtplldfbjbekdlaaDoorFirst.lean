/- class: First, byLeast. -/
import Derived.Test.YtplldfbjbekdlaaDoorRange
namespace Go.Proofs.YtplldfbjbekdlaaDoor
set_option linter.unusedVariables false
set_option linter.unusedSimpArgs false
open Go.RowKit Go.Shelf
attribute [local go_sem] Oper.semAt_some

theorem wide_call2 {n f : Nat} {args : Array Value} {w : World} {R R' : Ending → World → Prop} (h : Calls Tryd.prog f args w R') (hm : ∀ e w', R' e w' → R e w') :
    Fence.wide.fn f ∧ CallsIn Fence.wide n Tryd.prog f args w R := ⟨trivial, (callsIn_wide.2 h).mono hm⟩
theorem round_call2 {n l f : Nat} {args : Array Value} {w : World} {R R' : Ending → World → Prop} (h : Calls Tryd.prog f args w R') (hm : ∀ e w', R' e w' → R e w') :
    (Fence.wide.inRound l).fn f ∧ CallsIn (Fence.wide.inRound l) n Tryd.prog f args w R := ⟨trivial, CallsIn.inRound l ((callsIn_wide.2 h).mono hm)⟩
theorem round_call3 {n l f : Nat} {args : Array Value} {w : World} {R R' : Ending → World → Prop} (h : Calls Tryd.prog f args w R') (hm : ∀ e w', R' e w' → R e w') :
    Fence.wide.fn f ∧ CallsIn (Fence.wide.inRound l) n Tryd.prog f args w R := ⟨trivial, CallsIn.inRound l ((callsIn_wide.2 h).mono hm)⟩
theorem own_blk {B g : Nat} {t : TypeId} (hg : g < B) (cs : List Nat → List Value) : OwnFrom B (fun pre W => Blk W g t (cs pre)) := fun s W W' row hs hgr hr =>
  hs.grown hgr (fun e => by have := (hr g e.symm).1; omega)
theorem own_tab {B : Nat} (hB : 0 < B) : OwnFrom B (fun (_ : List Nat) W => TabAt W) := fun s W W' row hs hgr hr i hi =>
  hgr.cell (hs i hi) (fun e => by have := (hr _ e.symm).1; simp only at this; omega)
theorem own_pure {B : Nat} {p : List Nat → Prop} : OwnFrom B (fun pre _ => p pre) := fun _ _ _ _ h _ _ => h

theorem own2_drawn {B : Nat} (n : Nat) : Own2 B (fun _ W => n ≤ W.drawn) := ⟨fun _ h => h, fun _ h _ _ _ => h⟩
theorem Blk.putObj {w : World} {g : Nat} {t : TypeId} {cs : List Value} (h : Blk w g t cs) {D : Nat} (o : Obj) (hne : g ≠ D) : Blk (w.putObj D o) g t cs := (World.putObj_heap_other hne).trans h
theorem below_putD {w W : World} (h : Below w.heap.size w W) {D : Nat} (hD : w.heap.size ≤ D) {ds : List Deferred} (hk : W.heap[D]? = some (.deferred (some ds))) (o : Obj) : Below w.heap.size w (W.putObj D o) :=
  h.trans (belowK_b (w := w) (Nat.le_refl _) W D _ o hD hk rfl rfl)
/-- The least byte. -/
def firstN (a : BS) : Nat := (bytesOf a).headD 0
set_option maxRecDepth 100000 in
set_option maxHeartbeats 1000000 in
theorem first_dr (a : BS) {w : World} (hT : TabAt w) :
    Calls Tryd.prog 41 #[setV a] w fun e w' => e = .returned (.tuple #[.int .u8 ((firstN a : Nat) : Int), .bool (!decide (a = 0#256))]) ∧ Below w.heap.size w w' ∧ w.drawn ≤ w'.drawn := by
  refine (callsIn_wide (n := 3)).1 ?_
  have hA := Blk.fresh w 76 (setL a)
  rw [show setV a = .agg (setL a).toArray from rfl]
  refine callsIn_of_wp_marks Tryd.func41 rfl trivial ?_ rfl
  simp only [Tryd.ntmps41, List.size_toArray, List.length_cons, List.length_nil, Nat.reduceAdd, Nat.reduceSub, Array.replicate_succ, Array.replicate_zero, List.push_toArray, List.append_toArray, List.nil_append, List.cons_append]
  obtain ⟨hc0, hc1, hc2, hc3⟩ := ((hA.alloc (.cells #[.int .u8 0] 5)).alloc (.cells #[.bool false] 4)).cells4
  generalize hVa : (setL a).toArray = Va at *
  have HVa := hid hVa
  clear hVa
  gi_wp2
  have hsv : setV a = .agg #[.int .u64 ((wd a 0 : Nat) : Int), .int .u64 ((wd a 1 : Nat) : Int), .int .u64 ((wd a 2 : Nat) : Int), .int .u64 ((wd a 3 : Nat) : Int)] := rfl
  rw [← hsv]
  have hX : Blk (((w.alloc (.cells Va 76)).alloc (.cells #[.int .u8 0] 5)).alloc (.cells #[.bool false] 4)) (w.heap.size + 1) 5 [.int .u8 0] := by
    have := (Blk.fresh (w.alloc (.cells Va 76)) 5 [.int .u8 0]).alloc (.cells #[.bool false] 4)
    rwa [World.size_alloc] at this
  have hY : Blk (((w.alloc (.cells Va 76)).alloc (.cells #[.int .u8 0] 5)).alloc (.cells #[.bool false] 4)) (w.heap.size + 1 + 1) 4 [.bool false] := by
    have := Blk.fresh ((w.alloc (.cells Va 76)).alloc (.cells #[.int .u8 0] 5)) 4 [.bool false]
    rwa [World.size_alloc, World.size_alloc] at this
  have hB := @below_alloc3 w (.cells Va 76) (.cells #[.int .u8 0] 5) (.cells #[.bool false] 4)
  have hsz : (((w.alloc (.cells Va 76)).alloc (.cells #[.int .u8 0] 5)).alloc (.cells #[.bool false] 4)).heap.size = w.heap.size + 3 := by simp
  have hdr0 : w.drawn ≤ (((w.alloc (.cells Va 76)).alloc (.cells #[.int .u8 0] 5)).alloc (.cells #[.bool false] 4)).drawn := Nat.le_refl _
  generalize ((w.alloc (.cells Va 76)).alloc (.cells #[.int .u8 0] 5)).alloc (.cells #[.bool false] 4) = w3 at *
  have hT3 := hT.keep hB
  have hT0 := hT.lt
  clear hc0 hc1 hc2 hc3 hA
  have HSV := hid hsv
  clear hsv
  generalize setV a = sv at *
  have hdr : w.drawn ≤ w3.drawn := hdr0
  refine range_each2 a (by rw [HSV.out]; rfl) rfl
    (fun pre W => pre = [] ∧ Blk W (w.heap.size + 1) 5 [.int .u8 0] ∧ Blk W (w.heap.size + 1 + 1) 4 [.bool false] ∧ TabAt W ∧ Below w.heap.size w W ∧ w.drawn ≤ W.drawn)
    (fun c pre W => c = .ret ∧ ∃ x : Nat, pre = [x] ∧ Blk W (w.heap.size + 1) 5 [.int .u8 (x : Int)] ∧ Blk W (w.heap.size + 1 + 1) 4 [.bool true] ∧ Below w.heap.size w W ∧ w.drawn ≤ W.drawn)
    (Own2.and (own2_of own_pure) (Own2.and (own2_of (own_blk (by omega) _)) (Own2.and (own2_of (own_blk (by omega) _)) (Own2.and (own2_of (own_tab (by omega))) (Own2.and (own2_of (ownFrom_below (Nat.le_refl _) (by omega))) (own2_drawn _))))))
    (fun c => ⟨fun o ⟨hc, x, hx, h1, h2, h3, h4⟩ => ⟨hc, x, hx, h1.alloc o, h2.alloc o, h3.alloc h3.size o, h4⟩,
      fun o' ⟨hc, x, hx, h1, h2, h3, h4⟩ hk ho hcl => ⟨hc, x, hx, h1.putObj o' (by omega), h2.putObj o' (by omega), (own2_of (ownFrom_below (β := List Nat) (Nat.le_refl _) (by omega))).putObj (s := []) o' h3 hk ho hcl, h4⟩⟩)
    ⟨rfl, hX, hY, hT3, hB, hdr⟩ (fun _ _ h => h.2.2.2.1)
    (fun x => { tmps := #[Value.agg Va, Value.pointer (some { block := w.heap.size, off := 0 }), Value.pointer (some { block := w.heap.size + 1, off := 0 }), Value.pointer (some { block := w.heap.size + 1 + 1, off := 0 }), .int .u8 (x : Int), sv, Value.func (Fn.func 44) #[sv] #[], .int .u8 (x : Int), undef], defers := [] }) ?assign ?body ?done ?stop
  case assign =>
    intro l x W K hK
    gi_wp2
    exact hK
  case body =>
    rintro l pre x post W ⟨rfl, h1, h2, h3, h4, h5⟩ hpre
    have hx0 := h1.at 0
    have hx1 := h1.free 0
    have hy0 := h2.at 0
    have hy1 := h2.free 0
    have hS1 := hid ((h1.put 0 (.int .u8 (x : Int))).other (p := ⟨w.heap.size + 1 + 1, 0, none⟩) (show w.heap.size + 1 ≠ w.heap.size + 1 + 1 by omega) (.bool true))
    have hS2 := hid ((h2.other (p := ⟨w.heap.size + 1, 0, none⟩) (show w.heap.size + 1 + 1 ≠ w.heap.size + 1 by omega) (.int .u8 (x : Int))).put 0 (.bool true))
    have hS3 := hid ((h4.setCell (p := ⟨w.heap.size + 1, 0, none⟩) (Nat.le_succ _) (.int .u8 (x : Int))).setCell (p := ⟨w.heap.size + 1 + 1, 0, none⟩) (show w.heap.size ≤ w.heap.size + 1 + 1 by omega) (.bool true))
    have hS4 := hid (((KeepsOthers.setCell W ⟨w.heap.size + 1, 0, none⟩ (.int .u8 (x : Int))).trans (KeepsOthers.setCell _ ⟨w.heap.size + 1 + 1, 0, none⟩ (.bool true))).from w3.heap.size)
    clear h1 h2 h3 h4 hpre
    gi_wp2
    exact ⟨hS4.out, rfl, x, rfl, hS1.out, hS2.out, hS3.out, h5⟩
  case done =>
    rintro D W hD ⟨hnil, h1, h2, h3, h4, h5⟩ hK
    have ha := (bytesOf_nil a).1 hnil
    have HF := hid (show firstN a = 0 by unfold firstN; rw [hnil]; rfl)
    have HA := hid (show (!decide (a = 0#256)) = false by rw [decide_eq_true ha]; rfl)
    have hx0 := h1.at 0
    have hx1 := h1.free 0
    have hy0 := h2.at 0
    have hy1 := h2.free 0
    have hS1 := ((h1.put 0 (.int .u8 0)).other (p := ⟨w.heap.size + 1 + 1, 0, none⟩) (show w.heap.size + 1 ≠ w.heap.size + 1 + 1 by omega) (.bool false))
    have hS2 := ((h2.other (p := ⟨w.heap.size + 1, 0, none⟩) (show w.heap.size + 1 + 1 ≠ w.heap.size + 1 by omega) (.int .u8 0)).put 0 (.bool false))
    have hS3 := ((h4.setCell (p := ⟨w.heap.size + 1, 0, none⟩) (Nat.le_succ _) (.int .u8 0)).setCell (p := ⟨w.heap.size + 1 + 1, 0, none⟩) (show w.heap.size ≤ w.heap.size + 1 + 1 by omega) (.bool false))
    have hK2 := ((KeepsOthers.setCell W ⟨w.heap.size + 1, 0, none⟩ (.int .u8 0)).trans (KeepsOthers.setCell _ ⟨w.heap.size + 1 + 1, 0, none⟩ (.bool false))).same D _ hK rfl
    have H1 := hid ((hS1.putObj (.deferred none) (show w.heap.size + 1 ≠ D by omega)).at 0)
    have H2 := hid ((hS2.putObj (.deferred none) (show w.heap.size + 1 + 1 ≠ D by omega)).at 0)
    have H3 := hid (below_putD hS3 (show w.heap.size ≤ D by omega) hK2 (.deferred none))
    have HK := hid hK2
    clear h1 h2 h3 h4 hS1 hS2 hS3 hK2 hK hnil ha
    gi_wp2
    refine ⟨by simp, .inl ⟨_, _, rfl, run_takeDeferred HK.out, ?_⟩⟩
    have h1 := H1.out
    have h2 := H2.out
    refine ⟨.tuple #[.int .u8 0, .bool false], ?_, by rw [HF.out, HA.out]; rfl, H3.out, h5⟩
    simp at h1 h2
    simp [results, Tryd.f41, go_sem, h1, h2]
  case stop =>
    rintro D c pre x post W hD hpre ⟨rfl, y, hy, h1, h2, h4, h5⟩ hK
    obtain ⟨rfl, rfl⟩ : pre = [] ∧ x = y := by
      cases pre with
      | nil => simp at hy; exact ⟨rfl, hy⟩
      | cons z pre => simp at hy
    have ha : a ≠ 0#256 := fun h => by rw [(bytesOf_nil a).2 h] at hpre; cases hpre
    have HF := hid (show firstN a = x by unfold firstN; rw [hpre]; rfl)
    have HA := hid (show (!decide (a = 0#256)) = true by rw [decide_eq_false ha]; rfl)
    have H1 := hid ((h1.putObj (.deferred none) (show w.heap.size + 1 ≠ D by omega)).at 0)
    have H2 := hid ((h2.putObj (.deferred none) (show w.heap.size + 1 + 1 ≠ D by omega)).at 0)
    have H3 := hid (below_putD h4 (show w.heap.size ≤ D by omega) hK (.deferred none))
    have HK := hid hK
    clear h1 h2 h4 hK hpre hy ha
    gi_wp2
    refine ⟨by simp, .inl ⟨_, _, rfl, run_takeDeferred HK.out, ?_⟩⟩
    have h1 := H1.out
    have h2 := H2.out
    refine ⟨.tuple #[.int .u8 (x : Int), .bool true], ?_, by rw [HF.out, HA.out], H3.out, h5⟩
    simp at h1 h2
    simp [results, Tryd.f41, go_sem, h1, h2]
theorem first_any (a : BS) {w : World} (hT : TabAt w) :
    Calls Tryd.prog 41 #[setV a] w fun e w' => e = .returned (.tuple #[.int .u8 ((firstN a : Nat) : Int), .bool (!decide (a = 0#256))]) ∧ Below w.heap.size w w' :=
  (first_dr a hT).mono fun _ _ h => ⟨h.1, h.2.1⟩
end Go.Proofs.YtplldfbjbekdlaaDoor
