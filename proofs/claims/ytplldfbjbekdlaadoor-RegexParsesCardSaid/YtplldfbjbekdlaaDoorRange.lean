/- class: a loop over a set's Each: what its rounds owe. -/
import Derived.Test.YtplldfbjbekdlaaDoorEach2
namespace Go.Proofs.YtplldfbjbekdlaaDoor
set_option linter.unusedSimpArgs false
open Go.RowKit Go.Shelf

/-- The record of a loop. -/
def lrec (fn : FuncId) (tmps : Array Value) (ps : Array Tmp) (assign body : Code) (D : Nat) (st : LoopState) (pe : Option Code) : Loop :=
  { state := st, pending := pe, fn := fn, tmps := tmps, params := ps, assign := assign, body := body, defers := D }

/-- A condition that new blocks, and the turn of one that holds no cells, don't touch. -/
structure Own2 (B : Nat) (I : List Nat → World → Prop) : Prop where
  alloc : ∀ {s W} (o : Obj), I s W → I s (W.alloc o)
  putObj : ∀ {s W k o} (o' : Obj), I s W → B ≤ k → W.heap[k]? = some o → o.isCells = false → I s (W.putObj k o')
theorem own2_of {B : Nat} {I : List Nat → World → Prop} (h : OwnFrom B I) : Own2 B I := ⟨fun o hi => h.alloc o hi, fun o' hi hk ho hc => h.putObj o' hi hk ho hc⟩
theorem Own2.and {B : Nat} {I I' : List Nat → World → Prop} (h : Own2 B I) (h' : Own2 B I') : Own2 B (fun s W => I s W ∧ I' s W) :=
  ⟨fun o hi => ⟨h.alloc o hi.1, h'.alloc o hi.2⟩, fun o' hi hk ho hc => ⟨h.putObj o' hi.1 hk ho hc, h'.putObj o' hi.2 hk ho hc⟩⟩

theorem range_each2 {n : Nat} {g : Operand} {ps : Array Tmp} {assign body : Code} {Q : Exit → Act → World → Prop} {t : Act} {w : World} (a : BS)
    (hg : t.eval g = .func (.func 44) #[setV a] #[]) (hps : ps.size = 1)
    (I : List Nat → World → Prop) (Ix : Code → List Nat → World → Prop) (hI : Own2 w.heap.size I) (hIx : ∀ c, Own2 w.heap.size (Ix c)) (h0 : I [] w) (hIT : ∀ pre W, I pre W → TabAt W) (t₁ : Nat → Act)
    (hassign : ∀ (l x : Nat) (W : World) (K : Act → World → Prop), K (t₁ x) W →
      assign.wpIn (Fence.wide.inRound l) (n - 1 - 1) Tryd.prog (Exit.then K (fun _ _ _ => False)) { tmps := (ps.zip #[Value.int .u8 (x : Int)]).foldl (fun u (p, v) => u.setIfInBounds p v) t.tmps, defers := [] } W)
    (hbody : ∀ (l : Nat) (pre : List Nat) (x : Nat) (post : List Nat) (W : World), I pre W → bytesOf a = pre ++ x :: post →
      body.wpIn (Fence.wide.inRound l) (n - 1 - 1) Tryd.prog (ownPostG w.heap.size (fun _ _ => True) I Ix (pre ++ [x]) W) (t₁ x) W)
    (hdone : ∀ (D : Nat) (W : World), w.heap.size ≤ D → I (bytesOf a) W → W.heap[D]? = some (.deferred (some [])) → Q .normal { t with defers := { target := .collected D, args := #[] } :: t.defers } W)
    (hstop : ∀ (D : Nat) (c : Code) (pre : List Nat) (x : Nat) (post : List Nat) (W : World), w.heap.size ≤ D → bytesOf a = pre ++ x :: post → Ix c (pre ++ [x]) W → W.heap[D]? = some (.deferred (some [])) →
      c.wpIn Fence.wide n Tryd.prog Q { t with defers := { target := .collected D, args := #[] } :: t.defers } W) :
    (Code.rangeFunc g ps assign body).wpIn Fence.wide n Tryd.prog Q t w := by
  refine wpIn_rangeFunc fun fn _ => ?_
  obtain ⟨B, hB⟩ : ∃ B, B = w.heap.size := ⟨_, rfl⟩
  obtain ⟨W1, hW1⟩ : ∃ W1, W1 = (w.alloc (.deferred (some []))).alloc (.loop (lrec fn t.tmps ps assign body B .ready none)) := ⟨_, rfl⟩
  have hs1 : W1.heap.size = B + 2 := by rw [hW1, hB]; simp
  have hL1 : W1.heap[B + 1]? = some (.loop (lrec fn t.tmps ps assign body B .ready none)) := by
    have := World.alloc_heap_new (w.alloc (.deferred (some []))) (.loop (lrec fn t.tmps ps assign body B .ready none))
    rw [World.size_alloc] at this
    rw [hW1, hB]
    rw [hB] at this
    exact this
  have hD1 : W1.heap[B]? = some (.deferred (some [])) := by
    rw [hW1, hB]
    exact (Below.heap_alloc _ _ _ (by simp)).trans (World.alloc_heap_new w _)
  have hI1 : I [] W1 := by rw [hW1]; exact hI.alloc _ (hI.alloc _ h0)
  -- whoever turns no block but its own cells keeps the record
  have keep : ∀ (W W' : World) (k : Nat) (o : Obj), KeepsFrom w.heap.size W W' → B ≤ k → W.heap[k]? = some o → o.isCells = false → W'.heap[k]? = some o := fun W W' k o h hk ho hc => h.same k o (by omega) ho hc
  refine ⟨B + 1, [{ target := .collected B, args := #[] }], W1, { target := .fn (.func 44) #[], args := #[setV a, .func (.yield (B + 1)) #[] #[]] }, W1, 44,
    #[setV a, .func (.yield (B + 1)) #[] #[]], W1, ?_, ?_, ?_, ?_, ?_, ?_⟩
  · rw [hW1, hB]; exact run_enterLoop_outer _ _ _ _ _
  · simp only [resolve, hg]
    simp [go_sem]
  · intro f' _; trivial
  · have eg := enters_of (P := Tryd.prog) Tryd.func44 (by kernel_rfl) rfl
    simp [invoke, go_sem, eg]
  · intro h; simp [Fence.wide] at h
  · refine (each_in (n - 1) (B + 1) a
      (fun pre W => I pre W ∧ W.heap[B + 1]? = some (.loop (lrec fn t.tmps ps assign body B .ready none)) ∧ W.heap[B]? = some (.deferred (some [])))
      (fun pre W => ∃ c, Ix c pre W ∧ W.heap[B + 1]? = some (.loop (lrec fn t.tmps ps assign body B .done (some c))) ∧ W.heap[B]? = some (.deferred (some [])))
      (fun pre W h => hIT pre W h.1) ?_ W1 ?_ (hIT _ _ hI1)).mono ?_
    · rintro pre x post W ⟨hi, hl, hd⟩ hpre
      have hlt : B + 1 < W.heap.size := (Array.getElem?_eq_some_iff.1 hl).1
      have hy := run_yield (P := Tryd.prog) (args := #[Value.int .u8 (x : Int)]) hl (by rw [lrec, hps]; rfl)
      refine ⟨fn, _, assign, body, hy, roundIn_of_wpIn trivial (hassign _ x W _ ⟨_, run_beginRound hl rfl, ?_⟩)⟩
      have hl2 : (W.putObj (B + 1) (.loop (lrec fn t.tmps ps assign body B .busy none))).heap[B + 1]? = some (.loop (lrec fn t.tmps ps assign body B .busy none)) := World.putObj_heap_same hlt
      have hd2 : (W.putObj (B + 1) (.loop (lrec fn t.tmps ps assign body B .busy none))).heap[B]? = some (.deferred (some [])) := (World.putObj_heap_other (by omega)).trans hd
      refine wpIn_mono (hbody _ pre x post _ (hI.putObj _ hi (by omega) hl rfl) hpre) ?_
      have fin : ∀ (jump : Option Code) (W3 : World), KeepsFrom w.heap.size (W.putObj (B + 1) (.loop (lrec fn t.tmps ps assign body B .busy none))) W3 →
          W3.heap[B + 1]? = some (.loop (lrec fn t.tmps ps assign body B .busy none)) ∧
          (Instr.endRound (B + 1) jump).run Tryd.prog W3 = .ok (.bool jump.isNone) (W3.putObj (B + 1) (.loop (lrec fn t.tmps ps assign body B (if jump.isNone then .ready else .done) jump))) ∧
          (W3.putObj (B + 1) (.loop (lrec fn t.tmps ps assign body B (if jump.isNone then .ready else .done) jump))).heap[B + 1]? = some (.loop (lrec fn t.tmps ps assign body B (if jump.isNone then .ready else .done) jump)) ∧
          (W3.putObj (B + 1) (.loop (lrec fn t.tmps ps assign body B (if jump.isNone then .ready else .done) jump))).heap[B]? = some (.deferred (some [])) := by
        intro jump W3 hk
        have h3 := keep _ _ _ _ hk (by omega) hl2 rfl
        exact ⟨h3, run_endRound jump h3, World.putObj_heap_same (Array.getElem?_eq_some_iff.1 h3).1, (World.putObj_heap_other (by omega)).trans (keep _ _ _ _ hk (Nat.le_refl _) hd2 rfl)⟩
      intro e t3 W3 hp
      cases e with
      | normal =>
        obtain ⟨hk3, _, hi3⟩ := hp
        obtain ⟨h3, hr, hl4, hd4⟩ := fin none W3 hk3
        exact ⟨_, _, hr, .inl ⟨rfl, hI.putObj _ hi3 (by omega) h3 rfl, hl4, hd4⟩⟩
      | ret =>
        obtain ⟨hk3, hi3⟩ := hp
        obtain ⟨h3, hr, hl4, hd4⟩ := fin (some .ret) W3 hk3
        exact ⟨_, _, hr, .inr ⟨rfl, .ret, (hIx _).putObj _ hi3 (by omega) h3 rfl, hl4, hd4⟩⟩
      | exit id =>
        obtain ⟨hk3, hi3⟩ := hp
        obtain ⟨h3, hr, hl4, hd4⟩ := fin (some (.exit id)) W3 hk3
        exact ⟨_, _, hr, .inr ⟨rfl, .exit id, (hIx _).putObj _ hi3 (by omega) h3 rfl, hl4, hd4⟩⟩
      | goto c =>
        obtain ⟨hk3, hi3⟩ := hp
        obtain ⟨h3, hr, hl4, hd4⟩ := fin (some (.goto c)) W3 hk3
        exact ⟨_, _, hr, .inr ⟨rfl, .goto c, (hIx _).putObj _ hi3 (by omega) h3 rfl, hl4, hd4⟩⟩
      | panic ch => exact hp.elim
      | outgrown => exact hp.elim
    · refine ⟨hI.alloc _ hI1, (Below.heap_alloc _ _ _ (by omega)).trans hL1, (Below.heap_alloc _ _ _ (by omega)).trans hD1⟩
    · rintro e W2 ⟨⟨v, rfl⟩, ⟨hi, hl, hd⟩ | ⟨pre, x, post, hpre, c, hi, hl, hd⟩⟩
      · exact ⟨none, _, run_endLoop hl (by simp [lrec]), hdone B _ (by omega) (hI.putObj _ hi (by omega) hl rfl) ((World.putObj_heap_other (by omega)).trans hd)⟩
      · exact ⟨some c, _, run_endLoop hl (by simp [lrec]), hstop B c pre x post _ (by omega) hpre ((hIx c).putObj _ hi (by omega) hl rfl) ((World.putObj_heap_other (by omega)).trans hd)⟩
theorem range_each {n : Nat} {g : Operand} {ps : Array Tmp} {assign body : Code} {Q : Exit → Act → World → Prop} {t : Act} {w : World} (a : BS)
    (hg : t.eval g = .func (.func 44) #[setV a] #[]) (hps : ps.size = 1)
    (I : List Nat → World → Prop) (Ix : Code → List Nat → World → Prop) (hI : OwnFrom w.heap.size I) (hIx : ∀ c, OwnFrom w.heap.size (Ix c)) (h0 : I [] w) (hIT : ∀ pre W, I pre W → TabAt W) (t₁ : Nat → Act)
    (hassign : ∀ (l x : Nat) (W : World) (K : Act → World → Prop), K (t₁ x) W →
      assign.wpIn (Fence.wide.inRound l) (n - 1 - 1) Tryd.prog (Exit.then K (fun _ _ _ => False)) { tmps := (ps.zip #[Value.int .u8 (x : Int)]).foldl (fun u (p, v) => u.setIfInBounds p v) t.tmps, defers := [] } W)
    (hbody : ∀ (l : Nat) (pre : List Nat) (x : Nat) (post : List Nat) (W : World), I pre W → bytesOf a = pre ++ x :: post →
      body.wpIn (Fence.wide.inRound l) (n - 1 - 1) Tryd.prog (ownPostG w.heap.size (fun _ _ => True) I Ix (pre ++ [x]) W) (t₁ x) W)
    (hdone : ∀ (D : Nat) (W : World), w.heap.size ≤ D → I (bytesOf a) W → W.heap[D]? = some (.deferred (some [])) → Q .normal { t with defers := { target := .collected D, args := #[] } :: t.defers } W)
    (hstop : ∀ (D : Nat) (c : Code) (pre : List Nat) (x : Nat) (post : List Nat) (W : World), w.heap.size ≤ D → bytesOf a = pre ++ x :: post → Ix c (pre ++ [x]) W → W.heap[D]? = some (.deferred (some [])) →
      c.wpIn Fence.wide n Tryd.prog Q { t with defers := { target := .collected D, args := #[] } :: t.defers } W) :
    (Code.rangeFunc g ps assign body).wpIn Fence.wide n Tryd.prog Q t w :=
  range_each2 a hg hps I Ix (own2_of hI) (fun c => own2_of (hIx c)) h0 hIT t₁ hassign hbody hdone hstop
end Go.Proofs.YtplldfbjbekdlaaDoor
