/- The calls of octet's writer. -/
import Derived.Test.YtkbddjmfccbcoaaPut
namespace Go.Proofs.Ytkbddjmfccbcoaa
open Go.RowKit

/-- A writer: block p; what was written, l, lies in a row that it owns; at most 'most' bytes. -/
structure Wtr (w : World) (base p : Nat) (A : Option Addr) (c most : Nat) (l : List UInt8) : Prop where
  blk : Blk w p 79 [.slice A l.length c, .int .i64 (most : Int)]
  own : w.ownsRow base 5 1 (.slice A l.length c) l.length (l.map isB)
  le : l.length ≤ most
  lim : most ≤ 9223372036854775807
  base : base ≤ p

/-- The blocks that a writer may change. -/
def Wown (p : Nat) (A : Option Addr) (k : Nat) : Prop := k = p ∨ (Value.slice A 0 0).ownBlock = some k

section
variable {w w' : World} {base p : Nat} {A : Option Addr} {c most : Nat} {l : List UInt8}
theorem own_of (A : Option Addr) (n c : Nat) : (Value.slice A n c).ownBlock = (Value.slice A 0 0).ownBlock := by
  cases A <;> rfl
theorem Wtr.c0 (h : Wtr w base p A c most l) : w.cell? ⟨p, 0, none⟩ = some (.slice A l.length c) := h.blk.at 0
theorem Wtr.c1 (h : Wtr w base p A c most l) : w.cell? ⟨p, 1, none⟩ = some (.int .i64 (most : Int)) := h.blk.at 1
theorem Wtr.f0 (h : Wtr w base p A c most l) : w.frozen? ⟨p, 0, none⟩ = false := h.blk.free 0
theorem Wtr.ne (h : Wtr w base p A c most l) : (Value.slice A l.length c).ownBlock ≠ some p := own_ne h.own h.blk (by decide)
theorem Wtr.ge (h : Wtr w base p A c most l) : ∀ k, Wown p A k → base ≤ k := by
  intro k hk
  rcases hk with rfl | hk
  · exact h.base
  · rw [← own_of A l.length c] at hk
    exact (h.own.lt k hk).1
theorem Wtr.lt (h : Wtr w base p A c most l) : ∀ k, Wown p A k → k < w.heap.size := by
  intro k hk
  rcases hk with rfl | hk
  · exact h.blk.lt
  · rw [← own_of A l.length c] at hk
    exact (h.own.lt k hk).2
theorem Wtr.chg {S : Nat → Prop} (h : Wtr w base p A c most l) (hc : Chg w w' S) (hS : ∀ k, Wown p A k → ¬ S k) : Wtr w' base p A c most l :=
  ⟨h.blk.chg hc (hS p (.inl rfl)), owns_chg h.own hc (fun k hk => hS k (.inr (by rw [← own_of A l.length c]; exact hk))), h.le, h.lim, h.base⟩
theorem Wtr.below (h : Wtr w base p A c most l) (hb : Below w.heap.size w w') : Wtr w' base p A c most l :=
  h.chg (Chg.of_below hb (fun _ => False)) (fun _ _ => id)
theorem Wtr.drewN (h : Wtr w base p A c most l) (k : Nat) : Wtr (w.drewN k) base p A c most l := h.below (below_drewN (Below.refl _ _) k)
theorem Wtr.rdb (h : Wtr w base p A c most l) : RdB w A l.length l := RdB.of_own h.own
theorem Wtr.fresh (w : World) (most : Nat) (base : Nat) (hm : most ≤ 9223372036854775807) (hb : base ≤ w.heap.size) :
    Wtr (w.alloc (.cells #[.slice none 0 0, .int .i64 (most : Int)] 79)) base w.heap.size none 0 most [] :=
  ⟨Blk.fresh w _ [_, _], World.ownsRow_nil _ _ _ _, Nat.zero_le _, hm, hb⟩
end

theorem write_any {w : World} (most : Int) (hm : most ≤ 9223372036854775807) :
    Calls Try.prog 28 #[.int .i64 most] w fun e w' => e = .returned (.pointer (some ⟨w.heap.size, 0, none⟩)) ∧ w.alloc (.cells #[.slice none 0 0, .int .i64 (most.toNat : Int)] 79) = w' := by
  by_cases h : most ≤ 0
  · have e : (most.toNat : Int) = 0 := by omega
    rw [e]
    clear e
    rcases (show most < 0 ∨ most = 0 by omega) with h0 | rfl
    all_goals
      go_enter Try.func28, Try.ntmps28
      go_wp2
      go_ret
      exact ⟨rfl, rfl⟩
  · obtain ⟨k, rfl⟩ := Int.eq_ofNat_of_zero_le (show 0 ≤ most by omega)
    rw [Int.toNat_natCast]
    go_enter Try.func28, Try.ntmps28
    go_wp2
    go_ret
    exact ⟨rfl, rfl⟩

/-- Write, told by what it is good for. -/
theorem write_wt {w : World} (most : Int) (base : Nat) (hm : most ≤ 9223372036854775807) (hb : base ≤ w.heap.size) :
    Calls Try.prog 28 #[.int .i64 most] w fun e w' => ∃ p, e = .returned (.pointer (some ⟨p, 0, none⟩)) ∧ Wtr w' base p none 0 most.toNat [] ∧ Below w.heap.size w w' ∧ w.heap.size ≤ p := by
  refine (write_any most hm).mono ?_
  rintro e w' ⟨rfl, rfl⟩
  exact ⟨_, rfl, Wtr.fresh w most.toNat base (by omega) hb, (Below.refl _ _).alloc (Nat.le_refl _) _, Nat.le_refl _⟩

theorem len_any {w : World} {base p : Nat} {A : Option Addr} {c most : Nat} {l : List UInt8} (hW : Wtr w base p A c most l) :
    Calls Try.prog 30 #[.pointer (some ⟨p, 0, none⟩)] w fun e w' => e = .returned (.int .i64 l.length) ∧ w = w' := by
  have c0 := hW.c0
  go_enter Try.func30, Try.ntmps30
  go_wp2
  go_ret
  exact ⟨rfl, rfl⟩

theorem bytes_any {w : World} {base p : Nat} {A : Option Addr} {c most : Nat} {l : List UInt8} (hW : Wtr w base p A c most l) (hl : l.length ≤ 4294967296) :
    Calls Try.prog 31 #[.pointer (some ⟨p, 0, none⟩)] w fun e w' => e = .returned (.slice (some ⟨w.heap.size, 0, none⟩) l.length l.length) ∧ Blk w' w.heap.size 5 (l.map isB) ∧ Below w.heap.size w w' := by
  have c0 := hW.c0
  have hr := hW.rdb
  have hmk := run_makeB l.length hl
  have hpl := hW.blk.lt
  have hfit : 0 + l.length ≤ (zeros l.length).toList.length := by rw [zeros_len]; omega
  go_enter Try.func31, Try.ntmps31
  go_wp2_with (with_reducible refine wpList_copyB rfl (.tmp 10) (.tmp 14) rfl _ _ _ rfl _ _ _ rfl w.heap.size 0 (zeros l.length).toList (Blk.zeros_ w _) l (hr.alloc _) (fun _ => rfl) (Nat.le_refl _) hfit ?_; intro w2 HG hg2)
  go_ret
  have hG := HG.out
  rw [splice_zeros l.length l rfl] at hG
  exact ⟨rfl, hG, below_fresh hg2⟩

/-- Bytes, the new block by a name of its own. -/
theorem bytes_at {w : World} {base p : Nat} {A : Option Addr} {c most : Nat} {l : List UInt8} (hW : Wtr w base p A c most l) (hl : l.length ≤ 4294967296) :
    Calls Try.prog 31 #[.pointer (some ⟨p, 0, none⟩)] w fun e w' => ∃ g, e = .returned (.slice (some ⟨g, 0, none⟩) l.length l.length) ∧ Blk w' g 5 (l.map isB) ∧ Below w.heap.size w w' ∧ w.heap.size ≤ g :=
  (bytes_any hW hl).mono fun _ _ ⟨he, hG, hB⟩ => ⟨_, he, hG, hB, Nat.le_refl _⟩

theorem add_no {w : World} {base p : Nat} {A : Option Addr} {c most : Nat} {l : List UInt8} (hW : Wtr w base p A c most l) (A0 : Option Addr) (m c0 : Nat) (hm : most < l.length + m) :
    Calls Try.prog 29 #[.pointer (some ⟨p, 0, none⟩), .slice A0 m c0] w fun e w' => e = .returned (.int .i64 2) ∧ ∃ k, w.drewN k = w' := by
  have k0 := hW.c0
  have k1 := hW.c1
  have hle := hW.le
  have hlim := hW.lim
  have hlt : (most : Int) - l.length < m := by omega
  go_enter Try.func29, Try.ntmps29
  go_wp2
  go_quiet (fail)
  go_wp2
  go_ret
  exact ⟨rfl, _, rfl⟩

/-- What stands behind a call that wrote X. -/
def Wrote (w w' : World) (base p : Nat) (A : Option Addr) (most : Nat) (l X : List UInt8) : Prop :=
  ∃ A' c', Wtr w' base p A' c' most (l ++ X) ∧ Chg w w' (Wown p A) ∧ ∀ k, Wown p A' k → Wown p A k ∨ w.heap.size ≤ k

theorem add_ok {w : World} {base p : Nat} {A : Option Addr} {c most : Nat} {l : List UInt8} (hW : Wtr w base p A c most l) (A0 : Option Addr) (m c0 : Nat) (X : List UInt8) (hX : RdB w A0 m X) (hm : l.length + m ≤ most)
    (hb : l.length + m ≤ 4294967296) :
    Calls Try.prog 29 #[.pointer (some ⟨p, 0, none⟩), .slice A0 m c0] w fun e w' => e = .returned (.int .i64 0) ∧ Wrote w w' base p A most l X := by
  have k0 := hW.c0
  have k1 := hW.c1
  have hle := hW.le
  have hlim := hW.lim
  have hlt : ¬ (most : Int) - l.length < m := by omega
  have hbl : base ≤ w.heap.size := Nat.le_trans hW.base (Nat.le_of_lt hW.blk.lt)
  have HX := hid hX.1
  go_enter Try.func29, Try.ntmps29
  go_wp2
  go_quiet (fail)
  go_wp2_with (at_builtin; refine wpList_appB rfl (.tmp 22) (.tmp 23) rfl base (.slice A l.length c) l.length (l.map isB) rfl (owns_chg hW.own (Chg.drewN (Chg.refl w (fun _ => False)) _) (fun _ _ => id)) A0 m c0 X rfl (hX.drewN _) hb hbl ?_; intro A' c' w1 HO hg HV; have hbk := (hW.blk.drewN nq).grown hg (fun e => hW.ne e.symm); have k0' := hbk.at 0; have f0' := hbk.free 0; simp only [List.getElem?_cons_zero] at k0')
  go_ret
  have hX1 := HX.out
  subst hX1
  have hO := HO.out
  have hne := own_ne hO hbk (by decide)
  have hlen : (l ++ X).length = l.length + X.length := List.length_append
  refine ⟨rfl, A', c', ⟨?_, ?_, by omega, hlim, hW.base⟩, ?_, ?_⟩
  · rw [hlen]
    exact hbk.put 0 _
  · rw [hlen, List.map_append]
    exact owns_chg hO (Chg.set (Chg.refl w1 (fun k => k = p)) p 0 rfl _) (fun k hk e => hne (by rw [hk, e]))
  · refine Chg.set ?_ p 0 (.inl rfl) _
    refine Chg.more (S := fun k => (Value.slice A l.length c).ownBlock = some k) (Chg.trans (Chg.drewN (Chg.refl w _) nq) (Chg.of_grown hg)) (fun k _ hk => .inr (by rw [← own_of A l.length c]; exact hk))
  · intro k hk
    rcases hk with rfl | hk
    · exact .inl (.inl rfl)
    · rw [← own_of A' (l.length + X.length) c'] at hk
      rcases HV.out with h | h
      · rw [h, own_of A l.length c] at hk
        exact .inl (.inr hk)
      · rw [h] at hk
        injection hk with hk
        exact .inr (Nat.le_of_eq hk)

theorem wnum_ok {w : World} {base p : Nat} {A : Option Addr} {c most : Nat} {l : List UInt8} (hW : Wtr w base p A c most l) (n width : Nat) (little : Bool) (h1 : 1 ≤ width) (h8 : width ≤ 8) (hn : n ≤ mostN width) (hm : l.length + width ≤ most) (hb : l.length ≤ 2147483648) :
    Calls Try.prog 32 #[.pointer (some ⟨p, 0, none⟩), .int .u64 n, .int .i64 width, .bool little] w fun e w' => e = .returned (.int .i64 0) ∧ Wrote w w' base p A most l (digits little n width) := by
  go_enter Try.func32, Try.ntmps32
  go_wp2_with fail
  refine (put_ok n width little (RdB.nil_ w none) (Nat.zero_le _) h1 h8 hn).mono ?_
  rintro e w1 ⟨rfl, hG, hB⟩
  simp only [List.nil_append, Nat.zero_add] at hG ⊢
  have hr := RdB.of_blk hG
  rw [digits_len] at hr
  have hW1 := hW.below hB
  go_wp2_with (go_at_call 29; refine (add_ok hW1 _ width width _ hr hm (by omega)).mono ?_; rintro e w2 ⟨rfl, A', c', hW2, hC, hO⟩)
  go_ret
  refine ⟨rfl, A', c', hW2, (Chg.of_below hB _).trans hC, fun k hk => ?_⟩
  rcases hO k hk with h | h
  · exact .inl h
  · exact .inr (Nat.le_trans hB.size h)

theorem wnum_long {w : World} {base p : Nat} {A : Option Addr} {c most : Nat} {l : List UInt8} (hW : Wtr w base p A c most l) (n width : Nat) (little : Bool) (h1 : 1 ≤ width) (h8 : width ≤ 8) (hn : n ≤ mostN width) (hm : most < l.length + width) :
    Calls Try.prog 32 #[.pointer (some ⟨p, 0, none⟩), .int .u64 n, .int .i64 width, .bool little] w fun e w' => e = .returned (.int .i64 2) ∧ Below w.heap.size w w' := by
  go_enter Try.func32, Try.ntmps32
  go_wp2_with fail
  refine (put_ok n width little (RdB.nil_ w none) (Nat.zero_le _) h1 h8 hn).mono ?_
  rintro e w1 ⟨rfl, hG, hB⟩
  simp only [List.nil_append, Nat.zero_add] at hG ⊢
  have hW1 := hW.below hB
  go_wp2_with (go_at_call 29; refine (add_no hW1 _ width width hm).mono ?_; rintro e w2 ⟨rfl, k, rfl⟩)
  go_ret
  exact ⟨rfl, below_drewN hB k⟩

theorem wnum_range {w : World} {p : Nat} (n : Nat) (width : Int) (little : Bool) (hw : width < 1 ∨ 8 < width) :
    Calls Try.prog 32 #[.pointer (some ⟨p, 0, none⟩), .int .u64 n, .int .i64 width, .bool little] w fun e w' => e = .returned (.int .i64 1) ∧ w = w' := by
  go_enter Try.func32, Try.ntmps32
  go_wp2_with (go_at_call 16; refine (put_range n width little hw).mono ?_; rintro e w' ⟨rfl, rfl⟩)
  go_ret
  exact ⟨rfl, rfl⟩

theorem wnum_over {w : World} {p : Nat} (n width : Nat) (little : Bool) (h1 : 1 ≤ width) (h8 : width ≤ 8) (hn : mostN width < n) :
    Calls Try.prog 32 #[.pointer (some ⟨p, 0, none⟩), .int .u64 n, .int .i64 width, .bool little] w fun e w' => e = .returned (.int .i64 40) ∧ w = w' := by
  go_enter Try.func32, Try.ntmps32
  go_wp2_with (go_at_call 16; refine (put_over n width little h1 h8 hn).mono ?_; rintro e w' ⟨rfl, rfl⟩)
  go_ret
  exact ⟨rfl, rfl⟩
end Go.Proofs.Ytkbddjmfccbcoaa
