import Derived.Test.YtmbbjhlpfgpibaaSmall
import Derived.Test.YtmbbjhlpfgpibaaMath
namespace Go.Proofs.Ytmbbjhlpfgpibaa
open Go.RowKit
/-- A reader: block p; its bytes l are '.slice A n c', of which 'rd' were read. -/
structure Rdr (w : World) (p : Nat) (A : Option Addr) (n c rd : Nat) (l : List UInt8) : Prop where
  blk : Blk w p 106 [.slice A n c, .int .i64 (rd : Int)]
  rdb : RdB w A n l
  ne : 0 < n → ∀ a, A = some a → a.block ≠ p
  le : rd ≤ n
  cap : n ≤ c
  lim : c ≤ 9223372036854775807

section
variable {w w' : World} {p : Nat} {A : Option Addr} {n c rd : Nat} {l : List UInt8}
theorem Rdr.c0 (h : Rdr w p A n c rd l) : w.cell? ⟨p, 0, none⟩ = some (.slice A n c) := h.blk.at 0
theorem Rdr.c1 (h : Rdr w p A n c rd l) : w.cell? ⟨p, 1, none⟩ = some (.int .i64 (rd : Int)) := h.blk.at 1
theorem Rdr.f1 (h : Rdr w p A n c rd l) : w.frozen? ⟨p, 1, none⟩ = false := h.blk.free 1
theorem Rdr.len (h : Rdr w p A n c rd l) : l.length = n := h.rdb.1
theorem Rdr.grown {row : Option Nat} (h : Rdr w p A n c rd l) (hg : w.grownBy w' row) (hr : some p ≠ row) (hA : 0 < n → ∀ a, A = some a → some a.block ≠ row) : Rdr w' p A n c rd l :=
  ⟨h.blk.grown hg hr, h.rdb.grown hg hA, h.ne, h.le, h.cap, h.lim⟩
theorem Rdr.below (h : Rdr w p A n c rd l) (hb : Below w.heap.size w w') : Rdr w' p A n c rd l :=
  h.grown (grown_of_below hb none) (by simp) (by simp)
theorem Rdr.drewN (h : Rdr w p A n c rd l) (k : Nat) : Rdr (w.drewN k) p A n c rd l := ⟨h.blk, h.rdb, h.ne, h.le, h.cap, h.lim⟩
theorem Rdr.move (h : Rdr w p A n c rd l) (k m : Nat) (hm : rd + m ≤ n) : Rdr ((w.drewN k).setCell ⟨p, 1, none⟩ (.int .i64 ((rd + m : Nat) : Int))) p A n c (rd + m) l :=
  ⟨(h.blk.drewN k).put 1 _, h.rdb.grown (grown_set w k p 1 _) (fun hn a ha e => h.ne hn a ha (by injection e)), h.ne, hm, h.cap, h.lim⟩
/-- A new reader, over bytes that lie below it. -/
theorem Rdr.fresh (hD : RdB w A n l) (hc : n ≤ c) (hl : c ≤ 9223372036854775807) :
    Rdr (w.alloc (.cells #[.slice A n c, .int .i64 0] 106)) w.heap.size A n c 0 l :=
  ⟨Blk.fresh w _ [_, _], hD.alloc _, fun hn a ha e => by
    obtain ⟨b, o, e', hb, _⟩ := hD.2 hn
    rw [ha] at e'
    injection e' with e'
    rw [e'] at e
    exact absurd e (Nat.ne_of_lt hb), Nat.zero_le _, hc, hl⟩
end

theorem new_any (A : Option Addr) (n c : Nat) (w : World) :
    Calls Try.prog 39 #[.slice A n c] w fun e w' => e = .returned (.pointer (some ⟨w.heap.size, 0, none⟩)) ∧ w.alloc (.cells #[.slice A n c, .int .i64 0] 106) = w' := by
  go_enter Try.func39, Try.ntmps39
  go_wp2
  go_ret
  exact ⟨rfl, rfl⟩

theorem left_any {w : World} {p : Nat} {A : Option Addr} {n c rd : Nat} {l : List UInt8} (hR : Rdr w p A n c rd l) :
    Calls Try.prog 42 #[.pointer (some ⟨p, 0, none⟩)] w fun e w' => e = .returned (.int .i64 ((n : Int) - rd)) ∧ ∃ k, w.drewN k = w' := by
  have c0 := hR.c0
  have c1 := hR.c1
  have h1 := hR.le
  have h2 := hR.cap
  have h3 := hR.lim
  go_enter Try.func42, Try.ntmps42
  go_wp2
  go_quiet (fail)
  go_wp2
  go_ret
  exact ⟨rfl, _, rfl⟩

theorem of_le {w : World} {A : Option Addr} {n c : Nat} {l : List UInt8} (hR : RdB w A n l) (h2 : n ≤ 9223372036854775807) :
    Calls Try.prog 59 #[.slice A n c, .bool true] w fun e w' => e = .returned (.int .u64 (leSum (l.take 8))) ∧ w = w' := by
  have hlen := hR.1
  rcases Nat.lt_trichotomy n 8 with hn8 | rfl | hn8
  all_goals
    go_enter Try.func59, Try.ntmps59
    go_wp2
    go_loop [5, 10] (fun v i => ∃ k : Nat, k ≤ l.length ∧ k ≤ 8 ∧ i = .int .i64 k ∧ v = .int .u64 (leSum (l.take k))) (fun _ i => 8 - (intOf i).toNat)
    case atStart => exact ⟨0, by omega, by omega, rfl, rfl⟩
    case round =>
      obtain ⟨k, hk, hk8, rfl, rfl⟩ := hrel
      by_cases hlt : k < l.length ∧ k < 8
      · obtain ⟨b, o, rfl, hb, hc⟩ := hR.2 (by omega)
        obtain ⟨h3, h4⟩ := hlt
        have hck := hc k h3
        clear hc
        have hby := l[k].toNat_lt
        have HS := hid (le_step l k h3 h4)
        go_wp2
        go_round
        case rel => exact ⟨k + 1, by omega, by omega, by go_num, by rw [HS.out]⟩
        case measure => simp [intOf]; omega
      · have HT := hid (take_eq8 l k (by omega))
        go_wp2
        go_ret
        exact ⟨ret_int (by rw [HT.out]), rfl⟩

theorem of_be {w : World} {A : Option Addr} {n c : Nat} {l : List UInt8} (hR : RdB w A n l) (h2 : n ≤ 9223372036854775807) :
    Calls Try.prog 59 #[.slice A n c, .bool false] w fun e w' => e = .returned (.int .u64 (beSum (l.take 8))) ∧ w = w' := by
  have hlen := hR.1
  rcases Nat.lt_trichotomy n 8 with hn8 | rfl | hn8
  all_goals
    go_enter Try.func59, Try.ntmps59
    go_wp2
    go_loop [5, 10] (fun v i => ∃ k : Nat, k ≤ l.length ∧ k ≤ 8 ∧ i = .int .i64 k ∧ v = .int .u64 (beSum (l.take k))) (fun _ i => 8 - (intOf i).toNat)
    case atStart => exact ⟨0, by omega, by omega, rfl, rfl⟩
    case round =>
      obtain ⟨k, hk, hk8, rfl, rfl⟩ := hrel
      by_cases hlt : k < l.length ∧ k < 8
      · obtain ⟨b, o, rfl, hb, hc⟩ := hR.2 (by omega)
        obtain ⟨h3, h4⟩ := hlt
        have hck := hc k h3
        clear hc
        have hby := l[k].toNat_lt
        have HS := hid (be_step l k h3 h4)
        go_wp2
        go_round
        case rel => exact ⟨k + 1, by omega, by omega, by go_num, by rw [HS.out]⟩
        case measure => simp [intOf]; omega
      · have HT := hid (take_eq8 l k (by omega))
        go_wp2
        go_ret
        exact ⟨ret_int (by rw [HT.out]), rfl⟩

theorem octOf_any {w : World} {A : Option Addr} {n c : Nat} {l : List UInt8} (little : Bool) (h : RdB w A n l) (h2 : n ≤ 9223372036854775807) :
    Calls Try.prog 59 #[.slice A n c, .bool little] w fun e w' => e = .returned (.int .u64 (ofB little l)) ∧ w = w' := by
  cases little
  · exact of_be h h2
  · exact of_le h h2


theorem next_neg {w : World} {p : Nat} (m : Int) (hm : m < 0) :
    Calls Try.prog 58 #[.pointer (some ⟨p, 0, none⟩), .int .i64 m] w fun e w' => e = .returned (.tuple #[.slice none 0 0, .int .i64 1]) ∧ w = w' := by
  go_enter Try.func58, Try.ntmps58
  go_wp2
  go_ret2
  exact ⟨rfl, rfl⟩

theorem next_end {w : World} {p : Nat} {A : Option Addr} {n c rd : Nat} {l : List UInt8} (hR : Rdr w p A n c rd l) (m : Int) (hm : (n : Int) - rd < m) :
    Calls Try.prog 58 #[.pointer (some ⟨p, 0, none⟩), .int .i64 m] w fun e w' => e = .returned (.tuple #[.slice none 0 0, .int .i64 10]) ∧ ∃ k, w.drewN k = w' := by
  have hle := hR.le
  go_enter Try.func58, Try.ntmps58
  go_wp2_with (go_at_call 42; refine (left_any hR).mono ?_; rintro e w' ⟨rfl, k, rfl⟩)
  go_ret2
  exact ⟨rfl, _, rfl⟩

/-- The next m bytes, as they lie, were read. -/
def Next (w w' : World) (p : Nat) (A : Option Addr) (n c rd m : Nat) (l : List UInt8) (e : Ending) : Prop :=
  ∃ A' c', e = .returned (.tuple #[.slice A' m c', .int .i64 0]) ∧ RdB w' A' m ((l.drop rd).take m) ∧ (∀ a, A' = some a → ∃ a0, A = some a0 ∧ a.block = a0.block) ∧ m ≤ c' ∧ c' ≤ c ∧
    Rdr w' p A n c (rd + m) l ∧ w.grownBy w' (some p)

theorem next_ok {w : World} {p : Nat} {A : Option Addr} {n c rd m : Nat} {l : List UInt8} (hR : Rdr w p A n c rd l) (h1 : rd + m ≤ n) :
    Calls Try.prog 58 #[.pointer (some ⟨p, 0, none⟩), .int .i64 m] w fun e w' => Next w w' p A n c rd m l e := by
  have c0 := hR.c0
  have c1 := hR.c1
  have f1 := hR.f1
  have hcap := hR.cap
  have hlim := hR.lim
  have hfin : ∀ k : Nat, Next w ((w.drewN k).setCell ⟨p, 1, none⟩ (.int .i64 ((rd : Int) + (m : Int)))) p A n c rd m l (.returned (.tuple #[.slice (if c = rd then A else A.map (·.add rd)) m (c - rd), .int .i64 0])) := fun k => by
    have hmv := hR.move k m h1
    have hg := grown_set w k p 1 (.int .i64 ((rd + m : Nat) : Int))
    rw [Int.natCast_add] at hmv hg
    exact ⟨_, _, rfl, (hR.rdb.cut rd m c h1 hcap).grown hg (fun hm a ha e => by
      obtain ⟨a0, h0, h0'⟩ := cut_block c rd a ha
      exact hR.ne (by omega) a0 h0 (by injection e with e; omega)), cut_block c rd, by omega, by omega, hmv, hg⟩
  have HF := hid hfin
  clear hfin
  go_enter Try.func58, Try.ntmps58
  go_wp2_with (go_at_call 42; refine (left_any hR).mono ?_; rintro e w' ⟨rfl, k, rfl⟩)
  go_quiet (fail)
  have HN := hid (HF.out (k + nq))
  clear HF
  go_wp2
  all_goals
    go_ret2
    have := HN.out
    first
      | (have e : c = rd := by assumption
         rw [if_pos e, e, Nat.sub_self] at this
         exact this)
      | (have e : ¬ c = rd := by assumption
         rw [if_neg e] at this
         exact this)

end Go.Proofs.Ytmbbjhlpfgpibaa
