/- What a law is told of a slice of slices of bytes that came in, and what that gives. -/
import Derived.Test.YtmbbjhlpfgpibaaRow
import Derived.Deep.Matrix
namespace Go.Proofs.Ytmbbjhlpfgpibaa
open Go.ChangeShapes Go.WideShapes Go.ChangeAt Go.RowKit Go.Deep

/-- The slice value 'a, len, cap' is nil, or leads to 'cap' slices of bytes. -/
def IsRows (w : World) (a : Option Addr) (len cap : Nat) : Prop :=
  (a = none ∧ len = 0 ∧ cap = 0) ∨
  ∃ (x : Addr) (A : Nat → Option Addr) (L C : Nat → Nat) (Z : Nat → List Int), a = some x ∧ len ≤ cap ∧ cap ≤ maxLen ∧ ∀ r, r < cap → w.cell? (x.add r) = some (.slice (A r) (L r) (C r)) ∧ IsRow .u8 w (A r) (L r) (C r) (Z r)

/-- The bytes of each of m slices, where they lie. -/
def RdG (w : World) (B : Option Addr) (m : Nat) (ls : Nat → List UInt8) : Prop :=
  0 < m → ∃ b o, B = some ⟨b, o, none⟩ ∧ b < w.heap.size ∧ ∀ r, r < m → ∃ A n c, w.cell? ⟨b, o + r, none⟩ = some (.slice A n c) ∧ RdB w A n (ls r) ∧ n ≤ c ∧ c ≤ 9223372036854775807

theorem IsRows.grid {w : World} {a : Option Addr} {len cap : Nat} (h : IsRows w a len cap) : ∃ ls, RdG w a len ls := by
  rcases h with ⟨rfl, rfl, rfl⟩ | ⟨x, A, L, C, Z, rfl, hl, hm, hr⟩
  · exact ⟨fun _ => [], fun h => absurd h (by omega)⟩
  · obtain ⟨ls, hls⟩ := choose_lt (n := cap) (p := fun r l => RdB w (A r) (L r) l) (fun r hlt => (hr r hlt).2.bytes)
    refine ⟨ls, fun h0 => ?_⟩
    obtain ⟨b, o, spot⟩ := x
    have h0' := (hr 0 (by omega)).1
    have hs : spot = none := by simpa [Addr.add] using World.cell?_spot h0'
    subst hs
    refine ⟨b, o, rfl, by simpa [Addr.add] using World.block_lt_of_cell? _ _ h0', fun r hlt => ⟨A r, L r, C r, ?_, hls r (by omega), ((hr r (by omega)).2.cap).1, ((hr r (by omega)).2.cap).2⟩⟩
    have h1 := (hr r (by omega)).1
    rwa [addr_add] at h1

theorem RdG.below {w w' : World} {B : Option Addr} {m : Nat} {ls : Nat → List UInt8} (h : RdG w B m ls) (hb : Below w.heap.size w w') : RdG w' B m ls := by
  intro h0
  obtain ⟨b, o, rfl, hlt, hr⟩ := h h0
  refine ⟨b, o, rfl, Nat.lt_of_lt_of_le hlt hb.size, fun r hm => ?_⟩
  obtain ⟨A, n, c, hc, hR, h1, h2⟩ := hr r hm
  exact ⟨A, n, c, (World.cell?_of_block (w := w) (w' := w') (a := ⟨b, o + r, none⟩) (hb.block b hlt)).trans hc, hR.below hb, h1, h2⟩

theorem rows_of_open {w : World} {base : Nat} {x : Addr} {len cap : Nat} {A : Nat → Option Addr} {L C : Nat → Nat} {Z : Nat → List Int} (hl : len ≤ cap) (hm : cap ≤ maxLen)
    (h : ∀ r, r < cap → w.cell? (x.add r) = some (.slice (A r) (L r) (C r)) ∧ L r ≤ C r ∧ C r ≤ maxLen ∧ (Z r).length = C r ∧ (∀ n ∈ Z r, (Lit.int .u8 n).wf = true) ∧ (A r = none → C r = 0) ∧
      ∀ a', A r = some a' → base ≤ a'.block ∧ ∀ c, c < C r → w.cell? (a'.add c) = some (.int .u8 ((Z r).getD c 0))) : IsRows w (some x) len cap := by
  refine .inr ⟨x, A, L, C, Z, rfl, hl, hm, fun r hr => ⟨(h r hr).1, ?_⟩⟩
  obtain ⟨_, h1, h2, h3, h4, h5, h6⟩ := h r hr
  cases hA : A r with
  | none =>
    have hC := h5 hA
    exact .inl ⟨rfl, by omega, hC, List.length_eq_zero_iff.1 (by omega)⟩
  | some a' => exact .inr ⟨a', rfl, h1, h2, h3, fun i hi => (h6 a' hA).2 i (by omega), h4⟩
end Go.Proofs.Ytmbbjhlpfgpibaa
