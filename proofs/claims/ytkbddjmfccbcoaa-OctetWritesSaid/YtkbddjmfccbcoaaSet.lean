/- The call Set of octet's writer. -/
import Derived.Test.YtkbddjmfccbcoaaWtr
namespace Go.Proofs.Ytkbddjmfccbcoaa
open Go.RowKit

theorem set_no {w : World} {base p : Nat} {A : Option Addr} {c most : Nat} {l : List UInt8} (hW : Wtr w base p A c most l) (i : Int) (A0 : Option Addr) (m c0 : Nat) (hi : i < 0 ∨ (l.length : Int) < i ∨ (l.length : Int) - i < m) (hm : m ≤ 9223372036854775807) (hi2 : i ≤ 9223372036854775807) :
    Calls Try.prog 33 #[.pointer (some ⟨p, 0, none⟩), .int .i64 i, .slice A0 m c0] w fun e w' => e = .returned (.int .i64 1) ∧ w = w' := by
  have k0 := hW.c0
  have hle := hW.le
  have hlim := hW.lim
  by_cases h0 : i < 0
  · have d0 : decide (i < 0) = true := by simpa using h0
    go_enter Try.func33, Try.ntmps33
    go_wp2
    go_ret
    exact ⟨rfl, rfl⟩
  · have d0 : decide (i < 0) = false := by simpa using h0
    have g0 : 0 ≤ i := by omega
    by_cases h1 : (l.length : Int) < i
    · have d1 : decide ((l.length : Int) < i) = true := by simpa using h1
      go_enter Try.func33, Try.ntmps33
      go_wp2
      go_ret
      exact ⟨rfl, rfl⟩
    · have d1 : decide ((l.length : Int) < i) = false := by simpa using h1
      have h2 : (l.length : Int) - i < m := by omega
      have d2 : decide ((l.length : Int) - i < (m : Int)) = true := by simpa using h2
      go_enter Try.func33, Try.ntmps33
      go_wp2
      go_ret
      exact ⟨rfl, rfl⟩

/-- l, but X from place i on. -/
def laid (l X : List UInt8) (i : Nat) : List UInt8 := l.take i ++ (X ++ l.drop (i + X.length))
theorem laid_len (l X : List UInt8) (i : Nat) (h : i + X.length ≤ l.length) : (laid l X i).length = l.length := by simp [laid]; omega

theorem splice_front {α : Type} (M R X : List α) (i : Nat) (h : i + X.length ≤ M.length) : splice (M ++ R) i X = splice M i X ++ R := by
  unfold splice
  rw [List.take_append_of_le_length (by omega), List.drop_append_of_le_length h]
  simp
theorem splice_laid (l X : List UInt8) (i : Nat) : splice (l.map isB) i (X.map isB) = (laid l X i).map isB := by
  simp [splice, laid]

theorem own_laid {w' : World} {base g cap i : Nat} {cur : Array Value} {l X : List UInt8} (hb : base ≤ g) (hn : l.length ≤ cap) (hc : cap ≤ maxLen) (hs : cur.size = cap * 1) (ht : cur.toList.take (l.length * 1) = l.map isB)
    (hi : i + X.length ≤ l.length) (hG : Blk w' g 5 (splice cur.toList i (X.map isB))) :
    w'.ownsRow base 5 1 (.slice (some ⟨g, 0, none⟩) (laid l X i).length cap) (laid l X i).length ((laid l X i).map isB) := by
  have hsz : (splice cur.toList i (X.map isB)).length = cap := by rw [length_splice _ _ _ (by simp [hs]; omega)]; simpa using hs
  rw [laid_len l X i hi]
  refine ⟨by simp [laid_len l X i hi], .inr ⟨g, cap, _, rfl, hb, hG, hn, hc, by simpa using hsz, ?_⟩⟩
  rw [Nat.mul_one] at ht ⊢
  have e : cur.toList = l.map isB ++ cur.toList.drop l.length := by rw [← ht, List.take_append_drop]
  rw [show (splice cur.toList i (X.map isB)).toArray.toList = splice cur.toList i (X.map isB) from rfl, e, splice_front _ _ _ _ (by simpa using hi), splice_laid,
    List.take_append_of_le_length (by rw [List.length_map, laid_len l X i hi]; exact Nat.le_refl _), List.take_of_length_le (by rw [List.length_map, laid_len l X i hi]; exact Nat.le_refl _)]

theorem set_ok {w : World} {base p : Nat} {A : Option Addr} {c most : Nat} {l : List UInt8} (hW : Wtr w base p A c most l) (i : Nat) (A0 : Option Addr) (m c0 : Nat) (X : List UInt8) (hX : RdB w A0 m X) (hi : i + m ≤ l.length) :
    Calls Try.prog 33 #[.pointer (some ⟨p, 0, none⟩), .int .i64 i, .slice A0 m c0] w fun e w' => e = .returned (.int .i64 0) ∧ Wtr w' base p A c most (laid l X i) ∧ Chg w w' (Wown p A) := by
  have k0 := hW.c0
  have hle := hW.le
  have hlim := hW.lim
  have HX := hid hX.1
  have d0 : decide ((i : Int) < 0) = false := by simp
  have d1 : decide ((l.length : Int) < i) = false := by simp; omega
  have d2 : decide ((l.length : Int) - i < (m : Int)) = false := by simp; omega
  have hne := hW.ne
  have hown := hW.own
  have HF : Hid (∀ (g : Nat) (cur : Array Value) (w' : World), A = some ⟨g, 0, none⟩ → base ≤ g → l.length ≤ c → c ≤ maxLen → cur.size = c * 1 → cur.toList.take (l.length * 1) = l.map isB → Hid (Blk w' g 5 (splice cur.toList i (X.map isB))) → w.grownBy w' (some g) →
      Wtr w' base p A c most (laid l X i) ∧ Chg w w' (Wown p A)) := by
    intro g cur w' hA hb hn hc hs ht hG hg
    subst hA
    have hl := laid_len l X i (by rw [HX.out]; exact hi)
    have ho := own_laid hb hn hc hs ht (by rw [HX.out]; exact hi) hG.out
    have hch : Chg w w' (Wown p (some ⟨g, 0, none⟩)) := (Chg.of_grown hg).more (fun k _ e => .inr (by rw [← e]; rfl))
    refine ⟨⟨?_, ho, by rw [hl]; exact hle, hlim, hW.base⟩, hch⟩
    rw [hl]
    exact hW.blk.grown hg (fun e => hne (by rw [e]; rfl))
  rcases hown.2 with ⟨hv, h0⟩ | ⟨g, cap, cur, hv, hb, hg, hnc, hcm, hcs, ht⟩
  · injection hv with hA _ hc
    subst hA hc
    have hm0 : m = 0 := by omega
    have hi0 : i = 0 := by omega
    subst hm0 hi0
    have HL := hid h0
    have hl : l = [] := List.eq_nil_of_length_eq_zero h0
    have hX0 : X = [] := List.eq_nil_of_length_eq_zero HX.out
    have hfin : Wtr w base p none 0 most (laid l X 0) := by rw [hl, hX0]; rw [hl] at hW; exact hW
    have HFin := hid hfin
    subst hl
    clear hX0 hfin HF hown
    go_enter Try.func33, Try.ntmps33
    go_wp2_with (with_reducible refine wpList_copy_nothing rfl (.tmp 35) (.tmp 36) _ _ rfl 5 Try.underlying24 bsize _ _ _ _ _ _ rfl rfl (Nat.zero_min _) ?_)
    go_ret
    exact ⟨rfl, HFin.out, Chg.refl _ _⟩
  · injection hv with hA _ hc
    subst hA hc
    have HF' := HF.out g cur
    have HFF := hid (fun w' => HF' w' rfl hb hnc hcm hcs ht)
    have hgb : Blk w g 5 cur.toList := by simpa [Blk] using hg
    have hcm' : c ≤ 9223372036854775807 := by simpa [maxLen] using hcm
    have hsz : c ≤ cur.size := by omega
    clear ht hcs hg hown hcm HF HF'
    by_cases hci : c = i
    · have hm0 : m = 0 := by omega
      subst hm0 hci
      go_enter Try.func33, Try.ntmps33
      go_wp2_with (with_reducible refine wpList_copyB rfl (.tmp 35) (.tmp 36) rfl _ _ _ rfl _ _ _ rfl g c cur.toList hgb X hX (fun h => absurd h (by omega)) (Nat.zero_le _) ?hf ?_)
      try (case hf => omega)
      intro w2 HG hg2
      have HR := HFF.out w2 HG hg2
      go_wp2
      go_ret
      exact ⟨rfl, HR⟩
    · have hmi : m ≤ l.length - i := by omega
      have hfit : i + m ≤ cur.toList.length := by rw [Array.length_toList]; omega
      go_enter Try.func33, Try.ntmps33
      go_wp2_with (with_reducible refine wpList_copyB rfl (.tmp 35) (.tmp 36) rfl _ _ _ rfl _ _ _ rfl g i cur.toList hgb X hX ?hD hmi hfit ?_)
      intro w2 HG hg2
      have HR := HFF.out w2 HG hg2
      go_wp2
      go_ret
      exact ⟨rfl, HR⟩
end Go.Proofs.Ytkbddjmfccbcoaa
