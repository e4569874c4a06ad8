/- spec: plain mathematics: types, each of which is a part of one other, or has a name. -/
import Derived.Test.YthjfhenldkihkaaBase
namespace Go.Proofs.Ythjfhenldkihkaa
set_option linter.unusedSimpArgs false
set_option linter.unusedVariables false

/-- A type and all of which it is made, from the front on. -/
def subF (pt : Nat → List Int) : Nat → Nat → List Nat
  | 0, _ => []
  | k + 1, x => x :: (pt x).flatMap (fun p => subF pt k p.toNat)
def sub (pt : Nat → List Int) (x : Nat) : List Nat := subF pt (x + 1) x
/-- Types that may be, by their form. -/
structure Val (n : Nat) (pt : Nat → List Int) (rs : List Int) : Prop where
  lt : ∀ i, i < n → ∀ p ∈ pt i, 0 ≤ p ∧ p.toNat < i
  nd : ((List.range n).flatMap pt ++ rs).Nodup
  inb : ∀ p ∈ rs, 0 ≤ p ∧ p.toNat < n
  all : ∀ i, i < n → (i : Int) ∈ (List.range n).flatMap pt ++ rs

section
variable {n : Nat} {pt : Nat → List Int} {rs : List Int}
theorem flatMap_congr' {α β : Type} {l : List α} {f g : α → List β} (h : ∀ a ∈ l, f a = g a) : l.flatMap f = l.flatMap g := by
  induction l with
  | nil => rfl
  | cons a l ih => rw [List.flatMap_cons, List.flatMap_cons, h a List.mem_cons_self, ih (fun b hb => h b (List.mem_cons_of_mem _ hb))]
theorem subF_eq (H : Val n pt rs) : ∀ (x k : Nat), x < n → x < k → subF pt k x = sub pt x := by
  intro x
  induction x using Nat.strongRecOn with
  | _ x ih =>
    intro k hx hk
    obtain ⟨k, rfl⟩ : ∃ j, k = j + 1 := ⟨k - 1, by omega⟩
    unfold sub
    show x :: _ = x :: _
    congr 1
    refine flatMap_congr' (fun p hp => ?_)
    have := H.lt x hx p hp
    rw [ih p.toNat this.2 k (by omega) (by omega), ih p.toNat this.2 x (by omega) (by omega)]
theorem sub_eq (H : Val n pt rs) (x : Nat) (hx : x < n) : sub pt x = x :: (pt x).flatMap (fun p => sub pt p.toNat) := by
  show x :: _ = x :: _
  congr 1
  refine flatMap_congr' (fun p hp => ?_)
  have := H.lt x hx p hp
  exact subF_eq H p.toNat x (by omega) (by omega)
theorem mem_sub (H : Val n pt rs) {x z : Nat} (hx : x < n) : z ∈ sub pt x ↔ z = x ∨ ∃ p ∈ pt x, z ∈ sub pt p.toNat := by
  rw [sub_eq H x hx, List.mem_cons, List.mem_flatMap]
theorem sub_self (H : Val n pt rs) {x : Nat} (hx : x < n) : x ∈ sub pt x := (mem_sub H hx).2 (.inl rfl)
theorem sub_le (H : Val n pt rs) : ∀ (x z : Nat), x < n → z ∈ sub pt x → z ≤ x := by
  intro x
  induction x using Nat.strongRecOn with
  | _ x ih =>
    intro z hx hz
    rcases (mem_sub H hx).1 hz with rfl | ⟨p, hp, hz⟩
    · omega
    · have := H.lt x hx p hp
      have := ih p.toNat this.2 z (by omega) hz
      omega
theorem sub_up (H : Val n pt rs) : ∀ (x z : Nat), x < n → z ∈ sub pt x → z = x ∨ ∃ y ∈ sub pt x, (z : Int) ∈ pt y := by
  intro x
  induction x using Nat.strongRecOn with
  | _ x ih =>
    intro z hx hz
    rcases (mem_sub H hx).1 hz with rfl | ⟨p, hp, hz⟩
    · exact .inl rfl
    · have hl := H.lt x hx p hp
      right
      rcases ih p.toNat hl.2 z (by omega) hz with rfl | ⟨y, hy, hz⟩
      · exact ⟨x, sub_self H hx, by rw [Int.toNat_of_nonneg hl.1]; exact hp⟩
      · exact ⟨y, (mem_sub H hx).2 (.inr ⟨p, hp, hy⟩), hz⟩
theorem sub_down (H : Val n pt rs) : ∀ (x y : Nat), x < n → y ∈ sub pt x → ∀ p ∈ pt y, p.toNat ∈ sub pt x := by
  intro x
  induction x using Nat.strongRecOn with
  | _ x ih =>
    intro y hx hy p hp
    rcases (mem_sub H hx).1 hy with rfl | ⟨q, hq, hz⟩
    · have hl := H.lt y hx p hp
      exact (mem_sub H hx).2 (.inr ⟨p, hp, sub_self H (by omega)⟩)
    · have hl := H.lt x hx q hq
      exact (mem_sub H hx).2 (.inr ⟨q, hq, ih q.toNat hl.2 y (by omega) hz p hp⟩)
theorem val_parts (H : Val n pt rs) : ((List.range n).flatMap pt).Nodup := (List.nodup_append.1 H.nd).1
theorem pt_nodup (H : Val n pt rs) {x : Nat} (hx : x < n) : (pt x).Nodup := by
  have h := val_parts H
  unfold List.Nodup at h
  rw [List.pairwise_flatMap] at h
  exact h.1 x (List.mem_range.2 hx)
theorem pt_uniq (H : Val n pt rs) {x y : Nat} (hx : x < n) (hy : y < n) {p : Int} (h1 : p ∈ pt x) (h2 : p ∈ pt y) : x = y := by
  have h := val_parts H
  unfold List.Nodup at h
  rw [List.pairwise_flatMap] at h
  have h3 := List.pairwise_iff_getElem.1 h.2
  rcases Nat.lt_trichotomy x y with e | e | e
  · exact absurd rfl (h3 x y (by simpa using hx) (by simpa using hy) e p (by simpa using h1) p (by simpa using h2))
  · exact e
  · exact absurd rfl (h3 y x (by simpa using hy) (by simpa using hx) e p (by simpa using h2) p (by simpa using h1))
theorem sub_meet (H : Val n pt rs) {x y : Nat} (hx : x < n) (hy : y < n) : ∀ (k z : Nat), n - z ≤ k → z ∈ sub pt x → z ∈ sub pt y → x ∈ sub pt y ∨ y ∈ sub pt x := by
  intro k
  induction k with
  | zero =>
    intro z hk h1 h2
    have := sub_le H x z hx h1
    omega
  | succ k ih =>
    intro z hk h1 h2
    rcases sub_up H x z hx h1 with rfl | ⟨a, ha, ha2⟩
    · exact .inl h2
    · rcases sub_up H y z hy h2 with rfl | ⟨b, hb, hb2⟩
      · exact .inr h1
      · have la := sub_le H x a hx ha
        have lb := sub_le H y b hy hb
        have e := pt_uniq H (by omega) (by omega) ha2 hb2
        subst e
        have := (H.lt a (by omega) _ ha2).2
        exact ih a (by omega) ha hb
theorem sub_sibs (H : Val n pt rs) {x : Nat} (hx : x < n) {p q : Int} (hp : p ∈ pt x) (hq : q ∈ pt x) (hne : p ≠ q) (z : Nat) (h1 : z ∈ sub pt p.toNat) (h2 : z ∈ sub pt q.toNat) : False := by
  have lp := H.lt x hx p hp
  have lq := H.lt x hx q hq
  have key : ∀ p q : Int, p ∈ pt x → q ∈ pt x → p ≠ q → 0 ≤ p ∧ p.toNat < x → 0 ≤ q ∧ q.toNat < x → p.toNat ∈ sub pt q.toNat → False := by
    intro p q hp hq hne lp lq h
    rcases sub_up H q.toNat p.toNat (by omega) h with e | ⟨y, hy, hy2⟩
    · omega
    · rw [Int.toNat_of_nonneg lp.1] at hy2
      have ly := sub_le H _ y (by omega) hy
      have := pt_uniq H hx (by omega) hp hy2
      omega
  rcases sub_meet H (x := p.toNat) (y := q.toNat) (by omega) (by omega) (n - z) z (Nat.le_refl _) h1 h2 with h | h
  · exact key p q hp hq hne lp lq h
  · exact key q p hq hp (Ne.symm hne) lq lp h
theorem sub_roots (H : Val n pt rs) {p q : Int} (hp : p ∈ rs) (hq : q ∈ rs) (hne : p ≠ q) (z : Nat) (h1 : z ∈ sub pt p.toNat) (h2 : z ∈ sub pt q.toNat) : False := by
  have key : ∀ p q : Int, p ∈ rs → q ∈ rs → p ≠ q → p.toNat ∈ sub pt q.toNat → False := by
    intro p q hp hq hne h
    have lp := H.inb p hp
    have lq := H.inb q hq
    rcases sub_up H q.toNat p.toNat lq.2 h with e | ⟨y, hy, hy2⟩
    · omega
    · rw [Int.toNat_of_nonneg lp.1] at hy2
      have ly := sub_le H _ y (by omega) hy
      exact (List.nodup_append.1 H.nd).2.2 p (List.mem_flatMap.2 ⟨y, List.mem_range.2 (by omega), hy2⟩) p hp rfl
  have lp := H.inb p hp
  have lq := H.inb q hq
  rcases sub_meet H lp.2 lq.2 (n - z) z (Nat.le_refl _) h1 h2 with h | h
  · exact key p q hp hq hne h
  · exact key q p hq hp (Ne.symm hne) h
theorem sub_nodup (H : Val n pt rs) : ∀ x, x < n → (sub pt x).Nodup := by
  intro x
  induction x using Nat.strongRecOn with
  | _ x ih =>
    intro hx
    rw [sub_eq H x hx, List.nodup_cons]
    refine ⟨fun h => ?_, ?_⟩
    · obtain ⟨p, hp, hz⟩ := List.mem_flatMap.1 h
      have hl := H.lt x hx p hp
      have := sub_le H p.toNat x (by omega) hz
      omega
    · unfold List.Nodup
      rw [List.pairwise_flatMap]
      refine ⟨fun p hp => ih p.toNat (H.lt x hx p hp).2 (by have := H.lt x hx p hp; omega), ?_⟩
      refine List.pairwise_iff_getElem.2 (fun i j hi hj hij a ha b hb hab => ?_)
      subst hab
      exact sub_sibs H hx (List.getElem_mem hi) (List.getElem_mem hj) (List.pairwise_iff_getElem.1 (pt_nodup H hx) i j hi hj hij) a ha hb
theorem roots_nodup (H : Val n pt rs) : (rs.flatMap (fun p => sub pt p.toNat)).Nodup := by
  unfold List.Nodup
  rw [List.pairwise_flatMap]
  refine ⟨fun p hp => sub_nodup H _ (H.inb p hp).2, ?_⟩
  refine List.pairwise_iff_getElem.2 (fun i j hi hj hij a ha b hb hab => ?_)
  subst hab
  exact sub_roots H (List.getElem_mem hi) (List.getElem_mem hj) (List.pairwise_iff_getElem.1 (List.nodup_append.1 H.nd).2.1 i j hi hj hij) a ha hb
theorem roots_cover (H : Val n pt rs) : ∀ (k i : Nat), n - i ≤ k → i < n → i ∈ rs.flatMap (fun p => sub pt p.toNat) := by
  intro k
  induction k with
  | zero => intro i h1 h2; omega
  | succ k ih =>
    intro i h1 h2
    rcases List.mem_append.1 (H.all i h2) with h | h
    · obtain ⟨y, hy, hp⟩ := List.mem_flatMap.1 h
      have hy := List.mem_range.1 hy
      have hl := H.lt y hy _ hp
      obtain ⟨r, hr, hz⟩ := List.mem_flatMap.1 (ih y (by omega) hy)
      exact List.mem_flatMap.2 ⟨r, hr, by have := sub_down H _ y (H.inb r hr).2 hz _ hp; simpa using this⟩
    · exact List.mem_flatMap.2 ⟨_, h, by have := sub_self H (H.inb _ h).2; simpa using this⟩
end
end Go.Proofs.Ythjfhenldkihkaa
