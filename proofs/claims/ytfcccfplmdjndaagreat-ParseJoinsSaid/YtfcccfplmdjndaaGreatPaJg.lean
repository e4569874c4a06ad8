/- parse: a fault stays, and what was built stays built. -/
import Derived.Test.YtfcccfplmdjndaaGreatPaEw
namespace Go.Proofs.YtfcccfplmdjndaaGreat
set_option linter.unusedSimpArgs false
set_option linter.unusedVariables false

structure Go1 (s s' : RS) : Prop where
 st : s.fc ≠ 0 → s'.fc = s.fc
 ns : s.ns <+: s'.ns
 ds : s.ds <+: s'.ds
theorem Go1.refl (s : RS) : Go1 s s := ⟨fun _ => rfl, List.prefix_refl _, List.prefix_refl _⟩
theorem Go1.trans {a b c : RS} (h : Go1 a b) (k : Go1 b c) : Go1 a c :=
 ⟨fun x => by rw [k.st (by rw [h.st x]; exact x), h.st x], h.ns.trans k.ns, h.ds.trans k.ds⟩
theorem go_fail (c : Nat) (s : RS) : Go1 s (failP c s) := ⟨fun h => if_neg h, List.prefix_refl _, List.prefix_refl _⟩
theorem go_owe (c : Nat) (s : RS) : Go1 s (oweP c s) := ⟨fun _ => rfl, List.prefix_refl _, List.prefix_refl _⟩
theorem go_pass (s : RS) : Go1 s (passP s) := by
 unfold passP
 split
 ·exact go_fail _ s
 ·split
  ·exact ⟨fun _ => rfl, List.prefix_refl _, List.prefix_refl _⟩
  ·exact .refl s
theorem go_took (k : Nat) (x : List UInt8) (s : RS) : Go1 s (tookP k x s).2 := by
 unfold tookP
 split
 ·exact go_pass s
 ·exact .refl s
theorem go_sign (x : List UInt8) (s : RS) : Go1 s (signP x s) := by
 unfold signP
 split
 ·exact go_pass s
 ·exact go_fail _ s
theorem go_name (s : RS) : Go1 s (nameP s).2 := by
 unfold nameP
 split
 ·exact go_fail _ s
 ·exact go_pass s
theorem go_num (a b : Nat) (s : RS) : Go1 s (numP a b s).2 := by
 unfold numP
 split
 ·exact go_fail _ s
 ·split
  ·exact (go_fail _ s).trans (go_pass _)
  ·split
   ·exact go_pass s
   ·exact (go_fail _ s).trans (go_pass _)
theorem go_room (m : Nat) (s : RS) : Go1 s (roomP m s) := by
 unfold roomP
 split
 ·exact go_owe _ s
 ·exact .refl s
theorem go_ranged (n : NT) (s : RS) : Go1 s (rangedP n s).2 := by
 unfold rangedP
 split
 ·exact ((go_num _ _ s).trans (go_sign _ _)).trans (go_num _ _ _)
 ·exact .refl s
theorem go_reckB (m : Nat) (s : RS) : Go1 s (reckB m s).2 := by
 have h := (go_name s).trans (go_took 4 [43] (nameP s).2)
 unfold reckB
 simp only
 split
 ·exact h.trans (go_num _ _ _)
 ·exact h
theorem go_reck (s : RS) : Go1 s (reckP s).2 := by
 have h := (go_num 0 uMax s).trans (go_took 4 [42] (numP 0 uMax s).2)
 unfold reckP
 split
 ·simp only
  split
  ·split
   ·exact (h.trans (go_owe _ _)).trans (go_reckB _ _)
   ·exact h.trans (go_reckB _ _)
  ·exact h
 ·exact go_reckB _ _
theorem go_often (s : RS) : Go1 s (oftenP s).2 := ((go_sign [91] s).trans (go_reck _)).trans (go_sign [93] _)
theorem go_derive (s : RS) : Go1 s (deriveP s).2 := by
 have hd : Go1 s (if (tookP 1 s_size s).1 = true then ((1 : Int), (tookP 1 s_size s).2) else if (tookP 1 s_count s).1 = true then (2, (tookP 1 s_count s).2) else if (tookP 1 s_crc s).1 = true then (3, (tookP 1 s_crc s).2) else (0, failP 5 s)).2 := by
  split
  ·exact go_took _ _ s
  ·split
   ·exact go_took _ _ s
   ·split
    ·exact go_took _ _ s
    ·exact go_fail _ s
 unfold deriveP
 simp only
 generalize (if (tookP 1 s_size s).1 = true then ((1 : Int), (tookP 1 s_size s).2) else if (tookP 1 s_count s).1 = true then (2, (tookP 1 s_count s).2) else if (tookP 1 s_crc s).1 = true then (3, (tookP 1 s_crc s).2) else (0, failP 5 s)) = d at *
 have h := (hd.trans (go_sign [40] d.2)).trans (go_name _)
 split
 ·exact ((h.trans (go_sign _ _)).trans (go_name _)).trans (go_sign _ _)
 ·exact h.trans (go_sign _ _)
section
variable {K : RS → Int × RS} (hK : ∀ s : RS, Go1 s (K s).2)
include hK
theorem go_told (s : RS) : Go1 s (toldP K s).2 := ((go_sign [58] s).trans (hK _)).trans (go_sign [59] _)
theorem go_field (s : RS) : Go1 s (fieldP K s).2 := by
 unfold fieldP
 simp only
 have h := (((go_name s).trans (go_sign [58] _)).trans (hK _)).trans (go_took 4 [61] _)
 split
 ·exact (h.trans (go_derive _)).trans (go_sign [59] _)
 ·exact h.trans (go_sign [59] _)
theorem go_fields : ∀ (m : Nat) (fs : List FT) (s : RS), Go1 s (fieldsP K m fs s).2
 | 0, fs, s => .refl s
 | m + 1, fs, s => by
  unfold fieldsP
  have h := (go_room fs.length s).trans (go_field hK _)
  simp only
  split
  ·exact h.trans (go_fields m _ _)
  ·exact h
theorem go_record (s : RS) : Go1 s (recordP K s).2 := (go_fields hK s.ts.length [] s).trans (go_sign [125] _)
theorem go_cases : ∀ (m : Nat) (cs : List CT) (s : RS), Go1 s (casesP K m cs s).2
 | 0, cs, s => .refl s
 | m + 1, cs, s => by
  unfold casesP
  have h := ((go_room cs.length s).trans (go_num 0 uMax _)).trans (go_told hK _)
  simp only
  split
  ·exact h.trans (go_cases m _ _)
  ·exact h
theorem go_choose (s : RS) : Go1 s (chooseP K s).2 := by
 unfold chooseP
 simp only
 have h2 := (go_name s).trans (go_took 4 [37] _)
 have h3 : Go1 s (if (tookP 4 [37] (nameP s).2).1 = true then numP 1 uMax (tookP 4 [37] (nameP s).2).2 else (0, (tookP 4 [37] (nameP s).2).2)).2 := by
  split
  ·exact h2.trans (go_num _ _ _)
  ·exact h2
 generalize (if (tookP 4 [37] (nameP s).2).1 = true then numP 1 uMax (tookP 4 [37] (nameP s).2).2 else (0, (tookP 4 [37] (nameP s).2).2)) = c at *
 have h6 := ((h3.trans (go_sign [123] _)).trans (go_cases hK (signP [123] c.2).ts.length [] _)).trans (go_took 1 s_else _)
 split
 ·exact (h6.trans (go_told hK _)).trans (go_sign [125] _)
 ·exact h6.trans (go_sign [125] _)
theorem go_kids (chain : Bool) : ∀ (m : Nat) (ls : List Bool) (ks : List Int) (s : RS), Go1 s (kidsP K chain m ls ks s).2
 | 0, ls, ks, s => .refl s
 | m + 1, ls, ks, s => by
  unfold kidsP
  simp only
  have h1 := go_room ks.length s
  have h2 : Go1 s (if chain = true then (ls ++ [(tookP 1 s_last (roomP ks.length s)).1], (tookP 1 s_last (roomP ks.length s)).2) else (ls, roomP ks.length s)).2 := by
   split
   ·exact h1.trans (go_took _ _ _)
   ·exact h1
  generalize (if chain = true then (ls ++ [(tookP 1 s_last (roomP ks.length s)).1], (tookP 1 s_last (roomP ks.length s)).2) else (ls, roomP ks.length s)) = b at *
  have h4 := (h2.trans (hK _)).trans (go_took 4 [124] _)
  split
  ·exact h4.trans (go_kids chain m _ _ _)
  ·exact h4
theorem go_among (chain : Bool) (s : RS) : Go1 s (amongP K chain s).2 :=
 ((go_sign [123] s).trans (go_kids hK chain (signP [123] s).ts.length [] [] _)).trans (go_sign [125] _)
theorem go_named (x : List UInt8) (s : RS) : Go1 s (namedP K x s).2 := by
 unfold namedP
 split
 ·exact go_ranged _ s
 ·have ho := go_often s
  split
  ·exact (go_took 1 s_lenient s).trans (go_ranged _ _)
  ·split
   ·exact ho
   ·split
    ·exact ho.trans (hK _)
    ·split
     ·exact ho.trans (hK _)
     ·split
      ·exact hK s
      ·split
       ·exact go_choose hK s
       ·split
        ·exact go_among hK false s
        ·split
         ·exact go_among hK true s
         ·split <;> exact .refl s
theorem go_node (s : RS) : Go1 s (nodeP K s).2 := by
 unfold nodeP
 have hp := go_pass s
 split
 ·exact hp
 ·split
  ·exact hp.trans (go_named hK _ _)
  ·split
   ·exact hp.trans (go_record hK _)
   ·exact go_fail _ s
theorem go_kindG (deep : Nat) (s : RS) : Go1 s (kindG K deep s).2 := by
 unfold kindG
 simp only
 have h1 : Go1 s (if 24 < deep then oweP 6 s else s) := by
  split
  ·exact go_owe _ s
  ·exact .refl s
 generalize (if 24 < deep then oweP 6 s else s) = s1 at *
 have h2 := h1.trans (go_node hK s1)
 split
 ·exact h2.trans (go_owe _ _)
 ·exact h2.trans ⟨fun _ => rfl, List.prefix_append _ _, List.prefix_refl _⟩
end
theorem go_kind : ∀ (n deep : Nat) (s : RS), Go1 s (kindP n deep s).2
 | 0, deep, s => go_fail 5 s
 | n + 1, deep, s => go_kindG (go_kind n (deep + 1)) deep s
theorem go_nameA (nm : List UInt8) (k : Int) (s : RS) : Go1 s (nameA nm k s) := by
 unfold nameA
 split
 ·exact go_owe _ s
 ·exact ⟨fun _ => rfl, List.prefix_refl _, List.prefix_append _ _⟩
theorem go_def (n : Nat) (s : RS) : Go1 s (defP n s) :=
 ((((go_name s).trans (go_sign [61] _)).trans (go_kind n 0 _)).trans (go_sign [59] _)).trans (go_nameA _ _ _)
theorem go_names (n : Nat) : ∀ (m : Nat) (s : RS), Go1 s (namesP n m s)
 | 0, s => .refl s
 | m + 1, s => by
  unfold namesP
  simp only
  split
  ·exact (go_def n s).trans (go_pass _)
  ·exact (go_def n s).trans (go_names n m _)
end Go.Proofs.YtfcccfplmdjndaaGreat

/- parse: what every step keeps: a fault, what was built, what is left; and that it came from a reader without a fault, if it has none. -/
namespace Go.Proofs.YtfcccfplmdjndaaGreat
set_option linter.unusedSimpArgs false
set_option linter.unusedVariables false

structure Wk (s s' : RS) : Prop where
 go : Go1 s s'
 suf : 0 < s.ts.length → Suf s s'
 ok : Ok s' → Ok s
theorem Wk.refl (s : RS) : Wk s s := ⟨.refl s, fun h => .refl h, id⟩
theorem Wk.trans {a b c : RS} (h : Wk a b) (k : Wk b c) : Wk a c := ⟨h.go.trans k.go, fun p => (h.suf p).trans (k.suf (h.suf p).pos), fun x => h.ok (k.ok x)⟩
theorem wk_fail {c : Nat} (hc : c ≠ 0) (s : RS) : Wk s (failP c s) := ⟨go_fail c s, fun h => suf_fail h c, (flat_fail hc s).ok⟩
theorem wk_owe {c : Nat} (hc : c ≠ 0) (s : RS) : Wk s (oweP c s) := ⟨go_owe c s, fun h => suf_owe h c, (flat_owe hc s).ok⟩
theorem wk_pass (s : RS) : Wk s (passP s) := ⟨go_pass s, fun h => suf_pass h, (flat_pass s).ok⟩
theorem wk_took (k : Nat) (x : List UInt8) (s : RS) : Wk s (tookP k x s).2 := by
 unfold tookP
 split
 ·exact wk_pass s
 ·exact .refl s
theorem wk_sign (x : List UInt8) (s : RS) : Wk s (signP x s) := by
 unfold signP
 split
 ·exact wk_pass s
 ·exact wk_fail (by decide) s
theorem wk_name (s : RS) : Wk s (nameP s).2 := by
 unfold nameP
 split
 ·exact wk_fail (by decide) s
 ·exact wk_pass s
theorem wk_num (a b : Nat) (s : RS) : Wk s (numP a b s).2 := by
 unfold numP
 split
 ·exact wk_fail (by decide) s
 ·split
  ·exact (wk_fail ‹_› s).trans (wk_pass _)
  ·split
   ·exact wk_pass s
   ·exact (wk_fail (by decide) s).trans (wk_pass _)
theorem wk_room (m : Nat) (s : RS) : Wk s (roomP m s) := by
 unfold roomP
 split
 ·exact wk_owe (by decide) s
 ·exact .refl s
theorem wk_ranged (n : NT) (s : RS) : Wk s (rangedP n s).2 := by
 unfold rangedP
 split
 ·exact ((wk_num _ _ s).trans (wk_sign _ _)).trans (wk_num _ _ _)
 ·exact .refl s
theorem wk_reckB (m : Nat) (s : RS) : Wk s (reckB m s).2 := by
 have h := (wk_name s).trans (wk_took 4 [43] (nameP s).2)
 unfold reckB
 simp only
 split
 ·exact h.trans (wk_num _ _ _)
 ·exact h
theorem wk_reck (s : RS) : Wk s (reckP s).2 := by
 have h := (wk_num 0 uMax s).trans (wk_took 4 [42] (numP 0 uMax s).2)
 unfold reckP
 split
 ·simp only
  split
  ·split
   ·exact (h.trans (wk_owe (by decide) _)).trans (wk_reckB _ _)
   ·exact h.trans (wk_reckB _ _)
  ·exact h
 ·exact wk_reckB _ _
theorem wk_often (s : RS) : Wk s (oftenP s).2 := ((wk_sign [91] s).trans (wk_reck _)).trans (wk_sign [93] _)
theorem wk_derive (s : RS) : Wk s (deriveP s).2 := by
 have hd : Wk s (if (tookP 1 s_size s).1 = true then ((1 : Int), (tookP 1 s_size s).2) else if (tookP 1 s_count s).1 = true then (2, (tookP 1 s_count s).2) else if (tookP 1 s_crc s).1 = true then (3, (tookP 1 s_crc s).2) else (0, failP 5 s)).2 := by
  split
  ·exact wk_took _ _ s
  ·split
   ·exact wk_took _ _ s
   ·split
    ·exact wk_took _ _ s
    ·exact wk_fail (by decide) s
 unfold deriveP
 simp only
 generalize (if (tookP 1 s_size s).1 = true then ((1 : Int), (tookP 1 s_size s).2) else if (tookP 1 s_count s).1 = true then (2, (tookP 1 s_count s).2) else if (tookP 1 s_crc s).1 = true then (3, (tookP 1 s_crc s).2) else (0, failP 5 s)) = d at *
 have h := (hd.trans (wk_sign [40] d.2)).trans (wk_name _)
 split
 ·exact ((h.trans (wk_sign _ _)).trans (wk_name _)).trans (wk_sign _ _)
 ·exact h.trans (wk_sign _ _)
section
variable {K : RS → Int × RS} (hK : ∀ s : RS, Wk s (K s).2)
include hK
theorem wk_around (n : NT) (s : RS) : Wk s (aroundP K n s).2 := hK s
theorem wk_told (s : RS) : Wk s (toldP K s).2 := ((wk_sign [58] s).trans (hK _)).trans (wk_sign [59] _)
theorem wk_field (s : RS) : Wk s (fieldP K s).2 := by
 unfold fieldP
 simp only
 have h := (((wk_name s).trans (wk_sign [58] _)).trans (hK _)).trans (wk_took 4 [61] _)
 split
 ·exact (h.trans (wk_derive _)).trans (wk_sign [59] _)
 ·exact h.trans (wk_sign [59] _)
theorem wk_fields : ∀ (m : Nat) (fs : List FT) (s : RS), Wk s (fieldsP K m fs s).2
 | 0, fs, s => .refl s
 | m + 1, fs, s => by
  unfold fieldsP
  have h := (wk_room fs.length s).trans (wk_field hK _)
  simp only
  split
  ·exact h.trans (wk_fields m _ _)
  ·exact h
theorem wk_record (s : RS) : Wk s (recordP K s).2 := (wk_fields hK s.ts.length [] s).trans (wk_sign [125] _)
theorem wk_cases : ∀ (m : Nat) (cs : List CT) (s : RS), Wk s (casesP K m cs s).2
 | 0, cs, s => .refl s
 | m + 1, cs, s => by
  unfold casesP
  have h := ((wk_room cs.length s).trans (wk_num 0 uMax _)).trans (wk_told hK _)
  simp only
  split
  ·exact h.trans (wk_cases m _ _)
  ·exact h
theorem wk_choose (s : RS) : Wk s (chooseP K s).2 := by
 unfold chooseP
 simp only
 have h2 := (wk_name s).trans (wk_took 4 [37] _)
 have h3 : Wk s (if (tookP 4 [37] (nameP s).2).1 = true then numP 1 uMax (tookP 4 [37] (nameP s).2).2 else (0, (tookP 4 [37] (nameP s).2).2)).2 := by
  split
  ·exact h2.trans (wk_num _ _ _)
  ·exact h2
 generalize (if (tookP 4 [37] (nameP s).2).1 = true then numP 1 uMax (tookP 4 [37] (nameP s).2).2 else (0, (tookP 4 [37] (nameP s).2).2)) = c at *
 have h6 := ((h3.trans (wk_sign [123] _)).trans (wk_cases hK (signP [123] c.2).ts.length [] _)).trans (wk_took 1 s_else _)
 split
 ·exact (h6.trans (wk_told hK _)).trans (wk_sign [125] _)
 ·exact h6.trans (wk_sign [125] _)
theorem wk_kids (chain : Bool) : ∀ (m : Nat) (ls : List Bool) (ks : List Int) (s : RS), Wk s (kidsP K chain m ls ks s).2
 | 0, ls, ks, s => .refl s
 | m + 1, ls, ks, s => by
  unfold kidsP
  simp only
  have h1 := wk_room ks.length s
  have h2 : Wk s (if chain = true then (ls ++ [(tookP 1 s_last (roomP ks.length s)).1], (tookP 1 s_last (roomP ks.length s)).2) else (ls, roomP ks.length s)).2 := by
   split
   ·exact h1.trans (wk_took _ _ _)
   ·exact h1
  generalize (if chain = true then (ls ++ [(tookP 1 s_last (roomP ks.length s)).1], (tookP 1 s_last (roomP ks.length s)).2) else (ls, roomP ks.length s)) = b at *
  have h4 := (h2.trans (hK _)).trans (wk_took 4 [124] _)
  split
  ·exact h4.trans (wk_kids chain m _ _ _)
  ·exact h4
theorem wk_among (chain : Bool) (s : RS) : Wk s (amongP K chain s).2 :=
 ((wk_sign [123] s).trans (wk_kids hK chain (signP [123] s).ts.length [] [] _)).trans (wk_sign [125] _)
theorem wk_named (x : List UInt8) (s : RS) : Wk s (namedP K x s).2 := by
 unfold namedP
 split
 ·exact wk_ranged _ s
 ·have ho := wk_often s
  split
  ·exact (wk_took 1 s_lenient s).trans (wk_ranged _ _)
  ·split
   ·exact ho
   ·split
    ·exact ho.trans (hK _)
    ·split
     ·exact ho.trans (hK _)
     ·split
      ·exact hK s
      ·split
       ·exact wk_choose hK s
       ·split
        ·exact wk_among hK false s
        ·split
         ·exact wk_among hK true s
         ·split <;> exact .refl s
theorem wk_node (s : RS) : Wk s (nodeP K s).2 := by
 unfold nodeP
 have hp := wk_pass s
 split
 ·exact hp
 ·split
  ·exact hp.trans (wk_named hK _ _)
  ·split
   ·exact hp.trans (wk_record hK _)
   ·exact wk_fail (by decide) s
theorem wk_kindG (deep : Nat) (s : RS) : Wk s (kindG K deep s).2 := by
 unfold kindG
 simp only
 have h1 : Wk s (if 24 < deep then oweP 6 s else s) := by
  split
  ·exact wk_owe (by decide) s
  ·exact .refl s
 generalize (if 24 < deep then oweP 6 s else s) = s1 at *
 have h2 := h1.trans (wk_node hK s1)
 split
 ·exact h2.trans (wk_owe (by decide) _)
 ·exact h2.trans ⟨⟨fun _ => rfl, List.prefix_append _ _, List.prefix_refl _⟩, fun h => .same h rfl rfl rfl, id⟩
end
theorem wk_kind : ∀ (n deep : Nat) (s : RS), Wk s (kindP n deep s).2
 | 0, deep, s => wk_fail (by decide) s
 | n + 1, deep, s => wk_kindG (wk_kind n (deep + 1)) deep s
theorem wk_nameA (nm : List UInt8) (k : Int) (s : RS) : Wk s (nameA nm k s) := by
 unfold nameA
 split
 ·exact wk_owe (by decide) s
 ·exact ⟨⟨fun _ => rfl, List.prefix_refl _, List.prefix_append _ _⟩, fun h => .same h rfl rfl rfl, id⟩
end Go.Proofs.YtfcccfplmdjndaaGreat

/- parse: two readers go the same way, while the tokens of the one stand at the front of the other's. -/
namespace Go.Proofs.YtfcccfplmdjndaaGreat
set_option linter.unusedSimpArgs false
set_option linter.unusedVariables false

def Ovr (k m : Nat) (ex : Bool) (s : RS) : Prop := ex = false ∧ (2048 < s.ns.length + k ∨ 64 < s.ds.length + m)
theorem Ovr.go {k m : Nat} {ex : Bool} {s s' : RS} (h : Ovr k m ex s) (g : Go1 s s') : Ovr k m ex s' := by
 refine ⟨h.1, ?_⟩
 have := g.ns.length_le
 have := g.ds.length_le
 rcases h.2 with h | h
 ·exact .inl (by omega)
 ·exact .inr (by omega)
structure Lv (B : List TX) (k m : Nat) (ex : Bool) (s t : RS) : Prop where
 e : EndS s
 ts : t.ts = s.ts.dropLast ++ B
 b : 0 < B.length
 fc : t.fc = 0
 st : (t.du = 0 ∧ t.ns.length = s.ns.length + k ∧ t.ds.length = s.ds.length + m ∧ (ex = true → t.ns = s.ns ∧ t.ds = s.ds)) ∨ (t.du = 2 ∧ Ovr k m ex s)
def Bd (k m : Nat) (ex : Bool) (s t : RS) : Prop := t.fc = 2 ∧ Ovr k m ex s
theorem Bd.go {k m : Nat} {ex : Bool} {s t s' t' : RS} (h : Bd k m ex s t) (g : Go1 s s') (g' : Go1 t t') : Bd k m ex s' t' :=
 ⟨by rw [g'.st (by rw [h.1]; decide), h.1], h.2.go g⟩
def Sm (B : List TX) (k m : Nat) (ex : Bool) (V : Prop) (s t : RS) : Prop := (Lv B k m ex s t ∧ V) ∨ Bd k m ex s t
variable {B : List TX} {k m : Nat} {ex : Bool} {s t : RS}
theorem Lv.nxt (h : Lv B k m ex s t) (h2 : 2 ≤ s.ts.length) : nxt t = nxt s := by
 unfold Proofs.YtfcccfplmdjndaaGreat.nxt
 rw [h.ts]
 cases hs : s.ts with
 | nil => rw [hs] at h2; simp at h2
 | cons a r =>
  cases r with
  | nil => rw [hs] at h2; simp at h2
  | cons b r => rfl
theorem Lv.len (h : Lv B k m ex s t) : t.ts.length + 1 = s.ts.length + B.length := by
 have := h.e.pos
 rw [h.ts, List.length_append, List.length_dropLast]
 omega
theorem pass_eq {s : RS} (ho : Ok (passP s)) : s.du = 0 ∧ (1 < s.ts.length → passP s = ⟨s.ts.drop 1, s.ns, s.ds, s.du, s.fc, s.fi⟩) := by
 unfold passP at ho ⊢
 split at ho
 ·rename_i h
  exact absurd ho (not_fail h s)
 ·rename_i h
  rw [if_neg h]
  exact ⟨by omega, fun h1 => by rw [if_pos h1]⟩
theorem sim_pass (h : Lv B k m ex s t) (ho : Ok (passP s)) (h2 : 2 ≤ s.ts.length) : Sm B k m ex True (passP s) (passP t) := by
 obtain ⟨hd, he⟩ := pass_eq ho
 have hs := he (by omega)
 have hl := h.len
 have hb := h.b
 have hsu := suf_pass h.e.pos
 have hes := h.e.suf hsu
 rcases h.st with ⟨d0, n0, m0, x0⟩ | ⟨d2, hov⟩
 ·have ht : passP t = ⟨t.ts.drop 1, t.ns, t.ds, t.du, t.fc, t.fi⟩ := by
   unfold passP
   rw [if_neg (by omega), if_pos (by omega)]
  refine .inl ⟨?_, trivial⟩
  rw [ht]
  refine ⟨hes, ?_, hb, h.fc, .inl ⟨d0, ?_, ?_, ?_⟩⟩
  ·rw [hs]
   show t.ts.drop 1 = (s.ts.drop 1).dropLast ++ B
   rw [h.ts]
   cases hq : s.ts with
   | nil => rw [hq] at h2; simp at h2
   | cons a r =>
    cases r with
    | nil => rw [hq] at h2; simp at h2
    | cons b r => rfl
  ·rw [hs]; exact n0
  ·rw [hs]; exact m0
  ·rw [hs]; exact x0
 ·refine .inr ⟨?_, hov.go (go_pass s)⟩
  unfold passP
  rw [if_pos (by omega), d2]
  show (if t.fc = 0 then 2 else t.fc) = 2
  rw [if_pos h.fc]
theorem sim_took (h : Lv B k m ex s t) (x : Nat) (y : List UInt8) (ho : Ok (tookP x y s).2) (h2 : 2 ≤ s.ts.length) : (tookP x y t).1 = (tookP x y s).1 ∧ Sm B k m ex True (tookP x y s).2 (tookP x y t).2 := by
 have hn := h.nxt h2
 have hi : isP x y t = isP x y s := by unfold isP; rw [hn]
 unfold tookP at ho ⊢
 rw [hi]
 split at ho
 ·rename_i h1
  rw [if_pos h1, if_pos h1]
  exact ⟨rfl, sim_pass h ho h2⟩
 ·rename_i h1
  rw [if_neg h1, if_neg h1]
  exact ⟨rfl, .inl ⟨h, trivial⟩⟩
theorem sim_sign (h : Lv B k m ex s t) (y : List UInt8) (ho : Ok (signP y s)) (h2 : 2 ≤ s.ts.length) : Sm B k m ex True (signP y s) (signP y t) := by
 have hn := h.nxt h2
 have hi : isP 4 y t = isP 4 y s := by unfold isP; rw [hn]
 unfold signP at ho ⊢
 rw [hi]
 split at ho
 ·rename_i h1
  rw [if_pos h1, if_pos h1]
  exact sim_pass h ho h2
 ·exact absurd ho (not_fail (by decide) s)
theorem sim_name (h : Lv B k m ex s t) (ho : Ok (nameP s).2) (h2 : 2 ≤ s.ts.length) : (nameP t).1 = (nameP s).1 ∧ Sm B k m ex True (nameP s).2 (nameP t).2 := by
 have hn := h.nxt h2
 unfold nameP at ho ⊢
 rw [hn]
 split at ho
 ·exact absurd ho (not_fail (by decide) s)
 ·rename_i h1
  rw [if_neg h1, if_neg h1]
  exact ⟨rfl, sim_pass h ho h2⟩
theorem sim_num (h : Lv B k m ex s t) (a b : Nat) (ho : Ok (numP a b s).2) (h2 : 2 ≤ s.ts.length) : (numP a b t).1 = (numP a b s).1 ∧ Sm B k m ex True (numP a b s).2 (numP a b t).2 := by
 have hn := h.nxt h2
 unfold numP at ho ⊢
 rw [hn]
 split at ho
 ·exact absurd ho (not_fail (by decide) s)
 ·rename_i h1
  rw [if_neg h1, if_neg h1]
  split at ho
  ·rename_i h3
   exact absurd ((flat_pass _).ok ho) (not_fail h3 s)
  ·rename_i h3
   rw [if_neg h3, if_neg h3]
   split at ho
   ·rename_i h4
    rw [if_pos h4, if_pos h4]
    exact ⟨rfl, sim_pass h ho h2⟩
   ·exact absurd ((flat_pass _).ok ho) (not_fail (by decide) s)
theorem sim_room (h : Lv B k m ex s t) (q : Nat) (ho : Ok (roomP q s)) : roomP q s = s ∧ roomP q t = t := by
 have := room_ok ho
 unfold roomP
 rw [if_neg this, if_neg this]
 exact ⟨rfl, rfl⟩
theorem Sm.imp {V W : Prop} (h : Sm B k m ex V s t) (f : V → W) : Sm B k m ex W s t := by
 rcases h with ⟨h, v⟩ | h
 ·exact .inl ⟨h, f v⟩
 ·exact .inr h
theorem Lv.tpos (h : Lv B k m ex s t) : 0 < t.ts.length := by
 have := h.len
 have := h.b
 have := h.e.pos
 omega
structure Si (B : List TX) (k m : Nat) (ex : Bool) (N N' : Nat) (c : Prop) {α α' : Type} (p : RS → α × RS) (p' : RS → α' × RS) (V : α → α' → Prop) : Prop where
 w : ∀ s, Wk s (p s).2
 w' : ∀ s, Wk s (p' s).2
 sim : c → ∀ s t, Lv B k m ex s t → s.ts.length ≤ N → t.ts.length ≤ N' → Ok (p s).2 → 2 ≤ (p s).2.ts.length → Sm B k m ex (V (p s).1 (p' t).1) (p s).2 (p' t).2
variable {N N' : Nat} {c : Prop} {α α' β β' : Type}
theorem Si.bind {p : RS → α × RS} {p' : RS → α' × RS} {V : α → α' → Prop} {f : α → RS → β × RS} {f' : α' → RS → β' × RS} {V2 : β → β' → Prop} (hp : Si B k m ex N N' c p p' V) (hf : ∀ a a', Si B k m ex N N' (c ∧ V a a') (f a) (f' a') V2) : Si B k m ex N N' c (fun s => f (p s).1 (p s).2) (fun t => f' (p' t).1 (p' t).2) V2 := by
 refine ⟨fun s => (hp.w s).trans ((hf (p s).1 (p' s).1).w _), fun s => (hp.w' s).trans ((hf (p s).1 (p' s).1).w' _), fun hc s t h l l' ho h2 => ?_⟩
 have wf := (hf (p s).1 (p' t).1).w (p s).2
 have wf' := (hf (p s).1 (p' t).1).w' (p' t).2
 have hs1 := (hp.w s).suf h.e.pos
 have hs2 := wf.suf hs1.pos
 have ht1 := (hp.w' t).suf h.tpos
 have h3 : 2 ≤ (p s).2.ts.length := Nat.le_trans h2 hs2.le
 rcases hp.sim hc s t h l l' (wf.ok ho) h3 with ⟨q, v⟩ | b
 ·exact (hf (p s).1 (p' t).1).sim ⟨hc, v⟩ _ _ q (Nat.le_trans hs1.le l) (Nat.le_trans ht1.le l') ho h2
 ·exact .inr (b.go wf.go wf'.go)
theorem Si.pure {V : β → β' → Prop} (b : β) (b' : β') (hv : c → V b b') : Si B k m ex N N' c (fun s => (b, s)) (fun s => (b', s)) V :=
 ⟨fun s => .refl s, fun s => .refl s, fun hc s t h _ _ _ _ => .inl ⟨h, hv hc⟩⟩
theorem Si.ite {V : β → β' → Prop} {p q : RS → β × RS} {p' q' : RS → β' × RS} {d d' : Prop} [Decidable d] [Decidable d'] (hd : c → (d ↔ d')) (hp : Si B k m ex N N' c p p' V) (hq : Si B k m ex N N' c q q' V) : Si B k m ex N N' c (fun s => if d then p s else q s) (fun s => if d' then p' s else q' s) V := by
 refine ⟨fun s => ?_, fun s => ?_, fun hc s t h l l' ho h2 => ?_⟩
 ·split
  ·exact hp.w s
  ·exact hq.w s
 ·split
  ·exact hp.w' s
  ·exact hq.w' s
 ·have e := hd hc
  by_cases h1 : d
  ·rw [if_pos h1] at ho h2
   rw [if_pos h1, if_pos (e.1 h1)]
   exact hp.sim hc s t h l l' ho h2
  ·rw [if_neg h1] at ho h2
   rw [if_neg h1, if_neg (fun x => h1 (e.2 x))]
   exact hq.sim hc s t h l l' ho h2
theorem Si.when {V : β → β' → Prop} {p : RS → β × RS} {p' : RS → β' × RS} {c' : Prop} (h : Si B k m ex N N' c p p' V) (f : c' → c) : Si B k m ex N N' c' p p' V :=
 ⟨h.w, h.w', fun hc => h.sim (f hc)⟩
theorem Si.imp {V W : β → β' → Prop} {p : RS → β × RS} {p' : RS → β' × RS} (h : Si B k m ex N N' c p p' V) (f : ∀ a b, V a b → W a b) : Si B k m ex N N' c p p' W :=
 ⟨h.w, h.w', fun hc s t q l l' ho h2 => (h.sim hc s t q l l' ho h2).imp (f _ _)⟩
theorem Sm.mk {V : Prop} (v : V) {s t : RS} (h : Sm B k m ex True s t) : Sm B k m ex V s t := h.imp fun _ => v
theorem two_le {s s' : RS} (w : Wk s s') (hp : 0 < s.ts.length) (h : 2 ≤ s'.ts.length) : 2 ≤ s.ts.length := Nat.le_trans h (w.suf hp).le
theorem si_took (x : Nat) (y : List UInt8) : Si B k m ex N N' c (tookP x y) (tookP x y) (fun a b => a = b) :=
 ⟨wk_took x y, wk_took x y, fun _ s t h _ _ ho h2 => by
  obtain ⟨e, r⟩ := sim_took h x y ho (two_le (wk_took x y s) h.e.pos h2)
  exact r.mk e.symm⟩
theorem si_sign (y : List UInt8) : Si B k m ex N N' c (fun s => ((), signP y s)) (fun s => ((), signP y s)) (fun _ _ => True) :=
 ⟨wk_sign y, wk_sign y, fun _ s t h _ _ ho h2 => sim_sign h y ho (two_le (wk_sign y s) h.e.pos h2)⟩
theorem si_name : Si B k m ex N N' c nameP nameP (fun a b => a = b) :=
 ⟨wk_name, wk_name, fun _ s t h _ _ ho h2 => by
  obtain ⟨e, r⟩ := sim_name h ho (two_le (wk_name s) h.e.pos h2)
  exact r.mk e.symm⟩
theorem si_num (x y x' y' : Nat) (hx : c → x = x' ∧ y = y') : Si B k m ex N N' c (numP x y) (numP x' y') (fun a b => a = b) :=
 ⟨wk_num x y, wk_num x' y', fun hc s t h _ _ ho h2 => by
  obtain ⟨rfl, rfl⟩ := hx hc
  obtain ⟨e, r⟩ := sim_num h x y ho (two_le (wk_num x y s) h.e.pos h2)
  exact r.mk e.symm⟩
theorem si_room (q q' : Nat) (hq : c → q = q') : Si B k m ex N N' c (fun s => ((), roomP q s)) (fun s => ((), roomP q' s)) (fun _ _ => True) :=
 ⟨wk_room q, wk_room q', fun hc s t h _ _ ho h2 => by
  obtain rfl := hq hc
  obtain ⟨e1, e2⟩ := sim_room h q ho
  show Sm B k m ex True (roomP q s) (roomP q t)
  rw [e1, e2]
  exact .inl ⟨h, trivial⟩⟩
theorem si_peek : Si B k m ex N N' c (fun s => (nxt s, s)) (fun s => (nxt s, s)) (fun a b => a = b) :=
 ⟨fun s => .refl s, fun s => .refl s, fun _ s t h _ _ ho h2 => .inl ⟨h, (h.nxt h2).symm⟩⟩
theorem si_owe (q q' : Nat) (hq : q ≠ 0) (hq' : q' ≠ 0) : Si B k m ex N N' c (fun s => ((), oweP q s)) (fun s => ((), oweP q' s)) (fun _ _ => True) :=
 ⟨wk_owe hq, wk_owe hq', fun hc s t h _ _ ho h2 => absurd ho (not_owe hq s)⟩
theorem si_ranged (n : NT) : Si B k m ex N N' c (rangedP n) (rangedP n) (fun a b => a = b) := by
 have h := Si.bind (si_peek (B := B) (k := k) (m := m) (ex := ex) (N := N) (N' := N') (c := c)) (fun a a' => Si.ite (d := a.1 = 2) (d' := a'.1 = 2) (fun hc => by rw [hc.2])
  (Si.bind (si_num 0 uMax 0 uMax (fun _ => ⟨rfl, rfl⟩)) (fun x x' => Si.bind (si_sign [46, 46]) (fun _ _ => Si.bind (si_num x (mostV n.k n.wd) x' (mostV n.k n.wd) (fun hc => ⟨hc.1.2, rfl⟩)) (fun y y' => Si.pure (V := fun a b => a = b) ({ n with mn := x, mx := y } : NT) ({ n with mn := x', mx := y' } : NT) (fun hc => by rw [hc.1.1.2, hc.2])))))
  (Si.pure ({ n with mx := mostV n.k n.wd } : NT) ({ n with mx := mostV n.k n.wd } : NT) (fun _ => rfl)))
 exact h
end Go.Proofs.YtfcccfplmdjndaaGreat

/- parse: two readers go the same way: from an expression to a type. -/
namespace Go.Proofs.YtfcccfplmdjndaaGreat
set_option linter.unusedSimpArgs false
set_option linter.unusedVariables false

variable {B : List TX} {k m : Nat} {ex : Bool} {N N' : Nat} {c : Prop}
theorem si_reckB (q q' : Nat) (hq : c → q = q') : Si B k m ex N N' c (reckB q) (reckB q') (fun a b => a = b) := by
 have h := Si.bind (si_name (B := B) (k := k) (m := m) (ex := ex) (N := N) (N' := N') (c := c)) (fun a a' => Si.bind (si_took 4 [43]) (fun b b' => Si.ite (d := b = true) (d' := b' = true) (fun hc => by rw [hc.2])
  (Si.bind (si_num 0 uMax 0 uMax (fun _ => ⟨rfl, rfl⟩)) (fun x x' => Si.pure (V := fun a b => a = b) ((a, q, x) : EX) ((a', q', x') : EX) (fun hc => by rw [hc.1.1.2, hc.2, hq hc.1.1.1])))
  (Si.pure ((a, q, 0) : EX) ((a', q', 0) : EX) (fun hc => by rw [hc.1.2, hq hc.1.1]))))
 exact h
theorem si_reck : Si B k m ex N N' c reckP reckP (fun a b => a = b) := by
 have h := Si.bind (si_peek (B := B) (k := k) (m := m) (ex := ex) (N := N) (N' := N') (c := c)) (fun a a' => Si.ite (d := a.1 = 2) (d' := a'.1 = 2) (fun hc => by rw [hc.2])
  (Si.bind (si_num 0 uMax 0 uMax (fun _ => ⟨rfl, rfl⟩)) (fun x x' => Si.bind (si_took 4 [42]) (fun b b' => Si.ite (d := b = true) (d' := b' = true) (fun hc => by rw [hc.2])
   (Si.bind (V := fun _ _ => True) (Si.ite (d := x = 0) (d' := x' = 0) (fun hc => by rw [hc.1.2]) (si_owe 1 1 (by decide) (by decide)) (Si.pure () () (fun _ => trivial))) (fun _ _ => si_reckB x x' (fun hc => hc.1.1.2)))
   (Si.pure (([], 0, x) : EX) (([], 0, x') : EX) (fun hc => by rw [hc.1.2])))))
  (si_reckB 1 1 (fun _ => rfl)))
 refine ⟨wk_reck, wk_reck, fun hc s t hl l l' ho h2 => ?_⟩
 have e : ∀ s : RS, reckP s = (fun s => (if (nxt s).1 = 2 then (if (tookP 4 [42] (numP 0 uMax s).2).1 = true then reckB (numP 0 uMax s).1 (if (numP 0 uMax s).1 = 0 then (((), oweP 1 (tookP 4 [42] (numP 0 uMax s).2).2) : Unit × RS) else ((), (tookP 4 [42] (numP 0 uMax s).2).2)).2 else ((([], 0, (numP 0 uMax s).1) : EX), (tookP 4 [42] (numP 0 uMax s).2).2)) else reckB 1 s)) s := fun s => by
  unfold reckP
  simp only
  split
  ·split
   ·split <;> rfl
   ·rfl
  ·rfl
 rw [e s] at ho h2 ⊢
 rw [e t]
 exact h.sim hc s t hl l l' ho h2
theorem si_often : Si B k m ex N N' c oftenP oftenP (fun a b => a = b) := by
 have h := Si.bind (si_sign (B := B) (k := k) (m := m) (ex := ex) (N := N) (N' := N') (c := c) [91]) (fun _ _ => Si.bind si_reck (fun a a' => Si.bind (si_sign [93]) (fun _ _ => Si.pure (V := fun a b => a = b) a a' (fun hc => hc.1.2))))
 exact h
def drvP (s : RS) : Int × RS := if (tookP 1 s_size s).1 = true then ((1 : Int), (tookP 1 s_size s).2) else if (tookP 1 s_count s).1 = true then (2, (tookP 1 s_count s).2) else if (tookP 1 s_crc s).1 = true then (3, (tookP 1 s_crc s).2) else (0, failP 5 s)
theorem si_drv : Si B k m ex N N' c drvP drvP (fun a b => a = b) := by
 have w : ∀ s, Wk s (drvP s).2 := fun s => by
  unfold drvP
  split
  ·exact wk_took _ _ s
  ·split
   ·exact wk_took _ _ s
   ·split
    ·exact wk_took _ _ s
    ·exact wk_fail (by decide) s
 refine ⟨w, w, fun hc s t h l l' ho h2 => ?_⟩
 have hs := two_le (w s) h.e.pos h2
 have hn := h.nxt hs
 have hi : ∀ y, (tookP 1 y t).1 = (tookP 1 y s).1 := fun y => by
  have e : isP 1 y t = isP 1 y s := by unfold isP; rw [hn]
  unfold tookP
  rw [e]
  split <;> rfl
 unfold drvP at ho h2 ⊢
 rw [hi, hi, hi]
 split at ho
 ·rename_i h1
  rw [if_pos h1] at h2
  rw [if_pos h1, if_pos h1]
  exact (sim_took h 1 s_size ho hs).2.mk rfl
 ·rename_i h1
  rw [if_neg h1] at h2
  rw [if_neg h1, if_neg h1]
  split at ho
  ·rename_i h1
   rw [if_pos h1] at h2
   rw [if_pos h1, if_pos h1]
   exact (sim_took h 1 s_count ho hs).2.mk rfl
  ·rename_i h1
   rw [if_neg h1] at h2
   rw [if_neg h1, if_neg h1]
   split at ho
   ·rename_i h1
    rw [if_pos h1] at h2
    rw [if_pos h1, if_pos h1]
    exact (sim_took h 1 s_crc ho hs).2.mk rfl
   ·exact absurd ho (not_fail (by decide) s)
theorem si_derive : Si B k m ex N N' c deriveP deriveP (fun a b => a = b) := by
 have h := Si.bind (si_drv (B := B) (k := k) (m := m) (ex := ex) (N := N) (N' := N') (c := c)) (fun d d' => Si.bind (si_sign [40]) (fun _ _ => Si.bind si_name (fun e e' => Si.ite (d := d = 3) (d' := d' = 3) (fun hc => by rw [hc.1.1.2])
  (Si.bind (si_sign [46, 46]) (fun _ _ => Si.bind si_name (fun g g' => Si.bind (si_sign [41]) (fun _ _ => Si.pure (V := fun a b => a = b) ((d, e, g) : Int × List UInt8 × List UInt8) (d', e', g') (fun hc => by rw [hc.1.1.1.1.1.2, hc.1.1.1.2, hc.1.2])))))
  (Si.bind (si_sign [41]) (fun _ _ => Si.pure ((d, e, []) : Int × List UInt8 × List UInt8) (d', e', []) (fun hc => by rw [hc.1.1.1.2, hc.1.2]))))))
 exact h
section
variable {K K' : RS → Int × RS} (hK : Si B k m ex N N' c K K' (fun a b => ex = true → a = b))
include hK
theorem si_around (n : NT) : Si B k m ex N N' c (aroundP K n) (aroundP K' n) (fun a b => ex = true → a = b) := by
 have h := Si.bind hK (fun a a' => Si.pure (V := fun a b => ex = true → a = b) ({ n with ks := [a] } : NT) ({ n with ks := [a'] } : NT) (fun hc x => by rw [hc.2 x]))
 exact h
theorem si_told : Si B k m ex N N' c (toldP K) (toldP K') (fun a b => ex = true → a = b) := by
 have h := Si.bind (si_sign (B := B) (k := k) (m := m) (ex := ex) (N := N) (N' := N') (c := c) [58]) (fun _ _ => Si.bind (hK.when (fun hc => hc.1)) (fun a a' => Si.bind (si_sign [59]) (fun _ _ => Si.pure (V := fun a b => ex = true → a = b) a a' (fun hc => hc.1.2))))
 exact h
theorem si_field : Si B k m ex N N' c (fieldP K) (fieldP K') (fun a b => ex = true → a = b) := by
 have h := Si.bind (si_name (B := B) (k := k) (m := m) (ex := ex) (N := N) (N' := N') (c := c)) (fun a a' => Si.bind (si_sign [58]) (fun _ _ => Si.bind (hK.when (fun hc => hc.1.1)) (fun b b' => Si.bind (si_took 4 [61]) (fun d d' => Si.ite (d := d = true) (d' := d' = true) (fun hc => by rw [hc.2])
  (Si.bind si_derive (fun e e' => Si.bind (si_sign [59]) (fun _ _ => Si.pure (V := fun a b => ex = true → a = b) (⟨strB a, b, e.1, strB e.2.1, strB e.2.2⟩ : FT) (⟨strB a', b', e'.1, strB e'.2.1, strB e'.2.2⟩ : FT) (fun hc x => by rw [hc.1.1.1.1.1.2, hc.1.1.1.2 x, hc.1.2]))))
  (Si.bind (si_sign [59]) (fun _ _ => Si.pure (⟨strB a, b, 0, strB [], strB []⟩ : FT) (⟨strB a', b', 0, strB [], strB []⟩ : FT) (fun hc x => by rw [hc.1.1.1.1.2, hc.1.1.2 x])))))))
 exact h
end
end Go.Proofs.YtfcccfplmdjndaaGreat

/- parse: two readers go the same way: loops, and types. -/
namespace Go.Proofs.YtfcccfplmdjndaaGreat
set_option linter.unusedSimpArgs false
set_option linter.unusedVariables false

variable {B : List TX} {k m : Nat} {ex : Bool} {N N' : Nat} {c : Prop}
section
variable {K K' : RS → Int × RS} (hK : Si B k m ex N N' c K K' (fun a b => ex = true → a = b))
include hK
theorem sim_fields (hc : c) : ∀ (q q' : Nat) (fs fs' : List FT) (s t : RS), Lv B k m ex s t → s.ts.length ≤ q → t.ts.length ≤ q' → s.ts.length ≤ N → t.ts.length ≤ N' → fs.length = fs'.length → (ex = true → fs = fs') → Ok (fieldsP K q fs s).2 → 2 ≤ (fieldsP K q fs s).2.ts.length → Sm B k m ex (ex = true → (fieldsP K q fs s).1 = (fieldsP K' q' fs' t).1) (fieldsP K q fs s).2 (fieldsP K' q' fs' t).2
 | 0, _, _, _, s, t, h, hq, _, _, _, _, _, _, _ => absurd h.e.pos (by omega)
 | q + 1, 0, _, _, s, t, h, _, hq, _, _, _, _, _, _ => absurd h.tpos (by omega)
 | q + 1, q' + 1, fs, fs', s, t, h, hq, hq', l, l', hl, hx, ho, h2 => by
  have bd := Si.bind (si_room (B := B) (k := k) (m := m) (ex := ex) (N := N) (N' := N') (c := c) fs.length fs'.length (fun _ => hl)) (fun _ _ => (si_field hK).when (fun hc => hc.1))
  unfold fieldsP at ho h2 ⊢
  simp only at ho h2 ⊢
  have wr : ∀ (g : List FT) (a : RS), Wk a (if (nxt a).1 = 1 then fieldsP K q g a else (g, a)).2 := fun g a => by
   split
   ·exact wk_fields hK.w q g a
   ·exact .refl a
  have wr' : ∀ (g : List FT) (a : RS), Wk a (if (nxt a).1 = 1 then fieldsP K' q' g a else (g, a)).2 := fun g a => by
   split
   ·exact wk_fields hK.w' q' g a
   ·exact .refl a
  have wb := bd.w s
  have r1 := wr (fs ++ [(fieldP K (roomP fs.length s)).1]) (fieldP K (roomP fs.length s)).2
  have r2 := wr' (fs' ++ [(fieldP K' (roomP fs'.length t)).1]) (fieldP K' (roomP fs'.length t)).2
  have hsb := wb.suf h.e.pos
  have hoa := r1.ok ho
  have h2a := two_le r1 hsb.pos h2
  have hdec : Dec s (fieldP K (roomP fs.length s)).2 := Dec.of (suf_room h.e.pos fs.length) (dec_field (fun s hs => (hK.w s).suf hs) (suf_room h.e.pos fs.length).pos)
  have hbs := bd.sim hc s t h l l' hoa h2a
  simp only at hbs hsb hoa h2a
  generalize fieldP K (roomP fs.length s) = a at *
  generalize fieldP K' (roomP fs'.length t) = a' at *
  rcases hbs with ⟨q1, v⟩ | b
  ·have hn := q1.nxt h2a
   have e1 := h.len
   have e2 := q1.len
   rw [hn]
   by_cases h1 : (nxt a.2).1 = 1
   ·rw [if_pos h1] at ho h2
    rw [if_pos h1, if_pos h1]
    have hlt := hdec.less q1.e (by rw [h1]; decide)
    exact sim_fields hc q q' _ _ _ _ q1 (by omega) (by omega) (by omega) (by omega) (by rw [List.length_append, List.length_append, hl]; rfl) (fun x => by rw [hx x, v x]) ho h2
   ·rw [if_neg h1, if_neg h1]
    exact .inl ⟨q1, fun x => by rw [hx x, v x]⟩
  ·exact .inr (b.go r1.go r2.go)
theorem si_record : Si B k m ex N N' c (recordP K) (recordP K') (fun a b => ex = true → a = b) := by
 have hf : Si B k m ex N N' c (fun s => fieldsP K s.ts.length [] s) (fun s => fieldsP K' s.ts.length [] s) (fun a b => ex = true → a = b) :=
  ⟨fun s => wk_fields hK.w _ _ s, fun s => wk_fields hK.w' _ _ s, fun hc s t h l l' ho h2 => sim_fields hK hc _ _ _ _ s t h (Nat.le_refl _) (Nat.le_refl _) l l' rfl (fun _ => rfl) ho h2⟩
 have h := Si.bind hf (fun a a' => Si.bind (si_sign [125]) (fun _ _ => Si.pure (V := fun a b => ex = true → a = b) ({ ntZ with k := 5, fs := a } : NT) ({ ntZ with k := 5, fs := a' } : NT) (fun hc x => by rw [hc.1.2 x])))
 exact h
theorem sim_cases (hc : c) : ∀ (q q' : Nat) (fs fs' : List CT) (s t : RS), Lv B k m ex s t → s.ts.length ≤ q → t.ts.length ≤ q' → s.ts.length ≤ N → t.ts.length ≤ N' → fs.length = fs'.length → (ex = true → fs = fs') → Ok (casesP K q fs s).2 → 2 ≤ (casesP K q fs s).2.ts.length → Sm B k m ex (ex = true → (casesP K q fs s).1 = (casesP K' q' fs' t).1) (casesP K q fs s).2 (casesP K' q' fs' t).2
 | 0, _, _, _, s, t, h, hq, _, _, _, _, _, _, _ => absurd h.e.pos (by omega)
 | q + 1, 0, _, _, s, t, h, _, hq, _, _, _, _, _, _ => absurd h.tpos (by omega)
 | q + 1, q' + 1, fs, fs', s, t, h, hq, hq', l, l', hl, hx, ho, h2 => by
  have bd := Si.bind (si_room (B := B) (k := k) (m := m) (ex := ex) (N := N) (N' := N') (c := c) fs.length fs'.length (fun _ => hl)) (fun _ _ => Si.bind (si_num 0 uMax 0 uMax (fun _ => ⟨rfl, rfl⟩)) (fun a a' => Si.bind ((si_told hK).when (fun hc => hc.1.1)) (fun b b' => Si.pure (V := fun a b => ex = true → a = b) (⟨a, b⟩ : CT) (⟨a', b'⟩ : CT) (fun hc x => by rw [hc.1.2, hc.2 x]))))
  unfold casesP at ho h2 ⊢
  simp only at ho h2 ⊢
  have wr : ∀ (g : List CT) (a : RS), Wk a (if (nxt a).1 = 2 then casesP K q g a else (g, a)).2 := fun g a => by
   split
   ·exact wk_cases hK.w q g a
   ·exact .refl a
  have wr' : ∀ (g : List CT) (a : RS), Wk a (if (nxt a).1 = 2 then casesP K' q' g a else (g, a)).2 := fun g a => by
   split
   ·exact wk_cases hK.w' q' g a
   ·exact .refl a
  have wb := bd.w s
  simp only at wb
  have r1 := wr (fs ++ [⟨(numP 0 uMax (roomP fs.length s)).1, (toldP K (numP 0 uMax (roomP fs.length s)).2).1⟩]) (toldP K (numP 0 uMax (roomP fs.length s)).2).2
  have r2 := wr' (fs' ++ [⟨(numP 0 uMax (roomP fs'.length t)).1, (toldP K' (numP 0 uMax (roomP fs'.length t)).2).1⟩]) (toldP K' (numP 0 uMax (roomP fs'.length t)).2).2
  have hsb := wb.suf h.e.pos
  have hoa := r1.ok ho
  have h2a := two_le r1 hsb.pos h2
  have hdec : Dec s (toldP K (numP 0 uMax (roomP fs.length s)).2).2 := by
   have hr := suf_room h.e.pos fs.length
   have hd := dec_num hr.pos 0 uMax
   exact Dec.of hr (hd.suf ((wk_told hK.w _).suf (suf_num hr.pos 0 uMax).pos))
  have hbs := bd.sim hc s t h l l' hoa h2a
  simp only at hbs
  generalize numP 0 uMax (roomP fs.length s) = u at *
  generalize numP 0 uMax (roomP fs'.length t) = u' at *
  generalize toldP K u.2 = a at *
  generalize toldP K' u'.2 = a' at *
  rcases hbs with ⟨q1, v⟩ | b
  ·have hn := q1.nxt h2a
   have e1 := h.len
   have e2 := q1.len
   rw [hn]
   by_cases h1 : (nxt a.2).1 = 2
   ·rw [if_pos h1] at ho h2
    rw [if_pos h1, if_pos h1]
    have hlt := hdec.less q1.e (by rw [h1]; decide)
    exact sim_cases hc q q' _ _ _ _ q1 (by omega) (by omega) (by omega) (by omega) (by rw [List.length_append, List.length_append, hl]; rfl) (fun x => by rw [hx x, v x]) ho h2
   ·rw [if_neg h1, if_neg h1]
    exact .inl ⟨q1, fun x => by rw [hx x, v x]⟩
  ·exact .inr (b.go r1.go r2.go)
theorem si_choose : Si B k m ex N N' c (chooseP K) (chooseP K') (fun a b => ex = true → a = b) := by
 have hf : ∀ {c' : Prop}, (c' → c) → Si B k m ex N N' c' (fun s => casesP K s.ts.length [] s) (fun s => casesP K' s.ts.length [] s) (fun a b => ex = true → a = b) := fun hcc =>
  ⟨fun s => wk_cases hK.w _ _ s, fun s => wk_cases hK.w' _ _ s, fun hc s t h l l' ho h2 => sim_cases hK (hcc hc) _ _ _ _ s t h (Nat.le_refl _) (Nat.le_refl _) l l' rfl (fun _ => rfl) ho h2⟩
 have h := Si.bind (si_name (B := B) (k := k) (m := m) (ex := ex) (N := N) (N' := N') (c := c)) (fun a a' => Si.bind (si_took 4 [37]) (fun b b' => Si.bind (Si.ite (V := fun a b => a = b) (d := b = true) (d' := b' = true) (fun hc => by rw [hc.2]) (si_num 1 uMax 1 uMax (fun _ => ⟨rfl, rfl⟩)) (Si.pure 0 0 (fun _ => rfl))) (fun d d' => Si.bind (si_sign [123]) (fun _ _ => Si.bind (hf (fun hc => hc.1.1.1.1)) (fun e e' => Si.bind (si_took 1 s_else) (fun f f' => Si.ite (d := f = true) (d' := f' = true) (fun hc => by rw [hc.2])
  (Si.bind ((si_told hK).when (fun hc => hc.1.1.1.1.1.1)) (fun g g' => Si.bind (si_sign [125]) (fun _ _ => Si.pure (V := fun a b => ex = true → a = b) ({ ntZ with k := 9, rg := strB a, md := d, cs := e, el := g } : NT) ({ ntZ with k := 9, rg := strB a', md := d', cs := e', el := g' } : NT) (fun hc x => by rw [hc.1.1.1.1.1.1.1.2, hc.1.1.1.1.1.2, hc.1.1.1.2 x, hc.1.2 x]))))
  (Si.bind (si_sign [125]) (fun _ _ => Si.pure ({ ntZ with k := 9, rg := strB a, md := d, cs := e, el := -1 } : NT) ({ ntZ with k := 9, rg := strB a', md := d', cs := e', el := -1 } : NT) (fun hc x => by rw [hc.1.1.1.1.1.1.2, hc.1.1.1.1.2, hc.1.1.2 x])))))))))
 exact h
end
end Go.Proofs.YtfcccfplmdjndaaGreat

/- parse: two readers go the same way: a Oneof's and a Chain's kids; a type. -/
namespace Go.Proofs.YtfcccfplmdjndaaGreat
set_option linter.unusedSimpArgs false
set_option linter.unusedVariables false

variable {B : List TX} {k m : Nat} {ex : Bool} {N N' : Nat} {c : Prop}
def itK (K : RS → Int × RS) (chain : Bool) (q : Nat) (s : RS) : (Bool × Int × Bool) × RS :=
 let a := roomP q s
 let b : Bool × RS := if chain = true then tookP 1 s_last a else (false, a)
 let d := K b.2
 let e := tookP 4 [124] d.2
 ((b.1, d.1, e.1), e.2)
theorem kids_it (K : RS → Int × RS) (chain : Bool) (q : Nat) (ls : List Bool) (ks : List Int) (s : RS) : kidsP K chain (q + 1) ls ks s = if (itK K chain ks.length s).1.2.2 = true then kidsP K chain q (if chain = true then ls ++ [(itK K chain ks.length s).1.1] else ls) (ks ++ [(itK K chain ks.length s).1.2.1]) (itK K chain ks.length s).2 else (((if chain = true then ls ++ [(itK K chain ks.length s).1.1] else ls), ks ++ [(itK K chain ks.length s).1.2.1]), (itK K chain ks.length s).2) := by
 cases chain <;> rfl
theorem took_less9 {x : Nat} {y : List UInt8} {s : RS} (he : EndS s) (hx : x ≠ 5) (h : (tookP x y s).1 = true) (ho : Ok (tookP x y s).2) : (tookP x y s).2.ts.length < s.ts.length := by
 unfold tookP at h ho ⊢
 split at h
 ·rename_i hi
  rw [if_pos hi] at ho ⊢
  have hn : nxt s = (x, y) := of_decide_eq_true hi
  have h2 := he.two (by rw [hn]; exact hx)
  rw [(pass_eq ho).2 h2]
  show (s.ts.drop 1).length < _
  rw [List.length_drop]
  omega
 ·cases h
theorem it_less {K : RS → Int × RS} (hK : ∀ s, Wk s (K s).2) {chain : Bool} {q : Nat} {s : RS} (he : EndS s) (h : (itK K chain q s).1.2.2 = true) (ho : Ok (itK K chain q s).2) : (itK K chain q s).2.ts.length < s.ts.length := by
 have h1 := wk_room q s
 have h2 : Wk s (if chain = true then tookP 1 s_last (roomP q s) else (false, roomP q s)).2 := by
  split
  ·exact h1.trans (wk_took _ _ _)
  ·exact h1
 have h3 := (h2.trans (hK _)).suf he.pos
 unfold itK at h ho ⊢
 simp only at h ho ⊢
 have := took_less9 (he.suf h3) (by decide) h ho
 have := h3.le
 omega
theorem si_rangedN (n n' : NT) (hn : c → n = n') : Si B k m ex N N' c (rangedP n) (rangedP n') (fun a b => ex = true → a = b) :=
 ⟨wk_ranged n, wk_ranged n', fun hc s t h l l' ho h2 => by
  obtain rfl := hn hc
  exact ((si_ranged n).imp (fun a b e _ => e)).sim hc s t h l l' ho h2⟩
section
variable {K K' : RS → Int × RS} (hK : Si B k m ex N N' c K K' (fun a b => ex = true → a = b))
include hK
theorem si_it (chain : Bool) (q q' : Nat) (hq : c → q = q') : Si B k m ex N N' c (itK K chain q) (itK K' chain q') (fun a b => a.1 = b.1 ∧ a.2.2 = b.2.2 ∧ (ex = true → a.2.1 = b.2.1)) := by
 have h := Si.bind (si_room (B := B) (k := k) (m := m) (ex := ex) (N := N) (N' := N') (c := c) q q' hq) (fun _ _ => Si.bind (Si.ite (V := fun a b => a = b) (d := chain = true) (d' := chain = true) (fun _ => Iff.rfl) (si_took 1 s_last) (Si.pure false false (fun _ => rfl))) (fun b b' => Si.bind (hK.when (fun hc => hc.1.1)) (fun d d' => Si.bind (si_took 4 [124]) (fun e e' => Si.pure (V := fun a b : Bool × Int × Bool => a.1 = b.1 ∧ a.2.2 = b.2.2 ∧ (ex = true → a.2.1 = b.2.1)) (b, d, e) (b', d', e') (fun hc => ⟨hc.1.1.2, hc.2, hc.1.2⟩)))))
 exact h
theorem sim_kids (hc : c) (chain : Bool) : ∀ (q q' : Nat) (ls ls' : List Bool) (ks ks' : List Int) (s t : RS), Lv B k m ex s t → s.ts.length ≤ q → t.ts.length ≤ q' → s.ts.length ≤ N → t.ts.length ≤ N' → ks.length = ks'.length → (ls = ls' ∧ (ex = true → ks = ks')) → Ok (kidsP K chain q ls ks s).2 → 2 ≤ (kidsP K chain q ls ks s).2.ts.length → Sm B k m ex ((kidsP K chain q ls ks s).1.1 = (kidsP K' chain q' ls' ks' t).1.1 ∧ (ex = true → (kidsP K chain q ls ks s).1.2 = (kidsP K' chain q' ls' ks' t).1.2)) (kidsP K chain q ls ks s).2 (kidsP K' chain q' ls' ks' t).2
 | 0, _, _, _, _, _, s, t, h, hq, _, _, _, _, _, _, _ => absurd h.e.pos (by omega)
 | q + 1, 0, _, _, _, _, s, t, h, _, hq, _, _, _, _, _, _ => absurd h.tpos (by omega)
 | q + 1, q' + 1, ls, ls', ks, ks', s, t, h, hq, hq', l, l', hl, hx, ho, h2 => by
  have bd := si_it hK chain ks.length ks'.length (fun _ => hl)
  rw [kids_it] at ho h2 ⊢
  rw [kids_it]
  have wr : ∀ (z : Bool) (g : List Bool) (g2 : List Int) (a : RS), Wk a (if z = true then kidsP K chain q g g2 a else ((g, g2), a)).2 := fun z g g2 a => by
   split
   ·exact wk_kids hK.w chain q g g2 a
   ·exact .refl a
  have wr' : ∀ (z : Bool) (g : List Bool) (g2 : List Int) (a : RS), Wk a (if z = true then kidsP K' chain q' g g2 a else ((g, g2), a)).2 := fun z g g2 a => by
   split
   ·exact wk_kids hK.w' chain q' g g2 a
   ·exact .refl a
  have wb := bd.w s
  have hless := it_less hK.w (chain := chain) (q := ks.length) h.e
  have hbs := bd.sim hc s t h l l'
  generalize itK K chain ks.length s = a at *
  generalize itK K' chain ks'.length t = a' at *
  have hLe : a.1.1 = a'.1.1 → (if chain = true then ls ++ [a.1.1] else ls) = (if chain = true then ls' ++ [a'.1.1] else ls') := fun v => by rw [hx.1, v]
  generalize (if chain = true then ls ++ [a.1.1] else ls) = L1 at *
  generalize (if chain = true then ls' ++ [a'.1.1] else ls') = L2 at *
  have r1 := wr a.1.2.2 L1 (ks ++ [a.1.2.1]) a.2
  have r2 := wr' a'.1.2.2 L2 (ks' ++ [a'.1.2.1]) a'.2
  have hsb := wb.suf h.e.pos
  have hoa := r1.ok ho
  have h2a := two_le r1 hsb.pos h2
  rcases hbs hoa h2a with ⟨q1, v1, v2, v3⟩ | b
  ·have e1 := h.len
   have e2 := q1.len
   by_cases h1 : a.1.2.2 = true
   ·rw [if_pos h1] at ho h2
    rw [if_pos h1, if_pos (by rw [← v2]; exact h1)]
    have hlt := hless h1 hoa
    exact sim_kids hc chain q q' _ _ _ _ _ _ q1 (by omega) (by omega) (by omega) (by omega) (by rw [List.length_append, List.length_append, hl]; rfl) ⟨hLe v1, fun x => by rw [hx.2 x, v3 x]⟩ ho h2
   ·rw [if_neg h1, if_neg (by rw [← v2]; exact h1)]
    exact .inl ⟨q1, hLe v1, fun x => by rw [hx.2 x, v3 x]⟩
  ·exact .inr (b.go r1.go r2.go)
theorem si_among (chain : Bool) : Si B k m ex N N' c (amongP K chain) (amongP K' chain) (fun a b => ex = true → a = b) := by
 have hf : ∀ {c' : Prop}, (c' → c) → Si B k m ex N N' c' (fun s => kidsP K chain s.ts.length [] [] s) (fun s => kidsP K' chain s.ts.length [] [] s) (fun a b => a.1 = b.1 ∧ (ex = true → a.2 = b.2)) := fun hcc =>
  ⟨fun s => wk_kids hK.w chain _ _ _ s, fun s => wk_kids hK.w' chain _ _ _ s, fun hc s t h l l' ho h2 => sim_kids hK (hcc hc) chain _ _ _ _ _ _ s t h (Nat.le_refl _) (Nat.le_refl _) l l' rfl ⟨rfl, fun _ => rfl⟩ ho h2⟩
 have h := Si.bind (si_sign (B := B) (k := k) (m := m) (ex := ex) (N := N) (N' := N') (c := c) [123]) (fun _ _ => Si.bind (hf (fun hc => hc.1)) (fun a a' => Si.bind (si_sign [125]) (fun _ _ => Si.pure (V := fun a b => ex = true → a = b) ({ ntZ with k := if chain = true then 11 else 10, ls := a.1, ks := a.2 } : NT) ({ ntZ with k := if chain = true then 11 else 10, ls := a'.1, ks := a'.2 } : NT) (fun hc x => by rw [hc.1.2.1, hc.1.2.2 x]))))
 exact h
theorem si_aroundN (n n' : NT) (hn : c → n = n') : Si B k m ex N N' c (aroundP K n) (aroundP K' n') (fun a b => ex = true → a = b) :=
 ⟨fun s => wk_around hK.w n s, fun s => wk_around hK.w' n' s, fun hc s t h l l' ho h2 => by
  obtain rfl := hn hc
  exact (si_around hK n).sim hc s t h l l' ho h2⟩
theorem si_named (x : List UInt8) : Si B k m ex N N' c (namedP K x) (namedP K' x) (fun a b => ex = true → a = b) := by
 cases hfx : fixP x with
 | some v =>
  obtain ⟨wd, li⟩ := v
  have e : ∀ K : RS → Int × RS, namedP K x = rangedP { ntZ with k := 1, wd := (wd : Int), li := li } := fun K => by
   funext s
   unfold namedP
   rw [hfx]
  rw [e, e]
  exact si_rangedN _ _ (fun _ => rfl)
 | none =>
  have e : ∀ K : RS → Int × RS, namedP K x = fun s => if x = s_varint ∨ x = s_zigzag then rangedP { ntZ with k := 2, zg := decide (x = s_zigzag), le := (tookP 1 s_lenient s).1 } (tookP 1 s_lenient s).2 else (fun s => if x = s_bytes then (withE { ntZ with k := 4 } (oftenP s).1, (oftenP s).2) else (fun s => if x = s_times then aroundP K (withE { ntZ with k := 6 } (oftenP s).1) (oftenP s).2 else (fun s => if x = s_within then aroundP K (withE { ntZ with k := 8 } (oftenP s).1) (oftenP s).2 else (fun s => if x = s_many then aroundP K { ntZ with k := 7 } s else (fun s => if x = s_switch then chooseP K s else (fun s => if x = s_oneof then amongP K false s else (fun s => if x = s_chain then amongP K true s else (fun s => if x = s_empty then (({ ntZ with k := 12 } : NT), s) else (({ ntZ with k := 13, tx := strB x } : NT), s)) s) s) s) s) s) s) s) s := fun K => by
   funext s
   unfold namedP
   rw [hfx]
  rw [e, e]
  refine Si.ite (fun _ => Iff.rfl) ?_ (Si.ite (fun _ => Iff.rfl) ?_ (Si.ite (fun _ => Iff.rfl) ?_ (Si.ite (fun _ => Iff.rfl) ?_ (Si.ite (fun _ => Iff.rfl) ?_ (Si.ite (fun _ => Iff.rfl) ?_ (Si.ite (fun _ => Iff.rfl) ?_ (Si.ite (fun _ => Iff.rfl) ?_ (Si.ite (fun _ => Iff.rfl) ?_ ?_))))))))
  ·exact Si.bind (si_took 1 s_lenient) (fun a a' => si_rangedN { ntZ with k := 2, zg := decide (x = s_zigzag), le := a } { ntZ with k := 2, zg := decide (x = s_zigzag), le := a' } (fun hc => by rw [hc.2]))
  ·exact Si.bind si_often (fun a a' => Si.pure (V := fun a b => ex = true → a = b) (withE { ntZ with k := 4 } a) (withE { ntZ with k := 4 } a') (fun hc _ => by rw [hc.2]))
  ·exact Si.bind si_often (fun a a' => si_aroundN (hK.when (fun hc => hc.1)) (withE { ntZ with k := 6 } a) (withE { ntZ with k := 6 } a') (fun hc => by rw [hc.2]))
  ·exact Si.bind si_often (fun a a' => si_aroundN (hK.when (fun hc => hc.1)) (withE { ntZ with k := 8 } a) (withE { ntZ with k := 8 } a') (fun hc => by rw [hc.2]))
  ·exact si_around hK _
  ·exact si_choose hK
  ·exact si_among hK false
  ·exact si_among hK true
  ·exact Si.pure _ _ (fun _ _ => rfl)
  ·exact Si.pure _ _ (fun _ _ => rfl)
omit hK in
theorem pass_fit {s t : RS} (q : Lv B k m ex (passP s) (passP t)) (h : Lv B k m ex s t) (ho : Ok (passP s)) (h2 : 2 ≤ s.ts.length) : (passP s).ts.length + 1 = s.ts.length ∧ (passP t).ts.length + 1 = t.ts.length := by
 have e1 := h.len
 have e2 := q.len
 have e3 : (passP s).ts.length + 1 = s.ts.length := by
  rw [(pass_eq ho).2 (by omega)]
  show (s.ts.drop 1).length + 1 = _
  rw [List.length_drop]
  omega
 exact ⟨e3, by omega⟩
theorem si_node : Si B k m ex (N + 1) (N' + 1) c (nodeP K) (nodeP K') (fun a b => ex = true → a = b) := by
 refine ⟨fun s => wk_node hK.w s, fun s => wk_node hK.w' s, fun hc s t h l l' ho h2 => ?_⟩
 have hs := two_le (wk_node hK.w s) h.e.pos h2
 have hn := h.nxt hs
 have hi : isP 4 [123] t = isP 4 [123] s := by unfold isP; rw [hn]
 unfold nodeP at ho h2 ⊢
 rw [hn, hi]
 split at ho
 ·rename_i h1
  rw [if_pos h1] at h2
  rw [if_pos h1, if_pos h1]
  exact (sim_pass h ho hs).mk (fun _ => rfl)
 ·rename_i h1
  rw [if_neg h1] at h2
  rw [if_neg h1, if_neg h1]
  split at ho
  ·rename_i h1
   rw [if_pos h1] at h2
   rw [if_pos h1, if_pos h1]
   have hN := si_named hK (nxt s).2
   have op := (hN.w _).ok ho
   rcases sim_pass h op hs with ⟨q, _⟩ | b
   ·have := pass_fit q h op hs
    exact hN.sim hc _ _ q (by omega) (by omega) ho h2
   ·exact .inr (b.go (hN.w _).go (hN.w' _).go)
  ·rename_i h1
   rw [if_neg h1] at h2
   rw [if_neg h1, if_neg h1]
   split at ho
   ·rename_i h1
    rw [if_pos h1] at h2
    rw [if_pos h1, if_pos h1]
    have hN := si_record hK
    have op := (hN.w _).ok ho
    rcases sim_pass h op hs with ⟨q, _⟩ | b
    ·have := pass_fit q h op hs
     exact hN.sim hc _ _ q (by omega) (by omega) ho h2
    ·exact .inr (b.go (hN.w _).go (hN.w' _).go)
   ·exact absurd ho (not_fail (by decide) s)
theorem si_kindG (deep : Nat) : Si B k m ex (N + 1) (N' + 1) c (kindG K deep) (kindG K' deep) (fun a b => ex = true → a = b) := by
 refine ⟨fun s => wk_kindG hK.w deep s, fun s => wk_kindG hK.w' deep s, fun hc s t h l l' ho h2 => ?_⟩
 have hN := si_node hK
 unfold kindG at ho h2 ⊢
 simp only at ho h2 ⊢
 by_cases hd : 24 < deep
 ·exfalso
  rw [if_pos hd] at ho
  have h1 : Ok (nodeP K (oweP 6 s)).2 := by
   split at ho
   ·exact absurd ho (not_owe (by decide) _)
   ·exact ho
  exact not_owe (by decide) s ((hN.w _).ok h1)
 ·rw [if_neg hd] at ho h2
  rw [if_neg hd, if_neg hd]
  have hsim := hN.sim hc s t h l l'
  generalize nodeP K s = a at *
  generalize nodeP K' t = a' at *
  split at ho
  ·exact absurd ho (not_owe (by decide) _)
  ·rename_i h48
   rw [if_neg h48] at h2
   rw [if_neg h48]
   have g1 : Go1 a.2 ⟨a.2.ts, a.2.ns ++ [a.1], a.2.ds, a.2.du, a.2.fc, a.2.fi⟩ := ⟨fun _ => rfl, List.prefix_append _ _, List.prefix_refl _⟩
   have hl1 : (a.2.ns ++ [a.1]).length = a.2.ns.length + 1 := by rw [List.length_append]; rfl
   have hes : EndS a.2 → EndS ⟨a.2.ts, a.2.ns ++ [a.1], a.2.ds, a.2.du, a.2.fc, a.2.fi⟩ := id
   rcases hsim ho h2 with ⟨q, v⟩ | b
   ·by_cases h9 : a'.2.ns.length = 2048
    ·rw [if_pos h9]
     refine .inl ⟨⟨hes q.e, q.ts, q.b, q.fc, .inr ?_⟩, fun x => ?_⟩
     ·rcases q.st with ⟨d0, n0, m0, x0⟩ | ⟨d2, hov⟩
      ·have hex : ex = false := by
        cases hh : ex with
        | false => rfl
        | true => exact absurd (by rw [← (x0 hh).1]; exact h9) h48
       refine ⟨if_pos d0, hex, .inl ?_⟩
       show 2048 < (a.2.ns ++ [a.1]).length + k
       omega
      ·refine ⟨?_, hov.go g1⟩
       show (if a'.2.du = 0 then 2 else a'.2.du) = 2
       rw [if_neg (by omega), d2]
     ·exfalso
      rcases q.st with ⟨d0, n0, m0, x0⟩ | ⟨d2, hov⟩
      ·exact h48 (by rw [← (x0 x).1]; exact h9)
      ·rw [x] at hov; exact absurd hov.1 (by decide)
    ·rw [if_neg h9]
     refine .inl ⟨⟨hes q.e, q.ts, q.b, q.fc, ?_⟩, fun x => ?_⟩
     ·rcases q.st with ⟨d0, n0, m0, x0⟩ | ⟨d2, hov⟩
      ·refine .inl ⟨d0, ?_, m0, fun x => ⟨?_, (x0 x).2⟩⟩
       ·show (a'.2.ns ++ [a'.1]).length = (a.2.ns ++ [a.1]).length + k
        rw [List.length_append, hl1]
        show a'.2.ns.length + 1 = _
        omega
       ·show a'.2.ns ++ [a'.1] = a.2.ns ++ [a.1]
        rw [(x0 x).1, v x]
      ·exact .inr ⟨d2, hov.go g1⟩
     ·rcases q.st with ⟨d0, n0, m0, x0⟩ | ⟨d2, hov⟩
      ·rw [(x0 x).1]
      ·rw [x] at hov; exact absurd hov.1 (by decide)
   ·refine .inr (b.go g1 ?_)
    split
    ·exact go_owe _ _
    ·exact ⟨fun _ => rfl, List.prefix_append _ _, List.prefix_refl _⟩
end
theorem si_kindP : ∀ (n n' deep : Nat), Si B k m ex n n' c (kindP n deep) (kindP n' deep) (fun a b => ex = true → a = b)
 | 0, n', deep => ⟨wk_kind 0 deep, wk_kind n' deep, fun hc s t h l _ _ _ => absurd h.e.pos (by omega)⟩
 | n + 1, 0, deep => ⟨wk_kind (n + 1) deep, wk_kind 0 deep, fun hc s t h _ l _ _ => absurd h.tpos (by omega)⟩
 | n + 1, n' + 1, deep => si_kindG (si_kindP n n' (deep + 1)) deep
end Go.Proofs.YtfcccfplmdjndaaGreat

/- parse: names one behind the other: of two lists of tokens, one behind the other, what both are. -/
namespace Go.Proofs.YtfcccfplmdjndaaGreat
set_option linter.unusedSimpArgs false
set_option linter.unusedVariables false

variable {B : List TX} {k m : Nat} {ex : Bool}
def frontP (n : Nat) (s : RS) : (List UInt8 × Int) × RS :=
 let a := nameP s
 let b := kindP n 0 (signP [61] a.2)
 ((a.1, b.1), b.2)
theorem si_front (n n' : Nat) : Si B k m ex n n' True (frontP n) (frontP n') (fun a b => a.1 = b.1 ∧ (ex = true → a.2 = b.2)) := by
 have h := Si.bind (si_name (B := B) (k := k) (m := m) (ex := ex) (N := n) (N' := n') (c := True)) (fun a a' => Si.bind (si_sign [61]) (fun _ _ => Si.bind (si_kindP n n' 0) (fun b b' => Si.pure (V := fun a b : List UInt8 × Int => a.1 = b.1 ∧ (ex = true → a.2 = b.2)) (a, b) (a', b') (fun hc => ⟨hc.1.1.2, hc.2⟩))))
 exact h
theorem def_front (n : Nat) (s : RS) : defP n s = nameA (frontP n s).1.1 (frontP n s).1.2 (signP [59] (frontP n s).2) := rfl
theorem sign_nxt {y : List UInt8} {s : RS} (h : Ok (signP y s)) : nxt s = (4, y) := by
 unfold signP at h
 split at h
 ·rename_i hi
  exact of_decide_eq_true hi
 ·exact absurd h (not_fail (by decide) s)
theorem nameA_ok {nm : List UInt8} {j : Int} {s : RS} (h : Ok (nameA nm j s)) : s.ds.length ≠ 64 ∧ Ok s := by
 unfold nameA at h
 split at h
 ·exact absurd h (not_owe (by decide) s)
 ·exact ⟨‹_›, h⟩
theorem sim_def {s t : RS} (h : Lv B k m ex s t) (n n' : Nat) (l : s.ts.length ≤ n) (l' : t.ts.length ≤ n') (ho : Ok (defP n s)) : Sm B k m ex True (defP n s) (defP n' t) := by
 have hF := si_front (B := B) (k := k) (m := m) (ex := ex) n n'
 rw [def_front] at ho ⊢
 rw [def_front]
 have hsim := hF.sim trivial s t h l l'
 have hw := hF.w s
 generalize frontP n s = a at *
 generalize frontP n' t = a' at *
 obtain ⟨h64, ho1⟩ := nameA_ok ho
 have hn := sign_nxt ho1
 have ho2 := (flat_sign _ _).ok ho1
 have he2 := h.e.suf (hw.suf h.e.pos)
 have h2 : 2 ≤ a.2.ts.length := he2.two (by rw [hn]; decide)
 have gA : ∀ (s : RS), s.ds.length ≠ 64 → ∀ nm j, nameA nm j s = ⟨s.ts, s.ns, s.ds ++ [⟨strB nm, j⟩], s.du, s.fc, s.fi⟩ := fun s hs nm j => by
  unfold nameA
  rw [if_neg hs]
 rcases hsim ho2 h2 with ⟨q, v1, v2⟩ | b
 ·rcases sim_sign q [59] ho1 h2 with ⟨q2, _⟩ | b2
  ·have g1 := go_nameA a.1.1 a.1.2 (signP [59] a.2)
   have e1 := gA _ h64 a.1.1 a.1.2
   generalize signP [59] a.2 = u at *
   generalize signP [59] a'.2 = u' at *
   refine .inl ⟨?_, trivial⟩
   by_cases h9 : u'.ds.length = 64
   ·have e2 : nameA a'.1.1 a'.1.2 u' = oweP 2 u' := by unfold nameA; rw [if_pos h9]
    rw [e2]
    refine ⟨by rw [e1]; exact q2.e, by rw [e1]; exact q2.ts, q2.b, q2.fc, .inr ?_⟩
    rcases q2.st with ⟨d0, n0, m0, x0⟩ | ⟨d2, hov⟩
    ·have hex : ex = false := by
      cases hh : ex with
      | false => rfl
      | true => exact absurd (by rw [← (x0 hh).2]; exact h9) h64
     refine ⟨if_pos d0, hex, .inr ?_⟩
     rw [e1]
     show 64 < (u.ds ++ [_]).length + m
     rw [List.length_append]
     show 64 < u.ds.length + 1 + m
     omega
    ·refine ⟨?_, hov.go g1⟩
     show (if u'.du = 0 then 2 else u'.du) = 2
     rw [if_neg (by omega), d2]
   ·have e2 := gA _ h9 a'.1.1 a'.1.2
    rw [e2]
    refine ⟨by rw [e1]; exact q2.e, by rw [e1]; exact q2.ts, q2.b, q2.fc, ?_⟩
    rcases q2.st with ⟨d0, n0, m0, x0⟩ | ⟨d2, hov⟩
    ·refine .inl ⟨d0, ?_, ?_, fun x => ?_⟩
     ·rw [e1]; exact n0
     ·rw [e1]
      show (u'.ds ++ [_]).length = (u.ds ++ [_]).length + m
      rw [List.length_append, List.length_append]
      show u'.ds.length + 1 = u.ds.length + 1 + m
      omega
     ·rw [e1]
      refine ⟨(x0 x).1, ?_⟩
      show u'.ds ++ [_] = u.ds ++ [_]
      rw [(x0 x).2, v1, v2 x]
    ·exact .inr ⟨d2, hov.go g1⟩
  ·exact .inr (b2.go (go_nameA _ _ _) (go_nameA _ _ _))
 ·exact .inr (b.go ((go_sign _ _).trans (go_nameA _ _ _)) ((go_sign _ _).trans (go_nameA _ _ _)))
theorem one_end {s : RS} (he : EndS s) (h1 : s.ts.length = 1) : ∃ e : TX, s.ts = [e] ∧ e.1 = 5 := by
 obtain ⟨l, x, e, h5⟩ := he
 rw [e, List.length_append, List.length_singleton] at h1
 have hl : l = [] := List.eq_nil_of_length_eq_zero (by omega)
 exact ⟨x, by rw [e, hl]; rfl, h5⟩
theorem names_succ (n q : Nat) (s : RS) : namesP n (q + 1) s = if (nxt (defP n s)).1 = 5 then passP (defP n s) else namesP n q (defP n s) := rfl
theorem def_first {n : Nat} {s : RS} (h : Ok (defP n s)) : (nxt s).1 = 1 := by
 have ho : Ok (nameP s).2 := ((((wk_sign [61] _).trans (wk_kind n 0 _)).trans (wk_sign [59] _)).trans (wk_nameA _ _ _)).ok h
 unfold nameP at ho
 split at ho
 ·exact absurd ho (not_fail (by decide) s)
 ·rename_i h1
  by_cases e : (nxt s).1 = 1
  ·exact e
  ·exact absurd (.inl e) h1
theorem sim_names {e : TX} (hB : B = [e]) (h5 : e.1 = 5) (n n' : Nat) : ∀ (q q' : Nat) (s t : RS), Lv B k m ex s t → s.ts.length ≤ q → t.ts.length ≤ q' → s.ts.length ≤ n → t.ts.length ≤ n' → Ok (namesP n q s) → Sm B k m ex True (namesP n q s) (namesP n' q' t)
 | 0, _, s, t, h, hq, _, _, _, _ => absurd h.e.pos (by omega)
 | q + 1, 0, s, t, h, _, hq, _, _, _ => absurd h.tpos (by omega)
 | q + 1, q' + 1, s, t, h, hq, hq', l, l', ho => by
  unfold namesP at ho ⊢
  simp only at ho ⊢
  have hdd := dec_def n h.e.pos
  have hsu := suf_def n h.e.pos
  have gd := go_def n s
  have gd' := go_def n' t
  have hod : Ok (defP n s) := by
   split at ho
   ·exact (flat_pass _).ok ho
   ·exact ((names_hold n q (defP n s)).1).ok ho
  have hsim := sim_def h n n' l l' hod
  generalize defP n s = a at *
  generalize defP n' t = a' at *
  have hea := h.e.suf hsu
  have wr' : Go1 a' (if (nxt a').1 = 5 then passP a' else namesP n' q' a') := by
   split
   ·exact go_pass _
   ·exact go_names n' q' _
  have wr : Go1 a (if (nxt a).1 = 5 then passP a else namesP n q a) := by
   split
   ·exact go_pass _
   ·exact go_names n q _
  rcases hsim with ⟨q1, _⟩ | b
  ·have e1 := h.len
   have e2 := q1.len
   rcases Nat.lt_or_ge 1 a.ts.length with h1 | h1
   ·have hn := q1.nxt h1
    rw [hn]
    by_cases hh : (nxt a).1 = 5
    ·rw [if_pos hh] at ho
     rw [if_pos hh, if_pos hh]
     exact sim_pass q1 ho h1
    ·rw [if_neg hh] at ho
     rw [if_neg hh, if_neg hh]
     have hlt := hdd.less hea hh
     exact sim_names hB h5 n n' q q' _ _ q1 (by omega) (by omega) (by omega) (by omega) ho
   ·have h1' : a.ts.length = 1 := by have := hea.pos; omega
    obtain ⟨x, hx, hx5⟩ := one_end hea h1'
    have ht : a'.ts = [e] := by rw [q1.ts, hx, hB]; rfl
    have hn1 : (nxt a).1 = 5 := by unfold nxt; rw [hx]; exact hx5
    have hn2 : (nxt a').1 = 5 := by unfold nxt; rw [ht]; exact h5
    rw [if_pos hn1] at ho
    rw [if_pos hn1, if_pos hn2]
    have hd := (pass_eq ho).1
    have hpa : passP a = a := by
     unfold passP
     rw [if_neg (by omega), if_neg (by omega)]
    rcases q1.st with ⟨d0, r⟩ | ⟨d2, hov⟩
    ·have hpa' : passP a' = a' := by
      unfold passP
      rw [if_neg (by omega), if_neg (by rw [ht]; simp)]
     rw [hpa, hpa']
     exact .inl ⟨q1, trivial⟩
    ·refine .inr ⟨?_, by rw [hpa]; exact hov⟩
     unfold passP
     rw [if_pos (by omega), d2]
     show (if a'.fc = 0 then 2 else a'.fc) = 2
     rw [if_pos q1.fc]
  ·exact .inr (b.go wr wr')
theorem ext_names {e : TX} {B0 : List TX} (hB : B = e :: B0) (h5 : e.1 ≠ 5) (n n' : Nat) : ∀ (q q' : Nat) (s t : RS), Lv B 0 0 true s t → (∀ x ∈ s.ts.dropLast, x.1 ≠ 5) → s.ts.length ≤ q → t.ts.length ≤ q' → s.ts.length ≤ n → t.ts.length ≤ n' → Ok (namesP n q s) → ∃ (r : Nat) (u : RS), B.length ≤ r ∧ namesP n' q' t = namesP n' r u ∧ u.ts = B ∧ u.ns = (namesP n q s).ns ∧ u.ds = (namesP n q s).ds ∧ u.du = 0 ∧ u.fc = 0
 | 0, _, s, t, h, _, hq, _, _, _, _ => absurd h.e.pos (by omega)
 | q + 1, 0, s, t, h, _, _, hq, _, _, _ => absurd h.tpos (by omega)
 | q + 1, q' + 1, s, t, h, h55, hq, hq', l, l', ho => by
  rw [names_succ] at ho
  rw [names_succ n q s, names_succ n' q' t]
  have hdd := dec_def n h.e.pos
  have hsu := suf_def n h.e.pos
  have hod : Ok (defP n s) := by
   split at ho
   ·exact (flat_pass _).ok ho
   ·exact ((names_hold n q (defP n s)).1).ok ho
  have hsim := sim_def h n n' l l' hod
  have hs2 := h.e.two (show (nxt s).1 ≠ 5 by rw [def_first hod]; decide)
  generalize defP n s = a at *
  generalize defP n' t = a' at *
  have hea := h.e.suf hsu
  have h55a : ∀ x ∈ a.ts.dropLast, x.1 ≠ 5 := by
   obtain ⟨j, hj, e, _⟩ := hsu
   intro x hx
   rw [e] at hx
   refine h55 x ?_
   rw [List.dropLast_eq_take, List.length_drop] at hx
   rw [List.dropLast_eq_take]
   have hx2 : x ∈ (s.ts.take (s.ts.length - 1)).drop j := by
    rw [List.drop_take]
    have : s.ts.length - 1 - j = s.ts.length - j - 1 := by omega
    rw [this]
    exact hx
   exact List.mem_of_mem_drop hx2
  rcases hsim with ⟨q1, _⟩ | b
  ·have e1 := h.len
   have e2 := q1.len
   rcases Nat.lt_or_ge 1 a.ts.length with h1 | h1
   ·have hn := q1.nxt h1
    have hh : (nxt a).1 ≠ 5 := by
     have hm : nxt a ∈ a.ts.dropLast := by
      unfold nxt
      cases hs : a.ts with
      | nil => rw [hs] at h1; simp at h1
      | cons x r =>
       cases r with
       | nil => rw [hs] at h1; simp at h1
       | cons y r => simp
     exact h55a _ hm
    rw [hn]
    rw [if_neg hh] at ho
    rw [if_neg hh, if_neg hh]
    have hlt := hdd.less hea hh
    exact ext_names hB h5 n n' q q' _ _ q1 h55a (by omega) (by omega) (by omega) (by omega) ho
   ·have h1' : a.ts.length = 1 := by have := hea.pos; omega
    obtain ⟨x, hx, hx5⟩ := one_end hea h1'
    have ht : a'.ts = B := by rw [q1.ts, hx]; rfl
    have hn1 : (nxt a).1 = 5 := by unfold nxt; rw [hx]; exact hx5
    have hn2 : (nxt a').1 ≠ 5 := by unfold nxt; rw [ht, hB]; exact h5
    rw [if_pos hn1] at ho
    rw [if_pos hn1, if_neg hn2]
    have hd := (pass_eq ho).1
    have hpa : passP a = a := by
     unfold passP
     rw [if_neg (by omega), if_neg (by omega)]
    rw [hpa]
    rcases q1.st with ⟨d0, _, _, x0⟩ | ⟨d2, hov⟩
    ·exact ⟨q', a', by omega, rfl, ht, (x0 rfl).1, (x0 rfl).2, d0, q1.fc⟩
    ·exact absurd hov.1 (by decide)
  ·exact absurd b.2.1 (by decide)
end Go.Proofs.YtfcccfplmdjndaaGreat

/- parse: what two texts are, one behind the other. -/
namespace Go.Proofs.YtfcccfplmdjndaaGreat
set_option linter.unusedSimpArgs false
set_option linter.unusedVariables false

theorem join_parse {A0 B0 : List TX} {e e' : TX} (he : e.1 = 5) (he' : e'.1 = 5) (hA : ∀ x ∈ A0, x.1 ≠ 5) (oa : Ok (parseL (A0 ++ [e]))) (ob : Ok (parseL (B0 ++ [e']))) :
  ((parseL (A0 ++ (B0 ++ [e']))).fc = 0 ∧ (parseL (A0 ++ (B0 ++ [e']))).ns.length = (parseL (B0 ++ [e'])).ns.length + (parseL (A0 ++ [e])).ns.length ∧ (parseL (A0 ++ (B0 ++ [e']))).ds.length = (parseL (B0 ++ [e'])).ds.length + (parseL (A0 ++ [e])).ds.length ∧ (parseL (A0 ++ [e])).ns <+: (parseL (A0 ++ (B0 ++ [e']))).ns ∧ (parseL (A0 ++ [e])).ds <+: (parseL (A0 ++ (B0 ++ [e']))).ds) ∨
  ((parseL (A0 ++ (B0 ++ [e']))).fc = 2 ∧ (2048 < (parseL (B0 ++ [e'])).ns.length + (parseL (A0 ++ [e])).ns.length ∨ 64 < (parseL (B0 ++ [e'])).ds.length + (parseL (A0 ++ [e])).ds.length)) := by
 obtain ⟨T, hT⟩ : ∃ T, T = B0 ++ [e'] := ⟨_, rfl⟩
 have hTe : T = T.dropLast ++ [e'] := by rw [hT, List.dropLast_concat]
 have hTl : 0 < T.length := by rw [hT]; simp
 have heT : EndS (startS T) := ⟨B0, e', hT, he'⟩
 rw [← hT] at ob ⊢
 have hf : (nxt (startS T)).1 = 1 := by
  unfold parseL at ob
  obtain ⟨q, hq⟩ : ∃ q, T.length = q + 1 := ⟨T.length - 1, by omega⟩
  have ob2 : Ok (namesP T.length (q + 1) (startS T)) := by rw [← hq]; exact ob
  rw [names_succ] at ob2
  refine def_first (n := T.length) ?_
  split at ob2
  ·exact (flat_pass _).ok ob2
  ·exact ((names_hold _ _ _).1).ok ob2
 obtain ⟨x, T0, hx⟩ : ∃ x T0, T = x :: T0 := by
  cases T with
  | nil => simp at hTl
  | cons x T0 => exact ⟨x, T0, rfl⟩
 have hx5 : x.1 ≠ 5 := by
  have : nxt (startS T) = x := by rw [hx]; rfl
  rw [← this, hf]
  decide
 have h1 : Lv T 0 0 true (startS (A0 ++ [e])) (startS (A0 ++ T)) :=
  ⟨⟨A0, e, rfl, he⟩, by show A0 ++ T = (A0 ++ [e]).dropLast ++ T; rw [List.dropLast_concat], hTl, rfl, .inl ⟨rfl, rfl, rfl, fun _ => ⟨rfl, rfl⟩⟩⟩
 have hle : (A0 ++ [e]).length ≤ (A0 ++ T).length := by rw [List.length_append, List.length_append]; simp; omega
 obtain ⟨r, u, hr, hu, u1, u2, u3, u4, u5⟩ := ext_names hx hx5 (A0 ++ [e]).length (A0 ++ T).length (A0 ++ [e]).length (A0 ++ T).length _ _ h1 (by intro y hy; rw [show (startS (A0 ++ [e])).ts = A0 ++ [e] from rfl, List.dropLast_concat] at hy; exact hA y hy) (Nat.le_refl _) (Nat.le_refl _) (Nat.le_refl _) (Nat.le_refl _) oa
 have h2 : Lv [e'] (parseL (A0 ++ [e])).ns.length (parseL (A0 ++ [e])).ds.length false (startS T) u :=
  ⟨heT, by rw [u1]; exact hTe, by simp, u5, .inl ⟨u4, by rw [u2]; exact (Nat.zero_add _).symm, by rw [u3]; exact (Nat.zero_add _).symm, fun h => by cases h⟩⟩
 have hz := sim_names rfl he' T.length (A0 ++ T).length T.length r (startS T) u h2 (Nat.le_refl _) (by rw [u1]; exact hr) (Nat.le_refl _) (by rw [u1, List.length_append]; omega) ob
 have hZ : parseL (A0 ++ T) = namesP (A0 ++ T).length r u := hu
 have heZ : EndS (startS (A0 ++ T)) := ⟨A0 ++ B0, e', by rw [hT, ← List.append_assoc]; rfl, he'⟩
 have hdu := names_du (A0 ++ T).length (A0 ++ T).length (startS (A0 ++ T)) heZ (Nat.le_refl _)
 have hgo := go_names (A0 ++ T).length r u
 rw [← hZ] at hz hgo
 have hdu : (parseL (A0 ++ T)).fc = 0 → (parseL (A0 ++ T)).du = 0 := hdu
 rcases hz with ⟨q, _⟩ | b
 ·have hf0 := q.fc
  have hd0 := hdu hf0
  rcases q.st with ⟨_, n0, m0, _⟩ | ⟨d2, _⟩
  ·exact .inl ⟨hf0, n0, m0, by have := hgo.ns; rw [u2] at this; exact this, by have := hgo.ds; rw [u3] at this; exact this⟩
  ·rw [hd0] at d2; cases d2
 ·exact .inr ⟨b.1, b.2.2⟩
end Go.Proofs.YtfcccfplmdjndaaGreat
