/- parse: what it does, as functions of the tokens that are left. -/
import Derived.Test.YtfcccfplmdjndaaGreatSpC
import Derived.Test.YtfcccfplmdjndaaGreatDMath
import Derived.Lib.Strings
namespace Go.Proofs.YtfcccfplmdjndaaGreat
set_option linter.unusedSimpArgs false
set_option linter.unusedVariables false

def s_varint : List UInt8 := [118, 97, 114, 105, 110, 116]
def s_zigzag : List UInt8 := [122, 105, 103, 122, 97, 103]
def s_lenient : List UInt8 := [108, 101, 110, 105, 101, 110, 116]
def s_bytes : List UInt8 := [98, 121, 116, 101, 115]
def s_times : List UInt8 := [116, 105, 109, 101, 115]
def s_many : List UInt8 := [109, 97, 110, 121]
def s_within : List UInt8 := [119, 105, 116, 104, 105, 110]
def s_switch : List UInt8 := [115, 119, 105, 116, 99, 104]
def s_else : List UInt8 := [101, 108, 115, 101]
def s_oneof : List UInt8 := [111, 110, 101, 111, 102]
def s_chain : List UInt8 := [99, 104, 97, 105, 110]
def s_last : List UInt8 := [108, 97, 115, 116]
def s_empty : List UInt8 := [101, 109, 112, 116, 121]
def s_size : List UInt8 := [115, 105, 122, 101]
def s_count : List UInt8 := [99, 111, 117, 110, 116]
def s_crc : List UInt8 := [99, 114, 99]
def sWords : List (List UInt8) := [s_varint, s_zigzag, s_lenient, s_bytes, s_times, s_many, s_within, s_switch, s_else, s_oneof, s_chain, s_last, s_empty, s_size, s_count, s_crc]
def sNot : List (List UInt8) := [s_lenient, s_else, s_last, s_size, s_count, s_crc]
def wrtB (l : List UInt8) : Bool := l.all (fun c => decide (48 ≤ c.toNat) && decide (c.toNat ≤ 57)) && !l.isEmpty && (decide (l.length = 1) || !decide (l.getD 0 0 = 48))
def parN (l : List UInt8) : Nat × Nat := if wrtB l = false then (0, 5) else if 18446744073709551616 ≤ valL l then (0, 40) else (valL l, 0)
def fixD (digits : List UInt8) (little ok : Bool) : Option (Nat × Bool) :=
 if ok = true ∧ (parN digits).2 = 0 ∧ 16 ≤ (parN digits).1 ∧ (parN digits).1 ≤ 64 ∧ (parN digits).1 % 8 = 0 then some ((parN digits).1 / 8, little) else none
def fixP (x : List UInt8) : Option (Nat × Bool) :=
 if x = [117, 56] then some (1, false)
 else if Lib.hasSuffix (Lib.trimPrefix x [117]) [108, 101] = true then fixD (Lib.trimSuffix (Lib.trimPrefix x [117]) [108, 101]) true (Lib.hasPrefix x [117])
 else fixD (Lib.trimSuffix (Lib.trimPrefix x [117]) [98, 101]) false (Lib.hasPrefix x [117] && Lib.hasSuffix (Lib.trimPrefix x [117]) [98, 101])
def wordP (x : List UInt8) : Bool := sWords.contains x || (fixP x).isSome
def begP (x : List UInt8) : Bool := !sNot.contains x

abbrev TX := Nat × List UInt8
structure RS where
 ts : List TX
 ns : List NT
 ds : List DT
 du : Nat
 fc : Nat
 fi : Nat
def nxt (s : RS) : TX := s.ts.headD (5, [])
def failP (c : Nat) (s : RS) : RS := ⟨s.ts.drop (s.ts.length - 1), s.ns, s.ds, s.du, if s.fc = 0 then c else s.fc, if s.fc = 0 then s.ts.length else s.fi⟩
def oweP (c : Nat) (s : RS) : RS := ⟨s.ts, s.ns, s.ds, if s.du = 0 then c else s.du, s.fc, s.fi⟩
def passP (s : RS) : RS := if s.du ≠ 0 then failP s.du s else if 1 < s.ts.length then ⟨s.ts.drop 1, s.ns, s.ds, s.du, s.fc, s.fi⟩ else s
def isP (k : Nat) (x : List UInt8) (s : RS) : Bool := decide (nxt s = (k, x))
def tookP (k : Nat) (x : List UInt8) (s : RS) : Bool × RS := if isP k x s = true then (true, passP s) else (false, s)
def signP (x : List UInt8) (s : RS) : RS := if isP 4 x s = true then passP s else failP 5 s
def nameP (s : RS) : List UInt8 × RS := if (nxt s).1 ≠ 1 ∨ wordP (nxt s).2 = true then ([], failP 5 s) else ((nxt s).2, passP s)
def numP (low high : Nat) (s : RS) : Nat × RS :=
 if (nxt s).1 ≠ 2 then (0, failP 5 s)
 else if (parN (nxt s).2).2 ≠ 0 then (0, passP (failP (parN (nxt s).2).2 s))
 else if low ≤ (parN (nxt s).2).1 ∧ (parN (nxt s).2).1 ≤ high then ((parN (nxt s).2).1, passP s)
 else ((parN (nxt s).2).1, passP (failP 1 s))
def roomP (many : Nat) (s : RS) : RS := if many = 64 then oweP 2 s else s
def strB (l : List UInt8) : ByteArray := ⟨l.toArray⟩
def ntZ : NT := ⟨0, 0, false, false, false, 0, 0, strB [], strB [], 0, 0, [], [], [], strB [], 0, [], 0⟩
def uMax : Nat := 18446744073709551615
def rangedP (n : NT) (s : RS) : NT × RS :=
 if (nxt s).1 = 2 then
  let a := numP 0 uMax s
  let b := signP [46, 46] a.2
  let c := numP a.1 (mostV n.k n.wd) b
  ({ n with mn := a.1, mx := c.1 }, c.2)
 else ({ n with mx := mostV n.k n.wd }, s)
abbrev EX := List UInt8 × Nat × Nat
def reckB (mul : Nat) (s : RS) : EX × RS :=
 let a := nameP s
 let b := tookP 4 [43] a.2
 if b.1 = true then
  let c := numP 0 uMax b.2
  ((a.1, mul, c.1), c.2)
 else ((a.1, mul, 0), b.2)
def reckP (s : RS) : EX × RS :=
 if (nxt s).1 = 2 then
  let a := numP 0 uMax s
  let b := tookP 4 [42] a.2
  if b.1 = true then reckB a.1 (if a.1 = 0 then oweP 1 b.2 else b.2)
  else (([], 0, a.1), b.2)
 else reckB 1 s
def oftenP (s : RS) : EX × RS :=
 let a := reckP (signP [91] s)
 (a.1, signP [93] a.2)
def withE (n : NT) (x : EX) : NT := { n with er := strB x.1, mu := x.2.1, ad := x.2.2 }
section
variable (K : RS → Int × RS)
def aroundP (n : NT) (s : RS) : NT × RS := let a := K s; ({ n with ks := [a.1] }, a.2)
def toldP (s : RS) : Int × RS := let a := K (signP [58] s); (a.1, signP [59] a.2)
def deriveP (s : RS) : (Int × List UInt8 × List UInt8) × RS :=
 let a := tookP 1 s_size s
 let b := tookP 1 s_count s
 let c := tookP 1 s_crc s
 let d : Int × RS := if a.1 = true then (1, a.2) else if b.1 = true then (2, b.2) else if c.1 = true then (3, c.2) else (0, failP 5 s)
 let e := nameP (signP [40] d.2)
 if d.1 = 3 then
  let g := nameP (signP [46, 46] e.2)
  ((d.1, e.1, g.1), signP [41] g.2)
 else ((d.1, e.1, []), signP [41] e.2)
def fieldP (s : RS) : FT × RS :=
 let a := nameP s
 let b := K (signP [58] a.2)
 let c := tookP 4 [61] b.2
 if c.1 = true then
  let d := deriveP c.2
  (⟨strB a.1, b.1, d.1.1, strB d.1.2.1, strB d.1.2.2⟩, signP [59] d.2)
 else (⟨strB a.1, b.1, 0, strB [], strB []⟩, signP [59] c.2)
def fieldsP : Nat → List FT → RS → List FT × RS
 | 0, fs, s => (fs, s)
 | m + 1, fs, s =>
  let a := fieldP K (roomP fs.length s)
  if (nxt a.2).1 = 1 then fieldsP m (fs ++ [a.1]) a.2 else (fs ++ [a.1], a.2)
def recordP (s : RS) : NT × RS :=
 let a := fieldsP K s.ts.length [] s
 ({ ntZ with k := 5, fs := a.1 }, signP [125] a.2)
def casesP : Nat → List CT → RS → List CT × RS
 | 0, cs, s => (cs, s)
 | m + 1, cs, s =>
  let a := numP 0 uMax (roomP cs.length s)
  let b := toldP K a.2
  if (nxt b.2).1 = 2 then casesP m (cs ++ [⟨a.1, b.1⟩]) b.2 else (cs ++ [⟨a.1, b.1⟩], b.2)
def chooseP (s : RS) : NT × RS :=
 let a := nameP s
 let b := tookP 4 [37] a.2
 let c : Nat × RS := if b.1 = true then numP 1 uMax b.2 else (0, b.2)
 let d := signP [123] c.2
 let e := casesP K d.ts.length [] d
 let f := tookP 1 s_else e.2
 if f.1 = true then
  let g := toldP K f.2
  ({ ntZ with k := 9, rg := strB a.1, md := c.1, cs := e.1, el := g.1 }, signP [125] g.2)
 else ({ ntZ with k := 9, rg := strB a.1, md := c.1, cs := e.1, el := -1 }, signP [125] f.2)
def kidsP (chain : Bool) : Nat → List Bool → List Int → RS → (List Bool × List Int) × RS
 | 0, ls, ks, s => ((ls, ks), s)
 | m + 1, ls, ks, s =>
  let a := roomP ks.length s
  let b : List Bool × RS := if chain = true then (ls ++ [(tookP 1 s_last a).1], (tookP 1 s_last a).2) else (ls, a)
  let c := K b.2
  let d := tookP 4 [124] c.2
  if d.1 = true then kidsP chain m b.1 (ks ++ [c.1]) d.2 else ((b.1, ks ++ [c.1]), d.2)
def amongP (chain : Bool) (s : RS) : NT × RS :=
 let a := signP [123] s
 let b := kidsP K chain a.ts.length [] [] a
 ({ ntZ with k := if chain = true then 11 else 10, ls := b.1.1, ks := b.1.2 }, signP [125] b.2)
def namedP (x : List UInt8) (s : RS) : NT × RS :=
 match fixP x with
 | some (wd, li) => rangedP { ntZ with k := 1, wd := (wd : Int), li := li } s
 | none =>
  if x = s_varint ∨ x = s_zigzag then
   let a := tookP 1 s_lenient s
   rangedP { ntZ with k := 2, zg := decide (x = s_zigzag), le := a.1 } a.2
  else if x = s_bytes then let a := oftenP s; (withE { ntZ with k := 4 } a.1, a.2)
  else if x = s_times then let a := oftenP s; aroundP K (withE { ntZ with k := 6 } a.1) a.2
  else if x = s_within then let a := oftenP s; aroundP K (withE { ntZ with k := 8 } a.1) a.2
  else if x = s_many then aroundP K { ntZ with k := 7 } s
  else if x = s_switch then chooseP K s
  else if x = s_oneof then amongP K false s
  else if x = s_chain then amongP K true s
  else if x = s_empty then ({ ntZ with k := 12 }, s)
  else ({ ntZ with k := 13, tx := strB x }, s)
def nodeP (s : RS) : NT × RS :=
 if (nxt s).1 = 3 ∧ (nxt s).2 ≠ [] then ({ ntZ with k := 3, tx := strB (nxt s).2 }, passP s)
 else if (nxt s).1 = 1 ∧ begP (nxt s).2 = true then namedP K (nxt s).2 (passP s)
 else if isP 4 [123] s = true then recordP K (passP s)
 else (ntZ, failP 5 s)
def kindG (deep : Nat) (s : RS) : Int × RS :=
 let a := nodeP K (if 24 < deep then oweP 6 s else s)
 if a.2.ns.length = 2048 then (0, oweP 2 a.2) else ((a.2.ns.length : Int), ⟨a.2.ts, a.2.ns ++ [a.1], a.2.ds, a.2.du, a.2.fc, a.2.fi⟩)
end
def kindP : Nat → Nat → RS → Int × RS
 | 0, _, s => (0, failP 5 s)
 | n + 1, deep, s => kindG (kindP n (deep + 1)) deep s
def nameA (nm : List UInt8) (k : Int) (s : RS) : RS := if s.ds.length = 64 then oweP 2 s else ⟨s.ts, s.ns, s.ds ++ [⟨strB nm, k⟩], s.du, s.fc, s.fi⟩
def defP (n : Nat) (s : RS) : RS :=
 let a := nameP s
 let b := kindP n 0 (signP [61] a.2)
 nameA a.1 b.1 (signP [59] b.2)
def namesP (n : Nat) : Nat → RS → RS
 | 0, s => s
 | m + 1, s => let a := defP n s; if (nxt a).1 = 5 then passP a else namesP n m a
def startS (ts : List TX) : RS := ⟨ts, [], [], 0, 0, 0⟩
def parseL (ts : List TX) : RS := namesP ts.length ts.length (startS ts)
def stripT (l : List Tk) : List TX := l.map fun t => (t.k, t.x)
end Go.Proofs.YtfcccfplmdjndaaGreat

/- parse: a step without a fault came from a reader without one, and the small steps keep what was built. -/
namespace Go.Proofs.YtfcccfplmdjndaaGreat
set_option linter.unusedSimpArgs false
set_option linter.unusedVariables false

def Ok (s : RS) : Prop := s.fc = 0 ∧ s.du = 0
structure Flat (s s' : RS) : Prop where
 ok : Ok s' → Ok s
 ns : s'.ns = s.ns
 ds : s'.ds = s.ds
 sub : ∀ t ∈ s'.ts, t ∈ s.ts
theorem Flat.refl (s : RS) : Flat s s := ⟨id, rfl, rfl, fun _ h => h⟩
theorem Flat.trans {a b c : RS} (h : Flat a b) (k : Flat b c) : Flat a c := ⟨fun x => h.ok (k.ok x), k.ns.trans h.ns, k.ds.trans h.ds, fun t ht => h.sub t (k.sub t ht)⟩
theorem not_fail {c : Nat} (hc : c ≠ 0) (s : RS) : ¬ Ok (failP c s) := by
 rintro ⟨h, _⟩
 have h : (if s.fc = 0 then c else s.fc) = 0 := h
 split at h <;> omega
theorem not_owe {c : Nat} (hc : c ≠ 0) (s : RS) : ¬ Ok (oweP c s) := by
 rintro ⟨_, h⟩
 have h : (if s.du = 0 then c else s.du) = 0 := h
 split at h <;> omega
theorem flat_fail {c : Nat} (hc : c ≠ 0) (s : RS) : Flat s (failP c s) := ⟨fun h => absurd h (not_fail hc s), rfl, rfl, fun t ht => List.mem_of_mem_drop ht⟩
theorem flat_owe {c : Nat} (hc : c ≠ 0) (s : RS) : Flat s (oweP c s) := ⟨fun h => absurd h (not_owe hc s), rfl, rfl, fun _ h => h⟩
theorem flat_pass (s : RS) : Flat s (passP s) := by
 unfold passP
 split
 ·exact flat_fail ‹_› s
 ·split
  ·exact ⟨id, rfl, rfl, fun t ht => List.mem_of_mem_drop ht⟩
  ·exact .refl s
theorem flat_took (k : Nat) (x : List UInt8) (s : RS) : Flat s (tookP k x s).2 := by
 unfold tookP
 split
 ·exact flat_pass s
 ·exact .refl s
theorem flat_sign (x : List UInt8) (s : RS) : Flat s (signP x s) := by
 unfold signP
 split
 ·exact flat_pass s
 ·exact flat_fail (by decide) s
theorem flat_name (s : RS) : Flat s (nameP s).2 := by
 unfold nameP
 split
 ·exact flat_fail (by decide) s
 ·exact flat_pass s
theorem flat_num (a b : Nat) (s : RS) : Flat s (numP a b s).2 := by
 unfold numP
 split
 ·exact flat_fail (by decide) s
 ·split
  ·exact (flat_fail ‹_› s).trans (flat_pass _)
  ·split
   ·exact flat_pass s
   ·exact (flat_fail (by decide) s).trans (flat_pass _)
theorem flat_room (m : Nat) (s : RS) : Flat s (roomP m s) := by
 unfold roomP
 split
 ·exact flat_owe (by decide) s
 ·exact .refl s
theorem flat_ranged (n : NT) (s : RS) : Flat s (rangedP n s).2 := by
 unfold rangedP
 split
 ·exact ((flat_num _ _ s).trans (flat_sign _ _)).trans (flat_num _ _ _)
 ·exact .refl s
theorem flat_reckB (m : Nat) (s : RS) : Flat s (reckB m s).2 := by
 have h := (flat_name s).trans (flat_took 4 [43] (nameP s).2)
 unfold reckB
 simp only
 split
 ·exact h.trans (flat_num _ _ _)
 ·exact h
theorem flat_reck (s : RS) : Flat s (reckP s).2 := by
 have h := (flat_num 0 uMax s).trans (flat_took 4 [42] (numP 0 uMax s).2)
 unfold reckP
 split
 ·simp only
  split
  ·split
   ·exact (h.trans (flat_owe (by decide) _)).trans (flat_reckB _ _)
   ·exact h.trans (flat_reckB _ _)
  ·exact h
 ·exact flat_reckB _ _
theorem flat_often (s : RS) : Flat s (oftenP s).2 := ((flat_sign [91] s).trans (flat_reck _)).trans (flat_sign [93] _)
theorem flat_derive (s : RS) : Flat s (deriveP s).2 := by
 have hd : Flat s (if (tookP 1 s_size s).1 = true then ((1 : Int), (tookP 1 s_size s).2) else if (tookP 1 s_count s).1 = true then (2, (tookP 1 s_count s).2) else if (tookP 1 s_crc s).1 = true then (3, (tookP 1 s_crc s).2) else (0, failP 5 s)).2 := by
  split
  ·exact flat_took _ _ s
  ·split
   ·exact flat_took _ _ s
   ·split
    ·exact flat_took _ _ s
    ·exact flat_fail (by decide) s
 unfold deriveP
 simp only
 generalize (if (tookP 1 s_size s).1 = true then ((1 : Int), (tookP 1 s_size s).2) else if (tookP 1 s_count s).1 = true then (2, (tookP 1 s_count s).2) else if (tookP 1 s_crc s).1 = true then (3, (tookP 1 s_crc s).2) else (0, failP 5 s)) = d at *
 have h := (hd.trans (flat_sign [40] d.2)).trans (flat_name _)
 split
 ·exact ((h.trans (flat_sign _ _)).trans (flat_name _)).trans (flat_sign _ _)
 ·exact h.trans (flat_sign _ _)
end Go.Proofs.YtfcccfplmdjndaaGreat
