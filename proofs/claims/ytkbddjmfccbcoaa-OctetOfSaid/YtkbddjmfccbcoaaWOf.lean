/- The walk of the law OctetOf. -/
import Derived.Test.YtkbddjmfccbcoaaReads
namespace Go.Proofs.Ytkbddjmfccbcoaa
open Go.RowKit

theorem wantStep (l : List UInt8) (k : Nat) (h : k < l.length) (h8 : k < 8) :
    IntKind.u64.wrap (IntKind.u64.wrap ((beSum (l.take k) : Int) * 256) + (l[k].toNat : Int)) = (beSum (l.take (k + 1)) : Int) := by
  have := be_small l k h8
  have e : IntKind.u64.wrap ((beSum (l.take k) : Int) * 256) = (beSum (l.take k) : Int) * 256 := by rw [IntKind.wrap_u64]; omega
  have hb := l[k].toNat_lt
  rw [e, take_snoc l k h, beSum_snoc, IntKind.wrap_u64]
  omega

theorem back_snoc (l : List UInt8) (k : Nat) (h : k < l.length) : (l.take (k + 1)).reverse = l[k] :: (l.take k).reverse := by
  rw [take_snoc l k h]; simp

theorem octetOf_law {w : World} {A : Option Addr} {n c : Nat} {l : List UInt8} (hR : RdB w A n l) (hn : n ≤ 9223372036854775807) :
    Calls Try.prog 5 #[.slice A n c] w fun e w' => e = .returned (.bool true) ∧ Below w.heap.size w w' := by
  by_cases h100 : 100 < n
  · go_enter Try.func5, Try.ntmps5
    go_wp2_with (go_at_call 15; refine (reads_any _).mono ?_; rintro e w1 ⟨rfl, hb1⟩)
    go_ret
    exact ⟨rfl, hb1⟩
  · have hlen := hid hR.1
    rcases Nat.lt_trichotomy n 8 with hn8 | rfl | hn8
    all_goals
      go_enter Try.func5, Try.ntmps5
      go_wp2_with (go_at_call 15; refine (reads_any _).mono ?_; rintro e w1 ⟨rfl, hb1⟩)
      go_loopw [3, 4, 15] (fun x b i wr => ∃ k : Nat, k ≤ l.length ∧ k ≤ 8 ∧ i = .int .i64 k ∧ x = .int .u64 (beSum (l.take k)) ∧ ∃ B C, b = .slice B k C ∧ RdB wr B k (l.take k).reverse ∧ Below w.heap.size w wr) (fun _ _ i _ => 8 - (intOf i).toNat)
      case atStart => exact ⟨0, by omega, by omega, rfl, rfl, _, _, rfl, RdB.nil_ _ _, hb1.alloc hb1.size _⟩
      case round =>
        obtain ⟨k, hk, hk8, rfl, rfl, B, C, rfl, hB, hbr⟩ := hrel
        have hRr := hR.below hbr
        have hle := hlen.out
        by_cases hlt : k < l.length ∧ k < 8
        · obtain ⟨b, o, rfl, hb, hc⟩ := hRr.2 (by omega)
          obtain ⟨h3, h4⟩ := hlt
          have hck := hc k h3
          clear hc
          have hby := l[k].toNat_lt
          have HS := hid (wantStep l k h3 h4)
          have HB := hid (back_snoc l k h3)
          have hkn := h3
          rw [hle] at hkn
          have hown := own_made wr w.heap.size [l[k]] hbr.size (by simp)
          have hbl : w.heap.size ≤ (wr.alloc (.cells #[.int .u8 (l[k].toNat : Int)] 5)).heap.size := by simp; have := hbr.size; omega
          clear hle
          go_wp2_with (at_builtin; refine wpList_appB rfl (.tmp 30) (.tmp 31) rfl w.heap.size (.slice (some ⟨wr.heap.size, 0, none⟩) 1 1) 1 _ rfl hown B k C _ rfl (hB.alloc _) (by omega) hbl ?_; intro A' c' w1 HO hg HV)
          go_roundw
          case rel =>
            have h1 := RdB.of_own (l := l[k] :: (l.take k).reverse) HO.out
            rw [← HB.out, Nat.add_comm] at h1
            exact ⟨k + 1, by omega, by omega, by go_num, by rw [HS.out], A', c', by rw [Nat.add_comm], h1, (hbr.alloc hbr.size _).grown hg hbl (fun j hj => by simp [Value.ownBlock] at hj; have := hbr.size; omega)⟩
          case measure => simp [intOf]; omega
        · have HT := hid (take_eq8 l k (by omega))
          have hE : ofB false l = beSum (l.take k) := by rw [HT.out]; rfl
          have hF : ofB true (l.take k).reverse = beSum (l.take k) := by
            show leSum ((l.take k).reverse.take 8) = _
            rw [List.take_of_length_le (by simp; omega), leSum_reverse]
          have HE := hid hE
          have HF := hid hF
          clear hE hF
          go_wp2_with fail
          refine (of_any false hRr hn).mono ?_
          rintro e w2 ⟨rfl, rfl⟩
          rw [HE.out]
          go_wp2_with fail
          refine (of_any true hB (by omega)).mono ?_
          rintro e w2 ⟨rfl, rfl⟩
          rw [HF.out]
          go_wp2
          go_ret
          exact ⟨rfl, hbr⟩
end Go.Proofs.Ytkbddjmfccbcoaa
