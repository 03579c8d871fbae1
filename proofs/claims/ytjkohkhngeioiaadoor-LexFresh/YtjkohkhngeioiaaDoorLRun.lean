/- How many bytes a text begins with that are of a kind. -/
import Derived.Test.YtjkohkhngeioiaaDoorLKit
namespace Go.Proofs.YtjkohkhngeioiaaDoor
open Go.RowKit
set_option linter.unusedVariables false

/-- What stands from a place on. -/
theorem drop_at (b : ByteArray) (i : Nat) (h : i < b.size) : b.data.toList.drop i = b[i] :: b.data.toList.drop (i + 1) := List.drop_eq_getElem_cons (by simpa using h)
theorem drop_end (b : ByteArray) (i : Nat) (h : ¬ i < b.size) : b.data.toList.drop i = [] := List.drop_eq_nil_of_le (by have : b.data.toList.length = b.size := rfl; omega)
/-- The rune at a place: the byte itself, or one beyond them. -/
theorem rune_at (b : ByteArray) (i : Nat) (h : i < b.size) : ((b[i]).toNat < 128 ∧ Utf8.decode b i = ((b[i]).toNat, 1)) ∨ (128 ≤ (b[i]).toNat ∧ 128 ≤ (Utf8.decode b i).1) := by
  by_cases c : (b[i]).toNat < 128
  · exact Or.inl ⟨c, decode_ascii b i h c⟩
  · exact Or.inr ⟨by omega, (decode_high b i h (by omega)).1⟩
theorem dig_hi {c : UInt8} (h : 128 ≤ c.toNat) : Wlx.dig c = false := by unfold Wlx.dig; simp; omega
theorem prt_hi {c : UInt8} (h : 128 ≤ c.toNat) : Wlx.prt c = false := by unfold Wlx.prt; simp; omega
theorem wrd_hi {c : UInt8} (h : 128 ≤ c.toNat) : Wlx.wrd c = false := by unfold Wlx.wrd Wlx.cap Wlx.low Wlx.dig; simp; omega

def q_digit (r : Int) : Bool := (decide (48 ≤ r) && decide (r ≤ 57))
theorem q_digit_hi {r : Int} (h : 128 ≤ r) : q_digit r = false := by unfold q_digit; simp; omega
theorem run_digit (b : ByteArray) (w : World) (hs : b.size ≤ 9223372036854775807) : Calls Tryd.prog 19 #[.string b, .func (.func 41) #[] #[]] w fun e w' => e = .returned (.int .i64 (Wlx.runP Wlx.dig b.data.toList : Nat)) ∧ Below w.heap.size w w' := by
  have C : ∀ (r : Int) (w : World), Calls Tryd.prog 41 #[.int .i32 r] w fun e w' => e = .returned (.bool (q_digit r)) ∧ w = w' := fun r w => isDigit_any r w
  go_enter Tryd.func19, Tryd.ntmps19
  go_wp2_with fail
  go_loopw [5] (fun _ wr => ∃ pos : Nat, pos ≤ b.size ∧ wr.heap[w.heap.size]? = some (.stringIter b pos) ∧ Hid (Wlx.runP Wlx.dig b.data.toList = pos + Wlx.runP Wlx.dig (b.data.toList.drop pos)) ∧ Below w.heap.size w wr) (fun _ wr => b.size - wr.iterPos w.heap.size)
  case atStart => exact ⟨0, Nat.zero_le _, World.iter_heap w b 0, (by simp : Wlx.runP Wlx.dig b.data.toList = 0 + Wlx.runP Wlx.dig (b.data.toList.drop 0)), (Below.refl _ w).alloc (Nat.le_refl _) _⟩
  case round =>
    obtain ⟨pos, hp, hit, HR, hb⟩ := hrel
    by_cases hlt : pos < b.size
    · have nx := fun ty => Lib.run_next_any_at (P := Tryd.prog) wr w.heap.size b pos ty hit hlt
      have hk2 := fun q => Lib.iterAt_heap wr w.heap.size b pos q hit
      have hb2 := fun q => Lib.below_iterAt hb (Nat.le_refl w.heap.size) b q
      rcases rune_at b pos hlt with ⟨hc, e⟩ | ⟨hc, e⟩
      · rw [e] at nx
        cases hq : q_digit ((b[pos]).toNat : Int) with
        | true =>
          have E : Hid (Wlx.runP Wlx.dig b.data.toList = (pos + 1) + Wlx.runP Wlx.dig (b.data.toList.drop (pos + 1))) := by
            show _ = _
            rw [HR.out, drop_at b pos hlt, Wlx.runP_pos hq]; omega
          have hi := hk2 (pos + 1)
          have hbb := hb2 (pos + 1)
          have hm : wr.iterPos w.heap.size = pos := by simp [World.iterPos, hit]
          have hm2 : (wr.iterAt w.heap.size b (pos + 1)).iterPos w.heap.size = pos + 1 := by simp [World.iterPos, hi]
          clear HR hk2 hb2
          go_wp2_with fail
          refine (C _ _).mono ?_
          rintro e w1 ⟨rfl, rfl⟩
          go_wp2_with fail
          go_roundw
          case rel => exact ⟨pos + 1, hlt, hi, E, hbb⟩
          case measure => rw [hm, hm2]; omega
        | false =>
          have E : Hid (Wlx.runP Wlx.dig b.data.toList = pos) := by
            show _ = _
            rw [HR.out, drop_at b pos hlt, Wlx.runP_neg hq]; rfl
          have hbb := hb2 (pos + 1)
          clear HR hk2 hb2
          go_wp2_with fail
          refine (C _ _).mono ?_
          rintro e w1 ⟨rfl, rfl⟩
          go_wp2
          go_ret
          exact ⟨by rw [E.out]; rfl, hbb⟩
      · have E : Hid (Wlx.runP Wlx.dig b.data.toList = pos) := by
          show _ = _
          rw [HR.out, drop_at b pos hlt, Wlx.runP_neg (dig_hi hc)]; rfl
        obtain ⟨rv, hrv⟩ : ∃ rv : Nat, (Utf8.decode b pos).1 = rv := ⟨_, rfl⟩
        obtain ⟨n, hn⟩ : ∃ n : Nat, (Utf8.decode b pos).2 = n := ⟨_, rfl⟩
        rw [hrv, hn] at nx
        rw [hrv] at e
        have hq : q_digit (rv : Int) = false := q_digit_hi (by omega)
        have hbb := hb2 (pos + n)
        clear HR hk2 hb2 hrv hn e
        go_wp2_with fail
        refine (C _ _).mono ?_
        rintro e w1 ⟨rfl, rfl⟩
        go_wp2
        go_ret
        exact ⟨by rw [E.out]; rfl, hbb⟩
    · have nx := fun ty => Lib.run_next_end_at (P := Tryd.prog) wr w.heap.size b pos ty hit hlt
      have E : Hid (Wlx.runP Wlx.dig b.data.toList = b.size) := by
        show _ = _
        rw [HR.out, drop_end b pos hlt]; simp [Wlx.runP]; omega
      clear HR
      go_wp2
      go_ret
      exact ⟨by rw [E.out]; rfl, hb⟩

def q_print (r : Int) : Bool := (decide (32 ≤ r) && decide (r ≤ 126))
theorem q_print_hi {r : Int} (h : 128 ≤ r) : q_print r = false := by unfold q_print; simp; omega
theorem run_print (b : ByteArray) (w : World) (hs : b.size ≤ 9223372036854775807) : Calls Tryd.prog 19 #[.string b, .func (.func 20) #[] #[]] w fun e w' => e = .returned (.int .i64 (Wlx.runP Wlx.prt b.data.toList : Nat)) ∧ Below w.heap.size w w' := by
  have C : ∀ (r : Int) (w : World), Calls Tryd.prog 20 #[.int .i32 r] w fun e w' => e = .returned (.bool (q_print r)) ∧ w = w' := fun r w => isPrintable_any r w
  go_enter Tryd.func19, Tryd.ntmps19
  go_wp2_with fail
  go_loopw [5] (fun _ wr => ∃ pos : Nat, pos ≤ b.size ∧ wr.heap[w.heap.size]? = some (.stringIter b pos) ∧ Hid (Wlx.runP Wlx.prt b.data.toList = pos + Wlx.runP Wlx.prt (b.data.toList.drop pos)) ∧ Below w.heap.size w wr) (fun _ wr => b.size - wr.iterPos w.heap.size)
  case atStart => exact ⟨0, Nat.zero_le _, World.iter_heap w b 0, (by simp : Wlx.runP Wlx.prt b.data.toList = 0 + Wlx.runP Wlx.prt (b.data.toList.drop 0)), (Below.refl _ w).alloc (Nat.le_refl _) _⟩
  case round =>
    obtain ⟨pos, hp, hit, HR, hb⟩ := hrel
    by_cases hlt : pos < b.size
    · have nx := fun ty => Lib.run_next_any_at (P := Tryd.prog) wr w.heap.size b pos ty hit hlt
      have hk2 := fun q => Lib.iterAt_heap wr w.heap.size b pos q hit
      have hb2 := fun q => Lib.below_iterAt hb (Nat.le_refl w.heap.size) b q
      rcases rune_at b pos hlt with ⟨hc, e⟩ | ⟨hc, e⟩
      · rw [e] at nx
        cases hq : q_print ((b[pos]).toNat : Int) with
        | true =>
          have E : Hid (Wlx.runP Wlx.prt b.data.toList = (pos + 1) + Wlx.runP Wlx.prt (b.data.toList.drop (pos + 1))) := by
            show _ = _
            rw [HR.out, drop_at b pos hlt, Wlx.runP_pos hq]; omega
          have hi := hk2 (pos + 1)
          have hbb := hb2 (pos + 1)
          have hm : wr.iterPos w.heap.size = pos := by simp [World.iterPos, hit]
          have hm2 : (wr.iterAt w.heap.size b (pos + 1)).iterPos w.heap.size = pos + 1 := by simp [World.iterPos, hi]
          clear HR hk2 hb2
          go_wp2_with fail
          refine (C _ _).mono ?_
          rintro e w1 ⟨rfl, rfl⟩
          go_wp2_with fail
          go_roundw
          case rel => exact ⟨pos + 1, hlt, hi, E, hbb⟩
          case measure => rw [hm, hm2]; omega
        | false =>
          have E : Hid (Wlx.runP Wlx.prt b.data.toList = pos) := by
            show _ = _
            rw [HR.out, drop_at b pos hlt, Wlx.runP_neg hq]; rfl
          have hbb := hb2 (pos + 1)
          clear HR hk2 hb2
          go_wp2_with fail
          refine (C _ _).mono ?_
          rintro e w1 ⟨rfl, rfl⟩
          go_wp2
          go_ret
          exact ⟨by rw [E.out]; rfl, hbb⟩
      · have E : Hid (Wlx.runP Wlx.prt b.data.toList = pos) := by
          show _ = _
          rw [HR.out, drop_at b pos hlt, Wlx.runP_neg (prt_hi hc)]; rfl
        obtain ⟨rv, hrv⟩ : ∃ rv : Nat, (Utf8.decode b pos).1 = rv := ⟨_, rfl⟩
        obtain ⟨n, hn⟩ : ∃ n : Nat, (Utf8.decode b pos).2 = n := ⟨_, rfl⟩
        rw [hrv, hn] at nx
        rw [hrv] at e
        have hq : q_print (rv : Int) = false := q_print_hi (by omega)
        have hbb := hb2 (pos + n)
        clear HR hk2 hb2 hrv hn e
        go_wp2_with fail
        refine (C _ _).mono ?_
        rintro e w1 ⟨rfl, rfl⟩
        go_wp2
        go_ret
        exact ⟨by rw [E.out]; rfl, hbb⟩
    · have nx := fun ty => Lib.run_next_end_at (P := Tryd.prog) wr w.heap.size b pos ty hit hlt
      have E : Hid (Wlx.runP Wlx.prt b.data.toList = b.size) := by
        show _ = _
        rw [HR.out, drop_end b pos hlt]; simp [Wlx.runP]; omega
      clear HR
      go_wp2
      go_ret
      exact ⟨by rw [E.out]; rfl, hb⟩

def q_word (r : Int) : Bool := ((decide (65 ≤ r) && decide (r ≤ 90)) || (decide (97 ≤ r) && decide (r ≤ 122)) || decide (r = 36) || (decide (48 ≤ r) && decide (r ≤ 57)))
theorem q_word_hi {r : Int} (h : 128 ≤ r) : q_word r = false := by unfold q_word; simp; omega
theorem run_word (b : ByteArray) (w : World) (hs : b.size ≤ 9223372036854775807) : Calls Tryd.prog 19 #[.string b, .func (.func 30) #[] #[]] w fun e w' => e = .returned (.int .i64 (Wlx.runP Wlx.wrd b.data.toList : Nat)) ∧ Below w.heap.size w w' := by
  have C : ∀ (r : Int) (w : World), Calls Tryd.prog 30 #[.int .i32 r] w fun e w' => e = .returned (.bool (q_word r)) ∧ w = w' := fun r w => isOfWord_any r w
  go_enter Tryd.func19, Tryd.ntmps19
  go_wp2_with fail
  go_loopw [5] (fun _ wr => ∃ pos : Nat, pos ≤ b.size ∧ wr.heap[w.heap.size]? = some (.stringIter b pos) ∧ Hid (Wlx.runP Wlx.wrd b.data.toList = pos + Wlx.runP Wlx.wrd (b.data.toList.drop pos)) ∧ Below w.heap.size w wr) (fun _ wr => b.size - wr.iterPos w.heap.size)
  case atStart => exact ⟨0, Nat.zero_le _, World.iter_heap w b 0, (by simp : Wlx.runP Wlx.wrd b.data.toList = 0 + Wlx.runP Wlx.wrd (b.data.toList.drop 0)), (Below.refl _ w).alloc (Nat.le_refl _) _⟩
  case round =>
    obtain ⟨pos, hp, hit, HR, hb⟩ := hrel
    by_cases hlt : pos < b.size
    · have nx := fun ty => Lib.run_next_any_at (P := Tryd.prog) wr w.heap.size b pos ty hit hlt
      have hk2 := fun q => Lib.iterAt_heap wr w.heap.size b pos q hit
      have hb2 := fun q => Lib.below_iterAt hb (Nat.le_refl w.heap.size) b q
      rcases rune_at b pos hlt with ⟨hc, e⟩ | ⟨hc, e⟩
      · rw [e] at nx
        cases hq : q_word ((b[pos]).toNat : Int) with
        | true =>
          have E : Hid (Wlx.runP Wlx.wrd b.data.toList = (pos + 1) + Wlx.runP Wlx.wrd (b.data.toList.drop (pos + 1))) := by
            show _ = _
            rw [HR.out, drop_at b pos hlt, Wlx.runP_pos hq]; omega
          have hi := hk2 (pos + 1)
          have hbb := hb2 (pos + 1)
          have hm : wr.iterPos w.heap.size = pos := by simp [World.iterPos, hit]
          have hm2 : (wr.iterAt w.heap.size b (pos + 1)).iterPos w.heap.size = pos + 1 := by simp [World.iterPos, hi]
          clear HR hk2 hb2
          go_wp2_with fail
          refine (C _ _).mono ?_
          rintro e w1 ⟨rfl, rfl⟩
          go_wp2_with fail
          go_roundw
          case rel => exact ⟨pos + 1, hlt, hi, E, hbb⟩
          case measure => rw [hm, hm2]; omega
        | false =>
          have E : Hid (Wlx.runP Wlx.wrd b.data.toList = pos) := by
            show _ = _
            rw [HR.out, drop_at b pos hlt, Wlx.runP_neg hq]; rfl
          have hbb := hb2 (pos + 1)
          clear HR hk2 hb2
          go_wp2_with fail
          refine (C _ _).mono ?_
          rintro e w1 ⟨rfl, rfl⟩
          go_wp2
          go_ret
          exact ⟨by rw [E.out]; rfl, hbb⟩
      · have E : Hid (Wlx.runP Wlx.wrd b.data.toList = pos) := by
          show _ = _
          rw [HR.out, drop_at b pos hlt, Wlx.runP_neg (wrd_hi hc)]; rfl
        obtain ⟨rv, hrv⟩ : ∃ rv : Nat, (Utf8.decode b pos).1 = rv := ⟨_, rfl⟩
        obtain ⟨n, hn⟩ : ∃ n : Nat, (Utf8.decode b pos).2 = n := ⟨_, rfl⟩
        rw [hrv, hn] at nx
        rw [hrv] at e
        have hq : q_word (rv : Int) = false := q_word_hi (by omega)
        have hbb := hb2 (pos + n)
        clear HR hk2 hb2 hrv hn e
        go_wp2_with fail
        refine (C _ _).mono ?_
        rintro e w1 ⟨rfl, rfl⟩
        go_wp2
        go_ret
        exact ⟨by rw [E.out]; rfl, hbb⟩
    · have nx := fun ty => Lib.run_next_end_at (P := Tryd.prog) wr w.heap.size b pos ty hit hlt
      have E : Hid (Wlx.runP Wlx.wrd b.data.toList = b.size) := by
        show _ = _
        rw [HR.out, drop_end b pos hlt]; simp [Wlx.runP]; omega
      clear HR
      go_wp2
      go_ret
      exact ⟨by rw [E.out]; rfl, hb⟩
end Go.Proofs.YtjkohkhngeioiaaDoor
