/- textSize. -/
import Derived.Test.YtjkohkhngeioiaaDoorLName
namespace Go.Proofs.YtjkohkhngeioiaaDoor
open Go.RowKit
set_option linter.unusedVariables false

/-- The bytes of a rune that is no byte are beyond the bytes. -/
theorem wide_bytes (b : ByteArray) (i : Nat) (h : i < b.size) (hc : 128 ≤ (b[i]).toNat) : 1 ≤ (Utf8.decode b i).2 ∧ i + (Utf8.decode b i).2 ≤ b.size ∧ ∀ j, i ≤ j → (hj : j < b.size) → j < i + (Utf8.decode b i).2 → 128 ≤ (b[j]).toNat := by
  have g : ∀ k (hk : i + k < b.size), (b.get! (i + k)) = b[i + k] := by
    intro k hk
    simp [ByteArray.get!, getElem!_pos, hk]
    rfl
  have g0 := g 0 h
  have hn : ¬ (b[i + 0]).toNat < 128 := by simpa using hc
  have one : i + 1 ≤ b.size ∧ ∀ j, i ≤ j → (hj : j < b.size) → j < i + 1 → 128 ≤ (b[j]).toNat := ⟨h, fun j h1 h2 h3 => by
    obtain rfl : j = i := by omega
    exact hc⟩
  have two : ∀ k, (decide (i + k < b.size) && (b.get! (i + k)).toNat / 64 == 2) = true → ∃ hk : i + k < b.size, 128 ≤ (b[i + k]).toNat := by
    intro k hk
    simp only [Bool.and_eq_true, decide_eq_true_eq, beq_iff_eq] at hk
    obtain ⟨h1, h2⟩ := hk
    rw [g k h1] at h2
    exact ⟨h1, by omega⟩
  simp only [Utf8.decode, g0, hn, if_false]
  split
  · rename_i c1
    simp only [Bool.and_eq_true] at c1
    obtain ⟨k1, b1⟩ := two 1 (by simpa using c1.2)
    split
    · refine ⟨by omega, by omega, fun j h1 h2 h3 => ?_⟩
      have : j = i ∨ j = i + 1 := by omega
      rcases this with rfl | rfl
      · exact hc
      · exact b1
    · exact ⟨by omega, one⟩
  · split
    · rename_i c1
      simp only [Bool.and_eq_true] at c1
      obtain ⟨k1, b1⟩ := two 1 (by simpa using c1.1.2)
      obtain ⟨k2, b2⟩ := two 2 (by simpa using c1.2)
      split
      · refine ⟨by omega, by omega, fun j h1 h2 h3 => ?_⟩
        have : j = i ∨ j = i + 1 ∨ j = i + 2 := by omega
        rcases this with rfl | rfl | rfl
        · exact hc
        · exact b1
        · exact b2
      · exact ⟨by omega, one⟩
    · split
      · rename_i c1
        simp only [Bool.and_eq_true] at c1
        obtain ⟨k1, b1⟩ := two 1 (by simpa using c1.1.1.2)
        obtain ⟨k2, b2⟩ := two 2 (by simpa using c1.1.2)
        obtain ⟨k3, b3⟩ := two 3 (by simpa using c1.2)
        split
        · refine ⟨by omega, by omega, fun j h1 h2 h3 => ?_⟩
          have : j = i ∨ j = i + 1 ∨ j = i + 2 ∨ j = i + 3 := by omega
          rcases this with rfl | rfl | rfl | rfl
          · exact hc
          · exact b1
          · exact b2
          · exact b3
        · exact ⟨by omega, one⟩
      · exact ⟨by omega, one⟩

theorem quo_skip (b : ByteArray) (i : Nat) : ∀ n, i + n ≤ b.size → (∀ j, i ≤ j → (hj : j < b.size) → j < i + n → ¬ b[j] = 34) → Wlx.quo true i (b.data.toList.drop i) = Wlx.quo true (i + n) (b.data.toList.drop (i + n)) := by
  intro n
  induction n with
  | zero => intro _ _; rfl
  | succ n ih =>
    intro h1 h2
    rw [ih (by omega) (fun j a b c => h2 j a b (by omega)), drop_at b (i + n) (by omega), quo_in (h2 (i + n) (by omega) (by omega) (by omega))]
    rfl

set_option maxHeartbeats 800000 in
theorem textSize_any (b : ByteArray) (w : World) (hs : b.size ≤ 9223372036854775806) : Calls Tryd.prog 29 #[.string b] w fun e w' => e = .returned (.int .i64 (Wlx.txtSz b.data.toList : Nat)) ∧ Below w.heap.size w w' := by
  have HP := hasPrefix_any b ⟨#[34]⟩ w (by omega)
  rw [begins_one] at HP
  cases hl : b.data.toList with
  | nil =>
    simp only [hl] at HP
    go_enter Tryd.func29, Tryd.ntmps29
    go_wp2_with fail
    refine HP.mono ?_
    rintro e w1 ⟨rfl, rfl⟩
    go_wp2
    go_ret
    exact ⟨rfl, Below.refl _ _⟩
  | cons c t =>
    simp only [hl] at HP
    by_cases hc : c = 34
    · subst hc
      have E0 : Hid (Wlx.txtSz (34 :: t) = Wlx.quo false 0 (b.data.toList)) := by
        show _ = _; rw [hl, quo_hit]; rfl
      obtain ⟨R, hR⟩ : ∃ R, Wlx.txtSz (34 :: t) = R := ⟨_, rfl⟩
      rw [hR] at E0 ⊢
      clear hl hR
      go_enter Tryd.func29, Tryd.ntmps29
      go_wp2_with fail
      refine HP.mono ?_
      rintro e w1 ⟨rfl, rfl⟩
      go_wp2_with fail
      go_loopw [3] (fun x wr => ∃ (q : Bool) (pos : Nat), x = .bool q ∧ pos ≤ b.size ∧ wr.heap[w.heap.size]? = some (.stringIter b pos) ∧ Hid (R = Wlx.quo q pos (b.data.toList.drop pos)) ∧ Below w.heap.size w wr) (fun _ wr => b.size - wr.iterPos w.heap.size)
      case atStart => exact ⟨false, 0, rfl, Nat.zero_le _, World.iter_heap w b 0, E0, (Below.refl _ w).alloc (Nat.le_refl _) _⟩
      case round =>
        obtain ⟨q, pos, rfl, hp, hit, HR, hb⟩ := hrel
        by_cases hlt : pos < b.size
        · have nx := fun ty => Lib.run_next_any_at (P := Tryd.prog) wr w.heap.size b pos ty hit hlt
          have hk2 := fun q => Lib.iterAt_heap wr w.heap.size b pos q hit
          have hb2 := fun q => Lib.below_iterAt hb (Nat.le_refl w.heap.size) b q
          have hm : wr.iterPos w.heap.size = pos := by simp [World.iterPos, hit]
          obtain ⟨rv, hrv⟩ : ∃ rv : Nat, (Utf8.decode b pos).1 = rv := ⟨_, rfl⟩
          obtain ⟨n, hn⟩ : ∃ n : Nat, (Utf8.decode b pos).2 = n := ⟨_, rfl⟩
          have hm2 : (wr.iterAt w.heap.size b (pos + n)).iterPos w.heap.size = pos + n := by simp [World.iterPos, hk2]
          have facts : 1 ≤ n ∧ pos + n ≤ b.size ∧ (((rv : Int) == 34) = true → b[pos] = 34 ∧ n = 1) ∧ (((rv : Int) == 34) = false → ∀ j, pos ≤ j → (hj : j < b.size) → j < pos + n → ¬ b[j] = 34) := by
            rcases rune_at b pos hlt with ⟨h1, e⟩ | ⟨h1, e⟩
            · rw [e] at hrv hn
              simp only at hrv hn
              subst hn hrv
              refine ⟨Nat.le_refl _, hlt, fun h => ⟨UInt8.toNat_inj.1 (by have := beq_iff_eq.1 h; show _ = 34; omega), rfl⟩, fun h j a1 a2 a3 => ?_⟩
              obtain rfl : j = pos := by omega
              intro h2
              rw [h2] at h
              exact absurd h (by decide)
            · obtain ⟨w1, w2, w3⟩ := wide_bytes b pos hlt h1
              rw [hn] at w1 w2 w3
              rw [hrv] at e
              refine ⟨w1, w2, fun h => by have := beq_iff_eq.1 h; omega, fun h j a1 a2 a3 h2 => ?_⟩
              have := w3 j a1 a2 a3
              rw [h2] at this
              exact absurd this (by decide)
          obtain ⟨f1, f2, f3, f4⟩ := facts
          rw [hrv, hn] at nx
          have hi := hk2 (pos + n)
          have hbb := hb2 (pos + n)
          clear hk2 hb2 hrv hn
          cases h34 : ((rv : Int) == 34) with
          | true =>
            obtain ⟨e34, rfl⟩ := f3 h34
            have E : Hid (R = Wlx.quo (!q) (pos + 1) (b.data.toList.drop (pos + 1))) := by
              show _ = _; rw [HR.out, drop_at b pos hlt, e34, quo_hit]
            clear HR f3 f4 e34
            go_wp2_with fail
            go_roundw
            case rel => exact ⟨!q, pos + 1, rfl, f2, hi, E, hbb⟩
            case measure => rw [hm, hm2]; omega
          | false =>
            cases q with
            | true =>
              have E : Hid (R = Wlx.quo true (pos + n) (b.data.toList.drop (pos + n))) := by
                show _ = _; rw [HR.out, quo_skip b pos n f2 (f4 h34)]
              clear HR f3 f4
              go_wp2_with fail
              go_roundw
              case rel => exact ⟨true, pos + n, rfl, f2, hi, E, hbb⟩
              case measure => rw [hm, hm2]; omega
            | false =>
              have E : Hid (R = pos) := by
                show _ = _; rw [HR.out, drop_at b pos hlt, quo_out (f4 h34 pos (Nat.le_refl _) hlt (by omega))]
              clear HR f3 f4
              go_wp2
              go_ret
              exact ⟨by rw [E.out]; rfl, hbb⟩
        · have nx := fun ty => Lib.run_next_end_at (P := Tryd.prog) wr w.heap.size b pos ty hit hlt
          obtain rfl : pos = b.size := by omega
          have E : Hid (R = if q then 0 else b.size) := by
            show _ = _
            rw [HR.out, drop_end b _ hlt]; rfl
          clear HR
          cases q with
          | true =>
            have E2 : Hid (R = 0) := by show _ = _; rw [E.out]; rfl
            clear E
            go_wp2
            go_ret
            exact ⟨by rw [E2.out]; rfl, hb⟩
          | false =>
            have E2 : Hid (R = b.size) := by show _ = _; rw [E.out]; rfl
            clear E
            go_wp2
            go_ret
            exact ⟨by rw [E2.out]; rfl, hb⟩
    · have hc' : ¬ (34 : UInt8) = c := fun e => hc e.symm
      rw [decide_eq_false hc'] at HP
      have E : Hid (Wlx.txtSz (c :: t) = 0) := by show (if c = 34 then _ else 0) = 0; rw [if_neg hc]
      clear hl hc hc'
      go_enter Tryd.func29, Tryd.ntmps29
      go_wp2_with fail
      refine HP.mono ?_
      rintro e w1 ⟨rfl, rfl⟩
      go_wp2
      go_ret
      exact ⟨by rw [E.out]; rfl, Below.refl _ _⟩
end Go.Proofs.YtjkohkhngeioiaaDoor
