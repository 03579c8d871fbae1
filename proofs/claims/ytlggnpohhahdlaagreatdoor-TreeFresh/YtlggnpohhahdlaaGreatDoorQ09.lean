/- LQuo, LSize, LRep, LPlainB, LSaid, LScan. -/
import Derived.Test.YtlggnpohhahdlaaGreatDoorQ08
import Derived.Shelf.Strings.Replace
import Derived.Shelf.LaysM
import Derived.Ground.NamesProg
import Derived.OwnWalk
import Derived.Laws.OwnMore
import Derived.WalkSmall
namespace Go.Proofs.YtlggnpohhahdlaaGreatDoor
open Go.RowKit
set_option linter.unusedVariables false
theorem wide_bytes (b : ByteArray) (i : Nat) (h : i < b.size) (hc : 128 ≤ (b[i]).toNat) : 1 ≤ (Utf8.decode b i).2 ∧ i + (Utf8.decode b i).2 ≤ b.size ∧ ∀ j, i ≤ j → (hj : j < b.size) → j < i + (Utf8.decode b i).2 → 128 ≤ (b[j]).toNat := by
  have g : ∀ k (hk : i + k < b.size), (b.get! (i + k)) = b[i + k] := by
    intro k hk
    simp [ByteArray.get!, getElem!_pos, hk]
    rfl
  have g0 := g 0 h
  have hn : ¬ (b[i + 0]).toNat < 128 := by simpa using hc
  have one : i + 1 ≤ b.size ∧ ∀ j, i ≤ j → (hj : j < b.size) → j < i + 1 → 128 ≤ (b[j]).toNat := ⟨h, fun j h1 h2 h3 => by
    obtain rfl : j = i := by omega
    exact hc⟩
  have two : ∀ k, (decide (i + k < b.size) && (b.get! (i + k)).toNat / 64 == 2) = true → ∃ hk : i + k < b.size, 128 ≤ (b[i + k]).toNat := by
    intro k hk
    simp only [Bool.and_eq_true, decide_eq_true_eq, beq_iff_eq] at hk
    obtain ⟨h1, h2⟩ := hk
    rw [g k h1] at h2
    exact ⟨h1, by omega⟩
  simp only [Utf8.decode, g0, hn, if_false]
  split
  · rename_i c1
    simp only [Bool.and_eq_true] at c1
    obtain ⟨k1, b1⟩ := two 1 (by simpa using c1.2)
    split
    · refine ⟨by omega, by omega, fun j h1 h2 h3 => ?_⟩
      have : j = i ∨ j = i + 1 := by omega
      rcases this with rfl | rfl
      · exact hc
      · exact b1
    · exact ⟨by omega, one⟩
  · split
    · rename_i c1
      simp only [Bool.and_eq_true] at c1
      obtain ⟨k1, b1⟩ := two 1 (by simpa using c1.1.2)
      obtain ⟨k2, b2⟩ := two 2 (by simpa using c1.2)
      split
      · refine ⟨by omega, by omega, fun j h1 h2 h3 => ?_⟩
        have : j = i ∨ j = i + 1 ∨ j = i + 2 := by omega
        rcases this with rfl | rfl | rfl
        · exact hc
        · exact b1
        · exact b2
      · exact ⟨by omega, one⟩
    · split
      · rename_i c1
        simp only [Bool.and_eq_true] at c1
        obtain ⟨k1, b1⟩ := two 1 (by simpa using c1.1.1.2)
        obtain ⟨k2, b2⟩ := two 2 (by simpa using c1.1.2)
        obtain ⟨k3, b3⟩ := two 3 (by simpa using c1.2)
        split
        · refine ⟨by omega, by omega, fun j h1 h2 h3 => ?_⟩
          have : j = i ∨ j = i + 1 ∨ j = i + 2 ∨ j = i + 3 := by omega
          rcases this with rfl | rfl | rfl | rfl
          · exact hc
          · exact b1
          · exact b2
          · exact b3
        · exact ⟨by omega, one⟩
      · exact ⟨by omega, one⟩
theorem quo_skip (b : ByteArray) (i : Nat) : ∀ n, i + n ≤ b.size → (∀ j, i ≤ j → (hj : j < b.size) → j < i + n → ¬ b[j] = 34) → Wlx.quo true i (b.data.toList.drop i) = Wlx.quo true (i + n) (b.data.toList.drop (i + n)) := by
  intro n
  induction n with
  | zero => intro _ _; rfl
  | succ n ih =>
    intro h1 h2
    rw [ih (by omega) (fun j a b c => h2 j a b (by omega)), drop_at b (i + n) (by omega), quo_in (h2 (i + n) (by omega) (by omega) (by omega))]
    rfl
set_option maxHeartbeats 800000 in
theorem textSize_any (b : ByteArray) (w : World) (hs : b.size ≤ 9223372036854775806) : Calls Tryz.prog 56 #[.string b] w fun e w' => e = .returned (.int .i64 (Wlx.txtSz b.data.toList : Nat)) ∧ Below w.heap.size w w' := by
  have HP := hasPrefix_any b ⟨#[34]⟩ w (by omega)
  rw [begins_one] at HP
  cases hl : b.data.toList with
  | nil =>
    simp only [hl] at HP
    go_enter Tryz.func56, Tryz.ntmps56
    go_wp2_with fail
    refine HP.mono ?_
    rintro e w1 ⟨rfl, rfl⟩
    go_wp2
    go_ret
    exact ⟨rfl, Below.refl _ _⟩
  | cons c t =>
    simp only [hl] at HP
    by_cases hc : c = 34
    · subst hc
      have E0 : Hid (Wlx.txtSz (34 :: t) = Wlx.quo false 0 (b.data.toList)) := by
        show _ = _; rw [hl, quo_hit]; rfl
      obtain ⟨R, hR⟩ : ∃ R, Wlx.txtSz (34 :: t) = R := ⟨_, rfl⟩
      rw [hR] at E0 ⊢
      clear hl hR
      go_enter Tryz.func56, Tryz.ntmps56
      go_wp2_with fail
      refine HP.mono ?_
      rintro e w1 ⟨rfl, rfl⟩
      go_wp2_with fail
      go_loopw [3] (fun x wr => ∃ (q : Bool) (pos : Nat), x = .bool q ∧ pos ≤ b.size ∧ wr.heap[w.heap.size]? = some (.stringIter b pos) ∧ Hid (R = Wlx.quo q pos (b.data.toList.drop pos)) ∧ Below w.heap.size w wr) (fun _ wr => b.size - wr.iterPos w.heap.size)
      case atStart => exact ⟨false, 0, rfl, Nat.zero_le _, World.iter_heap w b 0, E0, (Below.refl _ w).alloc (Nat.le_refl _) _⟩
      case round =>
        obtain ⟨q, pos, rfl, hp, hit, HR, hb⟩ := hrel
        by_cases hlt : pos < b.size
        · have nx := fun ty => Lib.run_next_any_at (P := Tryz.prog) wr w.heap.size b pos ty hit hlt
          have hk2 := fun q => Lib.iterAt_heap wr w.heap.size b pos q hit
          have hb2 := fun q => Lib.below_iterAt hb (Nat.le_refl w.heap.size) b q
          have hm : wr.iterPos w.heap.size = pos := by simp [World.iterPos, hit]
          obtain ⟨rv, hrv⟩ : ∃ rv : Nat, (Utf8.decode b pos).1 = rv := ⟨_, rfl⟩
          obtain ⟨n, hn⟩ : ∃ n : Nat, (Utf8.decode b pos).2 = n := ⟨_, rfl⟩
          have hm2 : (wr.iterAt w.heap.size b (pos + n)).iterPos w.heap.size = pos + n := by simp [World.iterPos, hk2]
          have facts : 1 ≤ n ∧ pos + n ≤ b.size ∧ (((rv : Int) == 34) = true → b[pos] = 34 ∧ n = 1) ∧ (((rv : Int) == 34) = false → ∀ j, pos ≤ j → (hj : j < b.size) → j < pos + n → ¬ b[j] = 34) := by
            rcases rune_at b pos hlt with ⟨h1, e⟩ | ⟨h1, e⟩
            · rw [e] at hrv hn
              simp only at hrv hn
              subst hn hrv
              refine ⟨Nat.le_refl _, hlt, fun h => ⟨UInt8.toNat_inj.1 (by have := beq_iff_eq.1 h; show _ = 34; omega), rfl⟩, fun h j a1 a2 a3 => ?_⟩
              obtain rfl : j = pos := by omega
              intro h2
              rw [h2] at h
              exact absurd h (by decide)
            · obtain ⟨w1, w2, w3⟩ := wide_bytes b pos hlt h1
              rw [hn] at w1 w2 w3
              rw [hrv] at e
              refine ⟨w1, w2, fun h => by have := beq_iff_eq.1 h; omega, fun h j a1 a2 a3 h2 => ?_⟩
              have := w3 j a1 a2 a3
              rw [h2] at this
              exact absurd this (by decide)
          obtain ⟨f1, f2, f3, f4⟩ := facts
          rw [hrv, hn] at nx
          have hi := hk2 (pos + n)
          have hbb := hb2 (pos + n)
          clear hk2 hb2 hrv hn
          cases h34 : ((rv : Int) == 34) with
          | true =>
            obtain ⟨e34, rfl⟩ := f3 h34
            have E : Hid (R = Wlx.quo (!q) (pos + 1) (b.data.toList.drop (pos + 1))) := by
              show _ = _; rw [HR.out, drop_at b pos hlt, e34, quo_hit]
            clear HR f3 f4 e34
            go_wp2_with fail
            go_roundw
            case rel => exact ⟨!q, pos + 1, rfl, f2, hi, E, hbb⟩
            case measure => rw [hm, hm2]; omega
          | false =>
            cases q with
            | true =>
              have E : Hid (R = Wlx.quo true (pos + n) (b.data.toList.drop (pos + n))) := by
                show _ = _; rw [HR.out, quo_skip b pos n f2 (f4 h34)]
              clear HR f3 f4
              go_wp2_with fail
              go_roundw
              case rel => exact ⟨true, pos + n, rfl, f2, hi, E, hbb⟩
              case measure => rw [hm, hm2]; omega
            | false =>
              have E : Hid (R = pos) := by
                show _ = _; rw [HR.out, drop_at b pos hlt, quo_out (f4 h34 pos (Nat.le_refl _) hlt (by omega))]
              clear HR f3 f4
              go_wp2
              go_ret
              exact ⟨by rw [E.out]; rfl, hbb⟩
        · have nx := fun ty => Lib.run_next_end_at (P := Tryz.prog) wr w.heap.size b pos ty hit hlt
          obtain rfl : pos = b.size := by omega
          have E : Hid (R = if q then 0 else b.size) := by
            show _ = _
            rw [HR.out, drop_end b _ hlt]; rfl
          clear HR
          cases q with
          | true =>
            have E2 : Hid (R = 0) := by show _ = _; rw [E.out]; rfl
            clear E
            go_wp2
            go_ret
            exact ⟨by rw [E2.out]; rfl, hb⟩
          | false =>
            have E2 : Hid (R = b.size) := by show _ = _; rw [E.out]; rfl
            clear E
            go_wp2
            go_ret
            exact ⟨by rw [E2.out]; rfl, hb⟩
    · have hc' : ¬ (34 : UInt8) = c := fun e => hc e.symm
      rw [decide_eq_false hc'] at HP
      have E : Hid (Wlx.txtSz (c :: t) = 0) := by show (if c = 34 then _ else 0) = 0; rw [if_neg hc]
      clear hl hc hc'
      go_enter Tryz.func56, Tryz.ntmps56
      go_wp2_with fail
      refine HP.mono ?_
      rintro e w1 ⟨rfl, rfl⟩
      go_wp2
      go_ret
      exact ⟨by rw [E.out]; rfl, Below.refl _ _⟩
def strs (ns : List (List UInt8)) : List Value := ns.map fun n => .string ⟨n.toArray⟩
theorem nameSize_new (b : ByteArray) (ns : List (List UInt8)) (n : Nat) (w W : World) (t : TypeId) (o : Obj) (hW : W = w.alloc o) (ho : o = .cells (strs ns).toArray t) (hs : b.size ≤ 9223372036854775807) (hn : n = ns.length) (hn2 : ns.length ≤ 100) (hns : ∀ x ∈ ns, x.length ≤ 100) :
    Calls Tryz.prog 58 #[.string b, .slice (some ⟨w.heap.size, 0, none⟩) n n] W fun e w' => e = .returned (.int .i64 (Wlx.nameSz b.data.toList ns : Nat)) ∧ Below w.heap.size w w' := by
  subst hW ho
  refine (nameSize_any b w.heap.size ns n _ hs hn hn2 hns (fun i h => ?_)).mono ?_
  · exact (AtL.new0 w t (strs ns)).2.1 i _ (by unfold strs; simp [h])
  · rintro e w1 ⟨rfl, rfl⟩
    exact ⟨rfl, (Below.refl _ w).alloc (Nat.le_refl _) _⟩
set_option maxHeartbeats 1600000 in
theorem x4_size_any (k : Nat) (b : ByteArray) (w : World) (hs : b.size ≤ 9223372036854775806) (hk : 1 ≤ k) (hk2 : k ≤ 5) : Calls Tryz.prog 34 #[.int .i64 k, .string b] w fun e w' => e = .returned (.int .i64 (Wlx.sz k b.data.toList : Nat)) ∧ Below w.heap.size w w' := by
  have : k = 1 ∨ k = 2 ∨ k = 3 ∨ k = 4 ∨ k = 5 := by omega
  rcases this with rfl | rfl | rfl | rfl | rfl
  · go_enter Tryz.func34, Tryz.ntmps34
    go_wp2_with fail
    refine (numberSize_any _ _ hs).mono ?_
    rintro e w1 ⟨rfl, hb⟩
    go_wp2
    go_ret
    exact ⟨rfl, hb⟩
  · go_enter Tryz.func34, Tryz.ntmps34
    go_wp2_with fail
    refine (textSize_any _ _ hs).mono ?_
    rintro e w1 ⟨rfl, hb⟩
    go_wp2
    go_ret
    exact ⟨rfl, hb⟩
  · go_enter Tryz.func34, Tryz.ntmps34
    go_wp2_with fail
    refine (run_word _ _ (by omega)).mono ?_
    rintro e w1 ⟨rfl, hb⟩
    go_wp2
    go_ret
    exact ⟨rfl, hb⟩
  · go_enter Tryz.func34, Tryz.ntmps34
    go_wp2_with fail
    refine (nameSize_new _ Wlx.faults 8 _ _ 9 _ rfl rfl (by omega) rfl (by decide) (by decide)).mono ?_
    rintro e w1 ⟨rfl, hb⟩
    go_wp2
    go_ret
    exact ⟨rfl, hb⟩
  · go_enter Tryz.func34, Tryz.ntmps34
    go_wp2_with fail
    refine (nameSize_new _ Wlx.marks 18 _ _ 9 _ rfl rfl (by omega) rfl (by decide) (by decide)).mono ?_
    rintro e w1 ⟨rfl, hb⟩
    go_wp2
    go_ret
    exact ⟨rfl, hb⟩
open Go.Shelf Go.RowKit
def lays155_ren : Go.Shelf.Ren := ⟨fun | 155 => 59 | 154 => 90 | 138 => 117 | 165 => 118 | 143 => 119 | 166 => 46 | 197 => 120 | 169 => 28 | 195 => 141 | 218 => 142 | 240 => 73 | 241 => 143 | 219 => 144 | 260 => 145 | 276 => 100 | 277 => 161 | 217 => 162 | 225 => 163 | 224 => 164 | 267 => 165 | 266 => 182 | 314 => 183 | n => n, fun | 9 => 9 | 3 => 3 | 4 => 4 | 72 => 65 | 0 => 0 | 76 => 90 | 105 => 152 | 21 => 21 | 5 => 5 | 70 => 62 | 20 => 20 | 37 => 63 | 75 => 89 | 127 => 92 | 164 => 138 | 46 => 174 | 119 => 175 | 139 => 178 | 138 => 177 | 146 => 187 | 51 => 186 | 80 => 69 | n => n, fun | 1 => 2 | 3 => 3 | 4 => 4 | n => n⟩
theorem lays155 : Go.Proofs.LaysM.n155 Tryz.prog lays155_ren := {
  mixed := by kernel_rfl
  f138 := Tryz.func117.trans (congrArg some (by kernel_rfl))
  f143 := Tryz.func119.trans (congrArg some (by kernel_rfl))
  f154 := Tryz.func90.trans (congrArg some (by kernel_rfl))
  f155 := Tryz.func59.trans (congrArg some (by kernel_rfl))
  f165 := Tryz.func118.trans (congrArg some (by kernel_rfl))
  f166 := Tryz.func46.trans (congrArg some (by kernel_rfl))
  f169 := Tryz.func28.trans (congrArg some (by kernel_rfl))
  f195 := Tryz.func141.trans (congrArg some (by kernel_rfl))
  f197 := Tryz.func120.trans (congrArg some (by kernel_rfl))
  f217 := Tryz.func162.trans (congrArg some (by kernel_rfl))
  f218 := Tryz.func142.trans (congrArg some (by kernel_rfl))
  f219 := Tryz.func144.trans (congrArg some (by kernel_rfl))
  f224 := Tryz.func164.trans (congrArg some (by kernel_rfl))
  f225 := Tryz.func163.trans (congrArg some (by kernel_rfl))
  f240 := Tryz.func73.trans (congrArg some (by kernel_rfl))
  f241 := Tryz.func143.trans (congrArg some (by kernel_rfl))
  f260 := Tryz.func145.trans (congrArg some (by kernel_rfl))
  f266 := Tryz.func182.trans (congrArg some (by kernel_rfl))
  f267 := Tryz.func165.trans (congrArg some (by kernel_rfl))
  f276 := Tryz.func100.trans (congrArg some (by kernel_rfl))
  f277 := Tryz.func161.trans (congrArg some (by kernel_rfl))
  f314 := Tryz.func183.trans (congrArg some (by kernel_rfl))
  t0 := Tryz.underlying0
  a0 := Tryz.isAgg0
  z0 := Tryz.sizeOf0
  v0 := Tryz.zeroValue0
  t3 := Tryz.underlying3
  a3 := Tryz.isAgg3
  z3 := Tryz.sizeOf3
  v3 := Tryz.zeroValue3
  t4 := Tryz.underlying4
  a4 := Tryz.isAgg4
  z4 := Tryz.sizeOf4
  v4 := Tryz.zeroValue4
  t5 := Tryz.underlying5
  a5 := Tryz.isAgg5
  z5 := Tryz.sizeOf5
  v5 := Tryz.zeroValue5
  t9 := Tryz.underlying9
  a9 := Tryz.isAgg9
  z9 := Tryz.sizeOf9
  v9 := Tryz.zeroValue9
  t20 := Tryz.underlying20
  a20 := Tryz.isAgg20
  z20 := Tryz.sizeOf20
  v20 := Tryz.zeroValue20
  t21 := Tryz.underlying21
  a21 := Tryz.isAgg21
  z21 := Tryz.sizeOf21
  v21 := Tryz.zeroValue21
  t37 := Tryz.underlying63
  a37 := Tryz.isAgg63
  z37 := Tryz.sizeOf63
  v37 := Tryz.zeroValue63
  t46 := Tryz.underlying174
  a46 := Tryz.isAgg174
  z46 := Tryz.sizeOf174
  v46 := Tryz.zeroValue174
  t51 := Tryz.underlying186
  a51 := Tryz.isAgg186
  z51 := Tryz.sizeOf186
  v51 := Tryz.zeroValue186
  t70 := Tryz.underlying62
  a70 := Tryz.isAgg62
  z70 := Tryz.sizeOf62
  v70 := Tryz.zeroValue62
  t72 := Tryz.underlying65
  a72 := Tryz.isAgg65
  z72 := Tryz.sizeOf65
  v72 := Tryz.zeroValue65
  t75 := Tryz.underlying89
  a75 := Tryz.isAgg89
  z75 := Tryz.sizeOf89
  v75 := Tryz.zeroValue89
  t76 := Tryz.underlying90
  a76 := Tryz.isAgg90
  z76 := Tryz.sizeOf90
  v76 := Tryz.zeroValue90
  t105 := Tryz.underlying152
  a105 := Tryz.isAgg152
  z105 := Tryz.sizeOf152
  v105 := Tryz.zeroValue152
  t119 := Tryz.underlying175
  a119 := Tryz.isAgg175
  z119 := Tryz.sizeOf175
  t127 := Tryz.underlying92
  a127 := Tryz.isAgg92
  z127 := Tryz.sizeOf92
  v127 := Tryz.zeroValue92
  t138 := Tryz.underlying177
  a138 := Tryz.isAgg177
  z138 := Tryz.sizeOf177
  v138 := Tryz.zeroValue177
  t139 := Tryz.underlying178
  a139 := Tryz.isAgg178
  z139 := Tryz.sizeOf178
  v139 := Tryz.zeroValue178
  t146 := Tryz.underlying187
  a146 := Tryz.isAgg187
  z146 := Tryz.sizeOf187
  v146 := Tryz.zeroValue187
  t164 := Tryz.underlying138
  a164 := Tryz.isAgg138
  z164 := Tryz.sizeOf138
  v164 := Tryz.zeroValue138
  g1 := by kernel_rfl
  g3 := by kernel_rfl
  g4 := by kernel_rfl
  t80 := Tryz.underlying69
  a80 := Tryz.isAgg69
  z80 := Tryz.sizeOf69
  v80 := Tryz.zeroValue69
  i0 := by kernel_rfl
  i3 := by kernel_rfl
  i4 := by kernel_rfl
  i5 := by kernel_rfl
  i9 := by kernel_rfl
  i20 := by kernel_rfl
  i21 := by kernel_rfl
  i37 := by kernel_rfl
  i46 := by kernel_rfl
  i51 := by kernel_rfl
  i70 := by kernel_rfl
  i72 := by kernel_rfl
  i75 := by kernel_rfl
  i76 := by kernel_rfl
  i80 := by kernel_rfl
  i105 := by kernel_rfl
  i127 := by kernel_rfl
  i138 := by kernel_rfl
  i139 := by kernel_rfl
  i146 := by kernel_rfl
  i164 := by kernel_rfl
  m1 := by kernel_rfl
  s1_3 := fun w h => Go.Proofs.cell_of_shapedOpen_int (zero := #[.int .i64 0]) (t := 3) h (of_decide_eq_true (by kernel_rfl)) (by kernel_rfl) rfl (by kernel_rfl) (by kernel_rfl) Tryz.underlying3
  m3 := by kernel_rfl
  m4 := by kernel_rfl }
theorem extra155 : Builder.Extra Tryz.prog lays155_ren := {
  sizeBuilder := by kernel_rfl
  liesBuilder := by kernel_rfl
  t5 := Tryz.underlying5
  a5 := Tryz.isAgg5
  z5 := Tryz.sizeOf5
  v5 := Tryz.zeroValue5
  infoByte := by kernel_rfl
  cellsByte := by kernel_rfl
  sizeByte := by kernel_rfl
  neB5 := by decide }
def MaxAt (w : World) : Prop := ∃ m : Int, w.cell? ⟨lays155_ren.g 1, 0, none⟩ = some (.int .i64 m)
theorem MaxAt.below {w w' : World} (h : MaxAt w) (hb : Below w.heap.size w w') : MaxAt w' := by
  obtain ⟨m, hm⟩ := h
  exact ⟨m, (hb.cell (p := ⟨lays155_ren.g 1, 0, none⟩) (World.block_lt_of_cell? _ _ hm)).trans hm⟩
theorem MaxAt.shaped {w : World} (h : w.ShapedOpen Tryz.prog) : MaxAt w := lays155.s1_3 w h
def rep (old new l : List UInt8) : List UInt8 := Lib.replaceK old new (Lib.count l old) l
theorem rep_hit {old new l : List UInt8} (h0 : old ≠ []) (h : old.isPrefixOf l = true) : rep old new l = new ++ rep old new (l.drop old.length) := by
  have hi : Lib.index l old = ((0 : Nat) : Int) := by
    cases l with
    | nil => cases old with | nil => exact absurd rfl h0 | cons a b => simp at h
    | cons b t => unfold Lib.index; rw [if_pos h]; rfl
  have hc := Lib.count_hit h0 hi
  unfold rep
  rw [hc, Nat.add_comm, Lib.replaceK_hit _ _ _ _ 0 hi, Nat.zero_add]
  rfl
theorem rep_miss {old new t : List UInt8} {c : UInt8} (h0 : old ≠ []) (h : old.isPrefixOf (c :: t) = false) : rep old new (c :: t) = c :: rep old new t := by
  have hi : Lib.index (c :: t) old = if Lib.index t old == -1 then -1 else Lib.index t old + 1 := by
    conv => lhs; unfold Lib.index
    rw [if_neg (by rw [h]; decide)]
  unfold rep
  by_cases hm : Lib.index t old = -1
  · rw [hm, if_pos (by decide)] at hi
    rw [Lib.count_miss hi, Lib.count_miss hm]
    rfl
  · have hge := Lib.index_ge t old
    obtain ⟨i, hii⟩ : ∃ i : Nat, Lib.index t old = i := ⟨(Lib.index t old).toNat, by omega⟩
    rw [hii, if_neg (by first | (simp; done) | (simp; omega))] at hi
    have hi2 : Lib.index (c :: t) old = ((i + 1 : Nat) : Int) := by rw [hi]; omega
    have e1 := Lib.count_hit h0 hi2
    have e2 := Lib.count_hit h0 hii
    have e3 : (c :: t).drop (i + 1 + old.length) = t.drop (i + old.length) := by rw [show i + 1 + old.length = (i + old.length) + 1 by omega]; rfl
    rw [e3] at e1
    rw [e1, e2, Nat.add_comm, Lib.replaceK_hit _ _ _ _ (i + 1) hi2, Lib.replaceK_hit _ _ _ _ i hii, e3]
    rfl
theorem rep_nil {old new : List UInt8} (h0 : old ≠ []) : rep old new [] = [] := by
  unfold rep
  rw [Lib.count_miss (by cases old with | nil => exact absurd rfl h0 | cons a b => rfl)]
  rfl
theorem all_rep {old new l : List UInt8} (h : (old == new) = false) : Lib.replaceAll l old new = rep old new l := by
  unfold Lib.replaceAll Lib.replace rep Lib.replaceNum
  rw [if_neg (by rw [h]; decide), if_pos (Or.inl (by decide))]
theorem rep_undbl : ∀ (n : Nat) (l : List UInt8), l.length ≤ n → rep [34, 34] [34] l = Wlx.undbl l := by
  intro n
  induction n with
  | zero => intro l hl; obtain rfl := List.eq_nil_of_length_eq_zero (Nat.le_zero.1 hl); exact rep_nil (by decide)
  | succ n ih =>
    intro l hl
    match l, hl with
    | [], _ => exact rep_nil (by decide)
    | [c], _ => rw [rep_miss (by decide) (by simp [List.isPrefixOf]), rep_nil (by decide)]; rfl
    | c :: d :: t, hl =>
      simp only [List.length_cons] at hl
      have e : Wlx.undbl (c :: d :: t) = if c = 34 ∧ d = 34 then 34 :: Wlx.undbl t else c :: Wlx.undbl (d :: t) := by conv => lhs; unfold Wlx.undbl
      rw [e]
      by_cases h : c = 34 ∧ d = 34
      · obtain ⟨rfl, rfl⟩ := h
        rw [rep_hit (by decide) (by simp [List.isPrefixOf]), if_pos ⟨rfl, rfl⟩]
        show 34 :: rep [34, 34] [34] t = _
        rw [ih t (by omega)]
      · rw [rep_miss (by decide) (by simp [List.isPrefixOf]; intro h1 h2; exact h ⟨h1.symm, h2.symm⟩), if_neg h, ih (d :: t) (by simp only [List.length_cons]; omega)]
theorem rep_dbl (l : List UInt8) : rep [34] [34, 34] l = Wlx.dbl l := by
  induction l with
  | nil => exact rep_nil (by decide)
  | cons c t ih =>
    have e : Wlx.dbl (c :: t) = if c = 34 then 34 :: 34 :: Wlx.dbl t else c :: Wlx.dbl t := rfl
    rw [e]
    by_cases h : c = 34
    · subst h
      rw [rep_hit (by decide) (by simp [List.isPrefixOf]), if_pos rfl]
      show 34 :: 34 :: rep [34] [34, 34] t = _
      rw [ih]
    · rw [rep_miss (by decide) (by simp [List.isPrefixOf]; exact fun e => h e.symm), if_neg h, ih]
theorem count_le_size (s old : ByteArray) (h : 1 ≤ old.size) : Lib.countB s old ≤ s.size := by
  have := Lib.countB_mul_le old h s.size s (Nat.le_refl _)
  have h2 : Lib.countB s old * 1 ≤ Lib.countB s old * old.size := Nat.mul_le_mul_left _ h
  omega
theorem replace_two (b : ByteArray) (w : World) (hm : MaxAt w) (hs : b.size ≤ 1048576) : Calls Tryz.prog 59 #[.string b, .string ⟨#[34, 34]⟩, .string ⟨#[34]⟩] w fun e w' => e = .returned (.string ⟨(Wlx.undbl b.data.toList).toArray⟩) ∧ Below w.heap.size w w' := by
  obtain ⟨m, hm⟩ := hm
  have c := count_le_size b ⟨#[34, 34]⟩ (by decide)
  have h := Any.strings_ReplaceAll { lays155 with } extra155 b ⟨#[34, 34]⟩ ⟨#[34]⟩ m w (by omega) hm (by decide) (by show b.size + _ * 1 ≤ _; omega)
  rw [all_rep (by decide), rep_undbl _ _ (Nat.le_refl _)] at h
  exact h
theorem replace_one (b : ByteArray) (w : World) (hm : MaxAt w) (hs : b.size ≤ 1048576) : Calls Tryz.prog 59 #[.string b, .string ⟨#[34]⟩, .string ⟨#[34, 34]⟩] w fun e w' => e = .returned (.string ⟨(Wlx.dbl b.data.toList).toArray⟩) ∧ Below w.heap.size w w' := by
  obtain ⟨m, hm⟩ := hm
  have c := count_le_size b ⟨#[34]⟩ (by decide)
  have h := Any.strings_ReplaceAll { lays155 with } extra155 b ⟨#[34]⟩ ⟨#[34, 34]⟩ m w (by omega) hm (by decide) (by show b.size + _ * 2 ≤ _; omega)
  rw [all_rep (by decide), rep_dbl] at h
  exact h
end Go.Proofs.YtlggnpohhahdlaaGreatDoor
namespace Wlx
theorem begins_length : ∀ (p l : List UInt8), begins p l = true → p.length ≤ l.length
  | [], _, _ => Nat.zero_le _
  | _ :: _, [], h => by simp [begins] at h
  | a :: p, b :: t, h => by
    simp only [begins, Bool.and_eq_true] at h
    have := begins_length p t h.2
    simp only [List.length_cons]; omega
theorem nameSz_le (l : List UInt8) (ns : List (List UInt8)) : nameSz l ns ≤ l.length := by
  induction ns with
  | nil => exact Nat.zero_le _
  | cons n r ih =>
    unfold nameSz
    split
    · rename_i h; exact begins_length n l h
    · exact ih
theorem quo_le : ∀ (l : List UInt8) (w : Bool) (i : Nat), quo w i l ≤ i + l.length
  | [], w, i => by unfold quo; split <;> simp
  | c :: t, w, i => by
    unfold quo
    split
    · have := quo_le t (!w) (i + 1); simp only [List.length_cons]; omega
    · split
      · have := quo_le t w (i + 1); simp only [List.length_cons]; omega
      · omega
theorem numTl_le (n : Nat) (l : List UInt8) : numTl n l ≤ n + l.length := by
  cases l with
  | nil => exact Nat.le_refl _
  | cons c t =>
    rw [numTl_cons]
    have := runP_le dig t
    split <;> simp only [List.length_cons] <;> omega
theorem numSz_le (l : List UInt8) : numSz l ≤ l.length := by
  unfold numSz
  split
  · exact Nat.zero_le _
  · have h1 := numTl_le (runP dig l) (l.drop (runP dig l))
    have h2 := runP_le dig l
    rw [List.length_drop] at h1
    omega
theorem txtSz_le (l : List UInt8) : txtSz l ≤ l.length := by
  cases l with
  | nil => exact Nat.zero_le _
  | cons c t =>
    show (if c = 34 then quo true 1 t else 0) ≤ _
    split
    · have := quo_le t true 1; simp only [List.length_cons]; omega
    · exact Nat.zero_le _
theorem sz_le (k : Nat) (l : List UInt8) : sz k l ≤ l.length := by
  unfold sz
  split
  · exact numSz_le l
  split
  · exact txtSz_le l
  split
  · exact runP_le _ l
  split
  · exact nameSz_le l _
  split
  · exact nameSz_le l _
  exact Nat.zero_le _
def hit (l : List UInt8) : Nat :=
  if 0 < sz 1 l then 1 else if 0 < sz 2 l then 2 else if 0 < sz 3 l then 3 else if 0 < sz 4 l then 4 else if 0 < sz 5 l then 5 else 6
theorem hit_pos {l : List UInt8} (h : ¬ hit l = 6) : 0 < sz (hit l) l := by
  unfold hit at *
  repeat' split
  all_goals first | assumption | (exfalso; apply h; simp_all)
theorem hit_first {l : List UInt8} {k : Nat} (h0 : 1 ≤ k) (h5 : k ≤ 5) (h : 0 < sz k l) (hb : ∀ j, 1 ≤ j → j < k → sz j l = 0) : hit l = k := by
  have : k = 1 ∨ k = 2 ∨ k = 3 ∨ k = 4 ∨ k = 5 := by omega
  unfold hit
  rcases this with rfl | rfl | rfl | rfl | rfl
  · rw [if_pos h]
  · rw [hb 1 (by omega) (by omega), if_neg (by omega), if_pos h]
  · rw [hb 1 (by omega) (by omega), if_neg (by omega), hb 2 (by omega) (by omega), if_neg (by omega), if_pos h]
  · rw [hb 1 (by omega) (by omega), if_neg (by omega), hb 2 (by omega) (by omega), if_neg (by omega), hb 3 (by omega) (by omega), if_neg (by omega), if_pos h]
  · rw [hb 1 (by omega) (by omega), if_neg (by omega), hb 2 (by omega) (by omega), if_neg (by omega), hb 3 (by omega) (by omega), if_neg (by omega), hb 4 (by omega) (by omega), if_neg (by omega), if_pos h]
theorem hit_none {l : List UInt8} (hb : ∀ j, 1 ≤ j → j ≤ 5 → sz j l = 0) : hit l = 6 := by
  unfold hit
  rw [hb 1 (by omega) (by omega), if_neg (by omega), hb 2 (by omega) (by omega), if_neg (by omega), hb 3 (by omega) (by omega), if_neg (by omega), hb 4 (by omega) (by omega), if_neg (by omega), hb 5 (by omega) (by omega), if_neg (by omega)]
structure Tok where
  k : Nat
  t : List UInt8
  p : Nat
abbrev Res := Sum (List Tok) (Nat × Nat)
abbrev Res.ok (ts : List Tok) : Res := .inl ts
abbrev Res.err (e p : Nat) : Res := .inr (e, p)
def Res.cons (t : Tok) : Res → Res
  | .inl ts => .inl (t :: ts)
  | .inr x => .inr x
def Res.pre : List Tok → Res → Res
  | [], r => r
  | t :: a, r => Res.cons t (Res.pre a r)
theorem Res.pre_snoc (a : List Tok) (t : Tok) (r : Res) : Res.pre (a ++ [t]) r = Res.pre a (Res.cons t r) := by
  induction a with
  | nil => rfl
  | cons x a ih => exact congrArg (Res.cons x) ih
theorem Res.pre_ok (a b : List Tok) : Res.pre a (Res.ok b) = Res.ok (a ++ b) := by
  induction a with
  | nil => rfl
  | cons x a ih => show Res.cons x _ = _; rw [ih]; rfl
theorem Res.pre_err (a : List Tok) (e p : Nat) : Res.pre a (Res.err e p) = Res.err e p := by
  induction a with
  | nil => rfl
  | cons x a ih => show Res.cons x _ = _; rw [ih]; rfl
def scanF : Nat → Nat → List UInt8 → Res
  | 0, _, _ => Res.ok []
  | _ + 1, _, [] => Res.ok []
  | f + 1, p, c :: t =>
    if c = 32 then scanF f (p + 1) t
    else if hit (c :: t) = 6 then Res.err (if c = 34 then 41 else 40) p
    else if runP prt ((c :: t).take (sz (hit (c :: t)) (c :: t))) < sz (hit (c :: t)) (c :: t) then Res.err 40 (p + runP prt ((c :: t).take (sz (hit (c :: t)) (c :: t))))
    else Res.cons ⟨hit (c :: t), said (hit (c :: t)) ((c :: t).take (sz (hit (c :: t)) (c :: t))), p⟩ (scanF f (p + sz (hit (c :: t)) (c :: t)) ((c :: t).drop (sz (hit (c :: t)) (c :: t))))
theorem scanF_cons (f p : Nat) (c : UInt8) (t : List UInt8) : scanF (f + 1) p (c :: t) = if c = 32 then scanF f (p + 1) t
    else if hit (c :: t) = 6 then Res.err (if c = 34 then 41 else 40) p
    else if runP prt ((c :: t).take (sz (hit (c :: t)) (c :: t))) < sz (hit (c :: t)) (c :: t) then Res.err 40 (p + runP prt ((c :: t).take (sz (hit (c :: t)) (c :: t))))
    else Res.cons ⟨hit (c :: t), said (hit (c :: t)) ((c :: t).take (sz (hit (c :: t)) (c :: t))), p⟩ (scanF f (p + sz (hit (c :: t)) (c :: t)) ((c :: t).drop (sz (hit (c :: t)) (c :: t)))) := rfl
theorem scanF_nil (f p : Nat) : scanF f p [] = Res.ok [] := by cases f <;> rfl
theorem scanF_any : ∀ (f g p : Nat) (l : List UInt8), l.length ≤ f → l.length ≤ g → scanF f p l = scanF g p l := by
  intro f
  induction f with
  | zero =>
    intro g p l h1 h2
    obtain rfl := List.eq_nil_of_length_eq_zero (Nat.le_zero.1 h1)
    rw [scanF_nil, scanF_nil]
  | succ f ih =>
    intro g p l h1 h2
    cases l with
    | nil => rw [scanF_nil, scanF_nil]
    | cons c t =>
      simp only [List.length_cons] at h1 h2
      obtain ⟨g, rfl⟩ : ∃ g', g = g' + 1 := ⟨g - 1, by omega⟩
      rw [scanF_cons, scanF_cons, ih g (p + 1) t (by omega) (by omega)]
      by_cases h6 : hit (c :: t) = 6
      · rw [if_pos h6, if_pos h6]
      · have := hit_pos h6
        have hl : ((c :: t).drop (sz (hit (c :: t)) (c :: t))).length ≤ t.length := by
          rw [List.length_drop]; simp only [List.length_cons]; omega
        rw [ih g (p + sz (hit (c :: t)) (c :: t)) ((c :: t).drop (sz (hit (c :: t)) (c :: t))) (by omega) (by omega)]
def scan (p : Nat) (l : List UInt8) : Res := scanF l.length p l
theorem scan_cons (p : Nat) (c : UInt8) (t : List UInt8) : scan p (c :: t) = if c = 32 then scan (p + 1) t
    else if hit (c :: t) = 6 then Res.err (if c = 34 then 41 else 40) p
    else if runP prt ((c :: t).take (sz (hit (c :: t)) (c :: t))) < sz (hit (c :: t)) (c :: t) then Res.err 40 (p + runP prt ((c :: t).take (sz (hit (c :: t)) (c :: t))))
    else Res.cons ⟨hit (c :: t), said (hit (c :: t)) ((c :: t).take (sz (hit (c :: t)) (c :: t))), p⟩ (scan (p + sz (hit (c :: t)) (c :: t)) ((c :: t).drop (sz (hit (c :: t)) (c :: t)))) := by
  unfold scan
  rw [List.length_cons, scanF_cons]
  by_cases h6 : hit (c :: t) = 6
  · rw [if_pos h6, if_pos h6]
  · have := hit_pos h6
    have hl : ((c :: t).drop (sz (hit (c :: t)) (c :: t))).length ≤ t.length := by
      rw [List.length_drop]; simp only [List.length_cons]; omega
    rw [scanF_any t.length _ (p + sz (hit (c :: t)) (c :: t)) ((c :: t).drop (sz (hit (c :: t)) (c :: t))) hl (Nat.le_refl _)]
theorem scan_nil (p : Nat) : scan p [] = Res.ok [] := rfl
theorem scan_blank (p : Nat) (t : List UInt8) : scan p (32 :: t) = scan (p + 1) t := by
  rw [scan_cons, if_pos rfl]
theorem scan_none {p : Nat} {c : UInt8} {t : List UInt8} (h : ¬ c = 32) (h6 : hit (c :: t) = 6) : scan p (c :: t) = Res.err (if c = 34 then 41 else 40) p := by
  rw [scan_cons, if_neg h, if_pos h6]
theorem scan_bad {p : Nat} {c : UInt8} {t : List UInt8} (h : ¬ c = 32) {k n : Nat} (hk : hit (c :: t) = k) (h6 : ¬ k = 6) (hn : sz k (c :: t) = n) (hb : runP prt ((c :: t).take n) < n) : scan p (c :: t) = Res.err 40 (p + runP prt ((c :: t).take n)) := by
  subst hk hn
  rw [scan_cons, if_neg h, if_neg h6, if_pos hb]
theorem scan_tok {p : Nat} {c : UInt8} {t : List UInt8} (h : ¬ c = 32) {k n : Nat} (hk : hit (c :: t) = k) (h6 : ¬ k = 6) (hn : sz k (c :: t) = n) (hb : ¬ runP prt ((c :: t).take n) < n) :
    scan p (c :: t) = Res.cons ⟨k, said k ((c :: t).take n), p⟩ (scan (p + n) ((c :: t).drop n)) := by
  subst hk hn
  rw [scan_cons, if_neg h, if_neg h6, if_neg hb]
end Wlx
namespace Go.Proofs.YtlggnpohhahdlaaGreatDoor
open Go.Shelf Go.RowKit
set_option linter.unusedVariables false
theorem said_text (b : ByteArray) (w : World) (hm : MaxAt w) (h2 : 2 ≤ b.size) (hs : b.size ≤ 1048576) : Calls Tryz.prog 37 #[.int .i64 2, .string b] w fun e w' => e = .returned (.string ⟨(Wlx.said 2 b.data.toList).toArray⟩) ∧ Below w.heap.size w w' := by
  have c1 : (1 : Int) ≤ (b.size : Int) - 1 := by omega
  have c2 : (b.size : Int) - 1 ≤ (b.size : Int) := by omega
  have E : Hid (Wlx.undbl (b.extract 1 (b.size - 1)).data.toList = Wlx.said 2 b.data.toList) := by
    show _ = _
    rw [Lib.extract_data]
    have : b.data.toList.length = b.size := rfl
    unfold Wlx.said
    rw [if_pos rfl, this, show b.size - 1 - 1 = b.size - 2 by omega]
  have R := fun w hm => replace_two (b.extract 1 (b.size - 1)) w hm (by rw [ByteArray.size_extract]; omega)
  rw [E.out] at R
  clear E
  generalize Wlx.said 2 b.data.toList = q at *
  have e1 : ((b.size : Int) - 1).toNat = b.size - 1 := by omega
  go_enter Tryz.func37, Tryz.ntmps37
  go_wp2_with fail
  refine (R _ hm).mono ?_
  rintro e w1 ⟨rfl, hb⟩
  go_wp2
  go_ret
  exact ⟨rfl, hb⟩
theorem said_other (k : Nat) (b : ByteArray) (w : World) (h : ¬ k = 2) : Calls Tryz.prog 37 #[.int .i64 k, .string b] w fun e w' => e = .returned (.string ⟨(Wlx.said k b.data.toList).toArray⟩) ∧ Below w.heap.size w w' := by
  have hk : ((k : Int) != 2) = true := by simp; omega
  have E : Hid ((⟨(Wlx.said k b.data.toList).toArray⟩ : ByteArray) = b) := by
    show _ = _; unfold Wlx.said; rw [if_neg h]
  clear h
  rw [E.out]
  go_enter Tryz.func37, Tryz.ntmps37
  go_wp2
  go_ret
  exact ⟨rfl, Below.refl _ _⟩
theorem said_any (k : Nat) (b : ByteArray) (w : World) (hm : MaxAt w) (h2 : k = 2 → 2 ≤ b.size) (hs : b.size ≤ 1048576) : Calls Tryz.prog 37 #[.int .i64 k, .string b] w fun e w' => e = .returned (.string ⟨(Wlx.said k b.data.toList).toArray⟩) ∧ Below w.heap.size w w' := by
  by_cases h : k = 2
  · subst h; exact said_text b w hm (h2 rfl) hs
  · exact said_other k b w h
theorem refusal_any (b : ByteArray) (w : World) (hs : b.size ≤ 9223372036854775807) : Calls Tryz.prog 38 #[.string b] w fun e w' => e = .returned (.int .i64 (if Wlx.begins [34] b.data.toList then 41 else 40)) ∧ w = w' := by
  have HP := hasPrefix_any b ⟨#[34]⟩ w hs
  have e0 : (⟨#[34]⟩ : ByteArray).data.toList = [34] := rfl
  rw [e0] at HP
  cases hb : Wlx.begins [34] b.data.toList with
  | true =>
    rw [hb] at HP
    clear hb
    go_enter Tryz.func38, Tryz.ntmps38
    go_wp2_with fail
    refine HP.mono ?_
    rintro e w1 ⟨rfl, rfl⟩
    go_wp2
    go_ret
    exact ⟨rfl, rfl⟩
  | false =>
    rw [hb] at HP
    clear hb
    go_enter Tryz.func38, Tryz.ntmps38
    go_wp2_with fail
    refine HP.mono ?_
    rintro e w1 ⟨rfl, rfl⟩
    go_wp2
    go_ret
    exact ⟨rfl, rfl⟩
def tok3 (t : Wlx.Tok) : List Value := [.int .i64 t.k, .string ⟨t.t.toArray⟩, .int .i64 t.p]
def rowT (ts : List Wlx.Tok) : List Value := ts.flatMap tok3
theorem rowT_snoc (ts : List Wlx.Tok) (t : Wlx.Tok) : rowT (ts ++ [t]) = rowT ts ++ tok3 t := by simp [rowT]
theorem tokInfo : (Tryz.prog.info? 79).map (fun i => (i.zero, i.size, i.bytes)) = some (some (.agg #[.int .i64 0, .string ⟨#[]⟩, .int .i64 0]), 3, 32) := by kernel_rfl
abbrev OwnT (w : World) (base : Nat) (v : Value) (ts : List Wlx.Tok) : Prop := w.ownsRow base 79 3 v ts.length (rowT ts)
theorem own_below {B : Nat} {v : Value} {ts : List Wlx.Tok} {w w' : World} (h : OwnT w B v ts) (hb : Below w.heap.size w w') : OwnT w' B v ts :=
  h.kept (row := none) ⟨hb.os, hb.tape, hb.output, hb.size, fun k hk _ => hb.block k hk⟩ (by cases v.ownBlock <;> simp)
def scanAll (l : List UInt8) : Wlx.Res := if 1024 < l.length then Wlx.Res.err 2 0 else Wlx.scan 0 l
def ScanPost (B : Nat) (r : Wlx.Res) (e : Ending) (w : World) : Prop :=
  match r with
  | .inl ts => ∃ v, e = .returned (.tuple #[v, .int .i64 0, .int .i64 0]) ∧ OwnT w B v ts
  | .inr (c, p) => e = .returned (.tuple #[.slice none 0 0, .int .i64 c, .int .i64 p])
theorem iter_grown {w w' : World} {row : Option Nat} (hg : w.grownBy w' row) {k : Nat} {s : ByteArray} {pos : Nat} (hk : w.heap[k]? = some (.stringIter s pos)) (hne : some k ≠ row) : w'.heap[k]? = some (.stringIter s pos) := by
  rw [hg.block k (Array.getElem?_eq_some_iff.1 hk).1 hne]; exact hk
theorem iter_below {w w' : World} (hb : Below w.heap.size w w') {k : Nat} {s : ByteArray} {pos : Nat} (hk : w.heap[k]? = some (.stringIter s pos)) : w'.heap[k]? = some (.stringIter s pos) := by
  rw [hb.block k (Array.getElem?_eq_some_iff.1 hk).1]; exact hk
theorem prt_low {c : UInt8} (h : Wlx.prt c = true) : c.toNat < 128 := by
  unfold Wlx.prt at h; simp at h; omega
theorem runP_all {p : UInt8 → Bool} : ∀ (l : List UInt8), ¬ Wlx.runP p l < l.length → ∀ x ∈ l, p x = true
  | [], _, x, hx => by cases hx
  | c :: t, h, x, hx => by
    cases hc : p c with
    | false => rw [Wlx.runP_neg hc] at h; simp at h
    | true =>
      rw [Wlx.runP_pos hc] at h
      simp only [List.length_cons] at h
      rcases List.mem_cons.1 hx with rfl | hx
      · exact hc
      · exact runP_all t (by omega) x hx
end Go.Proofs.YtlggnpohhahdlaaGreatDoor
