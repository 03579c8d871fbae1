/- TLawParts. -/
import Derived.Test.YtegojlnbjmomeabGreatDoorQ41
import Derived.Deep.LoopGhost
import Derived.Laws.AppendOwn
import Derived.Laws.BitsLemmas
/- TreeParts, walked. -/
namespace Go.Proofs.YtegojlnbjmomeabGreatDoor
open Go.RowKit Go.Shelf
set_option linter.unusedVariables false

theorem wj (j : Nat) (h : j ≤ 30) : IntKind.i64.wrap (j : Int) = (j : Int) := by rw [IntKind.wrap_i64]; omega
theorem wj1 (j : Nat) (h : j ≤ 30) : IntKind.i64.wrap ((j : Int) + 1) = (j : Int) + 1 := by rw [IntKind.wrap_i64]; omega
theorem OwnI.cell {w : World} {B n cap : Nat} {av : Option Addr} {ks : List Nat} (h : OwnI w B (.slice av n cap) ks) (hk : 0 < ks.length) : ∃ g, av = some ⟨g, 0, none⟩ ∧ ∀ (j q : Nat), ks[j]? = some q → w.cell? ⟨g, j, none⟩ = some (.int .i64 (q : Int)) := by
  rcases h.2 with ⟨e, h0⟩ | ⟨g, cap', cur, e, hg, hc, h1, _⟩
  · omega
  · simp only [Value.slice.injEq] at e
    obtain ⟨rfl, rfl, rfl⟩ := e
    refine ⟨g, rfl, fun j q hq => ?_⟩
    have hj := (List.getElem?_eq_some_iff.1 hq).1
    rw [World.ownsRow.cellAt h j (by omega)]
    unfold intC
    rw [List.getElem?_map, hq]; rfl
theorem OwnN.cell {w : World} {B n cap : Nat} {av : Option Addr} {row : List Wt.Nd} (h : OwnN w B (.slice av n cap) row) (hk : 0 < row.length) : ∃ g, av = some ⟨g, 0, none⟩ ∧ row.length ≤ cap ∧ ∀ j u, (ndRow row)[j]? = some u → w.cell? ⟨g, j, none⟩ = some u := by
  rcases h.2 with ⟨e, h0⟩ | ⟨g, cap', cur, e, hg, hc, h1, _⟩
  · omega
  · simp only [Value.slice.injEq] at e
    obtain ⟨rfl, rfl, rfl⟩ := e
    refine ⟨g, rfl, h1, fun j u hu => ?_⟩
    have hj := (List.getElem?_eq_some_iff.1 hu).1
    rw [ndRow_length] at hj
    rw [World.ownsRow.cellAt h j hj, hu]
theorem ndRow_ones (l : List Wt.Nd) : ∀ u ∈ ndRow l, u.oneCell' = true := by
  intro u hu
  unfold ndRow at hu
  obtain ⟨x, _, hu⟩ := List.mem_flatMap.1 hu
  exact nd_one x u hu
theorem ndRow_sub {row : List Wt.Nd} {q t j : Nat} {u : Value} (hq : q ≤ row.length) (h : (ndRow ((row.drop q).take t))[j]? = some u) : (ndRow row)[q * 20 + j]? = some u := by
  have e : row = row.take q ++ ((row.drop q).take t ++ (row.drop q).drop t) := by rw [List.take_append_drop, List.take_append_drop]
  have hl : (ndRow (row.take q)).length = q * 20 := by rw [ndRow_length, List.length_take]; omega
  have hj := (List.getElem?_eq_some_iff.1 h).1
  have e2 : ndRow row = ndRow (row.take q) ++ (ndRow ((row.drop q).take t) ++ ndRow ((row.drop q).drop t)) := by
    rw [← ndRow_app, ← ndRow_app, ← e]
  rw [e2, List.getElem?_append_right (by omega), hl, Nat.add_sub_cancel_left, List.getElem?_append_left hj]
  exact h
theorem OwnI.form {w : World} {B : Nat} {v : Value} {ks : List Nat} (h : OwnI w B v ks) : ∃ av cap, v = .slice av ks.length cap := by
  rcases h.2 with ⟨rfl, h0⟩ | ⟨g, cap, cur, rfl, _⟩
  · exact ⟨none, 0, by rw [h0]⟩
  · exact ⟨_, cap, rfl⟩
/-- The place that k names in a row of so many. -/
theorem idx_of (k : Int) (m : Nat) (hm : 0 < m) : (0 ≤ k.tmod (m : Int) → ∃ i : Nat, k.tmod (m : Int) = i ∧ i < m) ∧ (k.tmod (m : Int) < 0 → ∃ i : Nat, k.tmod (m : Int) + m = i ∧ i < m) := by
  have h1 := Int.tmod_lt_of_pos k (show (0 : Int) < m by omega)
  have h2 : -(m : Int) < k.tmod m := by
    have := Int.tmod_lt_of_pos (-k) (show (0 : Int) < m by omega)
    rw [Int.neg_tmod] at this; omega
  exact ⟨fun h => ⟨(k.tmod m).toNat, by omega, by omega⟩, fun h => ⟨(k.tmod m + m).toNat, by omega, by omega⟩⟩
set_option maxRecDepth 100000 in
set_option maxHeartbeats 16000000 in
theorem parts_main (b : ByteArray) (k : Int) (w : World) (hE : Env w) (hk8 : 8 ≤ w.heap.size) (hs : b.size ≤ 9223372036854775807) (hk1 : -9223372036854775808 ≤ k) (hk2 : k ≤ 9223372036854775807) :
    Calls Tryz.prog 6 #[.string b, .int .i64 k] w fun e w' => e = .returned (.bool true) ∧ Below w.heap.size w w' := by
  have A := table_any w hE hk8
  have S := fun w hE hk8 => parse_any b w hE hs hk8
  cases hr : prsR b.data.toList with
  | inr q =>
    obtain ⟨c, p⟩ := q
    rw [hr] at S
    simp only [PaPost] at S
    have hc := prsR_code hr
    have hci : (c != 0) = true := by simp [hc]
    go_enter Tryz.func6, Tryz.ntmps6
    go_wp2_with fail
    refine A.mono ?_
    rintro e w1 ⟨rfl, hb1⟩
    go_wp2_with fail
    refine (S w1 (hE.below hb1) (Nat.le_trans hk8 hb1.size)).mono ?_
    rintro e w2 ⟨rfl, hb2⟩
    have hB2 := below_end hb1 hb2
    go_wp2
    go_ret
    exact ⟨rfl, hB2⟩
  | inl row =>
    rw [hr] at S
    simp only [PaPost] at S
    obtain ⟨hfit, hck⟩ := prsR_row hr
    obtain ⟨h256, d, hone, hd⟩ := check_zero hck
    have hpos : 0 < row.length := by have := one_loc _ _ _ _ hone; omega
    obtain ⟨m, hm⟩ : ∃ m, row.length = m := ⟨_, rfl⟩
    obtain ⟨i0, hi0, hz0, hz1, hz2⟩ := info_parts nodeInfo
    have A := A
    obtain ⟨ix1, ix2⟩ := idx_of k m (by omega)
    have hm0 : ¬ (m : Int) = 0 := by omega
    have hm0' : ((m : Int) == 0) = false := by simp; omega
    have KS := fun (i : Nat) (hi : i < row.length) => kids_spec hi hck
    by_cases ht : k.tmod (m : Int) < 0
    · obtain ⟨i, hi, hlt⟩ := ix2 ht
      have hlo : -256 ≤ k.tmod (m : Int) := by omega
      have hm256 : (m : Int) ≤ 256 := by omega
      clear ix1 ix2
      have HFit : Hid (∀ x ∈ row, Wt.FitN x) := hfit
      have HKS : Hid (∀ (i : Nat) (hi : i < row.length), (kidsP row i).length ≤ 30 ∧ ∀ j, j < (kidsP row i).length → ∃ q s, (kidsP row i)[j]? = some q ∧ i < q ∧ q + s ≤ row.length ∧ 1 ≤ s ∧ (j = 0 → q = i + 1) ∧ Wt.check ((row.drop q).take s) = 0 ∧ (j + 1 < (kidsP row i).length → (kidsP row i)[j + 1]? = some (q + s))) := KS
      have HCk : Hid (Wt.check row = 0) := hck
      clear hfit KS hck hone hd
      go_enter Tryz.func6, Tryz.ntmps6
      go_wp2_with fail
      refine A.mono ?_
      rintro e w1 ⟨rfl, hb1⟩
      go_wp2_with fail
      refine (S w1 (hE.below hb1) (Nat.le_trans hk8 hb1.size)).mono ?_
      rintro e w2 ⟨⟨v, rfl, hown⟩, hb2⟩
      have hB2 := below_end hb1 hb2
      obtain ⟨av, cap, rfl, hrd⟩ := hown.form
      rw [hm]
      have hown0 : OwnN w2 w.heap.size (.slice av row.length cap) row := ⟨hown.1, hown.2.imp id fun ⟨g, cap, cur, a, b, c⟩ => ⟨g, cap, cur, a, Nat.le_trans hb1.size b, c⟩⟩
      have hE2 := hE.below hB2
      have KD := kids_some av cap row i w2 HFit.out hE2.1 hrd (by omega) HCk.out
      obtain ⟨hn30, hks⟩ := HKS.out i (by omega)
      rw [hm] at KD
      generalize kidsP row i = ks at *
      have HK2 : Hid (∀ j, j < ks.length → ∃ q s, ks[j]? = some q ∧ i < q ∧ q + s ≤ row.length ∧ 1 ≤ s ∧ (j = 0 → q = i + 1) ∧ Wt.check ((row.drop q).take s) = 0 ∧ (j + 1 < ks.length → ks[j + 1]? = some (q + s))) := hks
      clear A S hb1 hb2 hr hrd HKS hks
      go_wp2_with fail
      refine KD.mono ?_
      rintro e w3 ⟨v9, rfl, hI, hb3⟩
      obtain ⟨av9, cap9, rfl⟩ := hI.form
      have hs2 := hB2.size
      have HI : Hid (OwnI w3 w.heap.size (.slice av9 ks.length cap9) ks) := ⟨hI.1, hI.2.imp id fun ⟨g, cap, cur, a, b, c⟩ => ⟨g, cap, cur, a, Nat.le_trans hs2 b, c⟩⟩
      have HN : Hid (OwnN w3 w.heap.size (.slice av row.length cap) row) := hown0.below hb3
      have hB3 := below_end hB2 hb3
      obtain ⟨n, hn⟩ : ∃ n, ks.length = n := ⟨_, rfl⟩
      rw [hn] at HI hn30 HK2 ⊢
      clear KD hI hb3 hown hown0 hE2 hs2
      by_cases hn0 : n = 0
      · have hnp : ¬ (0 : Int) < (n : Int) := by omega
        go_wp2_with fail
        go_loopg [10] n (fun gk y wr => ∃ j : Nat, y = .int .i64 j ∧ gk = n - j ∧ j ≤ n ∧ Hid (OwnI wr w.heap.size (.slice av9 n cap9) ks) ∧ Hid (OwnN wr w.heap.size (.slice av row.length cap) row) ∧ Below w.heap.size w wr)
        case atStart => exact ⟨0, rfl, rfl, Nat.zero_le _, HI, HN, hB3⟩
        case round =>
          obtain ⟨j, rfl, hg, hj, H1, H2, hB⟩ := hrel
          clear HI HN hB3
          by_cases hlt : j < n
          · exact absurd hlt (by omega)
          · have hli : ¬ (j : Int) < (n : Int) := by omega
            go_wp2_with fail
            go_loopg [11] n (fun gk y wr => ∃ j : Nat, y = .int .i64 j ∧ gk = n - j ∧ j ≤ n ∧ Hid (OwnI wr w.heap.size (.slice av9 n cap9) ks) ∧ Hid (OwnN wr w.heap.size (.slice av row.length cap) row) ∧ Below w.heap.size w wr)
            case atStart => exact ⟨0, rfl, rfl, Nat.zero_le _, H1, H2, hB⟩
            case round =>
              clear H1 H2 hB hli hj hg
              obtain ⟨j, rfl, hg, hj, H1, H2, hB⟩ := hrel
              by_cases hlt2 : j + 1 < n
              · exact absurd hlt2 (by omega)
              · have hli2 : ¬ (j : Int) + 1 < (n : Int) := by omega
                have hjn : (j : Int) ≤ 30 := by omega
                go_wp2
                go_ret
                exact ⟨rfl, hB⟩
      · obtain ⟨q, s, e1, -, -, -, h4, -, -⟩ := HK2.out 0 (by omega)
        obtain rfl := h4 rfl
        obtain ⟨g, rfl, hcell⟩ := OwnI.cell HI.out (by omega)
        have c00 := hcell 0 _ e1
        have hnp : (0 : Int) < (n : Int) := by omega
        clear hcell e1
        go_wp2_with fail
        go_loopg [10] n (fun gk y wr => ∃ j : Nat, y = .int .i64 j ∧ gk = n - j ∧ j ≤ n ∧ Hid (OwnI wr w.heap.size (.slice (some ⟨g, 0, none⟩) n cap9) ks) ∧ Hid (OwnN wr w.heap.size (.slice av row.length cap) row) ∧ Below w.heap.size w wr)
        case atStart => exact ⟨0, rfl, rfl, Nat.zero_le _, HI, HN, hB3⟩
        case round =>
          obtain ⟨j, rfl, hg, hj, H1, H2, hB⟩ := hrel
          clear HI HN hB3
          by_cases hlt : j < n
          · obtain ⟨q, s, e1, p1, p2, p3, p4, -, -⟩ := HK2.out j hlt
            obtain ⟨g', eg, hcell⟩ := OwnI.cell H1.out (by omega)
            obtain rfl : g = g' := by simpa using eg
            have hli : (j : Int) < (n : Int) := by omega
            have r1 : ¬ (q : Int) ≤ (i : Int) := by omega
            have r2 : ¬ (m : Int) ≤ (q : Int) := by omega
            cases j with
            | zero =>
              have HC : Hid (wr.cell? ⟨g, 0, none⟩ = some (.int .i64 (q : Int))) := hcell 0 q e1
              clear hcell e1 p4
              go_upto_region 15 with fail
              refine wp_region_held_drew (S := fun W => W.cell? ⟨g, 0, none⟩ = some (.int .i64 (q : Int))) (by kernel_rfl) HC.out (fun hHeld => ?_)
              refine wpAnyH_take (i := 0) (oi := { dst := (Option.some 52), op := Op.move (Operand.tmp 9), type := 33, pos := "outright.go:173", after := #[], guard := Option.none }) (v := ?_) rfl (by kernel_rfl) (by kernel_rfl) (by kernel_rfl) (fun _ _ _ h => h) (Or.inl ⟨by rfl, ?_⟩) (by assumption) ?_
              rotate_left
              · intro w hSw
                (try dsimp only at hSw)
                go_simp
                try with_reducible rfl
              try simp only [Act.put, List.setIfInBounds_toArray, List.set_cons_zero, List.set_cons_succ]
              refine wpAnyH_take (i := 1) (oi := { dst := (Option.some 53), op := Op.move (Operand.tmp 10), type := 3, pos := "outright.go:173", after := #[], guard := Option.none }) (v := ?_) rfl (by kernel_rfl) (by kernel_rfl) (by kernel_rfl) (fun _ _ _ h => h) (Or.inl ⟨by rfl, ?_⟩) (by assumption) ?_
              rotate_left
              · intro w hSw
                (try dsimp only at hSw)
                go_simp
                try with_reducible rfl
              try simp only [Act.put, List.setIfInBounds_toArray, List.set_cons_zero, List.set_cons_succ]
              refine wpAnyH_take (i := 2) (oi := { dst := (Option.some 54), op := Op.indexAddr 33 (Operand.tmp 52) (Operand.tmp 53), type := 0, pos := "outright.go:173", after := #[{ on := 0, ground := Ground.data }, { on := 1, ground := Ground.data }], guard := Option.none }) (v := ?_) rfl (by kernel_rfl) (by kernel_rfl) (by kernel_rfl) (fun _ _ _ h => h) (Or.inl ⟨by rfl, ?_⟩) (by assumption) ?_
              rotate_left
              · intro w hSw
                (try dsimp only at hSw)
                go_simp
                try with_reducible rfl
              try simp only [Act.put, List.setIfInBounds_toArray, List.set_cons_zero, List.set_cons_succ]
              refine wpAnyH_take (i := 3) (oi := { dst := (Option.some 55), op := Op.load 3 (Operand.tmp 54), type := 3, pos := "outright.go:173", after := #[{ on := 2, ground := Ground.data }], guard := Option.none }) (v := ?_) rfl (by kernel_rfl) (by kernel_rfl) (by kernel_rfl) (fun _ _ _ h => h) (Or.inl ⟨by rfl, ?_⟩) (by assumption) ?_
              rotate_left
              · intro w hSw
                (try dsimp only at hSw)
                go_simp
                try with_reducible rfl
              try simp only [Act.put, List.setIfInBounds_toArray, List.set_cons_zero, List.set_cons_succ]
              refine wpAnyH_take (i := 4) (oi := { dst := (Option.some 56), op := Op.move (Operand.tmp 8), type := 3, pos := "outright.go:173", after := #[], guard := Option.none }) (v := ?_) rfl (by kernel_rfl) (by kernel_rfl) (by kernel_rfl) (fun _ _ _ h => h) (Or.inl ⟨by rfl, ?_⟩) (by assumption) ?_
              rotate_left
              · intro w hSw
                (try dsimp only at hSw)
                go_simp
                try with_reducible rfl
              try simp only [Act.put, List.setIfInBounds_toArray, List.set_cons_zero, List.set_cons_succ]
              refine wpAnyH_take (i := 5) (oi := { dst := (Option.some 57), op := Op.binOp BinOp.leq 3 (Operand.tmp 55) (Operand.tmp 56) 3, type := 4, pos := "outright.go:173", after := #[{ on := 3, ground := Ground.data }, { on := 4, ground := Ground.data }], guard := Option.none }) (v := ?_) rfl (by kernel_rfl) (by kernel_rfl) (by kernel_rfl) (fun _ _ _ h => h) (Or.inl ⟨by rfl, ?_⟩) (by assumption) ?_
              rotate_left
              · intro w hSw
                (try dsimp only at hSw)
                go_simp
                try with_reducible rfl
              try simp only [Act.put, List.setIfInBounds_toArray, List.set_cons_zero, List.set_cons_succ]
              refine wpAnyH_take (i := 6) (oi := { dst := (Option.some 58), op := Op.move (Operand.tmp 57), type := 4, pos := "outright.go:173", after := #[{ on := 5, ground := Ground.data }], guard := Option.none }) (v := ?_) rfl (by kernel_rfl) (by kernel_rfl) (by kernel_rfl) (fun _ _ _ h => h) (Or.inl ⟨by rfl, ?_⟩) (by assumption) ?_
              rotate_left
              · intro w hSw
                (try dsimp only at hSw)
                go_simp
                try with_reducible rfl
              try simp only [Act.put, List.setIfInBounds_toArray, List.set_cons_zero, List.set_cons_succ]
              refine wpAnyH_take (i := 7) (oi := { dst := (Option.some 59), op := Op.move (Operand.tmp 9), type := 33, pos := "outright.go:173", after := #[{ on := 6, ground := Ground.guard }], guard := Option.some (6, Bool.false) }) (v := ?_) rfl (by kernel_rfl) (by kernel_rfl) (by kernel_rfl) (fun _ _ _ h => h) (Or.inl ⟨by rfl, ?_⟩) (by assumption) ?_
              rotate_left
              · intro w hSw
                (try dsimp only at hSw)
                go_simp
                try with_reducible rfl
              try simp only [Act.put, List.setIfInBounds_toArray, List.set_cons_zero, List.set_cons_succ]
              refine wpAnyH_take (i := 8) (oi := { dst := (Option.some 60), op := Op.move (Operand.tmp 10), type := 3, pos := "outright.go:173", after := #[{ on := 6, ground := Ground.guard }], guard := Option.some (6, Bool.false) }) (v := ?_) rfl (by kernel_rfl) (by kernel_rfl) (by kernel_rfl) (fun _ _ _ h => h) (Or.inl ⟨by rfl, ?_⟩) (by assumption) ?_
              rotate_left
              · intro w hSw
                (try dsimp only at hSw)
                go_simp
                try with_reducible rfl
              try simp only [Act.put, List.setIfInBounds_toArray, List.set_cons_zero, List.set_cons_succ]
              refine wpAnyH_take (i := 9) (oi := { dst := (Option.some 61), op := Op.indexAddr 33 (Operand.tmp 59) (Operand.tmp 60), type := 0, pos := "outright.go:173", after := #[{ on := 7, ground := Ground.data }, { on := 8, ground := Ground.data }, { on := 6, ground := Ground.guard }], guard := Option.some (6, Bool.false) }) (v := ?_) rfl (by kernel_rfl) (by kernel_rfl) (by kernel_rfl) (fun _ _ _ h => h) (Or.inl ⟨by rfl, ?_⟩) (by assumption) ?_
              rotate_left
              · intro w hSw
                (try dsimp only at hSw)
                go_simp
                try with_reducible rfl
              try simp only [Act.put, List.setIfInBounds_toArray, List.set_cons_zero, List.set_cons_succ]
              refine wpAnyH_take (i := 10) (oi := { dst := (Option.some 62), op := Op.load 3 (Operand.tmp 61), type := 3, pos := "outright.go:173", after := #[{ on := 9, ground := Ground.data }, { on := 6, ground := Ground.guard }], guard := Option.some (6, Bool.false) }) (v := ?_) rfl (by kernel_rfl) (by kernel_rfl) (by kernel_rfl) (fun _ _ _ h => h) (Or.inl ⟨by rfl, ?_⟩) (by assumption) ?_
              rotate_left
              · intro w hSw
                (try dsimp only at hSw)
                go_simp
                try with_reducible rfl
              try simp only [Act.put, List.setIfInBounds_toArray, List.set_cons_zero, List.set_cons_succ]
              refine wpAnyH_take (i := 11) (oi := { dst := (Option.some 63), op := Op.move (Operand.tmp 5), type := 23, pos := "outright.go:173", after := #[{ on := 6, ground := Ground.guard }], guard := Option.some (6, Bool.false) }) (v := ?_) rfl (by kernel_rfl) (by kernel_rfl) (by kernel_rfl) (fun _ _ _ h => h) (Or.inl ⟨by rfl, ?_⟩) (by assumption) ?_
              rotate_left
              · intro w hSw
                (try dsimp only at hSw)
                go_simp
                try with_reducible rfl
              try simp only [Act.put, List.setIfInBounds_toArray, List.set_cons_zero, List.set_cons_succ]
              refine wpAnyH_take (i := 12) (oi := { dst := (Option.some 64), op := Op.call { callee := Callee.builtin Builtin.len, args := #[Operand.tmp 63], argTypes := #[23] }, type := 3, pos := "outright.go:173", after := #[{ on := 11, ground := Ground.data }, { on := 6, ground := Ground.guard }], guard := Option.some (6, Bool.false) }) (v := ?_) rfl (by kernel_rfl) (by kernel_rfl) (by kernel_rfl) (fun _ _ _ h => h) (Or.inl ⟨by rfl, ?_⟩) (by assumption) ?_
              rotate_left
              · intro w hSw
                (try dsimp only at hSw)
                go_simp
                try with_reducible rfl
              try simp only [Act.put, List.setIfInBounds_toArray, List.set_cons_zero, List.set_cons_succ]
              refine wpAnyH_take (i := 13) (oi := { dst := (Option.some 65), op := Op.binOp BinOp.geq 3 (Operand.tmp 62) (Operand.tmp 64) 3, type := 4, pos := "outright.go:173", after := #[{ on := 10, ground := Ground.data }, { on := 12, ground := Ground.data }, { on := 6, ground := Ground.guard }], guard := Option.some (6, Bool.false) }) (v := ?_) rfl (by kernel_rfl) (by kernel_rfl) (by kernel_rfl) (fun _ _ _ h => h) (Or.inl ⟨by rfl, ?_⟩) (by assumption) ?_
              rotate_left
              · intro w hSw
                (try dsimp only at hSw)
                go_simp
                try with_reducible rfl
              try simp only [Act.put, List.setIfInBounds_toArray, List.set_cons_zero, List.set_cons_succ]
              refine wpAnyH_take (i := 14) (oi := { dst := (Option.some 66), op := Op.pick (Operand.tmp 58) (Operand.const (Value.bool Bool.true)) (Operand.tmp 65), type := 4, pos := "outright.go:173", after := #[{ on := 6, ground := Ground.data }, { on := 13, ground := Ground.data }], guard := Option.none }) (v := ?_) rfl (by kernel_rfl) (by kernel_rfl) (by kernel_rfl) (fun _ _ _ h => h) (Or.inl ⟨by rfl, ?_⟩) (by assumption) ?_
              rotate_left
              · intro w hSw
                (try dsimp only at hSw)
                go_simp
                try with_reducible rfl
              try simp only [Act.put, List.setIfInBounds_toArray, List.set_cons_zero, List.set_cons_succ]
              refine wpAnyH_take (i := 15) (oi := { dst := (Option.some 67), op := Op.move (Operand.tmp 66), type := 4, pos := "outright.go:173", after := #[{ on := 14, ground := Ground.data }, { on := 6, ground := Ground.chain }], guard := Option.none }) (v := ?_) rfl (by kernel_rfl) (by kernel_rfl) (by kernel_rfl) (fun _ _ _ h => h) (Or.inl ⟨by rfl, ?_⟩) (by assumption) ?_
              rotate_left
              · intro w hSw
                (try dsimp only at hSw)
                go_simp
                try with_reducible rfl
              try simp only [Act.put, List.setIfInBounds_toArray, List.set_cons_zero, List.set_cons_succ]
              refine wpAnyH_take (i := 16) (oi := { dst := (Option.some 68), op := Op.move (Operand.tmp 10), type := 3, pos := "outright.go:173", after := #[{ on := 15, ground := Ground.guard }], guard := Option.some (15, Bool.false) }) (v := ?_) rfl (by kernel_rfl) (by kernel_rfl) (by kernel_rfl) (fun _ _ _ h => h) (Or.inl ⟨by rfl, ?_⟩) (by assumption) ?_
              rotate_left
              · intro w hSw
                (try dsimp only at hSw)
                go_simp
                try with_reducible rfl
              try simp only [Act.put, List.setIfInBounds_toArray, List.set_cons_zero, List.set_cons_succ]
              refine wpAnyH_take (i := 17) (oi := { dst := (Option.some 69), op := Op.binOp BinOp.gtr 3 (Operand.tmp 68) (Operand.const (Value.int IntKind.i64 0)) 3, type := 4, pos := "outright.go:173", after := #[{ on := 16, ground := Ground.data }, { on := 15, ground := Ground.guard }], guard := Option.some (15, Bool.false) }) (v := ?_) rfl (by kernel_rfl) (by kernel_rfl) (by kernel_rfl) (fun _ _ _ h => h) (Or.inl ⟨by rfl, ?_⟩) (by assumption) ?_
              rotate_left
              · intro w hSw
                (try dsimp only at hSw)
                go_simp
                try with_reducible rfl
              try simp only [Act.put, List.setIfInBounds_toArray, List.set_cons_zero, List.set_cons_succ]
              refine wpAnyH_take (i := 18) (oi := { dst := (Option.some 70), op := Op.move (Operand.tmp 69), type := 4, pos := "outright.go:173", after := #[{ on := 17, ground := Ground.data }, { on := 15, ground := Ground.chain }, { on := 15, ground := Ground.guard }], guard := Option.some (15, Bool.false) }) (v := ?_) rfl (by kernel_rfl) (by kernel_rfl) (by kernel_rfl) (fun _ _ _ h => h) (Or.inl ⟨by rfl, ?_⟩) (by assumption) ?_
              rotate_left
              · intro w hSw
                (try dsimp only at hSw)
                go_simp
                try with_reducible rfl
              try simp only [Act.put, List.setIfInBounds_toArray, List.set_cons_zero, List.set_cons_succ]
              refine wpAnyH_take (i := 19) (oi := { dst := (Option.some 71), op := Op.move (Operand.tmp 9), type := 33, pos := "outright.go:173", after := #[{ on := 18, ground := Ground.guard }], guard := Option.some (18, Bool.true) }) (v := undef) rfl (by kernel_rfl) (by kernel_rfl) (by kernel_rfl) (fun _ _ _ h => h) (Or.inr ⟨by rfl, rfl⟩) (by assumption) ?_
              try simp only [Act.put, List.setIfInBounds_toArray, List.set_cons_zero, List.set_cons_succ]
              refine wpAnyH_take (i := 20) (oi := { dst := (Option.some 72), op := Op.move (Operand.tmp 10), type := 3, pos := "outright.go:173", after := #[{ on := 18, ground := Ground.guard }], guard := Option.some (18, Bool.true) }) (v := undef) rfl (by kernel_rfl) (by kernel_rfl) (by kernel_rfl) (fun _ _ _ h => h) (Or.inr ⟨by rfl, rfl⟩) (by assumption) ?_
              try simp only [Act.put, List.setIfInBounds_toArray, List.set_cons_zero, List.set_cons_succ]
              refine wpAnyH_take (i := 21) (oi := { dst := (Option.some 73), op := Op.indexAddr 33 (Operand.tmp 71) (Operand.tmp 72), type := 0, pos := "outright.go:173", after := #[{ on := 19, ground := Ground.data }, { on := 20, ground := Ground.data }, { on := 18, ground := Ground.guard }], guard := Option.some (18, Bool.true) }) (v := undef) rfl (by kernel_rfl) (by kernel_rfl) (by kernel_rfl) (fun _ _ _ h => h) (Or.inr ⟨by rfl, rfl⟩) (by assumption) ?_
              try simp only [Act.put, List.setIfInBounds_toArray, List.set_cons_zero, List.set_cons_succ]
              refine wpAnyH_take (i := 22) (oi := { dst := (Option.some 74), op := Op.load 3 (Operand.tmp 73), type := 3, pos := "outright.go:173", after := #[{ on := 21, ground := Ground.data }, { on := 18, ground := Ground.guard }], guard := Option.some (18, Bool.true) }) (v := undef) rfl (by kernel_rfl) (by kernel_rfl) (by kernel_rfl) (fun _ _ _ h => h) (Or.inr ⟨by rfl, rfl⟩) (by assumption) ?_
              try simp only [Act.put, List.setIfInBounds_toArray, List.set_cons_zero, List.set_cons_succ]
              refine wpAnyH_take (i := 23) (oi := { dst := (Option.some 75), op := Op.move (Operand.tmp 9), type := 33, pos := "outright.go:173", after := #[{ on := 18, ground := Ground.guard }], guard := Option.some (18, Bool.true) }) (v := undef) rfl (by kernel_rfl) (by kernel_rfl) (by kernel_rfl) (fun _ _ _ h => h) (Or.inr ⟨by rfl, rfl⟩) (by assumption) ?_
              try simp only [Act.put, List.setIfInBounds_toArray, List.set_cons_zero, List.set_cons_succ]
              refine wpAnyH_take (i := 24) (oi := { dst := (Option.some 76), op := Op.move (Operand.tmp 10), type := 3, pos := "outright.go:173", after := #[{ on := 18, ground := Ground.guard }], guard := Option.some (18, Bool.true) }) (v := undef) rfl (by kernel_rfl) (by kernel_rfl) (by kernel_rfl) (fun _ _ _ h => h) (Or.inr ⟨by rfl, rfl⟩) (by assumption) ?_
              try simp only [Act.put, List.setIfInBounds_toArray, List.set_cons_zero, List.set_cons_succ]
              refine wpAnyH_take (i := 25) (oi := { dst := (Option.some 77), op := Op.binOp BinOp.sub 3 (Operand.tmp 76) (Operand.const (Value.int IntKind.i64 1)) 3, type := 3, pos := "outright.go:173", after := #[{ on := 24, ground := Ground.data }, { on := 18, ground := Ground.guard }], guard := Option.some (18, Bool.true) }) (v := undef) rfl (by kernel_rfl) (by kernel_rfl) (by kernel_rfl) (fun _ _ _ h => h) (Or.inr ⟨by rfl, rfl⟩) (by assumption) ?_
              try simp only [Act.put, List.setIfInBounds_toArray, List.set_cons_zero, List.set_cons_succ]
              refine wpAnyH_take (i := 26) (oi := { dst := (Option.some 78), op := Op.indexAddr 33 (Operand.tmp 75) (Operand.tmp 77), type := 0, pos := "outright.go:173", after := #[{ on := 23, ground := Ground.data }, { on := 25, ground := Ground.data }, { on := 18, ground := Ground.guard }], guard := Option.some (18, Bool.true) }) (v := undef) rfl (by kernel_rfl) (by kernel_rfl) (by kernel_rfl) (fun _ _ _ h => h) (Or.inr ⟨by rfl, rfl⟩) (by assumption) ?_
              try simp only [Act.put, List.setIfInBounds_toArray, List.set_cons_zero, List.set_cons_succ]
              refine wpAnyH_take (i := 27) (oi := { dst := (Option.some 79), op := Op.load 3 (Operand.tmp 78), type := 3, pos := "outright.go:173", after := #[{ on := 26, ground := Ground.data }, { on := 18, ground := Ground.guard }], guard := Option.some (18, Bool.true) }) (v := undef) rfl (by kernel_rfl) (by kernel_rfl) (by kernel_rfl) (fun _ _ _ h => h) (Or.inr ⟨by rfl, rfl⟩) (by assumption) ?_
              try simp only [Act.put, List.setIfInBounds_toArray, List.set_cons_zero, List.set_cons_succ]
              refine wpAnyH_take (i := 28) (oi := { dst := (Option.some 80), op := Op.binOp BinOp.leq 3 (Operand.tmp 74) (Operand.tmp 79) 3, type := 4, pos := "outright.go:173", after := #[{ on := 22, ground := Ground.data }, { on := 27, ground := Ground.data }, { on := 18, ground := Ground.guard }], guard := Option.some (18, Bool.true) }) (v := undef) rfl (by kernel_rfl) (by kernel_rfl) (by kernel_rfl) (fun _ _ _ h => h) (Or.inr ⟨by rfl, rfl⟩) (by assumption) ?_
              try simp only [Act.put, List.setIfInBounds_toArray, List.set_cons_zero, List.set_cons_succ]
              refine wpAnyH_take (i := 29) (oi := { dst := (Option.some 81), op := Op.pick (Operand.tmp 70) (Operand.tmp 80) (Operand.const (Value.bool Bool.false)), type := 4, pos := "outright.go:173", after := #[{ on := 18, ground := Ground.data }, { on := 28, ground := Ground.data }, { on := 15, ground := Ground.guard }], guard := Option.some (15, Bool.false) }) (v := ?_) rfl (by kernel_rfl) (by kernel_rfl) (by kernel_rfl) (fun _ _ _ h => h) (Or.inl ⟨by rfl, ?_⟩) (by assumption) ?_
              rotate_left
              · intro w hSw
                (try dsimp only at hSw)
                go_simp
                try with_reducible rfl
              try simp only [Act.put, List.setIfInBounds_toArray, List.set_cons_zero, List.set_cons_succ]
              refine wpAnyH_take (i := 30) (oi := { dst := (Option.some 82), op := Op.pick (Operand.tmp 67) (Operand.const (Value.bool Bool.true)) (Operand.tmp 81), type := 4, pos := "outright.go:173", after := #[{ on := 15, ground := Ground.data }, { on := 29, ground := Ground.data }], guard := Option.none }) (v := ?_) rfl (by kernel_rfl) (by kernel_rfl) (by kernel_rfl) (fun _ _ _ h => h) (Or.inl ⟨by rfl, ?_⟩) (by assumption) ?_
              rotate_left
              · intro w hSw
                (try dsimp only at hSw)
                go_simp
                try with_reducible rfl
              try simp only [Act.put, List.setIfInBounds_toArray, List.set_cons_zero, List.set_cons_succ]
              refine wpAnyH_done (by kernel_rfl) ?_ _
              have K1 : Hid (OwnI wr.drew w.heap.size (.slice (some ⟨g, 0, none⟩) n cap9) ks) := OwnI.below H1.out (Below.refl _ _).drew
              have K2 : Hid (OwnN wr.drew w.heap.size (.slice av row.length cap) row) := OwnN.below H2.out (Below.refl _ _).drew
              have hBd := hB.drew
              clear H1 H2 HC hHeld
              go_wp2_with fail
              go_roundg (n - (0 + 1))
              case rel => exact ⟨0 + 1, by simp, rfl, by omega, K1, K2, hBd⟩
              case measure => omega
            | succ j0 =>
              obtain ⟨q0, s0, e10, -, -, p30, -, -, p60⟩ := HK2.out j0 (by omega)
              have hq : q = q0 + s0 := by have := p60 (by omega); rw [e1] at this; simpa using this
              have HC : Hid (wr.cell? ⟨g, j0 + 1, none⟩ = some (.int .i64 (q : Int))) := hcell (j0 + 1) q e1
              have HC0 : Hid (wr.cell? ⟨g, j0, none⟩ = some (.int .i64 (q0 : Int))) := hcell j0 q0 e10
              have r3 : ¬ (q : Int) ≤ (q0 : Int) := by omega
              have r4 : (0 : Int) < ((j0 + 1 : Nat) : Int) := by omega
              have r5 : (j0 : Int) < (n : Int) := by omega
              have r6 : (0 : Int) ≤ (j0 : Int) + 1 := by omega
              have r7 : (j0 : Int) + 1 < (n : Int) := by omega
              have r8 : (0 : Int) < (j0 : Int) + 1 := by omega
              have hwj := wj j0 (by omega)
              clear hcell e1 e10 p4 p60 hq
              go_upto_region 15 with fail
              refine wp_region_held_drew (S := fun W => W.cell? ⟨g, j0 + 1, none⟩ = some (.int .i64 (q : Int)) ∧ W.cell? ⟨g, j0, none⟩ = some (.int .i64 (q0 : Int))) (by kernel_rfl) ⟨HC.out, HC0.out⟩ (fun hHeld => ?_)
              refine wpAnyH_take (i := 0) (oi := { dst := (Option.some 52), op := Op.move (Operand.tmp 9), type := 33, pos := "outright.go:173", after := #[], guard := Option.none }) (v := ?_) rfl (by kernel_rfl) (by kernel_rfl) (by kernel_rfl) (fun _ _ _ h => h) (Or.inl ⟨by rfl, ?_⟩) (by assumption) ?_
              rotate_left
              · intro w hSw
                (try dsimp only at hSw)
                go_simp
                try with_reducible rfl
              try simp only [Act.put, List.setIfInBounds_toArray, List.set_cons_zero, List.set_cons_succ]
              refine wpAnyH_take (i := 1) (oi := { dst := (Option.some 53), op := Op.move (Operand.tmp 10), type := 3, pos := "outright.go:173", after := #[], guard := Option.none }) (v := ?_) rfl (by kernel_rfl) (by kernel_rfl) (by kernel_rfl) (fun _ _ _ h => h) (Or.inl ⟨by rfl, ?_⟩) (by assumption) ?_
              rotate_left
              · intro w hSw
                (try dsimp only at hSw)
                go_simp
                try with_reducible rfl
              try simp only [Act.put, List.setIfInBounds_toArray, List.set_cons_zero, List.set_cons_succ]
              refine wpAnyH_take (i := 2) (oi := { dst := (Option.some 54), op := Op.indexAddr 33 (Operand.tmp 52) (Operand.tmp 53), type := 0, pos := "outright.go:173", after := #[{ on := 0, ground := Ground.data }, { on := 1, ground := Ground.data }], guard := Option.none }) (v := ?_) rfl (by kernel_rfl) (by kernel_rfl) (by kernel_rfl) (fun _ _ _ h => h) (Or.inl ⟨by rfl, ?_⟩) (by assumption) ?_
              rotate_left
              · intro w hSw
                (try dsimp only at hSw)
                go_simp
                try with_reducible rfl
              try simp only [Act.put, List.setIfInBounds_toArray, List.set_cons_zero, List.set_cons_succ]
              refine wpAnyH_take (i := 3) (oi := { dst := (Option.some 55), op := Op.load 3 (Operand.tmp 54), type := 3, pos := "outright.go:173", after := #[{ on := 2, ground := Ground.data }], guard := Option.none }) (v := ?_) rfl (by kernel_rfl) (by kernel_rfl) (by kernel_rfl) (fun _ _ _ h => h) (Or.inl ⟨by rfl, ?_⟩) (by assumption) ?_
              rotate_left
              · intro w hSw
                (try dsimp only at hSw)
                go_simp
                try with_reducible rfl
              try simp only [Act.put, List.setIfInBounds_toArray, List.set_cons_zero, List.set_cons_succ]
              refine wpAnyH_take (i := 4) (oi := { dst := (Option.some 56), op := Op.move (Operand.tmp 8), type := 3, pos := "outright.go:173", after := #[], guard := Option.none }) (v := ?_) rfl (by kernel_rfl) (by kernel_rfl) (by kernel_rfl) (fun _ _ _ h => h) (Or.inl ⟨by rfl, ?_⟩) (by assumption) ?_
              rotate_left
              · intro w hSw
                (try dsimp only at hSw)
                go_simp
                try with_reducible rfl
              try simp only [Act.put, List.setIfInBounds_toArray, List.set_cons_zero, List.set_cons_succ]
              refine wpAnyH_take (i := 5) (oi := { dst := (Option.some 57), op := Op.binOp BinOp.leq 3 (Operand.tmp 55) (Operand.tmp 56) 3, type := 4, pos := "outright.go:173", after := #[{ on := 3, ground := Ground.data }, { on := 4, ground := Ground.data }], guard := Option.none }) (v := ?_) rfl (by kernel_rfl) (by kernel_rfl) (by kernel_rfl) (fun _ _ _ h => h) (Or.inl ⟨by rfl, ?_⟩) (by assumption) ?_
              rotate_left
              · intro w hSw
                (try dsimp only at hSw)
                go_simp
                try with_reducible rfl
              try simp only [Act.put, List.setIfInBounds_toArray, List.set_cons_zero, List.set_cons_succ]
              refine wpAnyH_take (i := 6) (oi := { dst := (Option.some 58), op := Op.move (Operand.tmp 57), type := 4, pos := "outright.go:173", after := #[{ on := 5, ground := Ground.data }], guard := Option.none }) (v := ?_) rfl (by kernel_rfl) (by kernel_rfl) (by kernel_rfl) (fun _ _ _ h => h) (Or.inl ⟨by rfl, ?_⟩) (by assumption) ?_
              rotate_left
              · intro w hSw
                (try dsimp only at hSw)
                go_simp
                try with_reducible rfl
              try simp only [Act.put, List.setIfInBounds_toArray, List.set_cons_zero, List.set_cons_succ]
              refine wpAnyH_take (i := 7) (oi := { dst := (Option.some 59), op := Op.move (Operand.tmp 9), type := 33, pos := "outright.go:173", after := #[{ on := 6, ground := Ground.guard }], guard := Option.some (6, Bool.false) }) (v := ?_) rfl (by kernel_rfl) (by kernel_rfl) (by kernel_rfl) (fun _ _ _ h => h) (Or.inl ⟨by rfl, ?_⟩) (by assumption) ?_
              rotate_left
              · intro w hSw
                (try dsimp only at hSw)
                go_simp
                try with_reducible rfl
              try simp only [Act.put, List.setIfInBounds_toArray, List.set_cons_zero, List.set_cons_succ]
              refine wpAnyH_take (i := 8) (oi := { dst := (Option.some 60), op := Op.move (Operand.tmp 10), type := 3, pos := "outright.go:173", after := #[{ on := 6, ground := Ground.guard }], guard := Option.some (6, Bool.false) }) (v := ?_) rfl (by kernel_rfl) (by kernel_rfl) (by kernel_rfl) (fun _ _ _ h => h) (Or.inl ⟨by rfl, ?_⟩) (by assumption) ?_
              rotate_left
              · intro w hSw
                (try dsimp only at hSw)
                go_simp
                try with_reducible rfl
              try simp only [Act.put, List.setIfInBounds_toArray, List.set_cons_zero, List.set_cons_succ]
              refine wpAnyH_take (i := 9) (oi := { dst := (Option.some 61), op := Op.indexAddr 33 (Operand.tmp 59) (Operand.tmp 60), type := 0, pos := "outright.go:173", after := #[{ on := 7, ground := Ground.data }, { on := 8, ground := Ground.data }, { on := 6, ground := Ground.guard }], guard := Option.some (6, Bool.false) }) (v := ?_) rfl (by kernel_rfl) (by kernel_rfl) (by kernel_rfl) (fun _ _ _ h => h) (Or.inl ⟨by rfl, ?_⟩) (by assumption) ?_
              rotate_left
              · intro w hSw
                (try dsimp only at hSw)
                go_simp
                try with_reducible rfl
              try simp only [Act.put, List.setIfInBounds_toArray, List.set_cons_zero, List.set_cons_succ]
              refine wpAnyH_take (i := 10) (oi := { dst := (Option.some 62), op := Op.load 3 (Operand.tmp 61), type := 3, pos := "outright.go:173", after := #[{ on := 9, ground := Ground.data }, { on := 6, ground := Ground.guard }], guard := Option.some (6, Bool.false) }) (v := ?_) rfl (by kernel_rfl) (by kernel_rfl) (by kernel_rfl) (fun _ _ _ h => h) (Or.inl ⟨by rfl, ?_⟩) (by assumption) ?_
              rotate_left
              · intro w hSw
                (try dsimp only at hSw)
                go_simp
                try with_reducible rfl
              try simp only [Act.put, List.setIfInBounds_toArray, List.set_cons_zero, List.set_cons_succ]
              refine wpAnyH_take (i := 11) (oi := { dst := (Option.some 63), op := Op.move (Operand.tmp 5), type := 23, pos := "outright.go:173", after := #[{ on := 6, ground := Ground.guard }], guard := Option.some (6, Bool.false) }) (v := ?_) rfl (by kernel_rfl) (by kernel_rfl) (by kernel_rfl) (fun _ _ _ h => h) (Or.inl ⟨by rfl, ?_⟩) (by assumption) ?_
              rotate_left
              · intro w hSw
                (try dsimp only at hSw)
                go_simp
                try with_reducible rfl
              try simp only [Act.put, List.setIfInBounds_toArray, List.set_cons_zero, List.set_cons_succ]
              refine wpAnyH_take (i := 12) (oi := { dst := (Option.some 64), op := Op.call { callee := Callee.builtin Builtin.len, args := #[Operand.tmp 63], argTypes := #[23] }, type := 3, pos := "outright.go:173", after := #[{ on := 11, ground := Ground.data }, { on := 6, ground := Ground.guard }], guard := Option.some (6, Bool.false) }) (v := ?_) rfl (by kernel_rfl) (by kernel_rfl) (by kernel_rfl) (fun _ _ _ h => h) (Or.inl ⟨by rfl, ?_⟩) (by assumption) ?_
              rotate_left
              · intro w hSw
                (try dsimp only at hSw)
                go_simp
                try with_reducible rfl
              try simp only [Act.put, List.setIfInBounds_toArray, List.set_cons_zero, List.set_cons_succ]
              refine wpAnyH_take (i := 13) (oi := { dst := (Option.some 65), op := Op.binOp BinOp.geq 3 (Operand.tmp 62) (Operand.tmp 64) 3, type := 4, pos := "outright.go:173", after := #[{ on := 10, ground := Ground.data }, { on := 12, ground := Ground.data }, { on := 6, ground := Ground.guard }], guard := Option.some (6, Bool.false) }) (v := ?_) rfl (by kernel_rfl) (by kernel_rfl) (by kernel_rfl) (fun _ _ _ h => h) (Or.inl ⟨by rfl, ?_⟩) (by assumption) ?_
              rotate_left
              · intro w hSw
                (try dsimp only at hSw)
                go_simp
                try with_reducible rfl
              try simp only [Act.put, List.setIfInBounds_toArray, List.set_cons_zero, List.set_cons_succ]
              refine wpAnyH_take (i := 14) (oi := { dst := (Option.some 66), op := Op.pick (Operand.tmp 58) (Operand.const (Value.bool Bool.true)) (Operand.tmp 65), type := 4, pos := "outright.go:173", after := #[{ on := 6, ground := Ground.data }, { on := 13, ground := Ground.data }], guard := Option.none }) (v := ?_) rfl (by kernel_rfl) (by kernel_rfl) (by kernel_rfl) (fun _ _ _ h => h) (Or.inl ⟨by rfl, ?_⟩) (by assumption) ?_
              rotate_left
              · intro w hSw
                (try dsimp only at hSw)
                go_simp
                try with_reducible rfl
              try simp only [Act.put, List.setIfInBounds_toArray, List.set_cons_zero, List.set_cons_succ]
              refine wpAnyH_take (i := 15) (oi := { dst := (Option.some 67), op := Op.move (Operand.tmp 66), type := 4, pos := "outright.go:173", after := #[{ on := 14, ground := Ground.data }, { on := 6, ground := Ground.chain }], guard := Option.none }) (v := ?_) rfl (by kernel_rfl) (by kernel_rfl) (by kernel_rfl) (fun _ _ _ h => h) (Or.inl ⟨by rfl, ?_⟩) (by assumption) ?_
              rotate_left
              · intro w hSw
                (try dsimp only at hSw)
                go_simp
                try with_reducible rfl
              try simp only [Act.put, List.setIfInBounds_toArray, List.set_cons_zero, List.set_cons_succ]
              refine wpAnyH_take (i := 16) (oi := { dst := (Option.some 68), op := Op.move (Operand.tmp 10), type := 3, pos := "outright.go:173", after := #[{ on := 15, ground := Ground.guard }], guard := Option.some (15, Bool.false) }) (v := ?_) rfl (by kernel_rfl) (by kernel_rfl) (by kernel_rfl) (fun _ _ _ h => h) (Or.inl ⟨by rfl, ?_⟩) (by assumption) ?_
              rotate_left
              · intro w hSw
                (try dsimp only at hSw)
                go_simp
                try with_reducible rfl
              try simp only [Act.put, List.setIfInBounds_toArray, List.set_cons_zero, List.set_cons_succ]
              refine wpAnyH_take (i := 17) (oi := { dst := (Option.some 69), op := Op.binOp BinOp.gtr 3 (Operand.tmp 68) (Operand.const (Value.int IntKind.i64 0)) 3, type := 4, pos := "outright.go:173", after := #[{ on := 16, ground := Ground.data }, { on := 15, ground := Ground.guard }], guard := Option.some (15, Bool.false) }) (v := ?_) rfl (by kernel_rfl) (by kernel_rfl) (by kernel_rfl) (fun _ _ _ h => h) (Or.inl ⟨by rfl, ?_⟩) (by assumption) ?_
              rotate_left
              · intro w hSw
                (try dsimp only at hSw)
                go_simp
                try with_reducible rfl
              try simp only [Act.put, List.setIfInBounds_toArray, List.set_cons_zero, List.set_cons_succ]
              refine wpAnyH_take (i := 18) (oi := { dst := (Option.some 70), op := Op.move (Operand.tmp 69), type := 4, pos := "outright.go:173", after := #[{ on := 17, ground := Ground.data }, { on := 15, ground := Ground.chain }, { on := 15, ground := Ground.guard }], guard := Option.some (15, Bool.false) }) (v := ?_) rfl (by kernel_rfl) (by kernel_rfl) (by kernel_rfl) (fun _ _ _ h => h) (Or.inl ⟨by rfl, ?_⟩) (by assumption) ?_
              rotate_left
              · intro w hSw
                (try dsimp only at hSw)
                go_simp
                try with_reducible rfl
              try simp only [Act.put, List.setIfInBounds_toArray, List.set_cons_zero, List.set_cons_succ]
              refine wpAnyH_take (i := 19) (oi := { dst := (Option.some 71), op := Op.move (Operand.tmp 9), type := 33, pos := "outright.go:173", after := #[{ on := 18, ground := Ground.guard }], guard := Option.some (18, Bool.true) }) (v := ?_) rfl (by kernel_rfl) (by kernel_rfl) (by kernel_rfl) (fun _ _ _ h => h) (Or.inl ⟨by rfl, ?_⟩) (by assumption) ?_
              rotate_left
              · intro w hSw
                (try dsimp only at hSw)
                go_simp
                try with_reducible rfl
              try simp only [Act.put, List.setIfInBounds_toArray, List.set_cons_zero, List.set_cons_succ]
              refine wpAnyH_take (i := 20) (oi := { dst := (Option.some 72), op := Op.move (Operand.tmp 10), type := 3, pos := "outright.go:173", after := #[{ on := 18, ground := Ground.guard }], guard := Option.some (18, Bool.true) }) (v := ?_) rfl (by kernel_rfl) (by kernel_rfl) (by kernel_rfl) (fun _ _ _ h => h) (Or.inl ⟨by rfl, ?_⟩) (by assumption) ?_
              rotate_left
              · intro w hSw
                (try dsimp only at hSw)
                go_simp
                try with_reducible rfl
              try simp only [Act.put, List.setIfInBounds_toArray, List.set_cons_zero, List.set_cons_succ]
              refine wpAnyH_take (i := 21) (oi := { dst := (Option.some 73), op := Op.indexAddr 33 (Operand.tmp 71) (Operand.tmp 72), type := 0, pos := "outright.go:173", after := #[{ on := 19, ground := Ground.data }, { on := 20, ground := Ground.data }, { on := 18, ground := Ground.guard }], guard := Option.some (18, Bool.true) }) (v := ?_) rfl (by kernel_rfl) (by kernel_rfl) (by kernel_rfl) (fun _ _ _ h => h) (Or.inl ⟨by rfl, ?_⟩) (by assumption) ?_
              rotate_left
              · intro w hSw
                (try dsimp only at hSw)
                go_simp
                try with_reducible rfl
              try simp only [Act.put, List.setIfInBounds_toArray, List.set_cons_zero, List.set_cons_succ]
              refine wpAnyH_take (i := 22) (oi := { dst := (Option.some 74), op := Op.load 3 (Operand.tmp 73), type := 3, pos := "outright.go:173", after := #[{ on := 21, ground := Ground.data }, { on := 18, ground := Ground.guard }], guard := Option.some (18, Bool.true) }) (v := ?_) rfl (by kernel_rfl) (by kernel_rfl) (by kernel_rfl) (fun _ _ _ h => h) (Or.inl ⟨by rfl, ?_⟩) (by assumption) ?_
              rotate_left
              · intro w hSw
                (try dsimp only at hSw)
                go_simp
                try with_reducible rfl
              try simp only [Act.put, List.setIfInBounds_toArray, List.set_cons_zero, List.set_cons_succ]
              refine wpAnyH_take (i := 23) (oi := { dst := (Option.some 75), op := Op.move (Operand.tmp 9), type := 33, pos := "outright.go:173", after := #[{ on := 18, ground := Ground.guard }], guard := Option.some (18, Bool.true) }) (v := ?_) rfl (by kernel_rfl) (by kernel_rfl) (by kernel_rfl) (fun _ _ _ h => h) (Or.inl ⟨by rfl, ?_⟩) (by assumption) ?_
              rotate_left
              · intro w hSw
                (try dsimp only at hSw)
                go_simp
                try with_reducible rfl
              try simp only [Act.put, List.setIfInBounds_toArray, List.set_cons_zero, List.set_cons_succ]
              refine wpAnyH_take (i := 24) (oi := { dst := (Option.some 76), op := Op.move (Operand.tmp 10), type := 3, pos := "outright.go:173", after := #[{ on := 18, ground := Ground.guard }], guard := Option.some (18, Bool.true) }) (v := ?_) rfl (by kernel_rfl) (by kernel_rfl) (by kernel_rfl) (fun _ _ _ h => h) (Or.inl ⟨by rfl, ?_⟩) (by assumption) ?_
              rotate_left
              · intro w hSw
                (try dsimp only at hSw)
                go_simp
                try with_reducible rfl
              try simp only [Act.put, List.setIfInBounds_toArray, List.set_cons_zero, List.set_cons_succ]
              refine wpAnyH_take (i := 25) (oi := { dst := (Option.some 77), op := Op.binOp BinOp.sub 3 (Operand.tmp 76) (Operand.const (Value.int IntKind.i64 1)) 3, type := 3, pos := "outright.go:173", after := #[{ on := 24, ground := Ground.data }, { on := 18, ground := Ground.guard }], guard := Option.some (18, Bool.true) }) (v := ?_) rfl (by kernel_rfl) (by kernel_rfl) (by kernel_rfl) (fun _ _ _ h => h) (Or.inl ⟨by rfl, ?_⟩) (by assumption) ?_
              rotate_left
              · intro w hSw
                (try dsimp only at hSw)
                go_simp
                try with_reducible rfl
              try simp only [Act.put, List.setIfInBounds_toArray, List.set_cons_zero, List.set_cons_succ]
              refine wpAnyH_take (i := 26) (oi := { dst := (Option.some 78), op := Op.indexAddr 33 (Operand.tmp 75) (Operand.tmp 77), type := 0, pos := "outright.go:173", after := #[{ on := 23, ground := Ground.data }, { on := 25, ground := Ground.data }, { on := 18, ground := Ground.guard }], guard := Option.some (18, Bool.true) }) (v := ?_) rfl (by kernel_rfl) (by kernel_rfl) (by kernel_rfl) (fun _ _ _ h => h) (Or.inl ⟨by rfl, ?_⟩) (by assumption) ?_
              rotate_left
              · intro w hSw
                (try dsimp only at hSw)
                go_simp
                try with_reducible rfl
              try simp only [Act.put, List.setIfInBounds_toArray, List.set_cons_zero, List.set_cons_succ]
              refine wpAnyH_take (i := 27) (oi := { dst := (Option.some 79), op := Op.load 3 (Operand.tmp 78), type := 3, pos := "outright.go:173", after := #[{ on := 26, ground := Ground.data }, { on := 18, ground := Ground.guard }], guard := Option.some (18, Bool.true) }) (v := ?_) rfl (by kernel_rfl) (by kernel_rfl) (by kernel_rfl) (fun _ _ _ h => h) (Or.inl ⟨by rfl, ?_⟩) (by assumption) ?_
              rotate_left
              · intro w hSw
                (try dsimp only at hSw)
                go_simp
                try with_reducible rfl
              try simp only [Act.put, List.setIfInBounds_toArray, List.set_cons_zero, List.set_cons_succ]
              refine wpAnyH_take (i := 28) (oi := { dst := (Option.some 80), op := Op.binOp BinOp.leq 3 (Operand.tmp 74) (Operand.tmp 79) 3, type := 4, pos := "outright.go:173", after := #[{ on := 22, ground := Ground.data }, { on := 27, ground := Ground.data }, { on := 18, ground := Ground.guard }], guard := Option.some (18, Bool.true) }) (v := ?_) rfl (by kernel_rfl) (by kernel_rfl) (by kernel_rfl) (fun _ _ _ h => h) (Or.inl ⟨by rfl, ?_⟩) (by assumption) ?_
              rotate_left
              · intro w hSw
                (try dsimp only at hSw)
                go_simp
                try with_reducible rfl
              try simp only [Act.put, List.setIfInBounds_toArray, List.set_cons_zero, List.set_cons_succ]
              refine wpAnyH_take (i := 29) (oi := { dst := (Option.some 81), op := Op.pick (Operand.tmp 70) (Operand.tmp 80) (Operand.const (Value.bool Bool.false)), type := 4, pos := "outright.go:173", after := #[{ on := 18, ground := Ground.data }, { on := 28, ground := Ground.data }, { on := 15, ground := Ground.guard }], guard := Option.some (15, Bool.false) }) (v := ?_) rfl (by kernel_rfl) (by kernel_rfl) (by kernel_rfl) (fun _ _ _ h => h) (Or.inl ⟨by rfl, ?_⟩) (by assumption) ?_
              rotate_left
              · intro w hSw
                (try dsimp only at hSw)
                go_simp
                try with_reducible rfl
              try simp only [Act.put, List.setIfInBounds_toArray, List.set_cons_zero, List.set_cons_succ]
              refine wpAnyH_take (i := 30) (oi := { dst := (Option.some 82), op := Op.pick (Operand.tmp 67) (Operand.const (Value.bool Bool.true)) (Operand.tmp 81), type := 4, pos := "outright.go:173", after := #[{ on := 15, ground := Ground.data }, { on := 29, ground := Ground.data }], guard := Option.none }) (v := ?_) rfl (by kernel_rfl) (by kernel_rfl) (by kernel_rfl) (fun _ _ _ h => h) (Or.inl ⟨by rfl, ?_⟩) (by assumption) ?_
              rotate_left
              · intro w hSw
                (try dsimp only at hSw)
                go_simp
                try with_reducible rfl
              try simp only [Act.put, List.setIfInBounds_toArray, List.set_cons_zero, List.set_cons_succ]
              refine wpAnyH_done (by kernel_rfl) ?_ _
              have K1 : Hid (OwnI wr.drew w.heap.size (.slice (some ⟨g, 0, none⟩) n cap9) ks) := OwnI.below H1.out (Below.refl _ _).drew
              have K2 : Hid (OwnN wr.drew w.heap.size (.slice av row.length cap) row) := OwnN.below H2.out (Below.refl _ _).drew
              have hBd := hB.drew
              clear H1 H2 HC hHeld
              go_wp2_with fail
              go_roundg (n - (j0 + 1 + 1))
              case rel => exact ⟨j0 + 1 + 1, by simp, rfl, by omega, K1, K2, hBd⟩
              case measure => omega
          · have hli : ¬ (j : Int) < (n : Int) := by omega
            go_wp2_with fail
            go_loopg [11] n (fun gk y wr => ∃ j : Nat, y = .int .i64 j ∧ gk = n - j ∧ j ≤ n ∧ Hid (OwnI wr w.heap.size (.slice (some ⟨g, 0, none⟩) n cap9) ks) ∧ Hid (OwnN wr w.heap.size (.slice av row.length cap) row) ∧ Below w.heap.size w wr)
            case atStart => exact ⟨0, rfl, rfl, Nat.zero_le _, H1, H2, hB⟩
            case round =>
              clear H1 H2 hB hli hj hg
              obtain ⟨j, rfl, hg, hj, H1, H2, hB⟩ := hrel
              by_cases hlt2 : j + 1 < n
              · obtain ⟨q, s, e1, p1, p2, p3, -, p5, p6⟩ := HK2.out j (by omega)
                obtain ⟨g', eg, hcell⟩ := OwnI.cell H1.out (by omega)
                obtain rfl : g = g' := by simpa using eg
                have HC : Hid (wr.cell? ⟨g, j, none⟩ = some (.int .i64 (q : Int))) := hcell j q e1
                have p6' := p6 hlt2
                obtain ⟨q2, hq2⟩ : ∃ q2, q2 = q + s := ⟨_, rfl⟩
                rw [← hq2] at p6' p2
                have HC1 : Hid (wr.cell? ⟨g, j + 1, none⟩ = some (.int .i64 (q2 : Int))) := hcell (j + 1) q2 p6'
                have hli2 : (j : Int) + 1 < (n : Int) := by omega
                have hli3 : (j : Int) < (n : Int) := by omega
                have hjn : (j : Int) ≤ 30 := by omega
                have hj1 : (0 : Int) ≤ (j : Int) + 1 := by omega
                have hsq : s = q2 - q := by omega
                rw [hsq] at p5
                have HCk2 : Hid (Wt.check ((row.drop q).take (q2 - q)) = 0) := p5
                have hq2a : q ≤ q2 := by omega
                have hq2b : q < q2 := by omega
                clear hcell e1 p6 p6' p5 hq2 hsq p3
                obtain ⟨gN, rfl, hNc, hNcell⟩ := OwnN.cell H2.out (by omega)
                have hcap2 : (q2 : Int) ≤ (cap : Int) := by omega
                have hq20 : (0 : Int) ≤ (q2 : Int) := by omega
                have hcapq : ¬ cap - q = 0 := by omega
                have hcapq2 : ¬ cap = q := by omega
                have hwj1 := wj1 j (by omega)
                go_upto_region 20 with fail
                refine wp_region_held_drew (S := fun W => W.cell? ⟨g, j, none⟩ = some (.int .i64 (q : Int)) ∧ W.cell? ⟨g, j + 1, none⟩ = some (.int .i64 (q2 : Int))) (by kernel_rfl) ⟨HC.out, HC1.out⟩ (fun hHeld => ?_)
                refine wpAnyH_take (i := 1) (oi := { dst := (Option.some 91), op := Op.move (Operand.tmp 5), type := 23, pos := "outright.go:178", after := #[], guard := Option.none }) (v := ?_) rfl (by kernel_rfl) (by kernel_rfl) (by kernel_rfl) (fun _ _ _ h => h) (Or.inl ⟨by rfl, ?_⟩) (by assumption) ?_
                rotate_left
                · intro w hSw
                  (try dsimp only at hSw)
                  go_simp
                  try with_reducible rfl
                try simp only [Act.put, List.setIfInBounds_toArray, List.set_cons_zero, List.set_cons_succ]
                refine wpAnyH_take (i := 2) (oi := { dst := (Option.some 92), op := Op.move (Operand.tmp 9), type := 33, pos := "outright.go:178", after := #[], guard := Option.none }) (v := ?_) rfl (by kernel_rfl) (by kernel_rfl) (by kernel_rfl) (fun _ _ _ h => h) (Or.inl ⟨by rfl, ?_⟩) (by assumption) ?_
                rotate_left
                · intro w hSw
                  (try dsimp only at hSw)
                  go_simp
                  try with_reducible rfl
                try simp only [Act.put, List.setIfInBounds_toArray, List.set_cons_zero, List.set_cons_succ]
                refine wpAnyH_take (i := 3) (oi := { dst := (Option.some 93), op := Op.move (Operand.tmp 11), type := 3, pos := "outright.go:178", after := #[], guard := Option.none }) (v := ?_) rfl (by kernel_rfl) (by kernel_rfl) (by kernel_rfl) (fun _ _ _ h => h) (Or.inl ⟨by rfl, ?_⟩) (by assumption) ?_
                rotate_left
                · intro w hSw
                  (try dsimp only at hSw)
                  go_simp
                  try with_reducible rfl
                try simp only [Act.put, List.setIfInBounds_toArray, List.set_cons_zero, List.set_cons_succ]
                refine wpAnyH_take (i := 4) (oi := { dst := (Option.some 94), op := Op.indexAddr 33 (Operand.tmp 92) (Operand.tmp 93), type := 0, pos := "outright.go:178", after := #[{ on := 2, ground := Ground.data }, { on := 3, ground := Ground.data }], guard := Option.none }) (v := ?_) rfl (by kernel_rfl) (by kernel_rfl) (by kernel_rfl) (fun _ _ _ h => h) (Or.inl ⟨by rfl, ?_⟩) (by assumption) ?_
                rotate_left
                · intro w hSw
                  (try dsimp only at hSw)
                  go_simp
                  try with_reducible rfl
                try simp only [Act.put, List.setIfInBounds_toArray, List.set_cons_zero, List.set_cons_succ]
                refine wpAnyH_take (i := 5) (oi := { dst := (Option.some 95), op := Op.load 3 (Operand.tmp 94), type := 3, pos := "outright.go:178", after := #[{ on := 4, ground := Ground.data }], guard := Option.none }) (v := ?_) rfl (by kernel_rfl) (by kernel_rfl) (by kernel_rfl) (fun _ _ _ h => h) (Or.inl ⟨by rfl, ?_⟩) (by assumption) ?_
                rotate_left
                · intro w hSw
                  (try dsimp only at hSw)
                  go_simp
                  try with_reducible rfl
                try simp only [Act.put, List.setIfInBounds_toArray, List.set_cons_zero, List.set_cons_succ]
                refine wpAnyH_take (i := 6) (oi := { dst := (Option.some 96), op := Op.move (Operand.tmp 9), type := 33, pos := "outright.go:178", after := #[], guard := Option.none }) (v := ?_) rfl (by kernel_rfl) (by kernel_rfl) (by kernel_rfl) (fun _ _ _ h => h) (Or.inl ⟨by rfl, ?_⟩) (by assumption) ?_
                rotate_left
                · intro w hSw
                  (try dsimp only at hSw)
                  go_simp
                  try with_reducible rfl
                try simp only [Act.put, List.setIfInBounds_toArray, List.set_cons_zero, List.set_cons_succ]
                refine wpAnyH_take (i := 7) (oi := { dst := (Option.some 97), op := Op.move (Operand.tmp 11), type := 3, pos := "outright.go:178", after := #[], guard := Option.none }) (v := ?_) rfl (by kernel_rfl) (by kernel_rfl) (by kernel_rfl) (fun _ _ _ h => h) (Or.inl ⟨by rfl, ?_⟩) (by assumption) ?_
                rotate_left
                · intro w hSw
                  (try dsimp only at hSw)
                  go_simp
                  try with_reducible rfl
                try simp only [Act.put, List.setIfInBounds_toArray, List.set_cons_zero, List.set_cons_succ]
                refine wpAnyH_take (i := 8) (oi := { dst := (Option.some 98), op := Op.binOp BinOp.add 3 (Operand.tmp 97) (Operand.const (Value.int IntKind.i64 1)) 3, type := 3, pos := "outright.go:178", after := #[{ on := 7, ground := Ground.data }], guard := Option.none }) (v := ?_) rfl (by kernel_rfl) (by kernel_rfl) (by kernel_rfl) (fun _ _ _ h => h) (Or.inl ⟨by rfl, ?_⟩) (by assumption) ?_
                rotate_left
                · intro w hSw
                  (try dsimp only at hSw)
                  go_simp
                  try with_reducible rfl
                try simp only [Act.put, List.setIfInBounds_toArray, List.set_cons_zero, List.set_cons_succ]
                refine wpAnyH_take (i := 9) (oi := { dst := (Option.some 99), op := Op.indexAddr 33 (Operand.tmp 96) (Operand.tmp 98), type := 0, pos := "outright.go:178", after := #[{ on := 6, ground := Ground.data }, { on := 8, ground := Ground.data }], guard := Option.none }) (v := ?_) rfl (by kernel_rfl) (by kernel_rfl) (by kernel_rfl) (fun _ _ _ h => h) (Or.inl ⟨by rfl, ?_⟩) (by assumption) ?_
                rotate_left
                · intro w hSw
                  (try dsimp only at hSw)
                  go_simp
                  try with_reducible rfl
                try simp only [Act.put, List.setIfInBounds_toArray, List.set_cons_zero, List.set_cons_succ]
                refine wpAnyH_take (i := 10) (oi := { dst := (Option.some 100), op := Op.load 3 (Operand.tmp 99), type := 3, pos := "outright.go:178", after := #[{ on := 9, ground := Ground.data }], guard := Option.none }) (v := ?_) rfl (by kernel_rfl) (by kernel_rfl) (by kernel_rfl) (fun _ _ _ h => h) (Or.inl ⟨by rfl, ?_⟩) (by assumption) ?_
                rotate_left
                · intro w hSw
                  (try dsimp only at hSw)
                  go_simp
                  try with_reducible rfl
                try simp only [Act.put, List.setIfInBounds_toArray, List.set_cons_zero, List.set_cons_succ]
                refine wpAnyH_take (i := 11) (oi := { dst := (Option.some 101), op := Op.slice 23 (Operand.tmp 91) (Option.some (Operand.tmp 95)) (Option.some (Operand.tmp 100)) Option.none, type := 23, pos := "outright.go:178", after := #[{ on := 1, ground := Ground.data }, { on := 5, ground := Ground.data }, { on := 10, ground := Ground.data }], guard := Option.none }) (v := ?_) rfl (by kernel_rfl) (by kernel_rfl) (by kernel_rfl) (fun _ _ _ h => h) (Or.inl ⟨by rfl, ?_⟩) (by assumption) ?_
                rotate_left
                · intro w hSw
                  (try dsimp only at hSw)
                  go_simp
                  try with_reducible rfl
                try simp only [Act.put, List.setIfInBounds_toArray, List.set_cons_zero, List.set_cons_succ]
                refine wpAnyH_ready (rs := [0]) (by kernel_rfl) (by simp) ?_
                refine AllReadyH.cons (o := { dst := (Option.some 90), op := Op.buildSlice 23 0 #[], type := 23, pos := "outright.go:178", after := #[], guard := Option.none }) rfl (fun K hK => ?_) AllReadyH.nil
                go_simp
                have hBa := (ball (Below.refl _ wr) (.cells #[] 42)).drew
                refine hK.out _ _ ⟨cell_below hBa HC.out, cell_below hBa HC1.out⟩ (fun hHeld => ?_)
                clear hK K
                try simp only [Act.put, List.setIfInBounds_toArray, List.set_cons_zero, List.set_cons_succ]
                have hsub : ((row.drop q).take (q2 - q)).length = q2 - q := by rw [List.length_take, List.length_drop]; omega
                refine wpAnyH_ready (rs := [12]) (by kernel_rfl) (by simp) ?_
                refine AllReadyH.cons (o := { dst := (Option.some 102), op := Op.call { callee := Callee.builtin Builtin.append, args := #[Operand.tmp 90, Operand.tmp 101], argTypes := #[23, 23] }, type := 23, pos := "outright.go:178", after := #[{ on := 0, ground := Ground.data }, { on := 11, ground := Ground.data }], guard := Option.none }) rfl (fun K hK => ?_) AllReadyH.nil
                refine wp_append_own _ (.tmp 90) (.tmp 101) 23 rfl w.heap.size 42 i0 _ 20 176 Tryz.underlying23 hi0 hz0 hz1 hz2 rfl (by decide) (.slice (some ⟨wr.heap.size, 0, none⟩) 0 0) 0 [] rfl ⟨rfl, .inr ⟨wr.heap.size, 0, #[], rfl, hB.size, heap_alloc_new wr _, Nat.le_refl _, by unfold maxLen; omega, rfl, rfl⟩⟩ ⟨gN, q * 20, none⟩ (q2 - q) (cap - q) (ndRow ((row.drop q).take (q2 - q))) rfl (by rw [ndRow_length, hsub]) (fun jj u hu => by
                  have := hNcell (q * 20 + jj) u (ndRow_sub (by omega) hu)
                  rw [Addr.add_mid]
                  exact cell_below hBa this) (ndRow_ones _) (by unfold maxLen; omega) (by omega) (by show w.heap.size ≤ (wr.alloc (.cells #[] 42)).heap.size; simp only [World.size_alloc]; have := hB.size; omega) ?_
                intro v5 w5 own5 hg5 _
                have hbw : Below wr.heap.size wr w5 := hBa.grown hg5 (by show wr.heap.size ≤ (wr.alloc (.cells #[] 42)).heap.size; simp only [World.size_alloc]; omega) (fun k e => by simp [Value.ownBlock] at e; omega)
                have own5' : OwnN w5 w.heap.size v5 ((row.drop q).take (q2 - q)) := by
                  unfold OwnN
                  rw [hsub]
                  rw [Nat.zero_add, List.nil_append] at own5
                  exact own5
                have hB5 := below_end hB hbw
                obtain ⟨av5, cap5, rfl, hrd5⟩ := own5'.form
                have CK := check_any av5 cap5 _ w5 (by rw [hsub]; omega) (fun x hx => HFit.out x (List.mem_of_mem_drop (List.mem_of_mem_take hx))) (hE.below hB5).1 hrd5
                rw [HCk2.out, hsub] at CK
                rw [hsub]
                refine hK.out _ _ ⟨cell_below hbw HC.out, cell_below hbw HC1.out⟩ (fun hHeld => ?_)
                clear hK K own5 hg5 hBa own5' hrd5 hNcell
                try simp only [Act.put, List.setIfInBounds_toArray, List.set_cons_zero, List.set_cons_succ]
                refine wpAnyH_ready (rs := [13]) (by kernel_rfl) (by simp) ?_
                refine AllReadyH.cons (o := { dst := (Option.some 103), op := Op.call { callee := Callee.value (Operand.func 15), args := #[Operand.tmp 102], argTypes := #[23] }, type := 24, pos := "outright.go:178", after := #[{ on := 12, ground := Ground.data }, { on := 12, ground := Ground.chain }], guard := Option.none }) rfl (fun K hK => ?_) AllReadyH.nil
                go_simp
                refine CK.mono ?_
                rintro e w6 ⟨rfl, hb6⟩
                have hbw6 : Below wr.heap.size wr w6 := below_end hbw hb6
                go_wp2_with fail
                refine hK.out _ _ ⟨cell_below hbw6 HC.out, cell_below hbw6 HC1.out⟩ (fun hHeld => ?_)
                clear hK K CK
                try simp only [Act.put, List.setIfInBounds_toArray, List.set_cons_zero, List.set_cons_succ]
                refine wpAnyH_take (i := 14) (oi := { dst := (Option.some 104), op := Op.binOp BinOp.neq 24 (Operand.tmp 103) (Operand.const (Value.int IntKind.i64 0)) 24, type := 4, pos := "outright.go:178", after := #[{ on := 13, ground := Ground.data }], guard := Option.none }) (v := ?_) rfl (by kernel_rfl) (by kernel_rfl) (by kernel_rfl) (fun _ _ _ h => h) (Or.inl ⟨by rfl, ?_⟩) (by assumption) ?_
                rotate_left
                · intro w hSw
                  (try dsimp only at hSw)
                  go_simp
                  try with_reducible rfl
                try simp only [Act.put, List.setIfInBounds_toArray, List.set_cons_zero, List.set_cons_succ]
                refine wpAnyH_done (by kernel_rfl) ?_ _
                have K1 : Hid (OwnI w6 w.heap.size (.slice (some ⟨g, 0, none⟩) n cap9) ks) := OwnI.below H1.out hbw6
                have K2 : Hid (OwnN w6 w.heap.size (.slice (some ⟨gN, 0, none⟩) row.length cap) row) := OwnN.below H2.out hbw6
                have hB6 := below_end hB hbw6
                clear H1 H2 HC HC1 hHeld hbw hbw6 hb6 hB5
                go_wp2_with fail
                go_roundg (n - (j + 1))
                case rel => exact ⟨j + 1, by simp, rfl, by omega, K1, K2, hB6⟩
                case measure => omega
              · have hli2 : ¬ (j : Int) + 1 < (n : Int) := by omega
                have hjn : (j : Int) ≤ 30 := by omega
                go_wp2
                go_ret
                exact ⟨rfl, hB⟩
    · obtain ⟨i, hi, hlt⟩ := ix1 (by omega)
      rw [hi] at ht
      have hm256 : (m : Int) ≤ 256 := by omega
      clear ix1 ix2
      have HFit : Hid (∀ x ∈ row, Wt.FitN x) := hfit
      have HKS : Hid (∀ (i : Nat) (hi : i < row.length), (kidsP row i).length ≤ 30 ∧ ∀ j, j < (kidsP row i).length → ∃ q s, (kidsP row i)[j]? = some q ∧ i < q ∧ q + s ≤ row.length ∧ 1 ≤ s ∧ (j = 0 → q = i + 1) ∧ Wt.check ((row.drop q).take s) = 0 ∧ (j + 1 < (kidsP row i).length → (kidsP row i)[j + 1]? = some (q + s))) := KS
      have HCk : Hid (Wt.check row = 0) := hck
      clear hfit KS hck hone hd
      go_enter Tryz.func6, Tryz.ntmps6
      go_wp2_with fail
      refine A.mono ?_
      rintro e w1 ⟨rfl, hb1⟩
      go_wp2_with fail
      refine (S w1 (hE.below hb1) (Nat.le_trans hk8 hb1.size)).mono ?_
      rintro e w2 ⟨⟨v, rfl, hown⟩, hb2⟩
      have hB2 := below_end hb1 hb2
      obtain ⟨av, cap, rfl, hrd⟩ := hown.form
      rw [hm]
      have hown0 : OwnN w2 w.heap.size (.slice av row.length cap) row := ⟨hown.1, hown.2.imp id fun ⟨g, cap, cur, a, b, c⟩ => ⟨g, cap, cur, a, Nat.le_trans hb1.size b, c⟩⟩
      have hE2 := hE.below hB2
      have KD := kids_some av cap row i w2 HFit.out hE2.1 hrd (by omega) HCk.out
      obtain ⟨hn30, hks⟩ := HKS.out i (by omega)
      rw [hm] at KD
      generalize kidsP row i = ks at *
      have HK2 : Hid (∀ j, j < ks.length → ∃ q s, ks[j]? = some q ∧ i < q ∧ q + s ≤ row.length ∧ 1 ≤ s ∧ (j = 0 → q = i + 1) ∧ Wt.check ((row.drop q).take s) = 0 ∧ (j + 1 < ks.length → ks[j + 1]? = some (q + s))) := hks
      clear A S hb1 hb2 hr hrd HKS hks
      go_wp2_with fail
      refine KD.mono ?_
      rintro e w3 ⟨v9, rfl, hI, hb3⟩
      obtain ⟨av9, cap9, rfl⟩ := hI.form
      have hs2 := hB2.size
      have HI : Hid (OwnI w3 w.heap.size (.slice av9 ks.length cap9) ks) := ⟨hI.1, hI.2.imp id fun ⟨g, cap, cur, a, b, c⟩ => ⟨g, cap, cur, a, Nat.le_trans hs2 b, c⟩⟩
      have HN : Hid (OwnN w3 w.heap.size (.slice av row.length cap) row) := hown0.below hb3
      have hB3 := below_end hB2 hb3
      obtain ⟨n, hn⟩ : ∃ n, ks.length = n := ⟨_, rfl⟩
      rw [hn] at HI hn30 HK2 ⊢
      clear KD hI hb3 hown hown0 hE2 hs2
      by_cases hn0 : n = 0
      · have hnp : ¬ (0 : Int) < (n : Int) := by omega
        go_wp2_with fail
        go_loopg [10] n (fun gk y wr => ∃ j : Nat, y = .int .i64 j ∧ gk = n - j ∧ j ≤ n ∧ Hid (OwnI wr w.heap.size (.slice av9 n cap9) ks) ∧ Hid (OwnN wr w.heap.size (.slice av row.length cap) row) ∧ Below w.heap.size w wr)
        case atStart => exact ⟨0, rfl, rfl, Nat.zero_le _, HI, HN, hB3⟩
        case round =>
          obtain ⟨j, rfl, hg, hj, H1, H2, hB⟩ := hrel
          clear HI HN hB3
          by_cases hlt : j < n
          · exact absurd hlt (by omega)
          · have hli : ¬ (j : Int) < (n : Int) := by omega
            go_wp2_with fail
            go_loopg [11] n (fun gk y wr => ∃ j : Nat, y = .int .i64 j ∧ gk = n - j ∧ j ≤ n ∧ Hid (OwnI wr w.heap.size (.slice av9 n cap9) ks) ∧ Hid (OwnN wr w.heap.size (.slice av row.length cap) row) ∧ Below w.heap.size w wr)
            case atStart => exact ⟨0, rfl, rfl, Nat.zero_le _, H1, H2, hB⟩
            case round =>
              clear H1 H2 hB hli hj hg
              obtain ⟨j, rfl, hg, hj, H1, H2, hB⟩ := hrel
              by_cases hlt2 : j + 1 < n
              · exact absurd hlt2 (by omega)
              · have hli2 : ¬ (j : Int) + 1 < (n : Int) := by omega
                have hjn : (j : Int) ≤ 30 := by omega
                go_wp2
                go_ret
                exact ⟨rfl, hB⟩
      · obtain ⟨q, s, e1, -, -, -, h4, -, -⟩ := HK2.out 0 (by omega)
        obtain rfl := h4 rfl
        obtain ⟨g, rfl, hcell⟩ := OwnI.cell HI.out (by omega)
        have c00 := hcell 0 _ e1
        have hnp : (0 : Int) < (n : Int) := by omega
        clear hcell e1
        go_wp2_with fail
        go_loopg [10] n (fun gk y wr => ∃ j : Nat, y = .int .i64 j ∧ gk = n - j ∧ j ≤ n ∧ Hid (OwnI wr w.heap.size (.slice (some ⟨g, 0, none⟩) n cap9) ks) ∧ Hid (OwnN wr w.heap.size (.slice av row.length cap) row) ∧ Below w.heap.size w wr)
        case atStart => exact ⟨0, rfl, rfl, Nat.zero_le _, HI, HN, hB3⟩
        case round =>
          obtain ⟨j, rfl, hg, hj, H1, H2, hB⟩ := hrel
          clear HI HN hB3
          by_cases hlt : j < n
          · obtain ⟨q, s, e1, p1, p2, p3, p4, -, -⟩ := HK2.out j hlt
            obtain ⟨g', eg, hcell⟩ := OwnI.cell H1.out (by omega)
            obtain rfl : g = g' := by simpa using eg
            have hli : (j : Int) < (n : Int) := by omega
            have r1 : ¬ (q : Int) ≤ (i : Int) := by omega
            have r2 : ¬ (m : Int) ≤ (q : Int) := by omega
            cases j with
            | zero =>
              have HC : Hid (wr.cell? ⟨g, 0, none⟩ = some (.int .i64 (q : Int))) := hcell 0 q e1
              clear hcell e1 p4
              go_upto_region 15 with fail
              refine wp_region_held_drew (S := fun W => W.cell? ⟨g, 0, none⟩ = some (.int .i64 (q : Int))) (by kernel_rfl) HC.out (fun hHeld => ?_)
              refine wpAnyH_take (i := 0) (oi := { dst := (Option.some 52), op := Op.move (Operand.tmp 9), type := 33, pos := "outright.go:173", after := #[], guard := Option.none }) (v := ?_) rfl (by kernel_rfl) (by kernel_rfl) (by kernel_rfl) (fun _ _ _ h => h) (Or.inl ⟨by rfl, ?_⟩) (by assumption) ?_
              rotate_left
              · intro w hSw
                (try dsimp only at hSw)
                go_simp
                try with_reducible rfl
              try simp only [Act.put, List.setIfInBounds_toArray, List.set_cons_zero, List.set_cons_succ]
              refine wpAnyH_take (i := 1) (oi := { dst := (Option.some 53), op := Op.move (Operand.tmp 10), type := 3, pos := "outright.go:173", after := #[], guard := Option.none }) (v := ?_) rfl (by kernel_rfl) (by kernel_rfl) (by kernel_rfl) (fun _ _ _ h => h) (Or.inl ⟨by rfl, ?_⟩) (by assumption) ?_
              rotate_left
              · intro w hSw
                (try dsimp only at hSw)
                go_simp
                try with_reducible rfl
              try simp only [Act.put, List.setIfInBounds_toArray, List.set_cons_zero, List.set_cons_succ]
              refine wpAnyH_take (i := 2) (oi := { dst := (Option.some 54), op := Op.indexAddr 33 (Operand.tmp 52) (Operand.tmp 53), type := 0, pos := "outright.go:173", after := #[{ on := 0, ground := Ground.data }, { on := 1, ground := Ground.data }], guard := Option.none }) (v := ?_) rfl (by kernel_rfl) (by kernel_rfl) (by kernel_rfl) (fun _ _ _ h => h) (Or.inl ⟨by rfl, ?_⟩) (by assumption) ?_
              rotate_left
              · intro w hSw
                (try dsimp only at hSw)
                go_simp
                try with_reducible rfl
              try simp only [Act.put, List.setIfInBounds_toArray, List.set_cons_zero, List.set_cons_succ]
              refine wpAnyH_take (i := 3) (oi := { dst := (Option.some 55), op := Op.load 3 (Operand.tmp 54), type := 3, pos := "outright.go:173", after := #[{ on := 2, ground := Ground.data }], guard := Option.none }) (v := ?_) rfl (by kernel_rfl) (by kernel_rfl) (by kernel_rfl) (fun _ _ _ h => h) (Or.inl ⟨by rfl, ?_⟩) (by assumption) ?_
              rotate_left
              · intro w hSw
                (try dsimp only at hSw)
                go_simp
                try with_reducible rfl
              try simp only [Act.put, List.setIfInBounds_toArray, List.set_cons_zero, List.set_cons_succ]
              refine wpAnyH_take (i := 4) (oi := { dst := (Option.some 56), op := Op.move (Operand.tmp 8), type := 3, pos := "outright.go:173", after := #[], guard := Option.none }) (v := ?_) rfl (by kernel_rfl) (by kernel_rfl) (by kernel_rfl) (fun _ _ _ h => h) (Or.inl ⟨by rfl, ?_⟩) (by assumption) ?_
              rotate_left
              · intro w hSw
                (try dsimp only at hSw)
                go_simp
                try with_reducible rfl
              try simp only [Act.put, List.setIfInBounds_toArray, List.set_cons_zero, List.set_cons_succ]
              refine wpAnyH_take (i := 5) (oi := { dst := (Option.some 57), op := Op.binOp BinOp.leq 3 (Operand.tmp 55) (Operand.tmp 56) 3, type := 4, pos := "outright.go:173", after := #[{ on := 3, ground := Ground.data }, { on := 4, ground := Ground.data }], guard := Option.none }) (v := ?_) rfl (by kernel_rfl) (by kernel_rfl) (by kernel_rfl) (fun _ _ _ h => h) (Or.inl ⟨by rfl, ?_⟩) (by assumption) ?_
              rotate_left
              · intro w hSw
                (try dsimp only at hSw)
                go_simp
                try with_reducible rfl
              try simp only [Act.put, List.setIfInBounds_toArray, List.set_cons_zero, List.set_cons_succ]
              refine wpAnyH_take (i := 6) (oi := { dst := (Option.some 58), op := Op.move (Operand.tmp 57), type := 4, pos := "outright.go:173", after := #[{ on := 5, ground := Ground.data }], guard := Option.none }) (v := ?_) rfl (by kernel_rfl) (by kernel_rfl) (by kernel_rfl) (fun _ _ _ h => h) (Or.inl ⟨by rfl, ?_⟩) (by assumption) ?_
              rotate_left
              · intro w hSw
                (try dsimp only at hSw)
                go_simp
                try with_reducible rfl
              try simp only [Act.put, List.setIfInBounds_toArray, List.set_cons_zero, List.set_cons_succ]
              refine wpAnyH_take (i := 7) (oi := { dst := (Option.some 59), op := Op.move (Operand.tmp 9), type := 33, pos := "outright.go:173", after := #[{ on := 6, ground := Ground.guard }], guard := Option.some (6, Bool.false) }) (v := ?_) rfl (by kernel_rfl) (by kernel_rfl) (by kernel_rfl) (fun _ _ _ h => h) (Or.inl ⟨by rfl, ?_⟩) (by assumption) ?_
              rotate_left
              · intro w hSw
                (try dsimp only at hSw)
                go_simp
                try with_reducible rfl
              try simp only [Act.put, List.setIfInBounds_toArray, List.set_cons_zero, List.set_cons_succ]
              refine wpAnyH_take (i := 8) (oi := { dst := (Option.some 60), op := Op.move (Operand.tmp 10), type := 3, pos := "outright.go:173", after := #[{ on := 6, ground := Ground.guard }], guard := Option.some (6, Bool.false) }) (v := ?_) rfl (by kernel_rfl) (by kernel_rfl) (by kernel_rfl) (fun _ _ _ h => h) (Or.inl ⟨by rfl, ?_⟩) (by assumption) ?_
              rotate_left
              · intro w hSw
                (try dsimp only at hSw)
                go_simp
                try with_reducible rfl
              try simp only [Act.put, List.setIfInBounds_toArray, List.set_cons_zero, List.set_cons_succ]
              refine wpAnyH_take (i := 9) (oi := { dst := (Option.some 61), op := Op.indexAddr 33 (Operand.tmp 59) (Operand.tmp 60), type := 0, pos := "outright.go:173", after := #[{ on := 7, ground := Ground.data }, { on := 8, ground := Ground.data }, { on := 6, ground := Ground.guard }], guard := Option.some (6, Bool.false) }) (v := ?_) rfl (by kernel_rfl) (by kernel_rfl) (by kernel_rfl) (fun _ _ _ h => h) (Or.inl ⟨by rfl, ?_⟩) (by assumption) ?_
              rotate_left
              · intro w hSw
                (try dsimp only at hSw)
                go_simp
                try with_reducible rfl
              try simp only [Act.put, List.setIfInBounds_toArray, List.set_cons_zero, List.set_cons_succ]
              refine wpAnyH_take (i := 10) (oi := { dst := (Option.some 62), op := Op.load 3 (Operand.tmp 61), type := 3, pos := "outright.go:173", after := #[{ on := 9, ground := Ground.data }, { on := 6, ground := Ground.guard }], guard := Option.some (6, Bool.false) }) (v := ?_) rfl (by kernel_rfl) (by kernel_rfl) (by kernel_rfl) (fun _ _ _ h => h) (Or.inl ⟨by rfl, ?_⟩) (by assumption) ?_
              rotate_left
              · intro w hSw
                (try dsimp only at hSw)
                go_simp
                try with_reducible rfl
              try simp only [Act.put, List.setIfInBounds_toArray, List.set_cons_zero, List.set_cons_succ]
              refine wpAnyH_take (i := 11) (oi := { dst := (Option.some 63), op := Op.move (Operand.tmp 5), type := 23, pos := "outright.go:173", after := #[{ on := 6, ground := Ground.guard }], guard := Option.some (6, Bool.false) }) (v := ?_) rfl (by kernel_rfl) (by kernel_rfl) (by kernel_rfl) (fun _ _ _ h => h) (Or.inl ⟨by rfl, ?_⟩) (by assumption) ?_
              rotate_left
              · intro w hSw
                (try dsimp only at hSw)
                go_simp
                try with_reducible rfl
              try simp only [Act.put, List.setIfInBounds_toArray, List.set_cons_zero, List.set_cons_succ]
              refine wpAnyH_take (i := 12) (oi := { dst := (Option.some 64), op := Op.call { callee := Callee.builtin Builtin.len, args := #[Operand.tmp 63], argTypes := #[23] }, type := 3, pos := "outright.go:173", after := #[{ on := 11, ground := Ground.data }, { on := 6, ground := Ground.guard }], guard := Option.some (6, Bool.false) }) (v := ?_) rfl (by kernel_rfl) (by kernel_rfl) (by kernel_rfl) (fun _ _ _ h => h) (Or.inl ⟨by rfl, ?_⟩) (by assumption) ?_
              rotate_left
              · intro w hSw
                (try dsimp only at hSw)
                go_simp
                try with_reducible rfl
              try simp only [Act.put, List.setIfInBounds_toArray, List.set_cons_zero, List.set_cons_succ]
              refine wpAnyH_take (i := 13) (oi := { dst := (Option.some 65), op := Op.binOp BinOp.geq 3 (Operand.tmp 62) (Operand.tmp 64) 3, type := 4, pos := "outright.go:173", after := #[{ on := 10, ground := Ground.data }, { on := 12, ground := Ground.data }, { on := 6, ground := Ground.guard }], guard := Option.some (6, Bool.false) }) (v := ?_) rfl (by kernel_rfl) (by kernel_rfl) (by kernel_rfl) (fun _ _ _ h => h) (Or.inl ⟨by rfl, ?_⟩) (by assumption) ?_
              rotate_left
              · intro w hSw
                (try dsimp only at hSw)
                go_simp
                try with_reducible rfl
              try simp only [Act.put, List.setIfInBounds_toArray, List.set_cons_zero, List.set_cons_succ]
              refine wpAnyH_take (i := 14) (oi := { dst := (Option.some 66), op := Op.pick (Operand.tmp 58) (Operand.const (Value.bool Bool.true)) (Operand.tmp 65), type := 4, pos := "outright.go:173", after := #[{ on := 6, ground := Ground.data }, { on := 13, ground := Ground.data }], guard := Option.none }) (v := ?_) rfl (by kernel_rfl) (by kernel_rfl) (by kernel_rfl) (fun _ _ _ h => h) (Or.inl ⟨by rfl, ?_⟩) (by assumption) ?_
              rotate_left
              · intro w hSw
                (try dsimp only at hSw)
                go_simp
                try with_reducible rfl
              try simp only [Act.put, List.setIfInBounds_toArray, List.set_cons_zero, List.set_cons_succ]
              refine wpAnyH_take (i := 15) (oi := { dst := (Option.some 67), op := Op.move (Operand.tmp 66), type := 4, pos := "outright.go:173", after := #[{ on := 14, ground := Ground.data }, { on := 6, ground := Ground.chain }], guard := Option.none }) (v := ?_) rfl (by kernel_rfl) (by kernel_rfl) (by kernel_rfl) (fun _ _ _ h => h) (Or.inl ⟨by rfl, ?_⟩) (by assumption) ?_
              rotate_left
              · intro w hSw
                (try dsimp only at hSw)
                go_simp
                try with_reducible rfl
              try simp only [Act.put, List.setIfInBounds_toArray, List.set_cons_zero, List.set_cons_succ]
              refine wpAnyH_take (i := 16) (oi := { dst := (Option.some 68), op := Op.move (Operand.tmp 10), type := 3, pos := "outright.go:173", after := #[{ on := 15, ground := Ground.guard }], guard := Option.some (15, Bool.false) }) (v := ?_) rfl (by kernel_rfl) (by kernel_rfl) (by kernel_rfl) (fun _ _ _ h => h) (Or.inl ⟨by rfl, ?_⟩) (by assumption) ?_
              rotate_left
              · intro w hSw
                (try dsimp only at hSw)
                go_simp
                try with_reducible rfl
              try simp only [Act.put, List.setIfInBounds_toArray, List.set_cons_zero, List.set_cons_succ]
              refine wpAnyH_take (i := 17) (oi := { dst := (Option.some 69), op := Op.binOp BinOp.gtr 3 (Operand.tmp 68) (Operand.const (Value.int IntKind.i64 0)) 3, type := 4, pos := "outright.go:173", after := #[{ on := 16, ground := Ground.data }, { on := 15, ground := Ground.guard }], guard := Option.some (15, Bool.false) }) (v := ?_) rfl (by kernel_rfl) (by kernel_rfl) (by kernel_rfl) (fun _ _ _ h => h) (Or.inl ⟨by rfl, ?_⟩) (by assumption) ?_
              rotate_left
              · intro w hSw
                (try dsimp only at hSw)
                go_simp
                try with_reducible rfl
              try simp only [Act.put, List.setIfInBounds_toArray, List.set_cons_zero, List.set_cons_succ]
              refine wpAnyH_take (i := 18) (oi := { dst := (Option.some 70), op := Op.move (Operand.tmp 69), type := 4, pos := "outright.go:173", after := #[{ on := 17, ground := Ground.data }, { on := 15, ground := Ground.chain }, { on := 15, ground := Ground.guard }], guard := Option.some (15, Bool.false) }) (v := ?_) rfl (by kernel_rfl) (by kernel_rfl) (by kernel_rfl) (fun _ _ _ h => h) (Or.inl ⟨by rfl, ?_⟩) (by assumption) ?_
              rotate_left
              · intro w hSw
                (try dsimp only at hSw)
                go_simp
                try with_reducible rfl
              try simp only [Act.put, List.setIfInBounds_toArray, List.set_cons_zero, List.set_cons_succ]
              refine wpAnyH_take (i := 19) (oi := { dst := (Option.some 71), op := Op.move (Operand.tmp 9), type := 33, pos := "outright.go:173", after := #[{ on := 18, ground := Ground.guard }], guard := Option.some (18, Bool.true) }) (v := undef) rfl (by kernel_rfl) (by kernel_rfl) (by kernel_rfl) (fun _ _ _ h => h) (Or.inr ⟨by rfl, rfl⟩) (by assumption) ?_
              try simp only [Act.put, List.setIfInBounds_toArray, List.set_cons_zero, List.set_cons_succ]
              refine wpAnyH_take (i := 20) (oi := { dst := (Option.some 72), op := Op.move (Operand.tmp 10), type := 3, pos := "outright.go:173", after := #[{ on := 18, ground := Ground.guard }], guard := Option.some (18, Bool.true) }) (v := undef) rfl (by kernel_rfl) (by kernel_rfl) (by kernel_rfl) (fun _ _ _ h => h) (Or.inr ⟨by rfl, rfl⟩) (by assumption) ?_
              try simp only [Act.put, List.setIfInBounds_toArray, List.set_cons_zero, List.set_cons_succ]
              refine wpAnyH_take (i := 21) (oi := { dst := (Option.some 73), op := Op.indexAddr 33 (Operand.tmp 71) (Operand.tmp 72), type := 0, pos := "outright.go:173", after := #[{ on := 19, ground := Ground.data }, { on := 20, ground := Ground.data }, { on := 18, ground := Ground.guard }], guard := Option.some (18, Bool.true) }) (v := undef) rfl (by kernel_rfl) (by kernel_rfl) (by kernel_rfl) (fun _ _ _ h => h) (Or.inr ⟨by rfl, rfl⟩) (by assumption) ?_
              try simp only [Act.put, List.setIfInBounds_toArray, List.set_cons_zero, List.set_cons_succ]
              refine wpAnyH_take (i := 22) (oi := { dst := (Option.some 74), op := Op.load 3 (Operand.tmp 73), type := 3, pos := "outright.go:173", after := #[{ on := 21, ground := Ground.data }, { on := 18, ground := Ground.guard }], guard := Option.some (18, Bool.true) }) (v := undef) rfl (by kernel_rfl) (by kernel_rfl) (by kernel_rfl) (fun _ _ _ h => h) (Or.inr ⟨by rfl, rfl⟩) (by assumption) ?_
              try simp only [Act.put, List.setIfInBounds_toArray, List.set_cons_zero, List.set_cons_succ]
              refine wpAnyH_take (i := 23) (oi := { dst := (Option.some 75), op := Op.move (Operand.tmp 9), type := 33, pos := "outright.go:173", after := #[{ on := 18, ground := Ground.guard }], guard := Option.some (18, Bool.true) }) (v := undef) rfl (by kernel_rfl) (by kernel_rfl) (by kernel_rfl) (fun _ _ _ h => h) (Or.inr ⟨by rfl, rfl⟩) (by assumption) ?_
              try simp only [Act.put, List.setIfInBounds_toArray, List.set_cons_zero, List.set_cons_succ]
              refine wpAnyH_take (i := 24) (oi := { dst := (Option.some 76), op := Op.move (Operand.tmp 10), type := 3, pos := "outright.go:173", after := #[{ on := 18, ground := Ground.guard }], guard := Option.some (18, Bool.true) }) (v := undef) rfl (by kernel_rfl) (by kernel_rfl) (by kernel_rfl) (fun _ _ _ h => h) (Or.inr ⟨by rfl, rfl⟩) (by assumption) ?_
              try simp only [Act.put, List.setIfInBounds_toArray, List.set_cons_zero, List.set_cons_succ]
              refine wpAnyH_take (i := 25) (oi := { dst := (Option.some 77), op := Op.binOp BinOp.sub 3 (Operand.tmp 76) (Operand.const (Value.int IntKind.i64 1)) 3, type := 3, pos := "outright.go:173", after := #[{ on := 24, ground := Ground.data }, { on := 18, ground := Ground.guard }], guard := Option.some (18, Bool.true) }) (v := undef) rfl (by kernel_rfl) (by kernel_rfl) (by kernel_rfl) (fun _ _ _ h => h) (Or.inr ⟨by rfl, rfl⟩) (by assumption) ?_
              try simp only [Act.put, List.setIfInBounds_toArray, List.set_cons_zero, List.set_cons_succ]
              refine wpAnyH_take (i := 26) (oi := { dst := (Option.some 78), op := Op.indexAddr 33 (Operand.tmp 75) (Operand.tmp 77), type := 0, pos := "outright.go:173", after := #[{ on := 23, ground := Ground.data }, { on := 25, ground := Ground.data }, { on := 18, ground := Ground.guard }], guard := Option.some (18, Bool.true) }) (v := undef) rfl (by kernel_rfl) (by kernel_rfl) (by kernel_rfl) (fun _ _ _ h => h) (Or.inr ⟨by rfl, rfl⟩) (by assumption) ?_
              try simp only [Act.put, List.setIfInBounds_toArray, List.set_cons_zero, List.set_cons_succ]
              refine wpAnyH_take (i := 27) (oi := { dst := (Option.some 79), op := Op.load 3 (Operand.tmp 78), type := 3, pos := "outright.go:173", after := #[{ on := 26, ground := Ground.data }, { on := 18, ground := Ground.guard }], guard := Option.some (18, Bool.true) }) (v := undef) rfl (by kernel_rfl) (by kernel_rfl) (by kernel_rfl) (fun _ _ _ h => h) (Or.inr ⟨by rfl, rfl⟩) (by assumption) ?_
              try simp only [Act.put, List.setIfInBounds_toArray, List.set_cons_zero, List.set_cons_succ]
              refine wpAnyH_take (i := 28) (oi := { dst := (Option.some 80), op := Op.binOp BinOp.leq 3 (Operand.tmp 74) (Operand.tmp 79) 3, type := 4, pos := "outright.go:173", after := #[{ on := 22, ground := Ground.data }, { on := 27, ground := Ground.data }, { on := 18, ground := Ground.guard }], guard := Option.some (18, Bool.true) }) (v := undef) rfl (by kernel_rfl) (by kernel_rfl) (by kernel_rfl) (fun _ _ _ h => h) (Or.inr ⟨by rfl, rfl⟩) (by assumption) ?_
              try simp only [Act.put, List.setIfInBounds_toArray, List.set_cons_zero, List.set_cons_succ]
              refine wpAnyH_take (i := 29) (oi := { dst := (Option.some 81), op := Op.pick (Operand.tmp 70) (Operand.tmp 80) (Operand.const (Value.bool Bool.false)), type := 4, pos := "outright.go:173", after := #[{ on := 18, ground := Ground.data }, { on := 28, ground := Ground.data }, { on := 15, ground := Ground.guard }], guard := Option.some (15, Bool.false) }) (v := ?_) rfl (by kernel_rfl) (by kernel_rfl) (by kernel_rfl) (fun _ _ _ h => h) (Or.inl ⟨by rfl, ?_⟩) (by assumption) ?_
              rotate_left
              · intro w hSw
                (try dsimp only at hSw)
                go_simp
                try with_reducible rfl
              try simp only [Act.put, List.setIfInBounds_toArray, List.set_cons_zero, List.set_cons_succ]
              refine wpAnyH_take (i := 30) (oi := { dst := (Option.some 82), op := Op.pick (Operand.tmp 67) (Operand.const (Value.bool Bool.true)) (Operand.tmp 81), type := 4, pos := "outright.go:173", after := #[{ on := 15, ground := Ground.data }, { on := 29, ground := Ground.data }], guard := Option.none }) (v := ?_) rfl (by kernel_rfl) (by kernel_rfl) (by kernel_rfl) (fun _ _ _ h => h) (Or.inl ⟨by rfl, ?_⟩) (by assumption) ?_
              rotate_left
              · intro w hSw
                (try dsimp only at hSw)
                go_simp
                try with_reducible rfl
              try simp only [Act.put, List.setIfInBounds_toArray, List.set_cons_zero, List.set_cons_succ]
              refine wpAnyH_done (by kernel_rfl) ?_ _
              have K1 : Hid (OwnI wr.drew w.heap.size (.slice (some ⟨g, 0, none⟩) n cap9) ks) := OwnI.below H1.out (Below.refl _ _).drew
              have K2 : Hid (OwnN wr.drew w.heap.size (.slice av row.length cap) row) := OwnN.below H2.out (Below.refl _ _).drew
              have hBd := hB.drew
              clear H1 H2 HC hHeld
              go_wp2_with fail
              go_roundg (n - (0 + 1))
              case rel => exact ⟨0 + 1, by simp, rfl, by omega, K1, K2, hBd⟩
              case measure => omega
            | succ j0 =>
              obtain ⟨q0, s0, e10, -, -, p30, -, -, p60⟩ := HK2.out j0 (by omega)
              have hq : q = q0 + s0 := by have := p60 (by omega); rw [e1] at this; simpa using this
              have HC : Hid (wr.cell? ⟨g, j0 + 1, none⟩ = some (.int .i64 (q : Int))) := hcell (j0 + 1) q e1
              have HC0 : Hid (wr.cell? ⟨g, j0, none⟩ = some (.int .i64 (q0 : Int))) := hcell j0 q0 e10
              have r3 : ¬ (q : Int) ≤ (q0 : Int) := by omega
              have r4 : (0 : Int) < ((j0 + 1 : Nat) : Int) := by omega
              have r5 : (j0 : Int) < (n : Int) := by omega
              have r6 : (0 : Int) ≤ (j0 : Int) + 1 := by omega
              have r7 : (j0 : Int) + 1 < (n : Int) := by omega
              have r8 : (0 : Int) < (j0 : Int) + 1 := by omega
              have hwj := wj j0 (by omega)
              clear hcell e1 e10 p4 p60 hq
              go_upto_region 15 with fail
              refine wp_region_held_drew (S := fun W => W.cell? ⟨g, j0 + 1, none⟩ = some (.int .i64 (q : Int)) ∧ W.cell? ⟨g, j0, none⟩ = some (.int .i64 (q0 : Int))) (by kernel_rfl) ⟨HC.out, HC0.out⟩ (fun hHeld => ?_)
              refine wpAnyH_take (i := 0) (oi := { dst := (Option.some 52), op := Op.move (Operand.tmp 9), type := 33, pos := "outright.go:173", after := #[], guard := Option.none }) (v := ?_) rfl (by kernel_rfl) (by kernel_rfl) (by kernel_rfl) (fun _ _ _ h => h) (Or.inl ⟨by rfl, ?_⟩) (by assumption) ?_
              rotate_left
              · intro w hSw
                (try dsimp only at hSw)
                go_simp
                try with_reducible rfl
              try simp only [Act.put, List.setIfInBounds_toArray, List.set_cons_zero, List.set_cons_succ]
              refine wpAnyH_take (i := 1) (oi := { dst := (Option.some 53), op := Op.move (Operand.tmp 10), type := 3, pos := "outright.go:173", after := #[], guard := Option.none }) (v := ?_) rfl (by kernel_rfl) (by kernel_rfl) (by kernel_rfl) (fun _ _ _ h => h) (Or.inl ⟨by rfl, ?_⟩) (by assumption) ?_
              rotate_left
              · intro w hSw
                (try dsimp only at hSw)
                go_simp
                try with_reducible rfl
              try simp only [Act.put, List.setIfInBounds_toArray, List.set_cons_zero, List.set_cons_succ]
              refine wpAnyH_take (i := 2) (oi := { dst := (Option.some 54), op := Op.indexAddr 33 (Operand.tmp 52) (Operand.tmp 53), type := 0, pos := "outright.go:173", after := #[{ on := 0, ground := Ground.data }, { on := 1, ground := Ground.data }], guard := Option.none }) (v := ?_) rfl (by kernel_rfl) (by kernel_rfl) (by kernel_rfl) (fun _ _ _ h => h) (Or.inl ⟨by rfl, ?_⟩) (by assumption) ?_
              rotate_left
              · intro w hSw
                (try dsimp only at hSw)
                go_simp
                try with_reducible rfl
              try simp only [Act.put, List.setIfInBounds_toArray, List.set_cons_zero, List.set_cons_succ]
              refine wpAnyH_take (i := 3) (oi := { dst := (Option.some 55), op := Op.load 3 (Operand.tmp 54), type := 3, pos := "outright.go:173", after := #[{ on := 2, ground := Ground.data }], guard := Option.none }) (v := ?_) rfl (by kernel_rfl) (by kernel_rfl) (by kernel_rfl) (fun _ _ _ h => h) (Or.inl ⟨by rfl, ?_⟩) (by assumption) ?_
              rotate_left
              · intro w hSw
                (try dsimp only at hSw)
                go_simp
                try with_reducible rfl
              try simp only [Act.put, List.setIfInBounds_toArray, List.set_cons_zero, List.set_cons_succ]
              refine wpAnyH_take (i := 4) (oi := { dst := (Option.some 56), op := Op.move (Operand.tmp 8), type := 3, pos := "outright.go:173", after := #[], guard := Option.none }) (v := ?_) rfl (by kernel_rfl) (by kernel_rfl) (by kernel_rfl) (fun _ _ _ h => h) (Or.inl ⟨by rfl, ?_⟩) (by assumption) ?_
              rotate_left
              · intro w hSw
                (try dsimp only at hSw)
                go_simp
                try with_reducible rfl
              try simp only [Act.put, List.setIfInBounds_toArray, List.set_cons_zero, List.set_cons_succ]
              refine wpAnyH_take (i := 5) (oi := { dst := (Option.some 57), op := Op.binOp BinOp.leq 3 (Operand.tmp 55) (Operand.tmp 56) 3, type := 4, pos := "outright.go:173", after := #[{ on := 3, ground := Ground.data }, { on := 4, ground := Ground.data }], guard := Option.none }) (v := ?_) rfl (by kernel_rfl) (by kernel_rfl) (by kernel_rfl) (fun _ _ _ h => h) (Or.inl ⟨by rfl, ?_⟩) (by assumption) ?_
              rotate_left
              · intro w hSw
                (try dsimp only at hSw)
                go_simp
                try with_reducible rfl
              try simp only [Act.put, List.setIfInBounds_toArray, List.set_cons_zero, List.set_cons_succ]
              refine wpAnyH_take (i := 6) (oi := { dst := (Option.some 58), op := Op.move (Operand.tmp 57), type := 4, pos := "outright.go:173", after := #[{ on := 5, ground := Ground.data }], guard := Option.none }) (v := ?_) rfl (by kernel_rfl) (by kernel_rfl) (by kernel_rfl) (fun _ _ _ h => h) (Or.inl ⟨by rfl, ?_⟩) (by assumption) ?_
              rotate_left
              · intro w hSw
                (try dsimp only at hSw)
                go_simp
                try with_reducible rfl
              try simp only [Act.put, List.setIfInBounds_toArray, List.set_cons_zero, List.set_cons_succ]
              refine wpAnyH_take (i := 7) (oi := { dst := (Option.some 59), op := Op.move (Operand.tmp 9), type := 33, pos := "outright.go:173", after := #[{ on := 6, ground := Ground.guard }], guard := Option.some (6, Bool.false) }) (v := ?_) rfl (by kernel_rfl) (by kernel_rfl) (by kernel_rfl) (fun _ _ _ h => h) (Or.inl ⟨by rfl, ?_⟩) (by assumption) ?_
              rotate_left
              · intro w hSw
                (try dsimp only at hSw)
                go_simp
                try with_reducible rfl
              try simp only [Act.put, List.setIfInBounds_toArray, List.set_cons_zero, List.set_cons_succ]
              refine wpAnyH_take (i := 8) (oi := { dst := (Option.some 60), op := Op.move (Operand.tmp 10), type := 3, pos := "outright.go:173", after := #[{ on := 6, ground := Ground.guard }], guard := Option.some (6, Bool.false) }) (v := ?_) rfl (by kernel_rfl) (by kernel_rfl) (by kernel_rfl) (fun _ _ _ h => h) (Or.inl ⟨by rfl, ?_⟩) (by assumption) ?_
              rotate_left
              · intro w hSw
                (try dsimp only at hSw)
                go_simp
                try with_reducible rfl
              try simp only [Act.put, List.setIfInBounds_toArray, List.set_cons_zero, List.set_cons_succ]
              refine wpAnyH_take (i := 9) (oi := { dst := (Option.some 61), op := Op.indexAddr 33 (Operand.tmp 59) (Operand.tmp 60), type := 0, pos := "outright.go:173", after := #[{ on := 7, ground := Ground.data }, { on := 8, ground := Ground.data }, { on := 6, ground := Ground.guard }], guard := Option.some (6, Bool.false) }) (v := ?_) rfl (by kernel_rfl) (by kernel_rfl) (by kernel_rfl) (fun _ _ _ h => h) (Or.inl ⟨by rfl, ?_⟩) (by assumption) ?_
              rotate_left
              · intro w hSw
                (try dsimp only at hSw)
                go_simp
                try with_reducible rfl
              try simp only [Act.put, List.setIfInBounds_toArray, List.set_cons_zero, List.set_cons_succ]
              refine wpAnyH_take (i := 10) (oi := { dst := (Option.some 62), op := Op.load 3 (Operand.tmp 61), type := 3, pos := "outright.go:173", after := #[{ on := 9, ground := Ground.data }, { on := 6, ground := Ground.guard }], guard := Option.some (6, Bool.false) }) (v := ?_) rfl (by kernel_rfl) (by kernel_rfl) (by kernel_rfl) (fun _ _ _ h => h) (Or.inl ⟨by rfl, ?_⟩) (by assumption) ?_
              rotate_left
              · intro w hSw
                (try dsimp only at hSw)
                go_simp
                try with_reducible rfl
              try simp only [Act.put, List.setIfInBounds_toArray, List.set_cons_zero, List.set_cons_succ]
              refine wpAnyH_take (i := 11) (oi := { dst := (Option.some 63), op := Op.move (Operand.tmp 5), type := 23, pos := "outright.go:173", after := #[{ on := 6, ground := Ground.guard }], guard := Option.some (6, Bool.false) }) (v := ?_) rfl (by kernel_rfl) (by kernel_rfl) (by kernel_rfl) (fun _ _ _ h => h) (Or.inl ⟨by rfl, ?_⟩) (by assumption) ?_
              rotate_left
              · intro w hSw
                (try dsimp only at hSw)
                go_simp
                try with_reducible rfl
              try simp only [Act.put, List.setIfInBounds_toArray, List.set_cons_zero, List.set_cons_succ]
              refine wpAnyH_take (i := 12) (oi := { dst := (Option.some 64), op := Op.call { callee := Callee.builtin Builtin.len, args := #[Operand.tmp 63], argTypes := #[23] }, type := 3, pos := "outright.go:173", after := #[{ on := 11, ground := Ground.data }, { on := 6, ground := Ground.guard }], guard := Option.some (6, Bool.false) }) (v := ?_) rfl (by kernel_rfl) (by kernel_rfl) (by kernel_rfl) (fun _ _ _ h => h) (Or.inl ⟨by rfl, ?_⟩) (by assumption) ?_
              rotate_left
              · intro w hSw
                (try dsimp only at hSw)
                go_simp
                try with_reducible rfl
              try simp only [Act.put, List.setIfInBounds_toArray, List.set_cons_zero, List.set_cons_succ]
              refine wpAnyH_take (i := 13) (oi := { dst := (Option.some 65), op := Op.binOp BinOp.geq 3 (Operand.tmp 62) (Operand.tmp 64) 3, type := 4, pos := "outright.go:173", after := #[{ on := 10, ground := Ground.data }, { on := 12, ground := Ground.data }, { on := 6, ground := Ground.guard }], guard := Option.some (6, Bool.false) }) (v := ?_) rfl (by kernel_rfl) (by kernel_rfl) (by kernel_rfl) (fun _ _ _ h => h) (Or.inl ⟨by rfl, ?_⟩) (by assumption) ?_
              rotate_left
              · intro w hSw
                (try dsimp only at hSw)
                go_simp
                try with_reducible rfl
              try simp only [Act.put, List.setIfInBounds_toArray, List.set_cons_zero, List.set_cons_succ]
              refine wpAnyH_take (i := 14) (oi := { dst := (Option.some 66), op := Op.pick (Operand.tmp 58) (Operand.const (Value.bool Bool.true)) (Operand.tmp 65), type := 4, pos := "outright.go:173", after := #[{ on := 6, ground := Ground.data }, { on := 13, ground := Ground.data }], guard := Option.none }) (v := ?_) rfl (by kernel_rfl) (by kernel_rfl) (by kernel_rfl) (fun _ _ _ h => h) (Or.inl ⟨by rfl, ?_⟩) (by assumption) ?_
              rotate_left
              · intro w hSw
                (try dsimp only at hSw)
                go_simp
                try with_reducible rfl
              try simp only [Act.put, List.setIfInBounds_toArray, List.set_cons_zero, List.set_cons_succ]
              refine wpAnyH_take (i := 15) (oi := { dst := (Option.some 67), op := Op.move (Operand.tmp 66), type := 4, pos := "outright.go:173", after := #[{ on := 14, ground := Ground.data }, { on := 6, ground := Ground.chain }], guard := Option.none }) (v := ?_) rfl (by kernel_rfl) (by kernel_rfl) (by kernel_rfl) (fun _ _ _ h => h) (Or.inl ⟨by rfl, ?_⟩) (by assumption) ?_
              rotate_left
              · intro w hSw
                (try dsimp only at hSw)
                go_simp
                try with_reducible rfl
              try simp only [Act.put, List.setIfInBounds_toArray, List.set_cons_zero, List.set_cons_succ]
              refine wpAnyH_take (i := 16) (oi := { dst := (Option.some 68), op := Op.move (Operand.tmp 10), type := 3, pos := "outright.go:173", after := #[{ on := 15, ground := Ground.guard }], guard := Option.some (15, Bool.false) }) (v := ?_) rfl (by kernel_rfl) (by kernel_rfl) (by kernel_rfl) (fun _ _ _ h => h) (Or.inl ⟨by rfl, ?_⟩) (by assumption) ?_
              rotate_left
              · intro w hSw
                (try dsimp only at hSw)
                go_simp
                try with_reducible rfl
              try simp only [Act.put, List.setIfInBounds_toArray, List.set_cons_zero, List.set_cons_succ]
              refine wpAnyH_take (i := 17) (oi := { dst := (Option.some 69), op := Op.binOp BinOp.gtr 3 (Operand.tmp 68) (Operand.const (Value.int IntKind.i64 0)) 3, type := 4, pos := "outright.go:173", after := #[{ on := 16, ground := Ground.data }, { on := 15, ground := Ground.guard }], guard := Option.some (15, Bool.false) }) (v := ?_) rfl (by kernel_rfl) (by kernel_rfl) (by kernel_rfl) (fun _ _ _ h => h) (Or.inl ⟨by rfl, ?_⟩) (by assumption) ?_
              rotate_left
              · intro w hSw
                (try dsimp only at hSw)
                go_simp
                try with_reducible rfl
              try simp only [Act.put, List.setIfInBounds_toArray, List.set_cons_zero, List.set_cons_succ]
              refine wpAnyH_take (i := 18) (oi := { dst := (Option.some 70), op := Op.move (Operand.tmp 69), type := 4, pos := "outright.go:173", after := #[{ on := 17, ground := Ground.data }, { on := 15, ground := Ground.chain }, { on := 15, ground := Ground.guard }], guard := Option.some (15, Bool.false) }) (v := ?_) rfl (by kernel_rfl) (by kernel_rfl) (by kernel_rfl) (fun _ _ _ h => h) (Or.inl ⟨by rfl, ?_⟩) (by assumption) ?_
              rotate_left
              · intro w hSw
                (try dsimp only at hSw)
                go_simp
                try with_reducible rfl
              try simp only [Act.put, List.setIfInBounds_toArray, List.set_cons_zero, List.set_cons_succ]
              refine wpAnyH_take (i := 19) (oi := { dst := (Option.some 71), op := Op.move (Operand.tmp 9), type := 33, pos := "outright.go:173", after := #[{ on := 18, ground := Ground.guard }], guard := Option.some (18, Bool.true) }) (v := ?_) rfl (by kernel_rfl) (by kernel_rfl) (by kernel_rfl) (fun _ _ _ h => h) (Or.inl ⟨by rfl, ?_⟩) (by assumption) ?_
              rotate_left
              · intro w hSw
                (try dsimp only at hSw)
                go_simp
                try with_reducible rfl
              try simp only [Act.put, List.setIfInBounds_toArray, List.set_cons_zero, List.set_cons_succ]
              refine wpAnyH_take (i := 20) (oi := { dst := (Option.some 72), op := Op.move (Operand.tmp 10), type := 3, pos := "outright.go:173", after := #[{ on := 18, ground := Ground.guard }], guard := Option.some (18, Bool.true) }) (v := ?_) rfl (by kernel_rfl) (by kernel_rfl) (by kernel_rfl) (fun _ _ _ h => h) (Or.inl ⟨by rfl, ?_⟩) (by assumption) ?_
              rotate_left
              · intro w hSw
                (try dsimp only at hSw)
                go_simp
                try with_reducible rfl
              try simp only [Act.put, List.setIfInBounds_toArray, List.set_cons_zero, List.set_cons_succ]
              refine wpAnyH_take (i := 21) (oi := { dst := (Option.some 73), op := Op.indexAddr 33 (Operand.tmp 71) (Operand.tmp 72), type := 0, pos := "outright.go:173", after := #[{ on := 19, ground := Ground.data }, { on := 20, ground := Ground.data }, { on := 18, ground := Ground.guard }], guard := Option.some (18, Bool.true) }) (v := ?_) rfl (by kernel_rfl) (by kernel_rfl) (by kernel_rfl) (fun _ _ _ h => h) (Or.inl ⟨by rfl, ?_⟩) (by assumption) ?_
              rotate_left
              · intro w hSw
                (try dsimp only at hSw)
                go_simp
                try with_reducible rfl
              try simp only [Act.put, List.setIfInBounds_toArray, List.set_cons_zero, List.set_cons_succ]
              refine wpAnyH_take (i := 22) (oi := { dst := (Option.some 74), op := Op.load 3 (Operand.tmp 73), type := 3, pos := "outright.go:173", after := #[{ on := 21, ground := Ground.data }, { on := 18, ground := Ground.guard }], guard := Option.some (18, Bool.true) }) (v := ?_) rfl (by kernel_rfl) (by kernel_rfl) (by kernel_rfl) (fun _ _ _ h => h) (Or.inl ⟨by rfl, ?_⟩) (by assumption) ?_
              rotate_left
              · intro w hSw
                (try dsimp only at hSw)
                go_simp
                try with_reducible rfl
              try simp only [Act.put, List.setIfInBounds_toArray, List.set_cons_zero, List.set_cons_succ]
              refine wpAnyH_take (i := 23) (oi := { dst := (Option.some 75), op := Op.move (Operand.tmp 9), type := 33, pos := "outright.go:173", after := #[{ on := 18, ground := Ground.guard }], guard := Option.some (18, Bool.true) }) (v := ?_) rfl (by kernel_rfl) (by kernel_rfl) (by kernel_rfl) (fun _ _ _ h => h) (Or.inl ⟨by rfl, ?_⟩) (by assumption) ?_
              rotate_left
              · intro w hSw
                (try dsimp only at hSw)
                go_simp
                try with_reducible rfl
              try simp only [Act.put, List.setIfInBounds_toArray, List.set_cons_zero, List.set_cons_succ]
              refine wpAnyH_take (i := 24) (oi := { dst := (Option.some 76), op := Op.move (Operand.tmp 10), type := 3, pos := "outright.go:173", after := #[{ on := 18, ground := Ground.guard }], guard := Option.some (18, Bool.true) }) (v := ?_) rfl (by kernel_rfl) (by kernel_rfl) (by kernel_rfl) (fun _ _ _ h => h) (Or.inl ⟨by rfl, ?_⟩) (by assumption) ?_
              rotate_left
              · intro w hSw
                (try dsimp only at hSw)
                go_simp
                try with_reducible rfl
              try simp only [Act.put, List.setIfInBounds_toArray, List.set_cons_zero, List.set_cons_succ]
              refine wpAnyH_take (i := 25) (oi := { dst := (Option.some 77), op := Op.binOp BinOp.sub 3 (Operand.tmp 76) (Operand.const (Value.int IntKind.i64 1)) 3, type := 3, pos := "outright.go:173", after := #[{ on := 24, ground := Ground.data }, { on := 18, ground := Ground.guard }], guard := Option.some (18, Bool.true) }) (v := ?_) rfl (by kernel_rfl) (by kernel_rfl) (by kernel_rfl) (fun _ _ _ h => h) (Or.inl ⟨by rfl, ?_⟩) (by assumption) ?_
              rotate_left
              · intro w hSw
                (try dsimp only at hSw)
                go_simp
                try with_reducible rfl
              try simp only [Act.put, List.setIfInBounds_toArray, List.set_cons_zero, List.set_cons_succ]
              refine wpAnyH_take (i := 26) (oi := { dst := (Option.some 78), op := Op.indexAddr 33 (Operand.tmp 75) (Operand.tmp 77), type := 0, pos := "outright.go:173", after := #[{ on := 23, ground := Ground.data }, { on := 25, ground := Ground.data }, { on := 18, ground := Ground.guard }], guard := Option.some (18, Bool.true) }) (v := ?_) rfl (by kernel_rfl) (by kernel_rfl) (by kernel_rfl) (fun _ _ _ h => h) (Or.inl ⟨by rfl, ?_⟩) (by assumption) ?_
              rotate_left
              · intro w hSw
                (try dsimp only at hSw)
                go_simp
                try with_reducible rfl
              try simp only [Act.put, List.setIfInBounds_toArray, List.set_cons_zero, List.set_cons_succ]
              refine wpAnyH_take (i := 27) (oi := { dst := (Option.some 79), op := Op.load 3 (Operand.tmp 78), type := 3, pos := "outright.go:173", after := #[{ on := 26, ground := Ground.data }, { on := 18, ground := Ground.guard }], guard := Option.some (18, Bool.true) }) (v := ?_) rfl (by kernel_rfl) (by kernel_rfl) (by kernel_rfl) (fun _ _ _ h => h) (Or.inl ⟨by rfl, ?_⟩) (by assumption) ?_
              rotate_left
              · intro w hSw
                (try dsimp only at hSw)
                go_simp
                try with_reducible rfl
              try simp only [Act.put, List.setIfInBounds_toArray, List.set_cons_zero, List.set_cons_succ]
              refine wpAnyH_take (i := 28) (oi := { dst := (Option.some 80), op := Op.binOp BinOp.leq 3 (Operand.tmp 74) (Operand.tmp 79) 3, type := 4, pos := "outright.go:173", after := #[{ on := 22, ground := Ground.data }, { on := 27, ground := Ground.data }, { on := 18, ground := Ground.guard }], guard := Option.some (18, Bool.true) }) (v := ?_) rfl (by kernel_rfl) (by kernel_rfl) (by kernel_rfl) (fun _ _ _ h => h) (Or.inl ⟨by rfl, ?_⟩) (by assumption) ?_
              rotate_left
              · intro w hSw
                (try dsimp only at hSw)
                go_simp
                try with_reducible rfl
              try simp only [Act.put, List.setIfInBounds_toArray, List.set_cons_zero, List.set_cons_succ]
              refine wpAnyH_take (i := 29) (oi := { dst := (Option.some 81), op := Op.pick (Operand.tmp 70) (Operand.tmp 80) (Operand.const (Value.bool Bool.false)), type := 4, pos := "outright.go:173", after := #[{ on := 18, ground := Ground.data }, { on := 28, ground := Ground.data }, { on := 15, ground := Ground.guard }], guard := Option.some (15, Bool.false) }) (v := ?_) rfl (by kernel_rfl) (by kernel_rfl) (by kernel_rfl) (fun _ _ _ h => h) (Or.inl ⟨by rfl, ?_⟩) (by assumption) ?_
              rotate_left
              · intro w hSw
                (try dsimp only at hSw)
                go_simp
                try with_reducible rfl
              try simp only [Act.put, List.setIfInBounds_toArray, List.set_cons_zero, List.set_cons_succ]
              refine wpAnyH_take (i := 30) (oi := { dst := (Option.some 82), op := Op.pick (Operand.tmp 67) (Operand.const (Value.bool Bool.true)) (Operand.tmp 81), type := 4, pos := "outright.go:173", after := #[{ on := 15, ground := Ground.data }, { on := 29, ground := Ground.data }], guard := Option.none }) (v := ?_) rfl (by kernel_rfl) (by kernel_rfl) (by kernel_rfl) (fun _ _ _ h => h) (Or.inl ⟨by rfl, ?_⟩) (by assumption) ?_
              rotate_left
              · intro w hSw
                (try dsimp only at hSw)
                go_simp
                try with_reducible rfl
              try simp only [Act.put, List.setIfInBounds_toArray, List.set_cons_zero, List.set_cons_succ]
              refine wpAnyH_done (by kernel_rfl) ?_ _
              have K1 : Hid (OwnI wr.drew w.heap.size (.slice (some ⟨g, 0, none⟩) n cap9) ks) := OwnI.below H1.out (Below.refl _ _).drew
              have K2 : Hid (OwnN wr.drew w.heap.size (.slice av row.length cap) row) := OwnN.below H2.out (Below.refl _ _).drew
              have hBd := hB.drew
              clear H1 H2 HC hHeld
              go_wp2_with fail
              go_roundg (n - (j0 + 1 + 1))
              case rel => exact ⟨j0 + 1 + 1, by simp, rfl, by omega, K1, K2, hBd⟩
              case measure => omega
          · have hli : ¬ (j : Int) < (n : Int) := by omega
            go_wp2_with fail
            go_loopg [11] n (fun gk y wr => ∃ j : Nat, y = .int .i64 j ∧ gk = n - j ∧ j ≤ n ∧ Hid (OwnI wr w.heap.size (.slice (some ⟨g, 0, none⟩) n cap9) ks) ∧ Hid (OwnN wr w.heap.size (.slice av row.length cap) row) ∧ Below w.heap.size w wr)
            case atStart => exact ⟨0, rfl, rfl, Nat.zero_le _, H1, H2, hB⟩
            case round =>
              clear H1 H2 hB hli hj hg
              obtain ⟨j, rfl, hg, hj, H1, H2, hB⟩ := hrel
              by_cases hlt2 : j + 1 < n
              · obtain ⟨q, s, e1, p1, p2, p3, -, p5, p6⟩ := HK2.out j (by omega)
                obtain ⟨g', eg, hcell⟩ := OwnI.cell H1.out (by omega)
                obtain rfl : g = g' := by simpa using eg
                have HC : Hid (wr.cell? ⟨g, j, none⟩ = some (.int .i64 (q : Int))) := hcell j q e1
                have p6' := p6 hlt2
                obtain ⟨q2, hq2⟩ : ∃ q2, q2 = q + s := ⟨_, rfl⟩
                rw [← hq2] at p6' p2
                have HC1 : Hid (wr.cell? ⟨g, j + 1, none⟩ = some (.int .i64 (q2 : Int))) := hcell (j + 1) q2 p6'
                have hli2 : (j : Int) + 1 < (n : Int) := by omega
                have hli3 : (j : Int) < (n : Int) := by omega
                have hjn : (j : Int) ≤ 30 := by omega
                have hj1 : (0 : Int) ≤ (j : Int) + 1 := by omega
                have hsq : s = q2 - q := by omega
                rw [hsq] at p5
                have HCk2 : Hid (Wt.check ((row.drop q).take (q2 - q)) = 0) := p5
                have hq2a : q ≤ q2 := by omega
                have hq2b : q < q2 := by omega
                clear hcell e1 p6 p6' p5 hq2 hsq p3
                obtain ⟨gN, rfl, hNc, hNcell⟩ := OwnN.cell H2.out (by omega)
                have hcap2 : (q2 : Int) ≤ (cap : Int) := by omega
                have hq20 : (0 : Int) ≤ (q2 : Int) := by omega
                have hcapq : ¬ cap - q = 0 := by omega
                have hcapq2 : ¬ cap = q := by omega
                have hwj1 := wj1 j (by omega)
                go_upto_region 20 with fail
                refine wp_region_held_drew (S := fun W => W.cell? ⟨g, j, none⟩ = some (.int .i64 (q : Int)) ∧ W.cell? ⟨g, j + 1, none⟩ = some (.int .i64 (q2 : Int))) (by kernel_rfl) ⟨HC.out, HC1.out⟩ (fun hHeld => ?_)
                refine wpAnyH_take (i := 1) (oi := { dst := (Option.some 91), op := Op.move (Operand.tmp 5), type := 23, pos := "outright.go:178", after := #[], guard := Option.none }) (v := ?_) rfl (by kernel_rfl) (by kernel_rfl) (by kernel_rfl) (fun _ _ _ h => h) (Or.inl ⟨by rfl, ?_⟩) (by assumption) ?_
                rotate_left
                · intro w hSw
                  (try dsimp only at hSw)
                  go_simp
                  try with_reducible rfl
                try simp only [Act.put, List.setIfInBounds_toArray, List.set_cons_zero, List.set_cons_succ]
                refine wpAnyH_take (i := 2) (oi := { dst := (Option.some 92), op := Op.move (Operand.tmp 9), type := 33, pos := "outright.go:178", after := #[], guard := Option.none }) (v := ?_) rfl (by kernel_rfl) (by kernel_rfl) (by kernel_rfl) (fun _ _ _ h => h) (Or.inl ⟨by rfl, ?_⟩) (by assumption) ?_
                rotate_left
                · intro w hSw
                  (try dsimp only at hSw)
                  go_simp
                  try with_reducible rfl
                try simp only [Act.put, List.setIfInBounds_toArray, List.set_cons_zero, List.set_cons_succ]
                refine wpAnyH_take (i := 3) (oi := { dst := (Option.some 93), op := Op.move (Operand.tmp 11), type := 3, pos := "outright.go:178", after := #[], guard := Option.none }) (v := ?_) rfl (by kernel_rfl) (by kernel_rfl) (by kernel_rfl) (fun _ _ _ h => h) (Or.inl ⟨by rfl, ?_⟩) (by assumption) ?_
                rotate_left
                · intro w hSw
                  (try dsimp only at hSw)
                  go_simp
                  try with_reducible rfl
                try simp only [Act.put, List.setIfInBounds_toArray, List.set_cons_zero, List.set_cons_succ]
                refine wpAnyH_take (i := 4) (oi := { dst := (Option.some 94), op := Op.indexAddr 33 (Operand.tmp 92) (Operand.tmp 93), type := 0, pos := "outright.go:178", after := #[{ on := 2, ground := Ground.data }, { on := 3, ground := Ground.data }], guard := Option.none }) (v := ?_) rfl (by kernel_rfl) (by kernel_rfl) (by kernel_rfl) (fun _ _ _ h => h) (Or.inl ⟨by rfl, ?_⟩) (by assumption) ?_
                rotate_left
                · intro w hSw
                  (try dsimp only at hSw)
                  go_simp
                  try with_reducible rfl
                try simp only [Act.put, List.setIfInBounds_toArray, List.set_cons_zero, List.set_cons_succ]
                refine wpAnyH_take (i := 5) (oi := { dst := (Option.some 95), op := Op.load 3 (Operand.tmp 94), type := 3, pos := "outright.go:178", after := #[{ on := 4, ground := Ground.data }], guard := Option.none }) (v := ?_) rfl (by kernel_rfl) (by kernel_rfl) (by kernel_rfl) (fun _ _ _ h => h) (Or.inl ⟨by rfl, ?_⟩) (by assumption) ?_
                rotate_left
                · intro w hSw
                  (try dsimp only at hSw)
                  go_simp
                  try with_reducible rfl
                try simp only [Act.put, List.setIfInBounds_toArray, List.set_cons_zero, List.set_cons_succ]
                refine wpAnyH_take (i := 6) (oi := { dst := (Option.some 96), op := Op.move (Operand.tmp 9), type := 33, pos := "outright.go:178", after := #[], guard := Option.none }) (v := ?_) rfl (by kernel_rfl) (by kernel_rfl) (by kernel_rfl) (fun _ _ _ h => h) (Or.inl ⟨by rfl, ?_⟩) (by assumption) ?_
                rotate_left
                · intro w hSw
                  (try dsimp only at hSw)
                  go_simp
                  try with_reducible rfl
                try simp only [Act.put, List.setIfInBounds_toArray, List.set_cons_zero, List.set_cons_succ]
                refine wpAnyH_take (i := 7) (oi := { dst := (Option.some 97), op := Op.move (Operand.tmp 11), type := 3, pos := "outright.go:178", after := #[], guard := Option.none }) (v := ?_) rfl (by kernel_rfl) (by kernel_rfl) (by kernel_rfl) (fun _ _ _ h => h) (Or.inl ⟨by rfl, ?_⟩) (by assumption) ?_
                rotate_left
                · intro w hSw
                  (try dsimp only at hSw)
                  go_simp
                  try with_reducible rfl
                try simp only [Act.put, List.setIfInBounds_toArray, List.set_cons_zero, List.set_cons_succ]
                refine wpAnyH_take (i := 8) (oi := { dst := (Option.some 98), op := Op.binOp BinOp.add 3 (Operand.tmp 97) (Operand.const (Value.int IntKind.i64 1)) 3, type := 3, pos := "outright.go:178", after := #[{ on := 7, ground := Ground.data }], guard := Option.none }) (v := ?_) rfl (by kernel_rfl) (by kernel_rfl) (by kernel_rfl) (fun _ _ _ h => h) (Or.inl ⟨by rfl, ?_⟩) (by assumption) ?_
                rotate_left
                · intro w hSw
                  (try dsimp only at hSw)
                  go_simp
                  try with_reducible rfl
                try simp only [Act.put, List.setIfInBounds_toArray, List.set_cons_zero, List.set_cons_succ]
                refine wpAnyH_take (i := 9) (oi := { dst := (Option.some 99), op := Op.indexAddr 33 (Operand.tmp 96) (Operand.tmp 98), type := 0, pos := "outright.go:178", after := #[{ on := 6, ground := Ground.data }, { on := 8, ground := Ground.data }], guard := Option.none }) (v := ?_) rfl (by kernel_rfl) (by kernel_rfl) (by kernel_rfl) (fun _ _ _ h => h) (Or.inl ⟨by rfl, ?_⟩) (by assumption) ?_
                rotate_left
                · intro w hSw
                  (try dsimp only at hSw)
                  go_simp
                  try with_reducible rfl
                try simp only [Act.put, List.setIfInBounds_toArray, List.set_cons_zero, List.set_cons_succ]
                refine wpAnyH_take (i := 10) (oi := { dst := (Option.some 100), op := Op.load 3 (Operand.tmp 99), type := 3, pos := "outright.go:178", after := #[{ on := 9, ground := Ground.data }], guard := Option.none }) (v := ?_) rfl (by kernel_rfl) (by kernel_rfl) (by kernel_rfl) (fun _ _ _ h => h) (Or.inl ⟨by rfl, ?_⟩) (by assumption) ?_
                rotate_left
                · intro w hSw
                  (try dsimp only at hSw)
                  go_simp
                  try with_reducible rfl
                try simp only [Act.put, List.setIfInBounds_toArray, List.set_cons_zero, List.set_cons_succ]
                refine wpAnyH_take (i := 11) (oi := { dst := (Option.some 101), op := Op.slice 23 (Operand.tmp 91) (Option.some (Operand.tmp 95)) (Option.some (Operand.tmp 100)) Option.none, type := 23, pos := "outright.go:178", after := #[{ on := 1, ground := Ground.data }, { on := 5, ground := Ground.data }, { on := 10, ground := Ground.data }], guard := Option.none }) (v := ?_) rfl (by kernel_rfl) (by kernel_rfl) (by kernel_rfl) (fun _ _ _ h => h) (Or.inl ⟨by rfl, ?_⟩) (by assumption) ?_
                rotate_left
                · intro w hSw
                  (try dsimp only at hSw)
                  go_simp
                  try with_reducible rfl
                try simp only [Act.put, List.setIfInBounds_toArray, List.set_cons_zero, List.set_cons_succ]
                refine wpAnyH_ready (rs := [0]) (by kernel_rfl) (by simp) ?_
                refine AllReadyH.cons (o := { dst := (Option.some 90), op := Op.buildSlice 23 0 #[], type := 23, pos := "outright.go:178", after := #[], guard := Option.none }) rfl (fun K hK => ?_) AllReadyH.nil
                go_simp
                have hBa := (ball (Below.refl _ wr) (.cells #[] 42)).drew
                refine hK.out _ _ ⟨cell_below hBa HC.out, cell_below hBa HC1.out⟩ (fun hHeld => ?_)
                clear hK K
                try simp only [Act.put, List.setIfInBounds_toArray, List.set_cons_zero, List.set_cons_succ]
                have hsub : ((row.drop q).take (q2 - q)).length = q2 - q := by rw [List.length_take, List.length_drop]; omega
                refine wpAnyH_ready (rs := [12]) (by kernel_rfl) (by simp) ?_
                refine AllReadyH.cons (o := { dst := (Option.some 102), op := Op.call { callee := Callee.builtin Builtin.append, args := #[Operand.tmp 90, Operand.tmp 101], argTypes := #[23, 23] }, type := 23, pos := "outright.go:178", after := #[{ on := 0, ground := Ground.data }, { on := 11, ground := Ground.data }], guard := Option.none }) rfl (fun K hK => ?_) AllReadyH.nil
                refine wp_append_own _ (.tmp 90) (.tmp 101) 23 rfl w.heap.size 42 i0 _ 20 176 Tryz.underlying23 hi0 hz0 hz1 hz2 rfl (by decide) (.slice (some ⟨wr.heap.size, 0, none⟩) 0 0) 0 [] rfl ⟨rfl, .inr ⟨wr.heap.size, 0, #[], rfl, hB.size, heap_alloc_new wr _, Nat.le_refl _, by unfold maxLen; omega, rfl, rfl⟩⟩ ⟨gN, q * 20, none⟩ (q2 - q) (cap - q) (ndRow ((row.drop q).take (q2 - q))) rfl (by rw [ndRow_length, hsub]) (fun jj u hu => by
                  have := hNcell (q * 20 + jj) u (ndRow_sub (by omega) hu)
                  rw [Addr.add_mid]
                  exact cell_below hBa this) (ndRow_ones _) (by unfold maxLen; omega) (by omega) (by show w.heap.size ≤ (wr.alloc (.cells #[] 42)).heap.size; simp only [World.size_alloc]; have := hB.size; omega) ?_
                intro v5 w5 own5 hg5 _
                have hbw : Below wr.heap.size wr w5 := hBa.grown hg5 (by show wr.heap.size ≤ (wr.alloc (.cells #[] 42)).heap.size; simp only [World.size_alloc]; omega) (fun k e => by simp [Value.ownBlock] at e; omega)
                have own5' : OwnN w5 w.heap.size v5 ((row.drop q).take (q2 - q)) := by
                  unfold OwnN
                  rw [hsub]
                  rw [Nat.zero_add, List.nil_append] at own5
                  exact own5
                have hB5 := below_end hB hbw
                obtain ⟨av5, cap5, rfl, hrd5⟩ := own5'.form
                have CK := check_any av5 cap5 _ w5 (by rw [hsub]; omega) (fun x hx => HFit.out x (List.mem_of_mem_drop (List.mem_of_mem_take hx))) (hE.below hB5).1 hrd5
                rw [HCk2.out, hsub] at CK
                rw [hsub]
                refine hK.out _ _ ⟨cell_below hbw HC.out, cell_below hbw HC1.out⟩ (fun hHeld => ?_)
                clear hK K own5 hg5 hBa own5' hrd5 hNcell
                try simp only [Act.put, List.setIfInBounds_toArray, List.set_cons_zero, List.set_cons_succ]
                refine wpAnyH_ready (rs := [13]) (by kernel_rfl) (by simp) ?_
                refine AllReadyH.cons (o := { dst := (Option.some 103), op := Op.call { callee := Callee.value (Operand.func 15), args := #[Operand.tmp 102], argTypes := #[23] }, type := 24, pos := "outright.go:178", after := #[{ on := 12, ground := Ground.data }, { on := 12, ground := Ground.chain }], guard := Option.none }) rfl (fun K hK => ?_) AllReadyH.nil
                go_simp
                refine CK.mono ?_
                rintro e w6 ⟨rfl, hb6⟩
                have hbw6 : Below wr.heap.size wr w6 := below_end hbw hb6
                go_wp2_with fail
                refine hK.out _ _ ⟨cell_below hbw6 HC.out, cell_below hbw6 HC1.out⟩ (fun hHeld => ?_)
                clear hK K CK
                try simp only [Act.put, List.setIfInBounds_toArray, List.set_cons_zero, List.set_cons_succ]
                refine wpAnyH_take (i := 14) (oi := { dst := (Option.some 104), op := Op.binOp BinOp.neq 24 (Operand.tmp 103) (Operand.const (Value.int IntKind.i64 0)) 24, type := 4, pos := "outright.go:178", after := #[{ on := 13, ground := Ground.data }], guard := Option.none }) (v := ?_) rfl (by kernel_rfl) (by kernel_rfl) (by kernel_rfl) (fun _ _ _ h => h) (Or.inl ⟨by rfl, ?_⟩) (by assumption) ?_
                rotate_left
                · intro w hSw
                  (try dsimp only at hSw)
                  go_simp
                  try with_reducible rfl
                try simp only [Act.put, List.setIfInBounds_toArray, List.set_cons_zero, List.set_cons_succ]
                refine wpAnyH_done (by kernel_rfl) ?_ _
                have K1 : Hid (OwnI w6 w.heap.size (.slice (some ⟨g, 0, none⟩) n cap9) ks) := OwnI.below H1.out hbw6
                have K2 : Hid (OwnN w6 w.heap.size (.slice (some ⟨gN, 0, none⟩) row.length cap) row) := OwnN.below H2.out hbw6
                have hB6 := below_end hB hbw6
                clear H1 H2 HC HC1 hHeld hbw hbw6 hb6 hB5
                go_wp2_with fail
                go_roundg (n - (j + 1))
                case rel => exact ⟨j + 1, by simp, rfl, by omega, K1, K2, hB6⟩
                case measure => omega
              · have hli2 : ¬ (j : Int) + 1 < (n : Int) := by omega
                have hjn : (j : Int) ≤ 30 := by omega
                go_wp2
                go_ret
                exact ⟨rfl, hB⟩
end Go.Proofs.YtegojlnbjmomeabGreatDoor
