/- PlaceHold: a hull has all the cells, and is the least that has them. -/

import Derived.Test.YtdjhegmkmopnfabDoorPWalkV
import Derived.Test.YtdjhegmkmopnfabDoorPAppendB
import Derived.Test.YtdjhegmkmopnfabDoorPPlainD
import Derived.Test.YtdjhegmkmopnfabDoorPWalkM
import Derived.Test.YtdjhegmkmopnfabDoorPWalkF
namespace Go.Proofs.YtdjhegmkmopnfabDoor
open Go.RowKit
set_option linter.unusedVariables false

theorem infoCell : (Tryd.prog.info? 23).map (fun i => (i.zero, i.size, i.bytes)) = some (some (.agg #[.int .i64 0, .int .i64 0, .int .i64 0]), 3, 24) := by kernel_rfl
theorem x3_own_empty (w : World) (base : Nat) (hb : base ≤ w.heap.size) : (w.alloc (.cells #[] 23)).ownsRow base 23 3 (.slice (some ⟨w.heap.size, 0, none⟩) 0 0) 0 [] :=
  World.ownsRow_lit w #[] 0 hb (Nat.zero_le _) rfl
theorem slice_not_nil (a : Addr) (n c : Nat) : Value.slice (some a) n c ≠ Value.slice none 0 0 := by intro h; cases h
abbrev HoS (k bb o : Nat) (v0 v1 v2 v3 v4 f0 f1 f2 : Int) (W : World) : Prop :=
  W.cell? ⟨k, 0, none⟩ = some (.int .i64 v0) ∧ W.cell? ⟨k, 1, none⟩ = some (.int .i64 v1) ∧ W.cell? ⟨k, 2, none⟩ = some (.int .i64 v2) ∧ W.cell? ⟨k, 3, none⟩ = some (.int .i64 v3) ∧ W.cell? ⟨k, 4, none⟩ = some (.int .i64 v4) ∧
  W.cell? ⟨bb, o, none⟩ = some (.int .i64 f0) ∧ W.cell? ⟨bb, o + 1, none⟩ = some (.int .i64 f1) ∧ W.cell? ⟨bb, o + 2, none⟩ = some (.int .i64 f2)
theorem HoS_below {k bb o : Nat} {v0 v1 v2 v3 v4 f0 f1 f2 : Int} {W W' : World} (hb : Below W.heap.size W W') (h : HoS k bb o v0 v1 v2 v3 v4 f0 f1 f2 W) : HoS k bb o v0 v1 v2 v3 v4 f0 f1 f2 W' :=
  ⟨cell_below hb h.1, cell_below hb h.2.1, cell_below hb h.2.2.1, cell_below hb h.2.2.2.1, cell_below hb h.2.2.2.2.1, cell_below hb h.2.2.2.2.2.1, cell_below hb h.2.2.2.2.2.2.1, cell_below hb h.2.2.2.2.2.2.2⟩
theorem HoS_drew {k bb o : Nat} {v0 v1 v2 v3 v4 f0 f1 f2 : Int} {W : World} (h : HoS k bb o v0 v1 v2 v3 v4 f0 f1 f2 W) : HoS k bb o v0 v1 v2 v3 v4 f0 f1 f2 W.drew := HoS_below (Below.refl _ _).drew h

set_option maxRecDepth 100000 in
set_option maxHeartbeats 6400000 in
theorem hold_main (av : Option Addr) (len cap : Nat) (F : Nat → Wpl.Cl) (s t l b r : Int) (w : World) (hlen : len ≤ 5864062014634) (hno : av = none → len = 0 ∧ cap = 0) (hc : Hid (Row3 w av len F)) :
    Calls Tryd.prog 6 #[.slice av len cap, .agg #[.int .i64 s, .int .i64 t, .int .i64 l, .int .i64 b, .int .i64 r]] w fun e w' => e = .returned (.bool true) ∧ Below w.heap.size w w' := by
  obtain ⟨i0, hi, hz0, hz1, hz2⟩ := info_parts infoCell
  have HR := fun cap2 k w h1 h2 h3 => hull_row (some ⟨k, 0, none⟩) len cap2 F w (by omega) h1 h2 h3
  have P1 : Hid (Wpl.hullOk F len = true → ∀ m, m < len → Wpl.hasR (Wpl.hullV F len) (F m).s (F m).r (F m).c = true) := fun h m hm => Wpl.hull_has h hm
  have P2 : Hid (Wpl.hullOk F len = true → (∀ m, m < len → Wpl.hasR ⟨s, t, l, b, r⟩ (F m).s (F m).r (F m).c = true) → Wpl.meetOk (Wpl.hullV F len) ⟨s, t, l, b, r⟩ = true ∧ Wpl.meetV (Wpl.hullV F len) ⟨s, t, l, b, r⟩ = Wpl.hullV F len) := fun h ha => Wpl.hull_meets h _ ha
  have P3 : Hid (Wpl.hullOk F len = false → Wpl.hullV F len = ⟨0, 0, 0, 0, 0⟩) := fun h => by unfold Wpl.hullV; rw [h]; rfl
  generalize Wpl.hullV F len = V at *
  generalize Wpl.hullOk F len = ok at *
  obtain ⟨v0, v1, v2, v3, v4⟩ := V
  go_enter Tryd.func6, Tryd.ntmps6
  go_wp2_with fail
  refine (x3_able_any _).mono ?_
  rintro e w1 ⟨rfl, hb1⟩
  have pa : AtL w1 w.heap.size [.int .i64 s, .int .i64 t, .int .i64 l, .int .i64 b, .int .i64 r] := AtL.below hb1 (AtL.new0 w _ _)
  have hB1 : Below w.heap.size w w1 := by with_reducible repeat (first | exact Below.refl _ _ | refine x3_below_drewN ?_ _ | refine Below.setCell ?_ (by first | (simp; done) | (simp; omega) | omega) _ | refine Below.drew ?_ | refine x3_below_end ?_ (by assumption) | refine x3_ball ?_ _)
  clear hb1
  have hcA : ∀ ad, av = some ad → ∀ j u, (rowC F len)[j]? = some u → (w1.alloc (.cells #[] 23)).cell? (ad.add j) = some u := by
    intro ad e j u h
    rcases hc.out with h0 | ⟨bb, off, e2, hb, hcc⟩
    · have := (List.getElem?_eq_some_iff.1 h).1
      rw [rowC_length] at this; omega
    · rw [e2] at e
      obtain rfl := Option.some.inj e
      exact rowC_cells (Cells.below hcc hb (x3_ball hB1 _)) j u h
  go_wp2_with (at_builtin; refine wpList_append_full rfl _ _ 48 rfl w1.heap.size 23 i0 (.agg #[.int .i64 0, .int .i64 0, .int .i64 0]) 3 24 Tryd.underlying48 hi hz0 hz1 hz2 rfl (by decide) _ _ _ rfl (slice_not_nil _ _ _) (x3_own_empty w1 _ (Nat.le_refl _)) av len cap (rowC F len) rfl hno (rowC_length F len) hcA rowC_one (by unfold maxLen; omega) (by omega) (by simp) ?_)
  intro v1' w2 hown1 hnn hgrow1
  have hb2 : Below w1.heap.size w1 w2 := ((Below.refl _ w1).alloc (Nat.le_refl _) _).grown hgrow1 (by simp) (fun k hk => Nat.le_of_eq (Option.some.inj hk))
  have hB2 := x3_below_end hB1 hb2
  replace pa := AtL.below hb2 pa
  clear hgrow1 hcA hb2 hB1
  rcases hown1.2 with ⟨hv, hl0⟩ | ⟨kL, cap2, cur, rfl, hk0, -, hk1, hk2, -, -⟩
  · exact absurd hv hnn
  have hkl : kL < w2.heap.size := (hown1.lt kL rfl).2
  have lC : Cells w2 kL 0 len F := rowC_of (ts := []) (fun j hj => by rw [List.append_nil]; exact hown1.cellAt _ (by omega))
  have hk3 : cap2 ≤ 9223372036854775807 := by unfold maxLen at hk2; omega
  clear hk0 hk2 hnn
  have HC := HR cap2 kL w2 (by omega) hk3 (Or.inr ⟨kL, 0, rfl, hkl, lC⟩)
  clear lC hown1 HR
  go_wp2_with fail
  refine HC.mono ?_
  rintro e w3 ⟨rfl, hb3⟩
  replace pa := AtL.below hb3 pa
  have hB3 := x3_below_end hB2 hb3
  clear hb3 hB2 HC hkl hk1 hk3
  cases ok with
  | false =>
    have e := P3.out rfl
    simp only [Wpl.Ar.mk.injEq] at e
    obtain ⟨rfl, rfl, rfl, rfl, rfl⟩ := e
    go_wp2
    go_ret
    exact ⟨rfl, x3_ball hB3 _⟩
  | true =>
    replace P1 : Hid (∀ m, m < len → Wpl.hasA v0 v1 v2 v3 v4 (F m).s (F m).r (F m).c = true) := P1.out rfl
    replace P2 : Hid ((∀ m, m < len → Wpl.hasA s t l b r (F m).s (F m).r (F m).c = true) → Wpl.meetOk ⟨v0, v1, v2, v3, v4⟩ ⟨s, t, l, b, r⟩ = true ∧ Wpl.meetV ⟨v0, v1, v2, v3, v4⟩ ⟨s, t, l, b, r⟩ = ⟨v0, v1, v2, v3, v4⟩) := P2.out rfl
    clear P3
    go_wp2_with fail
    have ph := AtL.new0 w3 25 [.int .i64 v0, .int .i64 v1, .int .i64 v2, .int .i64 v3, .int .i64 v4]
    replace pa := AtL.alloc pa (.cells #[.int .i64 v0, .int .i64 v1, .int .i64 v2, .int .i64 v3, .int .i64 v4] 25)
    have hB4 := x3_ball hB3 (.cells #[.int .i64 v0, .int .i64 v1, .int .i64 v2, .int .i64 v3, .int .i64 v4] 25)
    clear hB3
    generalize w3.heap.size = kh at *
    generalize w3.alloc (.cells #[.int .i64 v0, .int .i64 v1, .int .i64 v2, .int .i64 v3, .int .i64 v4] 25) = w4 at *
    go_loopw [8, 9] (fun a i wr => ∃ (j : Nat) (bl : Bool), j ≤ len ∧ a = .bool bl ∧ i = .int .i64 j ∧ Hid (bl = true → ∀ m, m < j → Wpl.hasA s t l b r (F m).s (F m).r (F m).c = true) ∧ Below w.heap.size w wr ∧ AtL wr w.heap.size [.int .i64 s, .int .i64 t, .int .i64 l, .int .i64 b, .int .i64 r] ∧ AtL wr kh [.int .i64 v0, .int .i64 v1, .int .i64 v2, .int .i64 v3, .int .i64 v4]) (fun _ i _ => len - (intOf i).toNat)
    case atStart => exact ⟨0, true, Nat.zero_le _, rfl, rfl, (fun _ m hm => absurd hm (Nat.not_lt_zero _) : true = true → ∀ m, m < 0 → _), hB4, pa, ph⟩
    case round =>
      clear pa ph hB4
      obtain ⟨j, bl, hj, rfl, rfl, HL, hB, pa, ph⟩ := hrel
      by_cases hlt : j < len
      · obtain ⟨bb, off, rfl, hbb, hcc⟩ : ∃ bb off, av = some ⟨bb, off, none⟩ ∧ bb < w.heap.size ∧ Cells w bb off len F := by
          rcases hc.out with h | h
          · omega
          · exact h
        obtain ⟨x0, x1, x2⟩ := hcc j hlt
        replace x0 := (hB.cell (p := ⟨bb, off + j * 3, none⟩) hbb).trans x0
        replace x1 := (hB.cell (p := ⟨bb, off + j * 3 + 1, none⟩) hbb).trans x1
        replace x2 := (hB.cell (p := ⟨bb, off + j * 3 + 2, none⟩) hbb).trans x2
        have z2 : (j : Int) < (len : Int) := by omega
        have C1 := fun w => has_any v0 v1 v2 v3 v4 (F j).s (F j).r (F j).c w
        rw [P1.out j hlt] at C1
        have C2 := fun w => has_any s t l b r (F j).s (F j).r (F j).c w
        have HJ : Hid (∀ bl' : Bool, (bl' = true → bl = true ∧ Wpl.hasA s t l b r (F j).s (F j).r (F j).c = true) → bl' = true → ∀ m, m < j + 1 → Wpl.hasA s t l b r (F m).s (F m).r (F m).c = true) := fun bl' h e m hm => by
          by_cases em : m = j
          · rw [em]; exact (h e).2
          · exact HL.out (h e).1 m (by omega)
        clear hcc HL
        generalize Wpl.hasA s t l b r (F j).s (F j).r (F j).c = hs at *
        generalize (F j).s = f0 at *
        generalize (F j).r = f1 at *
        generalize (F j).c = f2 at *
        have hS : HoS kh bb (off + j * 3) v0 v1 v2 v3 v4 f0 f1 f2 wr := ⟨ph.f5.1, ph.f5.2.1, ph.f5.2.2.1, ph.f5.2.2.2.1, ph.f5.2.2.2.2, x0, x1, x2⟩
        clear x0 x1 x2
        go_upto_region 11 with fail
        go_cut [39] (fun sc wx => sc = .bool false ∧ HoS kh bb (off + j * 3) v0 v1 v2 v3 v4 f0 f1 f2 wx ∧ Below w.heap.size w wx ∧ AtL wx w.heap.size [.int .i64 s, .int .i64 t, .int .i64 l, .int .i64 b, .int .i64 r] ∧ AtL wx kh [.int .i64 v0, .int .i64 v1, .int .i64 v2, .int .i64 v3, .int .i64 v4])
        case first =>
          clear P1 P2 HJ C2
          go_region_held3 (HoS kh bb (off + j * 3) v0 v1 v2 v3 v4 f0 f1 f2)
            (with_reducible first | exact hS | assumption | exact HoS_drew hS | exact HoS_below hb (by assumption))
            (first
            | (go_at_call 20; refine (C1 _).mono ?_; rintro e w5 ⟨rfl, hb⟩; replace pa := AtL.below hb (AtL.drew pa); replace ph := AtL.below hb (AtL.drew ph); replace hB := x3_below_end hB.drew hb; have hS2 : HoS kh bb (off + j * 3) v0 v1 v2 v3 v4 f0 f1 f2 w5 := HoS_below hb (by assumption)))
          all_goals
            go_wp2_with fail
            go_meet
            case rel => exact ⟨rfl, hS2, hB, pa, ph⟩
        case rest =>
          clear hS pa ph hB C1
          obtain ⟨rfl, hS, hB, pa, ph⟩ := hcut
          have hT : HoS w.heap.size bb (off + j * 3) s t l b r f0 f1 f2 wc := ⟨pa.f5.1, pa.f5.2.1, pa.f5.2.2.1, pa.f5.2.2.2.1, pa.f5.2.2.2.2, hS.2.2.2.2.2.1, hS.2.2.2.2.2.2.1, hS.2.2.2.2.2.2.2⟩
          clear hS
          go_upto_region 13 with fail
          refine last_of fun K9 hK9 => ?_
          go_cut [8] (fun sc wx => sc = .bool (bl && hs) ∧ Below w.heap.size w wx ∧ AtL wx w.heap.size [.int .i64 s, .int .i64 t, .int .i64 l, .int .i64 b, .int .i64 r] ∧ AtL wx kh [.int .i64 v0, .int .i64 v1, .int .i64 v2, .int .i64 v3, .int .i64 v4])
          case first =>
            clear P1 P2 HJ
            cases bl with
            | false =>
              refine wp_region_held_drew (S := (HoS w.heap.size bb (off + j * 3) s t l b r f0 f1 f2)) (by kernel_rfl) (HoS_drew hT) (fun hHeld => ?_)
              refine wpAnyH_take (i := 0) (oi := { dst := Option.some 40, op := Op.move (Operand.tmp 8), type := 4, pos := "outright.go:93", after := #[], guard := Option.none }) (v := ?_) rfl (by kernel_rfl) (by kernel_rfl) (by kernel_rfl) (fun _ _ _ h => h) (Or.inl ⟨by rfl, ?_⟩) (by assumption) ?_
              rotate_left
              · intro w hSw
                (try dsimp only at hSw)
                go_simp
                try with_reducible rfl
              try simp only [Act.put, List.setIfInBounds_toArray, List.set_cons_zero, List.set_cons_succ]
              refine wpAnyH_take (i := 1) (oi := { dst := Option.some 41, op := Op.move (Operand.tmp 40), type := 4, pos := "outright.go:93", after := #[{ on := 0, ground := Ground.data }], guard := Option.none }) (v := ?_) rfl (by kernel_rfl) (by kernel_rfl) (by kernel_rfl) (fun _ _ _ h => h) (Or.inl ⟨by rfl, ?_⟩) (by assumption) ?_
              rotate_left
              · intro w hSw
                (try dsimp only at hSw)
                go_simp
                try with_reducible rfl
              try simp only [Act.put, List.setIfInBounds_toArray, List.set_cons_zero, List.set_cons_succ]
              refine wpAnyH_take (i := 2) (oi := { dst := Option.some 42, op := Op.load 25 (Operand.tmp 3), type := 25, pos := "outright.go:93", after := #[{ on := 1, ground := Ground.guard }], guard := Option.some (1, Bool.true) }) (v := undef) rfl (by kernel_rfl) (by kernel_rfl) (by kernel_rfl) (fun _ _ _ h => h) (Or.inr ⟨by rfl, rfl⟩) (by assumption) ?_
              try simp only [Act.put, List.setIfInBounds_toArray, List.set_cons_zero, List.set_cons_succ]
              refine wpAnyH_take (i := 3) (oi := { dst := Option.some 43, op := Op.move (Operand.tmp 0), type := 48, pos := "outright.go:93", after := #[{ on := 1, ground := Ground.guard }], guard := Option.some (1, Bool.true) }) (v := undef) rfl (by kernel_rfl) (by kernel_rfl) (by kernel_rfl) (fun _ _ _ h => h) (Or.inr ⟨by rfl, rfl⟩) (by assumption) ?_
              try simp only [Act.put, List.setIfInBounds_toArray, List.set_cons_zero, List.set_cons_succ]
              refine wpAnyH_take (i := 4) (oi := { dst := Option.some 44, op := Op.move (Operand.tmp 9), type := 3, pos := "outright.go:93", after := #[{ on := 1, ground := Ground.guard }], guard := Option.some (1, Bool.true) }) (v := undef) rfl (by kernel_rfl) (by kernel_rfl) (by kernel_rfl) (fun _ _ _ h => h) (Or.inr ⟨by rfl, rfl⟩) (by assumption) ?_
              try simp only [Act.put, List.setIfInBounds_toArray, List.set_cons_zero, List.set_cons_succ]
              refine wpAnyH_take (i := 5) (oi := { dst := Option.some 45, op := Op.indexAddr 48 (Operand.tmp 43) (Operand.tmp 44), type := 0, pos := "outright.go:93", after := #[{ on := 3, ground := Ground.data }, { on := 4, ground := Ground.data }, { on := 1, ground := Ground.guard }], guard := Option.some (1, Bool.true) }) (v := undef) rfl (by kernel_rfl) (by kernel_rfl) (by kernel_rfl) (fun _ _ _ h => h) (Or.inr ⟨by rfl, rfl⟩) (by assumption) ?_
              try simp only [Act.put, List.setIfInBounds_toArray, List.set_cons_zero, List.set_cons_succ]
              refine wpAnyH_take (i := 6) (oi := { dst := Option.some 46, op := Op.load 23 (Operand.tmp 45), type := 23, pos := "outright.go:93", after := #[{ on := 5, ground := Ground.data }, { on := 1, ground := Ground.guard }], guard := Option.some (1, Bool.true) }) (v := undef) rfl (by kernel_rfl) (by kernel_rfl) (by kernel_rfl) (fun _ _ _ h => h) (Or.inr ⟨by rfl, rfl⟩) (by assumption) ?_
              try simp only [Act.put, List.setIfInBounds_toArray, List.set_cons_zero, List.set_cons_succ]
              refine wpAnyH_take (i := 7) (oi := { dst := Option.some 47, op := Op.call { callee := Callee.value (Operand.func 20), args := #[Operand.tmp 42, Operand.tmp 46], argTypes := #[25, 23] }, type := 4, pos := "outright.go:93", after := #[{ on := 2, ground := Ground.data }, { on := 6, ground := Ground.data }, { on := 1, ground := Ground.chain }, { on := 1, ground := Ground.guard }], guard := Option.some (1, Bool.true) }) (v := undef) rfl (by kernel_rfl) (by kernel_rfl) (by kernel_rfl) (fun _ _ _ h => h) (Or.inr ⟨by rfl, rfl⟩) (by assumption) ?_
              try simp only [Act.put, List.setIfInBounds_toArray, List.set_cons_zero, List.set_cons_succ]
              refine wpAnyH_take (i := 8) (oi := { dst := Option.some 48, op := Op.pick (Operand.tmp 41) (Operand.tmp 47) (Operand.const (Value.bool Bool.false)), type := 4, pos := "outright.go:93", after := #[{ on := 1, ground := Ground.data }, { on := 7, ground := Ground.data }], guard := Option.none }) (v := ?_) rfl (by kernel_rfl) (by kernel_rfl) (by kernel_rfl) (fun _ _ _ h => h) (Or.inl ⟨by rfl, ?_⟩) (by assumption) ?_
              rotate_left
              · intro w hSw
                (try dsimp only at hSw)
                go_simp
                try with_reducible rfl
              try simp only [Act.put, List.setIfInBounds_toArray, List.set_cons_zero, List.set_cons_succ]
              refine wpAnyH_take (i := 9) (oi := { dst := Option.some 8, op := Op.assign (Operand.tmp 48), type := 4, pos := "outright.go:93", after := #[{ on := 8, ground := Ground.data }, { on := 7, ground := Ground.chain }, { on := 0, ground := Ground.phase }, { on := 1, ground := Ground.phase }, { on := 2, ground := Ground.phase }, { on := 3, ground := Ground.phase }, { on := 4, ground := Ground.phase }, { on := 5, ground := Ground.phase }, { on := 6, ground := Ground.phase }, { on := 7, ground := Ground.phase }, { on := 8, ground := Ground.phase }], guard := Option.none }) (v := ?_) rfl (by kernel_rfl) (by kernel_rfl) (by kernel_rfl) (fun _ _ _ h => h) (Or.inl ⟨by rfl, ?_⟩) (by assumption) ?_
              rotate_left
              · intro w hSw
                (try dsimp only at hSw)
                go_simp
                try with_reducible rfl
              try simp only [Act.put, List.setIfInBounds_toArray, List.set_cons_zero, List.set_cons_succ]
              refine wpAnyH_done (by kernel_rfl) ?_ _
              go_wp2_with fail
              go_meet
              case rel => exact ⟨rfl, hB.drew, AtL.drew pa, AtL.drew ph⟩
            | true =>
              go_region_held3 (HoS w.heap.size bb (off + j * 3) s t l b r f0 f1 f2)
                (with_reducible first | exact hT | assumption | exact HoS_drew hT | exact HoS_below hb (by assumption))
                (first
                | (go_at_call 20; refine (C2 _).mono ?_; rintro e w5 ⟨rfl, hb⟩; replace pa := AtL.below hb (AtL.drew pa); replace ph := AtL.below hb (AtL.drew ph); replace hB := x3_below_end hB.drew hb))
              all_goals
                go_wp2_with fail
                go_meet
                case rel => exact ⟨by simp, hB, pa, ph⟩
          case rest =>
            clear hT hB pa ph
            obtain ⟨rfl, hB, pa, ph⟩ := hcut
            refine hK9 _ _ ?_
            go_wp2_with fail
            go_roundw
            case rel => exact ⟨j + 1, bl && hs, by omega, rfl, by go_num, HJ.out (bl && hs) (fun e => by simpa using e), hB, pa, ph⟩
            case measure => simp [intOf]; omega
      · obtain rfl : j = len := by omega
        have z2 : ¬ (j : Int) < (j : Int) := by omega
        have MM := fun w => meet_any v0 v1 v2 v3 v4 s t l b r w
        obtain ⟨a0, a1, a2, a3, a4⟩ := pa.f5
        obtain ⟨h0, h1, h2, h3, h4⟩ := ph.f5
        cases bl with
        | true =>
          obtain ⟨m1, m2⟩ := P2.out (HL.out rfl)
          rw [m1, m2] at MM
          clear P1 P2 HL m1 m2
          go_wp2_with fail
          refine (MM _).mono ?_
          rintro e w6 ⟨rfl, hb6⟩
          replace ph := AtL.below hb6 ph
          have hB6 := x3_below_end hB hb6
          clear hb6 a0 a1 a2 a3 a4 h0 h1 h2 h3 h4
          obtain ⟨h0, h1, h2, h3, h4⟩ := ph.f5
          have lh := ph.lt
          go_wp2
          go_ret
          exact ⟨by simp, x3_ball hB6 _⟩
        | false =>
          clear P1 P2 HL
          generalize Wpl.meetV ⟨v0, v1, v2, v3, v4⟩ ⟨s, t, l, b, r⟩ = M at *
          generalize Wpl.meetOk ⟨v0, v1, v2, v3, v4⟩ ⟨s, t, l, b, r⟩ = mo at *
          obtain ⟨m0, m1, m2, m3, m4⟩ := M
          go_wp2_with fail
          refine (MM _).mono ?_
          rintro e w6 ⟨rfl, hb6⟩
          have hB6 := x3_below_end hB hb6
          go_wp2
          go_ret
          exact ⟨by simp, x3_ball hB6 _⟩
end Go.Proofs.YtdjhegmkmopnfabDoor
