/- MWalkI, MCelC. -/
import Derived.Test.YtalkiggclckcdaaGreatDoorQ46
import Derived.Laws.AppendOwn
import Derived.Laws.AppendOwnNone
import Derived.Laws.OwnMore
import Derived.BigFrame
namespace Go.Proofs.YtalkiggclckcdaaGreatDoor
open Go.RowKit Go.Shelf
set_option linter.unusedVariables false
theorem strInfo : (Tryz.prog.info? 9).map (fun i => (i.zero, i.size, i.bytes)) = some (some (.string ⟨#[]⟩), 1, 16) := by kernel_rfl
def cpi (l : List UInt8) (r0 c0 : Int) (F : Nat → Wpl.Cl) (i : Nat) : List UInt8 × Int := cpR ((F i).r - r0) ((F i).c - c0) l
def OwnG (w : World) (B : Nat) (v : Value) (n : Nat) (G : Nat → Value) : Prop := w.ownsRow B 9 1 v n ((List.range n).map G)
def FillP (B : Nat) (l : List UInt8) (s0 r0 c0 : Int) (n : Nat) (F : Nat → Wpl.Cl) (e : Ending) (w' : World) : Prop :=
  ((Wpl.rightC s0 r0 c0 && allR F n) = false ∧ e = .returned (.tuple #[.slice none 0 0, .int .i64 110])) ∨
  ((Wpl.rightC s0 r0 c0 && allR F n) = true ∧ ∃ i, i < n ∧ (cpi l r0 c0 F i).2 ≠ 0 ∧ e = .returned (.tuple #[.slice none 0 0, .int .i64 (cpi l r0 c0 F i).2])) ∨
  ((Wpl.rightC s0 r0 c0 && allR F n) = true ∧ (∀ i, i < n → (cpi l r0 c0 F i).2 = 0) ∧ ∃ g, e = .returned (.tuple #[.slice (some ⟨g, 0, none⟩) n n, .int .i64 0]) ∧ ∃ G, OwnG w' B (.slice (some ⟨g, 0, none⟩) n n) n G ∧ ∀ i, i < n → G i = .string ⟨(cpi l r0 c0 F i).1.toArray⟩)
set_option maxRecDepth 100000 in
set_option maxHeartbeats 4000000 in
theorem fill_no (b : ByteArray) (s0 r0 c0 : Int) (av : Option Addr) (n cap : Nat) (F : Nat → Wpl.Cl) (w : World) (hv : CelV w av n F) (hn : True → n ≤ 1000) (h : (Wpl.rightC s0 r0 c0 && allR F n) = false) :
    Calls Tryz.prog 16 #[.string b, .agg #[.int .i64 s0, .int .i64 r0, .int .i64 c0], .slice av n cap] w fun e w' => e = .returned (.tuple #[.slice none 0 0, .int .i64 110]) ∧ Below w.heap.size w w' := by
  have R := fun w => x3_right_any s0 r0 c0 w
  have AL := fun w hv => allr_any av n cap F w hv (fun _ => by have := hn trivial; omega)
  have HV : Hid (CelV w av n F) := hv
  have pA := AtL.new0 w 47 [.int .i64 s0, .int .i64 r0, .int .i64 c0]
  have hB0 := ball (Below.refl _ w) (.cells #[.int .i64 s0, .int .i64 r0, .int .i64 c0] 47)
  obtain ⟨a0, a1, a2, f0, f1, f2⟩ := pA.three
  clear hv
  cases h1 : Wpl.rightC s0 r0 c0 with
  | false =>
    rw [h1] at R
    clear h h1
    go_enter Tryz.func16, Tryz.ntmps16
    go_wp2_with fail
    refine (R _).mono ?_
    rintro e w1 ⟨rfl, hb1⟩
    have hB1 := below_end hB0 hb1
    go_wp2
    go_ret2
    exact ⟨rfl, hB1⟩
  | true =>
    rw [h1] at R h
    rw [Bool.true_and] at h
    rw [h] at AL
    clear h h1
    go_enter Tryz.func16, Tryz.ntmps16
    go_wp2_with fail
    refine (R _).mono ?_
    rintro e w1 ⟨rfl, hb1⟩
    have hB1 := below_end hB0 hb1
    go_wp2_with fail
    refine (AL w1 (HV.out.below hB1)).mono ?_
    rintro e w2 ⟨rfl, hb2⟩
    have hB2 := below_end hB1 hb2
    go_wp2
    go_ret2
    exact ⟨rfl, hB2⟩
theorem map_set (G : Nat → Value) (n i : Nat) (v : Value) : ((List.range n).map G).set i v = (List.range n).map (fun j => if j = i then v else G j) := by
  apply List.ext_getElem?
  intro j
  rw [List.getElem?_set]
  by_cases hj : i = j
  · subst hj
    simp only [if_true, List.length_map, List.length_range, List.getElem?_map]
    by_cases hl : i < n
    · rw [if_pos hl, List.getElem?_range hl]; simp
    · rw [if_neg hl, List.getElem?_eq_none (by simp; omega)]; rfl
  · rw [if_neg hj, List.getElem?_map, List.getElem?_map]
    by_cases hl : j < n
    · rw [List.getElem?_range hl]
      simp only [Option.map_some]
      rw [if_neg (fun e => hj e.symm)]
    · rw [List.getElem?_eq_none (by simp; omega)]; rfl
theorem made_map (z : Array Value) (n : Nat) : (madeCells z n).toList = (List.range n).map (fun i => z[i % z.size]!) := by simp [madeCells]
set_option maxRecDepth 100000 in
set_option maxHeartbeats 8000000 in
theorem fill_ok (b : ByteArray) (s0 r0 c0 : Int) (av : Option Addr) (n cap : Nat) (F : Nat → Wpl.Cl) (w : World) (hE : Env w) (hk8 : 8 ≤ w.heap.size) (hs : b.size ≤ 9223372036854775807) (hv : CelV w av n F) (hn : True → n ≤ 1000) (h1 : Wpl.rightC s0 r0 c0 = true) (h2 : allR F n = true) :
    Calls Tryz.prog 16 #[.string b, .agg #[.int .i64 s0, .int .i64 r0, .int .i64 c0], .slice av n cap] w fun e w' => FillP w.heap.size b.data.toList s0 r0 c0 n F e w' ∧ Below w.heap.size w w' := by
  have R := fun w => x3_right_any s0 r0 c0 w
  rw [h1] at R
  have AL := fun w hv => allr_any av n cap F w hv (fun _ => by have := hn trivial; omega)
  rw [h2] at AL
  have CP := fun x y w hE hk8 => copy_any b x y w hE hk8 hs
  have HV : Hid (CelV w av n F) := hv
  have hr0 := Wpl.rightC_iff.1 h1
  have HF : Hid (∀ j, j < n → rgt (F j) = true) := allR_iff.1 h2
  have HP : Hid ((Wpl.rightC s0 r0 c0 && allR F n) = true) := by show _ = _; rw [h1, h2]; rfl
  have pA := AtL.new0 w 47 [.int .i64 s0, .int .i64 r0, .int .i64 c0]
  have hB0 := ball (Below.refl _ w) (.cells #[.int .i64 s0, .int .i64 r0, .int .i64 c0] 47)
  obtain ⟨a0, a1, a2, f0, f1, f2⟩ := pA.three
  obtain ⟨i0, hi0, hz0, hz1, hz2⟩ := info_parts strInfo
  clear hv h1 h2 hs
  go_enter Tryz.func16, Tryz.ntmps16
  go_wp2_with fail
  refine (R _).mono ?_
  rintro e w1 ⟨rfl, hb1⟩
  have hB1 := below_end hB0 hb1
  have pA1 := AtL.below hb1 pA
  clear a0 a1 a2 f0 f1 f2 pA hB0 hb1 R
  go_wp2_with fail
  refine (AL w1 (HV.out.below hB1)).mono ?_
  rintro e w2 ⟨rfl, hb2⟩
  have hB2 := below_end hB1 hb2
  have pA2 := AtL.below hb2 pA1
  clear AL hB1 hb2 pA1
  go_wp2_with (refine wpList_make_full w2 rfl (.tmp 22) (.tmp 22) 49 rfl w2.heap.size 9 i0 _ 1 Tryz.underlying49 hi0 hz0 hz1 .i64 .i64 _ _ n rfl rfl rfl rfl (by rw [hz2]; have := hn trivial; omega) (by have := hn trivial; unfold maxLen; omega) (Nat.le_refl _) ?_)
  intro w3 own3 hg3
  have hb3 : Below w2.heap.size w2 w3 := ⟨hg3.os, hg3.tape, hg3.output, hg3.size, fun k hk => hg3.block k hk (by simp)⟩
  have hB3 := below_end hB2 hb3
  have pA3 := AtL.below hb3 pA2
  have hlt2 := pA2.lt
  rw [made_map] at own3
  have HO0 : Hid (∃ G, OwnG w3 w2.heap.size (.slice (some ⟨w2.heap.size, 0, none⟩) n n) n G ∧ ∀ j, j < 0 → G j = .string ⟨(cpi b.data.toList r0 c0 F j).1.toArray⟩) := ⟨_, own3, fun j hj => absurd hj (Nat.not_lt_zero _)⟩
  clear own3 hg3 hb3 hB2 pA2 hi0 hz0 hz1 hz2 i0
  generalize w2.heap.size = g at *
  go_upto_region 5 with fail
  go_loopg [26] n (fun gk v wr => ∃ i : Nat, v = .int .i64 i ∧ gk = n - i ∧ i ≤ n ∧ Hid (∃ G, OwnG wr g (.slice (some ⟨g, 0, none⟩) n n) n G ∧ ∀ j, j < i → G j = .string ⟨(cpi b.data.toList r0 c0 F j).1.toArray⟩) ∧ Hid (∀ j, j < i → (cpi b.data.toList r0 c0 F j).2 = 0) ∧ AtL wr w.heap.size [.int .i64 s0, .int .i64 r0, .int .i64 c0] ∧ Hid (Below w.heap.size w wr))
  case atStart => exact ⟨0, rfl, rfl, Nat.zero_le _, HO0, (fun _ h => absurd h (Nat.not_lt_zero _)), pA3, hB3⟩
  case round =>
    clear HO0 pA3 hB3
    obtain ⟨i, rfl, hg, hi, HO, HK, pA, HB⟩ := hrel
    by_cases hlt : i < n
    · have hli : (i : Int) < (n : Int) := by omega
      have hi0 : (0 : Int) ≤ (i : Int) := by omega
      have hwi : IntKind.i64.wrap ((i : Int) + 1) = (i : Int) + 1 := by rw [IntKind.wrap_i64]; have := hn trivial; omega
      obtain ⟨bb, off, rfl, c0', c1, c2⟩ := HV.out.below HB.out i hlt
      have hri := HF.out i hlt
      unfold rgt at hri
      rw [Wpl.rightC_iff] at hri
      have hw1 : IntKind.i64.wrap ((F i).r - r0) = (F i).r - r0 := by rw [IntKind.wrap_i64]; omega
      have hw2 : IntKind.i64.wrap ((F i).c - c0) = (F i).c - c0 := by rw [IntKind.wrap_i64]; omega
      have hB1 := ball HB.out (.cells #[.int .i64 (F i).s, .int .i64 (F i).r, .int .i64 (F i).c] 47)
      have pA1 := pA.alloc (.cells #[.int .i64 (F i).s, .int .i64 (F i).r, .int .i64 (F i).c] 47)
      have hEr := hE.below hB1
      have hk8r := Nat.le_trans hk8 hB1.size
      have C := CP ((F i).r - r0) ((F i).c - c0) _ hEr hk8r
      obtain ⟨a0, a1, a2, f0, f1, f2⟩ := pA1.three
      have HO1 : Hid (∃ G, OwnG (wr.alloc (.cells #[.int .i64 (F i).s, .int .i64 (F i).r, .int .i64 (F i).c] 47)) g (.slice (some ⟨g, 0, none⟩) n n) n G ∧ ∀ j, j < i → G j = .string ⟨(cpi b.data.toList r0 c0 F j).1.toArray⟩) := by
        obtain ⟨G, h1, h2⟩ := HO.out
        exact ⟨G, World.ownsRow.alloc h1 _, h2⟩
      obtain ⟨Q, hQ⟩ : ∃ Q, cpR ((F i).r - r0) ((F i).c - c0) b.data.toList = Q := ⟨_, rfl⟩
      rw [hQ] at C
      have HQ : Hid (cpi b.data.toList r0 c0 F i = Q) := hQ
      clear hQ hri hEr hk8r HO HB
      go_wp2_with fail
      refine C.mono ?_
      rintro e w4 ⟨rfl, hb4⟩
      have hB4 := below_end hB1 hb4
      have pA4 := AtL.below hb4 pA1
      obtain ⟨G, hG, hGj⟩ := HO1.out
      have hG4 : OwnG w4 g (.slice (some ⟨g, 0, none⟩) n n) n G := World.ownsRow.kept (row := none) hG ⟨hb4.os, hb4.tape, hb4.output, hb4.size, fun k hk _ => hb4.block k hk⟩ (Or.inr (by simp [Value.ownBlock]))
      clear C a0 a1 a2 f0 f1 f2 c0' c1 c2 hb4 pA1 hB1 HO1 hG hw1 hw2 pA
      obtain ⟨q1, q2⟩ := Q
      simp only
      by_cases hq2 : q2 = 0
      · subst hq2
        have hcell : w4.cell? ⟨g, i, none⟩ = some (G i) := by
          rw [World.ownsRow.cellAt hG4 i (by omega), List.getElem?_map, List.getElem?_range hlt]; rfl
        have hfro : w4.frozen? ⟨g, i, none⟩ = false := World.ownsRow.frozenAt hG4 i
        have st := (World.ownsRow.stored hG4 i (.string ⟨q1.toArray⟩)).1
        rw [map_set] at st
        have hgg : w.heap.size ≤ g := by omega
        have HO5 : Hid (∃ G, OwnG (w4.setCell ⟨g, i, none⟩ (.string ⟨q1.toArray⟩)) g (.slice (some ⟨g, 0, none⟩) n n) n G ∧ ∀ j, j < i + 1 → G j = .string ⟨(cpi b.data.toList r0 c0 F j).1.toArray⟩) := by
          refine ⟨_, st, fun j hj => ?_⟩
          by_cases hji : j = i
          · subst hji
            simp only [if_true]
            rw [HQ.out]
          · simp only [if_neg hji]
            exact hGj j (by omega)
        have HK5 : Hid (∀ j, j < i + 1 → (cpi b.data.toList r0 c0 F j).2 = 0) := by
          intro j hj
          by_cases hji : j = i
          · subst hji; rw [HQ.out]
          · exact HK.out j (by omega)
        have pA5 := pA4.far (j := g) (by omega) i (.string ⟨q1.toArray⟩)
        have hB5 : Hid (Below w.heap.size w (w4.setCell ⟨g, i, none⟩ (.string ⟨q1.toArray⟩))) := hB4.setCell (p := ⟨g, i, none⟩) hgg _
        generalize G i = gi at hcell
        clear st hG4 hGj HK HQ hB4 pA4
        go_wp2_with fail
        go_roundg (n - (i + 1))
        case rel => exact ⟨i + 1, by simp, rfl, by omega, HO5, HK5, pA5, hB5⟩
        case measure => omega
      · have hqb : (q2 != 0) = true := by simp [hq2]
        clear hG4 hGj HK pA4
        go_wp2
        go_ret2
        refine ⟨Or.inr (Or.inl ⟨HP.out, i, hlt, by rw [HQ.out]; exact hq2, ?_⟩), hB4⟩
        rw [HQ.out]
        rfl
    · have hli : ¬ (i : Int) < (n : Int) := by omega
      have HBB := HB.out
      have HK2 : Hid (∀ j, j < n → (cpi b.data.toList r0 c0 F j).2 = 0) := fun j hj => HK.out j (by omega)
      have HO2 : Hid (∃ G, OwnG wr w.heap.size (.slice (some ⟨g, 0, none⟩) n n) n G ∧ ∀ j, j < n → G j = .string ⟨(cpi b.data.toList r0 c0 F j).1.toArray⟩) := by
        obtain ⟨G, h1, h2⟩ := HO.out
        exact ⟨G, ⟨h1.1, h1.2.imp id fun ⟨g', cap', cur, a, b, c⟩ => ⟨g', cap', cur, a, by omega, c⟩⟩, fun j hj => h2 j (by omega)⟩
      clear HO HK HB pA
      go_wp2
      go_ret2
      exact ⟨Or.inr (Or.inr ⟨HP.out, HK2.out, g, rfl, HO2.out⟩), HBB⟩
theorem cellInfo : (Tryz.prog.info? 47).map (fun i => (i.zero, i.size, i.bytes)) = some (some (.agg #[.int .i64 0, .int .i64 0, .int .i64 0]), 3, 24) := by kernel_rfl
theorem CelV.flat {w : World} {av : Option Addr} {n : Nat} {F : Nat → Wpl.Cl} (h : CelV w av n F) : ∀ ad, av = some ad → ∀ j u, (rowC F n)[j]? = some u → w.cell? (ad.add j) = some u := by
  intro ad had j u hu
  have hj : j < n * 3 := by
    have := (List.getElem?_eq_some_iff.1 hu).1
    rw [rowC_length] at this; exact this
  obtain ⟨bb, off, e, h0, h1, h2⟩ := h (j / 3) (by omega)
  rw [had] at e
  obtain rfl := Option.some.inj e
  rw [rowC_get hj] at hu
  obtain rfl := Option.some.inj hu
  rw [Addr.add_mid]
  have hm : j % 3 = 0 ∨ j % 3 = 1 ∨ j % 3 = 2 := by omega
  rcases hm with hm | hm | hm
  · rw [hm, show off + j = off + j / 3 * 3 by omega]; exact h0
  · rw [hm, show off + j = off + j / 3 * 3 + 1 by omega]; exact h1
  · rw [hm, show off + j = off + j / 3 * 3 + 2 by omega]; exact h2
theorem CelV.of {w : World} {B : Nat} {v : Value} {n : Nat} {F : Nat → Wpl.Cl} (h : w.ownsRow B 47 3 v n (rowC F n)) : ∃ av cap, v = .slice av n cap ∧ CelV w av n F := by
  have hd := h
  rcases h.2 with ⟨rfl, h0⟩ | ⟨g, cap, cur, rfl, hB, hc, _⟩
  · subst h0
    exact ⟨none, 0, rfl, fun j hj => absurd hj (Nat.not_lt_zero _)⟩
  · refine ⟨_, cap, rfl, fun j hj => ⟨g, 0, rfl, ?_⟩⟩
    have k0 := World.ownsRow.cellAt hd (j * 3) (by omega)
    have k1 := World.ownsRow.cellAt hd (j * 3 + 1) (by omega)
    have k2 := World.ownsRow.cellAt hd (j * 3 + 2) (by omega)
    rw [rowC_get (by omega)] at k0 k1 k2
    rw [show j * 3 / 3 = j by omega, show j * 3 % 3 = 0 by omega] at k0
    rw [show (j * 3 + 1) / 3 = j by omega, show (j * 3 + 1) % 3 = 1 by omega] at k1
    rw [show (j * 3 + 2) / 3 = j by omega, show (j * 3 + 2) % 3 = 2 by omega] at k2
    simp only [Nat.zero_add]
    exact ⟨k0, k1, k2⟩
theorem wp_copyC {o : Oper} {a : Act} {K : Act → World → Prop} {Q : Exit → Act → World → Prop} (s x : Operand) (ho : o.op = .call { callee := .builtin .append, args := #[s, x], argTypes := #[48, 48] })
    (w : World) (hs : a.eval s = .slice (some ⟨w.heap.size, 0, none⟩) 0 0) (av : Option Addr) (n cap : Nat) (F : Nat → Wpl.Cl) (hx : a.eval x = .slice av n cap) (hr : CelV w av n F) (hno : av = none → n = 0 ∧ cap = 0) (hl : True → n ≤ 1000)
    (h : ∀ av' cap' w', CelV w' av' n F → Below w.heap.size w w' → K (a.put o.dst (.slice av' n cap')) w') : o.wp Tryz.prog a (w.alloc (.cells #[] 47)) K Q := by
  obtain ⟨i0, hi0, hz0, hz1, hz2⟩ := info_parts cellInfo
  have hl := hl trivial
  have hBa := ball (Below.refl _ w) (.cells #[] 47)
  have hown : (w.alloc (.cells #[] 47)).ownsRow w.heap.size 47 3 (.slice (some ⟨w.heap.size, 0, none⟩) 0 0) 0 [] := ⟨rfl, .inr ⟨w.heap.size, 0, #[], rfl, Nat.le_refl _, heap_alloc_new w _, Nat.le_refl _, by unfold maxLen; omega, rfl, rfl⟩⟩
  cases av with
  | some ad =>
    refine wp_append_own _ s x 48 ho w.heap.size 47 i0 _ 3 24 Tryz.underlying48 hi0 hz0 hz1 hz2 rfl (by decide) _ 0 [] hs hown ad n cap (rowC F n) hx (rowC_length F n) ((hr.below hBa).flat ad rfl) rowC_one (by unfold maxLen; omega) (by omega) (by simp only [World.size_alloc]; omega) ?_
    intro v' w' own hg _
    rw [Nat.zero_add, List.nil_append] at own
    obtain ⟨av', cap', rfl, hc⟩ := CelV.of own
    exact h av' cap' w' hc (hBa.grown hg (by simp only [World.size_alloc]; omega) (fun k e => by simp [Value.ownBlock] at e; omega))
  | none =>
    obtain ⟨rfl, rfl⟩ := hno rfl
    have hrun := run_append_owned_none (P := Tryz.prog) (w := w.alloc (.cells #[] 47)) w.heap.size 48 o.type 47 i0 3 Tryz.underlying48 hi0 _ 0 [] hown
    unfold Oper.wp
    simp only [execOp, ho, resolve, invoke, builtin, Sem.run_bind, Sem.run_pure, Result.andThen_ok, List.map_toArray, List.map_cons, List.map_nil, hs, hx, hrun]
    exact h _ _ _ (fun j hj => absurd hj (Nat.not_lt_zero _)) hBa
end Go.Proofs.YtalkiggclckcdaaGreatDoor
