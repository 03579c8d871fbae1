/- MLawEach. -/
import Derived.Test.YtalkiggclckcdaaGreatDoorQ47
import Derived.Deep.RegionHeld3
import Derived.Deep.MidRow
import Derived.Deep.LoopGhost
namespace Go.Proofs.YtalkiggclckcdaaGreatDoor
open Go.RowKit Go.Shelf
set_option linter.unusedVariables false
def FillQ (B : Nat) (l : List UInt8) (s0 r0 c0 : Int) (n : Nat) (F : Nat → Wpl.Cl) (v : Value) (c : Int) (w' : World) : Prop :=
  (v = .slice none 0 0 ∧ c = 110) ∨ (v = .slice none 0 0 ∧ 0 < n ∧ c ≠ 0 ∧ ((cpR 0 0 l).2 ≠ 0 ∨ c = 2)) ∨
  (c = 0 ∧ (0 ≤ r0 ∧ r0 < 65536 ∧ 0 ≤ c0 ∧ c0 < 256) ∧ (∀ i, i < n → (0 ≤ (F i).r ∧ (F i).r < 65536 ∧ 0 ≤ (F i).c ∧ (F i).c < 256)) ∧ (∀ i, i < n → (cpi l r0 c0 F i).2 = 0) ∧ ∃ g, v = .slice (some ⟨g, 0, none⟩) n n ∧ B ≤ g ∧ ∀ i, i < n → w'.cell? ⟨g, i, none⟩ = some (.string ⟨(cpi l r0 c0 F i).1.toArray⟩))
theorem cp_two {x y : Int} {l : List UInt8} (h : (cpR x y l).2 ≠ 0) : (cpR 0 0 l).2 ≠ 0 ∨ (cpR x y l).2 = 2 := by
  unfold cpR at *
  by_cases hh : l.head? = some 61
  · rw [if_pos hh] at h ⊢
    rw [if_pos hh]
    cases hr : prsR l.tail with
    | inr q =>
      obtain ⟨c, p⟩ := q
      rw [hr] at h
      exact Or.inl h
    | inl row =>
      rw [hr] at h
      simp only [cpF] at h ⊢
      right
      unfold cont at h ⊢
      split
      · rfl
      · rename_i h2
        rw [if_neg h2] at h
        exact absurd rfl h
  · rw [if_neg hh] at h
    exact absurd rfl h
theorem FillP.gen {B : Nat} {l : List UInt8} {s0 r0 c0 : Int} {n : Nat} {F : Nat → Wpl.Cl} {e : Ending} {w' : World} (h : FillP B l s0 r0 c0 n F e w') : ∃ v c, e = .returned (.tuple #[v, .int .i64 c]) ∧ FillQ B l s0 r0 c0 n F v c w' := by
  rcases h with ⟨h1, rfl⟩ | ⟨h1, i, hi, hc, rfl⟩ | ⟨h1, h2, g, rfl, G, hG, hs⟩
  · exact ⟨_, _, rfl, Or.inl ⟨rfl, rfl⟩⟩
  · refine ⟨_, _, rfl, Or.inr (Or.inl ⟨rfl, by omega, hc, ?_⟩)⟩
    exact cp_two hc
  · rw [Bool.and_eq_true] at h1
    have q1 := Wpl.rightC_iff.1 h1.1
    have q2 := allR_iff.1 h1.2
    refine ⟨_, _, rfl, Or.inr (Or.inr ⟨rfl, by omega, fun i hi => ?_, h2, g, rfl, ?_, fun i hi => ?_⟩)⟩
    · have := q2 i hi
      unfold rgt at this
      rw [Wpl.rightC_iff] at this
      omega
    · rcases hG.2 with ⟨e, _⟩ | ⟨g', cap, cur, e, hB, _⟩
      · cases e
      · simp only [Value.slice.injEq, Option.some.injEq, Addr.mk.injEq] at e
        rw [e.1.1]; exact hB
    · rw [World.ownsRow.cellAt hG i (by omega), List.getElem?_map, List.getElem?_range hi]
      simp only [Option.map_some]
      rw [hs i hi]
theorem fill_any (b : ByteArray) (s0 r0 c0 : Int) (av : Option Addr) (n cap : Nat) (F : Nat → Wpl.Cl) (w : World) (hE : Env w) (hk8 : 8 ≤ w.heap.size) (hs : b.size ≤ 9223372036854775807) (hv : CelV w av n F) (hn : True → n ≤ 1000) :
    Calls Tryz.prog 16 #[.string b, .agg #[.int .i64 s0, .int .i64 r0, .int .i64 c0], .slice av n cap] w fun e w' => FillP w.heap.size b.data.toList s0 r0 c0 n F e w' ∧ Below w.heap.size w w' := by
  cases h : (Wpl.rightC s0 r0 c0 && allR F n) with
  | false => exact (fill_no b s0 r0 c0 av n cap F w hv hn h).mono fun e w' q => ⟨Or.inl ⟨h, q.1⟩, q.2⟩
  | true =>
    have h2 := h
    rw [Bool.and_eq_true] at h2
    exact fill_ok b s0 r0 c0 av n cap F w hE hk8 hs hv hn h2.1 h2.2
set_option maxRecDepth 100000 in
set_option maxHeartbeats 16000000 in
theorem meach_few (b : ByteArray) (s0 r0 c0 : Int) (av : Option Addr) (n cap : Nat) (F : Nat → Wpl.Cl) (w : World) (hE : Env w) (hk8 : 8 ≤ w.heap.size) (hs : b.size ≤ 9223372036854775807) (hv : CelV w av n F) (hno : av = none → n = 0 ∧ cap = 0) (h500 : n ≤ 500) (hn : True → n ≤ 1000) :
    Calls Tryz.prog 7 #[.string b, .agg #[.int .i64 s0, .int .i64 r0, .int .i64 c0], .slice av n cap] w fun e w' => e = .returned (.bool true) ∧ Below w.heap.size w w' := by
  have pA0 := AtL.new0 w 47 [.int .i64 s0, .int .i64 r0, .int .i64 c0]
  have hB0 := ball (Below.refl _ w) (.cells #[.int .i64 s0, .int .i64 r0, .int .i64 c0] 47)
  have A := mable_any _ (hE.below hB0) (Nat.le_trans hk8 hB0.size)
  have HS : Hid (b.size ≤ 9223372036854775807) := hs
  clear hs
  go_enter Tryz.func7, Tryz.ntmps7
  go_wp2_with fail
  refine A.mono ?_
  rintro e wa ⟨rfl, hb1⟩
  have hBa := below_end hB0 hb1
  have pA := AtL.below hb1 pA0
  have hv1 := hv.below hBa
  clear A hb1 pA0 hB0 hv
  have hli : ¬ (500 : Int) < (n : Int) := by omega
  go_upto_region 5 with fail
  have pD := AtL.drew pA
  have hvD := hv1.below (Below.refl _ wa).drew
  have hBD := hBa.drew
  have hED := hE.below hBD
  have hkD := Nat.le_trans hk8 hBD.size
  refine wp_region_held_drew (S := fun W => W.rangeAt w.heap.size 0 [.int .i64 s0, .int .i64 r0, .int .i64 c0]) (by kernel_rfl) pD.range (fun hHeld => ?_)
  generalize wa.drew = WD at *
  refine wpAnyH_take (i := 0) (oi := { dst := some 20, op := .move (.tmp 0), type := 9, pos := "outright.go:142", after := #[], guard := none }) (v := ?_) rfl (by kernel_rfl) (by kernel_rfl) (by kernel_rfl) (fun _ _ _ h => h) (Or.inl ⟨by rfl, ?_⟩) (by assumption) ?_
  rotate_left; (intro w hSw; (try dsimp only at hSw); go_simp; (try with_reducible rfl)); try simp only [Act.put, lA, lZ, lS]
  refine wpAnyH_take (i := 1) (oi := { dst := some 21, op := .load 47 (.tmp 4), type := 47, pos := "outright.go:142", after := #[], guard := none }) (v := .agg ([.int .i64 s0, .int .i64 r0, .int .i64 c0]).toArray) rfl (by kernel_rfl) (by kernel_rfl) (by kernel_rfl) (fun _ _ _ h => h) (yieldsIf_load_mid (by rfl) 47 (.tmp 4) rfl w.heap.size 0 rfl ([.int .i64 s0, .int .i64 r0, .int .i64 c0]) _ (fun _ h => h) Tryz.underlying47 rfl (by kernel_rfl)) (by assumption) ?_
  try simp only [Act.put, lA, lZ, lS]
  refine wpAnyH_take (i := 3) (oi := { dst := some 23, op := .move (.tmp 2), type := 48, pos := "outright.go:142", after := #[], guard := none }) (v := ?_) rfl (by kernel_rfl) (by kernel_rfl) (by kernel_rfl) (fun _ _ _ h => h) (Or.inl ⟨by rfl, ?_⟩) (by assumption) ?_
  rotate_left; (intro w hSw; (try dsimp only at hSw); go_simp; (try with_reducible rfl)); try simp only [Act.put, lA, lZ, lS]
  refine wpAnyH_ready (rs := [2]) (by kernel_rfl) (by simp) ?_
  refine AllReadyH.cons (o := { dst := some 22, op := .buildSlice 48 0 #[], type := 48, pos := "outright.go:142", after := #[], guard := none }) rfl (fun K hK => ?_) AllReadyH.nil
  go_simp
  refine hK.out _ _ (AtL.range (pD.alloc (.cells #[] 47))) (fun hHeld => ?_)
  clear hK K
  try simp only [Act.put, lA, lZ, lS]
  refine wpAnyH_ready (rs := [4]) (by kernel_rfl) (by simp) ?_
  refine AllReadyH.cons (o := { dst := some 24, op := .call { callee := Callee.builtin Builtin.append, args := #[.tmp 22, .tmp 23], argTypes := #[48, 48] }, type := 48, pos := "outright.go:142", after := #[⟨2, .data⟩, ⟨3, .data⟩], guard := none }) rfl (fun K hK => ?_) AllReadyH.nil
  refine wp_copyC (.tmp 22) (.tmp 23) rfl WD rfl av n cap F rfl hvD hno hn ?_
  intro av' cap' w5 hc5 hb5
  have pD5 := AtL.below hb5 pD
  have hB5 := below_end hBD hb5
  have hv5 := hvD.below hb5
  refine hK.out _ _ pD5.range (fun hHeld => ?_)
  clear hK K hvD hb5 hED hkD hBD pD
  try simp only [Act.put, lA, lZ, lS]
  refine wpAnyH_ready (rs := [5]) (by kernel_rfl) (by simp) ?_
  refine AllReadyH.cons (o := { dst := some 25, op := .call { callee := Callee.value (Operand.func 16), args := #[.tmp 20, .tmp 21, .tmp 24], argTypes := #[9, 47, 48] }, type := 50, pos := "outright.go:142", after := #[⟨0, .data⟩, ⟨1, .data⟩, ⟨4, .data⟩, ⟨4, .chain⟩], guard := none }) rfl (fun K hK => ?_) AllReadyH.nil
  go_simp
  refine (fill_any b s0 r0 c0 av' n cap' F w5 (hE.below hB5) (Nat.le_trans hk8 hB5.size) HS.out hc5 hn).mono ?_
  rintro e w6 ⟨hp6, hb6⟩
  obtain ⟨vl, cl, rfl, hq6⟩ := FillP.gen hp6
  have pD6 := AtL.below hb6 pD5
  have hB6 := below_end hB5 hb6
  have hv6 := hv5.below hb6
  have HQ6 : Hid (FillQ w5.heap.size b.data.toList s0 r0 c0 n F vl cl w6) := hq6
  have hs56 : w.heap.size ≤ w5.heap.size := hB5.size
  clear hp6 hq6 hb6 hc5 hv5 hB5 pD5
  go_wp2_with fail
  refine hK.out _ _ pD6.range (fun hHeld => ?_)
  clear hK K
  try simp only [Act.put, lA, lZ, lS]
  refine wpAnyH_take (i := 6) (oi := { dst := some 19, op := .move (.tmp 25), type := 50, pos := "outright.go:142", after := #[⟨5, .data⟩], guard := none }) (v := ?_) rfl (by kernel_rfl) (by kernel_rfl) (by kernel_rfl) (fun _ _ _ h => h) (Or.inl ⟨by rfl, ?_⟩) (by assumption) ?_
  rotate_left; (intro w hSw; (try dsimp only at hSw); go_simp; (try with_reducible rfl)); try simp only [Act.put, lA, lZ, lS]
  refine wpAnyH_take (i := 7) (oi := { dst := some 26, op := .extract (.tmp 19) 0, type := 49, pos := "outright.go:142", after := #[⟨6, .data⟩], guard := none }) (v := ?_) rfl (by kernel_rfl) (by kernel_rfl) (by kernel_rfl) (fun _ _ _ h => h) (Or.inl ⟨by rfl, ?_⟩) (by assumption) ?_
  rotate_left; (intro w hSw; (try dsimp only at hSw); go_simp; (try with_reducible rfl)); try simp only [Act.put, lA, lZ, lS]
  refine wpAnyH_take (i := 8) (oi := { dst := some 27, op := .extract (.tmp 19) 1, type := 24, pos := "outright.go:142", after := #[⟨6, .data⟩, ⟨9, .gcOnly .lateStores⟩], guard := none }) (v := ?_) rfl (by kernel_rfl) (by kernel_rfl) (by kernel_rfl) (fun _ _ _ h => h) (Or.inl ⟨by rfl, ?_⟩) (by assumption) ?_
  rotate_left; (intro w hSw; (try dsimp only at hSw); go_simp; (try with_reducible rfl)); try simp only [Act.put, lA, lZ, lS]
  refine wpAnyH_ready (rs := [9]) (by kernel_rfl) (by simp) ?_
  refine AllReadyH.cons (o := { dst := some 7, op := .assign (.tmp 26), type := 49, pos := "outright.go:142", after := #[⟨7, .data⟩, ⟨5, .chain⟩, ⟨0, .phase⟩, ⟨1, .phase⟩, ⟨2, .phase⟩, ⟨3, .phase⟩, ⟨4, .phase⟩, ⟨5, .phase⟩, ⟨6, .phase⟩, ⟨7, .phase⟩, ⟨8, .textOnly .lateStores⟩], guard := none }) rfl (fun K hK => ?_) AllReadyH.nil
  go_simp
  refine hK.out _ _ pD6.range (fun hHeld => ?_)
  clear hK K
  try simp only [Act.put, lA, lZ, lS]
  refine wpAnyH_ready (rs := [10]) (by kernel_rfl) (by simp) ?_
  refine AllReadyH.cons (o := { dst := some 8, op := .assign (.tmp 27), type := 24, pos := "outright.go:142", after := #[⟨8, .data⟩, ⟨9, .chain⟩, ⟨0, .phase⟩, ⟨1, .phase⟩, ⟨2, .phase⟩, ⟨3, .phase⟩, ⟨4, .phase⟩, ⟨5, .phase⟩, ⟨6, .phase⟩, ⟨7, .phase⟩, ⟨8, .phase⟩, ⟨9, .phase⟩], guard := none }) rfl (fun K hK => ?_) AllReadyH.nil
  go_simp
  refine hK.out _ _ pD6.range (fun hHeld => ?_)
  clear hK K
  try simp only [Act.put, lA, lZ, lS]
  refine wpAnyH_done (by kernel_rfl) ?_ _
  clear hHeld
  rcases HQ6.out with ⟨rfl, rfl⟩ | ⟨rfl, hn0, hc0, h2⟩ | ⟨rfl, hr0, hF, hK, g, rfl, hg, hG⟩
  · clear HQ6
    go_wp2
    go_ret
    exact ⟨by simp, hB6⟩
  · clear HQ6
    have hnn : (0 : Int) < (n : Int) := by omega
    have hcb : (cl != 0) = true := by simp [hc0]
    by_cases h110 : cl = 110
    · subst h110
      go_wp2
      go_ret
      exact ⟨by simp, hB6⟩
    · have h1b : (cl == 110) = false := by simp [h110]
      have C := copy_any b 0 0 w6 (hE.below hB6) (Nat.le_trans hk8 hB6.size) HS.out
      generalize cpR 0 0 b.data.toList = Q at *
      obtain ⟨q1, q2⟩ := Q
      simp only at C h2
      clear h110 hc0 hn0
      go_wp2_with fail
      refine C.mono ?_
      rintro e w7 ⟨rfl, hb7⟩
      have hB7 := below_end hB6 hb7
      by_cases hq : q2 = 0
      · have hq' : (q2 != 0) = false := by simp [hq]
        have h22 : cl = 2 := by rcases h2 with h | h; exact absurd hq h; exact h
        subst h22
        clear h2 hq
        go_wp2
        go_ret
        exact ⟨by simp, hB7⟩
      · have hq' : (q2 != 0) = true := by simp [hq]
        clear h2 hq
        go_wp2
        go_ret
        exact ⟨by simp, hB7⟩
  · have HG : Hid (∀ i, i < n → w6.cell? ⟨g, i, none⟩ = some (.string ⟨(cpi b.data.toList r0 c0 F i).1.toArray⟩)) := hG
    have HKK : Hid (∀ i, i < n → (cpi b.data.toList r0 c0 F i).2 = 0) := hK
    have HFF : Hid (∀ i, i < n → (0 ≤ (F i).r ∧ (F i).r < 65536 ∧ 0 ≤ (F i).c ∧ (F i).c < 256)) := hF
    have HV : Hid (CelV w6 av n F) := hv6
    have HP : Hid (AtL w6 w.heap.size [.int .i64 s0, .int .i64 r0, .int .i64 c0]) := pD6
    clear HQ6 hG hK hF hv6 pD6
    go_upto_region 14 with fail
    go_loopg [11] n (fun gk v wr => ∃ i : Nat, v = .int .i64 i ∧ gk = n - i ∧ i ≤ n ∧ Hid (Below w6.heap.size w6 wr))
    case atStart => exact ⟨0, rfl, rfl, Nat.zero_le _, Below.refl _ _⟩
    case round =>
      obtain ⟨i, rfl, hgk, hi, HB⟩ := hrel
      by_cases hlt : i < n
      · have hli2 : (i : Int) < (n : Int) := by omega
        have hi0 : (0 : Int) ≤ (i : Int) := by omega
        have hwi : IntKind.i64.wrap ((i : Int) + 1) = (i : Int) + 1 := by rw [IntKind.wrap_i64]; have := hn trivial; omega
        have hbd := below_end HB.out (Below.refl _ wr).drew
        obtain ⟨bb, off, e1, k0, k1, k2⟩ := HV.out.below hbd i hlt
        have pW := AtL.below hbd HP.out
        have kd3 : wr.drew.cell? ⟨w.heap.size, 1, none⟩ = some (.int .i64 r0) := pW.2.1 1 _ rfl
        have kd4 : wr.drew.cell? ⟨w.heap.size, 2, none⟩ = some (.int .i64 c0) := pW.2.1 2 _ rfl
        have kd1 := k1
        have kd2 := k2
        have hri := HFF.out i hlt
        have hw1 : IntKind.i64.wrap ((F i).r - r0) = (F i).r - r0 := by rw [IntKind.wrap_i64]; omega
        have hw2 : IntKind.i64.wrap ((F i).c - c0) = (F i).c - c0 := by rw [IntKind.wrap_i64]; omega
        have hBr := below_end hB6 hbd
        have C := copy_any b ((F i).r - r0) ((F i).c - c0) wr.drew (hE.below hBr) (Nat.le_trans hk8 hBr.size) HS.out
        have kg := cell_below hbd (HG.out i hlt)
        have hkz := HKK.out i hlt
        have e2 : cpR ((F i).r - r0) ((F i).c - c0) b.data.toList = cpi b.data.toList r0 c0 F i := rfl
        rw [e2, hkz] at C
        obtain ⟨X, hX⟩ : ∃ X : ByteArray, (⟨(cpi b.data.toList r0 c0 F i).1.toArray⟩ : ByteArray) = X := ⟨_, rfl⟩
        rw [hX] at C kg
        subst e1
        clear hX e2 hkz k0 k1 k2 pW hri HB
        go_upto_region 16 with fail
        refine wp_region_held_drew (S := fun W => W.cell? ⟨bb, off + i * 3 + 1, none⟩ = some (.int .i64 (F i).r) ∧ W.cell? ⟨bb, off + i * 3 + 2, none⟩ = some (.int .i64 (F i).c) ∧ W.cell? ⟨w.heap.size, 1, none⟩ = some (.int .i64 r0) ∧ W.cell? ⟨w.heap.size, 2, none⟩ = some (.int .i64 c0)) (by kernel_rfl) ⟨kd1, kd2, kd3, kd4⟩ (fun hHeld => ?_)
        generalize wr.drew = WD at *
        refine wpAnyH_take (i := 0) (oi := { dst := some 68, op := .move (.tmp 0), type := 9, pos := "outright.go:154", after := #[], guard := none }) (v := ?_) rfl (by kernel_rfl) (by kernel_rfl) (by kernel_rfl) (fun _ _ _ h => h) (Or.inl ⟨by rfl, ?_⟩) (by assumption) ?_
        rotate_left; (intro w hSw; (try dsimp only at hSw); go_simp; (try with_reducible rfl)); try simp only [Act.put, lA, lZ, lS]
        refine wpAnyH_take (i := 1) (oi := { dst := some 69, op := .move (.tmp 2), type := 48, pos := "outright.go:154", after := #[], guard := none }) (v := ?_) rfl (by kernel_rfl) (by kernel_rfl) (by kernel_rfl) (fun _ _ _ h => h) (Or.inl ⟨by rfl, ?_⟩) (by assumption) ?_
        rotate_left; (intro w hSw; (try dsimp only at hSw); go_simp; (try with_reducible rfl)); try simp only [Act.put, lA, lZ, lS]
        refine wpAnyH_take (i := 2) (oi := { dst := some 70, op := .move (.tmp 11), type := 3, pos := "outright.go:154", after := #[], guard := none }) (v := ?_) rfl (by kernel_rfl) (by kernel_rfl) (by kernel_rfl) (fun _ _ _ h => h) (Or.inl ⟨by rfl, ?_⟩) (by assumption) ?_
        rotate_left; (intro w hSw; (try dsimp only at hSw); go_simp; (try with_reducible rfl)); try simp only [Act.put, lA, lZ, lS]
        refine wpAnyH_take (i := 3) (oi := { dst := some 71, op := .indexAddr 48 (.tmp 69) (.tmp 70), type := 0, pos := "outright.go:154", after := #[⟨1, .data⟩, ⟨2, .data⟩], guard := none }) (v := ?_) rfl (by kernel_rfl) (by kernel_rfl) (by kernel_rfl) (fun _ _ _ h => h) (Or.inl ⟨by rfl, ?_⟩) (by assumption) ?_
        rotate_left; (intro w hSw; (try dsimp only at hSw); go_simp; (try with_reducible rfl)); try simp only [Act.put, lA, lZ, lS]
        refine wpAnyH_take (i := 4) (oi := { dst := some 72, op := .fieldAddr 47 (.tmp 71) 1, type := 0, pos := "outright.go:154", after := #[⟨3, .data⟩], guard := none }) (v := ?_) rfl (by kernel_rfl) (by kernel_rfl) (by kernel_rfl) (fun _ _ _ h => h) (Or.inl ⟨by rfl, ?_⟩) (by assumption) ?_
        rotate_left; (intro w hSw; (try dsimp only at hSw); go_simp; (try with_reducible rfl)); try simp only [Act.put, lA, lZ, lS]
        refine wpAnyH_take (i := 5) (oi := { dst := some 73, op := .load 3 (.tmp 72), type := 3, pos := "outright.go:154", after := #[⟨4, .data⟩], guard := none }) (v := ?_) rfl (by kernel_rfl) (by kernel_rfl) (by kernel_rfl) (fun _ _ _ h => h) (Or.inl ⟨by rfl, ?_⟩) (by assumption) ?_
        rotate_left; (intro w hSw; (try dsimp only at hSw); go_simp; (try with_reducible rfl)); try simp only [Act.put, lA, lZ, lS]
        refine wpAnyH_take (i := 6) (oi := { dst := some 74, op := .fieldAddr 47 (.tmp 4) 1, type := 0, pos := "outright.go:154", after := #[], guard := none }) (v := ?_) rfl (by kernel_rfl) (by kernel_rfl) (by kernel_rfl) (fun _ _ _ h => h) (Or.inl ⟨by rfl, ?_⟩) (by assumption) ?_
        rotate_left; (intro w hSw; (try dsimp only at hSw); go_simp; (try with_reducible rfl)); try simp only [Act.put, lA, lZ, lS]
        refine wpAnyH_take (i := 7) (oi := { dst := some 75, op := .load 3 (.tmp 74), type := 3, pos := "outright.go:154", after := #[⟨6, .data⟩], guard := none }) (v := ?_) rfl (by kernel_rfl) (by kernel_rfl) (by kernel_rfl) (fun _ _ _ h => h) (Or.inl ⟨by rfl, ?_⟩) (by assumption) ?_
        rotate_left; (intro w hSw; (try dsimp only at hSw); go_simp; (try with_reducible rfl)); try simp only [Act.put, lA, lZ, lS]
        refine wpAnyH_take (i := 8) (oi := { dst := some 76, op := .binOp BinOp.sub 3 (.tmp 73) (.tmp 75) 3, type := 3, pos := "outright.go:154", after := #[⟨5, .data⟩, ⟨7, .data⟩], guard := none }) (v := ?_) rfl (by kernel_rfl) (by kernel_rfl) (by kernel_rfl) (fun _ _ _ h => h) (Or.inl ⟨by rfl, ?_⟩) (by assumption) ?_
        rotate_left; (intro w hSw; (try dsimp only at hSw); go_simp; (try with_reducible rfl)); try simp only [Act.put, lA, lZ, lS]
        refine wpAnyH_take (i := 9) (oi := { dst := some 77, op := .move (.tmp 2), type := 48, pos := "outright.go:154", after := #[], guard := none }) (v := ?_) rfl (by kernel_rfl) (by kernel_rfl) (by kernel_rfl) (fun _ _ _ h => h) (Or.inl ⟨by rfl, ?_⟩) (by assumption) ?_
        rotate_left; (intro w hSw; (try dsimp only at hSw); go_simp; (try with_reducible rfl)); try simp only [Act.put, lA, lZ, lS]
        refine wpAnyH_take (i := 10) (oi := { dst := some 78, op := .move (.tmp 11), type := 3, pos := "outright.go:154", after := #[], guard := none }) (v := ?_) rfl (by kernel_rfl) (by kernel_rfl) (by kernel_rfl) (fun _ _ _ h => h) (Or.inl ⟨by rfl, ?_⟩) (by assumption) ?_
        rotate_left; (intro w hSw; (try dsimp only at hSw); go_simp; (try with_reducible rfl)); try simp only [Act.put, lA, lZ, lS]
        refine wpAnyH_take (i := 11) (oi := { dst := some 79, op := .indexAddr 48 (.tmp 77) (.tmp 78), type := 0, pos := "outright.go:154", after := #[⟨9, .data⟩, ⟨10, .data⟩], guard := none }) (v := ?_) rfl (by kernel_rfl) (by kernel_rfl) (by kernel_rfl) (fun _ _ _ h => h) (Or.inl ⟨by rfl, ?_⟩) (by assumption) ?_
        rotate_left; (intro w hSw; (try dsimp only at hSw); go_simp; (try with_reducible rfl)); try simp only [Act.put, lA, lZ, lS]
        refine wpAnyH_take (i := 12) (oi := { dst := some 80, op := .fieldAddr 47 (.tmp 79) 2, type := 0, pos := "outright.go:154", after := #[⟨11, .data⟩], guard := none }) (v := ?_) rfl (by kernel_rfl) (by kernel_rfl) (by kernel_rfl) (fun _ _ _ h => h) (Or.inl ⟨by rfl, ?_⟩) (by assumption) ?_
        rotate_left; (intro w hSw; (try dsimp only at hSw); go_simp; (try with_reducible rfl)); try simp only [Act.put, lA, lZ, lS]
        refine wpAnyH_take (i := 13) (oi := { dst := some 81, op := .load 3 (.tmp 80), type := 3, pos := "outright.go:154", after := #[⟨12, .data⟩], guard := none }) (v := ?_) rfl (by kernel_rfl) (by kernel_rfl) (by kernel_rfl) (fun _ _ _ h => h) (Or.inl ⟨by rfl, ?_⟩) (by assumption) ?_
        rotate_left; (intro w hSw; (try dsimp only at hSw); go_simp; (try with_reducible rfl)); try simp only [Act.put, lA, lZ, lS]
        refine wpAnyH_take (i := 14) (oi := { dst := some 82, op := .fieldAddr 47 (.tmp 4) 2, type := 0, pos := "outright.go:154", after := #[], guard := none }) (v := ?_) rfl (by kernel_rfl) (by kernel_rfl) (by kernel_rfl) (fun _ _ _ h => h) (Or.inl ⟨by rfl, ?_⟩) (by assumption) ?_
        rotate_left; (intro w hSw; (try dsimp only at hSw); go_simp; (try with_reducible rfl)); try simp only [Act.put, lA, lZ, lS]
        refine wpAnyH_take (i := 15) (oi := { dst := some 83, op := .load 3 (.tmp 82), type := 3, pos := "outright.go:154", after := #[⟨14, .data⟩], guard := none }) (v := ?_) rfl (by kernel_rfl) (by kernel_rfl) (by kernel_rfl) (fun _ _ _ h => h) (Or.inl ⟨by rfl, ?_⟩) (by assumption) ?_
        rotate_left; (intro w hSw; (try dsimp only at hSw); go_simp; (try with_reducible rfl)); try simp only [Act.put, lA, lZ, lS]
        refine wpAnyH_take (i := 16) (oi := { dst := some 84, op := .binOp BinOp.sub 3 (.tmp 81) (.tmp 83) 3, type := 3, pos := "outright.go:154", after := #[⟨13, .data⟩, ⟨15, .data⟩], guard := none }) (v := ?_) rfl (by kernel_rfl) (by kernel_rfl) (by kernel_rfl) (fun _ _ _ h => h) (Or.inl ⟨by rfl, ?_⟩) (by assumption) ?_
        rotate_left; (intro w hSw; (try dsimp only at hSw); go_simp; (try with_reducible rfl)); try simp only [Act.put, lA, lZ, lS]
        refine wpAnyH_ready (rs := [17]) (by kernel_rfl) (by simp) ?_
        refine AllReadyH.cons (o := { dst := some 85, op := .call { callee := Callee.value (Operand.func 14), args := #[.tmp 68, .tmp 76, .tmp 84], argTypes := #[9, 3, 3] }, type := 42, pos := "outright.go:154", after := #[⟨0, .data⟩, ⟨8, .data⟩, ⟨16, .data⟩], guard := none }) rfl (fun K hK => ?_) AllReadyH.nil
        go_simp
        refine C.mono ?_
        rintro e w7 ⟨rfl, hb7⟩
        go_wp2_with fail
        refine hK.out _ _ ⟨cell_below hb7 kd1, cell_below hb7 kd2, cell_below hb7 kd3, cell_below hb7 kd4⟩ (fun hHeld => ?_)
        clear hK K
        try simp only [Act.put, lA, lZ, lS]
        refine wpAnyH_take (i := 18) (oi := { dst := some 67, op := .move (.tmp 85), type := 42, pos := "outright.go:154", after := #[⟨17, .data⟩], guard := none }) (v := ?_) rfl (by kernel_rfl) (by kernel_rfl) (by kernel_rfl) (fun _ _ _ h => h) (Or.inl ⟨by rfl, ?_⟩) (by assumption) ?_
        rotate_left; (intro w hSw; (try dsimp only at hSw); go_simp; (try with_reducible rfl)); try simp only [Act.put, lA, lZ, lS]
        refine wpAnyH_take (i := 19) (oi := { dst := some 86, op := .extract (.tmp 67) 0, type := 9, pos := "outright.go:154", after := #[⟨18, .data⟩], guard := none }) (v := ?_) rfl (by kernel_rfl) (by kernel_rfl) (by kernel_rfl) (fun _ _ _ h => h) (Or.inl ⟨by rfl, ?_⟩) (by assumption) ?_
        rotate_left; (intro w hSw; (try dsimp only at hSw); go_simp; (try with_reducible rfl)); try simp only [Act.put, lA, lZ, lS]
        refine wpAnyH_take (i := 20) (oi := { dst := some 87, op := .extract (.tmp 67) 1, type := 24, pos := "outright.go:154", after := #[⟨18, .data⟩, ⟨21, .gcOnly .lateStores⟩], guard := none }) (v := ?_) rfl (by kernel_rfl) (by kernel_rfl) (by kernel_rfl) (fun _ _ _ h => h) (Or.inl ⟨by rfl, ?_⟩) (by assumption) ?_
        rotate_left; (intro w hSw; (try dsimp only at hSw); go_simp; (try with_reducible rfl)); try simp only [Act.put, lA, lZ, lS]
        refine wpAnyH_ready (rs := [21]) (by kernel_rfl) (by simp) ?_
        refine AllReadyH.cons (o := { dst := some 12, op := .assign (.tmp 86), type := 9, pos := "outright.go:154", after := #[⟨19, .data⟩, ⟨17, .chain⟩, ⟨0, .phase⟩, ⟨1, .phase⟩, ⟨2, .phase⟩, ⟨3, .phase⟩, ⟨4, .phase⟩, ⟨5, .phase⟩, ⟨6, .phase⟩, ⟨7, .phase⟩, ⟨8, .phase⟩, ⟨9, .phase⟩, ⟨10, .phase⟩, ⟨11, .phase⟩, ⟨12, .phase⟩, ⟨13, .phase⟩, ⟨14, .phase⟩, ⟨15, .phase⟩, ⟨16, .phase⟩, ⟨17, .phase⟩, ⟨18, .phase⟩, ⟨19, .phase⟩, ⟨20, .textOnly .lateStores⟩], guard := none }) rfl (fun K hK => ?_) AllReadyH.nil
        go_simp
        refine hK.out _ _ ⟨cell_below hb7 kd1, cell_below hb7 kd2, cell_below hb7 kd3, cell_below hb7 kd4⟩ (fun hHeld => ?_)
        clear hK K
        try simp only [Act.put, lA, lZ, lS]
        refine wpAnyH_ready (rs := [22]) (by kernel_rfl) (by simp) ?_
        refine AllReadyH.cons (o := { dst := some 13, op := .assign (.tmp 87), type := 24, pos := "outright.go:154", after := #[⟨20, .data⟩, ⟨21, .chain⟩, ⟨0, .phase⟩, ⟨1, .phase⟩, ⟨2, .phase⟩, ⟨3, .phase⟩, ⟨4, .phase⟩, ⟨5, .phase⟩, ⟨6, .phase⟩, ⟨7, .phase⟩, ⟨8, .phase⟩, ⟨9, .phase⟩, ⟨10, .phase⟩, ⟨11, .phase⟩, ⟨12, .phase⟩, ⟨13, .phase⟩, ⟨14, .phase⟩, ⟨15, .phase⟩, ⟨16, .phase⟩, ⟨17, .phase⟩, ⟨18, .phase⟩, ⟨19, .phase⟩, ⟨20, .phase⟩, ⟨21, .phase⟩], guard := none }) rfl (fun K hK => ?_) AllReadyH.nil
        go_simp
        refine hK.out _ _ ⟨cell_below hb7 kd1, cell_below hb7 kd2, cell_below hb7 kd3, cell_below hb7 kd4⟩ (fun hHeld => ?_)
        clear hK K
        try simp only [Act.put, lA, lZ, lS]
        refine wpAnyH_done (by kernel_rfl) ?_ _
        have kg7 := cell_below hb7 kg
        have HB7 : Hid (Below w6.heap.size w6 w7) := below_end hbd hb7
        clear hHeld kd1 kd2 kd3 kd4 kg hb7 hbd C hBr hw1 hw2
        go_wp2_with fail
        go_roundg (n - (i + 1))
        case rel => exact ⟨i + 1, by simp, rfl, by omega, HB7⟩
        case measure => omega
      · have hli2 : ¬ (i : Int) < (n : Int) := by omega
        have hBr := below_end hB6 HB.out
        go_wp2
        go_ret
        exact ⟨rfl, hBr⟩
set_option maxRecDepth 100000 in
set_option maxHeartbeats 4000000 in
theorem meach_many (b : ByteArray) (s0 r0 c0 : Int) (av : Option Addr) (n cap : Nat) (w : World) (hE : Env w) (hk8 : 8 ≤ w.heap.size) (h500 : 500 < n) :
    Calls Tryz.prog 7 #[.string b, .agg #[.int .i64 s0, .int .i64 r0, .int .i64 c0], .slice av n cap] w fun e w' => e = .returned (.bool true) ∧ Below w.heap.size w w' := by
  have hB0 := ball (Below.refl _ w) (.cells #[.int .i64 s0, .int .i64 r0, .int .i64 c0] 47)
  have A := mable_any _ (hE.below hB0) (Nat.le_trans hk8 hB0.size)
  have hli : (500 : Int) < (n : Int) := by omega
  clear h500
  go_enter Tryz.func7, Tryz.ntmps7
  go_wp2_with fail
  refine A.mono ?_
  rintro e wa ⟨rfl, hb1⟩
  have hBa := below_end hB0 hb1
  go_wp2
  go_ret
  exact ⟨rfl, hBa⟩
theorem meach_main (b : ByteArray) (s0 r0 c0 : Int) (av : Option Addr) (n cap : Nat) (F : Nat → Wpl.Cl) (w : World) (hE : Env w) (hk8 : 8 ≤ w.heap.size) (hs : b.size ≤ 9223372036854775807) (hv : CelV w av n F) (hno : av = none → n = 0 ∧ cap = 0) :
    Calls Tryz.prog 7 #[.string b, .agg #[.int .i64 s0, .int .i64 r0, .int .i64 c0], .slice av n cap] w fun e w' => e = .returned (.bool true) ∧ Below w.heap.size w w' := by
  by_cases h : 500 < n
  · exact meach_many b s0 r0 c0 av n cap w hE hk8 h
  · exact meach_few b s0 r0 c0 av n cap F w hE hk8 hs hv hno (by omega) (fun _ => by omega)
end Go.Proofs.YtalkiggclckcdaaGreatDoor
