/- Queues: the order of cells that wait, walked. -/

import Derived.Test.YtpbjmhcpaeillaaQPlainB
import Derived.Test.YtpbjmhcpaeillaaQHas
import Derived.Deep.LoopGhost
namespace Wq
/-- Which of two goes ahead, as a number. -/
def cmp3 (a b : Int) : Int := if a < b then -1 else if b < a then 1 else 0
def cmpC (s r c s' r' c' : Int) : Int := if Wpl.before s r c s' r' c' then -1 else if Wpl.before s' r' c' s r c then 1 else 0
def cmpW (a b : Wr) : Int := if cmp3 a.ln b.ln ≠ 0 then cmp3 a.ln b.ln else if cmp3 a.lv b.lv ≠ 0 then cmp3 a.lv b.lv else cmpC a.s a.r a.c b.s b.r b.c
end Wq
namespace Go.Proofs.Ytpbjmhcpaeillaa
open Go.RowKit
set_option linter.unusedVariables false

theorem nan_any (a : Int) (w : World) : Calls Try.prog 104 #[.int .i64 a] w fun e w' => e = .returned (.bool false) ∧ Below w.heap.size w w' := by
  go_enter Try.func104, Try.ntmps104
  go_wp2
  go_ret
  exact ⟨rfl, by with_reducible repeat (first | exact Below.refl _ _ | refine below_drewN ?_ _ | refine Below.setCell ?_ (by first | (simp; done) | (simp; omega) | omega) _ | refine Below.drew ?_ | refine below_end ?_ (by assumption) | refine ball ?_ _)⟩
theorem cmp_any (a b : Int) (w : World) : Calls Try.prog 102 #[.int .i64 a, .int .i64 b] w fun e w' => e = .returned (.int .i64 (Wq.cmp3 a b)) ∧ Below w.heap.size w w' := by
  obtain ⟨R, hR⟩ : ∃ R, Wq.cmp3 a b = R := ⟨_, rfl⟩
  rw [hR]
  have HR : Hid (Wq.cmp3 a b = R) := hR
  clear hR
  by_cases h : a < b
  · have HE : Hid (R = -1) := by show _ = _; rw [← HR.out]; simp [Wq.cmp3, h]
    clear HR
    go_enter Try.func102, Try.ntmps102
    go_wp2_with fail
    refine (nan_any a _).mono ?_
    rintro e w1 ⟨rfl, hb1⟩
    go_wp2_with fail
    refine (nan_any b _).mono ?_
    rintro e w2 ⟨rfl, hb2⟩
    go_wp2
    go_ret
    exact ⟨by rw [HE.out]; rfl, below_end hb1 hb2⟩
  · by_cases h2 : b < a
    · have HE : Hid (R = 1) := by show _ = _; rw [← HR.out]; simp [Wq.cmp3, h, h2]
      clear HR
      go_enter Try.func102, Try.ntmps102
      go_wp2_with fail
      refine (nan_any a _).mono ?_
      rintro e w1 ⟨rfl, hb1⟩
      go_wp2_with fail
      refine (nan_any b _).mono ?_
      rintro e w2 ⟨rfl, hb2⟩
      go_wp2
      go_ret
      exact ⟨by rw [HE.out]; rfl, below_end hb1 hb2⟩
    · have HE : Hid (R = 0) := by show _ = _; rw [← HR.out]; simp [Wq.cmp3, h, h2]
      clear HR
      go_enter Try.func102, Try.ntmps102
      go_wp2_with fail
      refine (nan_any a _).mono ?_
      rintro e w1 ⟨rfl, hb1⟩
      go_wp2_with fail
      refine (nan_any b _).mono ?_
      rintro e w2 ⟨rfl, hb2⟩
      go_wp2
      go_ret
      exact ⟨by rw [HE.out]; rfl, below_end hb1 hb2⟩
theorem order_any (s r c s' r' c' : Int) (w : World) : Calls Try.prog 103 #[.agg #[.int .i64 s, .int .i64 r, .int .i64 c], .agg #[.int .i64 s', .int .i64 r', .int .i64 c']] w fun e w' => e = .returned (.int .i64 (Wq.cmpC s r c s' r' c')) ∧ Below w.heap.size w w' := by
  have B1 := fun w => before_any s r c s' r' c' w
  have B2 := fun w => before_any s' r' c' s r c w
  obtain ⟨R, hR⟩ : ∃ R, Wq.cmpC s r c s' r' c' = R := ⟨_, rfl⟩
  rw [hR]
  have HR : Hid (Wq.cmpC s r c s' r' c' = R) := hR
  have p1 := (AtL.new0 w 33 [.int .i64 s, .int .i64 r, .int .i64 c]).alloc (.cells #[.int .i64 s', .int .i64 r', .int .i64 c'] 33)
  have p2 := AtL.new1 w (.cells #[.int .i64 s, .int .i64 r, .int .i64 c] 33) 33 [.int .i64 s', .int .i64 r', .int .i64 c']
  have hb0 := ball (ball (Below.refl _ w) (.cells #[.int .i64 s, .int .i64 r, .int .i64 c] 33)) (.cells #[.int .i64 s', .int .i64 r', .int .i64 c'] 33)
  clear hR
  cases h1 : Wpl.before s r c s' r' c' with
  | true =>
    rw [h1] at B1
    have HE : Hid (R = -1) := by show _ = _; rw [← HR.out]; simp [Wq.cmpC, h1]
    clear h1 B2 HR
    go_enter Try.func103, Try.ntmps103
    go_upto_region 1 with fail
    generalize (w.alloc (.cells #[.int .i64 s, .int .i64 r, .int .i64 c] 33)).alloc (.cells #[.int .i64 s', .int .i64 r', .int .i64 c'] 33) = W0 at *
    obtain ⟨a0, a1, a2, _⟩ := p1.three
    obtain ⟨b0, b1, b2, _⟩ := p2.three
    go_wp2_with fail
    refine (B1 _).mono ?_
    rintro e w1 ⟨rfl, hb1⟩
    go_wp2
    go_ret
    exact ⟨by rw [HE.out]; rfl, below_end hb0 hb1⟩
  | false =>
    rw [h1] at B1
    cases h2 : Wpl.before s' r' c' s r c with
    | true =>
      rw [h2] at B2
      have HE : Hid (R = 1) := by show _ = _; rw [← HR.out]; simp [Wq.cmpC, h1, h2]
      clear h1 h2 HR
      go_enter Try.func103, Try.ntmps103
      go_upto_region 1 with fail
      generalize (w.alloc (.cells #[.int .i64 s, .int .i64 r, .int .i64 c] 33)).alloc (.cells #[.int .i64 s', .int .i64 r', .int .i64 c'] 33) = W0 at *
      obtain ⟨a0, a1, a2, _⟩ := p1.three
      obtain ⟨b0, b1, b2, _⟩ := p2.three
      go_wp2_with fail
      refine (B1 _).mono ?_
      rintro e w1 ⟨rfl, hb1⟩
      obtain ⟨a0, a1, a2, _⟩ := (AtL.below hb1 p1).three
      obtain ⟨b0, b1, b2, _⟩ := (AtL.below hb1 p2).three
      go_wp2_with fail
      refine (B2 _).mono ?_
      rintro e w2 ⟨rfl, hb2⟩
      go_wp2
      go_ret
      exact ⟨by rw [HE.out]; rfl, below_end (below_end hb0 hb1) hb2⟩
    | false =>
      rw [h2] at B2
      have HE : Hid (R = 0) := by show _ = _; rw [← HR.out]; simp [Wq.cmpC, h1, h2]
      clear h1 h2 HR
      go_enter Try.func103, Try.ntmps103
      go_upto_region 1 with fail
      generalize (w.alloc (.cells #[.int .i64 s, .int .i64 r, .int .i64 c] 33)).alloc (.cells #[.int .i64 s', .int .i64 r', .int .i64 c'] 33) = W0 at *
      obtain ⟨a0, a1, a2, _⟩ := p1.three
      obtain ⟨b0, b1, b2, _⟩ := p2.three
      go_wp2_with fail
      refine (B1 _).mono ?_
      rintro e w1 ⟨rfl, hb1⟩
      obtain ⟨a0, a1, a2, _⟩ := (AtL.below hb1 p1).three
      obtain ⟨b0, b1, b2, _⟩ := (AtL.below hb1 p2).three
      go_wp2_with fail
      refine (B2 _).mono ?_
      rintro e w2 ⟨rfl, hb2⟩
      go_wp2
      go_ret
      exact ⟨by rw [HE.out]; rfl, below_end (below_end hb0 hb1) hb2⟩
theorem or_any (a b c R : Int) (k : Nat) (w : World) (h : AtL w k [.int .i64 a, .int .i64 b, .int .i64 c]) (hR : (if a ≠ 0 then a else if b ≠ 0 then b else c) = R) : Calls Try.prog 101 #[.slice (some ⟨k, 0, none⟩) 3 3] w fun e w' => e = .returned (.int .i64 R) ∧ Below w.heap.size w w' := by
  have HR : Hid ((if a ≠ 0 then a else if b ≠ 0 then b else c) = R) := hR
  clear hR
  obtain ⟨c0, c1, c2, _⟩ := h.three
  clear h
  go_enter Try.func101, Try.ntmps101
  go_upto_region 3 with fail
  go_loopg [8] 3 (fun gk x wr => ∃ i : Nat, x = .int .i64 i ∧ gk = 3 - i ∧ i ≤ 3 ∧ Hid (0 < i → a = 0) ∧ Hid (1 < i → b = 0) ∧ Hid (2 < i → c = 0) ∧ w = wr)
  case atStart => exact ⟨0, rfl, rfl, by omega, fun z => by omega, fun z => by omega, fun z => by omega, rfl⟩
  case round =>
    obtain ⟨i, rfl, hg, hi, H0, H1, H2, rfl⟩ := hrel
    have hc : i = 0 ∨ i = 1 ∨ i = 2 ∨ i = 3 := by omega
    rcases hc with rfl | rfl | rfl | rfl
    · by_cases hz : a = 0
      · subst hz
        go_wp2_with fail
        go_roundg 2
        case rel => exact ⟨1, by simp, rfl, by omega, (by first | exact fun _ => rfl | exact fun _ => trivial | trivial), (fun z => by omega), (fun z => by omega), rfl⟩
        case measure => omega
      · go_wp2_with fail
        go_ret
        exact ⟨by rw [← HR.out, if_pos hz]; rfl, Below.refl _ _⟩
    · have hz0 := H0.out (by omega)
      by_cases hz : b = 0
      · subst hz
        go_wp2_with fail
        go_roundg 1
        case rel => exact ⟨2, by simp, rfl, by omega, (fun _ => hz0), (by first | exact fun _ => rfl | exact fun _ => trivial | trivial), (fun z => by omega), rfl⟩
        case measure => omega
      · have HE : Hid (R = b) := by show _ = _; rw [← HR.out, hz0]; simp [hz]
        clear hz0 HR
        go_wp2_with fail
        go_ret
        exact ⟨by rw [HE.out]; rfl, Below.refl _ _⟩
    · have HE : Hid (R = c) := by show _ = _; rw [← HR.out, H0.out (by omega), H1.out (by omega)]; simp
      by_cases hz : c = 0
      · subst hz
        go_wp2_with fail
        go_roundg 0
        case rel => exact ⟨3, by simp, rfl, by omega, (fun _ => H0.out (by omega)), (fun _ => H1.out (by omega)), (by first | exact fun _ => rfl | exact fun _ => trivial | trivial), rfl⟩
        case measure => omega
      · go_wp2_with fail
        go_ret
        exact ⟨by rw [HE.out]; rfl, Below.refl _ _⟩
    · have HE : Hid (R = 0) := by show _ = _; rw [← HR.out, H0.out (by omega), H1.out (by omega), H2.out (by omega)]; simp
      go_wp2_with fail
      go_ret
      exact ⟨by rw [HE.out]; rfl, Below.refl _ _⟩
/-- A cell that waits, as a value. -/
def wrV (a : Wq.Wr) : List Value := [.int .i64 a.s, .int .i64 a.r, .int .i64 a.c, .int .i64 a.ln, .int .i64 a.lv]
set_option maxHeartbeats 4000000 in
theorem compare_any (a b : Wq.Wr) (w : World) : Calls Try.prog 99 #[.agg (wrV a).toArray, .agg (wrV b).toArray] w fun e w' => e = .returned (.int .i64 (Wq.cmpW a b)) ∧ Below w.heap.size w w' := by
  have p1 := (AtL.new0 w 58 [.int .i64 a.s, .int .i64 a.r, .int .i64 a.c, .int .i64 a.ln, .int .i64 a.lv]).alloc (.cells #[.int .i64 b.s, .int .i64 b.r, .int .i64 b.c, .int .i64 b.ln, .int .i64 b.lv] 58)
  have p2 := AtL.new1 w (.cells #[.int .i64 a.s, .int .i64 a.r, .int .i64 a.c, .int .i64 a.ln, .int .i64 a.lv] 58) 58 [.int .i64 b.s, .int .i64 b.r, .int .i64 b.c, .int .i64 b.ln, .int .i64 b.lv]
  have f1 := AtL.f5 p1
  have f2 := AtL.f5 p2
  have hb0 := ball (ball (Below.refl _ w) (.cells #[.int .i64 a.s, .int .i64 a.r, .int .i64 a.c, .int .i64 a.ln, .int .i64 a.lv] 58)) (.cells #[.int .i64 b.s, .int .i64 b.r, .int .i64 b.c, .int .i64 b.ln, .int .i64 b.lv] 58)
  obtain ⟨R, hR⟩ : ∃ R, Wq.cmpW a b = R := ⟨_, rfl⟩
  rw [hR]
  have HR : Hid (Wq.cmpW a b = R) := hR
  clear hR p1 p2
  show Calls _ _ #[.agg #[.int .i64 a.s, .int .i64 a.r, .int .i64 a.c, .int .i64 a.ln, .int .i64 a.lv], .agg #[.int .i64 b.s, .int .i64 b.r, .int .i64 b.c, .int .i64 b.ln, .int .i64 b.lv]] _ _
  go_enter Try.func99, Try.ntmps99
  go_upto_region 1 with fail
  generalize (w.alloc (.cells #[.int .i64 a.s, .int .i64 a.r, .int .i64 a.c, .int .i64 a.ln, .int .i64 a.lv] 58)).alloc (.cells #[.int .i64 b.s, .int .i64 b.r, .int .i64 b.c, .int .i64 b.ln, .int .i64 b.lv] 58) = W0 at *
  refine wp_region_held_drew (S := fun W => Five W w.heap.size (.int .i64 a.s) (.int .i64 a.r) (.int .i64 a.c) (.int .i64 a.ln) (.int .i64 a.lv) ∧ Five W (w.heap.size + 1) (.int .i64 b.s) (.int .i64 b.r) (.int .i64 b.c) (.int .i64 b.ln) (.int .i64 b.lv)) (by kernel_rfl) ⟨five_drew f1, five_drew f2⟩ (fun hHeld => ?_)
  have hB := hb0.drew
  refine wpAnyH_take (i := 0) (oi := { dst := Option.some 5, op := Op.fieldAddr 58 (Operand.tmp 2) 1, type := 0, pos := "waiter.go:26", after := #[], guard := Option.none }) (v := ?_) rfl (by kernel_rfl) (by kernel_rfl) (by kernel_rfl) (fun _ _ _ h => h) (Or.inl ⟨by rfl, ?_⟩) (by assumption) ?_
  rotate_left
  · intro w hSw
    (try dsimp only at hSw)
    go_simp
    try with_reducible rfl
  try simp only [Act.put, List.setIfInBounds_toArray, List.set_cons_zero, List.set_cons_succ]
  refine wpAnyH_take (i := 1) (oi := { dst := Option.some 6, op := Op.load 3 (Operand.tmp 5), type := 3, pos := "waiter.go:26", after := #[{ on := 0, ground := Ground.data }], guard := Option.none }) (v := ?_) rfl (by kernel_rfl) (by kernel_rfl) (by kernel_rfl) (fun _ _ _ h => h) (Or.inl ⟨by rfl, ?_⟩) (by assumption) ?_
  rotate_left
  · intro w hSw
    (try dsimp only at hSw)
    go_simp
    try with_reducible rfl
  try simp only [Act.put, List.setIfInBounds_toArray, List.set_cons_zero, List.set_cons_succ]
  refine wpAnyH_take (i := 2) (oi := { dst := Option.some 7, op := Op.fieldAddr 58 (Operand.tmp 3) 1, type := 0, pos := "waiter.go:26", after := #[], guard := Option.none }) (v := ?_) rfl (by kernel_rfl) (by kernel_rfl) (by kernel_rfl) (fun _ _ _ h => h) (Or.inl ⟨by rfl, ?_⟩) (by assumption) ?_
  rotate_left
  · intro w hSw
    (try dsimp only at hSw)
    go_simp
    try with_reducible rfl
  try simp only [Act.put, List.setIfInBounds_toArray, List.set_cons_zero, List.set_cons_succ]
  refine wpAnyH_take (i := 3) (oi := { dst := Option.some 8, op := Op.load 3 (Operand.tmp 7), type := 3, pos := "waiter.go:26", after := #[{ on := 2, ground := Ground.data }], guard := Option.none }) (v := ?_) rfl (by kernel_rfl) (by kernel_rfl) (by kernel_rfl) (fun _ _ _ h => h) (Or.inl ⟨by rfl, ?_⟩) (by assumption) ?_
  rotate_left
  · intro w hSw
    (try dsimp only at hSw)
    go_simp
    try with_reducible rfl
  try simp only [Act.put, List.setIfInBounds_toArray, List.set_cons_zero, List.set_cons_succ]
  refine wpAnyH_take (i := 5) (oi := { dst := Option.some 10, op := Op.fieldAddr 58 (Operand.tmp 2) 2, type := 0, pos := "waiter.go:26", after := #[], guard := Option.none }) (v := ?_) rfl (by kernel_rfl) (by kernel_rfl) (by kernel_rfl) (fun _ _ _ h => h) (Or.inl ⟨by rfl, ?_⟩) (by assumption) ?_
  rotate_left
  · intro w hSw
    (try dsimp only at hSw)
    go_simp
    try with_reducible rfl
  try simp only [Act.put, List.setIfInBounds_toArray, List.set_cons_zero, List.set_cons_succ]
  refine wpAnyH_take (i := 6) (oi := { dst := Option.some 11, op := Op.load 3 (Operand.tmp 10), type := 3, pos := "waiter.go:26", after := #[{ on := 5, ground := Ground.data }], guard := Option.none }) (v := ?_) rfl (by kernel_rfl) (by kernel_rfl) (by kernel_rfl) (fun _ _ _ h => h) (Or.inl ⟨by rfl, ?_⟩) (by assumption) ?_
  rotate_left
  · intro w hSw
    (try dsimp only at hSw)
    go_simp
    try with_reducible rfl
  try simp only [Act.put, List.setIfInBounds_toArray, List.set_cons_zero, List.set_cons_succ]
  refine wpAnyH_take (i := 7) (oi := { dst := Option.some 12, op := Op.fieldAddr 58 (Operand.tmp 3) 2, type := 0, pos := "waiter.go:26", after := #[], guard := Option.none }) (v := ?_) rfl (by kernel_rfl) (by kernel_rfl) (by kernel_rfl) (fun _ _ _ h => h) (Or.inl ⟨by rfl, ?_⟩) (by assumption) ?_
  rotate_left
  · intro w hSw
    (try dsimp only at hSw)
    go_simp
    try with_reducible rfl
  try simp only [Act.put, List.setIfInBounds_toArray, List.set_cons_zero, List.set_cons_succ]
  refine wpAnyH_take (i := 8) (oi := { dst := Option.some 13, op := Op.load 3 (Operand.tmp 12), type := 3, pos := "waiter.go:26", after := #[{ on := 7, ground := Ground.data }], guard := Option.none }) (v := ?_) rfl (by kernel_rfl) (by kernel_rfl) (by kernel_rfl) (fun _ _ _ h => h) (Or.inl ⟨by rfl, ?_⟩) (by assumption) ?_
  rotate_left
  · intro w hSw
    (try dsimp only at hSw)
    go_simp
    try with_reducible rfl
  try simp only [Act.put, List.setIfInBounds_toArray, List.set_cons_zero, List.set_cons_succ]
  refine wpAnyH_take (i := 10) (oi := { dst := Option.some 15, op := Op.fieldAddr 58 (Operand.tmp 2) 0, type := 0, pos := "waiter.go:26", after := #[], guard := Option.none }) (v := ?_) rfl (by kernel_rfl) (by kernel_rfl) (by kernel_rfl) (fun _ _ _ h => h) (Or.inl ⟨by rfl, ?_⟩) (by assumption) ?_
  rotate_left
  · intro w hSw
    (try dsimp only at hSw)
    go_simp
    try with_reducible rfl
  try simp only [Act.put, List.setIfInBounds_toArray, List.set_cons_zero, List.set_cons_succ]
  refine wpAnyH_take (i := 11) (oi := { dst := Option.some 16, op := Op.load 33 (Operand.tmp 15), type := 33, pos := "waiter.go:26", after := #[{ on := 10, ground := Ground.data }], guard := Option.none }) (v := ?_) rfl (by kernel_rfl) (by kernel_rfl) (by kernel_rfl) (fun _ _ _ h => h) (Or.inl ⟨by rfl, ?_⟩) (by assumption) ?_
  rotate_left
  · intro w hSw
    (try dsimp only at hSw)
    go_simp
    try with_reducible rfl
  try simp only [Act.put, List.setIfInBounds_toArray, List.set_cons_zero, List.set_cons_succ]
  refine wpAnyH_take (i := 12) (oi := { dst := Option.some 17, op := Op.fieldAddr 58 (Operand.tmp 3) 0, type := 0, pos := "waiter.go:26", after := #[], guard := Option.none }) (v := ?_) rfl (by kernel_rfl) (by kernel_rfl) (by kernel_rfl) (fun _ _ _ h => h) (Or.inl ⟨by rfl, ?_⟩) (by assumption) ?_
  rotate_left
  · intro w hSw
    (try dsimp only at hSw)
    go_simp
    try with_reducible rfl
  try simp only [Act.put, List.setIfInBounds_toArray, List.set_cons_zero, List.set_cons_succ]
  refine wpAnyH_take (i := 13) (oi := { dst := Option.some 18, op := Op.load 33 (Operand.tmp 17), type := 33, pos := "waiter.go:26", after := #[{ on := 12, ground := Ground.data }], guard := Option.none }) (v := ?_) rfl (by kernel_rfl) (by kernel_rfl) (by kernel_rfl) (fun _ _ _ h => h) (Or.inl ⟨by rfl, ?_⟩) (by assumption) ?_
  rotate_left
  · intro w hSw
    (try dsimp only at hSw)
    go_simp
    try with_reducible rfl
  try simp only [Act.put, List.setIfInBounds_toArray, List.set_cons_zero, List.set_cons_succ]
  replace f1 := five_drew f1
  replace f2 := five_drew f2
  generalize W0.drew = W1 at *
  refine wpAnyH_ready (rs := [4]) (by kernel_rfl) (by simp) ?_
  refine AllReadyH.cons (o := { dst := Option.some 9, op := Op.call { callee := Callee.value (Operand.func 102), args := #[Operand.tmp 6, Operand.tmp 8], argTypes := #[3, 3] }, type := 3, pos := "waiter.go:26", after := #[{ on := 1, ground := Ground.data }, { on := 3, ground := Ground.data }], guard := Option.none }) rfl (fun K hK => ?_) AllReadyH.nil
  go_simp
  refine (cmp_any a.ln b.ln W1).mono ?_
  rintro e w2 ⟨rfl, hb⟩
  replace f1 := five_below hb f1
  replace f2 := five_below hb f2
  replace hB := below_end hB hb
  clear hb
  go_wp2_with fail
  refine hK.out _ _ ⟨f1, f2⟩ (fun hHeld => ?_)
  clear hK K
  try simp only [Act.put, List.setIfInBounds_toArray, List.set_cons_zero, List.set_cons_succ]
  refine wpAnyH_ready (rs := [9]) (by kernel_rfl) (by simp) ?_
  refine AllReadyH.cons (o := { dst := Option.some 14, op := Op.call { callee := Callee.value (Operand.func 102), args := #[Operand.tmp 11, Operand.tmp 13], argTypes := #[3, 3] }, type := 3, pos := "waiter.go:26", after := #[{ on := 6, ground := Ground.data }, { on := 8, ground := Ground.data }, { on := 4, ground := Ground.chain }], guard := Option.none }) rfl (fun K hK => ?_) AllReadyH.nil
  go_simp
  refine (cmp_any a.lv b.lv w2).mono ?_
  rintro e w3 ⟨rfl, hb⟩
  replace f1 := five_below hb f1
  replace f2 := five_below hb f2
  replace hB := below_end hB hb
  clear hb
  go_wp2_with fail
  refine hK.out _ _ ⟨f1, f2⟩ (fun hHeld => ?_)
  clear hK K
  try simp only [Act.put, List.setIfInBounds_toArray, List.set_cons_zero, List.set_cons_succ]
  refine wpAnyH_ready (rs := [14]) (by kernel_rfl) (by simp) ?_
  refine AllReadyH.cons (o := { dst := Option.some 19, op := Op.call { callee := Callee.value (Operand.func 103), args := #[Operand.tmp 16, Operand.tmp 18], argTypes := #[33, 33] }, type := 3, pos := "waiter.go:26", after := #[{ on := 11, ground := Ground.data }, { on := 13, ground := Ground.data }, { on := 9, ground := Ground.chain }], guard := Option.none }) rfl (fun K hK => ?_) AllReadyH.nil
  go_simp
  refine (order_any a.s a.r a.c b.s b.r b.c w3).mono ?_
  rintro e w4 ⟨rfl, hb⟩
  replace f1 := five_below hb f1
  replace f2 := five_below hb f2
  replace hB := below_end hB hb
  clear hb
  go_wp2_with fail
  refine hK.out _ _ ⟨f1, f2⟩ (fun hHeld => ?_)
  clear hK K
  try simp only [Act.put, List.setIfInBounds_toArray, List.set_cons_zero, List.set_cons_succ]
  refine wpAnyH_ready (rs := [15]) (by kernel_rfl) (by simp) ?_
  refine AllReadyH.cons (o := { dst := Option.some 20, op := Op.buildSlice 133 3 #[(0, Operand.tmp 9), (1, Operand.tmp 14), (2, Operand.tmp 19)], type := 133, pos := "waiter.go:26", after := #[{ on := 4, ground := Ground.data }, { on := 9, ground := Ground.data }, { on := 14, ground := Ground.data }], guard := Option.none }) rfl (fun K hK => ?_) AllReadyH.nil
  go_simp
  have aO := AtL.new0 w4 3 [.int .i64 (Wq.cmp3 a.ln b.ln), .int .i64 (Wq.cmp3 a.lv b.lv), .int .i64 (Wq.cmpC a.s a.r a.c b.s b.r b.c)]
  refine hK.out _ _ ⟨five_alloc f1 _, five_alloc f2 _⟩ (fun hHeld => ?_)
  clear hK K
  try simp only [Act.put, List.setIfInBounds_toArray, List.set_cons_zero, List.set_cons_succ]
  refine wpAnyH_ready (rs := [16]) (by kernel_rfl) (by simp) ?_
  refine AllReadyH.cons (o := { dst := Option.some 21, op := Op.call { callee := Callee.value (Operand.func 101), args := #[Operand.tmp 20], argTypes := #[133] }, type := 3, pos := "waiter.go:26", after := #[{ on := 15, ground := Ground.data }, { on := 14, ground := Ground.chain }], guard := Option.none }) rfl (fun K hK => ?_) AllReadyH.nil
  go_simp
  refine (or_any _ _ _ R _ _ aO HR.out).mono ?_
  rintro e w5 ⟨rfl, hb⟩
  replace hB := below_end (ball hB _) hb
  replace f1 := five_below hb (five_alloc f1 _)
  replace f2 := five_below hb (five_alloc f2 _)
  clear hb aO
  go_wp2_with fail
  refine hK.out _ _ ⟨f1, f2⟩ (fun hHeld => ?_)
  clear hK K
  try simp only [Act.put, List.setIfInBounds_toArray, List.set_cons_zero, List.set_cons_succ]
  refine wpAnyH_ready (rs := [17]) (by kernel_rfl) (by simp) ?_
  refine AllReadyH.cons (o := { dst := Option.some 4, op := Op.assign (Operand.tmp 21), type := 3, pos := "waiter.go:26", after := #[{ on := 16, ground := Ground.data }, { on := 16, ground := Ground.chain }, { on := 0, ground := Ground.phase }, { on := 1, ground := Ground.phase }, { on := 2, ground := Ground.phase }, { on := 3, ground := Ground.phase }, { on := 4, ground := Ground.phase }, { on := 5, ground := Ground.phase }, { on := 6, ground := Ground.phase }, { on := 7, ground := Ground.phase }, { on := 8, ground := Ground.phase }, { on := 9, ground := Ground.phase }, { on := 10, ground := Ground.phase }, { on := 11, ground := Ground.phase }, { on := 12, ground := Ground.phase }, { on := 13, ground := Ground.phase }, { on := 14, ground := Ground.phase }, { on := 15, ground := Ground.phase }, { on := 16, ground := Ground.phase }], guard := Option.none }) rfl (fun K hK => ?_) AllReadyH.nil
  go_simp
  refine hK.out _ _ ⟨f1, f2⟩ (fun hHeld => ?_)
  clear hK K
  try simp only [Act.put, List.setIfInBounds_toArray, List.set_cons_zero, List.set_cons_succ]
  refine wpAnyH_done (by kernel_rfl) ?_ _

  go_wp2_with fail
  go_ret
  exact ⟨rfl, hB⟩
theorem key_any (a : Wq.Wr) (w : World) : Calls Try.prog 100 #[.agg (wrV a).toArray] w fun e w' => e = .returned (.agg #[.int .i64 a.s, .int .i64 a.r, .int .i64 a.c]) ∧ Below w.heap.size w w' := by
  show Calls _ _ #[.agg #[.int .i64 a.s, .int .i64 a.r, .int .i64 a.c, .int .i64 a.ln, .int .i64 a.lv]] _ _
  go_enter Try.func100, Try.ntmps100
  go_wp2
  refine bodyPost_ret (v := .agg #[.int .i64 a.s, .int .i64 a.r, .int .i64 a.c]) (by simp [results, Try.results100, go_sem]) rfl ⟨rfl, by with_reducible repeat (first | exact Below.refl _ _ | refine below_drewN ?_ _ | refine Below.setCell ?_ (by first | (simp; done) | (simp; omega) | omega) _ | refine Below.drew ?_ | refine below_end ?_ (by assumption) | refine ball ?_ _)⟩
end Go.Proofs.Ytpbjmhcpaeillaa
