/- Queues: the document's own queue: find, ahead, Level. -/

import Derived.Test.YtpbjmhcpaeillaaQRSees
namespace Go.Proofs.Ytpbjmhcpaeillaa
open Go.RowKit
set_option linter.unusedVariables false

/-- A cell that waits, and its level, as memory has them. -/
def wtV (p : Wpl.Cl × Int) : List Value := [.int .i64 p.1.s, .int .i64 p.1.r, .int .i64 p.1.c, .int .i64 p.2]
def flatV : List (Wpl.Cl × Int) → List Value
  | [] => []
  | x :: r => wtV x ++ flatV r
theorem flatV_len : ∀ A : List (Wpl.Cl × Int), (flatV A).length = A.length * 4
  | [] => rfl
  | x :: r => by simp [flatV, flatV_len r, wtV]; omega
theorem flatV_app : ∀ (A C : List (Wpl.Cl × Int)), flatV (A ++ C) = flatV A ++ flatV C
  | [], C => rfl
  | x :: r, C => by simp [flatV, flatV_app r C]
theorem flatV_gt : ∀ (A : List (Wpl.Cl × Int)) (i : Nat) (h : i < A.length) (c : Nat), c < 4 → (flatV A)[i * 4 + c]? = (wtV (A[i]))[c]?
  | [], i, h, c, hc => absurd h (Nat.not_lt_zero _)
  | x :: r, 0, h, c, hc => by
    show (wtV x ++ flatV r)[0 * 4 + c]? = _
    rw [Nat.zero_mul, Nat.zero_add, List.getElem?_append_left (by simpa [wtV] using hc)]
    rfl
  | x :: r, i + 1, h, c, hc => by
    show (wtV x ++ flatV r)[(i + 1) * 4 + c]? = _
    rw [List.getElem?_append_right (by simp [wtV]; omega), show (i + 1) * 4 + c - (wtV x).length = i * 4 + c from by simp [wtV]; omega, flatV_gt r i (by simpa using h) c hc]
    rfl
theorem oneVl (x : Wpl.Cl × Int) : ∀ u ∈ wtV x, u.oneCell' = true := fun u h => by
  simp [wtV] at h
  rcases h with h | h | h | h <;> (subst h; rfl)
theorem oneV : ∀ (l : List (Wpl.Cl × Int)), ∀ u ∈ flatV l, u.oneCell' = true
  | [], u, hu => by cases hu
  | y :: r, u, hu => by
    rcases List.mem_append.1 hu with q | q
    · exact oneVl y u q
    · exact oneV r u q
/-- Such a row is read there. -/
def RdV (w : World) (av : Option Addr) (R : List (Wpl.Cl × Int)) : Prop := ∀ (i : Nat) (p : Wpl.Cl × Int), R[i]? = some p → ∃ bb off, av = some ⟨bb, off, none⟩ ∧ w.rangeAt bb (off + i * 4) (wtV p)
theorem RdV.below {w w' : World} {av : Option Addr} {R : List (Wpl.Cl × Int)} (h : RdV w av R) (hb : Below w.heap.size w w') : RdV w' av R := fun i a ha => by
  obtain ⟨bb, off, e, hr⟩ := h i a ha
  exact ⟨bb, off, e, fun j v hv => cell_below hb (hr j v hv)⟩
/-- A cell and its level in a block. -/
abbrev Four (W : World) (k : Nat) (p : Wpl.Cl × Int) : Prop := (W.cell? ⟨k, 0, none⟩ = some (.int .i64 p.1.s) ∧ W.cell? ⟨k, 1, none⟩ = some (.int .i64 p.1.r)) ∧ W.cell? ⟨k, 2, none⟩ = some (.int .i64 p.1.c) ∧ W.cell? ⟨k, 3, none⟩ = some (.int .i64 p.2)
theorem Four.below {W W' : World} {k : Nat} {p : Wpl.Cl × Int} (h : Four W k p) (hb : Below W.heap.size W W') : Four W' k p :=
  ⟨⟨cell_below hb h.1.1, cell_below hb h.1.2⟩, cell_below hb h.2.1, cell_below hb h.2.2⟩
/-- The document's own queue, read. -/
structure Dr (w : World) (db : Nat) (R : List (Wpl.Cl × Int)) (A : List Wpl.Ar) (a1 : Option Addr) (n c1 : Nat) (a2 : Option Addr) (m c2 : Nat) : Prop where
  hd : AtL w db [.slice a1 n c1, .slice a2 m c2]
  rl : RdV w a1 R
  ll : R.length = n
  rs : RdQ w a2 A
  ls : A.length = m
theorem Dr.below {w w' : World} {db : Nat} {R : List (Wpl.Cl × Int)} {A : List Wpl.Ar} {a1 : Option Addr} {n c1 : Nat} {a2 : Option Addr} {m c2 : Nat} (h : Dr w db R A a1 n c1 a2 m c2) (hb : Below w.heap.size w w') : Dr w' db R A a1 n c1 a2 m c2 := ⟨AtL.below hb h.hd, h.rl.below hb, h.ll, h.rs.below hb, h.ls⟩
theorem eqCl_bin (x y : Wpl.Cl) (w : World) : (binOp .eql 33 (.agg #[.int .i64 x.s, .int .i64 x.r, .int .i64 x.c]) (.agg #[.int .i64 y.s, .int .i64 y.r, .int .i64 y.c])).run Try.prog w = .ok (.bool (eqCl x y)) w := by
  rw [run_eql_struct]
  unfold eqCl
  by_cases h1 : x.s = y.s
  · by_cases h2 : x.r = y.r
    · by_cases h3 : x.c = y.c
      · simp [go_sem, h1, h2, h3]
      · simp [go_sem, h1, h2, h3]
    · simp [go_sem, h1, h2]
  · simp [go_sem, h1]
/-- What find answers. -/
def FnP (R : List (Wpl.Cl × Int)) (x : Wpl.Cl) (w : World) (en : Ending) (w' : World) : Prop := (∃ z : Int, en = .returned (.int .i64 z) ∧ ((z = -1 ∧ ∀ p ∈ R, p.1 ≠ x) ∨ ∃ (i : Nat) (p : Wpl.Cl × Int), z = (i : Int) ∧ R[i]? = some p ∧ p.1 = x)) ∧ Below w.heap.size w w'
set_option maxRecDepth 100000 in
set_option maxHeartbeats 4000000 in
theorem find_any (db : Nat) (R : List (Wpl.Cl × Int)) (A : List Wpl.Ar) (a1 : Option Addr) (n c1 : Nat) (a2 : Option Addr) (m c2 : Nat) (x : Wpl.Cl) (w : World) (h : Dr w db R A a1 n c1 a2 m c2) (hN : True → n ≤ 1000000000) :
    Calls Try.prog 29 #[.pointer (some ⟨db, 0, none⟩), .agg #[.int .i64 x.s, .int .i64 x.r, .int .i64 x.c]] w (FnP R x w) := by
  have hb0 := ball (Below.refl _ w) (.cells #[.int .i64 x.s, .int .i64 x.r, .int .i64 x.c] 33)
  have HD0 : Hid (Dr (w.alloc (.cells #[.int .i64 x.s, .int .i64 x.r, .int .i64 x.c] 33)) db R A a1 n c1 a2 m c2) := h.below hb0
  have HT3 : Hid (Three (w.alloc (.cells #[.int .i64 x.s, .int .i64 x.r, .int .i64 x.c] 33)) w.heap.size (.int .i64 x.s) (.int .i64 x.r) (.int .i64 x.c)) := AtL.f3 (AtL.new0 w 33 [.int .i64 x.s, .int .i64 x.r, .int .i64 x.c])
  have HB0 : Hid (Below w.heap.size w (w.alloc (.cells #[.int .i64 x.s, .int .i64 x.r, .int .i64 x.c] 33))) := hb0
  clear h hb0
  go_enter Try.func29, Try.ntmps29
  go_upto_region 2 with fail
  have HSZ : Hid (∃ eb, w.heap.size = eb) := ⟨_, rfl⟩
  generalize w.alloc (.cells #[.int .i64 x.s, .int .i64 x.r, .int .i64 x.c] 33) = W0 at *
  obtain ⟨eb, heb⟩ := HSZ.out
  have HT3 : Hid (Three W0 eb (.int .i64 x.s) (.int .i64 x.r) (.int .i64 x.c)) := by rw [← heb]; exact HT3.out
  rw [heb]
  clear heb HSZ
  go_loopg [5] n (fun gk u wr => ∃ i : Nat, u = .int .i64 (i : Int) ∧ gk = n - i ∧ i ≤ n ∧ Hid (Below W0.heap.size W0 wr) ∧ Hid (∀ (j : Nat) (p : Wpl.Cl × Int), j < i → R[j]? = some p → p.1 ≠ x))
  case atStart => exact ⟨0, rfl, rfl, Nat.zero_le _, Below.refl _ _, fun j p hj _ => absurd hj (Nat.not_lt_zero _)⟩
  case round =>
    obtain ⟨i, rfl, hg, hi, HB, HS⟩ := hrel
    generalize hw9 : wr = W1 at *
    clear hw9
    obtain ⟨c0, _, _, _⟩ := (HD0.out.below HB.out).hd.two
    by_cases hlt : i < n
    · have hii : (i : Int) < (n : Int) := by omega
      have hiz : (0 : Int) ≤ (i : Int) := by omega
      have hwi : IntKind.i64.wrap ((i : Int) + 1) = (i : Int) + 1 := by have := hN trivial; rw [IntKind.wrap_i64]; omega
      obtain ⟨p, hp⟩ : ∃ p, R[i]? = some p := ⟨R[i]'(by rw [HD0.out.ll]; exact hlt), List.getElem?_eq_getElem _⟩
      obtain ⟨bb, off, e, hrow⟩ := HD0.out.rl.below HB.out i p hp
      subst e
      have k0 : W1.cell? ⟨bb, off + i * 4, none⟩ = some (.int .i64 p.1.s) := hrow 0 _ rfl
      have k1 : W1.cell? ⟨bb, off + i * 4 + 1, none⟩ = some (.int .i64 p.1.r) := hrow 1 _ rfl
      have k2 : W1.cell? ⟨bb, off + i * 4 + 2, none⟩ = some (.int .i64 p.1.c) := hrow 2 _ rfl
      have t3 := three_below HB.out HT3.out
      have HPP : Hid (R[i]? = some p) := hp
      obtain ⟨q, hq⟩ : ∃ q, eqCl p.1 x = q := ⟨_, rfl⟩
      have HE : Hid (eqCl p.1 x = q) := hq
      have eq := fun w => eqCl_bin p.1 x w
      rw [hq] at eq
      clear hp hrow hq
      go_upto_region 4 with fail
      have hb1 := (Below.refl W1.heap.size W1).drew
      refine wp_region_held_drew (S := fun W => W.cell? ⟨db, 0, none⟩ = some (.slice (some ⟨bb, off, none⟩) n c1) ∧ Three W eb (.int .i64 x.s) (.int .i64 x.r) (.int .i64 x.c) ∧ W.cell? ⟨bb, off + i * 4, none⟩ = some (.int .i64 p.1.s) ∧ W.cell? ⟨bb, off + i * 4 + 1, none⟩ = some (.int .i64 p.1.r) ∧ W.cell? ⟨bb, off + i * 4 + 2, none⟩ = some (.int .i64 p.1.c)) (by kernel_rfl) ⟨cell_below hb1 c0, three_drew t3, cell_below hb1 k0, cell_below hb1 k1, cell_below hb1 k2⟩ (fun hHeld => ?_)
      have HB2 : Hid (Below W0.heap.size W0 W1.drew) := below_end HB.out hb1
      clear hb1 HB c0 t3 k0 k1 k2
      generalize W1.drew = W2 at *
      refine wpAnyH_take (i := 0) (oi := { dst := Option.some 15, op := Op.move (Operand.tmp 0), type := 27, pos := "queue.go:23", after := #[], guard := Option.none }) (v := ?_) rfl (by kernel_rfl) (by kernel_rfl) (by kernel_rfl) (fun _ _ _ h => h) (Or.inl ⟨by rfl, ?_⟩) (by assumption) ?_
      rotate_left
      · intro w hSw
        (try dsimp only at hSw)
        go_simp
        try with_reducible rfl
      try simp only [Act.put, List.setIfInBounds_toArray, List.set_cons_zero, List.set_cons_succ]
      refine wpAnyH_take (i := 1) (oi := { dst := Option.some 16, op := Op.nilCheck (Operand.tmp 15), type := 0, pos := "queue.go:23", after := #[{ on := 0, ground := Ground.data }], guard := Option.none }) (v := ?_) rfl (by kernel_rfl) (by kernel_rfl) (by kernel_rfl) (fun _ _ _ h => h) (Or.inl ⟨by rfl, ?_⟩) (by assumption) ?_
      rotate_left
      · intro w hSw
        (try dsimp only at hSw)
        go_simp
        try with_reducible rfl
      try simp only [Act.put, List.setIfInBounds_toArray, List.set_cons_zero, List.set_cons_succ]
      refine wpAnyH_take (i := 2) (oi := { dst := Option.some 17, op := Op.fieldAddr 31 (Operand.tmp 16) 0, type := 0, pos := "queue.go:23", after := #[{ on := 1, ground := Ground.data }], guard := Option.none }) (v := ?_) rfl (by kernel_rfl) (by kernel_rfl) (by kernel_rfl) (fun _ _ _ h => h) (Or.inl ⟨by rfl, ?_⟩) (by assumption) ?_
      rotate_left
      · intro w hSw
        (try dsimp only at hSw)
        go_simp
        try with_reducible rfl
      try simp only [Act.put, List.setIfInBounds_toArray, List.set_cons_zero, List.set_cons_succ]
      refine wpAnyH_take (i := 3) (oi := { dst := Option.some 18, op := Op.load 28 (Operand.tmp 17), type := 28, pos := "queue.go:23", after := #[{ on := 2, ground := Ground.data }], guard := Option.none }) (v := ?_) rfl (by kernel_rfl) (by kernel_rfl) (by kernel_rfl) (fun _ _ _ h => h) (Or.inl ⟨by rfl, ?_⟩) (by assumption) ?_
      rotate_left
      · intro w hSw
        (try dsimp only at hSw)
        go_simp
        try with_reducible rfl
      try simp only [Act.put, List.setIfInBounds_toArray, List.set_cons_zero, List.set_cons_succ]
      refine wpAnyH_take (i := 4) (oi := { dst := Option.some 19, op := Op.move (Operand.tmp 5), type := 3, pos := "queue.go:23", after := #[], guard := Option.none }) (v := ?_) rfl (by kernel_rfl) (by kernel_rfl) (by kernel_rfl) (fun _ _ _ h => h) (Or.inl ⟨by rfl, ?_⟩) (by assumption) ?_
      rotate_left
      · intro w hSw
        (try dsimp only at hSw)
        go_simp
        try with_reducible rfl
      try simp only [Act.put, List.setIfInBounds_toArray, List.set_cons_zero, List.set_cons_succ]
      refine wpAnyH_take (i := 5) (oi := { dst := Option.some 20, op := Op.indexAddr 28 (Operand.tmp 18) (Operand.tmp 19), type := 0, pos := "queue.go:23", after := #[{ on := 3, ground := Ground.data }, { on := 4, ground := Ground.data }], guard := Option.none }) (v := ?_) rfl (by kernel_rfl) (by kernel_rfl) (by kernel_rfl) (fun _ _ _ h => h) (Or.inl ⟨by rfl, ?_⟩) (by assumption) ?_
      rotate_left
      · intro w hSw
        (try dsimp only at hSw)
        go_simp
        try with_reducible rfl
      try simp only [Act.put, List.setIfInBounds_toArray, List.set_cons_zero, List.set_cons_succ]
      refine wpAnyH_take (i := 6) (oi := { dst := Option.some 21, op := Op.fieldAddr 64 (Operand.tmp 20) 0, type := 0, pos := "queue.go:23", after := #[{ on := 5, ground := Ground.data }], guard := Option.none }) (v := ?_) rfl (by kernel_rfl) (by kernel_rfl) (by kernel_rfl) (fun _ _ _ h => h) (Or.inl ⟨by rfl, ?_⟩) (by assumption) ?_
      rotate_left
      · intro w hSw
        (try dsimp only at hSw)
        go_simp
        try with_reducible rfl
      try simp only [Act.put, List.setIfInBounds_toArray, List.set_cons_zero, List.set_cons_succ]
      refine wpAnyH_take (i := 7) (oi := { dst := Option.some 22, op := Op.load 33 (Operand.tmp 21), type := 33, pos := "queue.go:23", after := #[{ on := 6, ground := Ground.data }], guard := Option.none }) (v := ?_) rfl (by kernel_rfl) (by kernel_rfl) (by kernel_rfl) (fun _ _ _ h => h) (Or.inl ⟨by rfl, ?_⟩) (by assumption) ?_
      rotate_left
      · intro w hSw
        (try dsimp only at hSw)
        go_simp
        try with_reducible rfl
      try simp only [Act.put, List.setIfInBounds_toArray, List.set_cons_zero, List.set_cons_succ]
      refine wpAnyH_take (i := 8) (oi := { dst := Option.some 23, op := Op.load 33 (Operand.tmp 3), type := 33, pos := "queue.go:23", after := #[], guard := Option.none }) (v := ?_) rfl (by kernel_rfl) (by kernel_rfl) (by kernel_rfl) (fun _ _ _ h => h) (Or.inl ⟨by rfl, ?_⟩) (by assumption) ?_
      rotate_left
      · intro w hSw
        (try dsimp only at hSw)
        go_simp
        try with_reducible rfl
      try simp only [Act.put, List.setIfInBounds_toArray, List.set_cons_zero, List.set_cons_succ]
      refine wpAnyH_take (i := 9) (oi := { dst := Option.some 24, op := Op.binOp BinOp.eql 33 (Operand.tmp 22) (Operand.tmp 23) 33, type := 4, pos := "queue.go:23", after := #[{ on := 7, ground := Ground.data }, { on := 8, ground := Ground.data }], guard := Option.none }) (v := ?_) rfl (by kernel_rfl) (by kernel_rfl) (by kernel_rfl) (fun _ _ _ h => h) (Or.inl ⟨by rfl, ?_⟩) (by assumption) ?_
      rotate_left
      · intro w hSw
        (try dsimp only at hSw)
        go_simp
        try with_reducible rfl
      try simp only [Act.put, List.setIfInBounds_toArray, List.set_cons_zero, List.set_cons_succ]
      refine wpAnyH_done (by kernel_rfl) ?_ _
      clear hHeld

      cases q with
      | true =>
        have HR : Hid (FnP R x w (.returned (.int .i64 (i : Int))) W2) := ⟨⟨(i : Int), rfl, Or.inr ⟨i, p, rfl, HPP.out, eqCl_iff.1 HE.out⟩⟩, below_end HB0.out HB2.out⟩
        go_wp2_with fail
        go_ret
        exact HR.out
      | false =>
        have HS2 : Hid (∀ (j : Nat) (p : Wpl.Cl × Int), j < i + 1 → R[j]? = some p → p.1 ≠ x) := fun j p' hj hp' e => by
          by_cases c : j = i
          · subst c
            rw [HPP.out] at hp'
            cases hp'
            have := HE.out
            rw [eqCl_iff.2 e] at this
            cases this
          · exact HS.out j p' (by omega) hp' e
        clear HS
        go_wp2_with fail
        go_roundg (n - (i + 1))
        case rel => exact ⟨i + 1, by simp, rfl, hlt, HB2, HS2⟩
        case measure => omega
    · have hii : ¬ (i : Int) < (n : Int) := by omega
      have HR : Hid (FnP R x w (.returned (.int .i64 (-1))) W1) := ⟨⟨-1, rfl, Or.inl ⟨rfl, fun p hp e => by
        obtain ⟨j, hj, ej⟩ := List.getElem_of_mem hp
        have := HD0.out.ll
        exact HS.out j p (by omega) (by rw [List.getElem?_eq_getElem hj, ej]) e⟩⟩, below_end HB0.out HB.out⟩
      go_wp2_with fail
      go_ret
      exact HR.out
/-- An entry with the lane that its cell has. -/
def wrR (A : List Wpl.Ar) (p : Wpl.Cl × Int) : Wq.Wr := ⟨p.1.s, p.1.r, p.1.c, lnQ A p.1, p.2⟩
theorem ahead_eq (A : List Wpl.Ar) (p q : Wpl.Cl × Int) (x y : Bool) (hx : seeQ A p.1 = x) (hy : seeQ A q.1 = y) : Wq.ltW (wrR A p) (wrR A q) = (if (x != y) = true then x else if p.2 ≠ q.2 then decide (p.2 < q.2) else Wpl.before p.1.s p.1.r p.1.c q.1.s q.1.r q.1.c) := by
  have hbf : Wpl.before p.1.s p.1.r p.1.c q.1.s q.1.r q.1.c = decide (p.1.s < q.1.s ∨ p.1.s = q.1.s ∧ (p.1.r < q.1.r ∨ p.1.r = q.1.r ∧ p.1.c < q.1.c)) := by
    unfold Wpl.before
    by_cases h : p.1.s = q.1.s
    · rw [if_neg (by simp [h])]
      by_cases k : p.1.r = q.1.r
      · rw [if_neg (by simp [k])]
        congr 1
        apply propext
        omega
      · rw [if_pos k]
        congr 1
        apply propext
        omega
    · rw [if_pos h]
      congr 1
      apply propext
      omega
  rw [hbf]
  unfold Wq.ltW wrR lnQ
  rw [hx, hy]
  by_cases h : p.2 = q.2
  · cases x <;> cases y <;> simp [h]
  · cases x <;> cases y <;> simp [h]
theorem wtAgg (p : Wpl.Cl × Int) : (wtV p).toArray = #[.int .i64 p.1.s, .int .i64 p.1.r, .int .i64 p.1.c, .int .i64 p.2] := rfl
set_option maxRecDepth 100000 in
set_option maxHeartbeats 8000000 in
theorem rahead_any (db : Nat) (R : List (Wpl.Cl × Int)) (A : List Wpl.Ar) (a1 : Option Addr) (n c1 : Nat) (a2 : Option Addr) (m c2 : Nat) (p q : Wpl.Cl × Int) (w : World) (h : Dr w db R A a1 n c1 a2 m c2) (hM : True → m ≤ 1000000000) :
    Calls Try.prog 47 #[.pointer (some ⟨db, 0, none⟩), .agg (wtV p).toArray, .agg (wtV q).toArray] w fun en w' => en = .returned (.bool (Wq.ltW (wrR A p) (wrR A q))) ∧ Below w.heap.size w w' := by
  have hb0 := ball (ball (Below.refl _ w) (.cells #[.int .i64 p.1.s, .int .i64 p.1.r, .int .i64 p.1.c, .int .i64 p.2] 64)) (.cells #[.int .i64 q.1.s, .int .i64 q.1.r, .int .i64 q.1.c, .int .i64 q.2] 64)
  have p1 := (AtL.new0 w 64 [.int .i64 p.1.s, .int .i64 p.1.r, .int .i64 p.1.c, .int .i64 p.2]).alloc (.cells #[.int .i64 q.1.s, .int .i64 q.1.r, .int .i64 q.1.c, .int .i64 q.2] 64)
  have p2 := AtL.new1 w (.cells #[.int .i64 p.1.s, .int .i64 p.1.r, .int .i64 p.1.c, .int .i64 p.2] 64) 64 [.int .i64 q.1.s, .int .i64 q.1.r, .int .i64 q.1.c, .int .i64 q.2]
  have fp : Four _ _ p := ⟨⟨p1.2.1 0 _ rfl, p1.2.1 1 _ rfl⟩, p1.2.1 2 _ rfl, p1.2.1 3 _ rfl⟩
  have fq : Four _ _ q := ⟨⟨p2.2.1 0 _ rfl, p2.2.1 1 _ rfl⟩, p2.2.1 2 _ rfl, p2.2.1 3 _ rfl⟩
  have HD0 : Hid (Dr _ db R A a1 n c1 a2 m c2) := h.below hb0
  have HB0 : Hid (Below w.heap.size w _) := hb0
  obtain ⟨x, hx⟩ : ∃ x, seeQ A p.1 = x := ⟨_, rfl⟩
  obtain ⟨y, hy⟩ : ∃ y, seeQ A q.1 = y := ⟨_, rfl⟩
  have HSP : Hid (seeQ A p.1 = x) := hx
  have HSQ : Hid (seeQ A q.1 = y) := hy
  obtain ⟨E, hE⟩ : ∃ E, Wq.ltW (wrR A p) (wrR A q) = E := ⟨_, rfl⟩
  have HE : Hid (E = (if (x != y) = true then x else if p.2 ≠ q.2 then decide (p.2 < q.2) else Wpl.before p.1.s p.1.r p.1.c q.1.s q.1.r q.1.c)) := by rw [← hE]; exact ahead_eq A p q x y hx hy
  rw [hE, wtAgg, wtAgg]
  clear h hb0 p1 p2 hx hy hE
  go_enter Try.func47, Try.ntmps47
  go_upto_region 1 with fail
  generalize (w.alloc (.cells #[.int .i64 p.1.s, .int .i64 p.1.r, .int .i64 p.1.c, .int .i64 p.2] 64)).alloc (.cells #[.int .i64 q.1.s, .int .i64 q.1.r, .int .i64 q.1.c, .int .i64 q.2] 64) = W0 at *
  have HSZ : Hid (∃ eb ec, w.heap.size = eb ∧ w.heap.size + 1 = ec) := ⟨_, _, rfl, rfl⟩
  obtain ⟨eb, ec, heb, hec⟩ := HSZ.out
  rw [hec]
  rw [heb]
  rw [heb] at fp
  rw [hec] at fq
  clear heb hec HSZ
  have hb1 := (Below.refl W0.heap.size W0).drew
  obtain ⟨_, d1, _, _⟩ := HD0.out.hd.two
  refine wp_region_held_drew (S := fun W => W.cell? ⟨db, 1, none⟩ = some (.slice a2 m c2) ∧ Four W eb p ∧ Four W ec q) (by kernel_rfl) ⟨cell_below hb1 d1, fp.below hb1, fq.below hb1⟩ (fun hHeld => ?_)
  have HD1 : Hid (Dr W0.drew db R A a1 n c1 a2 m c2) := HD0.out.below hb1
  replace fp := fp.below hb1
  replace fq := fq.below hb1
  have HB1 : Hid (Below w.heap.size w W0.drew) := below_end HB0.out hb1
  clear hb1 d1 HB0
  generalize W0.drew = W1 at *
  refine wpAnyH_take (i := 0) (oi := { dst := Option.some 9, op := Op.move (Operand.tmp 0), type := 27, pos := "queue.go:70", after := #[], guard := Option.none }) (v := ?_) rfl (by kernel_rfl) (by kernel_rfl) (by kernel_rfl) (fun _ _ _ h => h) (Or.inl ⟨by rfl, ?_⟩) (by assumption) ?_
  rotate_left
  · intro w hSw
    (try dsimp only at hSw)
    go_simp
    try with_reducible rfl
  try simp only [Act.put, List.setIfInBounds_toArray, List.set_cons_zero, List.set_cons_succ]
  refine wpAnyH_take (i := 1) (oi := { dst := Option.some 10, op := Op.nilCheck (Operand.tmp 9), type := 0, pos := "queue.go:70", after := #[{ on := 0, ground := Ground.data }], guard := Option.none }) (v := ?_) rfl (by kernel_rfl) (by kernel_rfl) (by kernel_rfl) (fun _ _ _ h => h) (Or.inl ⟨by rfl, ?_⟩) (by assumption) ?_
  rotate_left
  · intro w hSw
    (try dsimp only at hSw)
    go_simp
    try with_reducible rfl
  try simp only [Act.put, List.setIfInBounds_toArray, List.set_cons_zero, List.set_cons_succ]
  refine wpAnyH_take (i := 2) (oi := { dst := Option.some 11, op := Op.fieldAddr 31 (Operand.tmp 10) 1, type := 0, pos := "queue.go:70", after := #[{ on := 1, ground := Ground.data }], guard := Option.none }) (v := ?_) rfl (by kernel_rfl) (by kernel_rfl) (by kernel_rfl) (fun _ _ _ h => h) (Or.inl ⟨by rfl, ?_⟩) (by assumption) ?_
  rotate_left
  · intro w hSw
    (try dsimp only at hSw)
    go_simp
    try with_reducible rfl
  try simp only [Act.put, List.setIfInBounds_toArray, List.set_cons_zero, List.set_cons_succ]
  refine wpAnyH_take (i := 3) (oi := { dst := Option.some 12, op := Op.load 29 (Operand.tmp 11), type := 29, pos := "queue.go:70", after := #[{ on := 2, ground := Ground.data }], guard := Option.none }) (v := ?_) rfl (by kernel_rfl) (by kernel_rfl) (by kernel_rfl) (fun _ _ _ h => h) (Or.inl ⟨by rfl, ?_⟩) (by assumption) ?_
  rotate_left
  · intro w hSw
    (try dsimp only at hSw)
    go_simp
    try with_reducible rfl
  try simp only [Act.put, List.setIfInBounds_toArray, List.set_cons_zero, List.set_cons_succ]
  refine wpAnyH_take (i := 4) (oi := { dst := Option.some 13, op := Op.fieldAddr 64 (Operand.tmp 4) 0, type := 0, pos := "queue.go:70", after := #[], guard := Option.none }) (v := ?_) rfl (by kernel_rfl) (by kernel_rfl) (by kernel_rfl) (fun _ _ _ h => h) (Or.inl ⟨by rfl, ?_⟩) (by assumption) ?_
  rotate_left
  · intro w hSw
    (try dsimp only at hSw)
    go_simp
    try with_reducible rfl
  try simp only [Act.put, List.setIfInBounds_toArray, List.set_cons_zero, List.set_cons_succ]
  refine wpAnyH_take (i := 5) (oi := { dst := Option.some 14, op := Op.load 33 (Operand.tmp 13), type := 33, pos := "queue.go:70", after := #[{ on := 4, ground := Ground.data }], guard := Option.none }) (v := ?_) rfl (by kernel_rfl) (by kernel_rfl) (by kernel_rfl) (fun _ _ _ h => h) (Or.inl ⟨by rfl, ?_⟩) (by assumption) ?_
  rotate_left
  · intro w hSw
    (try dsimp only at hSw)
    go_simp
    try with_reducible rfl
  try simp only [Act.put, List.setIfInBounds_toArray, List.set_cons_zero, List.set_cons_succ]
  refine wpAnyH_ready (rs := [6]) (by kernel_rfl) (by simp) ?_
  refine AllReadyH.cons (o := { dst := Option.some 15, op := Op.call { callee := Callee.value (Operand.func 57), args := #[Operand.tmp 12, Operand.tmp 14], argTypes := #[29, 33] }, type := 4, pos := "queue.go:70", after := #[{ on := 3, ground := Ground.data }, { on := 5, ground := Ground.data }], guard := Option.none }) rfl (fun K hK => ?_) AllReadyH.nil
  have SN := rsees_any A p.1 a2 m c2 W1 HD1.out.rs HD1.out.ls (fun _ => hM trivial)
  rw [HSP.out] at SN
  go_simp
  refine SN.mono ?_
  rintro en w1 ⟨rfl, hb4⟩
  have HD2 : Hid (Dr w1 db R A a1 n c1 a2 m c2) := HD1.out.below hb4
  have HB2 : Hid (Below w.heap.size w w1) := below_end HB1.out hb4
  replace fp := fp.below hb4
  replace fq := fq.below hb4
  obtain ⟨_, d1, _, _⟩ := HD2.out.hd.two
  clear SN hb4 HD1 HB1
  go_wp2_with fail
  refine hK.out _ _ ⟨d1, fp, fq⟩ (fun hHeld => ?_)
  clear hK K
  try simp only [Act.put, List.setIfInBounds_toArray, List.set_cons_zero, List.set_cons_succ]
  refine wpAnyH_ready (rs := [7]) (by kernel_rfl) (by simp) ?_
  refine AllReadyH.cons (o := { dst := Option.some 7, op := Op.assign (Operand.tmp 15), type := 4, pos := "queue.go:70", after := #[{ on := 6, ground := Ground.data }, { on := 6, ground := Ground.chain }, { on := 0, ground := Ground.phase }, { on := 1, ground := Ground.phase }, { on := 2, ground := Ground.phase }, { on := 3, ground := Ground.phase }, { on := 4, ground := Ground.phase }, { on := 5, ground := Ground.phase }, { on := 6, ground := Ground.phase }], guard := Option.none }) rfl (fun K hK => ?_) AllReadyH.nil
  go_simp
  refine hK.out _ _ ⟨d1, fp, fq⟩ (fun hHeld => ?_)
  clear hK K d1
  try simp only [Act.put, List.setIfInBounds_toArray, List.set_cons_zero, List.set_cons_succ]
  refine wpAnyH_done (by kernel_rfl) ?_ _
  clear hHeld

  go_upto_region 2 with fail
  have hb1 := (Below.refl w1.heap.size w1).drew
  obtain ⟨_, d1, _, _⟩ := HD2.out.hd.two
  refine wp_region_held_drew (S := fun W => W.cell? ⟨db, 1, none⟩ = some (.slice a2 m c2) ∧ Four W eb p ∧ Four W ec q) (by kernel_rfl) ⟨cell_below hb1 d1, fp.below hb1, fq.below hb1⟩ (fun hHeld => ?_)
  have HD3 : Hid (Dr w1.drew db R A a1 n c1 a2 m c2) := HD2.out.below hb1
  replace fp := fp.below hb1
  replace fq := fq.below hb1
  have HB3 : Hid (Below w.heap.size w w1.drew) := below_end HB2.out hb1
  clear hb1 d1 HB2
  generalize w1.drew = W2 at *
  refine wpAnyH_take (i := 0) (oi := { dst := Option.some 16, op := Op.move (Operand.tmp 0), type := 27, pos := "queue.go:71", after := #[], guard := Option.none }) (v := ?_) rfl (by kernel_rfl) (by kernel_rfl) (by kernel_rfl) (fun _ _ _ h => h) (Or.inl ⟨by rfl, ?_⟩) (by assumption) ?_
  rotate_left
  · intro w hSw
    (try dsimp only at hSw)
    go_simp
    try with_reducible rfl
  try simp only [Act.put, List.setIfInBounds_toArray, List.set_cons_zero, List.set_cons_succ]
  refine wpAnyH_take (i := 1) (oi := { dst := Option.some 17, op := Op.nilCheck (Operand.tmp 16), type := 0, pos := "queue.go:71", after := #[{ on := 0, ground := Ground.data }], guard := Option.none }) (v := ?_) rfl (by kernel_rfl) (by kernel_rfl) (by kernel_rfl) (fun _ _ _ h => h) (Or.inl ⟨by rfl, ?_⟩) (by assumption) ?_
  rotate_left
  · intro w hSw
    (try dsimp only at hSw)
    go_simp
    try with_reducible rfl
  try simp only [Act.put, List.setIfInBounds_toArray, List.set_cons_zero, List.set_cons_succ]
  refine wpAnyH_take (i := 2) (oi := { dst := Option.some 18, op := Op.fieldAddr 31 (Operand.tmp 17) 1, type := 0, pos := "queue.go:71", after := #[{ on := 1, ground := Ground.data }], guard := Option.none }) (v := ?_) rfl (by kernel_rfl) (by kernel_rfl) (by kernel_rfl) (fun _ _ _ h => h) (Or.inl ⟨by rfl, ?_⟩) (by assumption) ?_
  rotate_left
  · intro w hSw
    (try dsimp only at hSw)
    go_simp
    try with_reducible rfl
  try simp only [Act.put, List.setIfInBounds_toArray, List.set_cons_zero, List.set_cons_succ]
  refine wpAnyH_take (i := 3) (oi := { dst := Option.some 19, op := Op.load 29 (Operand.tmp 18), type := 29, pos := "queue.go:71", after := #[{ on := 2, ground := Ground.data }], guard := Option.none }) (v := ?_) rfl (by kernel_rfl) (by kernel_rfl) (by kernel_rfl) (fun _ _ _ h => h) (Or.inl ⟨by rfl, ?_⟩) (by assumption) ?_
  rotate_left
  · intro w hSw
    (try dsimp only at hSw)
    go_simp
    try with_reducible rfl
  try simp only [Act.put, List.setIfInBounds_toArray, List.set_cons_zero, List.set_cons_succ]
  refine wpAnyH_take (i := 4) (oi := { dst := Option.some 20, op := Op.fieldAddr 64 (Operand.tmp 5) 0, type := 0, pos := "queue.go:71", after := #[], guard := Option.none }) (v := ?_) rfl (by kernel_rfl) (by kernel_rfl) (by kernel_rfl) (fun _ _ _ h => h) (Or.inl ⟨by rfl, ?_⟩) (by assumption) ?_
  rotate_left
  · intro w hSw
    (try dsimp only at hSw)
    go_simp
    try with_reducible rfl
  try simp only [Act.put, List.setIfInBounds_toArray, List.set_cons_zero, List.set_cons_succ]
  refine wpAnyH_take (i := 5) (oi := { dst := Option.some 21, op := Op.load 33 (Operand.tmp 20), type := 33, pos := "queue.go:71", after := #[{ on := 4, ground := Ground.data }], guard := Option.none }) (v := ?_) rfl (by kernel_rfl) (by kernel_rfl) (by kernel_rfl) (fun _ _ _ h => h) (Or.inl ⟨by rfl, ?_⟩) (by assumption) ?_
  rotate_left
  · intro w hSw
    (try dsimp only at hSw)
    go_simp
    try with_reducible rfl
  try simp only [Act.put, List.setIfInBounds_toArray, List.set_cons_zero, List.set_cons_succ]
  refine wpAnyH_ready (rs := [6]) (by kernel_rfl) (by simp) ?_
  refine AllReadyH.cons (o := { dst := Option.some 22, op := Op.call { callee := Callee.value (Operand.func 57), args := #[Operand.tmp 19, Operand.tmp 21], argTypes := #[29, 33] }, type := 4, pos := "queue.go:71", after := #[{ on := 3, ground := Ground.data }, { on := 5, ground := Ground.data }], guard := Option.none }) rfl (fun K hK => ?_) AllReadyH.nil
  have SN := rsees_any A q.1 a2 m c2 W2 HD3.out.rs HD3.out.ls (fun _ => hM trivial)
  rw [HSQ.out] at SN
  go_simp
  refine SN.mono ?_
  rintro en w3 ⟨rfl, hb4⟩
  have HD4 : Hid (Dr w3 db R A a1 n c1 a2 m c2) := HD3.out.below hb4
  have HB4 : Hid (Below w.heap.size w w3) := below_end HB3.out hb4
  replace fp := fp.below hb4
  replace fq := fq.below hb4
  obtain ⟨_, d1, _, _⟩ := HD4.out.hd.two
  clear SN hb4 HD3 HB3
  go_wp2_with fail
  refine hK.out _ _ ⟨d1, fp, fq⟩ (fun hHeld => ?_)
  clear hK K
  try simp only [Act.put, List.setIfInBounds_toArray, List.set_cons_zero, List.set_cons_succ]
  refine wpAnyH_ready (rs := [7]) (by kernel_rfl) (by simp) ?_
  refine AllReadyH.cons (o := { dst := Option.some 8, op := Op.assign (Operand.tmp 22), type := 4, pos := "queue.go:71", after := #[{ on := 6, ground := Ground.data }, { on := 6, ground := Ground.chain }, { on := 0, ground := Ground.phase }, { on := 1, ground := Ground.phase }, { on := 2, ground := Ground.phase }, { on := 3, ground := Ground.phase }, { on := 4, ground := Ground.phase }, { on := 5, ground := Ground.phase }, { on := 6, ground := Ground.phase }], guard := Option.none }) rfl (fun K hK => ?_) AllReadyH.nil
  go_simp
  refine hK.out _ _ ⟨d1, fp, fq⟩ (fun hHeld => ?_)
  clear hK K d1
  try simp only [Act.put, List.setIfInBounds_toArray, List.set_cons_zero, List.set_cons_succ]
  refine wpAnyH_done (by kernel_rfl) ?_ _
  clear hHeld

  obtain ⟨⟨f0, f1⟩, f2, f3⟩ := fp
  obtain ⟨⟨g0, g1⟩, g2, g3⟩ := fq
  have hxy : (x = true ∧ y = false) ∨ (x = false ∧ y = true) ∨ x = y := by cases x <;> cases y <;> simp
  rcases hxy with ⟨rfl, rfl⟩ | ⟨rfl, rfl⟩ | rfl
  · have HR : Hid (E = true) := by show _ = _; rw [HE.out]; rfl
    clear HE
    go_wp2
    go_ret
    exact ⟨by rw [HR.out]; rfl, HB4.out⟩
  · have HR : Hid (E = false) := by show _ = _; rw [HE.out]; rfl
    clear HE
    go_wp2
    go_ret
    exact ⟨by rw [HR.out]; rfl, HB4.out⟩
  · by_cases hl : p.2 = q.2
    · have HR : Hid (E = Wpl.before p.1.s p.1.r p.1.c q.1.s q.1.r q.1.c) := by show _ = _; rw [HE.out, if_neg (by simp), if_neg (by simp [hl])]
      have hll : (p.2 != q.2) = false := by simp [hl]
      have BE := rbefore_any p.1.s p.1.r p.1.c q.1.s q.1.r q.1.c w3
      rw [← HR.out] at BE
      clear HE hl
      go_wp2_with fail
      refine BE.mono ?_
      rintro en w5 ⟨rfl, hb5⟩
      have HB5 : Hid (Below w.heap.size w w5) := below_end HB4.out hb5
      clear BE hb5
      go_wp2
      go_ret
      exact ⟨rfl, HB5.out⟩
    · have HR : Hid (E = decide (p.2 < q.2)) := by show _ = _; rw [HE.out, if_neg (by simp), if_pos hl]
      have hll : (p.2 != q.2) = true := by simpa using hl
      clear HE
      go_wp2
      go_ret
      exact ⟨by rw [HR.out]; rfl, HB4.out⟩
end Go.Proofs.Ytpbjmhcpaeillaa
