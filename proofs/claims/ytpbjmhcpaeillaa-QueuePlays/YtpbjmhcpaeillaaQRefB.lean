/- Queues: the document's own queue: Level, First. -/

import Derived.Test.YtpbjmhcpaeillaaQRefA
namespace Go.Proofs.Ytpbjmhcpaeillaa
open Go.RowKit
set_option linter.unusedVariables false

/-- What Level answers. -/
def RLvP (R : List (Wpl.Cl × Int)) (x : Wpl.Cl) (w : World) (en : Ending) (w' : World) : Prop := (∃ (z : Int) (q : Bool), en = .returned (.tuple #[.int .i64 z, .bool q]) ∧ ((q = false ∧ z = 0 ∧ ∀ p ∈ R, p.1 ≠ x) ∨ (q = true ∧ ∃ p ∈ R, p.1 = x ∧ p.2 = z))) ∧ Below w.heap.size w w'
set_option maxRecDepth 100000 in
theorem rlevel_any (db : Nat) (R : List (Wpl.Cl × Int)) (A : List Wpl.Ar) (a1 : Option Addr) (n c1 : Nat) (a2 : Option Addr) (m c2 : Nat) (x : Wpl.Cl) (w : World) (h : Dr w db R A a1 n c1 a2 m c2) (hN : True → n ≤ 1000000000) :
    Calls Try.prog 35 #[.pointer (some ⟨db, 0, none⟩), .agg #[.int .i64 x.s, .int .i64 x.r, .int .i64 x.c]] w (RLvP R x w) := by
  have hb0 := ball (Below.refl _ w) (.cells #[.int .i64 x.s, .int .i64 x.r, .int .i64 x.c] 33)
  have HD0 : Hid (Dr (w.alloc (.cells #[.int .i64 x.s, .int .i64 x.r, .int .i64 x.c] 33)) db R A a1 n c1 a2 m c2) := h.below hb0
  have t3 := AtL.f3 (AtL.new0 w 33 [.int .i64 x.s, .int .i64 x.r, .int .i64 x.c])
  have HB0 : Hid (Below w.heap.size w (w.alloc (.cells #[.int .i64 x.s, .int .i64 x.r, .int .i64 x.c] 33))) := hb0
  have FD := find_any db R A a1 n c1 a2 m c2 x _ HD0.out hN
  clear h hb0
  go_enter Try.func35, Try.ntmps35
  go_upto_region 1 with fail
  generalize w.alloc (.cells #[.int .i64 x.s, .int .i64 x.r, .int .i64 x.c] 33) = W0 at *
  obtain ⟨f0, f1, f2⟩ := t3
  go_wp2_with fail
  refine FD.mono ?_
  rintro en w1 ⟨⟨z, rfl, hz⟩, hb1⟩
  have HB1 : Hid (Below w.heap.size w w1) := below_end HB0.out hb1
  have HD1 : Hid (Dr w1 db R A a1 n c1 a2 m c2) := HD0.out.below hb1
  clear FD hb1 f0 f1 f2 HD0
  rcases hz with ⟨rfl, hno⟩ | ⟨i, p, rfl, hp, e⟩
  · have HR : Hid (RLvP R x w (.returned (.tuple #[.int .i64 0, .bool false])) w1) := ⟨⟨0, false, rfl, Or.inl ⟨rfl, rfl, hno⟩⟩, HB1.out⟩
    clear hno
    go_wp2
    refine bodyPost_ret (v := .tuple #[.int .i64 0, .bool false]) (by simp [results, Try.results35, go_sem]) rfl HR.out
  · have HR : Hid (RLvP R x w (.returned (.tuple #[.int .i64 p.2, .bool true])) w1) := ⟨⟨p.2, true, rfl, Or.inr ⟨rfl, p, List.mem_of_getElem? hp, e, rfl⟩⟩, HB1.out⟩
    obtain ⟨bb, off, ea, hrow⟩ := HD1.out.rl i p hp
    have hlt := (List.getElem?_eq_some_iff.1 hp).1
    rw [HD1.out.ll] at hlt
    have hii : (i : Int) < (n : Int) := by omega
    have hiz : (0 : Int) ≤ (i : Int) := by omega
    have hneg : ¬ ((i : Int) < 0) := by omega
    subst ea
    obtain ⟨c0, _, _, _⟩ := HD1.out.hd.two
    have k3 : w1.cell? ⟨bb, off + i * 4 + 3, none⟩ = some (.int .i64 p.2) := hrow 3 _ rfl
    clear hp e hrow hlt
    go_wp2
    refine bodyPost_ret (v := .tuple #[.int .i64 p.2, .bool true]) (by simp [results, Try.results35, go_sem]) rfl HR.out
/-- An entry of a row of these, cell by cell. -/
abbrev RowV (W : World) (g o : Nat) (p : Wpl.Cl × Int) : Prop := (W.cell? ⟨g, o, none⟩ = some (.int .i64 p.1.s) ∧ W.cell? ⟨g, o + 1, none⟩ = some (.int .i64 p.1.r)) ∧ W.cell? ⟨g, o + 2, none⟩ = some (.int .i64 p.1.c) ∧ W.cell? ⟨g, o + 3, none⟩ = some (.int .i64 p.2)
theorem RowV.below {W W' : World} {g o : Nat} {p : Wpl.Cl × Int} (h : RowV W g o p) (hb : Below W.heap.size W W') : RowV W' g o p :=
  ⟨⟨cell_below hb h.1.1, cell_below hb h.1.2⟩, cell_below hb h.2.1, cell_below hb h.2.2⟩
theorem RdV.at {w : World} {av : Option Addr} {R : List (Wpl.Cl × Int)} (h : RdV w av R) {i : Nat} {p : Wpl.Cl × Int} (hp : R[i]? = some p) : ∃ bb off, av = some ⟨bb, off, none⟩ ∧ RowV w bb (off + i * 4) p := by
  obtain ⟨bb, off, e, hr⟩ := h i p hp
  exact ⟨bb, off, e, ⟨hr 0 _ rfl, hr 1 _ rfl⟩, hr 2 _ rfl, hr 3 _ rfl⟩
/-- The one ahead of all others stands first in order. -/
theorem min_first {l : List Wq.Wr} {b : Wq.Wr} (hb : b ∈ l) (h : ∀ a ∈ l, Wq.ltW a b = false) : hdW (Wq.srt l) = b ∧ neQ (Wq.srt l) = true := by
  have hp := Wq.srt_perm l
  have hpw := Wq.srt_pw l
  cases e : Wq.srt l with
  | nil =>
    rw [e] at hp
    have := hp.mem_iff.2 hb
    cases this
  | cons c s =>
    rw [e] at hp hpw
    refine ⟨?_, rfl⟩
    show c = b
    have h1 : Wq.ltW c b = false := h c (hp.mem_iff.1 (List.mem_cons_self ..))
    have hm : b ∈ c :: s := hp.mem_iff.2 hb
    rcases List.mem_cons.1 hm with q | q
    · exact q.symm
    · exact Wq.ltW_eq h1 ((List.pairwise_cons.1 hpw).1 b q)
/-- The best one of the first i. -/
def Bst (R : List (Wpl.Cl × Int)) (A : List Wpl.Ar) (i : Nat) (z : Int) : Prop := (z = -1 ∧ i = 0) ∨ ∃ (b : Nat) (q : Wpl.Cl × Int), z = (b : Int) ∧ R[b]? = some q ∧ b < i ∧ ∀ (j : Nat) (p : Wpl.Cl × Int), j < i → R[j]? = some p → Wq.ltW (wrR A p) (wrR A q) = false
set_option maxRecDepth 100000 in
set_option maxHeartbeats 8000000 in
theorem rfirst_any (db : Nat) (R : List (Wpl.Cl × Int)) (A : List Wpl.Ar) (a1 : Option Addr) (n c1 : Nat) (a2 : Option Addr) (m c2 : Nat) (w : World) (h : Dr w db R A a1 n c1 a2 m c2) (hN : True → n ≤ 1000000000) (hM : True → m ≤ 1000000000) :
    Calls Try.prog 34 #[.pointer (some ⟨db, 0, none⟩)] w fun en w' => en = .returned (.tuple #[.agg #[.int .i64 (hdW (Wq.srt (R.map (wrR A)))).s, .int .i64 (hdW (Wq.srt (R.map (wrR A)))).r, .int .i64 (hdW (Wq.srt (R.map (wrR A)))).c], .bool (neQ (Wq.srt (R.map (wrR A))))]) ∧ Below w.heap.size w w' := by
  have hb0 := ball (Below.refl _ w) (.cells #[.int .i64 0, .int .i64 0, .int .i64 0] 33)
  have HD0 : Hid (Dr (w.alloc (.cells #[.int .i64 0, .int .i64 0, .int .i64 0] 33)) db R A a1 n c1 a2 m c2) := h.below hb0
  have HT3 : Hid (AtL (w.alloc (.cells #[.int .i64 0, .int .i64 0, .int .i64 0] 33)) w.heap.size [.int .i64 0, .int .i64 0, .int .i64 0]) := AtL.new0 w 33 [.int .i64 0, .int .i64 0, .int .i64 0]
  have HB0 : Hid (Below w.heap.size w (w.alloc (.cells #[.int .i64 0, .int .i64 0, .int .i64 0] 33))) := hb0
  obtain ⟨HH, hHH⟩ : ∃ HH, hdW (Wq.srt (R.map (wrR A))) = HH := ⟨_, rfl⟩
  obtain ⟨NN, hNN⟩ : ∃ NN, neQ (Wq.srt (R.map (wrR A))) = NN := ⟨_, rfl⟩
  have HRES : Hid (hdW (Wq.srt (R.map (wrR A))) = HH ∧ neQ (Wq.srt (R.map (wrR A))) = NN) := ⟨hHH, hNN⟩
  rw [hHH, hNN]
  clear h hb0 hHH hNN
  go_enter Try.func34, Try.ntmps34
  go_upto_region 3 with fail
  generalize w.alloc (.cells #[.int .i64 0, .int .i64 0, .int .i64 0] 33) = W0 at *
  go_loopg [4, 5] n (fun gk y u wr => ∃ (i : Nat) (z : Int), y = .int .i64 z ∧ u = .int .i64 (i : Int) ∧ gk = n - i ∧ i ≤ n ∧ Hid (Below W0.heap.size W0 wr) ∧ Hid (Bst R A i z))
  case atStart => exact ⟨0, -1, rfl, rfl, rfl, Nat.zero_le _, Below.refl _ _, Or.inl ⟨rfl, rfl⟩⟩
  case round =>
    obtain ⟨i, z, rfl, rfl, hg, hi, HB, HS⟩ := hrel
    generalize hw9 : wr = W1 at *
    clear hw9
    obtain ⟨c0, _, _, _⟩ := (HD0.out.below HB.out).hd.two
    by_cases hlt : i < n
    · have hii : (i : Int) < (n : Int) := by omega
      have hiz : (0 : Int) ≤ (i : Int) := by omega
      have hwi : IntKind.i64.wrap ((i : Int) + 1) = (i : Int) + 1 := by have := hN trivial; rw [IntKind.wrap_i64]; omega
      obtain ⟨p, hp⟩ : ∃ p, R[i]? = some p := ⟨R[i]'(by rw [HD0.out.ll]; exact hlt), List.getElem?_eq_getElem _⟩
      have HPP : Hid (R[i]? = some p) := hp
      obtain ⟨bb, off, e, kp⟩ := (HD0.out.rl.below HB.out).at hp
      subst e
      clear hp
      rcases HS.out with ⟨hz, hi0⟩ | ⟨b, q, hz, hq, hbi, hmin⟩
      · subst hz
        have HS2 : Hid (Bst R A (i + 1) (i : Int)) := Or.inr ⟨i, p, rfl, HPP.out, Nat.lt_succ_self _, fun j p' hj hp' => by
          have : j = i := by omega
          subst this
          rw [HPP.out] at hp'
          cases hp'
          exact Wq.ord_irr _⟩
        clear HS hi0 kp
        go_upto_region 5 with fail
        have hb1 := (Below.refl W1.heap.size W1).drew
        refine wp_region_held_drew (S := fun W => W.cell? ⟨db, 0, none⟩ = some (.slice (some ⟨bb, off, none⟩) n c1)) (by kernel_rfl) (cell_below hb1 c0) (fun hHeld => ?_)
        have HB2 : Hid (Below W0.heap.size W0 W1.drew) := below_end HB.out hb1
        clear hb1 HB c0
        generalize W1.drew = W2 at *
        refine wpAnyH_take (i := 0) (oi := { dst := Option.some 15, op := Op.move (Operand.tmp 4), type := 3, pos := "queue.go:103", after := #[], guard := Option.none }) (v := ?_) rfl (by kernel_rfl) (by kernel_rfl) (by kernel_rfl) (fun _ _ _ h => h) (Or.inl ⟨by rfl, ?_⟩) (by assumption) ?_
        rotate_left
        · intro w hSw
          (try dsimp only at hSw)
          go_simp
          try with_reducible rfl
        try simp only [Act.put, List.setIfInBounds_toArray, List.set_cons_zero, List.set_cons_succ]
        refine wpAnyH_take (i := 1) (oi := { dst := Option.some 16, op := Op.binOp BinOp.lss 3 (Operand.tmp 15) (Operand.const (Value.int IntKind.i64 0)) 3, type := 4, pos := "queue.go:103", after := #[{ on := 0, ground := Ground.data }], guard := Option.none }) (v := ?_) rfl (by kernel_rfl) (by kernel_rfl) (by kernel_rfl) (fun _ _ _ h => h) (Or.inl ⟨by rfl, ?_⟩) (by assumption) ?_
        rotate_left
        · intro w hSw
          (try dsimp only at hSw)
          go_simp
          try with_reducible rfl
        try simp only [Act.put, List.setIfInBounds_toArray, List.set_cons_zero, List.set_cons_succ]
        refine wpAnyH_take (i := 2) (oi := { dst := Option.some 17, op := Op.move (Operand.tmp 16), type := 4, pos := "queue.go:103", after := #[{ on := 1, ground := Ground.data }], guard := Option.none }) (v := ?_) rfl (by kernel_rfl) (by kernel_rfl) (by kernel_rfl) (fun _ _ _ h => h) (Or.inl ⟨by rfl, ?_⟩) (by assumption) ?_
        rotate_left
        · intro w hSw
          (try dsimp only at hSw)
          go_simp
          try with_reducible rfl
        try simp only [Act.put, List.setIfInBounds_toArray, List.set_cons_zero, List.set_cons_succ]
        refine wpAnyH_take (i := 3) (oi := { dst := Option.some 18, op := Op.move (Operand.tmp 0), type := 27, pos := "queue.go:103", after := #[{ on := 2, ground := Ground.guard }], guard := Option.some (2, Bool.false) }) (v := undef) rfl (by kernel_rfl) (by kernel_rfl) (by kernel_rfl) (fun _ _ _ h => h) (Or.inr ⟨by rfl, rfl⟩) (by assumption) ?_
        try simp only [Act.put, List.setIfInBounds_toArray, List.set_cons_zero, List.set_cons_succ]
        refine wpAnyH_take (i := 4) (oi := { dst := Option.some 19, op := Op.move (Operand.tmp 0), type := 27, pos := "queue.go:103", after := #[{ on := 2, ground := Ground.guard }], guard := Option.some (2, Bool.false) }) (v := undef) rfl (by kernel_rfl) (by kernel_rfl) (by kernel_rfl) (fun _ _ _ h => h) (Or.inr ⟨by rfl, rfl⟩) (by assumption) ?_
        try simp only [Act.put, List.setIfInBounds_toArray, List.set_cons_zero, List.set_cons_succ]
        refine wpAnyH_take (i := 5) (oi := { dst := Option.some 20, op := Op.nilCheck (Operand.tmp 19), type := 0, pos := "queue.go:103", after := #[{ on := 4, ground := Ground.data }, { on := 2, ground := Ground.guard }], guard := Option.some (2, Bool.false) }) (v := undef) rfl (by kernel_rfl) (by kernel_rfl) (by kernel_rfl) (fun _ _ _ h => h) (Or.inr ⟨by rfl, rfl⟩) (by assumption) ?_
        try simp only [Act.put, List.setIfInBounds_toArray, List.set_cons_zero, List.set_cons_succ]
        refine wpAnyH_take (i := 6) (oi := { dst := Option.some 21, op := Op.fieldAddr 31 (Operand.tmp 20) 0, type := 0, pos := "queue.go:103", after := #[{ on := 5, ground := Ground.data }, { on := 2, ground := Ground.guard }], guard := Option.some (2, Bool.false) }) (v := undef) rfl (by kernel_rfl) (by kernel_rfl) (by kernel_rfl) (fun _ _ _ h => h) (Or.inr ⟨by rfl, rfl⟩) (by assumption) ?_
        try simp only [Act.put, List.setIfInBounds_toArray, List.set_cons_zero, List.set_cons_succ]
        refine wpAnyH_take (i := 7) (oi := { dst := Option.some 22, op := Op.load 28 (Operand.tmp 21), type := 28, pos := "queue.go:103", after := #[{ on := 6, ground := Ground.data }, { on := 2, ground := Ground.guard }], guard := Option.some (2, Bool.false) }) (v := undef) rfl (by kernel_rfl) (by kernel_rfl) (by kernel_rfl) (fun _ _ _ h => h) (Or.inr ⟨by rfl, rfl⟩) (by assumption) ?_
        try simp only [Act.put, List.setIfInBounds_toArray, List.set_cons_zero, List.set_cons_succ]
        refine wpAnyH_take (i := 8) (oi := { dst := Option.some 23, op := Op.move (Operand.tmp 5), type := 3, pos := "queue.go:103", after := #[{ on := 2, ground := Ground.guard }], guard := Option.some (2, Bool.false) }) (v := undef) rfl (by kernel_rfl) (by kernel_rfl) (by kernel_rfl) (fun _ _ _ h => h) (Or.inr ⟨by rfl, rfl⟩) (by assumption) ?_
        try simp only [Act.put, List.setIfInBounds_toArray, List.set_cons_zero, List.set_cons_succ]
        refine wpAnyH_take (i := 9) (oi := { dst := Option.some 24, op := Op.indexAddr 28 (Operand.tmp 22) (Operand.tmp 23), type := 0, pos := "queue.go:103", after := #[{ on := 7, ground := Ground.data }, { on := 8, ground := Ground.data }, { on := 2, ground := Ground.guard }], guard := Option.some (2, Bool.false) }) (v := undef) rfl (by kernel_rfl) (by kernel_rfl) (by kernel_rfl) (fun _ _ _ h => h) (Or.inr ⟨by rfl, rfl⟩) (by assumption) ?_
        try simp only [Act.put, List.setIfInBounds_toArray, List.set_cons_zero, List.set_cons_succ]
        refine wpAnyH_take (i := 10) (oi := { dst := Option.some 25, op := Op.load 64 (Operand.tmp 24), type := 64, pos := "queue.go:103", after := #[{ on := 9, ground := Ground.data }, { on := 2, ground := Ground.guard }], guard := Option.some (2, Bool.false) }) (v := undef) rfl (by kernel_rfl) (by kernel_rfl) (by kernel_rfl) (fun _ _ _ h => h) (Or.inr ⟨by rfl, rfl⟩) (by assumption) ?_
        try simp only [Act.put, List.setIfInBounds_toArray, List.set_cons_zero, List.set_cons_succ]
        refine wpAnyH_take (i := 11) (oi := { dst := Option.some 26, op := Op.move (Operand.tmp 0), type := 27, pos := "queue.go:103", after := #[{ on := 2, ground := Ground.guard }], guard := Option.some (2, Bool.false) }) (v := undef) rfl (by kernel_rfl) (by kernel_rfl) (by kernel_rfl) (fun _ _ _ h => h) (Or.inr ⟨by rfl, rfl⟩) (by assumption) ?_
        try simp only [Act.put, List.setIfInBounds_toArray, List.set_cons_zero, List.set_cons_succ]
        refine wpAnyH_take (i := 12) (oi := { dst := Option.some 27, op := Op.nilCheck (Operand.tmp 26), type := 0, pos := "queue.go:103", after := #[{ on := 11, ground := Ground.data }, { on := 2, ground := Ground.guard }], guard := Option.some (2, Bool.false) }) (v := undef) rfl (by kernel_rfl) (by kernel_rfl) (by kernel_rfl) (fun _ _ _ h => h) (Or.inr ⟨by rfl, rfl⟩) (by assumption) ?_
        try simp only [Act.put, List.setIfInBounds_toArray, List.set_cons_zero, List.set_cons_succ]
        refine wpAnyH_take (i := 13) (oi := { dst := Option.some 28, op := Op.fieldAddr 31 (Operand.tmp 27) 0, type := 0, pos := "queue.go:103", after := #[{ on := 12, ground := Ground.data }, { on := 2, ground := Ground.guard }], guard := Option.some (2, Bool.false) }) (v := undef) rfl (by kernel_rfl) (by kernel_rfl) (by kernel_rfl) (fun _ _ _ h => h) (Or.inr ⟨by rfl, rfl⟩) (by assumption) ?_
        try simp only [Act.put, List.setIfInBounds_toArray, List.set_cons_zero, List.set_cons_succ]
        refine wpAnyH_take (i := 14) (oi := { dst := Option.some 29, op := Op.load 28 (Operand.tmp 28), type := 28, pos := "queue.go:103", after := #[{ on := 13, ground := Ground.data }, { on := 2, ground := Ground.guard }], guard := Option.some (2, Bool.false) }) (v := undef) rfl (by kernel_rfl) (by kernel_rfl) (by kernel_rfl) (fun _ _ _ h => h) (Or.inr ⟨by rfl, rfl⟩) (by assumption) ?_
        try simp only [Act.put, List.setIfInBounds_toArray, List.set_cons_zero, List.set_cons_succ]
        refine wpAnyH_take (i := 15) (oi := { dst := Option.some 30, op := Op.move (Operand.tmp 4), type := 3, pos := "queue.go:103", after := #[{ on := 2, ground := Ground.guard }], guard := Option.some (2, Bool.false) }) (v := undef) rfl (by kernel_rfl) (by kernel_rfl) (by kernel_rfl) (fun _ _ _ h => h) (Or.inr ⟨by rfl, rfl⟩) (by assumption) ?_
        try simp only [Act.put, List.setIfInBounds_toArray, List.set_cons_zero, List.set_cons_succ]
        refine wpAnyH_take (i := 16) (oi := { dst := Option.some 31, op := Op.indexAddr 28 (Operand.tmp 29) (Operand.tmp 30), type := 0, pos := "queue.go:103", after := #[{ on := 14, ground := Ground.data }, { on := 15, ground := Ground.data }, { on := 2, ground := Ground.guard }], guard := Option.some (2, Bool.false) }) (v := undef) rfl (by kernel_rfl) (by kernel_rfl) (by kernel_rfl) (fun _ _ _ h => h) (Or.inr ⟨by rfl, rfl⟩) (by assumption) ?_
        try simp only [Act.put, List.setIfInBounds_toArray, List.set_cons_zero, List.set_cons_succ]
        refine wpAnyH_take (i := 17) (oi := { dst := Option.some 32, op := Op.load 64 (Operand.tmp 31), type := 64, pos := "queue.go:103", after := #[{ on := 16, ground := Ground.data }, { on := 2, ground := Ground.guard }], guard := Option.some (2, Bool.false) }) (v := undef) rfl (by kernel_rfl) (by kernel_rfl) (by kernel_rfl) (fun _ _ _ h => h) (Or.inr ⟨by rfl, rfl⟩) (by assumption) ?_
        try simp only [Act.put, List.setIfInBounds_toArray, List.set_cons_zero, List.set_cons_succ]
        refine wpAnyH_take (i := 18) (oi := { dst := Option.some 33, op := Op.call { callee := Callee.value (Operand.func 47), args := #[Operand.tmp 18, Operand.tmp 25, Operand.tmp 32], argTypes := #[27, 64, 64] }, type := 4, pos := "queue.go:103", after := #[{ on := 3, ground := Ground.data }, { on := 10, ground := Ground.data }, { on := 17, ground := Ground.data }, { on := 2, ground := Ground.chain }, { on := 2, ground := Ground.guard }], guard := Option.some (2, Bool.false) }) (v := undef) rfl (by kernel_rfl) (by kernel_rfl) (by kernel_rfl) (fun _ _ _ h => h) (Or.inr ⟨by rfl, rfl⟩) (by assumption) ?_
        try simp only [Act.put, List.setIfInBounds_toArray, List.set_cons_zero, List.set_cons_succ]
        refine wpAnyH_take (i := 19) (oi := { dst := Option.some 34, op := Op.pick (Operand.tmp 17) (Operand.const (Value.bool Bool.true)) (Operand.tmp 33), type := 4, pos := "queue.go:103", after := #[{ on := 2, ground := Ground.data }, { on := 18, ground := Ground.data }], guard := Option.none }) (v := ?_) rfl (by kernel_rfl) (by kernel_rfl) (by kernel_rfl) (fun _ _ _ h => h) (Or.inl ⟨by rfl, ?_⟩) (by assumption) ?_
        rotate_left
        · intro w hSw
          (try dsimp only at hSw)
          go_simp
          try with_reducible rfl
        try simp only [Act.put, List.setIfInBounds_toArray, List.set_cons_zero, List.set_cons_succ]
        refine wpAnyH_done (by kernel_rfl) ?_ _
        clear hHeld

        go_wp2_with fail
        go_roundg (n - (i + 1))
        case rel => exact ⟨i + 1, (i : Int), by simp, by simp, rfl, hlt, HB2, HS2⟩
        case measure => omega
      · subst hz
        have hneg : ¬ ((b : Int) < 0) := by omega
        have hbn : (b : Int) < (n : Int) := by omega
        have hbz : (0 : Int) ≤ (b : Int) := by omega
        obtain ⟨b9, o9, e9, kq⟩ := (HD0.out.rl.below HB.out).at hq
        obtain ⟨rfl, rfl⟩ : bb = b9 ∧ off = o9 := by simpa using e9
        obtain ⟨t, ht⟩ : ∃ t, Wq.ltW (wrR A p) (wrR A q) = t := ⟨_, rfl⟩
        have HT : Hid (Wq.ltW (wrR A p) (wrR A q) = t) := ht
        have HMI : Hid (R[b]? = some q ∧ b < i ∧ ∀ (j : Nat) (p : Wpl.Cl × Int), j < i → R[j]? = some p → Wq.ltW (wrR A p) (wrR A q) = false) := ⟨hq, hbi, hmin⟩
        clear ht hq hbi hmin e9 HS
        go_upto_region 5 with fail
        have hb1 := (Below.refl W1.heap.size W1).drew
        refine wp_region_held_drew (S := fun W => W.cell? ⟨db, 0, none⟩ = some (.slice (some ⟨bb, off, none⟩) n c1) ∧ RowV W bb (off + i * 4) p ∧ RowV W bb (off + b * 4) q) (by kernel_rfl) ⟨cell_below hb1 c0, kp.below hb1, kq.below hb1⟩ (fun hHeld => ?_)
        have HB2 : Hid (Below W0.heap.size W0 W1.drew) := below_end HB.out hb1
        replace c0 := cell_below hb1 c0
        replace kp := kp.below hb1
        replace kq := kq.below hb1
        clear hb1 HB
        generalize W1.drew = W2 at *
        refine wpAnyH_take (i := 0) (oi := { dst := Option.some 15, op := Op.move (Operand.tmp 4), type := 3, pos := "queue.go:103", after := #[], guard := Option.none }) (v := ?_) rfl (by kernel_rfl) (by kernel_rfl) (by kernel_rfl) (fun _ _ _ h => h) (Or.inl ⟨by rfl, ?_⟩) (by assumption) ?_
        rotate_left
        · intro w hSw
          (try dsimp only at hSw)
          go_simp
          try with_reducible rfl
        try simp only [Act.put, List.setIfInBounds_toArray, List.set_cons_zero, List.set_cons_succ]
        refine wpAnyH_take (i := 1) (oi := { dst := Option.some 16, op := Op.binOp BinOp.lss 3 (Operand.tmp 15) (Operand.const (Value.int IntKind.i64 0)) 3, type := 4, pos := "queue.go:103", after := #[{ on := 0, ground := Ground.data }], guard := Option.none }) (v := ?_) rfl (by kernel_rfl) (by kernel_rfl) (by kernel_rfl) (fun _ _ _ h => h) (Or.inl ⟨by rfl, ?_⟩) (by assumption) ?_
        rotate_left
        · intro w hSw
          (try dsimp only at hSw)
          go_simp
          try with_reducible rfl
        try simp only [Act.put, List.setIfInBounds_toArray, List.set_cons_zero, List.set_cons_succ]
        refine wpAnyH_take (i := 2) (oi := { dst := Option.some 17, op := Op.move (Operand.tmp 16), type := 4, pos := "queue.go:103", after := #[{ on := 1, ground := Ground.data }], guard := Option.none }) (v := ?_) rfl (by kernel_rfl) (by kernel_rfl) (by kernel_rfl) (fun _ _ _ h => h) (Or.inl ⟨by rfl, ?_⟩) (by assumption) ?_
        rotate_left
        · intro w hSw
          (try dsimp only at hSw)
          go_simp
          try with_reducible rfl
        try simp only [Act.put, List.setIfInBounds_toArray, List.set_cons_zero, List.set_cons_succ]
        refine wpAnyH_take (i := 3) (oi := { dst := Option.some 18, op := Op.move (Operand.tmp 0), type := 27, pos := "queue.go:103", after := #[{ on := 2, ground := Ground.guard }], guard := Option.some (2, Bool.false) }) (v := ?_) rfl (by kernel_rfl) (by kernel_rfl) (by kernel_rfl) (fun _ _ _ h => h) (Or.inl ⟨by rfl, ?_⟩) (by assumption) ?_
        rotate_left
        · intro w hSw
          (try dsimp only at hSw)
          go_simp
          try with_reducible rfl
        try simp only [Act.put, List.setIfInBounds_toArray, List.set_cons_zero, List.set_cons_succ]
        refine wpAnyH_take (i := 4) (oi := { dst := Option.some 19, op := Op.move (Operand.tmp 0), type := 27, pos := "queue.go:103", after := #[{ on := 2, ground := Ground.guard }], guard := Option.some (2, Bool.false) }) (v := ?_) rfl (by kernel_rfl) (by kernel_rfl) (by kernel_rfl) (fun _ _ _ h => h) (Or.inl ⟨by rfl, ?_⟩) (by assumption) ?_
        rotate_left
        · intro w hSw
          (try dsimp only at hSw)
          go_simp
          try with_reducible rfl
        try simp only [Act.put, List.setIfInBounds_toArray, List.set_cons_zero, List.set_cons_succ]
        refine wpAnyH_take (i := 5) (oi := { dst := Option.some 20, op := Op.nilCheck (Operand.tmp 19), type := 0, pos := "queue.go:103", after := #[{ on := 4, ground := Ground.data }, { on := 2, ground := Ground.guard }], guard := Option.some (2, Bool.false) }) (v := ?_) rfl (by kernel_rfl) (by kernel_rfl) (by kernel_rfl) (fun _ _ _ h => h) (Or.inl ⟨by rfl, ?_⟩) (by assumption) ?_
        rotate_left
        · intro w hSw
          (try dsimp only at hSw)
          go_simp
          try with_reducible rfl
        try simp only [Act.put, List.setIfInBounds_toArray, List.set_cons_zero, List.set_cons_succ]
        refine wpAnyH_take (i := 6) (oi := { dst := Option.some 21, op := Op.fieldAddr 31 (Operand.tmp 20) 0, type := 0, pos := "queue.go:103", after := #[{ on := 5, ground := Ground.data }, { on := 2, ground := Ground.guard }], guard := Option.some (2, Bool.false) }) (v := ?_) rfl (by kernel_rfl) (by kernel_rfl) (by kernel_rfl) (fun _ _ _ h => h) (Or.inl ⟨by rfl, ?_⟩) (by assumption) ?_
        rotate_left
        · intro w hSw
          (try dsimp only at hSw)
          go_simp
          try with_reducible rfl
        try simp only [Act.put, List.setIfInBounds_toArray, List.set_cons_zero, List.set_cons_succ]
        refine wpAnyH_take (i := 7) (oi := { dst := Option.some 22, op := Op.load 28 (Operand.tmp 21), type := 28, pos := "queue.go:103", after := #[{ on := 6, ground := Ground.data }, { on := 2, ground := Ground.guard }], guard := Option.some (2, Bool.false) }) (v := ?_) rfl (by kernel_rfl) (by kernel_rfl) (by kernel_rfl) (fun _ _ _ h => h) (Or.inl ⟨by rfl, ?_⟩) (by assumption) ?_
        rotate_left
        · intro w hSw
          (try dsimp only at hSw)
          go_simp
          try with_reducible rfl
        try simp only [Act.put, List.setIfInBounds_toArray, List.set_cons_zero, List.set_cons_succ]
        refine wpAnyH_take (i := 8) (oi := { dst := Option.some 23, op := Op.move (Operand.tmp 5), type := 3, pos := "queue.go:103", after := #[{ on := 2, ground := Ground.guard }], guard := Option.some (2, Bool.false) }) (v := ?_) rfl (by kernel_rfl) (by kernel_rfl) (by kernel_rfl) (fun _ _ _ h => h) (Or.inl ⟨by rfl, ?_⟩) (by assumption) ?_
        rotate_left
        · intro w hSw
          (try dsimp only at hSw)
          go_simp
          try with_reducible rfl
        try simp only [Act.put, List.setIfInBounds_toArray, List.set_cons_zero, List.set_cons_succ]
        refine wpAnyH_take (i := 9) (oi := { dst := Option.some 24, op := Op.indexAddr 28 (Operand.tmp 22) (Operand.tmp 23), type := 0, pos := "queue.go:103", after := #[{ on := 7, ground := Ground.data }, { on := 8, ground := Ground.data }, { on := 2, ground := Ground.guard }], guard := Option.some (2, Bool.false) }) (v := ?_) rfl (by kernel_rfl) (by kernel_rfl) (by kernel_rfl) (fun _ _ _ h => h) (Or.inl ⟨by rfl, ?_⟩) (by assumption) ?_
        rotate_left
        · intro w hSw
          (try dsimp only at hSw)
          go_simp
          try with_reducible rfl
        try simp only [Act.put, List.setIfInBounds_toArray, List.set_cons_zero, List.set_cons_succ]
        refine wpAnyH_take (i := 10) (oi := { dst := Option.some 25, op := Op.load 64 (Operand.tmp 24), type := 64, pos := "queue.go:103", after := #[{ on := 9, ground := Ground.data }, { on := 2, ground := Ground.guard }], guard := Option.some (2, Bool.false) }) (v := ?_) rfl (by kernel_rfl) (by kernel_rfl) (by kernel_rfl) (fun _ _ _ h => h) (Or.inl ⟨by rfl, ?_⟩) (by assumption) ?_
        rotate_left
        · intro w hSw
          (try dsimp only at hSw)
          go_simp
          try with_reducible rfl
        try simp only [Act.put, List.setIfInBounds_toArray, List.set_cons_zero, List.set_cons_succ]
        refine wpAnyH_take (i := 11) (oi := { dst := Option.some 26, op := Op.move (Operand.tmp 0), type := 27, pos := "queue.go:103", after := #[{ on := 2, ground := Ground.guard }], guard := Option.some (2, Bool.false) }) (v := ?_) rfl (by kernel_rfl) (by kernel_rfl) (by kernel_rfl) (fun _ _ _ h => h) (Or.inl ⟨by rfl, ?_⟩) (by assumption) ?_
        rotate_left
        · intro w hSw
          (try dsimp only at hSw)
          go_simp
          try with_reducible rfl
        try simp only [Act.put, List.setIfInBounds_toArray, List.set_cons_zero, List.set_cons_succ]
        refine wpAnyH_take (i := 12) (oi := { dst := Option.some 27, op := Op.nilCheck (Operand.tmp 26), type := 0, pos := "queue.go:103", after := #[{ on := 11, ground := Ground.data }, { on := 2, ground := Ground.guard }], guard := Option.some (2, Bool.false) }) (v := ?_) rfl (by kernel_rfl) (by kernel_rfl) (by kernel_rfl) (fun _ _ _ h => h) (Or.inl ⟨by rfl, ?_⟩) (by assumption) ?_
        rotate_left
        · intro w hSw
          (try dsimp only at hSw)
          go_simp
          try with_reducible rfl
        try simp only [Act.put, List.setIfInBounds_toArray, List.set_cons_zero, List.set_cons_succ]
        refine wpAnyH_take (i := 13) (oi := { dst := Option.some 28, op := Op.fieldAddr 31 (Operand.tmp 27) 0, type := 0, pos := "queue.go:103", after := #[{ on := 12, ground := Ground.data }, { on := 2, ground := Ground.guard }], guard := Option.some (2, Bool.false) }) (v := ?_) rfl (by kernel_rfl) (by kernel_rfl) (by kernel_rfl) (fun _ _ _ h => h) (Or.inl ⟨by rfl, ?_⟩) (by assumption) ?_
        rotate_left
        · intro w hSw
          (try dsimp only at hSw)
          go_simp
          try with_reducible rfl
        try simp only [Act.put, List.setIfInBounds_toArray, List.set_cons_zero, List.set_cons_succ]
        refine wpAnyH_take (i := 14) (oi := { dst := Option.some 29, op := Op.load 28 (Operand.tmp 28), type := 28, pos := "queue.go:103", after := #[{ on := 13, ground := Ground.data }, { on := 2, ground := Ground.guard }], guard := Option.some (2, Bool.false) }) (v := ?_) rfl (by kernel_rfl) (by kernel_rfl) (by kernel_rfl) (fun _ _ _ h => h) (Or.inl ⟨by rfl, ?_⟩) (by assumption) ?_
        rotate_left
        · intro w hSw
          (try dsimp only at hSw)
          go_simp
          try with_reducible rfl
        try simp only [Act.put, List.setIfInBounds_toArray, List.set_cons_zero, List.set_cons_succ]
        refine wpAnyH_take (i := 15) (oi := { dst := Option.some 30, op := Op.move (Operand.tmp 4), type := 3, pos := "queue.go:103", after := #[{ on := 2, ground := Ground.guard }], guard := Option.some (2, Bool.false) }) (v := ?_) rfl (by kernel_rfl) (by kernel_rfl) (by kernel_rfl) (fun _ _ _ h => h) (Or.inl ⟨by rfl, ?_⟩) (by assumption) ?_
        rotate_left
        · intro w hSw
          (try dsimp only at hSw)
          go_simp
          try with_reducible rfl
        try simp only [Act.put, List.setIfInBounds_toArray, List.set_cons_zero, List.set_cons_succ]
        refine wpAnyH_take (i := 16) (oi := { dst := Option.some 31, op := Op.indexAddr 28 (Operand.tmp 29) (Operand.tmp 30), type := 0, pos := "queue.go:103", after := #[{ on := 14, ground := Ground.data }, { on := 15, ground := Ground.data }, { on := 2, ground := Ground.guard }], guard := Option.some (2, Bool.false) }) (v := ?_) rfl (by kernel_rfl) (by kernel_rfl) (by kernel_rfl) (fun _ _ _ h => h) (Or.inl ⟨by rfl, ?_⟩) (by assumption) ?_
        rotate_left
        · intro w hSw
          (try dsimp only at hSw)
          go_simp
          try with_reducible rfl
        try simp only [Act.put, List.setIfInBounds_toArray, List.set_cons_zero, List.set_cons_succ]
        refine wpAnyH_take (i := 17) (oi := { dst := Option.some 32, op := Op.load 64 (Operand.tmp 31), type := 64, pos := "queue.go:103", after := #[{ on := 16, ground := Ground.data }, { on := 2, ground := Ground.guard }], guard := Option.some (2, Bool.false) }) (v := ?_) rfl (by kernel_rfl) (by kernel_rfl) (by kernel_rfl) (fun _ _ _ h => h) (Or.inl ⟨by rfl, ?_⟩) (by assumption) ?_
        rotate_left
        · intro w hSw
          (try dsimp only at hSw)
          go_simp
          try with_reducible rfl
        try simp only [Act.put, List.setIfInBounds_toArray, List.set_cons_zero, List.set_cons_succ]
        refine wpAnyH_ready (rs := [18]) (by kernel_rfl) (by simp) ?_
        refine AllReadyH.cons (o := { dst := Option.some 33, op := Op.call { callee := Callee.value (Operand.func 47), args := #[Operand.tmp 18, Operand.tmp 25, Operand.tmp 32], argTypes := #[27, 64, 64] }, type := 4, pos := "queue.go:103", after := #[{ on := 3, ground := Ground.data }, { on := 10, ground := Ground.data }, { on := 17, ground := Ground.data }, { on := 2, ground := Ground.chain }, { on := 2, ground := Ground.guard }], guard := Option.some (2, Bool.false) }) rfl (fun K hK => ?_) AllReadyH.nil
        have AH := rahead_any db R A (some ⟨bb, off, none⟩) n c1 a2 m c2 p q W2 (HD0.out.below HB2.out) hM
        rw [HT.out, wtAgg, wtAgg] at AH
        go_simp
        refine AH.mono ?_
        rintro en w4 ⟨rfl, hb4⟩
        have HB4 : Hid (Below W0.heap.size W0 w4) := below_end HB2.out hb4
        replace c0 := cell_below hb4 c0
        replace kp := kp.below hb4
        replace kq := kq.below hb4
        clear AH hb4 HB2
        go_wp2_with fail
        refine hK.out _ _ ⟨c0, kp, kq⟩ (fun hHeld => ?_)
        clear hK K c0 kp kq
        try simp only [Act.put, List.setIfInBounds_toArray, List.set_cons_zero, List.set_cons_succ]
        refine wpAnyH_take (i := 19) (oi := { dst := Option.some 34, op := Op.pick (Operand.tmp 17) (Operand.const (Value.bool Bool.true)) (Operand.tmp 33), type := 4, pos := "queue.go:103", after := #[{ on := 2, ground := Ground.data }, { on := 18, ground := Ground.data }], guard := Option.none }) (v := ?_) rfl (by kernel_rfl) (by kernel_rfl) (by kernel_rfl) (fun _ _ _ h => h) (Or.inl ⟨by rfl, ?_⟩) (by assumption) ?_
        rotate_left
        · intro w hSw
          (try dsimp only at hSw)
          go_simp
          try with_reducible rfl
        try simp only [Act.put, List.setIfInBounds_toArray, List.set_cons_zero, List.set_cons_succ]
        refine wpAnyH_done (by kernel_rfl) ?_ _
        clear hHeld

        cases t with
        | true =>
          have HS2 : Hid (Bst R A (i + 1) (i : Int)) := Or.inr ⟨i, p, rfl, HPP.out, Nat.lt_succ_self _, fun j p' hj hp' => by
            by_cases c : j = i
            · subst c
              rw [HPP.out] at hp'
              cases hp'
              exact Wq.ord_irr _
            · exact Wq.ord_W.trans _ _ _ (Wq.ord_W.asym _ _ HT.out) (HMI.out.2.2 j p' (by omega) hp')⟩
          go_wp2_with fail
          go_roundg (n - (i + 1))
          case rel => exact ⟨i + 1, (i : Int), by simp, by simp, rfl, hlt, HB4, HS2⟩
          case measure => omega
        | false =>
          have HS2 : Hid (Bst R A (i + 1) (b : Int)) := Or.inr ⟨b, q, rfl, HMI.out.1, by have := HMI.out.2.1; omega, fun j p' hj hp' => by
            by_cases c : j = i
            · subst c
              rw [HPP.out] at hp'
              cases hp'
              exact HT.out
            · exact HMI.out.2.2 j p' (by omega) hp'⟩
          go_wp2_with fail
          go_roundg (n - (i + 1))
          case rel => exact ⟨i + 1, (b : Int), by simp, by simp, rfl, hlt, HB4, HS2⟩
          case measure => omega
    · have hii : ¬ (i : Int) < (n : Int) := by omega
      have p2 := AtL.below HB.out HT3.out
      have HB9 : Hid (Below w.heap.size w W1) := below_end HB0.out HB.out
      rcases HS.out with ⟨hz, hi0⟩ | ⟨b, q, hz, hq, hbi, hmin⟩
      · subst hz
        have hR : R = [] := List.eq_nil_of_length_eq_zero (by rw [HD0.out.ll]; omega)
        have HZ : Hid (HH = zeW ∧ NN = false) := by
          have h1 := HRES.out
          have e0 : Wq.srt ([] : List Wq.Wr) = [] := List.eq_nil_of_length_eq_zero (by rw [Wq.srt_len]; rfl)
          rw [hR] at h1
          simp only [List.map_nil, e0, hdW, neQ] at h1
          exact ⟨h1.1.symm, h1.2.symm⟩
        have hth : W1.there w.heap.size 0 3 := p2.there
        have p3 : AtL (W1.setCells w.heap.size 0 [.int .i64 0, .int .i64 0, .int .i64 0]) w.heap.size [.int .i64 0, .int .i64 0, .int .i64 0] := p2.setAll rfl
        have HB3 : Hid (Below w.heap.size w (W1.setCells w.heap.size 0 [.int .i64 0, .int .i64 0, .int .i64 0])) := bset HB9.out (Nat.le_refl _) _ _
        clear p2 hR hi0 HS HB9
        go_wp2_with ((with_reducible refine wpList_store_mid ?_ 33 (.tmp 2) (.tmp 38) ?_ w.heap.size 0 ([.int .i64 0, .int .i64 0, .int .i64 0] : List Value).toArray ?_ ?_ ?_ ?_ ?_ ?_); rfl; rfl; rfl; rfl; exact hth; kernel_rfl; exact oneC3 ⟨0, 0, 0⟩)
        generalize W1.setCells w.heap.size 0 [.int .i64 0, .int .i64 0, .int .i64 0] = W3 at *
        obtain ⟨e0, e1, e2, _⟩ := p3.three
        refine bodyPost_ret (v := .tuple #[.agg #[.int .i64 0, .int .i64 0, .int .i64 0], .bool false]) (by simp [results, Try.results34, go_sem, e0, e1, e2]) rfl ⟨by rw [HZ.out.1, HZ.out.2], HB3.out⟩
      · subst hz
        have hneg : ¬ ((b : Int) < 0) := by omega
        have hbn : (b : Int) < (n : Int) := by omega
        have hbz : (0 : Int) ≤ (b : Int) := by omega
        obtain ⟨bb, off, e, kq⟩ := (HD0.out.rl.below HB.out).at hq
        subst e
        have HZ : Hid (HH = wrR A q ∧ NN = true) := by
          have h1 := HRES.out
          have hmf := min_first (l := R.map (wrR A)) (b := wrR A q) (List.mem_map.2 ⟨q, List.mem_of_getElem? hq, rfl⟩) (fun a ha => by
            obtain ⟨p, hp, rfl⟩ := List.mem_map.1 ha
            obtain ⟨j, hj, ej⟩ := List.getElem_of_mem hp
            have := HD0.out.ll
            exact hmin j p (by omega) (by rw [List.getElem?_eq_getElem hj, ej]))
          exact ⟨h1.1.symm.trans hmf.1, h1.2.symm.trans hmf.2⟩
        have hth : W1.there w.heap.size 0 3 := p2.there
        have p3 : AtL (W1.setCells w.heap.size 0 [.int .i64 q.1.s, .int .i64 q.1.r, .int .i64 q.1.c]) w.heap.size [.int .i64 q.1.s, .int .i64 q.1.r, .int .i64 q.1.c] := p2.setAll rfl
        have HB3 : Hid (Below w.heap.size w (W1.setCells w.heap.size 0 [.int .i64 q.1.s, .int .i64 q.1.r, .int .i64 q.1.c])) := bset HB9.out (Nat.le_refl _) _ _
        obtain ⟨⟨k0, k1⟩, k2, k3⟩ := kq
        clear p2 hq hbi hmin HS HB9
        go_wp2_with ((with_reducible refine wpList_store_mid ?_ 33 (.tmp 2) (.tmp 46) ?_ w.heap.size 0 ([.int .i64 q.1.s, .int .i64 q.1.r, .int .i64 q.1.c] : List Value).toArray ?_ ?_ ?_ ?_ ?_ ?_); rfl; rfl; rfl; rfl; exact hth; kernel_rfl; exact oneC3 q.1)
        generalize W1.setCells w.heap.size 0 [.int .i64 q.1.s, .int .i64 q.1.r, .int .i64 q.1.c] = W3 at *
        obtain ⟨e0, e1, e2, _⟩ := p3.three
        refine bodyPost_ret (v := .tuple #[.agg #[.int .i64 q.1.s, .int .i64 q.1.r, .int .i64 q.1.c], .bool true]) (by simp [results, Try.results34, go_sem, e0, e1, e2]) rfl ⟨by rw [HZ.out.1, HZ.out.2]; rfl, HB3.out⟩
end Go.Proofs.Ytpbjmhcpaeillaa
