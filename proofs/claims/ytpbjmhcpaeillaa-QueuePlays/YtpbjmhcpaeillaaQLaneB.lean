/- Queues: a new heap. -/
import Derived.Test.YtpbjmhcpaeillaaQDrop
namespace Go.Proofs.Ytpbjmhcpaeillaa
open Go.RowKit
set_option linter.unusedVariables false

theorem mkMapQ (w : World) : (Instr.makeMap 74 none).run Try.prog w = .ok (.map (some w.heap.size)) (w.alloc (.map #[] 0)) := by kernel_rfl
theorem cm_new (w : World) : CM (w.alloc (.map #[] 0)) w.heap.size [] := ⟨#[], 0, (Go.MapKept.heap_alloc w _).1, rfl⟩
theorem newHeap_any (w : World) : Calls Try.prog 26 #[] w fun en w' => en = .returned (.pointer (some ⟨w.heap.size + 1, 0, none⟩)) ∧ QH w' (w.heap.size + 1) w.heap.size w.heap.size (.slice none 0 0) [] [] ∧ Below w.heap.size w w' ∧ w'.heap.size = w.heap.size + 2 := by
  have mm := mkMapQ w
  have hb1 := ball (Below.refl _ w) (.map #[] 0)
  have hb2 := ball hb1 (.cells #[.slice none 0 0, .map (some w.heap.size)] 76)
  have HE : Hid (QH ((w.alloc (.map #[] 0)).alloc (.cells #[.slice none 0 0, .map (some w.heap.size)] 76)) (w.heap.size + 1) w.heap.size w.heap.size (.slice none 0 0) [] [] ∧ Below w.heap.size w ((w.alloc (.map #[] 0)).alloc (.cells #[.slice none 0 0, .map (some w.heap.size)] 76)) ∧ ((w.alloc (.map #[] 0)).alloc (.cells #[.slice none 0 0, .map (some w.heap.size)] 76)).heap.size = w.heap.size + 2) := by
    refine ⟨⟨⟨AtL.new1 w (.map #[] 0) 76 [.slice none 0 0, .map (some w.heap.size)], ⟨rfl, Or.inl ⟨rfl, rfl⟩⟩, ?_, (fun g e => by cases e), (by omega)⟩, ⟨(by simp [KN]), (fun x v => by simp)⟩, (fun j h0 hj => by simp at hj)⟩, hb2, by simp⟩
    have fr : Fr [] (w.alloc (.map #[] 0)) ((w.alloc (.map #[] 0)).alloc (.cells #[.slice none 0 0, .map (some w.heap.size)] 76)) := Fr.of_below _ (ball (Below.refl _ _) _)
    exact (cm_new w).fr fr (by simp)
  clear hb1 hb2
  go_enter Try.func26, Try.ntmps26
  go_wp2
  go_ret
  exact ⟨rfl, HE.out⟩
end Go.Proofs.Ytpbjmhcpaeillaa
namespace Go.Proofs.Ytpbjmhcpaeillaa
open Go.RowKit
set_option linter.unusedVariables false

/-- An area's cells. -/
def arQ (a : Wpl.Ar) : List Value := [.int .i64 a.s, .int .i64 a.t, .int .i64 a.l, .int .i64 a.b, .int .i64 a.r]
/-- A row of areas as it is read. -/
def RdQ (w : World) (av : Option Addr) (A : List Wpl.Ar) : Prop := ∀ (i : Nat) (a : Wpl.Ar), A[i]? = some a → ∃ bb off, av = some ⟨bb, off, none⟩ ∧ w.rangeAt bb (off + i * 5) (arQ a)
theorem RdQ.below {w w' : World} {av : Option Addr} {A : List Wpl.Ar} (h : RdQ w av A) (hb : Below w.heap.size w w') : RdQ w' av A := fun i a ha => by
  obtain ⟨bb, off, e, hr⟩ := h i a ha
  exact ⟨bb, off, e, fun j v hv => cell_below hb (hr j v hv)⟩
/-- Is a cell in one of the areas? -/
def seeQ (A : List Wpl.Ar) (x : Wpl.Cl) : Bool := A.any (fun a => Wpl.hasA a.s a.t a.l a.b a.r x.s x.r x.c)
def lnQ (A : List Wpl.Ar) (x : Wpl.Cl) : Int := bif seeQ A x then 0 else 1
theorem lane1_any (a : Wpl.Ar) (x : Wpl.Cl) (cb : Nat) (w : World) (h : AtL w cb [.int .i64 x.s, .int .i64 x.r, .int .i64 x.c]) :
    Calls Try.prog 54 #[.agg #[.int .i64 a.s, .int .i64 a.t, .int .i64 a.l, .int .i64 a.b, .int .i64 a.r], .pointer (some ⟨cb, 0, none⟩)] w fun en w' => en = .returned (.bool (Wpl.hasA a.s a.t a.l a.b a.r x.s x.r x.c)) ∧ Below w.heap.size w w' := by
  have hb0 := ball (Below.refl _ w) (.cells #[.int .i64 a.s, .int .i64 a.t, .int .i64 a.l, .int .i64 a.b, .int .i64 a.r] 39)
  have p := AtL.f5 (AtL.new0 w 39 [.int .i64 a.s, .int .i64 a.t, .int .i64 a.l, .int .i64 a.b, .int .i64 a.r])
  have t := AtL.f3 (AtL.below hb0 h)
  clear h
  obtain ⟨R, hR⟩ : ∃ R, Wpl.hasA a.s a.t a.l a.b a.r x.s x.r x.c = R := ⟨_, rfl⟩
  have HS := fun W => hasQ a.s a.t a.l a.b a.r x.s x.r x.c W
  rw [hR] at HS ⊢
  clear hR
  go_enter Try.func54, Try.ntmps54
  go_upto_region 1 with fail
  generalize w.alloc (.cells #[.int .i64 a.s, .int .i64 a.t, .int .i64 a.l, .int .i64 a.b, .int .i64 a.r] 39) = W0 at *
  obtain ⟨a0, a1, a2, a3, a4⟩ := p
  obtain ⟨x0, x1, x2⟩ := t
  go_wp2_with fail
  refine (HS _).mono ?_
  rintro en w1 ⟨rfl, hb1⟩
  go_wp2
  go_ret
  exact ⟨rfl, below_end hb0 hb1⟩
/-- The first of the areas that has the cell. -/
def IdxP (A : List Wpl.Ar) (x : Wpl.Cl) (w : World) (en : Ending) (w' : World) : Prop := (∃ k : Int, en = .returned (.int .i64 k) ∧ decide (k ≥ 0) = seeQ A x) ∧ Below w.heap.size w w'
set_option maxHeartbeats 4000000 in
theorem index_any (A : List Wpl.Ar) (x : Wpl.Cl) (cb : Nat) (av : Option Addr) (n cap : Nat) (w : World) (h : AtL w cb [.int .i64 x.s, .int .i64 x.r, .int .i64 x.c]) (hr : RdQ w av A) (hn : A.length = n) (hN : True → n ≤ 1000000000) :
    Calls Try.prog 64 #[.slice av n cap, .func (.func 54) #[] #[.pointer (some ⟨cb, 0, none⟩)]] w (IdxP A x w) := by
  have HH : Hid (AtL w cb [.int .i64 x.s, .int .i64 x.r, .int .i64 x.c] ∧ RdQ w av A ∧ A.length = n) := ⟨h, hr, hn⟩
  clear h hr hn
  go_enter Try.func64, Try.ntmps64
  go_upto_region 2 with fail
  go_loopg [8] n (fun gk u wr => ∃ i : Nat, u = .int .i64 (i : Int) ∧ gk = n - i ∧ i ≤ n ∧ Hid (Below w.heap.size w wr) ∧ Hid (seeQ (A.take i) x = false))
  case atStart => exact ⟨0, rfl, rfl, Nat.zero_le _, Below.refl _ _, rfl⟩
  case round =>
    obtain ⟨i, rfl, hg, hi, HB, HS⟩ := hrel
    generalize hw9 : wr = W1 at *
    clear hw9
    by_cases hlt : i < n
    · have hii : (i : Int) < (n : Int) := by omega
      have hiz : (0 : Int) ≤ (i : Int) := by omega
      have hwi : IntKind.i64.wrap ((i : Int) + 1) = (i : Int) + 1 := by have := hN trivial; rw [IntKind.wrap_i64]; omega
      obtain ⟨a, ha⟩ : ∃ a, A[i]? = some a := ⟨A[i]'(by rw [HH.out.2.2]; exact hlt), List.getElem?_eq_getElem _⟩
      obtain ⟨bb, off, e, hrow⟩ := HH.out.2.1.below HB.out i a ha
      subst e
      have k0 : W1.cell? ⟨bb, off + i * 5, none⟩ = some (.int .i64 a.s) := hrow 0 _ rfl
      have k1 : W1.cell? ⟨bb, off + i * 5 + 1, none⟩ = some (.int .i64 a.t) := hrow 1 _ rfl
      have k2 : W1.cell? ⟨bb, off + i * 5 + 2, none⟩ = some (.int .i64 a.l) := hrow 2 _ rfl
      have k3 : W1.cell? ⟨bb, off + i * 5 + 3, none⟩ = some (.int .i64 a.b) := hrow 3 _ rfl
      have k4 : W1.cell? ⟨bb, off + i * 5 + 4, none⟩ = some (.int .i64 a.r) := hrow 4 _ rfl
      have LC := lane1_any a x cb W1 (AtL.below HB.out HH.out.1)
      obtain ⟨t, ht⟩ : ∃ t, Wpl.hasA a.s a.t a.l a.b a.r x.s x.r x.c = t := ⟨_, rfl⟩
      have HT : Hid (A[i]? = some a ∧ Wpl.hasA a.s a.t a.l a.b a.r x.s x.r x.c = t) := ⟨ha, ht⟩
      rw [ht] at LC
      clear ht ha hrow
      go_wp2_with fail
      refine LC.mono ?_
      rintro en w2 ⟨rfl, hb2⟩
      have HB2 : Hid (Below w.heap.size w w2) := below_end HB.out hb2
      clear LC hb2 k0 k1 k2 k3 k4 HB
      cases t with
      | true =>
        have HE : Hid (decide ((i : Int) ≥ 0) = seeQ A x) := by
          have : seeQ A x = true := by
            unfold seeQ
            rw [List.any_eq_true]
            exact ⟨a, List.mem_of_getElem? HT.out.1, HT.out.2⟩
          show _ = _
          rw [this]
          simp
        go_wp2_with fail
        go_ret
        exact ⟨⟨(i : Int), rfl, HE.out⟩, HB2.out⟩
      | false =>
        have HS2 : Hid (seeQ (A.take (i + 1)) x = false) := by
          have h1 := HS.out
          show seeQ (A.take (i + 1)) x = false
          unfold seeQ at *
          rw [List.take_add_one, HT.out.1, List.any_append, h1]
          simp [HT.out.2]
        clear HS
        go_wp2_with fail
        go_roundg (n - (i + 1))
        case rel => exact ⟨i + 1, by simp, rfl, hlt, HB2, HS2⟩
        case measure => omega
    · have hii : ¬ (i : Int) < (n : Int) := by omega
      have HE : Hid (decide ((-1 : Int) ≥ 0) = seeQ A x) := by
        have h1 := HS.out
        rw [List.take_of_length_le (by rw [HH.out.2.2]; omega)] at h1
        show _ = _
        rw [h1]
        rfl
      go_wp2_with fail
      go_ret
      exact ⟨⟨-1, rfl, HE.out⟩, HB.out⟩
end Go.Proofs.Ytpbjmhcpaeillaa
namespace Go.Proofs.Ytpbjmhcpaeillaa
open Go.RowKit
set_option linter.unusedVariables false

theorem contains_any (A : List Wpl.Ar) (x : Wpl.Cl) (cb : Nat) (av : Option Addr) (n cap : Nat) (w : World) (h : AtL w cb [.int .i64 x.s, .int .i64 x.r, .int .i64 x.c]) (hr : RdQ w av A) (hn : A.length = n) (hN : True → n ≤ 1000000000) :
    Calls Try.prog 53 #[.slice av n cap, .func (.func 54) #[] #[.pointer (some ⟨cb, 0, none⟩)]] w fun en w' => en = .returned (.bool (seeQ A x)) ∧ Below w.heap.size w w' := by
  have IX := index_any A x cb av n cap w h hr hn hN
  clear h hr hn hN
  go_enter Try.func53, Try.ntmps53
  go_wp2_with fail
  refine IX.mono ?_
  rintro en w1 ⟨⟨k, rfl, hk⟩, hb1⟩
  have HK : Hid (decide (k ≥ 0) = seeQ A x) := hk
  clear hk IX
  go_wp2_with fail
  go_ret
  exact ⟨by rw [← HK.out]; rfl, hb1⟩
theorem inAny_any (A : List Wpl.Ar) (x : Wpl.Cl) (av : Option Addr) (n cap : Nat) (w : World) (hr : RdQ w av A) (hn : A.length = n) (hN : True → n ≤ 1000000000) :
    Calls Try.prog 44 #[.slice av n cap, .agg #[.int .i64 x.s, .int .i64 x.r, .int .i64 x.c]] w fun en w' => en = .returned (.bool (seeQ A x)) ∧ Below w.heap.size w w' := by
  have hb0 := ball (Below.refl _ w) (.cells #[.int .i64 x.s, .int .i64 x.r, .int .i64 x.c] 33)
  have p := AtL.new0 w 33 [.int .i64 x.s, .int .i64 x.r, .int .i64 x.c]
  have CN := contains_any A x w.heap.size av n cap (w.alloc (.cells #[.int .i64 x.s, .int .i64 x.r, .int .i64 x.c] 33)) p (hr.below hb0) hn hN
  obtain ⟨q, hq⟩ : ∃ q, seeQ A x = q := ⟨_, rfl⟩
  rw [hq] at CN ⊢
  clear hr hn hN p hq
  go_enter Try.func44, Try.ntmps44
  go_upto_region 1 with fail
  generalize w.alloc (.cells #[.int .i64 x.s, .int .i64 x.r, .int .i64 x.c] 33) = W0 at *
  go_wp2_with fail
  refine CN.mono ?_
  rintro en w1 ⟨rfl, hb1⟩
  go_wp2
  go_ret
  exact ⟨rfl, below_end hb0 hb1⟩
theorem lane_any (qb : Nat) (pw : Value) (A : List Wpl.Ar) (x : Wpl.Cl) (av : Option Addr) (n cap : Nat) (w : World) (h : AtL w qb [pw, .slice av n cap]) (hr : RdQ w av A) (hn : A.length = n) (hN : True → n ≤ 1000000000) :
    Calls Try.prog 28 #[.pointer (some ⟨qb, 0, none⟩), .agg #[.int .i64 x.s, .int .i64 x.r, .int .i64 x.c]] w fun en w' => en = .returned (.int .i64 (lnQ A x)) ∧ Below w.heap.size w w' := by
  have hb0 := ball (Below.refl _ w) (.cells #[.int .i64 x.s, .int .i64 x.r, .int .i64 x.c] 33)
  have p := AtL.f3 (AtL.new0 w 33 [.int .i64 x.s, .int .i64 x.r, .int .i64 x.c])
  have hbd := hb0.drew
  have CN := inAny_any A x av n cap (w.alloc (.cells #[.int .i64 x.s, .int .i64 x.r, .int .i64 x.c] 33)).drew (hr.below hbd) hn hN
  obtain ⟨_, c1, _, _⟩ := (AtL.below hb0 h).two
  obtain ⟨q, hq⟩ : ∃ q, seeQ A x = q := ⟨_, rfl⟩
  have HQ : Hid (lnQ A x = bif q then 0 else 1) := by show _ = _; unfold lnQ; rw [hq]
  rw [hq] at CN
  clear h hr hn hN hq
  go_enter Try.func28, Try.ntmps28
  go_upto_region 1 with fail
  generalize w.alloc (.cells #[.int .i64 x.s, .int .i64 x.r, .int .i64 x.c] 33) = W0 at *
  obtain ⟨p0, p1, p2⟩ := p
  have hb9 := (Below.refl W0.heap.size W0).drew
  refine wp_region_held_drew (S := fun W => W.cell? ⟨qb, 1, none⟩ = some (.slice av n cap) ∧ Three W w.heap.size (.int .i64 x.s) (.int .i64 x.r) (.int .i64 x.c)) (by kernel_rfl) ⟨cell_below hb9 c1, three_below hb9 ⟨p0, p1, p2⟩⟩ (fun hHeld => ?_)
  replace c1 := cell_below hb9 c1
  have p3 : Three W0.drew w.heap.size (.int .i64 x.s) (.int .i64 x.r) (.int .i64 x.c) := three_below hb9 ⟨p0, p1, p2⟩
  clear hb9 p0 p1 p2
  generalize W0.drew = W1 at *
  refine wpAnyH_take (i := 0) (oi := { dst := Option.some 5, op := Op.move (Operand.tmp 0), type := 25, pos := "queue.go:63", after := #[], guard := Option.none }) (v := ?_) rfl (by kernel_rfl) (by kernel_rfl) (by kernel_rfl) (fun _ _ _ h => h) (Or.inl ⟨by rfl, ?_⟩) (by assumption) ?_
  rotate_left
  · intro w hSw
    (try dsimp only at hSw)
    go_simp
    try with_reducible rfl
  try simp only [Act.put, List.setIfInBounds_toArray, List.set_cons_zero, List.set_cons_succ]
  refine wpAnyH_take (i := 1) (oi := { dst := Option.some 6, op := Op.nilCheck (Operand.tmp 5), type := 0, pos := "queue.go:63", after := #[{ on := 0, ground := Ground.data }], guard := Option.none }) (v := ?_) rfl (by kernel_rfl) (by kernel_rfl) (by kernel_rfl) (fun _ _ _ h => h) (Or.inl ⟨by rfl, ?_⟩) (by assumption) ?_
  rotate_left
  · intro w hSw
    (try dsimp only at hSw)
    go_simp
    try with_reducible rfl
  try simp only [Act.put, List.setIfInBounds_toArray, List.set_cons_zero, List.set_cons_succ]
  refine wpAnyH_take (i := 2) (oi := { dst := Option.some 7, op := Op.fieldAddr 60 (Operand.tmp 6) 1, type := 0, pos := "queue.go:63", after := #[{ on := 1, ground := Ground.data }], guard := Option.none }) (v := ?_) rfl (by kernel_rfl) (by kernel_rfl) (by kernel_rfl) (fun _ _ _ h => h) (Or.inl ⟨by rfl, ?_⟩) (by assumption) ?_
  rotate_left
  · intro w hSw
    (try dsimp only at hSw)
    go_simp
    try with_reducible rfl
  try simp only [Act.put, List.setIfInBounds_toArray, List.set_cons_zero, List.set_cons_succ]
  refine wpAnyH_take (i := 3) (oi := { dst := Option.some 8, op := Op.load 29 (Operand.tmp 7), type := 29, pos := "queue.go:63", after := #[{ on := 2, ground := Ground.data }], guard := Option.none }) (v := ?_) rfl (by kernel_rfl) (by kernel_rfl) (by kernel_rfl) (fun _ _ _ h => h) (Or.inl ⟨by rfl, ?_⟩) (by assumption) ?_
  rotate_left
  · intro w hSw
    (try dsimp only at hSw)
    go_simp
    try with_reducible rfl
  try simp only [Act.put, List.setIfInBounds_toArray, List.set_cons_zero, List.set_cons_succ]
  refine wpAnyH_take (i := 4) (oi := { dst := Option.some 9, op := Op.load 33 (Operand.tmp 3), type := 33, pos := "queue.go:63", after := #[], guard := Option.none }) (v := ?_) rfl (by kernel_rfl) (by kernel_rfl) (by kernel_rfl) (fun _ _ _ h => h) (Or.inl ⟨by rfl, ?_⟩) (by assumption) ?_
  rotate_left
  · intro w hSw
    (try dsimp only at hSw)
    go_simp
    try with_reducible rfl
  try simp only [Act.put, List.setIfInBounds_toArray, List.set_cons_zero, List.set_cons_succ]
  refine wpAnyH_ready (rs := [5]) (by kernel_rfl) (by simp) ?_
  refine AllReadyH.cons (o := { dst := Option.some 10, op := Op.call { callee := Callee.value (Operand.func 44), args := #[Operand.tmp 8, Operand.tmp 9], argTypes := #[29, 33] }, type := 4, pos := "queue.go:63", after := #[{ on := 3, ground := Ground.data }, { on := 4, ground := Ground.data }], guard := Option.none }) rfl (fun K hK => ?_) AllReadyH.nil
  go_simp
  refine CN.mono ?_
  rintro en w1 ⟨rfl, hb1⟩
  clear CN
  go_wp2_with fail
  refine hK.out _ _ ⟨cell_below hb1 c1, three_below hb1 p3⟩ (fun hHeld => ?_)
  clear hK K hHeld
  try simp only [Act.put, List.setIfInBounds_toArray, List.set_cons_zero, List.set_cons_succ]
  refine wpAnyH_done (by kernel_rfl) ?_ _
  cases q with
  | true =>
    go_wp2
    go_ret
    exact ⟨by rw [HQ.out]; rfl, below_end hbd hb1⟩
  | false =>
    go_wp2
    go_ret
    exact ⟨by rw [HQ.out]; rfl, below_end hbd hb1⟩
/-- A queue: its block qb, its heap, what is seen. -/
structure QQ (w : World) (qb hb mb B : Nat) (rv : Value) (l : List Wq.Wr) (F : List (Wpl.Cl × Int)) (av : Option Addr) (n cap : Nat) (A : List Wpl.Ar) : Prop where
  hd : AtL w qb [.pointer (some ⟨hb, 0, none⟩), .slice av n cap]
  h : QH w hb mb B rv l F
  rd : RdQ w av A
  len : A.length = n
  al : ∀ bb off, av = some ⟨bb, off, none⟩ → bb < w.heap.size
  ab : ∀ bb off, av = some ⟨bb, off, none⟩ → bb ≠ hb ∧ bb ≠ mb ∧ bb ≠ qb ∧ ∀ g, rv.ownBlock = some g → bb ≠ g
  nq : qb ≠ hb ∧ qb ≠ mb ∧ ∀ g, rv.ownBlock = some g → qb ≠ g
theorem len_any (qb hb mb B : Nat) (rv : Value) (l : List Wq.Wr) (F : List (Wpl.Cl × Int)) (av : Option Addr) (n cap : Nat) (A : List Wpl.Ar) (w : World) (h : QQ w qb hb mb B rv l F av n cap A) :
    Calls Try.prog 21 #[.pointer (some ⟨qb, 0, none⟩)] w fun en w' => en = .returned (.int .i64 (l.length : Int)) ∧ Below w.heap.size w w' := by
  have SZ := size_any hb mb B rv l F w h.h.q
  obtain ⟨c0, _, _, _⟩ := h.hd.two
  clear h
  go_enter Try.func21, Try.ntmps21
  go_wp2_with fail
  refine SZ.mono ?_
  rintro en w1 ⟨rfl, hb1⟩
  go_wp2
  go_ret
  exact ⟨rfl, hb1⟩
theorem new_any (w : World) : Calls Try.prog 10 #[] w fun en w' => en = .returned (.pointer (some ⟨w.heap.size + 2, 0, none⟩)) ∧ QQ w' (w.heap.size + 2) (w.heap.size + 1) w.heap.size w.heap.size (.slice none 0 0) [] [] none 0 0 [] ∧ Below w.heap.size w w' ∧ w'.heap.size = w.heap.size + 3 := by
  have NH := newHeap_any w
  go_enter Try.func10, Try.ntmps10
  go_wp2_with fail
  refine NH.mono ?_
  rintro en w1 ⟨rfl, h1, hb1, hs1⟩
  have hb2 := ball (Below.refl _ w1) (.cells #[.pointer (some ⟨w.heap.size + 1, 0, none⟩), .slice none 0 0] 60)
  have p := AtL.new0 w1 60 [.pointer (some ⟨w.heap.size + 1, 0, none⟩), .slice none 0 0]
  have HE : Hid (QQ (w1.alloc (.cells #[.pointer (some ⟨w.heap.size + 1, 0, none⟩), .slice none 0 0] 60)) (w.heap.size + 2) (w.heap.size + 1) w.heap.size w.heap.size (.slice none 0 0) [] [] none 0 0 [] ∧ Below w.heap.size w (w1.alloc (.cells #[.pointer (some ⟨w.heap.size + 1, 0, none⟩), .slice none 0 0] 60)) ∧ (w1.alloc (.cells #[.pointer (some ⟨w.heap.size + 1, 0, none⟩), .slice none 0 0] 60)).heap.size = w.heap.size + 3) := by
    rw [hs1] at p
    exact ⟨⟨p, ⟨h1.q.below hb2, h1.f, h1.o⟩, (fun i a ha => by simp at ha), rfl, (fun bb off e => by cases e), (fun bb off e => by cases e), (by omega), (by omega), (fun g e => by cases e)⟩, below_end hb1 hb2, by simp [hs1]⟩
  clear NH h1 hb1 hb2 p
  go_wp2_with fail
  go_ret
  exact ⟨by rw [← hs1]; rfl, HE.out⟩
end Go.Proofs.Ytpbjmhcpaeillaa
