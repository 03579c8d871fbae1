/- Queues: scripts of acts; a queue behind a script. -/

import Derived.Test.YtpbjmhcpaeillaaQStB
import Derived.Laws.OwnMore
namespace Go.Proofs.Ytpbjmhcpaeillaa
open Go.RowKit
set_option linter.unusedVariables false

/-- An act. -/
structure Ac where
  k : Int
  x : Wpl.Cl
  n : Int
  A : List Wpl.Ar
/-- A row of acts is read there. -/
def RdS (w : World) (av : Option Addr) (T : List Ac) : Prop := ∀ (i : Nat) (a : Ac), T[i]? = some a → ∃ bb off, av = some ⟨bb, off, none⟩ ∧ ∃ rv m cap, w.rangeAt bb (off + i * 6) [.int .i64 a.k, .int .i64 a.x.s, .int .i64 a.x.r, .int .i64 a.x.c, .int .i64 a.n, .slice rv m cap] ∧ RdQ w rv a.A ∧ a.A.length = m ∧ (rv = none → m = 0 ∧ cap = 0)
theorem RdS.below {w w' : World} {av : Option Addr} {T : List Ac} (h : RdS w av T) (hb : Below w.heap.size w w') : RdS w' av T := fun i a ha => by
  obtain ⟨bb, off, e, rv, m, cap, hr, hq, hm, hz⟩ := h i a ha
  exact ⟨bb, off, e, rv, m, cap, fun j v hv => cell_below hb (hr j v hv), hq.below hb, hm, hz⟩
/-- How much a script is. -/
def tot (T : List Ac) : Nat := T.length + (T.map (fun a => a.A.length)).sum
def MuP (T : List Ac) (w : World) (en : Ending) (w' : World) : Prop := (∃ q : Bool, en = .returned (.bool q) ∧ (q = false → tot T ≤ 400)) ∧ w' = w
theorem sum_take (T : List Ac) {i : Nat} {a : Ac} (h : T[i]? = some a) : ((T.take (i + 1)).map (fun a => a.A.length)).sum = ((T.take i).map (fun a => a.A.length)).sum + a.A.length := by
  rw [List.take_add_one, h, List.map_append, List.sum_append]
  simp
set_option maxRecDepth 100000 in
theorem much_any (T : List Ac) (av : Option Addr) (n cap : Nat) (w : World) (h : RdS w av T) (hn : T.length = n) (hB : True → n ≤ 1000000000000000) (hA : True → ∀ a ∈ T, a.A.length ≤ 1000000000000000) :
    Calls Try.prog 9 #[.slice av n cap] w (MuP T w) := by
  have HH : Hid (RdS w av T ∧ T.length = n) := ⟨h, hn⟩
  clear h hn
  go_enter Try.func9, Try.ntmps9
  go_upto_region 3 with fail
  go_loopg [3, 4] n (fun gk y x wr => ∃ (i s : Nat), y = .int .i64 (s : Int) ∧ x = .int .i64 (i : Int) ∧ gk = n - i ∧ Hid (i ≤ n) ∧ Hid (s = n + ((T.take i).map (fun a => a.A.length)).sum) ∧ w = wr)
  case atStart => exact ⟨0, n, rfl, rfl, rfl, Nat.zero_le _, rfl, rfl⟩
  case round =>
    obtain ⟨i, s, rfl, rfl, hg, HI, HS, rfl⟩ := hrel
    by_cases hlt : i < n
    · have hii : (i : Int) < (n : Int) := by omega
      have hiz : (0 : Int) ≤ (i : Int) := by omega
      by_cases hs : s ≤ 400
      · have hsi : (s : Int) ≤ 400 := by omega
        have hwi : IntKind.i64.wrap ((i : Int) + 1) = (i : Int) + 1 := by have := hB trivial; rw [IntKind.wrap_i64]; omega
        obtain ⟨a, ha⟩ : ∃ a, T[i]? = some a := ⟨T[i]'(by rw [HH.out.2]; exact hlt), List.getElem?_eq_getElem _⟩
        obtain ⟨bb, off, e, rv, m, cap', hr, _, hm, _⟩ := HH.out.1 i a ha
        have HM : Hid (s + m = n + ((T.take (i + 1)).map (fun a => a.A.length)).sum) := by
          have := HS.out
          show _ = _
          rw [sum_take T ha]
          omega
        have hwm : IntKind.i64.wrap ((s : Int) + (m : Int)) = (s : Int) + (m : Int) := by
          have := hA trivial a (List.mem_of_getElem? ha)
          rw [IntKind.wrap_i64]
          omega
        subst e
        have k5 : w.cell? ⟨bb, off + i * 6 + 5, none⟩ = some (.slice rv m cap') := hr 5 _ rfl
        clear ha hr hm HH HS
        go_wp2_with fail
        go_roundg (n - (i + 1))
        case rel => exact ⟨i + 1, s + m, by simp, by simp, rfl, hlt, HM, rfl⟩
        case measure => omega
      · have hsi : ¬ (s : Int) ≤ 400 := by omega
        have hgt : (s : Int) > 400 := by omega
        go_wp2_with fail
        go_ret
        exact ⟨⟨true, rfl, fun z => by cases z⟩, rfl⟩
    · have hii : ¬ (i : Int) < (n : Int) := by omega
      have HE : Hid (s = tot T) := by
        have h1 := HS.out
        rw [List.take_of_length_le (by rw [HH.out.2]; omega)] at h1
        show s = _
        unfold tot
        rw [HH.out.2]
        exact h1
      by_cases hs : (s : Int) > 400
      · go_wp2_with fail
        go_ret
        exact ⟨⟨true, rfl, fun z => by cases z⟩, rfl⟩
      · have hsd : decide ((s : Int) > 400) = false := decide_eq_false hs
        go_wp2_with fail
        go_ret
        exact ⟨⟨false, rfl, fun _ => by rw [← HE.out]; omega⟩, rfl⟩
/-- What a script leaves: what waits, what is seen. -/
def plS (q : List Wq.Wr × List Wpl.Ar) (a : Ac) : List Wq.Wr × List Wpl.Ar :=
  if a.k = 1 then (⟨a.x.s, a.x.r, a.x.c, lnQ q.2 a.x, a.n⟩ :: offW a.x q.1, q.2) else if a.k = 2 then (offW a.x q.1, q.2) else if a.k = 3 then (q.1.map (reW a.A), a.A) else q
def plQ (T : List Ac) : List Wq.Wr × List Wpl.Ar := T.foldl plS ([], [])
theorem plQ_take (T : List Ac) {i : Nat} {a : Ac} (h : T[i]? = some a) : plQ (T.take (i + 1)) = plS (plQ (T.take i)) a := by
  unfold plQ
  rw [List.take_add_one, h, List.foldl_append]
  rfl
theorem plS_len (q : List Wq.Wr × List Wpl.Ar) (a : Ac) : (plS q a).1.length ≤ q.1.length + 1 ∧ (plS q a).2.length ≤ q.2.length + a.A.length := by
  have hf : ∀ x, (offW x q.1).length ≤ q.1.length := fun x => List.length_filter_le _ _
  unfold plS
  split
  · have := hf a.x
    exact ⟨by simp; omega, by simp⟩
  · split
    · have := hf a.x
      exact ⟨by simp; omega, by simp⟩
    · split
      · exact ⟨by simp, by simp⟩
      · exact ⟨by omega, by omega⟩
theorem foldl_len (T : List Ac) : ∀ q : List Wq.Wr × List Wpl.Ar, (T.foldl plS q).1.length ≤ q.1.length + T.length ∧ (T.foldl plS q).2.length ≤ q.2.length + (T.map (fun a => a.A.length)).sum := by
  induction T with
  | nil => exact fun q => ⟨by simp, by simp⟩
  | cons a r ih =>
    intro q
    have h1 := ih (plS q a)
    have h2 := plS_len q a
    rw [List.foldl_cons, List.map_cons, List.sum_cons, List.length_cons]
    omega
theorem plQ_len (T : List Ac) : (plQ T).1.length ≤ tot T ∧ (plQ T).2.length ≤ tot T := by
  have := foldl_len T ([], [])
  unfold plQ tot
  simp only [List.length_nil, Nat.zero_add] at this
  omega
theorem tot_take (T : List Ac) (i : Nat) : tot (T.take i) ≤ tot T := by
  unfold tot
  have h1 : (T.take i).length ≤ T.length := by rw [List.length_take]; omega
  have h2 : ((T.take i).map (fun a => a.A.length)).sum ≤ (T.map (fun a => a.A.length)).sum := by
    have e : (T.map (fun a => a.A.length)).sum = ((T.take i).map (fun a => a.A.length)).sum + ((T.drop i).map (fun a => a.A.length)).sum := by
      rw [← List.sum_append, ← List.map_append, List.take_append_drop]
    omega
  omega
/-- A row of areas of one's own, read. -/
theorem RdQ.of_ownV {w : World} {B n : Nat} {v : Value} {C : List Wpl.Ar} (h : w.ownsRow B 39 5 v n (flatA C)) (hn : C.length = n) : ∃ av cap, v = .slice av n cap ∧ RdQ w av C ∧ (av = none → n = 0) ∧ (∀ p, av = some p → p.spot = none) ∧ (∀ bb off, av = some ⟨bb, off, none⟩ → v.ownBlock = some bb) := by
  rcases h.2 with ⟨e, h0⟩ | ⟨g, cap, cur, e, _⟩
  · subst e
    refine ⟨none, 0, by rw [h0], fun i a ha => ?_, fun _ => h0, fun p e => (by cases e), fun bb off e => by cases e⟩
    have := (List.getElem?_eq_some_iff.1 ha).1
    omega
  · subst e
    exact ⟨some ⟨g, 0, none⟩, cap, rfl, RdQ.of_own h, fun e => (by cases e), fun p e => (by simp at e; rw [← e]), fun bb off e => by
      simp only [Option.some.injEq, Addr.mk.injEq] at e
      rw [← e.1]
      rfl⟩
/-- A row of areas is copied into an empty one. -/
theorem wpList_copA {ops : Array Oper} {rest : List Oper} {o : Oper} {a : Act} {Q : Exit → Act → World → Prop} (hgd : o.guard = none) (sl x : Operand) (ho : o.op = .call { callee := .builtin .append, args := #[sl, x], argTypes := #[29, 29] })
    (w : World) (B : Nat) (hB : B ≤ w.heap.size) (v : Value) (hs : a.eval sl = v) (hown : w.ownsRow B 39 5 v 0 []) (rv : Option Addr) (m c : Nat) (l : List Wpl.Ar) (hm : l.length = m) (hx : a.eval x = .slice rv m c) (hr : RdQ w rv l) (hz : rv = none → m = 0 ∧ c = 0) (hn : m ≤ 2000000000)
    (h : ∀ v' w', w'.ownsRow B 39 5 v' m (flatA l) → w.grownBy w' v.ownBlock → wpList Try.prog ops Q rest (a.put o.dst v') w') : wpList Try.prog ops Q (o :: rest) a w := by
  cases rv with
  | none =>
    obtain ⟨rfl, rfl⟩ := hz rfl
    have hl : l = [] := List.eq_nil_of_length_eq_zero hm
    subst hl
    refine wpList_plain hgd fun K hK => ?_
    obtain ⟨i0, hi0, hz0, hz1, hz2⟩ := info_partsQ arInfo
    have hr2 := run_append_owned_none (P := Try.prog) (w := w) B 29 o.type 39 i0 5 undArs hi0 v 0 [] hown
    unfold Oper.wp execOp
    simp only [ho, resolve, invoke, builtin, Sem.run_bind, Sem.run_pure, Result.andThen_ok, List.map_toArray, List.map_cons, List.map_nil, hs, hx, hr2]
    exact hK _ _ (h v w hown ⟨rfl, rfl, rfl, Nat.le_refl _, fun k _ _ => rfl⟩)
  | some p =>
    refine wpList_plain hgd fun K hK => ?_
    obtain ⟨i0, hi0, hz0, hz1, hz2⟩ := info_partsQ arInfo
    obtain ⟨v', w', hr2, h2, h3, _, h5⟩ := run_append_own_at (P := Try.prog) w B 29 o.type 39 i0 _ 5 40 undArs hi0 hz0 hz1 hz2 rfl (by decide) v 0 [] hown p m c (flatA l) (by rw [flatA_len, hm]) (fun j u hu => by
      have h0 : 0 < l.length := by
        have := (List.getElem?_eq_some_iff.1 hu).1
        rw [flatA_len] at this
        omega
      obtain ⟨b2, o2, e, hc⟩ := hr.flat h0
      simp only [Option.some.injEq] at e
      rw [e, show (⟨b2, o2, none⟩ : Addr).add j = ⟨b2, o2 + j, none⟩ from by
        simp [Addr.add]
        try (intro h0; omega)]
      exact hc j u hu) (oneA l) (by unfold maxLen; omega) (by omega) hB
    unfold Oper.wp execOp
    simp only [ho, resolve, invoke, builtin, Sem.run_bind, Sem.run_pure, Result.andThen_ok, List.map_toArray, List.map_cons, List.map_nil, hs, hx, hr2]
    exact hK _ _ (h v' w' (by simpa using h2) h3)
/-- What made answers. -/
def MaP (w : World) (l : List Wq.Wr) (A : List Wpl.Ar) (en : Ending) (w' : World) : Prop := ∃ qb, en = .returned (.pointer (some ⟨qb, 0, none⟩)) ∧ Qst w w' qb l A
set_option maxRecDepth 100000 in
set_option maxHeartbeats 8000000 in
theorem made_any (T : List Ac) (av : Option Addr) (n cap : Nat) (w : World) (h : RdS w av T) (hn : T.length = n) (ht : tot T ≤ 400) :
    Calls Try.prog 18 #[.slice av n cap] w (MaP w (plQ T).1 (plQ T).2) := by
  have HH : Hid (RdS w av T ∧ T.length = n ∧ tot T ≤ 400) := ⟨h, hn, ht⟩
  have NW := st_new w
  obtain ⟨qb, hqb⟩ : ∃ qb, w.heap.size + 2 = qb := ⟨_, rfl⟩
  rw [hqb] at NW
  clear h hn ht hqb
  go_enter Try.func18, Try.ntmps18
  go_wp2_with fail
  refine NW.mono ?_
  rintro en w1 ⟨rfl, h1⟩
  have HQ1 : Hid (Qst w w1 qb (plQ (T.take 0)).1 (plQ (T.take 0)).2) := h1
  clear NW h1
  go_upto_region 3 with fail
  go_loopg [4] n (fun gk x wr => ∃ i : Nat, x = .int .i64 (i : Int) ∧ gk = n - i ∧ Hid (i ≤ n) ∧ Hid (Qst w wr qb (plQ (T.take i)).1 (plQ (T.take i)).2))
  case atStart => exact ⟨0, rfl, rfl, Nat.zero_le _, HQ1⟩
  case round =>
    clear HQ1
    obtain ⟨i, rfl, hg, HI, HQ⟩ := hrel
    generalize hw9 : wr = W1 at *
    clear hw9
    by_cases hlt : i < n
    · have hii : (i : Int) < (n : Int) := by omega
      have hiz : (0 : Int) ≤ (i : Int) := by omega
      have hwi : IntKind.i64.wrap ((i : Int) + 1) = (i : Int) + 1 := by have := HH.out; unfold tot at this; rw [IntKind.wrap_i64]; omega
      obtain ⟨a, ha⟩ : ∃ a, T[i]? = some a := ⟨T[i]'(by rw [HH.out.2.1]; exact hlt), List.getElem?_eq_getElem _⟩
      have HA : Hid (T[i]? = some a) := ha
      have HP : Hid (plQ (T.take (i + 1)) = plS (plQ (T.take i)) a) := plQ_take T ha
      have HZ : Hid ((plQ (T.take i)).1.length ≤ 400 ∧ (plQ (T.take i)).2.length ≤ 400) := by
        have h1 := plQ_len (T.take i)
        have h2 := tot_take T i
        have h3 := HH.out
        exact ⟨by omega, by omega⟩
      have HS : Hid (RdS w av T) := HH.out.1
      obtain ⟨bb, off, e, rv, m, cap', hr, hra, hm, hz⟩ := HS.out.below HQ.out.bl i a ha
      subst e
      have HRA : Hid (RdQ W1 rv a.A ∧ a.A.length = m ∧ (rv = none → m = 0 ∧ cap' = 0)) := ⟨hra, hm, hz⟩
      have k0 : W1.cell? ⟨bb, off + i * 6, none⟩ = some (.int .i64 a.k) := hr 0 _ rfl
      have k1 : W1.cell? ⟨bb, off + i * 6 + 1, none⟩ = some (.int .i64 a.x.s) := hr 1 _ rfl
      have k2 : W1.cell? ⟨bb, off + i * 6 + 1 + 1, none⟩ = some (.int .i64 a.x.r) := hr 2 _ rfl
      have k3 : W1.cell? ⟨bb, off + i * 6 + 1 + 2, none⟩ = some (.int .i64 a.x.c) := hr 3 _ rfl
      have k4 : W1.cell? ⟨bb, off + i * 6 + 4, none⟩ = some (.int .i64 a.n) := hr 4 _ rfl
      have k5 : W1.cell? ⟨bb, off + i * 6 + 5, none⟩ = some (.slice rv m cap') := hr 5 _ rfl
      clear ha hr hra hm hz
      by_cases hk1 : a.k = 1
      · go_upto_region 7 with fail
        have hb1 := (Below.refl W1.heap.size W1).drew
        refine wp_region_held_drew (S := fun W => (W.cell? ⟨bb, off + i * 6 + 1, none⟩ = some (.int .i64 a.x.s) ∧ W.cell? ⟨bb, off + i * 6 + 1 + 1, none⟩ = some (.int .i64 a.x.r) ∧ W.cell? ⟨bb, off + i * 6 + 1 + 2, none⟩ = some (.int .i64 a.x.c)) ∧ W.cell? ⟨bb, off + i * 6 + 4, none⟩ = some (.int .i64 a.n)) (by kernel_rfl) ⟨⟨cell_below hb1 k1, cell_below hb1 k2, cell_below hb1 k3⟩, cell_below hb1 k4⟩ (fun hHeld => ?_)
        have HQ2 : Hid (Qst w W1.drew qb (plQ (T.take i)).1 (plQ (T.take i)).2) := HQ.out.below hb1
        replace k1 := cell_below hb1 k1
        replace k2 := cell_below hb1 k2
        replace k3 := cell_below hb1 k3
        replace k4 := cell_below hb1 k4
        clear hb1 HQ k0 k5
        generalize W1.drew = W2 at *
        refine wpAnyH_take (i := 0) (oi := { dst := Option.some 19, op := Op.move (Operand.tmp 3), type := 25, pos := "outright.go:17", after := #[], guard := Option.none }) (v := ?_) rfl (by kernel_rfl) (by kernel_rfl) (by kernel_rfl) (fun _ _ _ h => h) (Or.inl ⟨by rfl, ?_⟩) (by assumption) ?_
        rotate_left
        · intro w hSw
          (try dsimp only at hSw)
          go_simp
          try with_reducible rfl
        try simp only [Act.put, List.setIfInBounds_toArray, List.set_cons_zero, List.set_cons_succ]
        refine wpAnyH_take (i := 1) (oi := { dst := Option.some 20, op := Op.move (Operand.tmp 0), type := 22, pos := "outright.go:17", after := #[], guard := Option.none }) (v := ?_) rfl (by kernel_rfl) (by kernel_rfl) (by kernel_rfl) (fun _ _ _ h => h) (Or.inl ⟨by rfl, ?_⟩) (by assumption) ?_
        rotate_left
        · intro w hSw
          (try dsimp only at hSw)
          go_simp
          try with_reducible rfl
        try simp only [Act.put, List.setIfInBounds_toArray, List.set_cons_zero, List.set_cons_succ]
        refine wpAnyH_take (i := 2) (oi := { dst := Option.some 21, op := Op.move (Operand.tmp 4), type := 3, pos := "outright.go:17", after := #[], guard := Option.none }) (v := ?_) rfl (by kernel_rfl) (by kernel_rfl) (by kernel_rfl) (fun _ _ _ h => h) (Or.inl ⟨by rfl, ?_⟩) (by assumption) ?_
        rotate_left
        · intro w hSw
          (try dsimp only at hSw)
          go_simp
          try with_reducible rfl
        try simp only [Act.put, List.setIfInBounds_toArray, List.set_cons_zero, List.set_cons_succ]
        refine wpAnyH_take (i := 3) (oi := { dst := Option.some 22, op := Op.indexAddr 22 (Operand.tmp 20) (Operand.tmp 21), type := 0, pos := "outright.go:17", after := #[{ on := 1, ground := Ground.data }, { on := 2, ground := Ground.data }], guard := Option.none }) (v := ?_) rfl (by kernel_rfl) (by kernel_rfl) (by kernel_rfl) (fun _ _ _ h => h) (Or.inl ⟨by rfl, ?_⟩) (by assumption) ?_
        rotate_left
        · intro w hSw
          (try dsimp only at hSw)
          go_simp
          try with_reducible rfl
        try simp only [Act.put, List.setIfInBounds_toArray, List.set_cons_zero, List.set_cons_succ]
        refine wpAnyH_take (i := 4) (oi := { dst := Option.some 23, op := Op.fieldAddr 35 (Operand.tmp 22) 1, type := 0, pos := "outright.go:17", after := #[{ on := 3, ground := Ground.data }], guard := Option.none }) (v := ?_) rfl (by kernel_rfl) (by kernel_rfl) (by kernel_rfl) (fun _ _ _ h => h) (Or.inl ⟨by rfl, ?_⟩) (by assumption) ?_
        rotate_left
        · intro w hSw
          (try dsimp only at hSw)
          go_simp
          try with_reducible rfl
        try simp only [Act.put, List.setIfInBounds_toArray, List.set_cons_zero, List.set_cons_succ]
        refine wpAnyH_take (i := 5) (oi := { dst := Option.some 24, op := Op.load 33 (Operand.tmp 23), type := 33, pos := "outright.go:17", after := #[{ on := 4, ground := Ground.data }], guard := Option.none }) (v := ?_) rfl (by kernel_rfl) (by kernel_rfl) (by kernel_rfl) (fun _ _ _ h => h) (Or.inl ⟨by rfl, ?_⟩) (by assumption) ?_
        rotate_left
        · intro w hSw
          (try dsimp only at hSw)
          go_simp
          try with_reducible rfl
        try simp only [Act.put, List.setIfInBounds_toArray, List.set_cons_zero, List.set_cons_succ]
        refine wpAnyH_take (i := 6) (oi := { dst := Option.some 25, op := Op.move (Operand.tmp 0), type := 22, pos := "outright.go:17", after := #[], guard := Option.none }) (v := ?_) rfl (by kernel_rfl) (by kernel_rfl) (by kernel_rfl) (fun _ _ _ h => h) (Or.inl ⟨by rfl, ?_⟩) (by assumption) ?_
        rotate_left
        · intro w hSw
          (try dsimp only at hSw)
          go_simp
          try with_reducible rfl
        try simp only [Act.put, List.setIfInBounds_toArray, List.set_cons_zero, List.set_cons_succ]
        refine wpAnyH_take (i := 7) (oi := { dst := Option.some 26, op := Op.move (Operand.tmp 4), type := 3, pos := "outright.go:17", after := #[], guard := Option.none }) (v := ?_) rfl (by kernel_rfl) (by kernel_rfl) (by kernel_rfl) (fun _ _ _ h => h) (Or.inl ⟨by rfl, ?_⟩) (by assumption) ?_
        rotate_left
        · intro w hSw
          (try dsimp only at hSw)
          go_simp
          try with_reducible rfl
        try simp only [Act.put, List.setIfInBounds_toArray, List.set_cons_zero, List.set_cons_succ]
        refine wpAnyH_take (i := 8) (oi := { dst := Option.some 27, op := Op.indexAddr 22 (Operand.tmp 25) (Operand.tmp 26), type := 0, pos := "outright.go:17", after := #[{ on := 6, ground := Ground.data }, { on := 7, ground := Ground.data }], guard := Option.none }) (v := ?_) rfl (by kernel_rfl) (by kernel_rfl) (by kernel_rfl) (fun _ _ _ h => h) (Or.inl ⟨by rfl, ?_⟩) (by assumption) ?_
        rotate_left
        · intro w hSw
          (try dsimp only at hSw)
          go_simp
          try with_reducible rfl
        try simp only [Act.put, List.setIfInBounds_toArray, List.set_cons_zero, List.set_cons_succ]
        refine wpAnyH_take (i := 9) (oi := { dst := Option.some 28, op := Op.fieldAddr 35 (Operand.tmp 27) 2, type := 0, pos := "outright.go:17", after := #[{ on := 8, ground := Ground.data }], guard := Option.none }) (v := ?_) rfl (by kernel_rfl) (by kernel_rfl) (by kernel_rfl) (fun _ _ _ h => h) (Or.inl ⟨by rfl, ?_⟩) (by assumption) ?_
        rotate_left
        · intro w hSw
          (try dsimp only at hSw)
          go_simp
          try with_reducible rfl
        try simp only [Act.put, List.setIfInBounds_toArray, List.set_cons_zero, List.set_cons_succ]
        refine wpAnyH_take (i := 10) (oi := { dst := Option.some 29, op := Op.load 3 (Operand.tmp 28), type := 3, pos := "outright.go:17", after := #[{ on := 9, ground := Ground.data }], guard := Option.none }) (v := ?_) rfl (by kernel_rfl) (by kernel_rfl) (by kernel_rfl) (fun _ _ _ h => h) (Or.inl ⟨by rfl, ?_⟩) (by assumption) ?_
        rotate_left
        · intro w hSw
          (try dsimp only at hSw)
          go_simp
          try with_reducible rfl
        try simp only [Act.put, List.setIfInBounds_toArray, List.set_cons_zero, List.set_cons_succ]
        refine wpAnyH_ready (rs := [11]) (by kernel_rfl) (by simp) ?_
        refine AllReadyH.cons (o := { dst := Option.some 30, op := Op.call { callee := Callee.value (Operand.func 11), args := #[Operand.tmp 19, Operand.tmp 24, Operand.tmp 29], argTypes := #[25, 33, 3] }, type := 0, pos := "outright.go:17", after := #[{ on := 0, ground := Ground.data }, { on := 5, ground := Ground.data }, { on := 10, ground := Ground.data }], guard := Option.none }) rfl (fun K hK => ?_) AllReadyH.nil
        have PU := st_put HQ2.out a.x a.n (fun _ => by have := HZ.out; omega) (fun _ => by have := HZ.out; omega)
        go_simp
        refine PU.mono ?_
        rintro en w4 ⟨rfl, h4⟩
        have HQ4 : Hid (Qst w w4 qb (plQ (T.take (i + 1))).1 (plQ (T.take (i + 1))).2) := by rw [HP.out]; unfold plS; rw [if_pos hk1]; exact h4
        have HS4 : Hid (RdS w4 (some ⟨bb, off, none⟩) T) := HS.out.below HQ4.out.bl
        obtain ⟨bb', off', e4, rv', m', cap', hr4, _⟩ := HS4.out i a HA.out
        obtain ⟨rfl, rfl⟩ : bb' = bb ∧ off' = off := by simpa using e4.symm
        have c1 : w4.cell? ⟨bb', off' + i * 6 + 1, none⟩ = some (.int .i64 a.x.s) := hr4 1 _ rfl
        have c2 : w4.cell? ⟨bb', off' + i * 6 + 1 + 1, none⟩ = some (.int .i64 a.x.r) := hr4 2 _ rfl
        have c3 : w4.cell? ⟨bb', off' + i * 6 + 1 + 2, none⟩ = some (.int .i64 a.x.c) := hr4 3 _ rfl
        have c4 : w4.cell? ⟨bb', off' + i * 6 + 4, none⟩ = some (.int .i64 a.n) := hr4 4 _ rfl
        clear PU h4 hr4 HQ2
        go_wp2_with fail
        refine hK.out _ _ ⟨⟨c1, c2, c3⟩, c4⟩ (fun hHeld => ?_)
        clear hK K
        try simp only [Act.put, List.setIfInBounds_toArray, List.set_cons_zero, List.set_cons_succ]
        refine wpAnyH_done (by kernel_rfl) ?_ _
        clear hHeld c1 c2 c3 c4 k1 k2 k3 k4

        go_wp2_with fail
        go_roundg (n - (i + 1))
        case rel => exact ⟨i + 1, by simp, rfl, hlt, HQ4⟩
        case measure => omega
      · by_cases hk2 : a.k = 2
        · have DR := st_drop HQ.out a.x (fun _ => by have := HZ.out; omega)
          go_wp2_with fail
          refine DR.mono ?_
          rintro en w4 ⟨rfl, h4⟩
          have HQ4 : Hid (Qst w w4 qb (plQ (T.take (i + 1))).1 (plQ (T.take (i + 1))).2) := by rw [HP.out]; unfold plS; rw [if_neg hk1, if_pos hk2]; exact h4
          clear DR h4 HQ k0 k1 k2 k3 k4 k5
          go_wp2_with fail
          go_roundg (n - (i + 1))
          case rel => exact ⟨i + 1, by simp, rfl, hlt, HQ4⟩
          case measure => omega
        · by_cases hk3 : a.k = 3
          · have ba := ball (Below.refl _ W1) (.cells #[] 39)
            have oE : (W1.alloc (.cells #[] 39)).ownsRow W1.heap.size 39 5 (.slice (some ⟨W1.heap.size, 0, none⟩) 0 0) 0 [] := ⟨rfl, Or.inr ⟨W1.heap.size, 0, #[], rfl, Nat.le_refl _, (Go.MapKept.heap_alloc W1 _).1, Nat.le_refl _, by unfold maxLen; omega, rfl, rfl⟩⟩
            have hs0 : W1.heap.size ≤ (W1.alloc (.cells #[] 39)).heap.size := ba.size
            have HB0 : Hid (Below W1.heap.size W1 (W1.alloc (.cells #[] 39))) := ba
            have HM4 : Hid (m ≤ 400) := by
              have h1 : tot (T.take (i + 1)) ≤ tot T := tot_take T (i + 1)
              have h2 := sum_take T HA.out
              have h3 := HH.out
              have h4 := HRA.out.2.1
              unfold tot at h1 h3
              show m ≤ 400
              omega
            clear ba
            have k5b := cell_below HB0.out k5
            go_wp2_with (at_builtin; refine wpList_copA rfl (.tmp 43) (.tmp 48) rfl (W1.alloc (.cells #[] 39)) W1.heap.size hs0 (.slice (some ⟨W1.heap.size, 0, none⟩) 0 0) rfl oE rv m cap' a.A HRA.out.2.1 rfl (HRA.out.1.below HB0.out) HRA.out.2.2 (by have := HM4.out; omega) ?_; intro v2 w2 o2 hg2)
            obtain ⟨cv, cc, rfl, hrc, hzc, hspc, _⟩ := RdQ.of_ownV o2 HRA.out.2.1
            have HB2 : Hid (Below W1.heap.size W1 w2) := HB0.out.grown hg2 HB0.out.size (fun k e => by
              have : some W1.heap.size = some k := e
              simp at this
              omega)
            have HQ2 : Hid (Qst w w2 qb (plQ (T.take i)).1 (plQ (T.take i)).2) := HQ.out.below HB2.out
            have SE := st_see HQ2.out cv m cc a.A (fun _ => by have := HZ.out; omega) hrc HRA.out.2.1 hzc hspc (fun _ => by have := HM4.out; omega)
            clear o2 hg2 hrc hzc hspc k0 k1 k2 k3 k4 k5 k5b oE hs0 HB0 HQ
            go_wp2_with fail
            refine SE.mono ?_
            rintro en w4 ⟨rfl, h4⟩
            have HQ4 : Hid (Qst w w4 qb (plQ (T.take (i + 1))).1 (plQ (T.take (i + 1))).2) := by rw [HP.out]; unfold plS; rw [if_neg hk1, if_neg hk2, if_pos hk3]; exact h4
            clear SE h4 HQ2 HB2
            go_wp2_with fail
            go_roundg (n - (i + 1))
            case rel => exact ⟨i + 1, by simp, rfl, hlt, HQ4⟩
            case measure => omega
          · go_wp2_with fail
            have HQ4 : Hid (Qst w W1 qb (plQ (T.take (i + 1))).1 (plQ (T.take (i + 1))).2) := by rw [HP.out]; unfold plS; rw [if_neg hk1, if_neg hk2, if_neg hk3]; exact HQ.out
            go_roundg (n - (i + 1))
            case rel => exact ⟨i + 1, by simp, rfl, hlt, HQ4⟩
            case measure => omega
    · have hii : ¬ (i : Int) < (n : Int) := by omega
      have HE : Hid (MaP w (plQ T).1 (plQ T).2 (.returned (.pointer (some ⟨qb, 0, none⟩))) W1) := by
        have := HQ.out
        rw [List.take_of_length_le (by rw [HH.out.2.1]; omega)] at this
        exact ⟨qb, rfl, this⟩
      clear HQ HH
      go_wp2
      go_ret
      exact HE.out
end Go.Proofs.Ytpbjmhcpaeillaa
