/- Queues: See. -/

import Derived.Test.YtpbjmhcpaeillaaQTurn
namespace Go.Proofs.Ytpbjmhcpaeillaa
open Go.RowKit
set_option linter.unusedVariables false

set_option maxRecDepth 100000 in
theorem turn_none (hb mb B : Nat) (F : List (Wpl.Cl × Int)) (pb : Nat) (A : List Wpl.Ar) (w : World) (h : HQ w hb mb B (.slice none 0 0) [] F) (hf : WF [] F) :
    Calls Try.prog 32 #[.pointer (some ⟨hb, 0, none⟩), .func (.func 33) #[] #[.pointer (some ⟨pb, 0, none⟩)]] w (TrnP w hb mb B (.slice none 0 0) [] A) := by
  obtain ⟨c0, _, _, _⟩ := h.hd.two
  have HE : Hid (TrnP w hb mb B (.slice none 0 0) [] A (.returned (.tuple #[])) w) := ⟨[], F, rfl, ⟨h, hf, fun j h0 hj _ => absurd hj (Nat.not_lt_zero _)⟩, List.Perm.refl _, Fr.refl _ _⟩
  clear h hf
  go_enter Try.func32, Try.ntmps32
  go_upto_region 1 with fail
  go_loopg [12] 0 (fun gk x wr => x = .int .i64 0 ∧ w = wr)
  case atStart => exact ⟨rfl, rfl⟩
  case round =>
    obtain ⟨rfl, rfl⟩ := hrel
    go_upto_region 6 with fail
    go_loopg [6] 0 (fun gk x wr => x = .int .i64 (-1) ∧ w = wr)
    case atStart => exact ⟨rfl, rfl⟩
    case round =>
      obtain ⟨rfl, rfl⟩ := hrel
      go_wp2
      go_end0
      exact HE.out
/-- The row of a heap: none, or in a block. -/
theorem HQ.kind {w : World} {hb mb B : Nat} {rv : Value} {l : List Wq.Wr} {F : List (Wpl.Cl × Int)} (h : HQ w hb mb B rv l F) : (rv = .slice none 0 0 ∧ l = []) ∨ ∃ g cap, rv = .slice (some ⟨g, 0, none⟩) l.length cap := by
  rcases h.own.2 with ⟨e, h0⟩ | ⟨g, cap, cur, e, _⟩
  · exact Or.inl ⟨e, List.eq_nil_of_length_eq_zero h0⟩
  · exact Or.inr ⟨g, cap, e⟩
theorem turn_any (hb mb B : Nat) (rv : Value) (l : List Wq.Wr) (F : List (Wpl.Cl × Int)) (pb qb : Nat) (pw : Value) (A : List Wpl.Ar) (av : Option Addr) (m acap : Nat) (w : World) (h : HQ w hb mb B rv l F) (hf : WF l F) (hN : True → l.length ≤ 1000000000) (hp : AtL w pb [.pointer (some ⟨qb, 0, none⟩)]) (hq : AtL w qb [pw, .slice av m acap]) (hr : RdQ w av A) (hm : A.length = m) (hM : True → m ≤ 1000000000) (hpg : ∀ g, rv.ownBlock = some g → pb ≠ g ∧ qb ≠ g ∧ ∀ bb off, av = some ⟨bb, off, none⟩ → bb ≠ g) :
    Calls Try.prog 32 #[.pointer (some ⟨hb, 0, none⟩), .func (.func 33) #[] #[.pointer (some ⟨pb, 0, none⟩)]] w (TrnP w hb mb B rv l A) := by
  rcases h.kind with ⟨rfl, rfl⟩ | ⟨g, cap, rfl⟩
  · exact turn_none hb mb B F pb A w h hf
  · obtain ⟨h1, h2, h3⟩ := hpg g rfl
    exact turn_some hb mb B g l.length cap l F pb qb pw A av m acap w h hf rfl hN hp hq hr hm hM h1 h2 h3
/-- A row of areas, as memory has it. -/
def flatA : List Wpl.Ar → List Value
  | [] => []
  | x :: r => arQ x ++ flatA r
theorem flatA_len : ∀ A : List Wpl.Ar, (flatA A).length = A.length * 5
  | [] => rfl
  | x :: r => by simp [flatA, flatA_len r, arQ]; omega
theorem flatA_gt : ∀ (A : List Wpl.Ar) (i : Nat) (h : i < A.length) (c : Nat), c < 5 → (flatA A)[i * 5 + c]? = (arQ (A[i]))[c]?
  | [], i, h, c, hc => absurd h (Nat.not_lt_zero _)
  | x :: r, 0, h, c, hc => by
    show (arQ x ++ flatA r)[0 * 5 + c]? = _
    rw [Nat.zero_mul, Nat.zero_add, List.getElem?_append_left (by simpa [arQ] using hc)]
    rfl
  | x :: r, i + 1, h, c, hc => by
    show (arQ x ++ flatA r)[(i + 1) * 5 + c]? = _
    rw [List.getElem?_append_right (by simp [arQ]; omega), show (i + 1) * 5 + c - (arQ x).length = i * 5 + c from by simp [arQ]; omega, flatA_gt r i (by simpa using h) c hc]
    rfl
theorem oneA : ∀ (l : List Wpl.Ar), ∀ u ∈ flatA l, u.oneCell' = true
  | [], u, hu => by cases hu
  | y :: r, u, hu => by
    rcases List.mem_append.1 hu with q | q
    · simp [arQ] at q
      rcases q with h | h | h | h | h <;> (subst h; rfl)
    · exact oneA r u q
theorem RdQ.flat {w : World} {av : Option Addr} {A : List Wpl.Ar} (h : RdQ w av A) (h0 : 0 < A.length) : ∃ bb off, av = some ⟨bb, off, none⟩ ∧ ∀ j u, (flatA A)[j]? = some u → w.cell? ⟨bb, off + j, none⟩ = some u := by
  obtain ⟨bb, off, e, _⟩ := h 0 A[0] (List.getElem?_eq_getElem h0)
  refine ⟨bb, off, e, fun j u hu => ?_⟩
  have hj : j < A.length * 5 := by rw [← flatA_len]; exact (List.getElem?_eq_some_iff.1 hu).1
  have hi : j / 5 < A.length := by omega
  obtain ⟨bb', off', e', hr⟩ := h (j / 5) A[j / 5] (List.getElem?_eq_getElem hi)
  rw [e] at e'
  simp only [Option.some.injEq, Addr.mk.injEq, and_true] at e'
  rw [← e'.1, ← e'.2] at hr
  have q := flatA_gt A (j / 5) hi (j % 5) (by omega)
  rw [show j / 5 * 5 + j % 5 = j from by omega, hu] at q
  have := hr (j % 5) u q.symm
  rwa [show off + j / 5 * 5 + j % 5 = off + j from by omega] at this
theorem RdQ.of_own {w : World} {B g n cap : Nat} {A : List Wpl.Ar} (h : w.ownsRow B 39 5 (.slice (some ⟨g, 0, none⟩) n cap) n (flatA A)) : RdQ w (some ⟨g, 0, none⟩) A := fun i a ha => by
  obtain ⟨hlt, ea⟩ := List.getElem?_eq_some_iff.1 ha
  refine ⟨g, 0, rfl, fun c v hv => ?_⟩
  have hc5 : c < 5 := by
    have := (List.getElem?_eq_some_iff.1 hv).1
    simpa [arQ] using this
  have q := flatA_gt A i hlt c hc5
  rw [ea, hv] at q
  have hc := h.cells (g := g) rfl (i * 5 + c) v q
  rwa [show (⟨g, 0, none⟩ : Addr).add (i * 5 + c) = ⟨g, 0 + i * 5 + c, none⟩ from by simp [Addr.add]; intro h; omega] at hc
theorem arInfo : (Try.prog.info? 39).map (fun i => (i.zero, i.size, i.bytes)) = some (some (.agg #[.int .i64 0, .int .i64 0, .int .i64 0, .int .i64 0, .int .i64 0]), 5, 40) := by kernel_rfl
theorem undArs : Try.prog.underlying 29 = some (.slice 39) := by kernel_rfl
/-- A row of areas is laid behind another one. -/
theorem wpList_apA {ops : Array Oper} {rest : List Oper} {o : Oper} {a : Act} {Q : Exit → Act → World → Prop} (hgd : o.guard = none) (sl x : Operand) (ho : o.op = .call { callee := .builtin .append, args := #[sl, x], argTypes := #[29, 29] })
    (w : World) (B : Nat) (hB : B ≤ w.heap.size) (v : Value) (n : Nat) (xs : List Value) (hs : a.eval sl = v) (hown : w.ownsRow B 39 5 v n xs) (k off m c : Nat) (l : List Wpl.Ar) (hm : l.length = m) (hx : a.eval x = .slice (some ⟨k, off, none⟩) m c) (hat : ∀ j u, (flatA l)[j]? = some u → w.cell? ⟨k, off + j, none⟩ = some u) (hn : n + m ≤ 2000000000)
    (h : ∀ v' w', w'.ownsRow B 39 5 v' (n + m) (xs ++ flatA l) → w.grownBy w' v.ownBlock → wpList Try.prog ops Q rest (a.put o.dst v') w') : wpList Try.prog ops Q (o :: rest) a w := by
  refine wpList_plain hgd fun K hK => ?_
  obtain ⟨i0, hi0, hz0, hz1, hz2⟩ := info_partsQ arInfo
  obtain ⟨v', w', hr, h2, h3, _, h5⟩ := run_append_own_at (P := Try.prog) w B 29 o.type 39 i0 _ 5 40 undArs hi0 hz0 hz1 hz2 rfl (by decide) v n xs hown ⟨k, off, none⟩ m c (flatA l) (by rw [flatA_len, hm]) (fun j z hj => by
      have := hat j z hj
      rw [show (⟨k, off, none⟩ : Addr).add j = ⟨k, off + j, none⟩ from by
        simp [Addr.add]
        try (intro h0; omega)]
      exact this) (oneA l) (by unfold maxLen; omega) (by omega) hB
  unfold Oper.wp execOp
  simp only [ho, resolve, invoke, builtin, Sem.run_bind, Sem.run_pure, Result.andThen_ok, List.map_toArray, List.map_cons, List.map_nil, hs, hx, hr]
  exact hK _ _ (h v' w' h2 h3)
theorem eqNilA1 (p : Addr) (n c : Nat) (w : World) : (binOp .eql 29 (.slice (some p) n c) (.slice none 0 0)).run Try.prog w = .ok (.bool false) w := by kernel_rfl
theorem eqNilA0 (n c : Nat) (w : World) : (binOp .eql 29 (.slice none n c) (.slice none 0 0)).run Try.prog w = .ok (.bool true) w := by kernel_rfl
/-- What Clone answers of areas: read in new memory. -/
def CloA (A : List Wpl.Ar) (n : Nat) (w : World) (en : Ending) (w' : World) : Prop := (∃ av cap, en = .returned (.slice av n cap) ∧ RdQ w' av A ∧ ∀ bb off, av = some ⟨bb, off, none⟩ → w.heap.size ≤ bb ∧ bb < w'.heap.size) ∧ Below w.heap.size w w'
set_option maxRecDepth 100000 in
set_option maxHeartbeats 4000000 in
theorem cloneA_any (av : Option Addr) (n cap : Nat) (A : List Wpl.Ar) (w : World) (h : RdQ w av A) (hn : A.length = n) (hz : av = none → n = 0) (hsp : ∀ p, av = some p → p.spot = none) (hN : True → n ≤ 1000000000) :
    Calls Try.prog 31 #[.slice av n cap] w (CloA A n w) := by
  cases av with
  | none =>
    have h0 := hz rfl
    subst h0
    have hl : A = [] := List.eq_nil_of_length_eq_zero hn
    subst hl
    have en := fun w => eqNilA0 0 cap w
    have HE : Hid (CloA [] 0 w (.returned (.slice none 0 0)) w) := ⟨⟨none, 0, rfl, fun i a ha => by simp at ha, fun bb off e => by cases e⟩, Below.refl _ _⟩
    clear h hz hN hn hsp
    go_enter Try.func31, Try.ntmps31
    go_wp2
    go_ret
    exact HE.out
  | some p =>
    have HH : Hid (RdQ w (some p) A ∧ A.length = n) := ⟨h, hn⟩
    have ba := ball (Below.refl _ w) (.cells #[] 39)
    have oE : (w.alloc (.cells #[] 39)).ownsRow w.heap.size 39 5 (.slice (some ⟨w.heap.size, 0, none⟩) 0 0) 0 [] := ⟨rfl, Or.inr ⟨w.heap.size, 0, #[], rfl, Nat.le_refl _, (Go.MapKept.heap_alloc w _).1, Nat.le_refl _, by unfold maxLen; omega, rfl, rfl⟩⟩
    have HB0 : Hid (Below w.heap.size w (w.alloc (.cells #[] 39))) := ba
    have hs0 : w.heap.size ≤ (w.alloc (.cells #[] 39)).heap.size := ba.size
    have HP : Hid (∃ bb off, p = ⟨bb, off, none⟩ ∧ ∀ j u, (flatA A)[j]? = some u → w.cell? ⟨bb, off + j, none⟩ = some u) := by
      by_cases h0 : 0 < A.length
      · obtain ⟨bb, off, e, hc⟩ := h.flat h0
        exact ⟨bb, off, by simpa using e, hc⟩
      · have hl : A = [] := List.eq_nil_of_length_eq_zero (by omega)
        obtain ⟨bb, off, sp⟩ := p
        have := hsp _ rfl
        simp only at this
        subst this
        exact ⟨bb, off, rfl, fun j u hu => by rw [hl] at hu; simp [flatA] at hu⟩
    have HNN : Hid (True → n ≤ 1000000000) := hN
    clear h hn hz hN ba hsp
    obtain ⟨bb, off, rfl, hc⟩ := HP.out
    have HC : Hid (∀ j u, (flatA A)[j]? = some u → w.cell? ⟨bb, off + j, none⟩ = some u) := hc
    clear hc HP
    have en := fun w => eqNilA1 ⟨bb, off, none⟩ n cap w
    go_enter Try.func31, Try.ntmps31
    go_wp2_with (at_builtin; refine wpList_apA rfl (.tmp 5) (.tmp 6) rfl (w.alloc (.cells #[] 39)) w.heap.size hs0 (.slice (some ⟨w.heap.size, 0, none⟩) 0 0) 0 [] rfl oE bb off n cap A HH.out.2 rfl (fun j u hu => cell_below HB0.out (HC.out j u hu)) (by have := HNN.out trivial; omega) ?_; intro v2 w2 o2 hg2)
    have HE : Hid (CloA A n w (.returned v2) w2) := by
      have o3 : w2.ownsRow w.heap.size 39 5 v2 n (flatA A) := by simpa using o2
      have hb2 : Below w.heap.size w w2 := HB0.out.grown hg2 HB0.out.size (fun k e => by
        have : some w.heap.size = some k := e
        simp at this
        omega)
      obtain ⟨ra, rc, e, _, hr⟩ := own_open o3
      subst e
      refine ⟨⟨ra, rc, rfl, ?_, ?_⟩, hb2⟩
      · rcases o3.2 with ⟨e, h0⟩ | ⟨g, cap', cur, e, hbg, _⟩
        · intro i a ha
          have := (List.getElem?_eq_some_iff.1 ha).1
          have := HH.out.2
          omega
        · simp only [Value.slice.injEq] at e
          obtain ⟨rfl, _, rfl⟩ := e
          exact RdQ.of_own o3
      · intro b2 off2 e
        subst e
        rcases o3.2 with ⟨e, h0⟩ | ⟨g, cap', cur, e, hbg, _⟩
        · cases e
        · simp only [Value.slice.injEq, Option.some.injEq, Addr.mk.injEq] at e
          obtain ⟨⟨rfl, rfl, _⟩, _, rfl⟩ := e
          exact own_blk o3 rfl
    clear o2 hg2
    go_wp2_with fail
    go_ret
    exact HE.out
end Go.Proofs.Ytpbjmhcpaeillaa
