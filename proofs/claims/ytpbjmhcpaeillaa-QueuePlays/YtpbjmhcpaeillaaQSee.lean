/- Queues: See. -/
import Derived.Test.YtpbjmhcpaeillaaQTurn
namespace Go.Proofs.Ytpbjmhcpaeillaa
open Go.RowKit
set_option linter.unusedVariables false

set_option maxRecDepth 100000 in
theorem turn_none (hb mb B : Nat) (F : List (Wpl.Cl × Int)) (pb : Nat) (A : List Wpl.Ar) (w : World) (h : HQ w hb mb B (.slice none 0 0) [] F) (hf : WF [] F) :
    Calls Try.prog 32 #[.pointer (some ⟨hb, 0, none⟩), .func (.func 33) #[] #[.pointer (some ⟨pb, 0, none⟩)]] w (TrnP w hb mb B (.slice none 0 0) [] A) := by
  obtain ⟨c0, _, _, _⟩ := h.hd.two
  have HE : Hid (TrnP w hb mb B (.slice none 0 0) [] A (.returned (.tuple #[])) w) := ⟨[], F, rfl, ⟨h, hf, fun j h0 hj _ => absurd hj (Nat.not_lt_zero _)⟩, List.Perm.refl _, Fr.refl _ _⟩
  clear h hf
  go_enter Try.func32, Try.ntmps32
  go_upto_region 1 with fail
  go_loopg [12] 0 (fun gk x wr => x = .int .i64 0 ∧ w = wr)
  case atStart => exact ⟨rfl, rfl⟩
  case round =>
    obtain ⟨rfl, rfl⟩ := hrel
    go_upto_region 6 with fail
    go_loopg [6] 0 (fun gk x wr => x = .int .i64 (-1) ∧ w = wr)
    case atStart => exact ⟨rfl, rfl⟩
    case round =>
      obtain ⟨rfl, rfl⟩ := hrel
      go_wp2
      go_end0
      exact HE.out
/-- The row of a heap: none, or in a block. -/
theorem HQ.kind {w : World} {hb mb B : Nat} {rv : Value} {l : List Wq.Wr} {F : List (Wpl.Cl × Int)} (h : HQ w hb mb B rv l F) : (rv = .slice none 0 0 ∧ l = []) ∨ ∃ g cap, rv = .slice (some ⟨g, 0, none⟩) l.length cap := by
  rcases h.own.2 with ⟨e, h0⟩ | ⟨g, cap, cur, e, _⟩
  · exact Or.inl ⟨e, List.eq_nil_of_length_eq_zero h0⟩
  · exact Or.inr ⟨g, cap, e⟩
theorem turn_any (hb mb B : Nat) (rv : Value) (l : List Wq.Wr) (F : List (Wpl.Cl × Int)) (pb qb : Nat) (pw : Value) (A : List Wpl.Ar) (av : Option Addr) (m acap : Nat) (w : World) (h : HQ w hb mb B rv l F) (hf : WF l F) (hN : True → l.length ≤ 1000000000) (hp : AtL w pb [.pointer (some ⟨qb, 0, none⟩)]) (hq : AtL w qb [pw, .slice av m acap]) (hr : RdQ w av A) (hm : A.length = m) (hM : True → m ≤ 1000000000) (hpg : ∀ g, rv.ownBlock = some g → pb ≠ g ∧ qb ≠ g ∧ ∀ bb off, av = some ⟨bb, off, none⟩ → bb ≠ g) :
    Calls Try.prog 32 #[.pointer (some ⟨hb, 0, none⟩), .func (.func 33) #[] #[.pointer (some ⟨pb, 0, none⟩)]] w (TrnP w hb mb B rv l A) := by
  rcases h.kind with ⟨rfl, rfl⟩ | ⟨g, cap, rfl⟩
  · exact turn_none hb mb B F pb A w h hf
  · obtain ⟨h1, h2, h3⟩ := hpg g rfl
    exact turn_some hb mb B g l.length cap l F pb qb pw A av m acap w h hf rfl hN hp hq hr hm hM h1 h2 h3
/-- A row of areas, as memory has it. -/
def flatA : List Wpl.Ar → List Value
  | [] => []
  | x :: r => arQ x ++ flatA r
theorem flatA_len : ∀ A : List Wpl.Ar, (flatA A).length = A.length * 5
  | [] => rfl
  | x :: r => by simp [flatA, flatA_len r, arQ]; omega
theorem flatA_gt : ∀ (A : List Wpl.Ar) (i : Nat) (h : i < A.length) (c : Nat), c < 5 → (flatA A)[i * 5 + c]? = (arQ (A[i]))[c]?
  | [], i, h, c, hc => absurd h (Nat.not_lt_zero _)
  | x :: r, 0, h, c, hc => by
    show (arQ x ++ flatA r)[0 * 5 + c]? = _
    rw [Nat.zero_mul, Nat.zero_add, List.getElem?_append_left (by simpa [arQ] using hc)]
    rfl
  | x :: r, i + 1, h, c, hc => by
    show (arQ x ++ flatA r)[(i + 1) * 5 + c]? = _
    rw [List.getElem?_append_right (by simp [arQ]; omega), show (i + 1) * 5 + c - (arQ x).length = i * 5 + c from by simp [arQ]; omega, flatA_gt r i (by simpa using h) c hc]
    rfl
theorem oneA : ∀ (l : List Wpl.Ar), ∀ u ∈ flatA l, u.oneCell' = true
  | [], u, hu => by cases hu
  | y :: r, u, hu => by
    rcases List.mem_append.1 hu with q | q
    · simp [arQ] at q
      rcases q with h | h | h | h | h <;> (subst h; rfl)
    · exact oneA r u q
theorem RdQ.flat {w : World} {av : Option Addr} {A : List Wpl.Ar} (h : RdQ w av A) (h0 : 0 < A.length) : ∃ bb off, av = some ⟨bb, off, none⟩ ∧ ∀ j u, (flatA A)[j]? = some u → w.cell? ⟨bb, off + j, none⟩ = some u := by
  obtain ⟨bb, off, e, _⟩ := h 0 A[0] (List.getElem?_eq_getElem h0)
  refine ⟨bb, off, e, fun j u hu => ?_⟩
  have hj : j < A.length * 5 := by rw [← flatA_len]; exact (List.getElem?_eq_some_iff.1 hu).1
  have hi : j / 5 < A.length := by omega
  obtain ⟨bb', off', e', hr⟩ := h (j / 5) A[j / 5] (List.getElem?_eq_getElem hi)
  rw [e] at e'
  simp only [Option.some.injEq, Addr.mk.injEq, and_true] at e'
  rw [← e'.1, ← e'.2] at hr
  have q := flatA_gt A (j / 5) hi (j % 5) (by omega)
  rw [show j / 5 * 5 + j % 5 = j from by omega, hu] at q
  have := hr (j % 5) u q.symm
  rwa [show off + j / 5 * 5 + j % 5 = off + j from by omega] at this
theorem RdQ.of_own {w : World} {B g n cap : Nat} {A : List Wpl.Ar} (h : w.ownsRow B 39 5 (.slice (some ⟨g, 0, none⟩) n cap) n (flatA A)) : RdQ w (some ⟨g, 0, none⟩) A := fun i a ha => by
  obtain ⟨hlt, ea⟩ := List.getElem?_eq_some_iff.1 ha
  refine ⟨g, 0, rfl, fun c v hv => ?_⟩
  have hc5 : c < 5 := by
    have := (List.getElem?_eq_some_iff.1 hv).1
    simpa [arQ] using this
  have q := flatA_gt A i hlt c hc5
  rw [ea, hv] at q
  have hc := h.cells (g := g) rfl (i * 5 + c) v q
  rwa [show (⟨g, 0, none⟩ : Addr).add (i * 5 + c) = ⟨g, 0 + i * 5 + c, none⟩ from by simp [Addr.add]; intro h; omega] at hc
theorem arInfo : (Try.prog.info? 39).map (fun i => (i.zero, i.size, i.bytes)) = some (some (.agg #[.int .i64 0, .int .i64 0, .int .i64 0, .int .i64 0, .int .i64 0]), 5, 40) := by kernel_rfl
theorem undArs : Try.prog.underlying 29 = some (.slice 39) := by kernel_rfl
/-- A row of areas is laid behind another one. -/
theorem wpList_apA {ops : Array Oper} {rest : List Oper} {o : Oper} {a : Act} {Q : Exit → Act → World → Prop} (hgd : o.guard = none) (sl x : Operand) (ho : o.op = .call { callee := .builtin .append, args := #[sl, x], argTypes := #[29, 29] })
    (w : World) (B : Nat) (hB : B ≤ w.heap.size) (v : Value) (n : Nat) (xs : List Value) (hs : a.eval sl = v) (hown : w.ownsRow B 39 5 v n xs) (k off m c : Nat) (l : List Wpl.Ar) (hm : l.length = m) (hx : a.eval x = .slice (some ⟨k, off, none⟩) m c) (hat : ∀ j u, (flatA l)[j]? = some u → w.cell? ⟨k, off + j, none⟩ = some u) (hn : n + m ≤ 2000000000)
    (h : ∀ v' w', w'.ownsRow B 39 5 v' (n + m) (xs ++ flatA l) → w.grownBy w' v.ownBlock → wpList Try.prog ops Q rest (a.put o.dst v') w') : wpList Try.prog ops Q (o :: rest) a w := by
  refine wpList_plain hgd fun K hK => ?_
  obtain ⟨i0, hi0, hz0, hz1, hz2⟩ := info_partsQ arInfo
  obtain ⟨v', w', hr, h2, h3, _, h5⟩ := run_append_own_at (P := Try.prog) w B 29 o.type 39 i0 _ 5 40 undArs hi0 hz0 hz1 hz2 rfl (by decide) v n xs hown ⟨k, off, none⟩ m c (flatA l) (by rw [flatA_len, hm]) (fun j z hj => by
      have := hat j z hj
      rw [show (⟨k, off, none⟩ : Addr).add j = ⟨k, off + j, none⟩ from by
        simp [Addr.add]
        try (intro h0; omega)]
      exact this) (oneA l) (by unfold maxLen; omega) (by omega) hB
  unfold Oper.wp execOp
  simp only [ho, resolve, invoke, builtin, Sem.run_bind, Sem.run_pure, Result.andThen_ok, List.map_toArray, List.map_cons, List.map_nil, hs, hx, hr]
  exact hK _ _ (h v' w' h2 h3)
theorem eqNilA1 (p : Addr) (n c : Nat) (w : World) : (binOp .eql 29 (.slice (some p) n c) (.slice none 0 0)).run Try.prog w = .ok (.bool false) w := by kernel_rfl
theorem eqNilA0 (n c : Nat) (w : World) : (binOp .eql 29 (.slice none n c) (.slice none 0 0)).run Try.prog w = .ok (.bool true) w := by kernel_rfl
/-- What Clone answers of areas: read in new memory. -/
def CloA (A : List Wpl.Ar) (n : Nat) (w : World) (en : Ending) (w' : World) : Prop := (∃ av cap, en = .returned (.slice av n cap) ∧ RdQ w' av A ∧ ∀ bb off, av = some ⟨bb, off, none⟩ → w.heap.size ≤ bb ∧ bb < w'.heap.size) ∧ Below w.heap.size w w'
set_option maxRecDepth 100000 in
set_option maxHeartbeats 4000000 in
theorem cloneA_any (av : Option Addr) (n cap : Nat) (A : List Wpl.Ar) (w : World) (h : RdQ w av A) (hn : A.length = n) (hz : av = none → n = 0) (hsp : ∀ p, av = some p → p.spot = none) (hN : True → n ≤ 1000000000) :
    Calls Try.prog 31 #[.slice av n cap] w (CloA A n w) := by
  cases av with
  | none =>
    have h0 := hz rfl
    subst h0
    have hl : A = [] := List.eq_nil_of_length_eq_zero hn
    subst hl
    have en := fun w => eqNilA0 0 cap w
    have HE : Hid (CloA [] 0 w (.returned (.slice none 0 0)) w) := ⟨⟨none, 0, rfl, fun i a ha => by simp at ha, fun bb off e => by cases e⟩, Below.refl _ _⟩
    clear h hz hN hn hsp
    go_enter Try.func31, Try.ntmps31
    go_wp2
    go_ret
    exact HE.out
  | some p =>
    have HH : Hid (RdQ w (some p) A ∧ A.length = n) := ⟨h, hn⟩
    have ba := ball (Below.refl _ w) (.cells #[] 39)
    have oE : (w.alloc (.cells #[] 39)).ownsRow w.heap.size 39 5 (.slice (some ⟨w.heap.size, 0, none⟩) 0 0) 0 [] := ⟨rfl, Or.inr ⟨w.heap.size, 0, #[], rfl, Nat.le_refl _, (Go.MapKept.heap_alloc w _).1, Nat.le_refl _, by unfold maxLen; omega, rfl, rfl⟩⟩
    have HB0 : Hid (Below w.heap.size w (w.alloc (.cells #[] 39))) := ba
    have hs0 : w.heap.size ≤ (w.alloc (.cells #[] 39)).heap.size := ba.size
    have HP : Hid (∃ bb off, p = ⟨bb, off, none⟩ ∧ ∀ j u, (flatA A)[j]? = some u → w.cell? ⟨bb, off + j, none⟩ = some u) := by
      by_cases h0 : 0 < A.length
      · obtain ⟨bb, off, e, hc⟩ := h.flat h0
        exact ⟨bb, off, by simpa using e, hc⟩
      · have hl : A = [] := List.eq_nil_of_length_eq_zero (by omega)
        obtain ⟨bb, off, sp⟩ := p
        have := hsp _ rfl
        simp only at this
        subst this
        exact ⟨bb, off, rfl, fun j u hu => by rw [hl] at hu; simp [flatA] at hu⟩
    have HNN : Hid (True → n ≤ 1000000000) := hN
    clear h hn hz hN ba hsp
    obtain ⟨bb, off, rfl, hc⟩ := HP.out
    have HC : Hid (∀ j u, (flatA A)[j]? = some u → w.cell? ⟨bb, off + j, none⟩ = some u) := hc
    clear hc HP
    have en := fun w => eqNilA1 ⟨bb, off, none⟩ n cap w
    go_enter Try.func31, Try.ntmps31
    go_wp2_with (at_builtin; refine wpList_apA rfl (.tmp 5) (.tmp 6) rfl (w.alloc (.cells #[] 39)) w.heap.size hs0 (.slice (some ⟨w.heap.size, 0, none⟩) 0 0) 0 [] rfl oE bb off n cap A HH.out.2 rfl (fun j u hu => cell_below HB0.out (HC.out j u hu)) (by have := HNN.out trivial; omega) ?_; intro v2 w2 o2 hg2)
    have HE : Hid (CloA A n w (.returned v2) w2) := by
      have o3 : w2.ownsRow w.heap.size 39 5 v2 n (flatA A) := by simpa using o2
      have hb2 : Below w.heap.size w w2 := HB0.out.grown hg2 HB0.out.size (fun k e => by
        have : some w.heap.size = some k := e
        simp at this
        omega)
      obtain ⟨ra, rc, e, _, hr⟩ := own_open o3
      subst e
      refine ⟨⟨ra, rc, rfl, ?_, ?_⟩, hb2⟩
      · rcases o3.2 with ⟨e, h0⟩ | ⟨g, cap', cur, e, hbg, _⟩
        · intro i a ha
          have := (List.getElem?_eq_some_iff.1 ha).1
          have := HH.out.2
          omega
        · simp only [Value.slice.injEq] at e
          obtain ⟨rfl, _, rfl⟩ := e
          exact RdQ.of_own o3
      · intro b2 off2 e
        subst e
        rcases o3.2 with ⟨e, h0⟩ | ⟨g, cap', cur, e, hbg, _⟩
        · cases e
        · simp only [Value.slice.injEq, Option.some.injEq, Addr.mk.injEq] at e
          obtain ⟨⟨rfl, rfl, _⟩, _, rfl⟩ := e
          exact own_blk o3 rfl
    clear o2 hg2
    go_wp2_with fail
    go_ret
    exact HE.out
end Go.Proofs.Ytpbjmhcpaeillaa
namespace Go.Proofs.Ytpbjmhcpaeillaa
open Go.RowKit
set_option linter.unusedVariables false

/-- What See answers. -/
def QSeeP (w : World) (qb hb mb B : Nat) (rv : Value) (l : List Wq.Wr) (n : Nat) (A : List Wpl.Ar) (en : Ending) (w' : World) : Prop := ∃ (l' : List Wq.Wr) (F' : List (Wpl.Cl × Int)) (av : Option Addr) (cap : Nat), en = .returned (.tuple #[]) ∧ QQ w' qb hb mb B rv l' F' av n cap A ∧ l'.Perm (l.map (reW A)) ∧ Fr (qb :: hb :: mb :: rv.ownBlock.toList) w w' ∧ ∀ bb off, av = some ⟨bb, off, none⟩ → w.heap.size ≤ bb
theorem QQ.seen {w w1 w4 : World} {qb hb mb B : Nat} {rv : Value} {l : List Wq.Wr} {F : List (Wpl.Cl × Int)} {av av4 : Option Addr} {n cap bn cap4 S1 : Nat} {A C : List Wpl.Ar} (h : QQ w4 qb hb mb B rv l F av n cap A) (hl : hb < S1 ∧ mb < S1 ∧ qb < S1 ∧ ∀ g, rv.ownBlock = some g → g < S1) (hr : RdQ w4 av4 C) (hc : C.length = bn) (hv : ∀ bb off, av4 = some ⟨bb, off, none⟩ → S1 ≤ bb ∧ bb < w4.heap.size) : QQ (w4.setCell ⟨qb, 1, none⟩ (.slice av4 bn cap4)) qb hb mb B rv l F av4 bn cap4 C := by
  have fr : Fr [qb] w4 (w4.setCell ⟨qb, 1, none⟩ (.slice av4 bn cap4)) := setCells_fr w4 qb [.slice av4 bn cap4] 1
  refine ⟨h.hd.set 1 _, ⟨h.h.q.fr fr (by simp; exact fun e => h.nq.1 e.symm) (by simp; exact fun e => h.nq.2.1 e.symm) (fun g e => by simp; exact fun e2 => h.nq.2.2 g e e2.symm), h.h.f, h.h.o⟩, hr.fr fr (fun bb off e => by simp; have := hv bb off e; omega), hc, fun bb off e => Nat.lt_of_lt_of_le (hv bb off e).2 fr.size, fun bb off e => ?_, h.nq⟩
  have h1 := hv bb off e
  exact ⟨by omega, by omega, by omega, fun g eg => by have := hl.2.2.2 g eg; omega⟩
set_option maxRecDepth 100000 in
set_option maxHeartbeats 8000000 in
theorem qsee_any (qb hb mb B : Nat) (rv : Value) (l : List Wq.Wr) (F : List (Wpl.Cl × Int)) (av : Option Addr) (n cap : Nat) (A : List Wpl.Ar) (bv : Option Addr) (bn bc : Nat) (C : List Wpl.Ar) (w : World) (h : QQ w qb hb mb B rv l F av n cap A) (hN : True → l.length ≤ 1000000000) (hr : RdQ w bv C) (hc : C.length = bn) (hz : bv = none → bn = 0) (hsp : ∀ p, bv = some p → p.spot = none) (hM : True → bn ≤ 1000000000) :
    Calls Try.prog 15 #[.pointer (some ⟨qb, 0, none⟩), .slice bv bn bc] w (QSeeP w qb hb mb B rv l bn C) := by
  have hb0 := ball (Below.refl _ w) (.cells #[.pointer (some ⟨qb, 0, none⟩)] 25)
  have HQ0 : Hid (QQ (w.alloc (.cells #[.pointer (some ⟨qb, 0, none⟩)] 25)) qb hb mb B rv l F av n cap A) := h.below hb0
  have HP : Hid (AtL (w.alloc (.cells #[.pointer (some ⟨qb, 0, none⟩)] 25)) w.heap.size [.pointer (some ⟨qb, 0, none⟩)]) := AtL.new0 w 25 [.pointer (some ⟨qb, 0, none⟩)]
  have HB0 : Hid (Below w.heap.size w (w.alloc (.cells #[.pointer (some ⟨qb, 0, none⟩)] 25))) := hb0
  have HR : Hid (RdQ w bv C ∧ C.length = bn ∧ (bv = none → bn = 0) ∧ ∀ p, bv = some p → p.spot = none) := ⟨hr, hc, hz, hsp⟩
  have HL : Hid (hb < w.heap.size ∧ mb < w.heap.size ∧ qb < w.heap.size ∧ ∀ g, rv.ownBlock = some g → g < w.heap.size) := ⟨h.h.q.hd.1, h.h.q.mp.lt, h.hd.1, fun g e => (own_blk h.h.q.own e).2⟩
  have HNE : Hid (qb ≠ w.heap.size) := by have := h.hd.1; show _ ≠ _; omega
  have HNN : Hid (True → l.length ≤ 1000000000) := hN
  have c0 : (w.alloc (.cells #[.pointer (some ⟨qb, 0, none⟩)] 25)).cell? ⟨w.heap.size, 0, none⟩ = some (.pointer (some ⟨qb, 0, none⟩)) := HP.out.2.1 0 _ rfl
  have d0 := HQ0.out.hd
  clear h hr hc hz hsp hb0 hN
  go_enter Try.func15, Try.ntmps15
  go_upto_region 1 with fail
  have HSZ : Hid (∃ eb, w.heap.size = eb) := ⟨_, rfl⟩
  generalize w.alloc (.cells #[.pointer (some ⟨qb, 0, none⟩)] 25) = W0 at *
  obtain ⟨eb, heb⟩ := HSZ.out
  have HEB : Hid (eb = w.heap.size) := heb.symm
  rw [heb] at c0
  have HP : Hid (AtL W0 eb [.pointer (some ⟨qb, 0, none⟩)]) := by rw [HEB.out]; exact HP.out
  have HNE : Hid (qb ≠ eb) := by rw [HEB.out]; exact HNE.out
  rw [heb]
  clear heb HSZ
  have hb1 := (Below.refl W0.heap.size W0).drew
  refine wp_region_held_drew (S := fun W => W.cell? ⟨eb, 0, none⟩ = some (.pointer (some ⟨qb, 0, none⟩))) (by kernel_rfl) (cell_below hb1 c0) (fun hHeld => ?_)
  replace c0 := cell_below hb1 c0
  replace d0 := AtL.below hb1 d0
  have HQ1 : Hid (QQ W0.drew qb hb mb B rv l F av n cap A) := HQ0.out.below hb1
  have HP1 : Hid (AtL W0.drew eb [.pointer (some ⟨qb, 0, none⟩)]) := AtL.below hb1 HP.out
  have HB1 : Hid (Below w.heap.size w W0.drew) := below_end HB0.out hb1
  have CL := cloneA_any bv bn bc C W0.drew (HR.out.1.below (below_end HB0.out hb1)) HR.out.2.1 HR.out.2.2.1 HR.out.2.2.2 hM
  clear hb1 HQ0 HP HB0
  generalize W0.drew = W1 at *
  refine wpAnyH_take (i := 0) (oi := { dst := Option.some 4, op := Op.load 25 (Operand.tmp 2), type := 25, pos := "queue.go:30", after := #[], guard := Option.none }) (v := ?_) rfl (by kernel_rfl) (by kernel_rfl) (by kernel_rfl) (fun _ _ _ h => h) (Or.inl ⟨by rfl, ?_⟩) (by assumption) ?_
  rotate_left
  · intro w hSw
    (try dsimp only at hSw)
    go_simp
    try with_reducible rfl
  try simp only [Act.put, List.setIfInBounds_toArray, List.set_cons_zero, List.set_cons_succ]
  refine wpAnyH_take (i := 1) (oi := { dst := Option.some 5, op := Op.move (Operand.tmp 1), type := 29, pos := "queue.go:30", after := #[], guard := Option.none }) (v := ?_) rfl (by kernel_rfl) (by kernel_rfl) (by kernel_rfl) (fun _ _ _ h => h) (Or.inl ⟨by rfl, ?_⟩) (by assumption) ?_
  rotate_left
  · intro w hSw
    (try dsimp only at hSw)
    go_simp
    try with_reducible rfl
  try simp only [Act.put, List.setIfInBounds_toArray, List.set_cons_zero, List.set_cons_succ]
  refine wpAnyH_ready (rs := [2]) (by kernel_rfl) (by simp) ?_
  refine AllReadyH.cons (o := { dst := Option.some 6, op := Op.call { callee := Callee.value (Operand.func 31), args := #[Operand.tmp 5], argTypes := #[29] }, type := 29, pos := "queue.go:30", after := #[{ on := 1, ground := Ground.data }], guard := Option.none }) rfl (fun K hK => ?_) AllReadyH.nil
  go_simp
  refine CL.mono ?_
  rintro en w4 ⟨⟨av4, cap4, rfl, hr4, hn4⟩, hb4⟩
  have HQ4 : Hid (QQ w4 qb hb mb B rv l F av n cap A) := HQ1.out.below hb4
  have HP4 : Hid (AtL w4 eb [.pointer (some ⟨qb, 0, none⟩)]) := AtL.below hb4 HP1.out
  have HB4 : Hid (Below w.heap.size w w4) := below_end HB1.out hb4
  have HS1 : Hid (w.heap.size ≤ W1.heap.size) := HB1.out.size
  have HV : Hid (RdQ w4 av4 C ∧ ∀ bb off, av4 = some ⟨bb, off, none⟩ → W1.heap.size ≤ bb ∧ bb < w4.heap.size) := ⟨hr4, hn4⟩
  replace c0 := cell_below hb4 c0
  replace d0 := AtL.below hb4 d0
  clear CL hr4 hn4 hb4 HQ1 HP1 HB1
  go_wp2_with fail
  refine hK.out _ _ c0 (fun hHeld => ?_)
  clear hK K
  try simp only [Act.put, List.setIfInBounds_toArray, List.set_cons_zero, List.set_cons_succ]
  refine wpAnyH_take (i := 3) (oi := { dst := Option.some 7, op := Op.nilCheck (Operand.tmp 4), type := 0, pos := "queue.go:30", after := #[{ on := 0, ground := Ground.data }, { on := 0, ground := Ground.phase }, { on := 1, ground := Ground.phase }, { on := 2, ground := Ground.phase }], guard := Option.none }) (v := ?_) rfl (by kernel_rfl) (by kernel_rfl) (by kernel_rfl) (fun _ _ _ h => h) (Or.inl ⟨by rfl, ?_⟩) (by assumption) ?_
  rotate_left
  · intro w hSw
    (try dsimp only at hSw)
    go_simp
    try with_reducible rfl
  try simp only [Act.put, List.setIfInBounds_toArray, List.set_cons_zero, List.set_cons_succ]
  refine wpAnyH_take (i := 4) (oi := { dst := Option.some 8, op := Op.fieldAddr 60 (Operand.tmp 7) 1, type := 0, pos := "queue.go:30", after := #[{ on := 3, ground := Ground.data }, { on := 0, ground := Ground.phase }, { on := 1, ground := Ground.phase }, { on := 2, ground := Ground.phase }], guard := Option.none }) (v := ?_) rfl (by kernel_rfl) (by kernel_rfl) (by kernel_rfl) (fun _ _ _ h => h) (Or.inl ⟨by rfl, ?_⟩) (by assumption) ?_
  rotate_left
  · intro w hSw
    (try dsimp only at hSw)
    go_simp
    try with_reducible rfl
  try simp only [Act.put, List.setIfInBounds_toArray, List.set_cons_zero, List.set_cons_succ]
  refine wpAnyH_ready (rs := [5]) (by kernel_rfl) (by simp) ?_
  refine AllReadyH.cons (o := { dst := Option.none, op := Op.store 29 (Operand.tmp 8) (Operand.tmp 6), type := 0, pos := "queue.go:30", after := #[{ on := 4, ground := Ground.data }, { on := 2, ground := Ground.data }, { on := 2, ground := Ground.chain }, { on := 0, ground := Ground.phase }, { on := 1, ground := Ground.phase }, { on := 2, ground := Ground.phase }], guard := Option.none }) rfl (fun K hK => ?_) AllReadyH.nil
  obtain ⟨_, d1, _, dz⟩ := d0.two
  go_simp
  have q5 : AtL (w4.setCell ⟨qb, 1, none⟩ (.slice av4 bn cap4)) qb [.pointer (some ⟨hb, 0, none⟩), .slice av4 bn cap4] := d0.set 1 _
  have c5 : (w4.setCell ⟨qb, 1, none⟩ (.slice av4 bn cap4)).cell? ⟨eb, 0, none⟩ = some (.pointer (some ⟨qb, 0, none⟩)) := (HP4.out.far HNE.out 1 (.slice av4 bn cap4)).2.1 0 _ rfl
  have fr5 := setCells_fr w4 qb [.slice av4 bn cap4] 1
  refine hK.out _ _ c5 (fun hHeld => ?_)
  clear hK K c0 d0 d1 dz
  try simp only [Act.put, List.setIfInBounds_toArray, List.set_cons_zero, List.set_cons_succ]
  refine wpAnyH_done (by kernel_rfl) ?_ _

  have HQ5 : Hid (QQ (w4.setCell ⟨qb, 1, none⟩ (.slice av4 bn cap4)) qb hb mb B rv l F av4 bn cap4 C) := HQ4.out.seen (S1 := w.heap.size) (w := w) (w1 := w) HL.out HV.out.1 HR.out.2.1 (fun bb off e => ⟨Nat.le_trans HS1.out (HV.out.2 bb off e).1, (HV.out.2 bb off e).2⟩)
  have HP5 : Hid (AtL (w4.setCell ⟨qb, 1, none⟩ (.slice av4 bn cap4)) eb [.pointer (some ⟨qb, 0, none⟩)]) := HP4.out.far HNE.out 1 (.slice av4 bn cap4)
  have HF5 : Hid (Fr (qb :: hb :: mb :: rv.ownBlock.toList) w (w4.setCell ⟨qb, 1, none⟩ (.slice av4 bn cap4))) := Fr.trans (Fr.of_below _ HB4.out) (Fr.mono (S := [qb]) fr5 (by simp))
  obtain ⟨d5, _, _, _⟩ := q5.two
  clear HQ4 HP4 HB4 q5 fr5
  generalize w4.setCell ⟨qb, 1, none⟩ (.slice av4 bn cap4) = W5 at *
  have TN := turn_any hb mb B rv l F eb qb _ C av4 bn cap4 W5 HQ5.out.h.q HQ5.out.h.f HNN.out HP5.out HQ5.out.hd HQ5.out.rd HR.out.2.1 hM (fun g e => ⟨by have := HL.out.2.2.2 g e; have := HEB.out; omega, HQ5.out.nq.2.2 g e, fun bb off e2 => (HQ5.out.ab bb off e2).2.2.2 g e⟩)
  clear hHeld
  go_wp2_with fail
  refine TN.mono ?_
  rintro en w6 ⟨l6, F6, rfl, h6, p6, fr6⟩
  have HE : Hid (QSeeP w qb hb mb B rv l bn C (.returned (.tuple #[])) w6) := ⟨l6, F6, av4, cap4, rfl, HQ5.out.turn h6 fr6 (Or.inl rfl), p6, Fr.trans HF5.out (fr6.mono (fun k hk => List.mem_cons_of_mem _ hk)), fun bb off e => Nat.le_trans HS1.out (HV.out.2 bb off e).1⟩
  clear TN h6 p6 fr6 HQ5 HP5 HF5
  go_wp2
  go_end0
  exact HE.out
end Go.Proofs.Ytpbjmhcpaeillaa
