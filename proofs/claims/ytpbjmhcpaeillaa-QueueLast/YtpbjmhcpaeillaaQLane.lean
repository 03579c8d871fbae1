/- Queues: which lane a cell waits in. -/
import Derived.Test.YtpbjmhcpaeillaaQNew
namespace Go.Proofs.Ytpbjmhcpaeillaa
open Go.RowKit
set_option linter.unusedVariables false

/-- An area's cells. -/
def arQ (a : Wpl.Ar) : List Value := [.int .i64 a.s, .int .i64 a.t, .int .i64 a.l, .int .i64 a.b, .int .i64 a.r]
/-- A row of areas as it is read. -/
def RdQ (w : World) (av : Option Addr) (A : List Wpl.Ar) : Prop := ∀ (i : Nat) (a : Wpl.Ar), A[i]? = some a → ∃ bb off, av = some ⟨bb, off, none⟩ ∧ w.rangeAt bb (off + i * 5) (arQ a)
theorem RdQ.below {w w' : World} {av : Option Addr} {A : List Wpl.Ar} (h : RdQ w av A) (hb : Below w.heap.size w w') : RdQ w' av A := fun i a ha => by
  obtain ⟨bb, off, e, hr⟩ := h i a ha
  exact ⟨bb, off, e, fun j v hv => cell_below hb (hr j v hv)⟩
/-- Is a cell in one of the areas? -/
def seeQ (A : List Wpl.Ar) (x : Wpl.Cl) : Bool := A.any (fun a => Wpl.hasA a.s a.t a.l a.b a.r x.s x.r x.c)
def lnQ (A : List Wpl.Ar) (x : Wpl.Cl) : Int := bif seeQ A x then 0 else 1
theorem lane1_any (a : Wpl.Ar) (x : Wpl.Cl) (cb : Nat) (w : World) (h : AtL w cb [.int .i64 x.s, .int .i64 x.r, .int .i64 x.c]) :
    Calls Try.prog 54 #[.agg #[.int .i64 a.s, .int .i64 a.t, .int .i64 a.l, .int .i64 a.b, .int .i64 a.r], .pointer (some ⟨cb, 0, none⟩)] w fun en w' => en = .returned (.bool (Wpl.hasA a.s a.t a.l a.b a.r x.s x.r x.c)) ∧ Below w.heap.size w w' := by
  have hb0 := ball (Below.refl _ w) (.cells #[.int .i64 a.s, .int .i64 a.t, .int .i64 a.l, .int .i64 a.b, .int .i64 a.r] 39)
  have p := AtL.f5 (AtL.new0 w 39 [.int .i64 a.s, .int .i64 a.t, .int .i64 a.l, .int .i64 a.b, .int .i64 a.r])
  have t := AtL.f3 (AtL.below hb0 h)
  clear h
  obtain ⟨R, hR⟩ : ∃ R, Wpl.hasA a.s a.t a.l a.b a.r x.s x.r x.c = R := ⟨_, rfl⟩
  have HS := fun W => hasQ a.s a.t a.l a.b a.r x.s x.r x.c W
  rw [hR] at HS ⊢
  clear hR
  go_enter Try.func54, Try.ntmps54
  go_upto_region 1 with fail
  generalize w.alloc (.cells #[.int .i64 a.s, .int .i64 a.t, .int .i64 a.l, .int .i64 a.b, .int .i64 a.r] 39) = W0 at *
  obtain ⟨a0, a1, a2, a3, a4⟩ := p
  obtain ⟨x0, x1, x2⟩ := t
  go_wp2_with fail
  refine (HS _).mono ?_
  rintro en w1 ⟨rfl, hb1⟩
  go_wp2
  go_ret
  exact ⟨rfl, below_end hb0 hb1⟩
/-- The first of the areas that has the cell. -/
def IdxP (A : List Wpl.Ar) (x : Wpl.Cl) (w : World) (en : Ending) (w' : World) : Prop := (∃ k : Int, en = .returned (.int .i64 k) ∧ decide (k ≥ 0) = seeQ A x) ∧ Below w.heap.size w w'
set_option maxHeartbeats 4000000 in
theorem index_any (A : List Wpl.Ar) (x : Wpl.Cl) (cb : Nat) (av : Option Addr) (n cap : Nat) (w : World) (h : AtL w cb [.int .i64 x.s, .int .i64 x.r, .int .i64 x.c]) (hr : RdQ w av A) (hn : A.length = n) (hN : True → n ≤ 1000000000) :
    Calls Try.prog 64 #[.slice av n cap, .func (.func 54) #[] #[.pointer (some ⟨cb, 0, none⟩)]] w (IdxP A x w) := by
  have HH : Hid (AtL w cb [.int .i64 x.s, .int .i64 x.r, .int .i64 x.c] ∧ RdQ w av A ∧ A.length = n) := ⟨h, hr, hn⟩
  clear h hr hn
  go_enter Try.func64, Try.ntmps64
  go_upto_region 2 with fail
  go_loopg [8] n (fun gk u wr => ∃ i : Nat, u = .int .i64 (i : Int) ∧ gk = n - i ∧ i ≤ n ∧ Hid (Below w.heap.size w wr) ∧ Hid (seeQ (A.take i) x = false))
  case atStart => exact ⟨0, rfl, rfl, Nat.zero_le _, Below.refl _ _, rfl⟩
  case round =>
    obtain ⟨i, rfl, hg, hi, HB, HS⟩ := hrel
    generalize hw9 : wr = W1 at *
    clear hw9
    by_cases hlt : i < n
    · have hii : (i : Int) < (n : Int) := by omega
      have hiz : (0 : Int) ≤ (i : Int) := by omega
      have hwi : IntKind.i64.wrap ((i : Int) + 1) = (i : Int) + 1 := by have := hN trivial; rw [IntKind.wrap_i64]; omega
      obtain ⟨a, ha⟩ : ∃ a, A[i]? = some a := ⟨A[i]'(by rw [HH.out.2.2]; exact hlt), List.getElem?_eq_getElem _⟩
      obtain ⟨bb, off, e, hrow⟩ := HH.out.2.1.below HB.out i a ha
      subst e
      have k0 : W1.cell? ⟨bb, off + i * 5, none⟩ = some (.int .i64 a.s) := hrow 0 _ rfl
      have k1 : W1.cell? ⟨bb, off + i * 5 + 1, none⟩ = some (.int .i64 a.t) := hrow 1 _ rfl
      have k2 : W1.cell? ⟨bb, off + i * 5 + 2, none⟩ = some (.int .i64 a.l) := hrow 2 _ rfl
      have k3 : W1.cell? ⟨bb, off + i * 5 + 3, none⟩ = some (.int .i64 a.b) := hrow 3 _ rfl
      have k4 : W1.cell? ⟨bb, off + i * 5 + 4, none⟩ = some (.int .i64 a.r) := hrow 4 _ rfl
      have LC := lane1_any a x cb W1 (AtL.below HB.out HH.out.1)
      obtain ⟨t, ht⟩ : ∃ t, Wpl.hasA a.s a.t a.l a.b a.r x.s x.r x.c = t := ⟨_, rfl⟩
      have HT : Hid (A[i]? = some a ∧ Wpl.hasA a.s a.t a.l a.b a.r x.s x.r x.c = t) := ⟨ha, ht⟩
      rw [ht] at LC
      clear ht ha hrow
      go_wp2_with fail
      refine LC.mono ?_
      rintro en w2 ⟨rfl, hb2⟩
      have HB2 : Hid (Below w.heap.size w w2) := below_end HB.out hb2
      clear LC hb2 k0 k1 k2 k3 k4 HB
      cases t with
      | true =>
        have HE : Hid (decide ((i : Int) ≥ 0) = seeQ A x) := by
          have : seeQ A x = true := by
            unfold seeQ
            rw [List.any_eq_true]
            exact ⟨a, List.mem_of_getElem? HT.out.1, HT.out.2⟩
          show _ = _
          rw [this]
          simp
        go_wp2_with fail
        go_ret
        exact ⟨⟨(i : Int), rfl, HE.out⟩, HB2.out⟩
      | false =>
        have HS2 : Hid (seeQ (A.take (i + 1)) x = false) := by
          have h1 := HS.out
          show seeQ (A.take (i + 1)) x = false
          unfold seeQ at *
          rw [List.take_add_one, HT.out.1, List.any_append, h1]
          simp [HT.out.2]
        clear HS
        go_wp2_with fail
        go_roundg (n - (i + 1))
        case rel => exact ⟨i + 1, by simp, rfl, hlt, HB2, HS2⟩
        case measure => omega
    · have hii : ¬ (i : Int) < (n : Int) := by omega
      have HE : Hid (decide ((-1 : Int) ≥ 0) = seeQ A x) := by
        have h1 := HS.out
        rw [List.take_of_length_le (by rw [HH.out.2.2]; omega)] at h1
        show _ = _
        rw [h1]
        rfl
      go_wp2_with fail
      go_ret
      exact ⟨⟨-1, rfl, HE.out⟩, HB.out⟩
end Go.Proofs.Ytpbjmhcpaeillaa
