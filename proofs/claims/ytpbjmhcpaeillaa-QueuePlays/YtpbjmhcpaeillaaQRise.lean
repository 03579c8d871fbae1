/- Queues, plain: the row and the map of a heap say the same. -/
import Derived.Test.YtpbjmhcpaeillaaQSw
namespace Go.Proofs.Ytpbjmhcpaeillaa
open Go.RowKit
set_option linter.unusedVariables false

/-- The cell that waits. -/
abbrev clW (a : Wq.Wr) : Wpl.Cl := ⟨a.s, a.r, a.c⟩
/-- The map tells where in the row each cell stands. -/
def WF (l : List Wq.Wr) (F : List (Wpl.Cl × Int)) : Prop := KN F ∧ ∀ (x : Wpl.Cl) (v : Int), (x, v) ∈ F ↔ ∃ i : Nat, v = (i : Int) ∧ ∃ a, l[i]? = some a ∧ clW a = x
theorem WF.one {l : List Wq.Wr} {F : List (Wpl.Cl × Int)} (h : WF l F) {i k : Nat} {a b : Wq.Wr} (ha : l[i]? = some a) (hb : l[k]? = some b) (e : clW a = clW b) : i = k := by
  have h1 := (h.2 (clW a) i).2 ⟨i, rfl, a, ha, rfl⟩
  have h2 := (h.2 (clW a) k).2 ⟨k, rfl, b, hb, e.symm⟩
  have := h.1.one h1 h2
  omega
theorem get_swap {l : List Wq.Wr} {i k : Nat} {a b : Wq.Wr} (ha : l[i]? = some a) (hb : l[k]? = some b) (j : Nat) : ((l.set i b).set k a)[j]? = if j = k then some a else if j = i then some b else l[j]? := by
  obtain ⟨hi, _⟩ := List.getElem?_eq_some_iff.1 ha
  obtain ⟨hk, _⟩ := List.getElem?_eq_some_iff.1 hb
  rw [List.getElem?_set, List.length_set]
  by_cases c : j = k
  · subst c
    rw [if_pos rfl, if_pos rfl, if_pos hk]
  · rw [if_neg (fun e => c e.symm), if_neg c, List.getElem?_set]
    by_cases d : j = i
    · subst d
      rw [if_pos rfl, if_pos rfl, if_pos hi]
    · rw [if_neg (fun e => d e.symm), if_neg d]
theorem WF.swap {l : List Wq.Wr} {F : List (Wpl.Cl × Int)} (h : WF l F) {i k : Nat} (hik : i ≠ k) {a b : Wq.Wr} (ha : l[i]? = some a) (hb : l[k]? = some b) : WF ((l.set i b).set k a) (putF (clW a) (k : Int) (putF (clW b) (i : Int) F)) := by
  have hab : clW a ≠ clW b := fun e => hik (h.one ha hb e)
  obtain ⟨k1, m1⟩ := h.1.put (clW b) (i : Int)
  obtain ⟨k2, m2⟩ := k1.put (clW a) (k : Int)
  refine ⟨k2, fun x v => ?_⟩
  rw [m2, m1]
  constructor
  · rintro (⟨rfl, rfl⟩ | ⟨n1, ⟨rfl, rfl⟩ | ⟨n2, hm⟩⟩)
    · exact ⟨k, rfl, a, by rw [get_swap ha hb, if_pos rfl], rfl⟩
    · exact ⟨i, rfl, b, by rw [get_swap ha hb, if_neg hik, if_pos rfl], rfl⟩
    · obtain ⟨j, rfl, y, hy, rfl⟩ := (h.2 x v).1 hm
      have j1 : j ≠ i := fun e => by subst e; rw [ha] at hy; cases hy; exact n1 rfl
      have j2 : j ≠ k := fun e => by subst e; rw [hb] at hy; cases hy; exact n2 rfl
      exact ⟨j, rfl, y, by rw [get_swap ha hb, if_neg j2, if_neg j1]; exact hy, rfl⟩
  · rintro ⟨j, rfl, y, hy, rfl⟩
    rw [get_swap ha hb] at hy
    by_cases c : j = k
    · rw [if_pos c] at hy
      cases hy
      exact Or.inl ⟨rfl, by rw [c]⟩
    · rw [if_neg c] at hy
      by_cases d : j = i
      · rw [if_pos d] at hy
        cases hy
        exact Or.inr ⟨fun e => hab e.symm, Or.inl ⟨rfl, by rw [d]⟩⟩
      · rw [if_neg d] at hy
        exact Or.inr ⟨fun e => d (h.one hy ha e), Or.inr ⟨fun e => c (h.one hy hb e), (h.2 _ _).2 ⟨j, rfl, y, hy, rfl⟩⟩⟩
/-- The row as a function. -/
def fnW (l : List Wq.Wr) (j : Nat) : Wq.Wr := (l[j]?).getD ⟨0, 0, 0, 0, 0⟩
theorem fnW_at {l : List Wq.Wr} {j : Nat} {a : Wq.Wr} (h : l[j]? = some a) : fnW l j = a := by
  unfold fnW
  rw [h]
  rfl
theorem fnW_swap {l : List Wq.Wr} {i k : Nat} {a b : Wq.Wr} (ha : l[i]? = some a) (hb : l[k]? = some b) : fnW ((l.set i b).set k a) = Wq.swp (fnW l) i k := by
  funext j
  unfold Wq.swp
  by_cases c : j = i
  · rw [if_pos c]
    by_cases d : j = k
    · have : a = b := by
        rw [← c, d, hb] at ha
        simpa using ha.symm
      rw [fnW_at (a := a) (by rw [get_swap ha hb, if_pos d]), fnW_at hb, this]
    · rw [fnW_at (a := b) (by rw [get_swap ha hb, if_neg d, if_pos c]), fnW_at hb]
  · rw [if_neg c]
    by_cases d : j = k
    · rw [if_pos d, fnW_at (a := a) (by rw [get_swap ha hb, if_pos d]), fnW_at ha]
    · rw [if_neg d]
      unfold fnW
      rw [get_swap ha hb, if_neg d, if_neg c]
theorem swap_perm {l : List Wq.Wr} {i k : Nat} {a b : Wq.Wr} (ha : l[i]? = some a) (hb : l[k]? = some b) : ((l.set i b).set k a).Perm l := by
  obtain ⟨hi, rfl⟩ := List.getElem?_eq_some_iff.1 ha
  obtain ⟨hk, rfl⟩ := List.getElem?_eq_some_iff.1 hb
  exact List.set_set_perm hi hk
theorem swap_len {l : List Wq.Wr} {i k : Nat} {a b : Wq.Wr} : ((l.set i b).set k a).length = l.length := by simp
end Go.Proofs.Ytpbjmhcpaeillaa
namespace Go.Proofs.Ytpbjmhcpaeillaa
open Go.RowKit
set_option linter.unusedVariables false

/-- What a walk of the heap keeps: it says the same, and holds the same. -/
structure HW (w0 w : World) (hb mb B g n cap : Nat) (l0 l : List Wq.Wr) (F : List (Wpl.Cl × Int)) : Prop where
  q : HQ w hb mb B (.slice (some ⟨g, 0, none⟩) n cap) l F
  f : WF l F
  p : l.Perm l0
  len : l.length = n
  fr : Fr (hb :: mb :: [g]) w0 w
theorem HW.start {w : World} {hb mb B g n cap : Nat} {l : List Wq.Wr} {F : List (Wpl.Cl × Int)} (h : HQ w hb mb B (.slice (some ⟨g, 0, none⟩) n cap) l F) (hf : WF l F) (hn : l.length = n) : HW w w hb mb B g n cap l l F := ⟨h, hf, List.Perm.refl _, hn, Fr.refl _ _⟩
theorem HW.below {w0 w w' : World} {hb mb B g n cap : Nat} {l0 l : List Wq.Wr} {F : List (Wpl.Cl × Int)} (h : HW w0 w hb mb B g n cap l0 l F) (hb' : Below w.heap.size w w') : HW w0 w' hb mb B g n cap l0 l F := ⟨h.q.below hb', h.f, h.p, h.len, Fr.trans h.fr (Fr.of_below _ hb')⟩
theorem HW.swap {w0 w w' : World} {hb mb B g n cap : Nat} {l0 l : List Wq.Wr} {F : List (Wpl.Cl × Int)} (h : HW w0 w hb mb B g n cap l0 l F) {i k : Nat} (hik : i ≠ k) {a b : Wq.Wr} (ha : l[i]? = some a) (hb' : l[k]? = some b) (hq : HQ w' hb mb B (.slice (some ⟨g, 0, none⟩) n cap) ((l.set i b).set k a) (putF ⟨a.s, a.r, a.c⟩ (k : Int) (putF ⟨b.s, b.r, b.c⟩ (i : Int) F))) (hf : Fr (hb :: mb :: [g]) w w') : HW w0 w' hb mb B g n cap l0 ((l.set i b).set k a) (putF ⟨a.s, a.r, a.c⟩ (k : Int) (putF ⟨b.s, b.r, b.c⟩ (i : Int) F)) :=
  ⟨hq, h.f.swap hik ha hb', (swap_perm ha hb').trans h.p, by rw [swap_len]; exact h.len, Fr.trans h.fr hf⟩
theorem HW.get {w0 w : World} {hb mb B g n cap : Nat} {l0 l : List Wq.Wr} {F : List (Wpl.Cl × Int)} (h : HW w0 w hb mb B g n cap l0 l F) {i : Nat} (hi : i < n) : ∃ a, l[i]? = some a := ⟨l[i]'(by rw [h.len]; exact hi), List.getElem?_eq_getElem _⟩
/-- What rise answers. -/
def RisP (w : World) (hb mb B g n cap : Nat) (l : List Wq.Wr) (i : Nat) (en : Ending) (w' : World) : Prop := ∃ (j : Nat) (l' : List Wq.Wr) (F' : List (Wpl.Cl × Int)), en = .returned (.int .i64 (j : Int)) ∧ j < n ∧ HW w w' hb mb B g n cap l l' F' ∧ (Wq.Up Wq.ltW n (fnW l) i → Wq.Dn Wq.ltW n 0 (fnW l') j)
set_option maxRecDepth 100000 in
set_option maxHeartbeats 4000000 in
theorem rise_any (hb mb B g n cap : Nat) (l : List Wq.Wr) (F : List (Wpl.Cl × Int)) (i : Nat) (w : World) (h : HQ w hb mb B (.slice (some ⟨g, 0, none⟩) n cap) l F) (hf : WF l F) (hn : l.length = n) (hi : i < n) (hN : True → n ≤ 1000000000) :
    Calls Try.prog 52 #[.pointer (some ⟨hb, 0, none⟩), .int .i64 (i : Int)] w (RisP w hb mb B g n cap l i) := by
  have HS : Hid (HW w w hb mb B g n cap l l F) := HW.start h hf hn
  have HI : Hid (i < n) := hi
  have HU : Hid (Wq.Up Wq.ltW n (fnW l) i → Wq.Up Wq.ltW n (fnW l) i) := id
  clear h hf hn
  go_enter Try.func52, Try.ntmps52
  go_upto_region 1 with fail
  go_loopg [1] i (fun gk x wr => ∃ (j : Nat) (l1 : List Wq.Wr) (F1 : List (Wpl.Cl × Int)), x = .int .i64 (j : Int) ∧ gk = j ∧ Hid (j < n) ∧ Hid (HW w wr hb mb B g n cap l l1 F1) ∧ Hid (Wq.Up Wq.ltW n (fnW l) i → Wq.Up Wq.ltW n (fnW l1) j))
  case atStart => exact ⟨i, l, F, rfl, rfl, HI, HS, HU⟩
  case round =>
    clear HS HI HU
    obtain ⟨j, l1, F1, rfl, hg, HJ, HH, HU⟩ := hrel
    generalize hw9 : wr = W1 at *
    clear hw9
    cases j with
    | zero =>
      have HD : Hid (Wq.Up Wq.ltW n (fnW l) i → Wq.Dn Wq.ltW n 0 (fnW l1) 0) := fun z => (HU.out z).top (Or.inl rfl)
      clear HU
      go_wp2_with fail
      go_ret
      exact ⟨0, l1, F1, rfl, HJ.out, HH.out, HD.out⟩
    | succ q =>
      obtain ⟨p, hp⟩ : ∃ p, Wq.par (q + 1) = p := ⟨_, rfl⟩
      have HP : Hid (Wq.par (q + 1) = p ∧ p < n ∧ p < q + 1) := ⟨hp, by have := HJ.out; have := Wq.par_lt (i := q + 1) (by omega); omega, by rw [← hp]; exact Wq.par_lt (by omega)⟩
      have hj0 : (0 : Int) < ((q + 1 : Nat) : Int) := by omega
      have hw1 : IntKind.i64.wrap (((q + 1 : Nat) : Int) - 1) = (q : Int) := by have := hN trivial; have := HJ.out; rw [IntKind.wrap_i64]; omega
      have hdv : ((q : Int)).tdiv 2 = (p : Int) := by
        rw [← hp]
        unfold Wq.par
        rw [Nat.add_sub_cancel]
        rfl
      have hw2 : IntKind.i64.wrap ((p : Nat) : Int) = (p : Int) := by have := hN trivial; have := HP.out; rw [IntKind.wrap_i64]; omega
      obtain ⟨a, ha⟩ := HH.out.get HJ.out
      obtain ⟨b, hb'⟩ := HH.out.get HP.out.2.1
      have HA : Hid (l1[q + 1]? = some a ∧ l1[p]? = some b) := ⟨ha, hb'⟩
      have AH := ahead_any hb mb B g n cap l1 F1 (q + 1) p a b W1 HH.out.q HH.out.len HJ.out HP.out.2.1 ha hb'
      clear ha hb' hp
      obtain ⟨t, ht⟩ : ∃ t, Wq.ltW a b = t := ⟨_, rfl⟩
      have HT : Hid (Wq.ltW a b = t) := ht
      rw [ht] at AH
      clear ht
      generalize hJJ : ((q + 1 : Nat) : Int) = J at *
      go_wp2_with fail
      refine AH.mono ?_
      rintro en w2 ⟨rfl, hb2⟩
      have HH2 : Hid (HW w w2 hb mb B g n cap l l1 F1) := HH.out.below hb2
      clear AH HH hb2
      cases t with
      | false =>
        have HD : Hid (Wq.Up Wq.ltW n (fnW l) i → Wq.Dn Wq.ltW n 0 (fnW l1) (q + 1)) := fun z => (HU.out z).top (Or.inr (by rw [fnW_at HA.out.1, HP.out.1, fnW_at HA.out.2]; exact HT.out))
        clear HU
        go_wp2_with fail
        go_ret
        exact ⟨q + 1, l1, F1, by rw [← hJJ]; rfl, HJ.out, HH2.out, HD.out⟩
      | true =>
        have SW := swap_any hb mb B g n cap l1 F1 (q + 1) p a b w2 HH2.out.q HH2.out.len HJ.out HP.out.2.1 HA.out.1 HA.out.2
        rw [hJJ] at SW
        go_wp2_with fail
        refine SW.mono ?_
        rintro en w3 ⟨rfl, hq3, fr3⟩
        rw [← hJJ] at hq3
        have HH3 : Hid (HW w w3 hb mb B g n cap l ((l1.set (q + 1) b).set p a) (putF ⟨a.s, a.r, a.c⟩ (p : Int) (putF ⟨b.s, b.r, b.c⟩ ((q + 1 : Nat) : Int) F1))) := HH2.out.swap (by have := HP.out; omega) HA.out.1 HA.out.2 hq3 fr3
        have HU3 : Hid (Wq.Up Wq.ltW n (fnW l) i → Wq.Up Wq.ltW n (fnW ((l1.set (q + 1) b).set p a)) p) := fun z => by
          have := (HU.out z).rise Wq.ord_W (by omega) HJ.out
          rw [HP.out.1] at this
          rw [fnW_swap HA.out.1 HA.out.2]
          exact this
        have HJ3 : Hid (p < n) := HP.out.2.1
        clear SW hq3 fr3 HH2 HU
        go_wp2_with fail
        go_roundg p
        case rel => exact ⟨p, _, _, rfl, rfl, HJ3, HH3, HU3⟩
        case measure => have := HP.out; omega
end Go.Proofs.Ytpbjmhcpaeillaa
