/- Queues: an entry sinks. -/
import Derived.Test.YtpbjmhcpaeillaaQRise
namespace Wq
theorem ord_irr (a : Wr) : ltW a a = false := by
  cases h : ltW a a with
  | false => rfl
  | true => exact absurd (ord_W.asym a a h) (by rw [h]; simp)
theorem ord_tr {a b c : Wr} (h1 : ltW a b = true) (h2 : ltW b c = true) : ltW a c = true := by
  cases h : ltW a c with
  | true => rfl
  | false =>
    have := ord_W.trans b c a (ord_W.asym _ _ h2) h
    rw [h1] at this
    cases this
/-- The first of a parent and of its kids ahead of k. -/
structure Fst (n : Nat) (f : Nat → Wr) (j k m : Nat) : Prop where
  is : m = j ∨ (par m = j ∧ 0 < m ∧ m < n ∧ ltW (f m) (f j) = true)
  no : ∀ x, 0 < x → x < n → par x = j → x < k → ltW (f x) (f m) = false
theorem Fst.start {n : Nat} {f : Nat → Wr} {j : Nat} : Fst n f j (2 * j + 1) j := ⟨Or.inl rfl, fun x h0 hn hp hk => by unfold par at hp; omega⟩
theorem Fst.more {n : Nat} {f : Nat → Wr} {j k m : Nat} (h : Fst n f j k m) (hk0 : 0 < k) (hkn : k < n) (hp : par k = j) (ht : ltW (f k) (f m) = true) : Fst n f j (k + 1) k := by
  refine ⟨Or.inr ⟨hp, hk0, hkn, ?_⟩, fun x h0 hn hx hk => ?_⟩
  · rcases h.is with e | e
    · rw [e] at ht
      exact ht
    · exact ord_tr ht e.2.2.2
  · by_cases c : x = k
    · rw [c]
      exact ord_irr _
    · exact ord_W.trans _ _ _ (ord_W.asym _ _ ht) (h.no x h0 hn hx (by omega))
theorem Fst.less {n : Nat} {f : Nat → Wr} {j k m : Nat} (h : Fst n f j k m) (ht : ltW (f k) (f m) = false) : Fst n f j (k + 1) m := ⟨h.is, fun x h0 hn hx hk => by
  by_cases c : x = k
  · rw [c]
    exact ht
  · exact h.no x h0 hn hx (by omega)⟩
theorem Fst.all {n : Nat} {f : Nat → Wr} {j k m : Nat} (h : Fst n f j k m) (hk : 2 * j + 2 < k ∨ n ≤ k) : ∀ x, 0 < x → x < n → par x = j → ltW (f x) (f m) = false := fun x h0 hn hp => h.no x h0 hn hp (by unfold par at hp; omega)
end Wq
namespace Go.Proofs.Ytpbjmhcpaeillaa
open Go.RowKit
set_option linter.unusedVariables false

/-- What sink answers. -/
def SnkP (w : World) (hb mb B g n cap : Nat) (l : List Wq.Wr) (i : Nat) (en : Ending) (w' : World) : Prop := ∃ (l' : List Wq.Wr) (F' : List (Wpl.Cl × Int)), en = .returned (.tuple #[]) ∧ HW w w' hb mb B g n cap l l' F' ∧ ∀ lo, lo ≤ i → Wq.Dn Wq.ltW n lo (fnW l) i → Wq.Heap Wq.ltW n lo (fnW l')
set_option maxRecDepth 100000 in
set_option maxHeartbeats 4000000 in
theorem sink_any (hb mb B g n cap : Nat) (l : List Wq.Wr) (F : List (Wpl.Cl × Int)) (i : Nat) (w : World) (h : HQ w hb mb B (.slice (some ⟨g, 0, none⟩) n cap) l F) (hf : WF l F) (hn : l.length = n) (hi : i < n) (hN : True → n ≤ 1000000000) :
    Calls Try.prog 46 #[.pointer (some ⟨hb, 0, none⟩), .int .i64 (i : Int)] w (SnkP w hb mb B g n cap l i) := by
  have HS : Hid (HW w w hb mb B g n cap l l F) := HW.start h hf hn
  have HI : Hid (i < n) := hi
  have HD : Hid (∀ lo, lo ≤ i → Wq.Dn Wq.ltW n lo (fnW l) i → Wq.Dn Wq.ltW n lo (fnW l) i ∧ lo ≤ i) := fun lo h1 h2 => ⟨h2, h1⟩
  clear h hf hn
  go_enter Try.func46, Try.ntmps46
  go_upto_region 0 with fail
  go_loopg [1] (n - i) (fun gk x wr => ∃ (j : Nat) (l1 : List Wq.Wr) (F1 : List (Wpl.Cl × Int)), x = .int .i64 (j : Int) ∧ gk = n - j ∧ Hid (j < n) ∧ Hid (HW w wr hb mb B g n cap l l1 F1) ∧ Hid (∀ lo, lo ≤ i → Wq.Dn Wq.ltW n lo (fnW l) i → Wq.Dn Wq.ltW n lo (fnW l1) j ∧ lo ≤ j))
  case atStart => exact ⟨i, l, F, rfl, rfl, HI, HS, HD⟩
  case round =>
    clear HS HI HD
    obtain ⟨j, l1, F1, rfl, hg, HJ, HH, HD⟩ := hrel
    generalize hw9 : wr = W1 at *
    clear hw9
    have hw1 : IntKind.i64.wrap (2 * (j : Int)) = 2 * (j : Int) := by have := hN trivial; have := HJ.out; rw [IntKind.wrap_i64]; omega
    have hw2 : IntKind.i64.wrap (2 * (j : Int) + 1) = 2 * (j : Int) + 1 := by have := hN trivial; have := HJ.out; rw [IntKind.wrap_i64]; omega
    have hw3 : IntKind.i64.wrap (2 * (j : Int) + 2) = 2 * (j : Int) + 2 := by have := hN trivial; have := HJ.out; rw [IntKind.wrap_i64]; omega
    have HF0 : Hid (Wq.Fst n (fnW l1) j (2 * j + 1) j) := Wq.Fst.start
    go_upto_region 2 with fail
    go_loopg [4, 5] 2 (fun gk x y wr => ∃ (f k : Nat), x = .int .i64 (f : Int) ∧ y = .int .i64 (k : Int) ∧ gk = 2 * j + 3 - k ∧ Hid (2 * j + 1 ≤ k ∧ k ≤ 2 * j + 3 ∧ f < n) ∧ Hid (HW w wr hb mb B g n cap l l1 F1) ∧ Hid (Wq.Fst n (fnW l1) j k f))
    case atStart => exact ⟨j, 2 * j + 1, rfl, by simp, by omega, ⟨by omega, by omega, HJ.out⟩, HH, HF0⟩
    case round =>
      clear HH HF0
      obtain ⟨f, k, rfl, rfl, hgk, HK, HH, HFS⟩ := hrel
      generalize hw9 : wr = W2 at *
      clear hw9
      obtain ⟨c0, _, _, _⟩ := HH.out.q.hd.two
      by_cases hk2 : k ≤ 2 * j + 2
      · have hk2i : (k : Int) ≤ 2 * (j : Int) + 2 := by omega
        by_cases hkn : k < n
        · have hkni : (k : Int) < (n : Int) := by omega
          have hwk : IntKind.i64.wrap ((k : Int) + 1) = (k : Int) + 1 := by have := hN trivial; rw [IntKind.wrap_i64]; omega
          obtain ⟨a, ha⟩ := HH.out.get hkn
          obtain ⟨b, hb'⟩ := HH.out.get HK.out.2.2
          have HA : Hid (l1[k]? = some a ∧ l1[f]? = some b) := ⟨ha, hb'⟩
          have AH := ahead_any hb mb B g n cap l1 F1 k f a b W2 HH.out.q HH.out.len hkn HK.out.2.2 ha hb'
          have HP : Hid (Wq.par k = j ∧ 0 < k) := ⟨by have := HK.out; unfold Wq.par; omega, by have := HK.out; omega⟩
          clear ha hb'
          obtain ⟨t, ht⟩ : ∃ t, Wq.ltW a b = t := ⟨_, rfl⟩
          have HT : Hid (Wq.ltW a b = t) := ht
          rw [ht] at AH
          clear ht
          go_wp2_with fail
          refine AH.mono ?_
          rintro en w3 ⟨rfl, hb3⟩
          have HH3 : Hid (HW w w3 hb mb B g n cap l l1 F1) := HH.out.below hb3
          clear AH HH hb3 c0
          cases t with
          | true =>
            have HF3 : Hid (Wq.Fst n (fnW l1) j (k + 1) k) := HFS.out.more HP.out.2 hkn HP.out.1 (by rw [fnW_at HA.out.1, fnW_at HA.out.2]; exact HT.out)
            go_wp2_with fail
            go_roundg (2 * j + 3 - (k + 1))
            case rel => exact ⟨k, k + 1, rfl, by simp, rfl, ⟨by have := HK.out; omega, by omega, hkn⟩, HH3, HF3⟩
            case measure => omega
          | false =>
            have HF3 : Hid (Wq.Fst n (fnW l1) j (k + 1) f) := HFS.out.less (by rw [fnW_at HA.out.1, fnW_at HA.out.2]; exact HT.out)
            go_wp2_with fail
            go_roundg (2 * j + 3 - (k + 1))
            case rel => exact ⟨f, k + 1, rfl, by simp, rfl, ⟨by have := HK.out; omega, by omega, HK.out.2.2⟩, HH3, HF3⟩
            case measure => omega
        · have hkni : ¬ (k : Int) < (n : Int) := by omega
          have HE : Hid (∀ x, 0 < x → x < n → Wq.par x = j → Wq.ltW (fnW l1 x) (fnW l1 f) = false) := HFS.out.all (Or.inr (by omega))
          by_cases hfj : f = j
          · subst hfj
            have HD2 : Hid (∀ lo, lo ≤ i → Wq.Dn Wq.ltW n lo (fnW l) i → Wq.Heap Wq.ltW n lo (fnW l1)) := fun lo h1 h2 => (HD.out lo h1 h2).1.bottom HE.out
            clear HD HE HFS
            go_wp2
            go_end0
            exact ⟨l1, F1, rfl, HH.out, HD2.out⟩
          · have hfi : ¬ (f : Int) = (j : Int) := by omega
            have HP : Hid (Wq.par f = j ∧ 0 < f ∧ f < n ∧ Wq.ltW (fnW l1 f) (fnW l1 j) = true) := by
              rcases HFS.out.is with e | e
              · exact absurd e hfj
              · exact e
            have hjf : Hid (j < f) := by show _ < _; rw [← HP.out.1]; exact Wq.par_lt HP.out.2.1
            obtain ⟨a, ha⟩ := HH.out.get HJ.out
            obtain ⟨b, hb'⟩ := HH.out.get HK.out.2.2
            have HA : Hid (l1[j]? = some a ∧ l1[f]? = some b) := ⟨ha, hb'⟩
            have SW := swap_any hb mb B g n cap l1 F1 j f a b W2 HH.out.q HH.out.len HJ.out HK.out.2.2 ha hb'
            clear ha hb'
            go_wp2_with fail
            refine SW.mono ?_
            rintro en w3 ⟨rfl, hq3, fr3⟩
            have HH3 : Hid (HW w w3 hb mb B g n cap l ((l1.set j b).set f a) (putF ⟨a.s, a.r, a.c⟩ (f : Int) (putF ⟨b.s, b.r, b.c⟩ (j : Int) F1))) := HH.out.swap (by omega) HA.out.1 HA.out.2 hq3 fr3
            have HD3 : Hid (∀ lo, lo ≤ i → Wq.Dn Wq.ltW n lo (fnW l) i → Wq.Dn Wq.ltW n lo (fnW ((l1.set j b).set f a)) f ∧ lo ≤ f) := fun lo h1 h2 => by
              obtain ⟨q1, q2⟩ := HD.out lo h1 h2
              refine ⟨?_, by have := hjf.out; omega⟩
              rw [fnW_swap HA.out.1 HA.out.2]
              exact q1.sink Wq.ord_W q2 HP.out.2.1 HP.out.2.2.1 HP.out.1 HP.out.2.2.2 HE.out
            have HJ3 : Hid (f < n) := HK.out.2.2
            clear SW hq3 fr3 HH HD
            go_wp2_with fail
            go_roundg (n - f)
            case rel => exact ⟨f, _, _, rfl, rfl, HJ3, HH3, HD3⟩
            case measure => have := hjf.out; have := HJ3.out; omega
      · have hk2i : ¬ (k : Int) ≤ 2 * (j : Int) + 2 := by omega
        have HE : Hid (∀ x, 0 < x → x < n → Wq.par x = j → Wq.ltW (fnW l1 x) (fnW l1 f) = false) := HFS.out.all (Or.inl (by omega))
        by_cases hfj : f = j
        · subst hfj
          have HD2 : Hid (∀ lo, lo ≤ i → Wq.Dn Wq.ltW n lo (fnW l) i → Wq.Heap Wq.ltW n lo (fnW l1)) := fun lo h1 h2 => (HD.out lo h1 h2).1.bottom HE.out
          clear HD HE HFS
          go_wp2
          go_end0
          exact ⟨l1, F1, rfl, HH.out, HD2.out⟩
        · have hfi : ¬ (f : Int) = (j : Int) := by omega
          have HP : Hid (Wq.par f = j ∧ 0 < f ∧ f < n ∧ Wq.ltW (fnW l1 f) (fnW l1 j) = true) := by
            rcases HFS.out.is with e | e
            · exact absurd e hfj
            · exact e
          have hjf : Hid (j < f) := by show _ < _; rw [← HP.out.1]; exact Wq.par_lt HP.out.2.1
          obtain ⟨a, ha⟩ := HH.out.get HJ.out
          obtain ⟨b, hb'⟩ := HH.out.get HK.out.2.2
          have HA : Hid (l1[j]? = some a ∧ l1[f]? = some b) := ⟨ha, hb'⟩
          have SW := swap_any hb mb B g n cap l1 F1 j f a b W2 HH.out.q HH.out.len HJ.out HK.out.2.2 ha hb'
          clear ha hb'
          go_wp2_with fail
          refine SW.mono ?_
          rintro en w3 ⟨rfl, hq3, fr3⟩
          have HH3 : Hid (HW w w3 hb mb B g n cap l ((l1.set j b).set f a) (putF ⟨a.s, a.r, a.c⟩ (f : Int) (putF ⟨b.s, b.r, b.c⟩ (j : Int) F1))) := HH.out.swap (by omega) HA.out.1 HA.out.2 hq3 fr3
          have HD3 : Hid (∀ lo, lo ≤ i → Wq.Dn Wq.ltW n lo (fnW l) i → Wq.Dn Wq.ltW n lo (fnW ((l1.set j b).set f a)) f ∧ lo ≤ f) := fun lo h1 h2 => by
            obtain ⟨q1, q2⟩ := HD.out lo h1 h2
            refine ⟨?_, by have := hjf.out; omega⟩
            rw [fnW_swap HA.out.1 HA.out.2]
            exact q1.sink Wq.ord_W q2 HP.out.2.1 HP.out.2.2.1 HP.out.1 HP.out.2.2.2 HE.out
          have HJ3 : Hid (f < n) := HK.out.2.2
          clear SW hq3 fr3 HH HD
          go_wp2_with fail
          go_roundg (n - f)
          case rel => exact ⟨f, _, _, rfl, rfl, HJ3, HH3, HD3⟩
          case measure => have := hjf.out; have := HJ3.out; omega
end Go.Proofs.Ytpbjmhcpaeillaa
namespace Go.Proofs.Ytpbjmhcpaeillaa
open Go.RowKit
set_option linter.unusedVariables false

/-- What settle answers. -/
def SetP (w : World) (hb mb B g n cap : Nat) (l : List Wq.Wr) (i : Nat) (en : Ending) (w' : World) : Prop := ∃ (l' : List Wq.Wr) (F' : List (Wpl.Cl × Int)), en = .returned (.tuple #[]) ∧ HW w w' hb mb B g n cap l l' F' ∧ (Wq.Up Wq.ltW n (fnW l) i → Wq.Heap Wq.ltW n 0 (fnW l'))
set_option maxHeartbeats 4000000 in
theorem settle_any (hb mb B g n cap : Nat) (l : List Wq.Wr) (F : List (Wpl.Cl × Int)) (i : Nat) (w : World) (h : HQ w hb mb B (.slice (some ⟨g, 0, none⟩) n cap) l F) (hf : WF l F) (hn : l.length = n) (hi : i < n) (hN : True → n ≤ 1000000000) :
    Calls Try.prog 43 #[.pointer (some ⟨hb, 0, none⟩), .int .i64 (i : Int)] w (SetP w hb mb B g n cap l i) := by
  have RI := rise_any hb mb B g n cap l F i w h hf hn hi hN
  have HSK : Hid (∀ (W : World) (l1 : List Wq.Wr) (F1 : List (Wpl.Cl × Int)) (j : Nat), HQ W hb mb B (.slice (some ⟨g, 0, none⟩) n cap) l1 F1 → WF l1 F1 → l1.length = n → j < n → Calls Try.prog 46 #[.pointer (some ⟨hb, 0, none⟩), .int .i64 (j : Int)] W (SnkP W hb mb B g n cap l1 j)) := fun W l1 F1 j h1 h2 h3 h4 => sink_any hb mb B g n cap l1 F1 j W h1 h2 h3 h4 hN
  clear h hf hn hi hN
  go_enter Try.func43, Try.ntmps43
  go_wp2_with fail
  refine RI.mono ?_
  rintro en w1 ⟨j, l1, F1, rfl, hj, h1, hu⟩
  have SK := HSK.out w1 l1 F1 j h1.q h1.f h1.len hj
  have H1 : Hid (HW w w1 hb mb B g n cap l l1 F1 ∧ (Wq.Up Wq.ltW n (fnW l) i → Wq.Dn Wq.ltW n 0 (fnW l1) j)) := ⟨h1, hu⟩
  clear RI HSK h1 hu hj
  go_wp2_with fail
  refine SK.mono ?_
  rintro en w2 ⟨l2, F2, rfl, h2, hd⟩
  have H2 : Hid (HW w w2 hb mb B g n cap l l2 F2 ∧ (Wq.Up Wq.ltW n (fnW l) i → Wq.Heap Wq.ltW n 0 (fnW l2))) := ⟨⟨h2.q, h2.f, h2.p.trans H1.out.1.p, h2.len, Fr.trans H1.out.1.fr h2.fr⟩, fun z => hd 0 (Nat.zero_le _) (H1.out.2 z)⟩
  clear SK H1 h2 hd
  go_wp2
  go_end0
  exact ⟨l2, F2, rfl, H2.out.1, H2.out.2⟩
/-- A row with a cell's entry laid anew; with it taken off. -/
def offW (x : Wpl.Cl) (l : List Wq.Wr) : List Wq.Wr := l.filter (fun a => !eqCl (clW a) x)
theorem offW_none {x : Wpl.Cl} {l : List Wq.Wr} (h : ∀ a ∈ l, clW a ≠ x) : offW x l = l := by
  unfold offW
  rw [List.filter_eq_self]
  intro a ha
  cases q : eqCl (clW a) x with
  | false => rfl
  | true => exact absurd (eqCl_iff.1 q) (h a ha)
/-- One of the row is of the cell: the others. -/
theorem offW_erase {F : List (Wpl.Cl × Int)} {l : List Wq.Wr} (h : WF l F) {i : Nat} {a : Wq.Wr} (ha : l[i]? = some a) : offW (clW a) l = l.eraseIdx i := by
  obtain ⟨hi, ea⟩ := List.getElem?_eq_some_iff.1 ha
  have e1 : l = l.take i ++ a :: l.drop (i + 1) := by rw [← ea, ← List.drop_eq_getElem_cons hi, List.take_append_drop]
  have n1 : ∀ b ∈ l.take i, clW b ≠ clW a := fun b hb e => by
    obtain ⟨j, hj⟩ := List.mem_iff_getElem?.1 hb
    rw [List.getElem?_take] at hj
    by_cases c : j < i
    · rw [if_pos c] at hj
      have := h.one hj ha e
      omega
    · rw [if_neg c] at hj
      cases hj
  have n2 : ∀ b ∈ l.drop (i + 1), clW b ≠ clW a := fun b hb e => by
    obtain ⟨j, hj⟩ := List.mem_iff_getElem?.1 hb
    rw [List.getElem?_drop] at hj
    have := h.one hj ha e
    omega
  have o1 := offW_none n1
  have o2 := offW_none n2
  unfold offW at *
  conv => lhs; rw [e1]
  rw [List.filter_append, o1, List.filter_cons, if_neg (by simp [eqCl_iff.2]), o2, List.eraseIdx_eq_take_drop_succ]
theorem set_perm {l : List Wq.Wr} {i : Nat} (hi : i < l.length) (e : Wq.Wr) : (l.set i e).Perm (e :: l.eraseIdx i) := by
  rw [List.set_eq_take_append_cons_drop, if_pos hi, List.eraseIdx_eq_take_drop_succ]
  exact List.perm_middle
/-- An entry is laid in the place of its cell's. -/
theorem WF.lay {l : List Wq.Wr} {F : List (Wpl.Cl × Int)} (h : WF l F) {i : Nat} {a e : Wq.Wr} (ha : l[i]? = some a) (he : clW a = clW e) : WF (l.set i e) (putF (clW e) (i : Int) F) := by
  obtain ⟨hi, _⟩ := List.getElem?_eq_some_iff.1 ha
  obtain ⟨k1, m1⟩ := h.1.put (clW e) (i : Int)
  refine ⟨k1, fun x v => ?_⟩
  rw [m1]
  constructor
  · rintro (⟨rfl, rfl⟩ | ⟨n1, hm⟩)
    · exact ⟨i, rfl, e, by rw [List.getElem?_set_self hi], rfl⟩
    · obtain ⟨j, rfl, y, hy, rfl⟩ := (h.2 x v).1 hm
      have j1 : i ≠ j := fun z => by subst z; rw [ha] at hy; cases hy; exact n1 he
      exact ⟨j, rfl, y, by rw [List.getElem?_set_ne j1]; exact hy, rfl⟩
  · rintro ⟨j, rfl, y, hy, rfl⟩
    by_cases c : i = j
    · subst c
      rw [List.getElem?_set_self hi] at hy
      cases hy
      exact Or.inl ⟨rfl, rfl⟩
    · rw [List.getElem?_set_ne c] at hy
      exact Or.inr ⟨fun z => c (h.one ha hy (he.trans z.symm)), (h.2 _ _).2 ⟨j, rfl, y, hy, rfl⟩⟩
/-- An entry is laid behind. -/
theorem WF.more {l : List Wq.Wr} {F : List (Wpl.Cl × Int)} (h : WF l F) {e : Wq.Wr} (hn : ∀ v, (clW e, v) ∉ F) : WF (l ++ [e]) (putF (clW e) (l.length : Int) F) := by
  obtain ⟨k1, m1⟩ := h.1.put (clW e) (l.length : Int)
  refine ⟨k1, fun x v => ?_⟩
  rw [m1]
  constructor
  · rintro (⟨rfl, rfl⟩ | ⟨n1, hm⟩)
    · exact ⟨l.length, rfl, e, by simp, rfl⟩
    · obtain ⟨j, rfl, y, hy, rfl⟩ := (h.2 x v).1 hm
      exact ⟨j, rfl, y, by rw [List.getElem?_append_left (List.getElem?_eq_some_iff.1 hy).1]; exact hy, rfl⟩
  · rintro ⟨j, rfl, y, hy, rfl⟩
    by_cases c : j < l.length
    · rw [List.getElem?_append_left c] at hy
      exact Or.inr ⟨fun z => hn j (by rw [← z]; exact (h.2 _ _).2 ⟨j, rfl, y, hy, rfl⟩), (h.2 _ _).2 ⟨j, rfl, y, hy, rfl⟩⟩
    · rw [List.getElem?_append_right (by omega)] at hy
      have e0 : j - l.length = 0 := by
        have := (List.getElem?_eq_some_iff.1 hy).1
        simp at this
        omega
      rw [e0] at hy
      simp at hy
      exact Or.inl ⟨by rw [← hy], by have : j = l.length := by omega
                                     rw [this]⟩
theorem WF.miss {l : List Wq.Wr} {F : List (Wpl.Cl × Int)} (h : WF l F) {x : Wpl.Cl} (hn : gtB x F = false) : (∀ v, (x, v) ∉ F) ∧ ∀ a ∈ l, clW a ≠ x := by
  have h1 : ∀ v, (x, v) ∉ F := fun v hm => by
    have := (h.1.look.2 hm).1
    rw [hn] at this
    cases this
  refine ⟨h1, fun a ha e => ?_⟩
  obtain ⟨j, hj⟩ := List.mem_iff_getElem?.1 ha
  exact h1 j ((h.2 _ _).2 ⟨j, rfl, a, hj, e⟩)
theorem WF.hit {l : List Wq.Wr} {F : List (Wpl.Cl × Int)} (h : WF l F) {x : Wpl.Cl} (hn : gtB x F = true) : ∃ (i : Nat) (a : Wq.Wr), gtI x F = (i : Int) ∧ l[i]? = some a ∧ clW a = x := by
  have hm := h.1.look.1 ⟨hn, rfl⟩
  obtain ⟨i, e, a, ha, hx⟩ := (h.2 _ _).1 hm
  exact ⟨i, a, e, ha, hx⟩
end Go.Proofs.Ytpbjmhcpaeillaa
