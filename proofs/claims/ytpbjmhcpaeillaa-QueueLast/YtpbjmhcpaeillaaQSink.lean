/- Queues: an entry sinks. -/
import Derived.Test.YtpbjmhcpaeillaaQRise
namespace Wq
theorem ord_irr (a : Wr) : ltW a a = false := by
  cases h : ltW a a with
  | false => rfl
  | true => exact absurd (ord_W.asym a a h) (by rw [h]; simp)
theorem ord_tr {a b c : Wr} (h1 : ltW a b = true) (h2 : ltW b c = true) : ltW a c = true := by
  cases h : ltW a c with
  | true => rfl
  | false =>
    have := ord_W.trans b c a (ord_W.asym _ _ h2) h
    rw [h1] at this
    cases this
/-- The first of a parent and of its kids ahead of k. -/
structure Fst (n : Nat) (f : Nat → Wr) (j k m : Nat) : Prop where
  is : m = j ∨ (par m = j ∧ 0 < m ∧ m < n ∧ ltW (f m) (f j) = true)
  no : ∀ x, 0 < x → x < n → par x = j → x < k → ltW (f x) (f m) = false
theorem Fst.start {n : Nat} {f : Nat → Wr} {j : Nat} : Fst n f j (2 * j + 1) j := ⟨Or.inl rfl, fun x h0 hn hp hk => by unfold par at hp; omega⟩
theorem Fst.more {n : Nat} {f : Nat → Wr} {j k m : Nat} (h : Fst n f j k m) (hk0 : 0 < k) (hkn : k < n) (hp : par k = j) (ht : ltW (f k) (f m) = true) : Fst n f j (k + 1) k := by
  refine ⟨Or.inr ⟨hp, hk0, hkn, ?_⟩, fun x h0 hn hx hk => ?_⟩
  · rcases h.is with e | e
    · rw [e] at ht
      exact ht
    · exact ord_tr ht e.2.2.2
  · by_cases c : x = k
    · rw [c]
      exact ord_irr _
    · exact ord_W.trans _ _ _ (ord_W.asym _ _ ht) (h.no x h0 hn hx (by omega))
theorem Fst.less {n : Nat} {f : Nat → Wr} {j k m : Nat} (h : Fst n f j k m) (ht : ltW (f k) (f m) = false) : Fst n f j (k + 1) m := ⟨h.is, fun x h0 hn hx hk => by
  by_cases c : x = k
  · rw [c]
    exact ht
  · exact h.no x h0 hn hx (by omega)⟩
theorem Fst.all {n : Nat} {f : Nat → Wr} {j k m : Nat} (h : Fst n f j k m) (hk : 2 * j + 2 < k ∨ n ≤ k) : ∀ x, 0 < x → x < n → par x = j → ltW (f x) (f m) = false := fun x h0 hn hp => h.no x h0 hn hp (by unfold par at hp; omega)
end Wq
namespace Go.Proofs.Ytpbjmhcpaeillaa
open Go.RowKit
set_option linter.unusedVariables false

/-- What sink answers. -/
def SnkP (w : World) (hb mb B g n cap : Nat) (l : List Wq.Wr) (i : Nat) (en : Ending) (w' : World) : Prop := ∃ (l' : List Wq.Wr) (F' : List (Wpl.Cl × Int)), en = .returned (.tuple #[]) ∧ HW w w' hb mb B g n cap l l' F' ∧ ∀ lo, lo ≤ i → Wq.Dn Wq.ltW n lo (fnW l) i → Wq.Heap Wq.ltW n lo (fnW l')
set_option maxRecDepth 100000 in
set_option maxHeartbeats 4000000 in
theorem sink_any (hb mb B g n cap : Nat) (l : List Wq.Wr) (F : List (Wpl.Cl × Int)) (i : Nat) (w : World) (h : HQ w hb mb B (.slice (some ⟨g, 0, none⟩) n cap) l F) (hf : WF l F) (hn : l.length = n) (hi : i < n) (hN : True → n ≤ 1000000000) :
    Calls Try.prog 46 #[.pointer (some ⟨hb, 0, none⟩), .int .i64 (i : Int)] w (SnkP w hb mb B g n cap l i) := by
  have HS : Hid (HW w w hb mb B g n cap l l F) := HW.start h hf hn
  have HI : Hid (i < n) := hi
  have HD : Hid (∀ lo, lo ≤ i → Wq.Dn Wq.ltW n lo (fnW l) i → Wq.Dn Wq.ltW n lo (fnW l) i ∧ lo ≤ i) := fun lo h1 h2 => ⟨h2, h1⟩
  clear h hf hn
  go_enter Try.func46, Try.ntmps46
  go_upto_region 0 with fail
  go_loopg [1] (n - i) (fun gk x wr => ∃ (j : Nat) (l1 : List Wq.Wr) (F1 : List (Wpl.Cl × Int)), x = .int .i64 (j : Int) ∧ gk = n - j ∧ Hid (j < n) ∧ Hid (HW w wr hb mb B g n cap l l1 F1) ∧ Hid (∀ lo, lo ≤ i → Wq.Dn Wq.ltW n lo (fnW l) i → Wq.Dn Wq.ltW n lo (fnW l1) j ∧ lo ≤ j))
  case atStart => exact ⟨i, l, F, rfl, rfl, HI, HS, HD⟩
  case round =>
    clear HS HI HD
    obtain ⟨j, l1, F1, rfl, hg, HJ, HH, HD⟩ := hrel
    generalize hw9 : wr = W1 at *
    clear hw9
    have hw1 : IntKind.i64.wrap (2 * (j : Int)) = 2 * (j : Int) := by have := hN trivial; have := HJ.out; rw [IntKind.wrap_i64]; omega
    have hw2 : IntKind.i64.wrap (2 * (j : Int) + 1) = 2 * (j : Int) + 1 := by have := hN trivial; have := HJ.out; rw [IntKind.wrap_i64]; omega
    have hw3 : IntKind.i64.wrap (2 * (j : Int) + 2) = 2 * (j : Int) + 2 := by have := hN trivial; have := HJ.out; rw [IntKind.wrap_i64]; omega
    have HF0 : Hid (Wq.Fst n (fnW l1) j (2 * j + 1) j) := Wq.Fst.start
    go_upto_region 2 with fail
    go_loopg [4, 5] 2 (fun gk x y wr => ∃ (f k : Nat), x = .int .i64 (f : Int) ∧ y = .int .i64 (k : Int) ∧ gk = 2 * j + 3 - k ∧ Hid (2 * j + 1 ≤ k ∧ k ≤ 2 * j + 3 ∧ f < n) ∧ Hid (HW w wr hb mb B g n cap l l1 F1) ∧ Hid (Wq.Fst n (fnW l1) j k f))
    case atStart => exact ⟨j, 2 * j + 1, rfl, by simp, by omega, ⟨by omega, by omega, HJ.out⟩, HH, HF0⟩
    case round =>
      clear HH HF0
      obtain ⟨f, k, rfl, rfl, hgk, HK, HH, HFS⟩ := hrel
      generalize hw9 : wr = W2 at *
      clear hw9
      obtain ⟨c0, _, _, _⟩ := HH.out.q.hd.two
      by_cases hk2 : k ≤ 2 * j + 2
      · have hk2i : (k : Int) ≤ 2 * (j : Int) + 2 := by omega
        by_cases hkn : k < n
        · have hkni : (k : Int) < (n : Int) := by omega
          have hwk : IntKind.i64.wrap ((k : Int) + 1) = (k : Int) + 1 := by have := hN trivial; rw [IntKind.wrap_i64]; omega
          obtain ⟨a, ha⟩ := HH.out.get hkn
          obtain ⟨b, hb'⟩ := HH.out.get HK.out.2.2
          have HA : Hid (l1[k]? = some a ∧ l1[f]? = some b) := ⟨ha, hb'⟩
          have AH := ahead_any hb mb B g n cap l1 F1 k f a b W2 HH.out.q HH.out.len hkn HK.out.2.2 ha hb'
          have HP : Hid (Wq.par k = j ∧ 0 < k) := ⟨by have := HK.out; unfold Wq.par; omega, by have := HK.out; omega⟩
          clear ha hb'
          obtain ⟨t, ht⟩ : ∃ t, Wq.ltW a b = t := ⟨_, rfl⟩
          have HT : Hid (Wq.ltW a b = t) := ht
          rw [ht] at AH
          clear ht
          go_wp2_with fail
          refine AH.mono ?_
          rintro en w3 ⟨rfl, hb3⟩
          have HH3 : Hid (HW w w3 hb mb B g n cap l l1 F1) := HH.out.below hb3
          clear AH HH hb3 c0
          cases t with
          | true =>
            have HF3 : Hid (Wq.Fst n (fnW l1) j (k + 1) k) := HFS.out.more HP.out.2 hkn HP.out.1 (by rw [fnW_at HA.out.1, fnW_at HA.out.2]; exact HT.out)
            go_wp2_with fail
            go_roundg (2 * j + 3 - (k + 1))
            case rel => exact ⟨k, k + 1, rfl, by simp, rfl, ⟨by have := HK.out; omega, by omega, hkn⟩, HH3, HF3⟩
            case measure => omega
          | false =>
            have HF3 : Hid (Wq.Fst n (fnW l1) j (k + 1) f) := HFS.out.less (by rw [fnW_at HA.out.1, fnW_at HA.out.2]; exact HT.out)
            go_wp2_with fail
            go_roundg (2 * j + 3 - (k + 1))
            case rel => exact ⟨f, k + 1, rfl, by simp, rfl, ⟨by have := HK.out; omega, by omega, HK.out.2.2⟩, HH3, HF3⟩
            case measure => omega
        · have hkni : ¬ (k : Int) < (n : Int) := by omega
          have HE : Hid (∀ x, 0 < x → x < n → Wq.par x = j → Wq.ltW (fnW l1 x) (fnW l1 f) = false) := HFS.out.all (Or.inr (by omega))
          by_cases hfj : f = j
          · subst hfj
            have HD2 : Hid (∀ lo, lo ≤ i → Wq.Dn Wq.ltW n lo (fnW l) i → Wq.Heap Wq.ltW n lo (fnW l1)) := fun lo h1 h2 => (HD.out lo h1 h2).1.bottom HE.out
            clear HD HE HFS
            go_wp2
            go_end0
            exact ⟨l1, F1, rfl, HH.out, HD2.out⟩
          · have hfi : ¬ (f : Int) = (j : Int) := by omega
            have HP : Hid (Wq.par f = j ∧ 0 < f ∧ f < n ∧ Wq.ltW (fnW l1 f) (fnW l1 j) = true) := by
              rcases HFS.out.is with e | e
              · exact absurd e hfj
              · exact e
            have hjf : Hid (j < f) := by show _ < _; rw [← HP.out.1]; exact Wq.par_lt HP.out.2.1
            obtain ⟨a, ha⟩ := HH.out.get HJ.out
            obtain ⟨b, hb'⟩ := HH.out.get HK.out.2.2
            have HA : Hid (l1[j]? = some a ∧ l1[f]? = some b) := ⟨ha, hb'⟩
            have SW := swap_any hb mb B g n cap l1 F1 j f a b W2 HH.out.q HH.out.len HJ.out HK.out.2.2 ha hb'
            clear ha hb'
            go_wp2_with fail
            refine SW.mono ?_
            rintro en w3 ⟨rfl, hq3, fr3⟩
            have HH3 : Hid (HW w w3 hb mb B g n cap l ((l1.set j b).set f a) (putF ⟨a.s, a.r, a.c⟩ (f : Int) (putF ⟨b.s, b.r, b.c⟩ (j : Int) F1))) := HH.out.swap (by omega) HA.out.1 HA.out.2 hq3 fr3
            have HD3 : Hid (∀ lo, lo ≤ i → Wq.Dn Wq.ltW n lo (fnW l) i → Wq.Dn Wq.ltW n lo (fnW ((l1.set j b).set f a)) f ∧ lo ≤ f) := fun lo h1 h2 => by
              obtain ⟨q1, q2⟩ := HD.out lo h1 h2
              refine ⟨?_, by have := hjf.out; omega⟩
              rw [fnW_swap HA.out.1 HA.out.2]
              exact q1.sink Wq.ord_W q2 HP.out.2.1 HP.out.2.2.1 HP.out.1 HP.out.2.2.2 HE.out
            have HJ3 : Hid (f < n) := HK.out.2.2
            clear SW hq3 fr3 HH HD
            go_wp2_with fail
            go_roundg (n - f)
            case rel => exact ⟨f, _, _, rfl, rfl, HJ3, HH3, HD3⟩
            case measure => have := hjf.out; have := HJ3.out; omega
      · have hk2i : ¬ (k : Int) ≤ 2 * (j : Int) + 2 := by omega
        have HE : Hid (∀ x, 0 < x → x < n → Wq.par x = j → Wq.ltW (fnW l1 x) (fnW l1 f) = false) := HFS.out.all (Or.inl (by omega))
        by_cases hfj : f = j
        · subst hfj
          have HD2 : Hid (∀ lo, lo ≤ i → Wq.Dn Wq.ltW n lo (fnW l) i → Wq.Heap Wq.ltW n lo (fnW l1)) := fun lo h1 h2 => (HD.out lo h1 h2).1.bottom HE.out
          clear HD HE HFS
          go_wp2
          go_end0
          exact ⟨l1, F1, rfl, HH.out, HD2.out⟩
        · have hfi : ¬ (f : Int) = (j : Int) := by omega
          have HP : Hid (Wq.par f = j ∧ 0 < f ∧ f < n ∧ Wq.ltW (fnW l1 f) (fnW l1 j) = true) := by
            rcases HFS.out.is with e | e
            · exact absurd e hfj
            · exact e
          have hjf : Hid (j < f) := by show _ < _; rw [← HP.out.1]; exact Wq.par_lt HP.out.2.1
          obtain ⟨a, ha⟩ := HH.out.get HJ.out
          obtain ⟨b, hb'⟩ := HH.out.get HK.out.2.2
          have HA : Hid (l1[j]? = some a ∧ l1[f]? = some b) := ⟨ha, hb'⟩
          have SW := swap_any hb mb B g n cap l1 F1 j f a b W2 HH.out.q HH.out.len HJ.out HK.out.2.2 ha hb'
          clear ha hb'
          go_wp2_with fail
          refine SW.mono ?_
          rintro en w3 ⟨rfl, hq3, fr3⟩
          have HH3 : Hid (HW w w3 hb mb B g n cap l ((l1.set j b).set f a) (putF ⟨a.s, a.r, a.c⟩ (f : Int) (putF ⟨b.s, b.r, b.c⟩ (j : Int) F1))) := HH.out.swap (by omega) HA.out.1 HA.out.2 hq3 fr3
          have HD3 : Hid (∀ lo, lo ≤ i → Wq.Dn Wq.ltW n lo (fnW l) i → Wq.Dn Wq.ltW n lo (fnW ((l1.set j b).set f a)) f ∧ lo ≤ f) := fun lo h1 h2 => by
            obtain ⟨q1, q2⟩ := HD.out lo h1 h2
            refine ⟨?_, by have := hjf.out; omega⟩
            rw [fnW_swap HA.out.1 HA.out.2]
            exact q1.sink Wq.ord_W q2 HP.out.2.1 HP.out.2.2.1 HP.out.1 HP.out.2.2.2 HE.out
          have HJ3 : Hid (f < n) := HK.out.2.2
          clear SW hq3 fr3 HH HD
          go_wp2_with fail
          go_roundg (n - f)
          case rel => exact ⟨f, _, _, rfl, rfl, HJ3, HH3, HD3⟩
          case measure => have := hjf.out; have := HJ3.out; omega
end Go.Proofs.Ytpbjmhcpaeillaa
