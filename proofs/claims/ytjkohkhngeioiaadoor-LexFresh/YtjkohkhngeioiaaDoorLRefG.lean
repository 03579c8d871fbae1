/- The reference's one: faults. -/
import Derived.Test.YtjkohkhngeioiaaDoorLRefF
namespace Wlx
theorem nameSz_pos {l : List UInt8} : ∀ (ns : List (List UInt8)), 0 < nameSz l ns → ∃ n ∈ ns, begins n l = true ∧ nameSz l ns = n.length
  | [], h => by simp [nameSz] at h
  | n :: r, h => by
    unfold nameSz at h ⊢
    cases hb : begins n l with
    | true => rw [if_pos rfl]; exact ⟨n, by simp, hb, rfl⟩
    | false =>
      rw [hb, if_neg (by decide)] at h
      obtain ⟨x, hx, h1, h2⟩ := nameSz_pos r h
      rw [if_neg (by decide)]
      exact ⟨x, by simp [hx], h1, h2⟩
theorem nameSz_cons (l x : List UInt8) (r : List (List UInt8)) : nameSz l (x :: r) = if begins x l then x.length else nameSz l r := rfl
theorem nameSz_snoc {l : List UInt8} (n : List UInt8) : ∀ (ns : List (List UInt8)), (∀ x ∈ ns, 0 < x.length) → nameSz l (ns ++ [n]) = if 0 < nameSz l ns then nameSz l ns else if begins n l then n.length else 0
  | [], _ => by simp [nameSz]
  | x :: r, h => by
    have ih := nameSz_snoc (l := l) n r (fun y hy => h y (by simp [hy]))
    have hx := h x (by simp)
    rw [List.cons_append, nameSz_cons, nameSz_cons]
    cases hb : begins x l with
    | true => simp only [if_true, hx]
    | false => simp only [Bool.false_eq_true, if_false, ih]
/-- Of two beginnings of one text the one begins with the other. -/
theorem begins_two {a b l : List UInt8} (h1 : begins a l = true) (h2 : begins b l = true) : begins a b = true ∨ begins b a = true := by
  obtain ⟨s, hs⟩ := (begins_iff a l).1 h1
  obtain ⟨t, ht⟩ := (begins_iff b l).1 h2
  rw [hs] at ht
  by_cases hl : a.length ≤ b.length
  · left
    have e1 := congrArg (List.take a.length) ht
    rw [List.take_left, List.take_append_of_le_length hl] at e1
    exact (begins_iff a b).2 ⟨b.drop a.length, by conv => lhs; rw [← List.take_append_drop a.length b, ← e1]⟩
  · right
    have e1 := congrArg (List.take b.length) ht
    rw [List.take_append_of_le_length (by omega), List.take_left] at e1
    exact (begins_iff b a).2 ⟨a.drop b.length, by conv => lhs; rw [← List.take_append_drop b.length a, e1]⟩
theorem faults_apart : ∀ i : Fin 8, ∀ n ∈ faults.take i, begins n (faults[i]'(i.2)) = false ∧ begins (faults[i]'(i.2)) n = false := by decide
theorem faults_long : ∀ x ∈ faults, 0 < x.length := by decide
theorem faults_short : ∀ x ∈ faults, x.length ≤ 8 := by decide
theorem fault_once {l : List UInt8} {i : Nat} (hi : i < 8) (h : 0 < nameSz l (faults.take i)) : begins (faults[i]'hi) l = false := by
  obtain ⟨n, hn, hb, _⟩ := nameSz_pos _ h
  cases hc : begins (faults[i]'hi) l with
  | false => rfl
  | true =>
    have g : begins n (faults[i]'hi) = false ∧ begins (faults[i]'hi) n = false := faults_apart ⟨i, hi⟩ n hn
    rcases begins_two hb hc with h1 | h1
    · rw [g.1] at h1; cases h1
    · rw [g.2] at h1; cases h1
theorem fault_step {l : List UInt8} {i : Nat} (hi : i < 8) : nameSz l (faults.take (i + 1)) = if 0 < nameSz l (faults.take i) then nameSz l (faults.take i) else if begins (faults[i]'hi) l then (faults[i]'hi).length else 0 := by
  have e : faults.take (i + 1) = faults.take i ++ [faults[i]'hi] := List.take_succ_eq_append_getElem hi
  rw [e]
  exact nameSz_snoc _ _ (fun x hx => faults_long x (List.mem_of_mem_take hx))
end Wlx
namespace Go.Proofs.YtjkohkhngeioiaaDoor
open Go.Shelf Go.RowKit
set_option linter.unusedVariables false

theorem hit_fault {t : List UInt8} (h : Wlx.nameSz (35 :: t) Wlx.faults = 0) : Wlx.hit (35 :: t) = 6 := by
  refine Wlx.hit_none fun j a b => ?_
  have : j = 1 ∨ j = 2 ∨ j = 3 ∨ j = 4 ∨ j = 5 := by omega
  rcases this with rfl | rfl | rfl | rfl | rfl
  · have : ¬ 0 < Wlx.numSz (35 :: t) := fun h => absurd (Wlx.numSz_pos.1 h) (by decide)
    rw [Wlx.sz1]; omega
  · have : ¬ 0 < Wlx.txtSz (35 :: t) := fun h => absurd (Wlx.txtSz_pos h) (by decide)
    rw [Wlx.sz2]; omega
  · have : ¬ 0 < Wlx.runP Wlx.wrd (35 :: t) := fun h => absurd (Wlx.wrdSz_pos.1 h) (by decide)
    rw [Wlx.sz3]; omega
  · exact h
  · have : ¬ 0 < Wlx.nameSz (35 :: t) Wlx.marks := fun h => absurd (Wlx.markSz_pos h) (by decide)
    rw [Wlx.sz5]; omega

theorem dig35 : Wlx.dig 35 = false := rfl
theorem let35 : (Wlx.cap 35 || Wlx.low 35) = false := rfl
/-- What one has in memory while it looks for a fault. -/
abbrev FaS (k4 : Nat) (k q : Int) (W : World) : Prop :=
  AtL W k4 [.int .i64 0, .string ⟨#[]⟩, .int .i64 0] ∧ AtL W (k4 + 1) [.int .i64 k, .string ⟨#[]⟩, .int .i64 q]

set_option maxRecDepth 100000 in
set_option maxHeartbeats 3200000 in
theorem one_fault (b : ByteArray) (q : Nat) (t : List UInt8) (w : World) (hs : b.size ≤ 1024) (hq : q < b.size) (hd : b.data.toList.drop q = 35 :: t) : Calls Tryd.prog 23 #[.string b, .int .i64 q] w fun e w' => OnePost q (35 :: t) e ∧ Below w.heap.size w w' := by
  obtain ⟨_, hbq⟩ := byte_of (x := []) (y := t) (c := 35) hd
  have hbq : b[q] = 35 := hbq
  have eb : (((b[q]).toNat : Nat) : Int) = 35 := by rw [hbq]; rfl
  have e35 : ((((35 : UInt8).toNat : Nat) : Int)) = 35 := rfl
  have D0 := fun w => rdigit_any 35 w
  have L0 := fun w => rletter_any 35 w
  rw [e35, dig35] at D0
  rw [e35, let35] at L0
  have hqi : (q : Int) < (b.size : Int) := by omega
  have BG := fun (n : List UInt8) (h : n.length ≤ 8) w => rbegins_any b ⟨n.toArray⟩ q w (by omega) hs (by show n.length ≤ 100; omega)
  rw [hd] at BG
  have BG : Hid (∀ (n : List UInt8), n.length ≤ 8 → ∀ w, Calls Tryd.prog 39 #[.string b, .int .i64 q, .string ⟨n.toArray⟩] w fun e w' => e = .returned (.bool (Wlx.begins n (35 :: t))) ∧ w = w') := BG
  have hsz := size_of (by omega : q ≤ b.size) hd
  have hle := Wlx.nameSz_le (35 :: t) Wlx.faults
  have HF1 : Hid (∀ (m : Nat) e, 0 < m → Wlx.nameSz (35 :: t) Wlx.faults = m → e = .returned (.tuple #[.agg #[.int .i64 4, .string (b.extract q (q + m)), .int .i64 q], .int .i64 ((q + m : Nat) : Int), .int .i64 0, .int .i64 0]) → OnePost q (35 :: t) e) := by
    intro m e h0 h1 h2
    have hh : Wlx.hit (35 :: t) = 4 := Wlx.hit_of (Or.inr (Or.inr (Or.inr (Or.inl ⟨rfl, rfl⟩)))) (by rw [Wlx.sz4, h1]; exact h0)
    refine post_plain (by decide) hh (by omega) (by omega) h1 (s := b.extract q (q + m)) ?_ h2
    rw [Lib.extract_data, hd, Nat.add_sub_cancel_left]
  have HF2 : Hid (Wlx.nameSz (35 :: t) Wlx.faults = 0 → OnePost q (35 :: t) (.returned (.tuple #[.agg #[.int .i64 0, .string ⟨#[]⟩, .int .i64 q], .int .i64 0, .int .i64 40, .int .i64 q]))) := fun h => Or.inl ⟨hit_fault h, 0, ⟨#[]⟩, rfl⟩
  clear hbq hd e35
  obtain ⟨l, hl⟩ : ∃ l, 35 :: t = l := ⟨_, rfl⟩
  rw [hl] at BG HF1 HF2 hsz hle ⊢
  clear hl
  go_enter Tryd.func23, Tryd.ntmps23
  go_wp2_with fail
  refine (D0 _).mono ?_
  rintro e w1 ⟨rfl, rfl⟩
  go_wp2_with fail
  refine (L0 _).mono ?_
  rintro e w1 ⟨rfl, rfl⟩
  go_wp2_with fail
  refine (rfaults_any _).mono ?_
  rintro e w1 ⟨rfl, hw1⟩
  have p4 : AtL w1 w.heap.size [.int .i64 0, .string ⟨#[]⟩, .int .i64 0] := by rw [hw1]; exact ((AtL.new0 w 31 [.int .i64 0, .string ⟨#[]⟩, .int .i64 0]).alloc _).alloc _
  have p9 : AtL w1 (w.heap.size + 1) [.int .i64 0, .string ⟨#[]⟩, .int .i64 q] := by rw [hw1]; exact (AtL.new1 w _ 31 [.int .i64 0, .string ⟨#[]⟩, .int .i64 q]).alloc _
  have pS : AtL w1 (w.heap.size + 2) (strs Wlx.faults) := by rw [hw1]; exact AtL.new _ 9 (by simp) (strs Wlx.faults)
  have hB : Below w.heap.size w w1 := by rw [hw1]; exact (((Below.refl _ w).alloc (Nat.le_refl _) _).alloc (by simp) _).alloc (by simp; omega) _
  have hsl : (((w.alloc (.cells #[.int .i64 0, .string ⟨#[]⟩, .int .i64 0] 31)).alloc (.cells #[.int .i64 0, .string ⟨#[]⟩, .int .i64 q] 31)).heap.size) = w.heap.size + 2 := by simp
  have HFa : FaS w.heap.size 0 q w1 := ⟨p4, p9⟩
  have HSt : Hid (AtL w1 (w.heap.size + 2) (strs Wlx.faults)) := pS
  clear p4 p9 pS hw1 D0 L0 hsl
  go_wp2_with fail
  go_loopg [10, 16] 8 (fun gk y x wr => ∃ (i m en : Nat) (kk : Int), x = .int .i64 i ∧ y = .int .i64 en ∧ gk = 8 - i ∧ i ≤ 8 ∧ Hid (m = Wlx.nameSz l (Wlx.faults.take i)) ∧ (m = 0 → en = q + 1 ∧ kk = 0) ∧ (0 < m → en = q + m ∧ kk = 4) ∧ Hid (FaS w.heap.size kk q wr) ∧ Hid (AtL wr (w.heap.size + 2) (strs Wlx.faults)) ∧ Below w.heap.size w wr)
  case atStart => exact ⟨0, 0, q + 1, 0, rfl, by simp, rfl, by omega, (rfl : 0 = Wlx.nameSz l (Wlx.faults.take 0)), fun _ => ⟨rfl, rfl⟩, fun h => by omega, HFa, HSt, hB⟩
  case round =>
    clear HFa HSt hB
    obtain ⟨i, m, en, kk, rfl, rfl, hg, hi8, HM, hm0, hm1, HFa, HSt, hB⟩ := hrel
    obtain ⟨p4, p9⟩ := HFa.out
    have ksz := hB.size
    by_cases hlt : i < 8
    · have hli : (i : Int) < 8 := by omega
      obtain ⟨x, hx⟩ : ∃ x, Wlx.faults[i]'hlt = x := ⟨_, rfl⟩
      have hxm : x ∈ Wlx.faults := by rw [← hx]; exact List.getElem_mem hlt
      have hxs := Wlx.faults_short x hxm
      have hxl := Wlx.faults_long x hxm
      have ci : wr.cell? ⟨w.heap.size + 2, i, none⟩ = some (.string ⟨x.toArray⟩) := HSt.out.2.1 i _ (by unfold strs; rw [List.getElem?_map, List.getElem?_eq_getElem hlt, hx]; rfl)
      have B := BG.out x hxs wr
      have hst := Wlx.fault_step (l := l) hlt
      have hon := Wlx.fault_once (l := l) hlt
      rw [hx] at hst hon
      rw [← HM.out] at hst hon
      obtain ⟨X, hX⟩ : ∃ X : ByteArray, (⟨x.toArray⟩ : ByteArray) = X := ⟨_, rfl⟩
      have hXs : X.size = x.length := by rw [← hX]; rfl
      rw [hX] at ci B
      obtain ⟨c0, c1, c2, c3, c4, c5⟩ := p9.three
      cases hbx : Wlx.begins x l with
      | true =>
        have hmz : m = 0 := by
          by_cases h : 0 < m
          · have := hon h; rw [hbx] at this; cases this
          · omega
        obtain ⟨rfl, rfl⟩ := hm0 hmz
        rw [hmz, if_neg (by omega), hbx, if_pos rfl] at hst
        rw [hbx] at B
        have HM2 : Hid (X.size = Wlx.nameSz l (Wlx.faults.take (i + 1))) := by show _ = _; rw [hst, hXs]
        have HFa2 : Hid (FaS w.heap.size 4 q (wr.setCell ⟨w.heap.size + 1, 0, none⟩ (.int .i64 4))) := ⟨p4.far (by omega) _ _, p9.set 0 (.int .i64 4)⟩
        have HSt2 : Hid (AtL (wr.setCell ⟨w.heap.size + 1, 0, none⟩ (.int .i64 4)) (w.heap.size + 2) (strs Wlx.faults)) := HSt.out.far (by omega) _ _
        have hB2 : Below w.heap.size w (wr.setCell ⟨w.heap.size + 1, 0, none⟩ (.int .i64 4)) := hB.setCell (p := ⟨w.heap.size + 1, 0, none⟩) (by show w.heap.size ≤ w.heap.size + 1; omega) _
        have ci2 : (wr.setCell ⟨w.heap.size + 1, 0, none⟩ (.int .i64 4)).cell? ⟨w.heap.size + 2, i, none⟩ = some (.string X) := by rw [World.cell?_setCell_far _ _ _ _ (by simp)]; exact ci
        have hXb : X.size ≤ 8 := by omega
        have hX0 : 0 < X.size := by omega
        clear hst hon hbx HM hm0 hm1 hX hXs hxm hxs hxl hx HFa HSt p4 p9 hmz BG hB
        go_wp2_with fail
        refine B.mono ?_
        rintro e w2 ⟨rfl, rfl⟩
        go_wp2_with fail
        go_roundg (8 - (i + 1))
        case rel => exact ⟨i + 1, X.size, q + X.size, 4, by simp, by simp, rfl, by omega, HM2, fun h => by omega, fun _ => ⟨rfl, rfl⟩, HFa2, HSt2, hB2⟩
        case measure => omega
      | false =>
        have HM2 : Hid (m = Wlx.nameSz l (Wlx.faults.take (i + 1))) := by
          show _ = _
          rw [hst, hbx]
          by_cases h : 0 < m
          · rw [if_pos h]
          · rw [if_neg h, if_neg (by decide)]; omega
        rw [hbx] at B
        clear hst hon hbx HM hX hXs hxm hxs hxl hx p4 p9 BG
        go_wp2_with fail
        refine B.mono ?_
        rintro e w2 ⟨rfl, rfl⟩
        go_wp2_with fail
        go_roundg (8 - (i + 1))
        case rel => exact ⟨i + 1, m, en, kk, by simp, rfl, rfl, by omega, HM2, hm0, hm1, HFa, HSt, hB⟩
        case measure => omega
    · obtain rfl : i = 8 := by omega
      have HM2 : Hid (Wlx.nameSz l Wlx.faults = m) := by show _ = _; rw [HM.out]; rfl
      have hml : m ≤ l.length := by rw [← HM2.out]; exact hle
      obtain ⟨a0, a1, a2, a3, a4, a5⟩ := p4.three
      obtain ⟨c0, c1, c2, c3, c4, c5⟩ := p9.three
      generalize hk4 : w.heap.size = k4 at *
      have hn1 : ¬ (k4 = k4 + 1) := by omega
      by_cases hm : 0 < m
      · obtain ⟨rfl, rfl⟩ := hm1 hm
        have HP : Hid (∀ e, e = .returned (.tuple #[.agg #[.int .i64 4, .string (b.extract q (q + m)), .int .i64 q], .int .i64 ((q + m : Nat) : Int), .int .i64 0, .int .i64 0]) → OnePost q l e) := fun e he => HF1.out m e hm HM2.out he
        have k1 : (q : Int) ≤ (q : Int) + (m : Int) := by omega
        have k2 : (q : Int) + (m : Int) ≤ (b.size : Int) := by omega
        clear hm0 hm1 HM HM2 HF1 HF2 HFa HSt BG p4 p9
        go_wp2
        refine bodyPost_ret (v := .tuple #[.agg #[.int .i64 4, .string (b.extract q (q + m)), .int .i64 q], .int .i64 ((q : Int) + (m : Int)), .int .i64 0, .int .i64 0]) (by simp [results, Tryd.results23, go_sem, *]) rfl ⟨HP.out _ (by simp), ?_⟩
        rw [hk4]
        exact put3_below (k := k4) (hB.setCell (p := ⟨k4 + 1, 1, none⟩) (by show k4 ≤ k4 + 1; omega) _) (Nat.le_refl _) _ _ _
      · have hmz : m = 0 := by omega
        obtain ⟨rfl, rfl⟩ := hm0 hmz
        have HP : Hid (OnePost q l (.returned (.tuple #[.agg #[.int .i64 0, .string ⟨#[]⟩, .int .i64 q], .int .i64 0, .int .i64 40, .int .i64 q]))) := HF2.out (by rw [HM2.out]; exact hmz)
        clear hm0 hm1 HM HM2 HF1 HF2 HFa HSt BG p4 p9 hm hmz
        go_wp2
        refine bodyPost_ret (v := .tuple #[.agg #[.int .i64 0, .string ⟨#[]⟩, .int .i64 q], .int .i64 0, .int .i64 40, .int .i64 q]) (by simp [results, Tryd.results23, go_sem, *]) rfl ⟨HP.out, ?_⟩
        rw [hk4]
        exact put3_below (k := k4) hB (Nat.le_refl _) _ _ _
end Go.Proofs.YtjkohkhngeioiaaDoor
