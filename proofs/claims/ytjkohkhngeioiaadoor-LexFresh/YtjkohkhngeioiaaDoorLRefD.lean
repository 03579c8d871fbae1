/- The reference's one: numbers, texts. -/
import Derived.Test.YtjkohkhngeioiaaDoorLRefC
namespace Go.Proofs.YtjkohkhngeioiaaDoor
open Go.Shelf Go.RowKit
set_option linter.unusedVariables false

/-- What the reference's one answers of what stands from place q on. -/
def OnePost (q : Nat) (l : List UInt8) (e : Ending) : Prop :=
  (Wlx.hit l = 6 ∧ ∃ (k0 : Int) (s0 : ByteArray), e = .returned (.tuple #[.agg #[.int .i64 k0, .string s0, .int .i64 q], .int .i64 0, .int .i64 ((if l.head? = some 34 then 41 else 40 : Nat) : Int), .int .i64 q])) ∨
  (¬ Wlx.hit l = 6 ∧ Wlx.runP Wlx.prt (l.take (Wlx.sz (Wlx.hit l) l)) < Wlx.sz (Wlx.hit l) l ∧ ∃ (k0 : Int) (s0 : ByteArray), e = .returned (.tuple #[.agg #[.int .i64 k0, .string s0, .int .i64 q], .int .i64 0, .int .i64 40, .int .i64 ((q + Wlx.runP Wlx.prt (l.take (Wlx.sz (Wlx.hit l) l)) : Nat) : Int)])) ∨
  (¬ Wlx.hit l = 6 ∧ ¬ Wlx.runP Wlx.prt (l.take (Wlx.sz (Wlx.hit l) l)) < Wlx.sz (Wlx.hit l) l ∧ e = .returned (.tuple #[.agg #[.int .i64 (Wlx.hit l), .string ⟨(Wlx.said (Wlx.hit l) (l.take (Wlx.sz (Wlx.hit l) l))).toArray⟩, .int .i64 q], .int .i64 ((q + Wlx.sz (Wlx.hit l) l : Nat) : Int), .int .i64 0, .int .i64 0]))
/-- A token that is no text. -/
theorem post_plain {q k n : Nat} {c : UInt8} {t : List UInt8} {e : Ending} (h32 : ¬ c = 32) (hk : Wlx.hit (c :: t) = k) (h6 : ¬ k = 6) (h2 : ¬ k = 2) (hn : Wlx.sz k (c :: t) = n) {s : ByteArray} (hs : s.data.toList = (c :: t).take n)
    (he : e = .returned (.tuple #[.agg #[.int .i64 k, .string s, .int .i64 q], .int .i64 ((q + n : Nat) : Int), .int .i64 0, .int .i64 0])) : OnePost q (c :: t) e := by
  subst hk hn
  have ha := Wlx.at_of h32 h6
  have hl : ((c :: t).take (Wlx.sz (Wlx.hit (c :: t)) (c :: t))).length = Wlx.sz (Wlx.hit (c :: t)) (c :: t) := by
    rw [List.length_take]; exact Nat.min_eq_left (Wlx.sz_le _ _)
  refine Or.inr (Or.inr ⟨h6, fun hb => h2 (Wlx.bad_text ha (by rw [hl]; exact hb)), ?_⟩)
  rw [he]
  have es : s = ⟨(Wlx.said (Wlx.hit (c :: t)) ((c :: t).take (Wlx.sz (Wlx.hit (c :: t)) (c :: t)))).toArray⟩ := by
    unfold Wlx.said
    rw [if_neg h2, ← hs]
  rw [es]

/-- The token that one makes, as memory has it. -/
def tokO (k : Int) (s : ByteArray) (p : Int) : Obj := .cells #[.int .i64 k, .string s, .int .i64 p] 31

set_option maxRecDepth 100000 in
set_option maxHeartbeats 1600000 in
theorem one_num (b : ByteArray) (q : Nat) (c : UInt8) (t : List UInt8) (w : World) (hs : b.size ≤ 1024) (hq : q < b.size) (hd : b.data.toList.drop q = c :: t) (hc : Wlx.dig c = true) : Calls Tryd.prog 23 #[.string b, .int .i64 q] w fun e w' => OnePost q (c :: t) e ∧ Below w.heap.size w w' := by
  obtain ⟨_, hbq⟩ := byte_of (x := []) (y := t) (c := c) hd
  have hbq : b[q] = c := hbq
  have eb : (((b[q]).toNat : Nat) : Int) = ((c.toNat : Nat) : Int) := by rw [hbq]
  have D0 := fun w => rdigit_any c w
  rw [hc] at D0
  obtain ⟨d, hdd⟩ : ∃ d, Wlx.runP Wlx.dig (c :: t) = d := ⟨_, rfl⟩
  have hdl : d ≤ t.length + 1 := by rw [← hdd]; exact Wlx.runP_le _ _
  have hd1 : 1 ≤ d := by rw [← hdd, Wlx.runP_pos hc]; omega
  have hsz := size_of (by omega : q ≤ b.size) hd
  simp only [List.length_cons] at hsz
  have D1 := fun w => rdigits_any b q w (by omega) hs
  rw [hd, hdd] at D1
  have hqi : (q : Int) < (b.size : Int) := by omega
  have hcls := Wlx.cls c
  have h32 : ¬ c = 32 := (hcls.1 (hcls.2.1 hc)).2.2.2.1
  have hhit : Wlx.hit (c :: t) = 1 := Wlx.hit_of (Or.inl ⟨rfl, hc⟩) (Wlx.numSz_pos.2 hc)
  have hN : Wlx.sz 1 (c :: t) = Wlx.numTl d ((c :: t).drop d) := by
    show Wlx.numSz (c :: t) = _
    unfold Wlx.numSz
    rw [hdd, if_neg (by omega)]
  have hdrop : b.data.toList.drop (q + d) = (c :: t).drop d := by rw [← List.drop_drop, hd]
  have FIN : Hid (∀ n e, Wlx.sz 1 (c :: t) = n → n ≤ t.length + 1 → e = .returned (.tuple #[.agg #[.int .i64 1, .string (b.extract q (q + n)), .int .i64 q], .int .i64 ((q + n : Nat) : Int), .int .i64 0, .int .i64 0]) → OnePost q (c :: t) e) := by
    intro n e h1 h2 h3
    refine post_plain h32 hhit (by omega) (by omega) h1 (s := b.extract q (q + n)) ?_ h3
    rw [Lib.extract_data, hd, Nat.add_sub_cancel_left]
  have HN : Hid (Wlx.sz 1 (c :: t) = Wlx.numTl d ((c :: t).drop d)) := hN
  have HDr : Hid (b.data.toList.drop (q + d) = (c :: t).drop d) := hdrop
  clear hdd hbq hcls h32 hhit hN hdrop hd hc
  by_cases h1 : q + d + 1 < b.size
  · have h1i : (q : Int) + (d : Int) + 1 < (b.size : Int) := by omega
    have hl := congrArg List.length HDr.out
    have e2 : b.data.toList.length = b.size := rfl
    rw [List.length_drop, e2] at hl
    obtain ⟨x0, x1, z, hy⟩ : ∃ x0 x1 z, (c :: t).drop d = x0 :: x1 :: z := by
      match hm : (c :: t).drop d, hl with
      | [], hl => simp only [List.length_nil] at hl; omega
      | [x0], hl => simp only [List.length_cons, List.length_nil] at hl; omega
      | x0 :: x1 :: z, _ => exact ⟨x0, x1, z, rfl⟩
    have hD := HDr.out
    rw [hy] at hD hl
    simp only [List.length_cons] at hl
    obtain ⟨_, hb0⟩ := byte_of (x := []) (y := x1 :: z) (c := x0) hD
    obtain ⟨_, hb1⟩ := byte_of (x := [x0]) (y := z) (c := x1) hD
    have hb0 : b[q + d] = x0 := hb0
    have hb1 : b[q + d + 1] = x1 := hb1
    have eb0 : (((b[q + d]).toNat : Nat) : Int) = ((x0.toNat : Nat) : Int) := by rw [hb0]
    have eb1 : (((b[q + d + 1]).toNat : Nat) : Int) = ((x1.toNat : Nat) : Int) := by rw [hb1]
    have hN := HN.out
    rw [hy, Wlx.numTl_cons] at hN
    have D2 := fun w => rdigit_any x1 w
    have hqd : (q : Int) + (d : Int) < (b.size : Int) := by omega
    clear hb0 hb1 e2 hy HN HDr
    by_cases h46 : x0 = 46
    · subst h46
      have e46 : ((((46 : UInt8).toNat : Nat) : Int)) = 46 := rfl
      rw [e46] at eb0
      cases hdg : Wlx.dig x1 with
      | true =>
        rw [hdg] at D2
        obtain ⟨m, hm⟩ : ∃ m, Wlx.runP Wlx.dig (x1 :: z) = m := ⟨_, rfl⟩
        have hm1 : 1 ≤ m := by rw [← hm, Wlx.runP_pos hdg]; omega
        have hml : m ≤ z.length + 1 := by rw [← hm]; exact Wlx.runP_le _ _
        have hn : Wlx.sz 1 (c :: t) = d + 1 + m := by rw [hN, hm, if_pos ⟨rfl, by omega⟩]
        have D3 := fun w => rdigits_any b (q + d + 1) w (by omega) hs
        have hD1 : b.data.toList.drop (q + d + 1) = x1 :: z := by rw [← List.drop_drop, hD]; rfl
        rw [hD1, hm] at D3
        have HF : Hid (∀ e, e = .returned (.tuple #[.agg #[.int .i64 1, .string (b.extract q (q + (d + 1 + m))), .int .i64 q], .int .i64 ((q + (d + 1 + m) : Nat) : Int), .int .i64 0, .int .i64 0]) → OnePost q (c :: t) e) := fun e he => FIN.out _ e hn (by omega) he
        obtain ⟨n, hnn⟩ : ∃ n, d + 1 + m = n := ⟨_, rfl⟩
        have hqn : q + d + 1 + m = q + n := by omega
        rw [hqn] at D3
        rw [hnn] at HF
        have k1 : (q : Int) ≤ (q : Int) + (n : Int) := by omega
        have k2 : (q : Int) + (n : Int) ≤ (b.size : Int) := by omega
        have hc1 : ((q + d + 1 : Nat) : Int) = (q : Int) + (d : Int) + 1 := by omega
        rw [hc1] at D3
        clear FIN hN hn hD hD1 hdg hm hnn hqn hc1 hl
        go_enter Tryd.func23, Tryd.ntmps23
        go_wp2_with fail
        refine (D0 _).mono ?_
        rintro e w1 ⟨rfl, rfl⟩
        go_wp2_with fail
        refine (D1 _).mono ?_
        rintro e w1 ⟨rfl, rfl⟩
        go_wp2_with fail
        refine (D2 _).mono ?_
        rintro e w1 ⟨rfl, rfl⟩
        go_wp2_with fail
        refine (D3 _).mono ?_
        rintro e w1 ⟨rfl, rfl⟩
        go_wp2
        refine bodyPost_ret (v := .tuple #[.agg #[.int .i64 1, .string (b.extract q (q + n)), .int .i64 q], .int .i64 ((q : Int) + (n : Int)), .int .i64 0, .int .i64 0]) (by simp [results, Tryd.results23, go_sem]) rfl ⟨HF.out _ (by simp), ?_⟩
        exact ((Below.refl _ w).alloc (Nat.le_refl _) _).alloc (by simp) _
      | false =>
        rw [hdg] at D2
        have hn : Wlx.sz 1 (c :: t) = d := by rw [hN, Wlx.runP_neg hdg, if_neg (by omega)]
        have HF : Hid (∀ e, e = .returned (.tuple #[.agg #[.int .i64 1, .string (b.extract q (q + d)), .int .i64 q], .int .i64 ((q + d : Nat) : Int), .int .i64 0, .int .i64 0]) → OnePost q (c :: t) e) := fun e he => FIN.out d e hn hdl he
        have k1 : (q : Int) ≤ (q : Int) + (d : Int) := by omega
        have k2 : (q : Int) + (d : Int) ≤ (b.size : Int) := by omega
        clear FIN hN hn hD hdg hl
        go_enter Tryd.func23, Tryd.ntmps23
        go_wp2_with fail
        refine (D0 _).mono ?_
        rintro e w1 ⟨rfl, rfl⟩
        go_wp2_with fail
        refine (D1 _).mono ?_
        rintro e w1 ⟨rfl, rfl⟩
        go_wp2_with fail
        refine (D2 _).mono ?_
        rintro e w1 ⟨rfl, rfl⟩
        go_wp2
        refine bodyPost_ret (v := .tuple #[.agg #[.int .i64 1, .string (b.extract q (q + d)), .int .i64 q], .int .i64 ((q : Int) + (d : Int)), .int .i64 0, .int .i64 0]) (by simp [results, Tryd.results23, go_sem]) rfl ⟨HF.out _ (by simp), ?_⟩
        exact ((Below.refl _ w).alloc (Nat.le_refl _) _).alloc (by simp) _
    · have e46 : (((x0.toNat : Nat) : Int) == 46) = false := by
        refine beq_eq_false_iff_ne.2 (fun e => h46 ?_)
        have : x0.toNat = 46 := by omega
        exact UInt8.toNat_inj.1 this
      have hn : Wlx.sz 1 (c :: t) = d := by rw [hN, if_neg (fun h => h46 h.1)]
      have HF : Hid (∀ e, e = .returned (.tuple #[.agg #[.int .i64 1, .string (b.extract q (q + d)), .int .i64 q], .int .i64 ((q + d : Nat) : Int), .int .i64 0, .int .i64 0]) → OnePost q (c :: t) e) := fun e he => FIN.out d e hn hdl he
      have k1 : (q : Int) ≤ (q : Int) + (d : Int) := by omega
      have k2 : (q : Int) + (d : Int) ≤ (b.size : Int) := by omega
      clear FIN hN hn hD h46 D2 hl
      go_enter Tryd.func23, Tryd.ntmps23
      go_wp2_with fail
      refine (D0 _).mono ?_
      rintro e w1 ⟨rfl, rfl⟩
      go_wp2_with fail
      refine (D1 _).mono ?_
      rintro e w1 ⟨rfl, rfl⟩
      go_wp2
      refine bodyPost_ret (v := .tuple #[.agg #[.int .i64 1, .string (b.extract q (q + d)), .int .i64 q], .int .i64 ((q : Int) + (d : Int)), .int .i64 0, .int .i64 0]) (by simp [results, Tryd.results23, go_sem]) rfl ⟨HF.out _ (by simp), ?_⟩
      exact ((Below.refl _ w).alloc (Nat.le_refl _) _).alloc (by simp) _
  · have h1i : ¬ (q : Int) + (d : Int) + 1 < (b.size : Int) := by omega
    have hn : Wlx.sz 1 (c :: t) = d := by
      rw [HN.out]
      have hl := congrArg List.length HDr.out
      have e2 : b.data.toList.length = b.size := rfl
      rw [List.length_drop, e2] at hl
      cases hy : (c :: t).drop d with
      | nil => rfl
      | cons x y =>
        rw [hy] at hl
        simp only [List.length_cons] at hl
        have : y = [] := List.eq_nil_of_length_eq_zero (by omega)
        subst this
        rw [Wlx.numTl_cons, if_neg (by simp [Wlx.runP])]
    have HF : Hid (∀ e, e = .returned (.tuple #[.agg #[.int .i64 1, .string (b.extract q (q + d)), .int .i64 q], .int .i64 ((q + d : Nat) : Int), .int .i64 0, .int .i64 0]) → OnePost q (c :: t) e) := fun e he => FIN.out d e hn hdl he
    have k1 : (q : Int) ≤ (q : Int) + (d : Int) := by omega
    have k2 : (q : Int) + (d : Int) ≤ (b.size : Int) := by omega
    clear FIN HN HDr hn
    go_enter Tryd.func23, Tryd.ntmps23
    go_wp2_with fail
    refine (D0 _).mono ?_
    rintro e w1 ⟨rfl, rfl⟩
    go_wp2_with fail
    refine (D1 _).mono ?_
    rintro e w1 ⟨rfl, rfl⟩
    go_wp2
    refine bodyPost_ret (v := .tuple #[.agg #[.int .i64 1, .string (b.extract q (q + d)), .int .i64 q], .int .i64 ((q : Int) + (d : Int)), .int .i64 0, .int .i64 0]) (by simp [results, Tryd.results23, go_sem]) rfl ⟨HF.out _ (by simp), ?_⟩
    exact ((Below.refl _ w).alloc (Nat.le_refl _) _).alloc (by simp) _
end Go.Proofs.YtjkohkhngeioiaaDoor
