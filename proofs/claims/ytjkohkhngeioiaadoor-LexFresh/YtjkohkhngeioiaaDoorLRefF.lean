/- The reference's one: words. -/
import Derived.Test.YtjkohkhngeioiaaDoorLRefE
namespace Wlx
theorem wrd_iff (c : UInt8) : wrd c = ((cap c || low c) || decide ((c.toNat : Int) = 36) || dig c) := rfl
theorem low36 : ∀ c : UInt8, (c.toNat : Int) = 36 → c = 36 := by
  intro c h
  have : c.toNat = 36 := by omega
  exact UInt8.toNat_inj.1 this
end Wlx
namespace Go.Proofs.YtjkohkhngeioiaaDoor
open Go.Shelf Go.RowKit
set_option linter.unusedVariables false

set_option maxRecDepth 100000 in
set_option maxHeartbeats 3200000 in
theorem one_word (b : ByteArray) (q : Nat) (c : UInt8) (t : List UInt8) (w : World) (hs : b.size ≤ 1024) (hq : q < b.size) (hd : b.data.toList.drop q = c :: t) (hc : Wlx.wrd c = true) (hdg : Wlx.dig c = false) : Calls Tryd.prog 23 #[.string b, .int .i64 q] w fun e w' => OnePost q (c :: t) e ∧ Below w.heap.size w w' := by
  obtain ⟨_, hbq⟩ := byte_of (x := []) (y := t) (c := c) hd
  have hbq : b[q] = c := hbq
  have eb : (((b[q]).toNat : Nat) : Int) = ((c.toNat : Nat) : Int) := by rw [hbq]
  have D0 := fun w => rdigit_any c w
  rw [hdg] at D0
  have L0 := fun w => rletter_any c w
  have hqi : (q : Int) < (b.size : Int) := by omega
  have hcls := (Wlx.cls c).1 hc
  have h34 : (((c.toNat : Nat) : Int) == 34) = false := by
    refine beq_eq_false_iff_ne.2 (fun e => hcls.1 ?_)
    have : c.toNat = 34 := by omega
    exact UInt8.toNat_inj.1 this
  have hhit : Wlx.hit (c :: t) = 3 := Wlx.hit_of (Or.inr (Or.inr (Or.inl ⟨rfl, hc, hdg⟩))) (Wlx.wrdSz_pos.2 hc)
  obtain ⟨R, hR⟩ : ∃ R, q + Wlx.sz 3 (c :: t) = R := ⟨_, rfl⟩
  have E0 : Hid (R = q + 1 + Wlx.runP Wlx.wrd (b.data.toList.drop (q + 1))) := by
    show _ = _
    rw [← hR, Wlx.sz3, Wlx.runP_pos hc, ← List.drop_drop, hd]
    show q + (Wlx.runP Wlx.wrd t + 1) = q + 1 + Wlx.runP Wlx.wrd t
    omega
  have HF : Hid (∀ (j : Nat) e, R = j → e = .returned (.tuple #[.agg #[.int .i64 3, .string (b.extract q j), .int .i64 q], .int .i64 j, .int .i64 0, .int .i64 0]) → OnePost q (c :: t) e) := by
    intro j e h1 h2
    subst h1
    refine post_plain hcls.2.2.2.1 hhit (by omega) (by omega) rfl (s := b.extract q R) ?_ (by rw [h2, hR]; rfl)
    rw [Lib.extract_data, hd, ← hR, Nat.add_sub_cancel_left]
  cases hl0 : (Wlx.cap c || Wlx.low c) with
  | true =>
    rw [hl0] at L0
    clear hbq hcls hhit hR hl0 hd hc hdg
    go_enter Tryd.func23, Tryd.ntmps23
    go_wp2_with fail
    refine (D0 _).mono ?_
    rintro e w1 ⟨rfl, rfl⟩
    go_wp2_with fail
    refine (L0 _).mono ?_
    rintro e w1 ⟨rfl, rfl⟩
    go_wp2_with fail
    go_loopg [10] (b.size - (q + 1)) (fun gk x wr => ∃ j : Nat, x = .int .i64 j ∧ gk = b.size - j ∧ q + 1 ≤ j ∧ j ≤ b.size ∧ Hid (R = j + Wlx.runP Wlx.wrd (b.data.toList.drop j)) ∧ wr = ((w.alloc (.cells #[.int .i64 0, .string ⟨#[]⟩, .int .i64 0] 31)).alloc (.cells #[.int .i64 3, .string ⟨#[]⟩, .int .i64 q] 31)))
    case atStart => exact ⟨q + 1, by simp, rfl, Nat.le_refl _, hq, E0, rfl⟩
    case round =>
      clear E0
      obtain ⟨j, rfl, hg, hj0, hj, HR, rfl⟩ := hrel
      have k1 : (q : Int) ≤ (j : Int) := by omega
      have k2 : (j : Int) ≤ (b.size : Int) := by omega
      by_cases hlt : j < b.size
      · have hli : (j : Int) < (b.size : Int) := by omega
        have LT := fun w => rletter_any (b[j]) w
        have DG := fun w => rdigit_any (b[j]) w
        have hdj := drop_at b j hlt
        obtain ⟨x, hx⟩ : ∃ x, b[j] = x := ⟨_, rfl⟩
        rw [hx] at LT DG hdj
        have ebj : (((b[j]).toNat : Nat) : Int) = ((x.toNat : Nat) : Int) := by rw [hx]
        clear hx
        cases hw : Wlx.wrd x with
        | true =>
          have E : Hid (R = (j + 1) + Wlx.runP Wlx.wrd (b.data.toList.drop (j + 1))) := by
            show _ = _; rw [HR.out, hdj, Wlx.runP_pos hw]; omega
          cases hlx : (Wlx.cap x || Wlx.low x) with
          | true =>
            rw [hlx] at LT
            clear HR hdj hw hlx DG
            go_wp2_with fail
            refine (LT _).mono ?_
            rintro e w1 ⟨rfl, rfl⟩
            go_wp2_with fail
            go_roundg (b.size - (j + 1))
            case rel => exact ⟨j + 1, by simp, rfl, by omega, hlt, E, by first | trivial | rfl⟩
            case measure => omega
          | false =>
            rw [hlx] at LT
            cases hdx : Wlx.dig x with
            | true =>
              rw [hdx] at DG
              clear HR hdj hw hlx hdx
              go_wp2_with fail
              refine (LT _).mono ?_
              rintro e w1 ⟨rfl, rfl⟩
              go_wp2_with fail
              refine (DG _).mono ?_
              rintro e w1 ⟨rfl, rfl⟩
              go_wp2_with fail
              go_roundg (b.size - (j + 1))
              case rel => exact ⟨j + 1, by simp, rfl, by omega, hlt, E, by first | trivial | rfl⟩
              case measure => omega
            | false =>
              rw [hdx] at DG
              have h36x : (((x.toNat : Nat) : Int) == 36) = true := by
                rw [Wlx.wrd_iff, hlx, hdx] at hw
                simp at hw
                rw [beq_iff_eq]; omega
              clear HR hdj hw hlx hdx
              go_wp2_with fail
              refine (LT _).mono ?_
              rintro e w1 ⟨rfl, rfl⟩
              go_wp2_with fail
              refine (DG _).mono ?_
              rintro e w1 ⟨rfl, rfl⟩
              go_wp2_with fail
              go_roundg (b.size - (j + 1))
              case rel => exact ⟨j + 1, by simp, rfl, by omega, hlt, E, by first | trivial | rfl⟩
              case measure => omega
        | false =>
          have E : Hid (R = j) := by show _ = _; rw [HR.out, hdj, Wlx.runP_neg hw]; rfl
          have hw2 := hw
          rw [Wlx.wrd_iff] at hw2
          simp only [Bool.or_eq_false_iff] at hw2
          have hlx : (Wlx.cap x || Wlx.low x) = false := by rw [hw2.1.1.1, hw2.1.1.2]; rfl
          have h36x : (((x.toNat : Nat) : Int) == 36) = false := by
            have := of_decide_eq_false hw2.1.2
            exact beq_eq_false_iff_ne.2 this
          rw [hlx] at LT
          rw [hw2.2] at DG
          clear HR hdj hw hlx hw2
          go_wp2_with fail
          refine (LT _).mono ?_
          rintro e w1 ⟨rfl, rfl⟩
          go_wp2_with fail
          refine (DG _).mono ?_
          rintro e w1 ⟨rfl, rfl⟩
          go_wp2
          refine bodyPost_ret (v := .tuple #[.agg #[.int .i64 3, .string (b.extract q j), .int .i64 q], .int .i64 j, .int .i64 0, .int .i64 0]) (by simp [results, Tryd.results23, go_sem]) rfl ⟨HF.out _ _ E.out rfl, ?_⟩
          exact ((Below.refl _ w).alloc (Nat.le_refl _) _).alloc (by simp) _
      · have hli : ¬ (j : Int) < (b.size : Int) := by omega
        have E : Hid (R = j) := by show _ = _; rw [HR.out, drop_end b j hlt]; rfl
        clear HR
        go_wp2
        refine bodyPost_ret (v := .tuple #[.agg #[.int .i64 3, .string (b.extract q j), .int .i64 q], .int .i64 j, .int .i64 0, .int .i64 0]) (by simp [results, Tryd.results23, go_sem]) rfl ⟨HF.out _ _ E.out rfl, ?_⟩
        exact ((Below.refl _ w).alloc (Nat.le_refl _) _).alloc (by simp) _
  | false =>
    rw [hl0] at L0
    have h36 : (((c.toNat : Nat) : Int) == 36) = true := by
      rw [Wlx.wrd_iff, hl0, hdg] at hc
      simp at hc
      rw [beq_iff_eq]; omega
    clear hbq hcls hhit hR hl0 hd hc hdg
    go_enter Tryd.func23, Tryd.ntmps23
    go_wp2_with fail
    refine (D0 _).mono ?_
    rintro e w1 ⟨rfl, rfl⟩
    go_wp2_with fail
    refine (L0 _).mono ?_
    rintro e w1 ⟨rfl, rfl⟩
    go_wp2_with fail
    go_loopg [10] (b.size - (q + 1)) (fun gk x wr => ∃ j : Nat, x = .int .i64 j ∧ gk = b.size - j ∧ q + 1 ≤ j ∧ j ≤ b.size ∧ Hid (R = j + Wlx.runP Wlx.wrd (b.data.toList.drop j)) ∧ wr = ((w.alloc (.cells #[.int .i64 0, .string ⟨#[]⟩, .int .i64 0] 31)).alloc (.cells #[.int .i64 3, .string ⟨#[]⟩, .int .i64 q] 31)))
    case atStart => exact ⟨q + 1, by simp, rfl, Nat.le_refl _, hq, E0, rfl⟩
    case round =>
      clear E0
      obtain ⟨j, rfl, hg, hj0, hj, HR, rfl⟩ := hrel
      have k1 : (q : Int) ≤ (j : Int) := by omega
      have k2 : (j : Int) ≤ (b.size : Int) := by omega
      by_cases hlt : j < b.size
      · have hli : (j : Int) < (b.size : Int) := by omega
        have LT := fun w => rletter_any (b[j]) w
        have DG := fun w => rdigit_any (b[j]) w
        have hdj := drop_at b j hlt
        obtain ⟨x, hx⟩ : ∃ x, b[j] = x := ⟨_, rfl⟩
        rw [hx] at LT DG hdj
        have ebj : (((b[j]).toNat : Nat) : Int) = ((x.toNat : Nat) : Int) := by rw [hx]
        clear hx
        cases hw : Wlx.wrd x with
        | true =>
          have E : Hid (R = (j + 1) + Wlx.runP Wlx.wrd (b.data.toList.drop (j + 1))) := by
            show _ = _; rw [HR.out, hdj, Wlx.runP_pos hw]; omega
          cases hlx : (Wlx.cap x || Wlx.low x) with
          | true =>
            rw [hlx] at LT
            clear HR hdj hw hlx DG
            go_wp2_with fail
            refine (LT _).mono ?_
            rintro e w1 ⟨rfl, rfl⟩
            go_wp2_with fail
            go_roundg (b.size - (j + 1))
            case rel => exact ⟨j + 1, by simp, rfl, by omega, hlt, E, by first | trivial | rfl⟩
            case measure => omega
          | false =>
            rw [hlx] at LT
            cases hdx : Wlx.dig x with
            | true =>
              rw [hdx] at DG
              clear HR hdj hw hlx hdx
              go_wp2_with fail
              refine (LT _).mono ?_
              rintro e w1 ⟨rfl, rfl⟩
              go_wp2_with fail
              refine (DG _).mono ?_
              rintro e w1 ⟨rfl, rfl⟩
              go_wp2_with fail
              go_roundg (b.size - (j + 1))
              case rel => exact ⟨j + 1, by simp, rfl, by omega, hlt, E, by first | trivial | rfl⟩
              case measure => omega
            | false =>
              rw [hdx] at DG
              have h36x : (((x.toNat : Nat) : Int) == 36) = true := by
                rw [Wlx.wrd_iff, hlx, hdx] at hw
                simp at hw
                rw [beq_iff_eq]; omega
              clear HR hdj hw hlx hdx
              go_wp2_with fail
              refine (LT _).mono ?_
              rintro e w1 ⟨rfl, rfl⟩
              go_wp2_with fail
              refine (DG _).mono ?_
              rintro e w1 ⟨rfl, rfl⟩
              go_wp2_with fail
              go_roundg (b.size - (j + 1))
              case rel => exact ⟨j + 1, by simp, rfl, by omega, hlt, E, by first | trivial | rfl⟩
              case measure => omega
        | false =>
          have E : Hid (R = j) := by show _ = _; rw [HR.out, hdj, Wlx.runP_neg hw]; rfl
          have hw2 := hw
          rw [Wlx.wrd_iff] at hw2
          simp only [Bool.or_eq_false_iff] at hw2
          have hlx : (Wlx.cap x || Wlx.low x) = false := by rw [hw2.1.1.1, hw2.1.1.2]; rfl
          have h36x : (((x.toNat : Nat) : Int) == 36) = false := by
            have := of_decide_eq_false hw2.1.2
            exact beq_eq_false_iff_ne.2 this
          rw [hlx] at LT
          rw [hw2.2] at DG
          clear HR hdj hw hlx hw2
          go_wp2_with fail
          refine (LT _).mono ?_
          rintro e w1 ⟨rfl, rfl⟩
          go_wp2_with fail
          refine (DG _).mono ?_
          rintro e w1 ⟨rfl, rfl⟩
          go_wp2
          refine bodyPost_ret (v := .tuple #[.agg #[.int .i64 3, .string (b.extract q j), .int .i64 q], .int .i64 j, .int .i64 0, .int .i64 0]) (by simp [results, Tryd.results23, go_sem]) rfl ⟨HF.out _ _ E.out rfl, ?_⟩
          exact ((Below.refl _ w).alloc (Nat.le_refl _) _).alloc (by simp) _
      · have hli : ¬ (j : Int) < (b.size : Int) := by omega
        have E : Hid (R = j) := by show _ = _; rw [HR.out, drop_end b j hlt]; rfl
        clear HR
        go_wp2
        refine bodyPost_ret (v := .tuple #[.agg #[.int .i64 3, .string (b.extract q j), .int .i64 q], .int .i64 j, .int .i64 0, .int .i64 0]) (by simp [results, Tryd.results23, go_sem]) rfl ⟨HF.out _ _ E.out rfl, ?_⟩
        exact ((Below.refl _ w).alloc (Nat.le_refl _) _).alloc (by simp) _
end Go.Proofs.YtjkohkhngeioiaaDoor
