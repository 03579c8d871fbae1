/- QueueRises: Cells tells what waits, in order; First is the first of them. -/

import Derived.Test.YtpbjmhcpaeillaaQSeen
import Derived.Test.YtpbjmhcpaeillaaQLawFre
namespace Go.Proofs.Ytpbjmhcpaeillaa
open Go.RowKit
set_option linter.unusedVariables false

set_option maxRecDepth 100000 in
set_option maxHeartbeats 32000000 in
theorem law_rises (T : List Ac) (av : Option Addr) (tn cap : Nat) (C : List Wpl.Ar) (bv : Option Addr) (m bcap : Nat) (w : World) (h : RdS w av T) (hn : T.length = tn) (hB : True → tn ≤ 1000000000000000) (hA : True → ∀ a ∈ T, a.A.length ≤ 1000000000000000) (hr : RdQ w bv C) (hm : C.length = m) (hz : bv = none → m = 0 ∧ bcap = 0) (hM : True → m ≤ 1000000000000000) :
    Calls Try.prog 4 #[.slice av tn cap, .slice bv m bcap] w fun en w' => en = .returned (.bool true) ∧ Below w.heap.size w w' := by
  have HAR0 : Hid (RdQ w bv C ∧ C.length = m ∧ (bv = none → m = 0 ∧ bcap = 0)) := ⟨hr, hm, hz⟩
  clear hr hm hz
  have AB := able_any w
  have HS : Hid (RdS w av T ∧ T.length = tn) := ⟨h, hn⟩
  clear h hn
  go_enter Try.func4, Try.ntmps4
  go_wp2_with fail
  refine AB.mono ?_
  rintro en w1 ⟨rfl, hb1⟩
  have HB1 : Hid (Below w.heap.size w w1) := hb1
  have MU := much_any T av tn cap w1 (HS.out.1.below hb1) HS.out.2 hB hA
  clear AB hb1 hB hA
  go_wp2_with fail
  refine MU.mono ?_
  rintro en w1' ⟨⟨q, rfl, hq⟩, hw⟩
  obtain rfl : w1 = w1' := hw.symm
  have HT : Hid (q = false → tot T ≤ 400) := hq
  clear MU hq
  cases q with
  | true =>
    go_wp2
    go_ret
    exact ⟨rfl, HB1.out⟩
  | false =>
    by_cases hm4 : 400 < m
    · have hmi : (m : Int) > 400 := by omega
      go_wp2
      go_ret
      exact ⟨rfl, HB1.out⟩
    have hmi : ¬ (m : Int) > 400 := by omega
    have HAR : Hid (RdQ w bv C ∧ C.length = m ∧ (bv = none → m = 0 ∧ bcap = 0) ∧ m ≤ 400) := ⟨HAR0.out.1, HAR0.out.2.1, HAR0.out.2.2, by omega⟩
    clear HAR0 hm4
    have HT4 : Hid (tot T ≤ 400) := HT.out rfl
    clear HT
    have MA := made_any T av tn cap w1 (HS.out.1.below HB1.out) HS.out.2 HT4.out
    have HN : Hid ((plQ T).1.length ≤ 400 ∧ (plQ T).2.length ≤ 400) := by
      have h1 := plQ_len T
      have h2 := HT4.out
      exact ⟨by omega, by omega⟩
    clear HT4
    go_wp2_with fail
    refine MA.mono ?_
    rintro en w3 ⟨qb, rfl, h2⟩
    have HQ3 : Hid (Qst w1 w3 qb (plQ T).1 (plQ T).2) := h2
    clear MA h2 hmi
    go_upto_region 6 with fail
    have ba := ball (Below.refl _ w3) (.cells #[] 39)
    have oE := own_emp w3 39 5
    have hs0 : w3.heap.size ≤ (w3.alloc (.cells #[] 39)).heap.size := ba.size
    have HBA : Hid (Below w3.heap.size w3 (w3.alloc (.cells #[] 39))) := ba
    have HRC : Hid (RdQ (w3.alloc (.cells #[] 39)) bv C) := ((HAR.out.1.below HB1.out).below HQ3.out.bl).below ba
    clear ba
    go_wp2_with (at_builtin; refine wpList_copA rfl (.tmp 28) (.tmp 29) rfl (w3.alloc (.cells #[] 39)) w3.heap.size hs0 (.slice (some ⟨w3.heap.size, 0, none⟩) 0 0) (by rfl) oE bv m bcap C HAR.out.2.1 (by rfl) HRC.out HAR.out.2.2.1 (by have := HAR.out.2.2.2; omega) ?_; intro v4 w4 o4 hg4)
    obtain ⟨cv4, cc4, e4, hrc4, hzc4, hspc4, _⟩ := RdQ.of_ownV o4 HAR.out.2.1
    subst e4
    have HBK4 : Hid (Below w3.heap.size w3 w4) := HBA.out.grown hg4 HBA.out.size (fun k e => by
      have : some w3.heap.size = some k := e
      simp at this
      omega)
    clear o4 hg4 oE hs0 HBA HRC
    have HQ4 : Hid (Qst w1 w4 qb (plQ T).1 (plQ T).2) := HQ3.out.below HBK4.out
    have SE := st_see HQ4.out cv4 m cc4 C (fun _ => by have := HN.out; omega) hrc4 HAR.out.2.1 hzc4 hspc4 (fun _ => by have := HAR.out.2.2.2; omega)
    clear hrc4 hzc4 hspc4 HQ3 HBK4
    go_wp2_with fail
    refine SE.mono ?_
    rintro en w5 ⟨rfl, hq5⟩
    have HQ5 : Hid (Qst w1 w5 qb ((plQ T).1.map (reW C)) C) := hq5
    clear SE hq5 HQ4
    obtain ⟨L, hL⟩ : ∃ L, (plQ T).1.map (reW C) = L := ⟨_, rfl⟩
    have HRE : Hid (∀ a ∈ L, reW C a = a) := fun a ha => by
      rw [← hL] at ha
      obtain ⟨b, _, rfl⟩ := List.mem_map.1 ha
      rfl
    have HL4 : Hid (L.length ≤ 400) := by have := HN.out; show _ ≤ _; rw [← hL, List.length_map]; omega
    rw [hL] at HQ5
    clear hL
    obtain ⟨ls, hls⟩ : ∃ ls, Wq.srt L = ls := ⟨_, rfl⟩
    obtain ⟨D, hD⟩ : ∃ D, ls.map clW = D := ⟨_, rfl⟩
    obtain ⟨n, hnD⟩ : ∃ n, D.length = n := ⟨_, rfl⟩
    have HD : Hid (ls.map clW = D ∧ D.length = n) := ⟨hD, hnD⟩
    have HL : Hid (ls.length = n ∧ n ≤ 400) := ⟨by rw [← hnD, ← hD, List.length_map], by
      have := HL4.out
      rw [← hnD, ← hD, List.length_map, ← hls, Wq.srt_len]
      omega⟩
    have HLL : Hid (L.length ≤ 400 ∧ L.length = n) := ⟨HL4.out, by rw [← hnD, ← hD, List.length_map, ← hls, Wq.srt_len]⟩
    have HPW : Hid (ls.Pairwise (fun a b => Wq.ltW b a = false) ∧ (ls.map clW).Nodup ∧ ls.Perm L) := ⟨by rw [← hls]; exact Wq.srt_pw _, by
      rw [← hls]
      exact (((Wq.srt_perm _).map clW).nodup_iff).2 HQ5.out.nd, by rw [← hls]; exact Wq.srt_perm _⟩
    have HSR : Hid (Wq.srt L = ls) := hls
    have C1 := st_cells HQ5.out (fun _ => by have := HLL.out; omega)
    rw [hls, hD] at C1
    clear hls hD hnD HL4
    go_wp2_with fail
    refine C1.mono ?_
    rintro en w6 ⟨⟨v1, rfl, ho1⟩, hb6⟩
    rw [HD.out.2] at ho1
    obtain ⟨a1, c1, e1, r1, z1⟩ := RdX.of_own ho1 HD.out.2
    subst e1
    have HQ5b : Hid (Qst w1 w6 qb L C) := HQ5.out.below hb6
    have HX5 : Hid (RdX w6 a1 D) := r1
    have F1 := st_first HQ5b.out
    rw [HSR.out] at F1
    clear C1 ho1 hb6 r1 z1 HQ5
    obtain ⟨y, hy⟩ : ∃ y, hdW ls = y := ⟨_, rfl⟩
    have HY : Hid (hdW ls = y ∧ neQ ls = decide (0 < n)) := ⟨hy, by rw [neQ_len, HL.out.1]⟩
    rw [hy] at F1
    clear hy
    by_cases hn0 : n = 0
    · have HN0 : Hid (n = 0) := hn0
      have en0 : neQ ls = false := by rw [HY.out.2, hn0]; rfl
      rw [en0] at F1
      have hgt : ¬ ((n : Int) > 0) := by omega
      have hgd : decide (0 < n) = false := decide_eq_false (by omega)
      have hgn : ¬ (0 < n) := by omega
      clear en0 hn0
      go_wp2_with fail
      refine F1.mono ?_
      rintro en w7 ⟨rfl, hb7⟩
      have hb8 := ball (Below.refl _ w7) (.cells #[.int .i64 y.s, .int .i64 y.r, .int .i64 y.c] 33)
      have t3 := AtL.f3 (AtL.new0 w7 33 [.int .i64 y.s, .int .i64 y.r, .int .i64 y.c])
      have HQ6 : Hid (Qst w1 (w7.alloc (.cells #[.int .i64 y.s, .int .i64 y.r, .int .i64 y.c] 33)) qb L C) := (HQ5b.out.below hb7).below hb8
      have HX6 : Hid (RdX (w7.alloc (.cells #[.int .i64 y.s, .int .i64 y.r, .int .i64 y.c] 33)) a1 D) := (HX5.out.below hb7).below hb8
      clear F1 hb7 hb8 HQ5b HX5
      go_upto_region 9 with fail
      generalize w7.alloc (.cells #[.int .i64 y.s, .int .i64 y.r, .int .i64 y.c] 33) = W0 at *
      generalize hp7 : w7.heap.size = p7 at *
      clear hp7
      have hb1 := (Below.refl W0.heap.size W0).drew
      refine wp_region_held_drew (S := fun W => Three W p7 (.int .i64 y.s) (.int .i64 y.r) (.int .i64 y.c)) (by kernel_rfl) (three_drew t3) (fun hHeld => ?_)
      have HQ7 : Hid (Qst w1 W0.drew qb L C) := HQ6.out.below hb1
      have HX7 : Hid (RdX W0.drew a1 D) := HX6.out.below hb1
      replace t3 := three_drew t3
      clear hb1 HQ6 HX6
      generalize W0.drew = W1 at *
      refine wpAnyH_take (i := 0) (oi := { dst := Option.some 39, op := Op.move (Operand.tmp 8), type := 4, pos := "outright.go:48", after := #[], guard := Option.none }) (v := ?_) rfl (by kernel_rfl) (by kernel_rfl) (by kernel_rfl) (fun _ _ _ h => h) (Or.inl ⟨by rfl, ?_⟩) (by assumption) ?_
      rotate_left
      · intro w hSw
        (try dsimp only at hSw)
        go_simp
        try with_reducible rfl
      try simp only [Act.put, List.setIfInBounds_toArray, List.set_cons_zero, List.set_cons_succ]
      refine wpAnyH_take (i := 1) (oi := { dst := Option.some 40, op := Op.move (Operand.tmp 6), type := 44, pos := "outright.go:48", after := #[], guard := Option.none }) (v := ?_) rfl (by kernel_rfl) (by kernel_rfl) (by kernel_rfl) (fun _ _ _ h => h) (Or.inl ⟨by rfl, ?_⟩) (by assumption) ?_
      rotate_left
      · intro w hSw
        (try dsimp only at hSw)
        go_simp
        try with_reducible rfl
      try simp only [Act.put, List.setIfInBounds_toArray, List.set_cons_zero, List.set_cons_succ]
      refine wpAnyH_take (i := 2) (oi := { dst := Option.some 41, op := Op.call { callee := Callee.builtin Builtin.len, args := #[Operand.tmp 40], argTypes := #[44] }, type := 3, pos := "outright.go:48", after := #[{ on := 1, ground := Ground.data }], guard := Option.none }) (v := ?_) rfl (by kernel_rfl) (by kernel_rfl) (by kernel_rfl) (fun _ _ _ h => h) (Or.inl ⟨by rfl, ?_⟩) (by assumption) ?_
      rotate_left
      · intro w hSw
        (try dsimp only at hSw)
        go_simp
        try with_reducible rfl
      try simp only [Act.put, List.setIfInBounds_toArray, List.set_cons_zero, List.set_cons_succ]
      refine wpAnyH_take (i := 3) (oi := { dst := Option.some 42, op := Op.binOp BinOp.gtr 3 (Operand.tmp 41) (Operand.const (Value.int IntKind.i64 0)) 3, type := 4, pos := "outright.go:48", after := #[{ on := 2, ground := Ground.data }], guard := Option.none }) (v := ?_) rfl (by kernel_rfl) (by kernel_rfl) (by kernel_rfl) (fun _ _ _ h => h) (Or.inl ⟨by rfl, ?_⟩) (by assumption) ?_
      rotate_left
      · intro w hSw
        (try dsimp only at hSw)
        go_simp
        try with_reducible rfl
      try simp only [Act.put, List.setIfInBounds_toArray, List.set_cons_zero, List.set_cons_succ]
      refine wpAnyH_take (i := 4) (oi := { dst := Option.some 43, op := Op.binOp BinOp.neq 4 (Operand.tmp 39) (Operand.tmp 42) 4, type := 4, pos := "outright.go:48", after := #[{ on := 0, ground := Ground.data }, { on := 3, ground := Ground.data }], guard := Option.none }) (v := ?_) rfl (by kernel_rfl) (by kernel_rfl) (by kernel_rfl) (fun _ _ _ h => h) (Or.inl ⟨by rfl, ?_⟩) (by assumption) ?_
      rotate_left
      · intro w hSw
        (try dsimp only at hSw)
        go_simp
        try with_reducible rfl
      try simp only [Act.put, List.setIfInBounds_toArray, List.set_cons_zero, List.set_cons_succ]
      refine wpAnyH_take (i := 5) (oi := { dst := Option.some 44, op := Op.move (Operand.tmp 43), type := 4, pos := "outright.go:48", after := #[{ on := 4, ground := Ground.data }], guard := Option.none }) (v := ?_) rfl (by kernel_rfl) (by kernel_rfl) (by kernel_rfl) (fun _ _ _ h => h) (Or.inl ⟨by rfl, ?_⟩) (by assumption) ?_
      rotate_left
      · intro w hSw
        (try dsimp only at hSw)
        go_simp
        try with_reducible rfl
      try simp only [Act.put, List.setIfInBounds_toArray, List.set_cons_zero, List.set_cons_succ]
      refine wpAnyH_take (i := 6) (oi := { dst := Option.some 45, op := Op.move (Operand.tmp 8), type := 4, pos := "outright.go:48", after := #[{ on := 5, ground := Ground.guard }], guard := Option.some (5, Bool.false) }) (v := ?_) rfl (by kernel_rfl) (by kernel_rfl) (by kernel_rfl) (fun _ _ _ h => h) (Or.inl ⟨by rfl, ?_⟩) (by assumption) ?_
      rotate_left
      · intro w hSw
        (try dsimp only at hSw)
        go_simp
        try with_reducible rfl
      try simp only [Act.put, List.setIfInBounds_toArray, List.set_cons_zero, List.set_cons_succ]
      refine wpAnyH_take (i := 7) (oi := { dst := Option.some 46, op := Op.move (Operand.tmp 45), type := 4, pos := "outright.go:48", after := #[{ on := 6, ground := Ground.data }, { on := 5, ground := Ground.chain }, { on := 5, ground := Ground.guard }], guard := Option.some (5, Bool.false) }) (v := ?_) rfl (by kernel_rfl) (by kernel_rfl) (by kernel_rfl) (fun _ _ _ h => h) (Or.inl ⟨by rfl, ?_⟩) (by assumption) ?_
      rotate_left
      · intro w hSw
        (try dsimp only at hSw)
        go_simp
        try with_reducible rfl
      try simp only [Act.put, List.setIfInBounds_toArray, List.set_cons_zero, List.set_cons_succ]
      refine wpAnyH_take (i := 8) (oi := { dst := Option.some 47, op := Op.load 33 (Operand.tmp 7), type := 33, pos := "outright.go:48", after := #[{ on := 7, ground := Ground.guard }], guard := Option.some (7, Bool.true) }) (v := undef) rfl (by kernel_rfl) (by kernel_rfl) (by kernel_rfl) (fun _ _ _ h => h) (Or.inr ⟨by rfl, rfl⟩) (by assumption) ?_
      try simp only [Act.put, List.setIfInBounds_toArray, List.set_cons_zero, List.set_cons_succ]
      refine wpAnyH_take (i := 9) (oi := { dst := Option.some 48, op := Op.move (Operand.tmp 6), type := 44, pos := "outright.go:48", after := #[{ on := 7, ground := Ground.guard }], guard := Option.some (7, Bool.true) }) (v := undef) rfl (by kernel_rfl) (by kernel_rfl) (by kernel_rfl) (fun _ _ _ h => h) (Or.inr ⟨by rfl, rfl⟩) (by assumption) ?_
      try simp only [Act.put, List.setIfInBounds_toArray, List.set_cons_zero, List.set_cons_succ]
      refine wpAnyH_take (i := 10) (oi := { dst := Option.some 49, op := Op.indexAddr 44 (Operand.tmp 48) (Operand.const (Value.int IntKind.i64 0)), type := 0, pos := "outright.go:48", after := #[{ on := 9, ground := Ground.data }, { on := 7, ground := Ground.guard }], guard := Option.some (7, Bool.true) }) (v := undef) rfl (by kernel_rfl) (by kernel_rfl) (by kernel_rfl) (fun _ _ _ h => h) (Or.inr ⟨by rfl, rfl⟩) (by assumption) ?_
      try simp only [Act.put, List.setIfInBounds_toArray, List.set_cons_zero, List.set_cons_succ]
      refine wpAnyH_take (i := 11) (oi := { dst := Option.some 50, op := Op.load 33 (Operand.tmp 49), type := 33, pos := "outright.go:48", after := #[{ on := 10, ground := Ground.data }, { on := 7, ground := Ground.guard }], guard := Option.some (7, Bool.true) }) (v := undef) rfl (by kernel_rfl) (by kernel_rfl) (by kernel_rfl) (fun _ _ _ h => h) (Or.inr ⟨by rfl, rfl⟩) (by assumption) ?_
      try simp only [Act.put, List.setIfInBounds_toArray, List.set_cons_zero, List.set_cons_succ]
      refine wpAnyH_take (i := 12) (oi := { dst := Option.some 51, op := Op.binOp BinOp.neq 33 (Operand.tmp 47) (Operand.tmp 50) 33, type := 4, pos := "outright.go:48", after := #[{ on := 8, ground := Ground.data }, { on := 11, ground := Ground.data }, { on := 7, ground := Ground.guard }], guard := Option.some (7, Bool.true) }) (v := undef) rfl (by kernel_rfl) (by kernel_rfl) (by kernel_rfl) (fun _ _ _ h => h) (Or.inr ⟨by rfl, rfl⟩) (by assumption) ?_
      try simp only [Act.put, List.setIfInBounds_toArray, List.set_cons_zero, List.set_cons_succ]
      refine wpAnyH_take (i := 13) (oi := { dst := Option.some 52, op := Op.pick (Operand.tmp 46) (Operand.tmp 51) (Operand.const (Value.bool Bool.false)), type := 4, pos := "outright.go:48", after := #[{ on := 7, ground := Ground.data }, { on := 12, ground := Ground.data }, { on := 5, ground := Ground.guard }], guard := Option.some (5, Bool.false) }) (v := ?_) rfl (by kernel_rfl) (by kernel_rfl) (by kernel_rfl) (fun _ _ _ h => h) (Or.inl ⟨by rfl, ?_⟩) (by assumption) ?_
      rotate_left
      · intro w hSw
        (try dsimp only at hSw)
        go_simp
        try with_reducible rfl
      try simp only [Act.put, List.setIfInBounds_toArray, List.set_cons_zero, List.set_cons_succ]
      refine wpAnyH_take (i := 14) (oi := { dst := Option.some 53, op := Op.pick (Operand.tmp 44) (Operand.const (Value.bool Bool.true)) (Operand.tmp 52), type := 4, pos := "outright.go:48", after := #[{ on := 5, ground := Ground.data }, { on := 13, ground := Ground.data }], guard := Option.none }) (v := ?_) rfl (by kernel_rfl) (by kernel_rfl) (by kernel_rfl) (fun _ _ _ h => h) (Or.inl ⟨by rfl, ?_⟩) (by assumption) ?_
      rotate_left
      · intro w hSw
        (try dsimp only at hSw)
        go_simp
        try with_reducible rfl
      try simp only [Act.put, List.setIfInBounds_toArray, List.set_cons_zero, List.set_cons_succ]
      refine wpAnyH_take (i := 15) (oi := { dst := Option.some 54, op := Op.move (Operand.tmp 53), type := 4, pos := "outright.go:48", after := #[{ on := 14, ground := Ground.data }, { on := 7, ground := Ground.chain }], guard := Option.none }) (v := ?_) rfl (by kernel_rfl) (by kernel_rfl) (by kernel_rfl) (fun _ _ _ h => h) (Or.inl ⟨by rfl, ?_⟩) (by assumption) ?_
      rotate_left
      · intro w hSw
        (try dsimp only at hSw)
        go_simp
        try with_reducible rfl
      try simp only [Act.put, List.setIfInBounds_toArray, List.set_cons_zero, List.set_cons_succ]
      refine wpAnyH_take (i := 16) (oi := { dst := Option.some 55, op := Op.move (Operand.tmp 5), type := 25, pos := "outright.go:48", after := #[{ on := 15, ground := Ground.guard }], guard := Option.some (15, Bool.false) }) (v := ?_) rfl (by kernel_rfl) (by kernel_rfl) (by kernel_rfl) (fun _ _ _ h => h) (Or.inl ⟨by rfl, ?_⟩) (by assumption) ?_
      rotate_left
      · intro w hSw
        (try dsimp only at hSw)
        go_simp
        try with_reducible rfl
      try simp only [Act.put, List.setIfInBounds_toArray, List.set_cons_zero, List.set_cons_succ]
      refine wpAnyH_take (i := 18) (oi := { dst := Option.some 57, op := Op.move (Operand.tmp 6), type := 44, pos := "outright.go:48", after := #[{ on := 15, ground := Ground.guard }], guard := Option.some (15, Bool.false) }) (v := ?_) rfl (by kernel_rfl) (by kernel_rfl) (by kernel_rfl) (fun _ _ _ h => h) (Or.inl ⟨by rfl, ?_⟩) (by assumption) ?_
      rotate_left
      · intro w hSw
        (try dsimp only at hSw)
        go_simp
        try with_reducible rfl
      try simp only [Act.put, List.setIfInBounds_toArray, List.set_cons_zero, List.set_cons_succ]
      refine wpAnyH_take (i := 19) (oi := { dst := Option.some 58, op := Op.call { callee := Callee.builtin Builtin.len, args := #[Operand.tmp 57], argTypes := #[44] }, type := 3, pos := "outright.go:48", after := #[{ on := 18, ground := Ground.data }, { on := 15, ground := Ground.guard }], guard := Option.some (15, Bool.false) }) (v := ?_) rfl (by kernel_rfl) (by kernel_rfl) (by kernel_rfl) (fun _ _ _ h => h) (Or.inl ⟨by rfl, ?_⟩) (by assumption) ?_
      rotate_left
      · intro w hSw
        (try dsimp only at hSw)
        go_simp
        try with_reducible rfl
      try simp only [Act.put, List.setIfInBounds_toArray, List.set_cons_zero, List.set_cons_succ]
      refine wpAnyH_ready (rs := [17]) (by kernel_rfl) (by simp) ?_
      refine AllReadyH.cons (o := { dst := Option.some 56, op := Op.call { callee := Callee.value (Operand.func 21), args := #[Operand.tmp 55], argTypes := #[25] }, type := 3, pos := "outright.go:48", after := #[{ on := 16, ground := Ground.data }, { on := 15, ground := Ground.chain }, { on := 15, ground := Ground.guard }], guard := Option.some (15, Bool.false) }) rfl (fun K hK => ?_) AllReadyH.nil
      have LE := st_len HQ7.out
      rw [HLL.out.2] at LE
      go_simp
      refine LE.mono ?_
      rintro en w9 ⟨rfl, hb9⟩
      have HQ9 : Hid (Qst w1 w9 qb L C) := HQ7.out.below hb9
      have HX9 : Hid (RdX w9 a1 D) := HX7.out.below hb9
      replace t3 := three_below hb9 t3
      clear LE hb9 HQ7 HX7
      go_wp2_with fail
      refine hK.out _ _ t3 (fun hHeld => ?_)
      clear hK K
      try simp only [Act.put, List.setIfInBounds_toArray, List.set_cons_zero, List.set_cons_succ]
      refine wpAnyH_take (i := 20) (oi := { dst := Option.some 59, op := Op.binOp BinOp.neq 3 (Operand.tmp 56) (Operand.tmp 58) 3, type := 4, pos := "outright.go:48", after := #[{ on := 17, ground := Ground.data }, { on := 19, ground := Ground.data }, { on := 15, ground := Ground.guard }], guard := Option.some (15, Bool.false) }) (v := ?_) rfl (by kernel_rfl) (by kernel_rfl) (by kernel_rfl) (fun _ _ _ h => h) (Or.inl ⟨by rfl, ?_⟩) (by assumption) ?_
      rotate_left
      · intro w hSw
        (try dsimp only at hSw)
        go_simp
        try with_reducible rfl
      try simp only [Act.put, List.setIfInBounds_toArray, List.set_cons_zero, List.set_cons_succ]
      refine wpAnyH_take (i := 21) (oi := { dst := Option.some 60, op := Op.pick (Operand.tmp 54) (Operand.const (Value.bool Bool.true)) (Operand.tmp 59), type := 4, pos := "outright.go:48", after := #[{ on := 15, ground := Ground.data }, { on := 20, ground := Ground.data }], guard := Option.none }) (v := ?_) rfl (by kernel_rfl) (by kernel_rfl) (by kernel_rfl) (fun _ _ _ h => h) (Or.inl ⟨by rfl, ?_⟩) (by assumption) ?_
      rotate_left
      · intro w hSw
        (try dsimp only at hSw)
        go_simp
        try with_reducible rfl
      try simp only [Act.put, List.setIfInBounds_toArray, List.set_cons_zero, List.set_cons_succ]
      refine wpAnyH_done (by kernel_rfl) ?_ _
      clear hHeld t3

      go_upto_region 12 with fail
      go_loopg [9] 0 (fun gk x wr => x = .int .i64 0 ∧ Hid (Qst w1 wr qb L C))
      case atStart => exact ⟨rfl, HQ9⟩
      case round =>
        obtain ⟨rfl, HQ⟩ := hrel
        generalize hw9 : wr = W at *
        clear hw9
        have HE : Hid (Below w.heap.size w W) := below_end HB1.out HQ.out.bl
        clear HQ
        go_wp2
        go_ret
        exact ⟨rfl, HE.out⟩
    · have en0 : neQ ls = true := by rw [HY.out.2]; simp; omega
      rw [en0] at F1
      have hgt : (n : Int) > 0 := by omega
      have hgd : decide (0 < n) = true := decide_eq_true (by omega)
      have hgn : 0 < n := by omega
      have HD0 : Hid (D[0]? = some (clW y)) := by
        show _ = _
        rw [← HD.out.1, List.getElem?_map]
        have h1 := HL.out.1
        have h2 := HY.out.1
        cases e : ls with
        | nil => rw [e] at h1; simp at h1; omega
        | cons u v => rw [e] at h2; rw [← h2]; rfl
      clear en0 hn0
      obtain ⟨bb, off, e, _⟩ := HX5.out.at HD0.out
      subst e
      go_wp2_with fail
      refine F1.mono ?_
      rintro en w7 ⟨rfl, hb7⟩
      have hb8 := ball (Below.refl _ w7) (.cells #[.int .i64 y.s, .int .i64 y.r, .int .i64 y.c] 33)
      have t3 := AtL.f3 (AtL.new0 w7 33 [.int .i64 y.s, .int .i64 y.r, .int .i64 y.c])
      have HQ6 : Hid (Qst w1 (w7.alloc (.cells #[.int .i64 y.s, .int .i64 y.r, .int .i64 y.c] 33)) qb L C) := (HQ5b.out.below hb7).below hb8
      have HX6 : Hid (RdX (w7.alloc (.cells #[.int .i64 y.s, .int .i64 y.r, .int .i64 y.c] 33)) (some ⟨bb, off, none⟩) D) := (HX5.out.below hb7).below hb8
      clear F1 hb7 hb8 HQ5b HX5
      go_upto_region 9 with fail
      generalize w7.alloc (.cells #[.int .i64 y.s, .int .i64 y.r, .int .i64 y.c] 33) = W0 at *
      generalize hp7 : w7.heap.size = p7 at *
      clear hp7
      obtain ⟨b9, o9, e9, k0, k1, k2⟩ := HX6.out.at HD0.out
      obtain ⟨rfl, rfl⟩ : bb = b9 ∧ off = o9 := by simpa using e9
      clear e9
      rw [Nat.zero_mul, Nat.add_zero] at k0 k1 k2
      have eq := neqCl_run (clW y)
      have hb1 := (Below.refl W0.heap.size W0).drew
      refine wp_region_held_drew (S := fun W => Three W p7 (.int .i64 y.s) (.int .i64 y.r) (.int .i64 y.c) ∧ (W.cell? ⟨bb, off, none⟩ = some (.int .i64 y.s) ∧ W.cell? ⟨bb, off + 1, none⟩ = some (.int .i64 y.r) ∧ W.cell? ⟨bb, off + 2, none⟩ = some (.int .i64 y.c))) (by kernel_rfl) ⟨three_drew t3, cell_below hb1 k0, cell_below hb1 k1, cell_below hb1 k2⟩ (fun hHeld => ?_)
      have HQ7 : Hid (Qst w1 W0.drew qb L C) := HQ6.out.below hb1
      have HX7 : Hid (RdX W0.drew (some ⟨bb, off, none⟩) D) := HX6.out.below hb1
      replace t3 := three_drew t3
      replace k0 := cell_below hb1 k0
      replace k1 := cell_below hb1 k1
      replace k2 := cell_below hb1 k2
      clear hb1 HQ6 HX6
      generalize W0.drew = W1 at *
      refine wpAnyH_take (i := 0) (oi := { dst := Option.some 39, op := Op.move (Operand.tmp 8), type := 4, pos := "outright.go:48", after := #[], guard := Option.none }) (v := ?_) rfl (by kernel_rfl) (by kernel_rfl) (by kernel_rfl) (fun _ _ _ h => h) (Or.inl ⟨by rfl, ?_⟩) (by assumption) ?_
      rotate_left
      · intro w hSw
        (try dsimp only at hSw)
        go_simp
        try with_reducible rfl
      try simp only [Act.put, List.setIfInBounds_toArray, List.set_cons_zero, List.set_cons_succ]
      refine wpAnyH_take (i := 1) (oi := { dst := Option.some 40, op := Op.move (Operand.tmp 6), type := 44, pos := "outright.go:48", after := #[], guard := Option.none }) (v := ?_) rfl (by kernel_rfl) (by kernel_rfl) (by kernel_rfl) (fun _ _ _ h => h) (Or.inl ⟨by rfl, ?_⟩) (by assumption) ?_
      rotate_left
      · intro w hSw
        (try dsimp only at hSw)
        go_simp
        try with_reducible rfl
      try simp only [Act.put, List.setIfInBounds_toArray, List.set_cons_zero, List.set_cons_succ]
      refine wpAnyH_take (i := 2) (oi := { dst := Option.some 41, op := Op.call { callee := Callee.builtin Builtin.len, args := #[Operand.tmp 40], argTypes := #[44] }, type := 3, pos := "outright.go:48", after := #[{ on := 1, ground := Ground.data }], guard := Option.none }) (v := ?_) rfl (by kernel_rfl) (by kernel_rfl) (by kernel_rfl) (fun _ _ _ h => h) (Or.inl ⟨by rfl, ?_⟩) (by assumption) ?_
      rotate_left
      · intro w hSw
        (try dsimp only at hSw)
        go_simp
        try with_reducible rfl
      try simp only [Act.put, List.setIfInBounds_toArray, List.set_cons_zero, List.set_cons_succ]
      refine wpAnyH_take (i := 3) (oi := { dst := Option.some 42, op := Op.binOp BinOp.gtr 3 (Operand.tmp 41) (Operand.const (Value.int IntKind.i64 0)) 3, type := 4, pos := "outright.go:48", after := #[{ on := 2, ground := Ground.data }], guard := Option.none }) (v := ?_) rfl (by kernel_rfl) (by kernel_rfl) (by kernel_rfl) (fun _ _ _ h => h) (Or.inl ⟨by rfl, ?_⟩) (by assumption) ?_
      rotate_left
      · intro w hSw
        (try dsimp only at hSw)
        go_simp
        try with_reducible rfl
      try simp only [Act.put, List.setIfInBounds_toArray, List.set_cons_zero, List.set_cons_succ]
      refine wpAnyH_take (i := 4) (oi := { dst := Option.some 43, op := Op.binOp BinOp.neq 4 (Operand.tmp 39) (Operand.tmp 42) 4, type := 4, pos := "outright.go:48", after := #[{ on := 0, ground := Ground.data }, { on := 3, ground := Ground.data }], guard := Option.none }) (v := ?_) rfl (by kernel_rfl) (by kernel_rfl) (by kernel_rfl) (fun _ _ _ h => h) (Or.inl ⟨by rfl, ?_⟩) (by assumption) ?_
      rotate_left
      · intro w hSw
        (try dsimp only at hSw)
        go_simp
        try with_reducible rfl
      try simp only [Act.put, List.setIfInBounds_toArray, List.set_cons_zero, List.set_cons_succ]
      refine wpAnyH_take (i := 5) (oi := { dst := Option.some 44, op := Op.move (Operand.tmp 43), type := 4, pos := "outright.go:48", after := #[{ on := 4, ground := Ground.data }], guard := Option.none }) (v := ?_) rfl (by kernel_rfl) (by kernel_rfl) (by kernel_rfl) (fun _ _ _ h => h) (Or.inl ⟨by rfl, ?_⟩) (by assumption) ?_
      rotate_left
      · intro w hSw
        (try dsimp only at hSw)
        go_simp
        try with_reducible rfl
      try simp only [Act.put, List.setIfInBounds_toArray, List.set_cons_zero, List.set_cons_succ]
      refine wpAnyH_take (i := 6) (oi := { dst := Option.some 45, op := Op.move (Operand.tmp 8), type := 4, pos := "outright.go:48", after := #[{ on := 5, ground := Ground.guard }], guard := Option.some (5, Bool.false) }) (v := ?_) rfl (by kernel_rfl) (by kernel_rfl) (by kernel_rfl) (fun _ _ _ h => h) (Or.inl ⟨by rfl, ?_⟩) (by assumption) ?_
      rotate_left
      · intro w hSw
        (try dsimp only at hSw)
        go_simp
        try with_reducible rfl
      try simp only [Act.put, List.setIfInBounds_toArray, List.set_cons_zero, List.set_cons_succ]
      refine wpAnyH_take (i := 7) (oi := { dst := Option.some 46, op := Op.move (Operand.tmp 45), type := 4, pos := "outright.go:48", after := #[{ on := 6, ground := Ground.data }, { on := 5, ground := Ground.chain }, { on := 5, ground := Ground.guard }], guard := Option.some (5, Bool.false) }) (v := ?_) rfl (by kernel_rfl) (by kernel_rfl) (by kernel_rfl) (fun _ _ _ h => h) (Or.inl ⟨by rfl, ?_⟩) (by assumption) ?_
      rotate_left
      · intro w hSw
        (try dsimp only at hSw)
        go_simp
        try with_reducible rfl
      try simp only [Act.put, List.setIfInBounds_toArray, List.set_cons_zero, List.set_cons_succ]
      refine wpAnyH_take (i := 8) (oi := { dst := Option.some 47, op := Op.load 33 (Operand.tmp 7), type := 33, pos := "outright.go:48", after := #[{ on := 7, ground := Ground.guard }], guard := Option.some (7, Bool.true) }) (v := ?_) rfl (by kernel_rfl) (by kernel_rfl) (by kernel_rfl) (fun _ _ _ h => h) (Or.inl ⟨by rfl, ?_⟩) (by assumption) ?_
      rotate_left
      · intro w hSw
        (try dsimp only at hSw)
        go_simp
        try with_reducible rfl
      try simp only [Act.put, List.setIfInBounds_toArray, List.set_cons_zero, List.set_cons_succ]
      refine wpAnyH_take (i := 9) (oi := { dst := Option.some 48, op := Op.move (Operand.tmp 6), type := 44, pos := "outright.go:48", after := #[{ on := 7, ground := Ground.guard }], guard := Option.some (7, Bool.true) }) (v := ?_) rfl (by kernel_rfl) (by kernel_rfl) (by kernel_rfl) (fun _ _ _ h => h) (Or.inl ⟨by rfl, ?_⟩) (by assumption) ?_
      rotate_left
      · intro w hSw
        (try dsimp only at hSw)
        go_simp
        try with_reducible rfl
      try simp only [Act.put, List.setIfInBounds_toArray, List.set_cons_zero, List.set_cons_succ]
      refine wpAnyH_take (i := 10) (oi := { dst := Option.some 49, op := Op.indexAddr 44 (Operand.tmp 48) (Operand.const (Value.int IntKind.i64 0)), type := 0, pos := "outright.go:48", after := #[{ on := 9, ground := Ground.data }, { on := 7, ground := Ground.guard }], guard := Option.some (7, Bool.true) }) (v := ?_) rfl (by kernel_rfl) (by kernel_rfl) (by kernel_rfl) (fun _ _ _ h => h) (Or.inl ⟨by rfl, ?_⟩) (by assumption) ?_
      rotate_left
      · intro w hSw
        (try dsimp only at hSw)
        go_simp
        try with_reducible rfl
      try simp only [Act.put, List.setIfInBounds_toArray, List.set_cons_zero, List.set_cons_succ]
      refine wpAnyH_take (i := 11) (oi := { dst := Option.some 50, op := Op.load 33 (Operand.tmp 49), type := 33, pos := "outright.go:48", after := #[{ on := 10, ground := Ground.data }, { on := 7, ground := Ground.guard }], guard := Option.some (7, Bool.true) }) (v := ?_) rfl (by kernel_rfl) (by kernel_rfl) (by kernel_rfl) (fun _ _ _ h => h) (Or.inl ⟨by rfl, ?_⟩) (by assumption) ?_
      rotate_left
      · intro w hSw
        (try dsimp only at hSw)
        go_simp
        try with_reducible rfl
      try simp only [Act.put, List.setIfInBounds_toArray, List.set_cons_zero, List.set_cons_succ]
      refine wpAnyH_take (i := 12) (oi := { dst := Option.some 51, op := Op.binOp BinOp.neq 33 (Operand.tmp 47) (Operand.tmp 50) 33, type := 4, pos := "outright.go:48", after := #[{ on := 8, ground := Ground.data }, { on := 11, ground := Ground.data }, { on := 7, ground := Ground.guard }], guard := Option.some (7, Bool.true) }) (v := ?_) rfl (by kernel_rfl) (by kernel_rfl) (by kernel_rfl) (fun _ _ _ h => h) (Or.inl ⟨by rfl, ?_⟩) (by assumption) ?_
      rotate_left
      · intro w hSw
        (try dsimp only at hSw)
        go_simp
        try with_reducible rfl
      try simp only [Act.put, List.setIfInBounds_toArray, List.set_cons_zero, List.set_cons_succ]
      refine wpAnyH_take (i := 13) (oi := { dst := Option.some 52, op := Op.pick (Operand.tmp 46) (Operand.tmp 51) (Operand.const (Value.bool Bool.false)), type := 4, pos := "outright.go:48", after := #[{ on := 7, ground := Ground.data }, { on := 12, ground := Ground.data }, { on := 5, ground := Ground.guard }], guard := Option.some (5, Bool.false) }) (v := ?_) rfl (by kernel_rfl) (by kernel_rfl) (by kernel_rfl) (fun _ _ _ h => h) (Or.inl ⟨by rfl, ?_⟩) (by assumption) ?_
      rotate_left
      · intro w hSw
        (try dsimp only at hSw)
        go_simp
        try with_reducible rfl
      try simp only [Act.put, List.setIfInBounds_toArray, List.set_cons_zero, List.set_cons_succ]
      refine wpAnyH_take (i := 14) (oi := { dst := Option.some 53, op := Op.pick (Operand.tmp 44) (Operand.const (Value.bool Bool.true)) (Operand.tmp 52), type := 4, pos := "outright.go:48", after := #[{ on := 5, ground := Ground.data }, { on := 13, ground := Ground.data }], guard := Option.none }) (v := ?_) rfl (by kernel_rfl) (by kernel_rfl) (by kernel_rfl) (fun _ _ _ h => h) (Or.inl ⟨by rfl, ?_⟩) (by assumption) ?_
      rotate_left
      · intro w hSw
        (try dsimp only at hSw)
        go_simp
        try with_reducible rfl
      try simp only [Act.put, List.setIfInBounds_toArray, List.set_cons_zero, List.set_cons_succ]
      refine wpAnyH_take (i := 15) (oi := { dst := Option.some 54, op := Op.move (Operand.tmp 53), type := 4, pos := "outright.go:48", after := #[{ on := 14, ground := Ground.data }, { on := 7, ground := Ground.chain }], guard := Option.none }) (v := ?_) rfl (by kernel_rfl) (by kernel_rfl) (by kernel_rfl) (fun _ _ _ h => h) (Or.inl ⟨by rfl, ?_⟩) (by assumption) ?_
      rotate_left
      · intro w hSw
        (try dsimp only at hSw)
        go_simp
        try with_reducible rfl
      try simp only [Act.put, List.setIfInBounds_toArray, List.set_cons_zero, List.set_cons_succ]
      refine wpAnyH_take (i := 16) (oi := { dst := Option.some 55, op := Op.move (Operand.tmp 5), type := 25, pos := "outright.go:48", after := #[{ on := 15, ground := Ground.guard }], guard := Option.some (15, Bool.false) }) (v := ?_) rfl (by kernel_rfl) (by kernel_rfl) (by kernel_rfl) (fun _ _ _ h => h) (Or.inl ⟨by rfl, ?_⟩) (by assumption) ?_
      rotate_left
      · intro w hSw
        (try dsimp only at hSw)
        go_simp
        try with_reducible rfl
      try simp only [Act.put, List.setIfInBounds_toArray, List.set_cons_zero, List.set_cons_succ]
      refine wpAnyH_take (i := 18) (oi := { dst := Option.some 57, op := Op.move (Operand.tmp 6), type := 44, pos := "outright.go:48", after := #[{ on := 15, ground := Ground.guard }], guard := Option.some (15, Bool.false) }) (v := ?_) rfl (by kernel_rfl) (by kernel_rfl) (by kernel_rfl) (fun _ _ _ h => h) (Or.inl ⟨by rfl, ?_⟩) (by assumption) ?_
      rotate_left
      · intro w hSw
        (try dsimp only at hSw)
        go_simp
        try with_reducible rfl
      try simp only [Act.put, List.setIfInBounds_toArray, List.set_cons_zero, List.set_cons_succ]
      refine wpAnyH_take (i := 19) (oi := { dst := Option.some 58, op := Op.call { callee := Callee.builtin Builtin.len, args := #[Operand.tmp 57], argTypes := #[44] }, type := 3, pos := "outright.go:48", after := #[{ on := 18, ground := Ground.data }, { on := 15, ground := Ground.guard }], guard := Option.some (15, Bool.false) }) (v := ?_) rfl (by kernel_rfl) (by kernel_rfl) (by kernel_rfl) (fun _ _ _ h => h) (Or.inl ⟨by rfl, ?_⟩) (by assumption) ?_
      rotate_left
      · intro w hSw
        (try dsimp only at hSw)
        go_simp
        try with_reducible rfl
      try simp only [Act.put, List.setIfInBounds_toArray, List.set_cons_zero, List.set_cons_succ]
      refine wpAnyH_ready (rs := [17]) (by kernel_rfl) (by simp) ?_
      refine AllReadyH.cons (o := { dst := Option.some 56, op := Op.call { callee := Callee.value (Operand.func 21), args := #[Operand.tmp 55], argTypes := #[25] }, type := 3, pos := "outright.go:48", after := #[{ on := 16, ground := Ground.data }, { on := 15, ground := Ground.chain }, { on := 15, ground := Ground.guard }], guard := Option.some (15, Bool.false) }) rfl (fun K hK => ?_) AllReadyH.nil
      have LE := st_len HQ7.out
      rw [HLL.out.2] at LE
      go_simp
      refine LE.mono ?_
      rintro en w9 ⟨rfl, hb9⟩
      have HQ9 : Hid (Qst w1 w9 qb L C) := HQ7.out.below hb9
      have HX9 : Hid (RdX w9 (some ⟨bb, off, none⟩) D) := HX7.out.below hb9
      replace t3 := three_below hb9 t3
      replace k0 := cell_below hb9 k0
      replace k1 := cell_below hb9 k1
      replace k2 := cell_below hb9 k2
      clear LE hb9 HQ7 HX7
      go_wp2_with fail
      refine hK.out _ _ ⟨t3, k0, k1, k2⟩ (fun hHeld => ?_)
      clear hK K
      try simp only [Act.put, List.setIfInBounds_toArray, List.set_cons_zero, List.set_cons_succ]
      refine wpAnyH_take (i := 20) (oi := { dst := Option.some 59, op := Op.binOp BinOp.neq 3 (Operand.tmp 56) (Operand.tmp 58) 3, type := 4, pos := "outright.go:48", after := #[{ on := 17, ground := Ground.data }, { on := 19, ground := Ground.data }, { on := 15, ground := Ground.guard }], guard := Option.some (15, Bool.false) }) (v := ?_) rfl (by kernel_rfl) (by kernel_rfl) (by kernel_rfl) (fun _ _ _ h => h) (Or.inl ⟨by rfl, ?_⟩) (by assumption) ?_
      rotate_left
      · intro w hSw
        (try dsimp only at hSw)
        go_simp
        try with_reducible rfl
      try simp only [Act.put, List.setIfInBounds_toArray, List.set_cons_zero, List.set_cons_succ]
      refine wpAnyH_take (i := 21) (oi := { dst := Option.some 60, op := Op.pick (Operand.tmp 54) (Operand.const (Value.bool Bool.true)) (Operand.tmp 59), type := 4, pos := "outright.go:48", after := #[{ on := 15, ground := Ground.data }, { on := 20, ground := Ground.data }], guard := Option.none }) (v := ?_) rfl (by kernel_rfl) (by kernel_rfl) (by kernel_rfl) (fun _ _ _ h => h) (Or.inl ⟨by rfl, ?_⟩) (by assumption) ?_
      rotate_left
      · intro w hSw
        (try dsimp only at hSw)
        go_simp
        try with_reducible rfl
      try simp only [Act.put, List.setIfInBounds_toArray, List.set_cons_zero, List.set_cons_succ]
      refine wpAnyH_done (by kernel_rfl) ?_ _
      clear hHeld t3 k0 k1 k2

      go_upto_region 12 with fail
      go_loopg [9] n (fun gk x wr => ∃ i : Nat, x = .int .i64 (i : Int) ∧ gk = n - i ∧ i ≤ n ∧ Hid (Qst w1 wr qb L C) ∧ Hid (RdX wr (some ⟨bb, off, none⟩) D))
      case atStart => exact ⟨0, rfl, rfl, Nat.zero_le _, HQ9, HX9⟩
      case round =>
        clear HQ9 HX9
        obtain ⟨i, rfl, hg, hi, HQ, HX⟩ := hrel
        generalize hw9 : wr = W at *
        clear hw9
        by_cases hlt : i < n
        · have hii : (i : Int) < (n : Int) := by omega
          have hiz : (0 : Int) ≤ (i : Int) := by omega
          have hwi : IntKind.i64.wrap ((i : Int) + 1) = (i : Int) + 1 := by have := HL.out; rw [IntKind.wrap_i64]; omega
          obtain ⟨a, ha⟩ : ∃ a, ls[i]? = some a := ⟨ls[i]'(by rw [HL.out.1]; exact hlt), List.getElem?_eq_getElem _⟩
          have HAA : Hid (ls[i]? = some a) := ha
          have HDI : Hid (D[i]? = some (clW a)) := by show _ = _; rw [← HD.out.1, List.getElem?_map, ha]; rfl
          obtain ⟨b9, o9, e9, k0, k1, k2⟩ := HX.out.at HDI.out
          obtain ⟨rfl, rfl⟩ : bb = b9 ∧ off = o9 := by simpa using e9
          clear e9
          have HM : Hid (a ∈ L) := HPW.out.2.2.mem_iff.1 (List.mem_of_getElem? ha)
          have LV := st_level HQ.out (clW a)
          rw [atW_of HQ.out.nd HM.out rfl, hasW_iff.2 ⟨a, HM.out, rfl⟩] at LV
          clear ha
          go_wp2_with fail
          refine LV.mono ?_
          rintro en w7 ⟨rfl, hb7⟩
          have HQ1 : Hid (Qst w1 w7 qb L C) := HQ.out.below hb7
          have HX1 : Hid (RdX w7 (some ⟨bb, off, none⟩) D) := HX.out.below hb7
          clear LV hb7 HQ HX k0 k1 k2
          by_cases hi0 : i = 0
          · have hz0 : ((i : Int) == 0) = true := by simp [hi0]
            have hz1 : (i : Int) = 0 := by omega
            have HI1 : Hid (i + 1 = 1) := by show _ = _; omega
            clear hi0
            go_wp2_with fail
            go_roundg (n - (i + 1))
            case rel => exact ⟨i + 1, (by simp; omega), rfl, hlt, HQ1, HX1⟩
            case measure => omega
          obtain ⟨k, hk⟩ : ∃ k, k + 1 = i := ⟨i - 1, by omega⟩
          have HK : Hid (k + 1 = i) := hk
          have hz1 : ¬ (i : Int) = 0 := by omega
          have hwk : IntKind.i64.wrap ((i : Int) - 1) = (k : Int) := by have := HL.out; rw [IntKind.wrap_i64]; omega
          have hkn : (k : Int) < (n : Int) := by omega
          have hkz : (0 : Int) ≤ (k : Int) := by omega
          obtain ⟨b, hb⟩ : ∃ b, ls[k]? = some b := ⟨ls[k]'(by rw [HL.out.1]; omega), List.getElem?_eq_getElem _⟩
          have HDK : Hid (D[k]? = some (clW b)) := by show _ = _; rw [← HD.out.1, List.getElem?_map, hb]; rfl
          have HMB : Hid (b ∈ L) := HPW.out.2.2.mem_iff.1 (List.mem_of_getElem? hb)
          have HLT : Hid (Wq.ltW b a = true) := by
            have e1 := drop_at hb
            rw [hk] at e1
            have hpw := HPW.out.1.sublist (List.drop_sublist k ls)
            rw [e1, List.pairwise_cons] at hpw
            have ham : a ∈ ls.drop i := by rw [drop_at HAA.out]; exact List.mem_cons_self ..
            have h1 := hpw.1 a ham
            cases c : Wq.ltW b a with
            | true => rfl
            | false =>
              have e2 := Wq.ltW_eq c h1
              have h3 := drop_nd HPW.out.2.1 hb
              rw [hk] at h3
              exact absurd (by rw [e2]) (h3 a ham)
          have HRE2 : Hid (a.ln = lnQ C (clW a) ∧ b.ln = lnQ C (clW b)) := by
            have h1 := HRE.out a HM.out
            have h2 := HRE.out b HMB.out
            exact ⟨by rw [← h1]; rfl, by rw [← h2]; rfl⟩
          clear hi0 hk hb
          obtain ⟨b9, o9, e9, k0, k1, k2⟩ := HX1.out.at HDK.out
          obtain ⟨rfl, rfl⟩ : bb = b9 ∧ off = o9 := by simpa using e9
          have LV := st_level HQ1.out (clW b)
          rw [atW_of HQ1.out.nd HMB.out rfl, hasW_iff.2 ⟨b, HMB.out, rfl⟩] at LV
          clear e9
          go_wp2_with fail
          refine LV.mono ?_
          rintro en W2 ⟨rfl, hb8⟩
          have HQ2 : Hid (Qst w1 W2 qb L C) := HQ1.out.below hb8
          have HX2 : Hid (RdX W2 (some ⟨bb, off, none⟩) D) := HX1.out.below hb8
          clear LV hb8 HQ1 HX1 k0 k1 k2
          obtain ⟨sx, hsx⟩ : ∃ sx, seeQ C (clW b) = sx := ⟨_, rfl⟩
          obtain ⟨sy, hsy⟩ : ∃ sy, seeQ C (clW a) = sy := ⟨_, rfl⟩
          have HSB : Hid (seeQ C (clW b) = sx) := hsx
          have HSA : Hid (seeQ C (clW a) = sy) := hsy
          have HLN : Hid (a.ln = (bif sy then 0 else 1) ∧ b.ln = (bif sx then 0 else 1)) := by
            have h1 := HRE2.out
            unfold lnQ at h1
            rw [hsx, hsy] at h1
            exact h1
          clear hsx hsy HRE2
          go_upto_region 19 with fail
          have hb1 := (Below.refl W2.heap.size W2).drew
          obtain ⟨b8, o8, e8, m0, m1, m2⟩ := HX2.out.at HDK.out
          obtain ⟨rfl, rfl⟩ : bb = b8 ∧ off = o8 := by simpa using e8
          obtain ⟨b8, o8, e8', k0, k1, k2⟩ := HX2.out.at HDI.out
          obtain ⟨rfl, rfl⟩ : bb = b8 ∧ off = o8 := by simpa using e8'
          clear e8 e8'
          refine wp_region_held_drew (S := fun W => (W.cell? ⟨bb, off + k * 3, none⟩ = some (.int .i64 b.s) ∧ W.cell? ⟨bb, off + k * 3 + 1, none⟩ = some (.int .i64 b.r) ∧ W.cell? ⟨bb, off + k * 3 + 2, none⟩ = some (.int .i64 b.c)) ∧ W.cell? ⟨bb, off + i * 3, none⟩ = some (.int .i64 a.s) ∧ W.cell? ⟨bb, off + i * 3 + 1, none⟩ = some (.int .i64 a.r) ∧ W.cell? ⟨bb, off + i * 3 + 2, none⟩ = some (.int .i64 a.c)) (by kernel_rfl) ⟨⟨cell_below hb1 m0, cell_below hb1 m1, cell_below hb1 m2⟩, cell_below hb1 k0, cell_below hb1 k1, cell_below hb1 k2⟩ (fun hHeld => ?_)
          have HQ3 : Hid (Qst w1 W2.drew qb L C) := HQ2.out.below hb1
          have HX3 : Hid (RdX W2.drew (some ⟨bb, off, none⟩) D) := HX2.out.below hb1
          clear hb1 HQ2 HX2 m0 m1 m2 k0 k1 k2
          generalize W2.drew = W3 at *
          refine wpAnyH_take (i := 0) (oi := { dst := Option.some 90, op := Op.move (Operand.tmp 1), type := 29, pos := "outright.go:60", after := #[], guard := Option.none }) (v := ?_) rfl (by kernel_rfl) (by kernel_rfl) (by kernel_rfl) (fun _ _ _ h => h) (Or.inl ⟨by rfl, ?_⟩) (by assumption) ?_
          rotate_left
          · intro w hSw
            (try dsimp only at hSw)
            go_simp
            try with_reducible rfl
          try simp only [Act.put, List.setIfInBounds_toArray, List.set_cons_zero, List.set_cons_succ]
          refine wpAnyH_take (i := 1) (oi := { dst := Option.some 91, op := Op.move (Operand.tmp 6), type := 44, pos := "outright.go:60", after := #[], guard := Option.none }) (v := ?_) rfl (by kernel_rfl) (by kernel_rfl) (by kernel_rfl) (fun _ _ _ h => h) (Or.inl ⟨by rfl, ?_⟩) (by assumption) ?_
          rotate_left
          · intro w hSw
            (try dsimp only at hSw)
            go_simp
            try with_reducible rfl
          try simp only [Act.put, List.setIfInBounds_toArray, List.set_cons_zero, List.set_cons_succ]
          refine wpAnyH_take (i := 2) (oi := { dst := Option.some 92, op := Op.move (Operand.tmp 9), type := 3, pos := "outright.go:60", after := #[], guard := Option.none }) (v := ?_) rfl (by kernel_rfl) (by kernel_rfl) (by kernel_rfl) (fun _ _ _ h => h) (Or.inl ⟨by rfl, ?_⟩) (by assumption) ?_
          rotate_left
          · intro w hSw
            (try dsimp only at hSw)
            go_simp
            try with_reducible rfl
          try simp only [Act.put, List.setIfInBounds_toArray, List.set_cons_zero, List.set_cons_succ]
          refine wpAnyH_take (i := 3) (oi := { dst := Option.some 93, op := Op.binOp BinOp.sub 3 (Operand.tmp 92) (Operand.const (Value.int IntKind.i64 1)) 3, type := 3, pos := "outright.go:60", after := #[{ on := 2, ground := Ground.data }], guard := Option.none }) (v := ?_) rfl (by kernel_rfl) (by kernel_rfl) (by kernel_rfl) (fun _ _ _ h => h) (Or.inl ⟨by rfl, ?_⟩) (by assumption) ?_
          rotate_left
          · intro w hSw
            (try dsimp only at hSw)
            go_simp
            try with_reducible rfl
          try simp only [Act.put, List.setIfInBounds_toArray, List.set_cons_zero, List.set_cons_succ]
          refine wpAnyH_take (i := 4) (oi := { dst := Option.some 94, op := Op.indexAddr 44 (Operand.tmp 91) (Operand.tmp 93), type := 0, pos := "outright.go:60", after := #[{ on := 1, ground := Ground.data }, { on := 3, ground := Ground.data }], guard := Option.none }) (v := ?_) rfl (by kernel_rfl) (by kernel_rfl) (by kernel_rfl) (fun _ _ _ h => h) (Or.inl ⟨by rfl, ?_⟩) (by assumption) ?_
          rotate_left
          · intro w hSw
            (try dsimp only at hSw)
            go_simp
            try with_reducible rfl
          try simp only [Act.put, List.setIfInBounds_toArray, List.set_cons_zero, List.set_cons_succ]
          refine wpAnyH_take (i := 5) (oi := { dst := Option.some 95, op := Op.load 33 (Operand.tmp 94), type := 33, pos := "outright.go:60", after := #[{ on := 4, ground := Ground.data }], guard := Option.none }) (v := ?_) rfl (by kernel_rfl) (by kernel_rfl) (by kernel_rfl) (fun _ _ _ h => h) (Or.inl ⟨by rfl, ?_⟩) (by assumption) ?_
          rotate_left
          · intro w hSw
            (try dsimp only at hSw)
            go_simp
            try with_reducible rfl
          try simp only [Act.put, List.setIfInBounds_toArray, List.set_cons_zero, List.set_cons_succ]
          refine wpAnyH_take (i := 7) (oi := { dst := Option.some 97, op := Op.move (Operand.tmp 1), type := 29, pos := "outright.go:60", after := #[], guard := Option.none }) (v := ?_) rfl (by kernel_rfl) (by kernel_rfl) (by kernel_rfl) (fun _ _ _ h => h) (Or.inl ⟨by rfl, ?_⟩) (by assumption) ?_
          rotate_left
          · intro w hSw
            (try dsimp only at hSw)
            go_simp
            try with_reducible rfl
          try simp only [Act.put, List.setIfInBounds_toArray, List.set_cons_zero, List.set_cons_succ]
          refine wpAnyH_take (i := 8) (oi := { dst := Option.some 98, op := Op.move (Operand.tmp 6), type := 44, pos := "outright.go:60", after := #[], guard := Option.none }) (v := ?_) rfl (by kernel_rfl) (by kernel_rfl) (by kernel_rfl) (fun _ _ _ h => h) (Or.inl ⟨by rfl, ?_⟩) (by assumption) ?_
          rotate_left
          · intro w hSw
            (try dsimp only at hSw)
            go_simp
            try with_reducible rfl
          try simp only [Act.put, List.setIfInBounds_toArray, List.set_cons_zero, List.set_cons_succ]
          refine wpAnyH_take (i := 9) (oi := { dst := Option.some 99, op := Op.move (Operand.tmp 9), type := 3, pos := "outright.go:60", after := #[], guard := Option.none }) (v := ?_) rfl (by kernel_rfl) (by kernel_rfl) (by kernel_rfl) (fun _ _ _ h => h) (Or.inl ⟨by rfl, ?_⟩) (by assumption) ?_
          rotate_left
          · intro w hSw
            (try dsimp only at hSw)
            go_simp
            try with_reducible rfl
          try simp only [Act.put, List.setIfInBounds_toArray, List.set_cons_zero, List.set_cons_succ]
          refine wpAnyH_take (i := 10) (oi := { dst := Option.some 100, op := Op.indexAddr 44 (Operand.tmp 98) (Operand.tmp 99), type := 0, pos := "outright.go:60", after := #[{ on := 8, ground := Ground.data }, { on := 9, ground := Ground.data }], guard := Option.none }) (v := ?_) rfl (by kernel_rfl) (by kernel_rfl) (by kernel_rfl) (fun _ _ _ h => h) (Or.inl ⟨by rfl, ?_⟩) (by assumption) ?_
          rotate_left
          · intro w hSw
            (try dsimp only at hSw)
            go_simp
            try with_reducible rfl
          try simp only [Act.put, List.setIfInBounds_toArray, List.set_cons_zero, List.set_cons_succ]
          refine wpAnyH_take (i := 11) (oi := { dst := Option.some 101, op := Op.load 33 (Operand.tmp 100), type := 33, pos := "outright.go:60", after := #[{ on := 10, ground := Ground.data }], guard := Option.none }) (v := ?_) rfl (by kernel_rfl) (by kernel_rfl) (by kernel_rfl) (fun _ _ _ h => h) (Or.inl ⟨by rfl, ?_⟩) (by assumption) ?_
          rotate_left
          · intro w hSw
            (try dsimp only at hSw)
            go_simp
            try with_reducible rfl
          try simp only [Act.put, List.setIfInBounds_toArray, List.set_cons_zero, List.set_cons_succ]
          refine wpAnyH_ready (rs := [6]) (by kernel_rfl) (by simp) ?_
          refine AllReadyH.cons (o := { dst := Option.some 96, op := Op.call { callee := Callee.value (Operand.func 23), args := #[Operand.tmp 90, Operand.tmp 95], argTypes := #[29, 33] }, type := 4, pos := "outright.go:60", after := #[{ on := 0, ground := Ground.data }, { on := 5, ground := Ground.data }], guard := Option.none }) rfl (fun K hK => ?_) AllReadyH.nil
          have SN := seen_any C (clW b) bv m bcap W3 ((HAR.out.1.below HB1.out).below HQ3.out.bl) HAR.out.2.1 (fun _ => by have := HAR.out.2.2.2; omega)
          rw [HSB.out] at SN
          go_simp
          refine SN.mono ?_
          rintro en w4 ⟨rfl, hb4⟩
          have HQ4 : Hid (Qst w1 w4 qb L C) := HQ3.out.below hb4
          have HX4 : Hid (RdX w4 (some ⟨bb, off, none⟩) D) := HX3.out.below hb4
          clear SN hb4 HQ3 HX3
          obtain ⟨b8, o8, e8, m0, m1, m2⟩ := HX4.out.at HDK.out
          obtain ⟨rfl, rfl⟩ : bb = b8 ∧ off = o8 := by simpa using e8
          obtain ⟨b8, o8, e8', k0, k1, k2⟩ := HX4.out.at HDI.out
          obtain ⟨rfl, rfl⟩ : bb = b8 ∧ off = o8 := by simpa using e8'
          clear e8 e8'
          go_wp2_with fail
          refine hK.out _ _ ⟨⟨m0, m1, m2⟩, k0, k1, k2⟩ (fun hHeld => ?_)
          clear hK K m0 m1 m2 k0 k1 k2
          try simp only [Act.put, List.setIfInBounds_toArray, List.set_cons_zero, List.set_cons_succ]
          refine wpAnyH_ready (rs := [12]) (by kernel_rfl) (by simp) ?_
          refine AllReadyH.cons (o := { dst := Option.some 102, op := Op.call { callee := Callee.value (Operand.func 23), args := #[Operand.tmp 97, Operand.tmp 101], argTypes := #[29, 33] }, type := 4, pos := "outright.go:60", after := #[{ on := 7, ground := Ground.data }, { on := 11, ground := Ground.data }, { on := 6, ground := Ground.chain }], guard := Option.none }) rfl (fun K hK => ?_) AllReadyH.nil
          have SN := seen_any C (clW a) bv m bcap w4 ((HAR.out.1.below HB1.out).below HQ4.out.bl) HAR.out.2.1 (fun _ => by have := HAR.out.2.2.2; omega)
          rw [HSA.out] at SN
          go_simp
          refine SN.mono ?_
          rintro en w5 ⟨rfl, hb4⟩
          have HQ5 : Hid (Qst w1 w5 qb L C) := HQ4.out.below hb4
          have HX5 : Hid (RdX w5 (some ⟨bb, off, none⟩) D) := HX4.out.below hb4
          clear SN hb4 HQ4 HX4
          obtain ⟨b8, o8, e8, m0, m1, m2⟩ := HX5.out.at HDK.out
          obtain ⟨rfl, rfl⟩ : bb = b8 ∧ off = o8 := by simpa using e8
          obtain ⟨b8, o8, e8', k0, k1, k2⟩ := HX5.out.at HDI.out
          obtain ⟨rfl, rfl⟩ : bb = b8 ∧ off = o8 := by simpa using e8'
          clear e8 e8'
          go_wp2_with fail
          refine hK.out _ _ ⟨⟨m0, m1, m2⟩, k0, k1, k2⟩ (fun hHeld => ?_)
          clear hK K m0 m1 m2 k0 k1 k2
          try simp only [Act.put, List.setIfInBounds_toArray, List.set_cons_zero, List.set_cons_succ]
          refine wpAnyH_ready (rs := [13]) (by kernel_rfl) (by simp) ?_
          refine AllReadyH.cons (o := { dst := Option.some 14, op := Op.assign (Operand.tmp 96), type := 4, pos := "outright.go:60", after := #[{ on := 6, ground := Ground.data }, { on := 12, ground := Ground.chain }, { on := 0, ground := Ground.phase }, { on := 1, ground := Ground.phase }, { on := 2, ground := Ground.phase }, { on := 3, ground := Ground.phase }, { on := 4, ground := Ground.phase }, { on := 5, ground := Ground.phase }, { on := 6, ground := Ground.phase }, { on := 7, ground := Ground.textOnly Departure.lateStores }, { on := 8, ground := Ground.textOnly Departure.lateStores }, { on := 9, ground := Ground.textOnly Departure.lateStores }, { on := 10, ground := Ground.textOnly Departure.lateStores }, { on := 11, ground := Ground.textOnly Departure.lateStores }, { on := 12, ground := Ground.textOnly Departure.lateStoresUnsure }], guard := Option.none }) rfl (fun K hK => ?_) AllReadyH.nil
          obtain ⟨b8, o8, e8, m0, m1, m2⟩ := HX5.out.at HDK.out
          obtain ⟨rfl, rfl⟩ : bb = b8 ∧ off = o8 := by simpa using e8
          obtain ⟨b8, o8, e8', k0, k1, k2⟩ := HX5.out.at HDI.out
          obtain ⟨rfl, rfl⟩ : bb = b8 ∧ off = o8 := by simpa using e8'
          clear e8 e8'
          go_simp
          refine hK.out _ _ ⟨⟨m0, m1, m2⟩, k0, k1, k2⟩ (fun hHeld => ?_)
          clear hK K m0 m1 m2 k0 k1 k2
          try simp only [Act.put, List.setIfInBounds_toArray, List.set_cons_zero, List.set_cons_succ]
          refine wpAnyH_ready (rs := [14]) (by kernel_rfl) (by simp) ?_
          refine AllReadyH.cons (o := { dst := Option.some 15, op := Op.assign (Operand.tmp 102), type := 4, pos := "outright.go:60", after := #[{ on := 12, ground := Ground.data }, { on := 13, ground := Ground.chain }, { on := 0, ground := Ground.phase }, { on := 1, ground := Ground.phase }, { on := 2, ground := Ground.phase }, { on := 3, ground := Ground.phase }, { on := 4, ground := Ground.phase }, { on := 5, ground := Ground.phase }, { on := 6, ground := Ground.phase }, { on := 7, ground := Ground.phase }, { on := 8, ground := Ground.phase }, { on := 9, ground := Ground.phase }, { on := 10, ground := Ground.phase }, { on := 11, ground := Ground.phase }, { on := 12, ground := Ground.phase }, { on := 13, ground := Ground.phase }], guard := Option.none }) rfl (fun K hK => ?_) AllReadyH.nil
          obtain ⟨b8, o8, e8, m0, m1, m2⟩ := HX5.out.at HDK.out
          obtain ⟨rfl, rfl⟩ : bb = b8 ∧ off = o8 := by simpa using e8
          obtain ⟨b8, o8, e8', k0, k1, k2⟩ := HX5.out.at HDI.out
          obtain ⟨rfl, rfl⟩ : bb = b8 ∧ off = o8 := by simpa using e8'
          clear e8 e8'
          go_simp
          refine hK.out _ _ ⟨⟨m0, m1, m2⟩, k0, k1, k2⟩ (fun hHeld => ?_)
          clear hK K m0 m1 m2 k0 k1 k2
          try simp only [Act.put, List.setIfInBounds_toArray, List.set_cons_zero, List.set_cons_succ]
          refine wpAnyH_done (by kernel_rfl) ?_ _
          clear hHeld

          have HCS : Hid ((sx = true ∧ sy = false) ∨ (sx = sy ∧ (b.lv < a.lv ∨ (b.lv = a.lv ∧ Wpl.before b.s b.r b.c a.s a.r a.c = true)))) := by
            have h1 := HLT.out
            have h2 := HLN.out
            have hbf : Wpl.before b.s b.r b.c a.s a.r a.c = true ↔ b.s < a.s ∨ b.s = a.s ∧ (b.r < a.r ∨ b.r = a.r ∧ b.c < a.c) := by
              unfold Wpl.before
              by_cases h : b.s = a.s
              · rw [if_neg (by simp [h])]
                by_cases k : b.r = a.r
                · rw [if_neg (by simp [k]), decide_eq_true_eq]
                  omega
                · rw [if_pos k, decide_eq_true_eq]
                  omega
              · rw [if_pos h, decide_eq_true_eq]
                omega
            unfold Wq.ltW at h1
            rw [decide_eq_true_eq, h2.1, h2.2] at h1
            show _ ∨ _
            rw [hbf]
            cases sx <;> cases sy <;> simp only [cond_true, cond_false] at h1 <;> simp <;> omega
          clear HLT HLN HSA HSB
          rcases HCS.out with ⟨q1, q2⟩ | ⟨q1, q2⟩
          · subst q1 q2
            clear HCS
            go_upto_region 20 with fail
            have hb1 := (Below.refl w5.heap.size w5).drew
            obtain ⟨b8, o8, e8, m0, m1, m2⟩ := HX5.out.at HDK.out
            obtain ⟨rfl, rfl⟩ : bb = b8 ∧ off = o8 := by simpa using e8
            obtain ⟨b8, o8, e8', k0, k1, k2⟩ := HX5.out.at HDI.out
            obtain ⟨rfl, rfl⟩ : bb = b8 ∧ off = o8 := by simpa using e8'
            clear e8 e8'
            refine wp_region_held_drew (S := fun W => (W.cell? ⟨bb, off + k * 3, none⟩ = some (.int .i64 b.s) ∧ W.cell? ⟨bb, off + k * 3 + 1, none⟩ = some (.int .i64 b.r) ∧ W.cell? ⟨bb, off + k * 3 + 2, none⟩ = some (.int .i64 b.c)) ∧ W.cell? ⟨bb, off + i * 3, none⟩ = some (.int .i64 a.s) ∧ W.cell? ⟨bb, off + i * 3 + 1, none⟩ = some (.int .i64 a.r) ∧ W.cell? ⟨bb, off + i * 3 + 2, none⟩ = some (.int .i64 a.c)) (by kernel_rfl) ⟨⟨cell_below hb1 m0, cell_below hb1 m1, cell_below hb1 m2⟩, cell_below hb1 k0, cell_below hb1 k1, cell_below hb1 k2⟩ (fun hHeld => ?_)
            have HQ6 : Hid (Qst w1 w5.drew qb L C) := HQ5.out.below hb1
            have HX6 : Hid (RdX w5.drew (some ⟨bb, off, none⟩) D) := HX5.out.below hb1
            clear hb1 HQ5 HX5 m0 m1 m2 k0 k1 k2
            generalize w5.drew = W6 at *
            refine wpAnyH_take (i := 0) (oi := { dst := Option.some 103, op := Op.move (Operand.tmp 14), type := 4, pos := "outright.go:61", after := #[], guard := Option.none }) (v := ?_) rfl (by kernel_rfl) (by kernel_rfl) (by kernel_rfl) (fun _ _ _ h => h) (Or.inl ⟨by rfl, ?_⟩) (by assumption) ?_
            rotate_left
            · intro w hSw
              (try dsimp only at hSw)
              go_simp
              try with_reducible rfl
            try simp only [Act.put, List.setIfInBounds_toArray, List.set_cons_zero, List.set_cons_succ]
            refine wpAnyH_take (i := 1) (oi := { dst := Option.some 104, op := Op.unOp UnOp.not 4 (Operand.tmp 103), type := 4, pos := "outright.go:61", after := #[{ on := 0, ground := Ground.data }], guard := Option.none }) (v := ?_) rfl (by kernel_rfl) (by kernel_rfl) (by kernel_rfl) (fun _ _ _ h => h) (Or.inl ⟨by rfl, ?_⟩) (by assumption) ?_
            rotate_left
            · intro w hSw
              (try dsimp only at hSw)
              go_simp
              try with_reducible rfl
            try simp only [Act.put, List.setIfInBounds_toArray, List.set_cons_zero, List.set_cons_succ]
            refine wpAnyH_take (i := 2) (oi := { dst := Option.some 105, op := Op.move (Operand.tmp 104), type := 4, pos := "outright.go:61", after := #[{ on := 1, ground := Ground.data }], guard := Option.none }) (v := ?_) rfl (by kernel_rfl) (by kernel_rfl) (by kernel_rfl) (fun _ _ _ h => h) (Or.inl ⟨by rfl, ?_⟩) (by assumption) ?_
            rotate_left
            · intro w hSw
              (try dsimp only at hSw)
              go_simp
              try with_reducible rfl
            try simp only [Act.put, List.setIfInBounds_toArray, List.set_cons_zero, List.set_cons_succ]
            refine wpAnyH_take (i := 3) (oi := { dst := Option.some 106, op := Op.move (Operand.tmp 15), type := 4, pos := "outright.go:61", after := #[{ on := 2, ground := Ground.guard }], guard := Option.some (2, Bool.true) }) (v := undef) rfl (by kernel_rfl) (by kernel_rfl) (by kernel_rfl) (fun _ _ _ h => h) (Or.inr ⟨by rfl, rfl⟩) (by assumption) ?_
            try simp only [Act.put, List.setIfInBounds_toArray, List.set_cons_zero, List.set_cons_succ]
            refine wpAnyH_take (i := 4) (oi := { dst := Option.some 107, op := Op.pick (Operand.tmp 105) (Operand.tmp 106) (Operand.const (Value.bool Bool.false)), type := 4, pos := "outright.go:61", after := #[{ on := 2, ground := Ground.data }, { on := 3, ground := Ground.data }], guard := Option.none }) (v := ?_) rfl (by kernel_rfl) (by kernel_rfl) (by kernel_rfl) (fun _ _ _ h => h) (Or.inl ⟨by rfl, ?_⟩) (by assumption) ?_
            rotate_left
            · intro w hSw
              (try dsimp only at hSw)
              go_simp
              try with_reducible rfl
            try simp only [Act.put, List.setIfInBounds_toArray, List.set_cons_zero, List.set_cons_succ]
            refine wpAnyH_take (i := 5) (oi := { dst := Option.some 108, op := Op.move (Operand.tmp 107), type := 4, pos := "outright.go:61", after := #[{ on := 4, ground := Ground.data }, { on := 2, ground := Ground.chain }], guard := Option.none }) (v := ?_) rfl (by kernel_rfl) (by kernel_rfl) (by kernel_rfl) (fun _ _ _ h => h) (Or.inl ⟨by rfl, ?_⟩) (by assumption) ?_
            rotate_left
            · intro w hSw
              (try dsimp only at hSw)
              go_simp
              try with_reducible rfl
            try simp only [Act.put, List.setIfInBounds_toArray, List.set_cons_zero, List.set_cons_succ]
            refine wpAnyH_take (i := 6) (oi := { dst := Option.some 109, op := Op.move (Operand.tmp 14), type := 4, pos := "outright.go:61", after := #[{ on := 5, ground := Ground.guard }], guard := Option.some (5, Bool.false) }) (v := ?_) rfl (by kernel_rfl) (by kernel_rfl) (by kernel_rfl) (fun _ _ _ h => h) (Or.inl ⟨by rfl, ?_⟩) (by assumption) ?_
            rotate_left
            · intro w hSw
              (try dsimp only at hSw)
              go_simp
              try with_reducible rfl
            try simp only [Act.put, List.setIfInBounds_toArray, List.set_cons_zero, List.set_cons_succ]
            refine wpAnyH_take (i := 7) (oi := { dst := Option.some 110, op := Op.move (Operand.tmp 15), type := 4, pos := "outright.go:61", after := #[{ on := 5, ground := Ground.guard }], guard := Option.some (5, Bool.false) }) (v := ?_) rfl (by kernel_rfl) (by kernel_rfl) (by kernel_rfl) (fun _ _ _ h => h) (Or.inl ⟨by rfl, ?_⟩) (by assumption) ?_
            rotate_left
            · intro w hSw
              (try dsimp only at hSw)
              go_simp
              try with_reducible rfl
            try simp only [Act.put, List.setIfInBounds_toArray, List.set_cons_zero, List.set_cons_succ]
            refine wpAnyH_take (i := 8) (oi := { dst := Option.some 111, op := Op.binOp BinOp.eql 4 (Operand.tmp 109) (Operand.tmp 110) 4, type := 4, pos := "outright.go:61", after := #[{ on := 6, ground := Ground.data }, { on := 7, ground := Ground.data }, { on := 5, ground := Ground.guard }], guard := Option.some (5, Bool.false) }) (v := ?_) rfl (by kernel_rfl) (by kernel_rfl) (by kernel_rfl) (fun _ _ _ h => h) (Or.inl ⟨by rfl, ?_⟩) (by assumption) ?_
            rotate_left
            · intro w hSw
              (try dsimp only at hSw)
              go_simp
              try with_reducible rfl
            try simp only [Act.put, List.setIfInBounds_toArray, List.set_cons_zero, List.set_cons_succ]
            refine wpAnyH_take (i := 9) (oi := { dst := Option.some 112, op := Op.move (Operand.tmp 111), type := 4, pos := "outright.go:61", after := #[{ on := 8, ground := Ground.data }, { on := 5, ground := Ground.chain }, { on := 5, ground := Ground.guard }], guard := Option.some (5, Bool.false) }) (v := ?_) rfl (by kernel_rfl) (by kernel_rfl) (by kernel_rfl) (fun _ _ _ h => h) (Or.inl ⟨by rfl, ?_⟩) (by assumption) ?_
            rotate_left
            · intro w hSw
              (try dsimp only at hSw)
              go_simp
              try with_reducible rfl
            try simp only [Act.put, List.setIfInBounds_toArray, List.set_cons_zero, List.set_cons_succ]
            refine wpAnyH_take (i := 10) (oi := { dst := Option.some 113, op := Op.move (Operand.tmp 12), type := 3, pos := "outright.go:61", after := #[{ on := 9, ground := Ground.guard }], guard := Option.some (9, Bool.true) }) (v := undef) rfl (by kernel_rfl) (by kernel_rfl) (by kernel_rfl) (fun _ _ _ h => h) (Or.inr ⟨by rfl, rfl⟩) (by assumption) ?_
            try simp only [Act.put, List.setIfInBounds_toArray, List.set_cons_zero, List.set_cons_succ]
            refine wpAnyH_take (i := 11) (oi := { dst := Option.some 114, op := Op.move (Operand.tmp 10), type := 3, pos := "outright.go:61", after := #[{ on := 9, ground := Ground.guard }], guard := Option.some (9, Bool.true) }) (v := undef) rfl (by kernel_rfl) (by kernel_rfl) (by kernel_rfl) (fun _ _ _ h => h) (Or.inr ⟨by rfl, rfl⟩) (by assumption) ?_
            try simp only [Act.put, List.setIfInBounds_toArray, List.set_cons_zero, List.set_cons_succ]
            refine wpAnyH_take (i := 12) (oi := { dst := Option.some 115, op := Op.binOp BinOp.gtr 3 (Operand.tmp 113) (Operand.tmp 114) 3, type := 4, pos := "outright.go:61", after := #[{ on := 10, ground := Ground.data }, { on := 11, ground := Ground.data }, { on := 9, ground := Ground.guard }], guard := Option.some (9, Bool.true) }) (v := undef) rfl (by kernel_rfl) (by kernel_rfl) (by kernel_rfl) (fun _ _ _ h => h) (Or.inr ⟨by rfl, rfl⟩) (by assumption) ?_
            try simp only [Act.put, List.setIfInBounds_toArray, List.set_cons_zero, List.set_cons_succ]
            refine wpAnyH_take (i := 13) (oi := { dst := Option.some 116, op := Op.move (Operand.tmp 115), type := 4, pos := "outright.go:61", after := #[{ on := 12, ground := Ground.data }, { on := 9, ground := Ground.chain }, { on := 9, ground := Ground.guard }], guard := Option.some (9, Bool.true) }) (v := undef) rfl (by kernel_rfl) (by kernel_rfl) (by kernel_rfl) (fun _ _ _ h => h) (Or.inr ⟨by rfl, rfl⟩) (by assumption) ?_
            try simp only [Act.put, List.setIfInBounds_toArray, List.set_cons_zero, List.set_cons_succ]
            refine wpAnyH_take (i := 14) (oi := { dst := Option.some 117, op := Op.move (Operand.tmp 12), type := 3, pos := "outright.go:61", after := #[{ on := 13, ground := Ground.guard }], guard := Option.some (13, Bool.false) }) (v := undef) rfl (by kernel_rfl) (by kernel_rfl) (by kernel_rfl) (fun _ _ _ h => h) (Or.inr ⟨by rfl, rfl⟩) (by assumption) ?_
            try simp only [Act.put, List.setIfInBounds_toArray, List.set_cons_zero, List.set_cons_succ]
            refine wpAnyH_take (i := 15) (oi := { dst := Option.some 118, op := Op.move (Operand.tmp 10), type := 3, pos := "outright.go:61", after := #[{ on := 13, ground := Ground.guard }], guard := Option.some (13, Bool.false) }) (v := undef) rfl (by kernel_rfl) (by kernel_rfl) (by kernel_rfl) (fun _ _ _ h => h) (Or.inr ⟨by rfl, rfl⟩) (by assumption) ?_
            try simp only [Act.put, List.setIfInBounds_toArray, List.set_cons_zero, List.set_cons_succ]
            refine wpAnyH_take (i := 16) (oi := { dst := Option.some 119, op := Op.binOp BinOp.eql 3 (Operand.tmp 117) (Operand.tmp 118) 3, type := 4, pos := "outright.go:61", after := #[{ on := 14, ground := Ground.data }, { on := 15, ground := Ground.data }, { on := 13, ground := Ground.guard }], guard := Option.some (13, Bool.false) }) (v := undef) rfl (by kernel_rfl) (by kernel_rfl) (by kernel_rfl) (fun _ _ _ h => h) (Or.inr ⟨by rfl, rfl⟩) (by assumption) ?_
            try simp only [Act.put, List.setIfInBounds_toArray, List.set_cons_zero, List.set_cons_succ]
            refine wpAnyH_take (i := 17) (oi := { dst := Option.some 120, op := Op.move (Operand.tmp 119), type := 4, pos := "outright.go:61", after := #[{ on := 16, ground := Ground.data }, { on := 13, ground := Ground.chain }, { on := 13, ground := Ground.guard }], guard := Option.some (13, Bool.false) }) (v := undef) rfl (by kernel_rfl) (by kernel_rfl) (by kernel_rfl) (fun _ _ _ h => h) (Or.inr ⟨by rfl, rfl⟩) (by assumption) ?_
            try simp only [Act.put, List.setIfInBounds_toArray, List.set_cons_zero, List.set_cons_succ]
            refine wpAnyH_take (i := 18) (oi := { dst := Option.some 121, op := Op.move (Operand.tmp 6), type := 44, pos := "outright.go:61", after := #[{ on := 17, ground := Ground.guard }], guard := Option.some (17, Bool.true) }) (v := undef) rfl (by kernel_rfl) (by kernel_rfl) (by kernel_rfl) (fun _ _ _ h => h) (Or.inr ⟨by rfl, rfl⟩) (by assumption) ?_
            try simp only [Act.put, List.setIfInBounds_toArray, List.set_cons_zero, List.set_cons_succ]
            refine wpAnyH_take (i := 19) (oi := { dst := Option.some 122, op := Op.move (Operand.tmp 9), type := 3, pos := "outright.go:61", after := #[{ on := 17, ground := Ground.guard }], guard := Option.some (17, Bool.true) }) (v := undef) rfl (by kernel_rfl) (by kernel_rfl) (by kernel_rfl) (fun _ _ _ h => h) (Or.inr ⟨by rfl, rfl⟩) (by assumption) ?_
            try simp only [Act.put, List.setIfInBounds_toArray, List.set_cons_zero, List.set_cons_succ]
            refine wpAnyH_take (i := 20) (oi := { dst := Option.some 123, op := Op.binOp BinOp.sub 3 (Operand.tmp 122) (Operand.const (Value.int IntKind.i64 1)) 3, type := 3, pos := "outright.go:61", after := #[{ on := 19, ground := Ground.data }, { on := 17, ground := Ground.guard }], guard := Option.some (17, Bool.true) }) (v := undef) rfl (by kernel_rfl) (by kernel_rfl) (by kernel_rfl) (fun _ _ _ h => h) (Or.inr ⟨by rfl, rfl⟩) (by assumption) ?_
            try simp only [Act.put, List.setIfInBounds_toArray, List.set_cons_zero, List.set_cons_succ]
            refine wpAnyH_take (i := 21) (oi := { dst := Option.some 124, op := Op.indexAddr 44 (Operand.tmp 121) (Operand.tmp 123), type := 0, pos := "outright.go:61", after := #[{ on := 18, ground := Ground.data }, { on := 20, ground := Ground.data }, { on := 17, ground := Ground.guard }], guard := Option.some (17, Bool.true) }) (v := undef) rfl (by kernel_rfl) (by kernel_rfl) (by kernel_rfl) (fun _ _ _ h => h) (Or.inr ⟨by rfl, rfl⟩) (by assumption) ?_
            try simp only [Act.put, List.setIfInBounds_toArray, List.set_cons_zero, List.set_cons_succ]
            refine wpAnyH_take (i := 22) (oi := { dst := Option.some 125, op := Op.load 33 (Operand.tmp 124), type := 33, pos := "outright.go:61", after := #[{ on := 21, ground := Ground.data }, { on := 17, ground := Ground.guard }], guard := Option.some (17, Bool.true) }) (v := undef) rfl (by kernel_rfl) (by kernel_rfl) (by kernel_rfl) (fun _ _ _ h => h) (Or.inr ⟨by rfl, rfl⟩) (by assumption) ?_
            try simp only [Act.put, List.setIfInBounds_toArray, List.set_cons_zero, List.set_cons_succ]
            refine wpAnyH_take (i := 23) (oi := { dst := Option.some 126, op := Op.move (Operand.tmp 6), type := 44, pos := "outright.go:61", after := #[{ on := 17, ground := Ground.guard }], guard := Option.some (17, Bool.true) }) (v := undef) rfl (by kernel_rfl) (by kernel_rfl) (by kernel_rfl) (fun _ _ _ h => h) (Or.inr ⟨by rfl, rfl⟩) (by assumption) ?_
            try simp only [Act.put, List.setIfInBounds_toArray, List.set_cons_zero, List.set_cons_succ]
            refine wpAnyH_take (i := 24) (oi := { dst := Option.some 127, op := Op.move (Operand.tmp 9), type := 3, pos := "outright.go:61", after := #[{ on := 17, ground := Ground.guard }], guard := Option.some (17, Bool.true) }) (v := undef) rfl (by kernel_rfl) (by kernel_rfl) (by kernel_rfl) (fun _ _ _ h => h) (Or.inr ⟨by rfl, rfl⟩) (by assumption) ?_
            try simp only [Act.put, List.setIfInBounds_toArray, List.set_cons_zero, List.set_cons_succ]
            refine wpAnyH_take (i := 25) (oi := { dst := Option.some 128, op := Op.indexAddr 44 (Operand.tmp 126) (Operand.tmp 127), type := 0, pos := "outright.go:61", after := #[{ on := 23, ground := Ground.data }, { on := 24, ground := Ground.data }, { on := 17, ground := Ground.guard }], guard := Option.some (17, Bool.true) }) (v := undef) rfl (by kernel_rfl) (by kernel_rfl) (by kernel_rfl) (fun _ _ _ h => h) (Or.inr ⟨by rfl, rfl⟩) (by assumption) ?_
            try simp only [Act.put, List.setIfInBounds_toArray, List.set_cons_zero, List.set_cons_succ]
            refine wpAnyH_take (i := 26) (oi := { dst := Option.some 129, op := Op.load 33 (Operand.tmp 128), type := 33, pos := "outright.go:61", after := #[{ on := 25, ground := Ground.data }, { on := 17, ground := Ground.guard }], guard := Option.some (17, Bool.true) }) (v := undef) rfl (by kernel_rfl) (by kernel_rfl) (by kernel_rfl) (fun _ _ _ h => h) (Or.inr ⟨by rfl, rfl⟩) (by assumption) ?_
            try simp only [Act.put, List.setIfInBounds_toArray, List.set_cons_zero, List.set_cons_succ]
            refine wpAnyH_take (i := 27) (oi := { dst := Option.some 130, op := Op.call { callee := Callee.value (Operand.func 24), args := #[Operand.tmp 125, Operand.tmp 129], argTypes := #[33, 33] }, type := 4, pos := "outright.go:61", after := #[{ on := 22, ground := Ground.data }, { on := 26, ground := Ground.data }, { on := 17, ground := Ground.chain }, { on := 17, ground := Ground.guard }], guard := Option.some (17, Bool.true) }) (v := undef) rfl (by kernel_rfl) (by kernel_rfl) (by kernel_rfl) (fun _ _ _ h => h) (Or.inr ⟨by rfl, rfl⟩) (by assumption) ?_
            try simp only [Act.put, List.setIfInBounds_toArray, List.set_cons_zero, List.set_cons_succ]
            have HQ7 : Hid (Qst w1 W6 qb L C) := HQ6
            have HX7 : Hid (RdX W6 (some ⟨bb, off, none⟩) D) := HX6
            clear HQ6 HX6
            refine wpAnyH_take (i := 28) (oi := { dst := Option.some 131, op := Op.unOp UnOp.not 4 (Operand.tmp 130), type := 4, pos := "outright.go:61", after := #[{ on := 27, ground := Ground.data }, { on := 17, ground := Ground.guard }], guard := Option.some (17, Bool.true) }) (v := undef) rfl (by kernel_rfl) (by kernel_rfl) (by kernel_rfl) (fun _ _ _ h => h) (Or.inr ⟨by rfl, rfl⟩) (by assumption) ?_
            try simp only [Act.put, List.setIfInBounds_toArray, List.set_cons_zero, List.set_cons_succ]
            refine wpAnyH_take (i := 29) (oi := { dst := Option.some 132, op := Op.pick (Operand.tmp 120) (Operand.tmp 131) (Operand.const (Value.bool Bool.false)), type := 4, pos := "outright.go:61", after := #[{ on := 17, ground := Ground.data }, { on := 28, ground := Ground.data }, { on := 13, ground := Ground.guard }], guard := Option.some (13, Bool.false) }) (v := undef) rfl (by kernel_rfl) (by kernel_rfl) (by kernel_rfl) (fun _ _ _ h => h) (Or.inr ⟨by rfl, rfl⟩) (by assumption) ?_
            try simp only [Act.put, List.setIfInBounds_toArray, List.set_cons_zero, List.set_cons_succ]
            refine wpAnyH_take (i := 30) (oi := { dst := Option.some 133, op := Op.pick (Operand.tmp 116) (Operand.const (Value.bool Bool.true)) (Operand.tmp 132), type := 4, pos := "outright.go:61", after := #[{ on := 13, ground := Ground.data }, { on := 29, ground := Ground.data }, { on := 9, ground := Ground.guard }], guard := Option.some (9, Bool.true) }) (v := undef) rfl (by kernel_rfl) (by kernel_rfl) (by kernel_rfl) (fun _ _ _ h => h) (Or.inr ⟨by rfl, rfl⟩) (by assumption) ?_
            try simp only [Act.put, List.setIfInBounds_toArray, List.set_cons_zero, List.set_cons_succ]
            refine wpAnyH_take (i := 31) (oi := { dst := Option.some 134, op := Op.pick (Operand.tmp 112) (Operand.tmp 133) (Operand.const (Value.bool Bool.false)), type := 4, pos := "outright.go:61", after := #[{ on := 9, ground := Ground.data }, { on := 30, ground := Ground.data }, { on := 5, ground := Ground.guard }], guard := Option.some (5, Bool.false) }) (v := ?_) rfl (by kernel_rfl) (by kernel_rfl) (by kernel_rfl) (fun _ _ _ h => h) (Or.inl ⟨by rfl, ?_⟩) (by assumption) ?_
            rotate_left
            · intro w hSw
              (try dsimp only at hSw)
              go_simp
              try with_reducible rfl
            try simp only [Act.put, List.setIfInBounds_toArray, List.set_cons_zero, List.set_cons_succ]
            refine wpAnyH_take (i := 32) (oi := { dst := Option.some 135, op := Op.pick (Operand.tmp 108) (Operand.const (Value.bool Bool.true)) (Operand.tmp 134), type := 4, pos := "outright.go:61", after := #[{ on := 5, ground := Ground.data }, { on := 31, ground := Ground.data }], guard := Option.none }) (v := ?_) rfl (by kernel_rfl) (by kernel_rfl) (by kernel_rfl) (fun _ _ _ h => h) (Or.inl ⟨by rfl, ?_⟩) (by assumption) ?_
            rotate_left
            · intro w hSw
              (try dsimp only at hSw)
              go_simp
              try with_reducible rfl
            try simp only [Act.put, List.setIfInBounds_toArray, List.set_cons_zero, List.set_cons_succ]
            refine wpAnyH_done (by kernel_rfl) ?_ _
            clear hHeld
            go_wp2_with fail
            go_roundg (n - (i + 1))
            case rel => exact ⟨i + 1, by simp, rfl, hlt, HQ7, HX7⟩
            case measure => omega

          · subst q1
            clear HCS
            rcases q2 with q2 | ⟨q2, q3⟩
            · have g1 : ¬ (b.lv > a.lv) := by omega
              have g2 : ¬ (b.lv = a.lv) := by omega
              have g3 : decide (b.lv > a.lv) = false := decide_eq_false g1
              have g4 : (b.lv == a.lv) = false := by simpa using g2
              clear q2
              go_upto_region 20 with fail
              cases sx with
              | true =>
                have hb1 := (Below.refl w5.heap.size w5).drew
                obtain ⟨b8, o8, e8, m0, m1, m2⟩ := HX5.out.at HDK.out
                obtain ⟨rfl, rfl⟩ : bb = b8 ∧ off = o8 := by simpa using e8
                obtain ⟨b8, o8, e8', k0, k1, k2⟩ := HX5.out.at HDI.out
                obtain ⟨rfl, rfl⟩ : bb = b8 ∧ off = o8 := by simpa using e8'
                clear e8 e8'
                refine wp_region_held_drew (S := fun W => (W.cell? ⟨bb, off + k * 3, none⟩ = some (.int .i64 b.s) ∧ W.cell? ⟨bb, off + k * 3 + 1, none⟩ = some (.int .i64 b.r) ∧ W.cell? ⟨bb, off + k * 3 + 2, none⟩ = some (.int .i64 b.c)) ∧ W.cell? ⟨bb, off + i * 3, none⟩ = some (.int .i64 a.s) ∧ W.cell? ⟨bb, off + i * 3 + 1, none⟩ = some (.int .i64 a.r) ∧ W.cell? ⟨bb, off + i * 3 + 2, none⟩ = some (.int .i64 a.c)) (by kernel_rfl) ⟨⟨cell_below hb1 m0, cell_below hb1 m1, cell_below hb1 m2⟩, cell_below hb1 k0, cell_below hb1 k1, cell_below hb1 k2⟩ (fun hHeld => ?_)
                have HQ6 : Hid (Qst w1 w5.drew qb L C) := HQ5.out.below hb1
                have HX6 : Hid (RdX w5.drew (some ⟨bb, off, none⟩) D) := HX5.out.below hb1
                clear hb1 HQ5 HX5 m0 m1 m2 k0 k1 k2
                generalize w5.drew = W6 at *
                refine wpAnyH_take (i := 0) (oi := { dst := Option.some 103, op := Op.move (Operand.tmp 14), type := 4, pos := "outright.go:61", after := #[], guard := Option.none }) (v := ?_) rfl (by kernel_rfl) (by kernel_rfl) (by kernel_rfl) (fun _ _ _ h => h) (Or.inl ⟨by rfl, ?_⟩) (by assumption) ?_
                rotate_left
                · intro w hSw
                  (try dsimp only at hSw)
                  go_simp
                  try with_reducible rfl
                try simp only [Act.put, List.setIfInBounds_toArray, List.set_cons_zero, List.set_cons_succ]
                refine wpAnyH_take (i := 1) (oi := { dst := Option.some 104, op := Op.unOp UnOp.not 4 (Operand.tmp 103), type := 4, pos := "outright.go:61", after := #[{ on := 0, ground := Ground.data }], guard := Option.none }) (v := ?_) rfl (by kernel_rfl) (by kernel_rfl) (by kernel_rfl) (fun _ _ _ h => h) (Or.inl ⟨by rfl, ?_⟩) (by assumption) ?_
                rotate_left
                · intro w hSw
                  (try dsimp only at hSw)
                  go_simp
                  try with_reducible rfl
                try simp only [Act.put, List.setIfInBounds_toArray, List.set_cons_zero, List.set_cons_succ]
                refine wpAnyH_take (i := 2) (oi := { dst := Option.some 105, op := Op.move (Operand.tmp 104), type := 4, pos := "outright.go:61", after := #[{ on := 1, ground := Ground.data }], guard := Option.none }) (v := ?_) rfl (by kernel_rfl) (by kernel_rfl) (by kernel_rfl) (fun _ _ _ h => h) (Or.inl ⟨by rfl, ?_⟩) (by assumption) ?_
                rotate_left
                · intro w hSw
                  (try dsimp only at hSw)
                  go_simp
                  try with_reducible rfl
                try simp only [Act.put, List.setIfInBounds_toArray, List.set_cons_zero, List.set_cons_succ]
                refine wpAnyH_take (i := 3) (oi := { dst := Option.some 106, op := Op.move (Operand.tmp 15), type := 4, pos := "outright.go:61", after := #[{ on := 2, ground := Ground.guard }], guard := Option.some (2, Bool.true) }) (v := undef) rfl (by kernel_rfl) (by kernel_rfl) (by kernel_rfl) (fun _ _ _ h => h) (Or.inr ⟨by rfl, rfl⟩) (by assumption) ?_
                try simp only [Act.put, List.setIfInBounds_toArray, List.set_cons_zero, List.set_cons_succ]
                refine wpAnyH_take (i := 4) (oi := { dst := Option.some 107, op := Op.pick (Operand.tmp 105) (Operand.tmp 106) (Operand.const (Value.bool Bool.false)), type := 4, pos := "outright.go:61", after := #[{ on := 2, ground := Ground.data }, { on := 3, ground := Ground.data }], guard := Option.none }) (v := ?_) rfl (by kernel_rfl) (by kernel_rfl) (by kernel_rfl) (fun _ _ _ h => h) (Or.inl ⟨by rfl, ?_⟩) (by assumption) ?_
                rotate_left
                · intro w hSw
                  (try dsimp only at hSw)
                  go_simp
                  try with_reducible rfl
                try simp only [Act.put, List.setIfInBounds_toArray, List.set_cons_zero, List.set_cons_succ]
                refine wpAnyH_take (i := 5) (oi := { dst := Option.some 108, op := Op.move (Operand.tmp 107), type := 4, pos := "outright.go:61", after := #[{ on := 4, ground := Ground.data }, { on := 2, ground := Ground.chain }], guard := Option.none }) (v := ?_) rfl (by kernel_rfl) (by kernel_rfl) (by kernel_rfl) (fun _ _ _ h => h) (Or.inl ⟨by rfl, ?_⟩) (by assumption) ?_
                rotate_left
                · intro w hSw
                  (try dsimp only at hSw)
                  go_simp
                  try with_reducible rfl
                try simp only [Act.put, List.setIfInBounds_toArray, List.set_cons_zero, List.set_cons_succ]
                refine wpAnyH_take (i := 6) (oi := { dst := Option.some 109, op := Op.move (Operand.tmp 14), type := 4, pos := "outright.go:61", after := #[{ on := 5, ground := Ground.guard }], guard := Option.some (5, Bool.false) }) (v := ?_) rfl (by kernel_rfl) (by kernel_rfl) (by kernel_rfl) (fun _ _ _ h => h) (Or.inl ⟨by rfl, ?_⟩) (by assumption) ?_
                rotate_left
                · intro w hSw
                  (try dsimp only at hSw)
                  go_simp
                  try with_reducible rfl
                try simp only [Act.put, List.setIfInBounds_toArray, List.set_cons_zero, List.set_cons_succ]
                refine wpAnyH_take (i := 7) (oi := { dst := Option.some 110, op := Op.move (Operand.tmp 15), type := 4, pos := "outright.go:61", after := #[{ on := 5, ground := Ground.guard }], guard := Option.some (5, Bool.false) }) (v := ?_) rfl (by kernel_rfl) (by kernel_rfl) (by kernel_rfl) (fun _ _ _ h => h) (Or.inl ⟨by rfl, ?_⟩) (by assumption) ?_
                rotate_left
                · intro w hSw
                  (try dsimp only at hSw)
                  go_simp
                  try with_reducible rfl
                try simp only [Act.put, List.setIfInBounds_toArray, List.set_cons_zero, List.set_cons_succ]
                refine wpAnyH_take (i := 8) (oi := { dst := Option.some 111, op := Op.binOp BinOp.eql 4 (Operand.tmp 109) (Operand.tmp 110) 4, type := 4, pos := "outright.go:61", after := #[{ on := 6, ground := Ground.data }, { on := 7, ground := Ground.data }, { on := 5, ground := Ground.guard }], guard := Option.some (5, Bool.false) }) (v := ?_) rfl (by kernel_rfl) (by kernel_rfl) (by kernel_rfl) (fun _ _ _ h => h) (Or.inl ⟨by rfl, ?_⟩) (by assumption) ?_
                rotate_left
                · intro w hSw
                  (try dsimp only at hSw)
                  go_simp
                  try with_reducible rfl
                try simp only [Act.put, List.setIfInBounds_toArray, List.set_cons_zero, List.set_cons_succ]
                refine wpAnyH_take (i := 9) (oi := { dst := Option.some 112, op := Op.move (Operand.tmp 111), type := 4, pos := "outright.go:61", after := #[{ on := 8, ground := Ground.data }, { on := 5, ground := Ground.chain }, { on := 5, ground := Ground.guard }], guard := Option.some (5, Bool.false) }) (v := ?_) rfl (by kernel_rfl) (by kernel_rfl) (by kernel_rfl) (fun _ _ _ h => h) (Or.inl ⟨by rfl, ?_⟩) (by assumption) ?_
                rotate_left
                · intro w hSw
                  (try dsimp only at hSw)
                  go_simp
                  try with_reducible rfl
                try simp only [Act.put, List.setIfInBounds_toArray, List.set_cons_zero, List.set_cons_succ]
                refine wpAnyH_take (i := 10) (oi := { dst := Option.some 113, op := Op.move (Operand.tmp 12), type := 3, pos := "outright.go:61", after := #[{ on := 9, ground := Ground.guard }], guard := Option.some (9, Bool.true) }) (v := ?_) rfl (by kernel_rfl) (by kernel_rfl) (by kernel_rfl) (fun _ _ _ h => h) (Or.inl ⟨by rfl, ?_⟩) (by assumption) ?_
                rotate_left
                · intro w hSw
                  (try dsimp only at hSw)
                  go_simp
                  try with_reducible rfl
                try simp only [Act.put, List.setIfInBounds_toArray, List.set_cons_zero, List.set_cons_succ]
                refine wpAnyH_take (i := 11) (oi := { dst := Option.some 114, op := Op.move (Operand.tmp 10), type := 3, pos := "outright.go:61", after := #[{ on := 9, ground := Ground.guard }], guard := Option.some (9, Bool.true) }) (v := ?_) rfl (by kernel_rfl) (by kernel_rfl) (by kernel_rfl) (fun _ _ _ h => h) (Or.inl ⟨by rfl, ?_⟩) (by assumption) ?_
                rotate_left
                · intro w hSw
                  (try dsimp only at hSw)
                  go_simp
                  try with_reducible rfl
                try simp only [Act.put, List.setIfInBounds_toArray, List.set_cons_zero, List.set_cons_succ]
                refine wpAnyH_take (i := 12) (oi := { dst := Option.some 115, op := Op.binOp BinOp.gtr 3 (Operand.tmp 113) (Operand.tmp 114) 3, type := 4, pos := "outright.go:61", after := #[{ on := 10, ground := Ground.data }, { on := 11, ground := Ground.data }, { on := 9, ground := Ground.guard }], guard := Option.some (9, Bool.true) }) (v := ?_) rfl (by kernel_rfl) (by kernel_rfl) (by kernel_rfl) (fun _ _ _ h => h) (Or.inl ⟨by rfl, ?_⟩) (by assumption) ?_
                rotate_left
                · intro w hSw
                  (try dsimp only at hSw)
                  go_simp
                  try with_reducible rfl
                try simp only [Act.put, List.setIfInBounds_toArray, List.set_cons_zero, List.set_cons_succ]
                refine wpAnyH_take (i := 13) (oi := { dst := Option.some 116, op := Op.move (Operand.tmp 115), type := 4, pos := "outright.go:61", after := #[{ on := 12, ground := Ground.data }, { on := 9, ground := Ground.chain }, { on := 9, ground := Ground.guard }], guard := Option.some (9, Bool.true) }) (v := ?_) rfl (by kernel_rfl) (by kernel_rfl) (by kernel_rfl) (fun _ _ _ h => h) (Or.inl ⟨by rfl, ?_⟩) (by assumption) ?_
                rotate_left
                · intro w hSw
                  (try dsimp only at hSw)
                  go_simp
                  try with_reducible rfl
                try simp only [Act.put, List.setIfInBounds_toArray, List.set_cons_zero, List.set_cons_succ]
                refine wpAnyH_take (i := 14) (oi := { dst := Option.some 117, op := Op.move (Operand.tmp 12), type := 3, pos := "outright.go:61", after := #[{ on := 13, ground := Ground.guard }], guard := Option.some (13, Bool.false) }) (v := ?_) rfl (by kernel_rfl) (by kernel_rfl) (by kernel_rfl) (fun _ _ _ h => h) (Or.inl ⟨by rfl, ?_⟩) (by assumption) ?_
                rotate_left
                · intro w hSw
                  (try dsimp only at hSw)
                  go_simp
                  try with_reducible rfl
                try simp only [Act.put, List.setIfInBounds_toArray, List.set_cons_zero, List.set_cons_succ]
                refine wpAnyH_take (i := 15) (oi := { dst := Option.some 118, op := Op.move (Operand.tmp 10), type := 3, pos := "outright.go:61", after := #[{ on := 13, ground := Ground.guard }], guard := Option.some (13, Bool.false) }) (v := ?_) rfl (by kernel_rfl) (by kernel_rfl) (by kernel_rfl) (fun _ _ _ h => h) (Or.inl ⟨by rfl, ?_⟩) (by assumption) ?_
                rotate_left
                · intro w hSw
                  (try dsimp only at hSw)
                  go_simp
                  try with_reducible rfl
                try simp only [Act.put, List.setIfInBounds_toArray, List.set_cons_zero, List.set_cons_succ]
                refine wpAnyH_take (i := 16) (oi := { dst := Option.some 119, op := Op.binOp BinOp.eql 3 (Operand.tmp 117) (Operand.tmp 118) 3, type := 4, pos := "outright.go:61", after := #[{ on := 14, ground := Ground.data }, { on := 15, ground := Ground.data }, { on := 13, ground := Ground.guard }], guard := Option.some (13, Bool.false) }) (v := ?_) rfl (by kernel_rfl) (by kernel_rfl) (by kernel_rfl) (fun _ _ _ h => h) (Or.inl ⟨by rfl, ?_⟩) (by assumption) ?_
                rotate_left
                · intro w hSw
                  (try dsimp only at hSw)
                  go_simp
                  try with_reducible rfl
                try simp only [Act.put, List.setIfInBounds_toArray, List.set_cons_zero, List.set_cons_succ]
                refine wpAnyH_take (i := 17) (oi := { dst := Option.some 120, op := Op.move (Operand.tmp 119), type := 4, pos := "outright.go:61", after := #[{ on := 16, ground := Ground.data }, { on := 13, ground := Ground.chain }, { on := 13, ground := Ground.guard }], guard := Option.some (13, Bool.false) }) (v := ?_) rfl (by kernel_rfl) (by kernel_rfl) (by kernel_rfl) (fun _ _ _ h => h) (Or.inl ⟨by rfl, ?_⟩) (by assumption) ?_
                rotate_left
                · intro w hSw
                  (try dsimp only at hSw)
                  go_simp
                  try with_reducible rfl
                try simp only [Act.put, List.setIfInBounds_toArray, List.set_cons_zero, List.set_cons_succ]
                refine wpAnyH_take (i := 18) (oi := { dst := Option.some 121, op := Op.move (Operand.tmp 6), type := 44, pos := "outright.go:61", after := #[{ on := 17, ground := Ground.guard }], guard := Option.some (17, Bool.true) }) (v := undef) rfl (by kernel_rfl) (by kernel_rfl) (by kernel_rfl) (fun _ _ _ h => h) (Or.inr ⟨by rfl, rfl⟩) (by assumption) ?_
                try simp only [Act.put, List.setIfInBounds_toArray, List.set_cons_zero, List.set_cons_succ]
                refine wpAnyH_take (i := 19) (oi := { dst := Option.some 122, op := Op.move (Operand.tmp 9), type := 3, pos := "outright.go:61", after := #[{ on := 17, ground := Ground.guard }], guard := Option.some (17, Bool.true) }) (v := undef) rfl (by kernel_rfl) (by kernel_rfl) (by kernel_rfl) (fun _ _ _ h => h) (Or.inr ⟨by rfl, rfl⟩) (by assumption) ?_
                try simp only [Act.put, List.setIfInBounds_toArray, List.set_cons_zero, List.set_cons_succ]
                refine wpAnyH_take (i := 20) (oi := { dst := Option.some 123, op := Op.binOp BinOp.sub 3 (Operand.tmp 122) (Operand.const (Value.int IntKind.i64 1)) 3, type := 3, pos := "outright.go:61", after := #[{ on := 19, ground := Ground.data }, { on := 17, ground := Ground.guard }], guard := Option.some (17, Bool.true) }) (v := undef) rfl (by kernel_rfl) (by kernel_rfl) (by kernel_rfl) (fun _ _ _ h => h) (Or.inr ⟨by rfl, rfl⟩) (by assumption) ?_
                try simp only [Act.put, List.setIfInBounds_toArray, List.set_cons_zero, List.set_cons_succ]
                refine wpAnyH_take (i := 21) (oi := { dst := Option.some 124, op := Op.indexAddr 44 (Operand.tmp 121) (Operand.tmp 123), type := 0, pos := "outright.go:61", after := #[{ on := 18, ground := Ground.data }, { on := 20, ground := Ground.data }, { on := 17, ground := Ground.guard }], guard := Option.some (17, Bool.true) }) (v := undef) rfl (by kernel_rfl) (by kernel_rfl) (by kernel_rfl) (fun _ _ _ h => h) (Or.inr ⟨by rfl, rfl⟩) (by assumption) ?_
                try simp only [Act.put, List.setIfInBounds_toArray, List.set_cons_zero, List.set_cons_succ]
                refine wpAnyH_take (i := 22) (oi := { dst := Option.some 125, op := Op.load 33 (Operand.tmp 124), type := 33, pos := "outright.go:61", after := #[{ on := 21, ground := Ground.data }, { on := 17, ground := Ground.guard }], guard := Option.some (17, Bool.true) }) (v := undef) rfl (by kernel_rfl) (by kernel_rfl) (by kernel_rfl) (fun _ _ _ h => h) (Or.inr ⟨by rfl, rfl⟩) (by assumption) ?_
                try simp only [Act.put, List.setIfInBounds_toArray, List.set_cons_zero, List.set_cons_succ]
                refine wpAnyH_take (i := 23) (oi := { dst := Option.some 126, op := Op.move (Operand.tmp 6), type := 44, pos := "outright.go:61", after := #[{ on := 17, ground := Ground.guard }], guard := Option.some (17, Bool.true) }) (v := undef) rfl (by kernel_rfl) (by kernel_rfl) (by kernel_rfl) (fun _ _ _ h => h) (Or.inr ⟨by rfl, rfl⟩) (by assumption) ?_
                try simp only [Act.put, List.setIfInBounds_toArray, List.set_cons_zero, List.set_cons_succ]
                refine wpAnyH_take (i := 24) (oi := { dst := Option.some 127, op := Op.move (Operand.tmp 9), type := 3, pos := "outright.go:61", after := #[{ on := 17, ground := Ground.guard }], guard := Option.some (17, Bool.true) }) (v := undef) rfl (by kernel_rfl) (by kernel_rfl) (by kernel_rfl) (fun _ _ _ h => h) (Or.inr ⟨by rfl, rfl⟩) (by assumption) ?_
                try simp only [Act.put, List.setIfInBounds_toArray, List.set_cons_zero, List.set_cons_succ]
                refine wpAnyH_take (i := 25) (oi := { dst := Option.some 128, op := Op.indexAddr 44 (Operand.tmp 126) (Operand.tmp 127), type := 0, pos := "outright.go:61", after := #[{ on := 23, ground := Ground.data }, { on := 24, ground := Ground.data }, { on := 17, ground := Ground.guard }], guard := Option.some (17, Bool.true) }) (v := undef) rfl (by kernel_rfl) (by kernel_rfl) (by kernel_rfl) (fun _ _ _ h => h) (Or.inr ⟨by rfl, rfl⟩) (by assumption) ?_
                try simp only [Act.put, List.setIfInBounds_toArray, List.set_cons_zero, List.set_cons_succ]
                refine wpAnyH_take (i := 26) (oi := { dst := Option.some 129, op := Op.load 33 (Operand.tmp 128), type := 33, pos := "outright.go:61", after := #[{ on := 25, ground := Ground.data }, { on := 17, ground := Ground.guard }], guard := Option.some (17, Bool.true) }) (v := undef) rfl (by kernel_rfl) (by kernel_rfl) (by kernel_rfl) (fun _ _ _ h => h) (Or.inr ⟨by rfl, rfl⟩) (by assumption) ?_
                try simp only [Act.put, List.setIfInBounds_toArray, List.set_cons_zero, List.set_cons_succ]
                refine wpAnyH_take (i := 27) (oi := { dst := Option.some 130, op := Op.call { callee := Callee.value (Operand.func 24), args := #[Operand.tmp 125, Operand.tmp 129], argTypes := #[33, 33] }, type := 4, pos := "outright.go:61", after := #[{ on := 22, ground := Ground.data }, { on := 26, ground := Ground.data }, { on := 17, ground := Ground.chain }, { on := 17, ground := Ground.guard }], guard := Option.some (17, Bool.true) }) (v := undef) rfl (by kernel_rfl) (by kernel_rfl) (by kernel_rfl) (fun _ _ _ h => h) (Or.inr ⟨by rfl, rfl⟩) (by assumption) ?_
                try simp only [Act.put, List.setIfInBounds_toArray, List.set_cons_zero, List.set_cons_succ]
                have HQ7 : Hid (Qst w1 W6 qb L C) := HQ6
                have HX7 : Hid (RdX W6 (some ⟨bb, off, none⟩) D) := HX6
                clear HQ6 HX6
                refine wpAnyH_take (i := 28) (oi := { dst := Option.some 131, op := Op.unOp UnOp.not 4 (Operand.tmp 130), type := 4, pos := "outright.go:61", after := #[{ on := 27, ground := Ground.data }, { on := 17, ground := Ground.guard }], guard := Option.some (17, Bool.true) }) (v := undef) rfl (by kernel_rfl) (by kernel_rfl) (by kernel_rfl) (fun _ _ _ h => h) (Or.inr ⟨by rfl, rfl⟩) (by assumption) ?_
                try simp only [Act.put, List.setIfInBounds_toArray, List.set_cons_zero, List.set_cons_succ]
                refine wpAnyH_take (i := 29) (oi := { dst := Option.some 132, op := Op.pick (Operand.tmp 120) (Operand.tmp 131) (Operand.const (Value.bool Bool.false)), type := 4, pos := "outright.go:61", after := #[{ on := 17, ground := Ground.data }, { on := 28, ground := Ground.data }, { on := 13, ground := Ground.guard }], guard := Option.some (13, Bool.false) }) (v := ?_) rfl (by kernel_rfl) (by kernel_rfl) (by kernel_rfl) (fun _ _ _ h => h) (Or.inl ⟨by rfl, ?_⟩) (by assumption) ?_
                rotate_left
                · intro w hSw
                  (try dsimp only at hSw)
                  go_simp
                  try with_reducible rfl
                try simp only [Act.put, List.setIfInBounds_toArray, List.set_cons_zero, List.set_cons_succ]
                refine wpAnyH_take (i := 30) (oi := { dst := Option.some 133, op := Op.pick (Operand.tmp 116) (Operand.const (Value.bool Bool.true)) (Operand.tmp 132), type := 4, pos := "outright.go:61", after := #[{ on := 13, ground := Ground.data }, { on := 29, ground := Ground.data }, { on := 9, ground := Ground.guard }], guard := Option.some (9, Bool.true) }) (v := ?_) rfl (by kernel_rfl) (by kernel_rfl) (by kernel_rfl) (fun _ _ _ h => h) (Or.inl ⟨by rfl, ?_⟩) (by assumption) ?_
                rotate_left
                · intro w hSw
                  (try dsimp only at hSw)
                  go_simp
                  try with_reducible rfl
                try simp only [Act.put, List.setIfInBounds_toArray, List.set_cons_zero, List.set_cons_succ]
                refine wpAnyH_take (i := 31) (oi := { dst := Option.some 134, op := Op.pick (Operand.tmp 112) (Operand.tmp 133) (Operand.const (Value.bool Bool.false)), type := 4, pos := "outright.go:61", after := #[{ on := 9, ground := Ground.data }, { on := 30, ground := Ground.data }, { on := 5, ground := Ground.guard }], guard := Option.some (5, Bool.false) }) (v := ?_) rfl (by kernel_rfl) (by kernel_rfl) (by kernel_rfl) (fun _ _ _ h => h) (Or.inl ⟨by rfl, ?_⟩) (by assumption) ?_
                rotate_left
                · intro w hSw
                  (try dsimp only at hSw)
                  go_simp
                  try with_reducible rfl
                try simp only [Act.put, List.setIfInBounds_toArray, List.set_cons_zero, List.set_cons_succ]
                refine wpAnyH_take (i := 32) (oi := { dst := Option.some 135, op := Op.pick (Operand.tmp 108) (Operand.const (Value.bool Bool.true)) (Operand.tmp 134), type := 4, pos := "outright.go:61", after := #[{ on := 5, ground := Ground.data }, { on := 31, ground := Ground.data }], guard := Option.none }) (v := ?_) rfl (by kernel_rfl) (by kernel_rfl) (by kernel_rfl) (fun _ _ _ h => h) (Or.inl ⟨by rfl, ?_⟩) (by assumption) ?_
                rotate_left
                · intro w hSw
                  (try dsimp only at hSw)
                  go_simp
                  try with_reducible rfl
                try simp only [Act.put, List.setIfInBounds_toArray, List.set_cons_zero, List.set_cons_succ]
                refine wpAnyH_done (by kernel_rfl) ?_ _
                clear hHeld
                go_wp2_with fail
                go_roundg (n - (i + 1))
                case rel => exact ⟨i + 1, by simp, rfl, hlt, HQ7, HX7⟩
                case measure => omega

              | false =>
                have hb1 := (Below.refl w5.heap.size w5).drew
                obtain ⟨b8, o8, e8, m0, m1, m2⟩ := HX5.out.at HDK.out
                obtain ⟨rfl, rfl⟩ : bb = b8 ∧ off = o8 := by simpa using e8
                obtain ⟨b8, o8, e8', k0, k1, k2⟩ := HX5.out.at HDI.out
                obtain ⟨rfl, rfl⟩ : bb = b8 ∧ off = o8 := by simpa using e8'
                clear e8 e8'
                refine wp_region_held_drew (S := fun W => (W.cell? ⟨bb, off + k * 3, none⟩ = some (.int .i64 b.s) ∧ W.cell? ⟨bb, off + k * 3 + 1, none⟩ = some (.int .i64 b.r) ∧ W.cell? ⟨bb, off + k * 3 + 2, none⟩ = some (.int .i64 b.c)) ∧ W.cell? ⟨bb, off + i * 3, none⟩ = some (.int .i64 a.s) ∧ W.cell? ⟨bb, off + i * 3 + 1, none⟩ = some (.int .i64 a.r) ∧ W.cell? ⟨bb, off + i * 3 + 2, none⟩ = some (.int .i64 a.c)) (by kernel_rfl) ⟨⟨cell_below hb1 m0, cell_below hb1 m1, cell_below hb1 m2⟩, cell_below hb1 k0, cell_below hb1 k1, cell_below hb1 k2⟩ (fun hHeld => ?_)
                have HQ6 : Hid (Qst w1 w5.drew qb L C) := HQ5.out.below hb1
                have HX6 : Hid (RdX w5.drew (some ⟨bb, off, none⟩) D) := HX5.out.below hb1
                clear hb1 HQ5 HX5 m0 m1 m2 k0 k1 k2
                generalize w5.drew = W6 at *
                refine wpAnyH_take (i := 0) (oi := { dst := Option.some 103, op := Op.move (Operand.tmp 14), type := 4, pos := "outright.go:61", after := #[], guard := Option.none }) (v := ?_) rfl (by kernel_rfl) (by kernel_rfl) (by kernel_rfl) (fun _ _ _ h => h) (Or.inl ⟨by rfl, ?_⟩) (by assumption) ?_
                rotate_left
                · intro w hSw
                  (try dsimp only at hSw)
                  go_simp
                  try with_reducible rfl
                try simp only [Act.put, List.setIfInBounds_toArray, List.set_cons_zero, List.set_cons_succ]
                refine wpAnyH_take (i := 1) (oi := { dst := Option.some 104, op := Op.unOp UnOp.not 4 (Operand.tmp 103), type := 4, pos := "outright.go:61", after := #[{ on := 0, ground := Ground.data }], guard := Option.none }) (v := ?_) rfl (by kernel_rfl) (by kernel_rfl) (by kernel_rfl) (fun _ _ _ h => h) (Or.inl ⟨by rfl, ?_⟩) (by assumption) ?_
                rotate_left
                · intro w hSw
                  (try dsimp only at hSw)
                  go_simp
                  try with_reducible rfl
                try simp only [Act.put, List.setIfInBounds_toArray, List.set_cons_zero, List.set_cons_succ]
                refine wpAnyH_take (i := 2) (oi := { dst := Option.some 105, op := Op.move (Operand.tmp 104), type := 4, pos := "outright.go:61", after := #[{ on := 1, ground := Ground.data }], guard := Option.none }) (v := ?_) rfl (by kernel_rfl) (by kernel_rfl) (by kernel_rfl) (fun _ _ _ h => h) (Or.inl ⟨by rfl, ?_⟩) (by assumption) ?_
                rotate_left
                · intro w hSw
                  (try dsimp only at hSw)
                  go_simp
                  try with_reducible rfl
                try simp only [Act.put, List.setIfInBounds_toArray, List.set_cons_zero, List.set_cons_succ]
                refine wpAnyH_take (i := 3) (oi := { dst := Option.some 106, op := Op.move (Operand.tmp 15), type := 4, pos := "outright.go:61", after := #[{ on := 2, ground := Ground.guard }], guard := Option.some (2, Bool.true) }) (v := ?_) rfl (by kernel_rfl) (by kernel_rfl) (by kernel_rfl) (fun _ _ _ h => h) (Or.inl ⟨by rfl, ?_⟩) (by assumption) ?_
                rotate_left
                · intro w hSw
                  (try dsimp only at hSw)
                  go_simp
                  try with_reducible rfl
                try simp only [Act.put, List.setIfInBounds_toArray, List.set_cons_zero, List.set_cons_succ]
                refine wpAnyH_take (i := 4) (oi := { dst := Option.some 107, op := Op.pick (Operand.tmp 105) (Operand.tmp 106) (Operand.const (Value.bool Bool.false)), type := 4, pos := "outright.go:61", after := #[{ on := 2, ground := Ground.data }, { on := 3, ground := Ground.data }], guard := Option.none }) (v := ?_) rfl (by kernel_rfl) (by kernel_rfl) (by kernel_rfl) (fun _ _ _ h => h) (Or.inl ⟨by rfl, ?_⟩) (by assumption) ?_
                rotate_left
                · intro w hSw
                  (try dsimp only at hSw)
                  go_simp
                  try with_reducible rfl
                try simp only [Act.put, List.setIfInBounds_toArray, List.set_cons_zero, List.set_cons_succ]
                refine wpAnyH_take (i := 5) (oi := { dst := Option.some 108, op := Op.move (Operand.tmp 107), type := 4, pos := "outright.go:61", after := #[{ on := 4, ground := Ground.data }, { on := 2, ground := Ground.chain }], guard := Option.none }) (v := ?_) rfl (by kernel_rfl) (by kernel_rfl) (by kernel_rfl) (fun _ _ _ h => h) (Or.inl ⟨by rfl, ?_⟩) (by assumption) ?_
                rotate_left
                · intro w hSw
                  (try dsimp only at hSw)
                  go_simp
                  try with_reducible rfl
                try simp only [Act.put, List.setIfInBounds_toArray, List.set_cons_zero, List.set_cons_succ]
                refine wpAnyH_take (i := 6) (oi := { dst := Option.some 109, op := Op.move (Operand.tmp 14), type := 4, pos := "outright.go:61", after := #[{ on := 5, ground := Ground.guard }], guard := Option.some (5, Bool.false) }) (v := ?_) rfl (by kernel_rfl) (by kernel_rfl) (by kernel_rfl) (fun _ _ _ h => h) (Or.inl ⟨by rfl, ?_⟩) (by assumption) ?_
                rotate_left
                · intro w hSw
                  (try dsimp only at hSw)
                  go_simp
                  try with_reducible rfl
                try simp only [Act.put, List.setIfInBounds_toArray, List.set_cons_zero, List.set_cons_succ]
                refine wpAnyH_take (i := 7) (oi := { dst := Option.some 110, op := Op.move (Operand.tmp 15), type := 4, pos := "outright.go:61", after := #[{ on := 5, ground := Ground.guard }], guard := Option.some (5, Bool.false) }) (v := ?_) rfl (by kernel_rfl) (by kernel_rfl) (by kernel_rfl) (fun _ _ _ h => h) (Or.inl ⟨by rfl, ?_⟩) (by assumption) ?_
                rotate_left
                · intro w hSw
                  (try dsimp only at hSw)
                  go_simp
                  try with_reducible rfl
                try simp only [Act.put, List.setIfInBounds_toArray, List.set_cons_zero, List.set_cons_succ]
                refine wpAnyH_take (i := 8) (oi := { dst := Option.some 111, op := Op.binOp BinOp.eql 4 (Operand.tmp 109) (Operand.tmp 110) 4, type := 4, pos := "outright.go:61", after := #[{ on := 6, ground := Ground.data }, { on := 7, ground := Ground.data }, { on := 5, ground := Ground.guard }], guard := Option.some (5, Bool.false) }) (v := ?_) rfl (by kernel_rfl) (by kernel_rfl) (by kernel_rfl) (fun _ _ _ h => h) (Or.inl ⟨by rfl, ?_⟩) (by assumption) ?_
                rotate_left
                · intro w hSw
                  (try dsimp only at hSw)
                  go_simp
                  try with_reducible rfl
                try simp only [Act.put, List.setIfInBounds_toArray, List.set_cons_zero, List.set_cons_succ]
                refine wpAnyH_take (i := 9) (oi := { dst := Option.some 112, op := Op.move (Operand.tmp 111), type := 4, pos := "outright.go:61", after := #[{ on := 8, ground := Ground.data }, { on := 5, ground := Ground.chain }, { on := 5, ground := Ground.guard }], guard := Option.some (5, Bool.false) }) (v := ?_) rfl (by kernel_rfl) (by kernel_rfl) (by kernel_rfl) (fun _ _ _ h => h) (Or.inl ⟨by rfl, ?_⟩) (by assumption) ?_
                rotate_left
                · intro w hSw
                  (try dsimp only at hSw)
                  go_simp
                  try with_reducible rfl
                try simp only [Act.put, List.setIfInBounds_toArray, List.set_cons_zero, List.set_cons_succ]
                refine wpAnyH_take (i := 10) (oi := { dst := Option.some 113, op := Op.move (Operand.tmp 12), type := 3, pos := "outright.go:61", after := #[{ on := 9, ground := Ground.guard }], guard := Option.some (9, Bool.true) }) (v := ?_) rfl (by kernel_rfl) (by kernel_rfl) (by kernel_rfl) (fun _ _ _ h => h) (Or.inl ⟨by rfl, ?_⟩) (by assumption) ?_
                rotate_left
                · intro w hSw
                  (try dsimp only at hSw)
                  go_simp
                  try with_reducible rfl
                try simp only [Act.put, List.setIfInBounds_toArray, List.set_cons_zero, List.set_cons_succ]
                refine wpAnyH_take (i := 11) (oi := { dst := Option.some 114, op := Op.move (Operand.tmp 10), type := 3, pos := "outright.go:61", after := #[{ on := 9, ground := Ground.guard }], guard := Option.some (9, Bool.true) }) (v := ?_) rfl (by kernel_rfl) (by kernel_rfl) (by kernel_rfl) (fun _ _ _ h => h) (Or.inl ⟨by rfl, ?_⟩) (by assumption) ?_
                rotate_left
                · intro w hSw
                  (try dsimp only at hSw)
                  go_simp
                  try with_reducible rfl
                try simp only [Act.put, List.setIfInBounds_toArray, List.set_cons_zero, List.set_cons_succ]
                refine wpAnyH_take (i := 12) (oi := { dst := Option.some 115, op := Op.binOp BinOp.gtr 3 (Operand.tmp 113) (Operand.tmp 114) 3, type := 4, pos := "outright.go:61", after := #[{ on := 10, ground := Ground.data }, { on := 11, ground := Ground.data }, { on := 9, ground := Ground.guard }], guard := Option.some (9, Bool.true) }) (v := ?_) rfl (by kernel_rfl) (by kernel_rfl) (by kernel_rfl) (fun _ _ _ h => h) (Or.inl ⟨by rfl, ?_⟩) (by assumption) ?_
                rotate_left
                · intro w hSw
                  (try dsimp only at hSw)
                  go_simp
                  try with_reducible rfl
                try simp only [Act.put, List.setIfInBounds_toArray, List.set_cons_zero, List.set_cons_succ]
                refine wpAnyH_take (i := 13) (oi := { dst := Option.some 116, op := Op.move (Operand.tmp 115), type := 4, pos := "outright.go:61", after := #[{ on := 12, ground := Ground.data }, { on := 9, ground := Ground.chain }, { on := 9, ground := Ground.guard }], guard := Option.some (9, Bool.true) }) (v := ?_) rfl (by kernel_rfl) (by kernel_rfl) (by kernel_rfl) (fun _ _ _ h => h) (Or.inl ⟨by rfl, ?_⟩) (by assumption) ?_
                rotate_left
                · intro w hSw
                  (try dsimp only at hSw)
                  go_simp
                  try with_reducible rfl
                try simp only [Act.put, List.setIfInBounds_toArray, List.set_cons_zero, List.set_cons_succ]
                refine wpAnyH_take (i := 14) (oi := { dst := Option.some 117, op := Op.move (Operand.tmp 12), type := 3, pos := "outright.go:61", after := #[{ on := 13, ground := Ground.guard }], guard := Option.some (13, Bool.false) }) (v := ?_) rfl (by kernel_rfl) (by kernel_rfl) (by kernel_rfl) (fun _ _ _ h => h) (Or.inl ⟨by rfl, ?_⟩) (by assumption) ?_
                rotate_left
                · intro w hSw
                  (try dsimp only at hSw)
                  go_simp
                  try with_reducible rfl
                try simp only [Act.put, List.setIfInBounds_toArray, List.set_cons_zero, List.set_cons_succ]
                refine wpAnyH_take (i := 15) (oi := { dst := Option.some 118, op := Op.move (Operand.tmp 10), type := 3, pos := "outright.go:61", after := #[{ on := 13, ground := Ground.guard }], guard := Option.some (13, Bool.false) }) (v := ?_) rfl (by kernel_rfl) (by kernel_rfl) (by kernel_rfl) (fun _ _ _ h => h) (Or.inl ⟨by rfl, ?_⟩) (by assumption) ?_
                rotate_left
                · intro w hSw
                  (try dsimp only at hSw)
                  go_simp
                  try with_reducible rfl
                try simp only [Act.put, List.setIfInBounds_toArray, List.set_cons_zero, List.set_cons_succ]
                refine wpAnyH_take (i := 16) (oi := { dst := Option.some 119, op := Op.binOp BinOp.eql 3 (Operand.tmp 117) (Operand.tmp 118) 3, type := 4, pos := "outright.go:61", after := #[{ on := 14, ground := Ground.data }, { on := 15, ground := Ground.data }, { on := 13, ground := Ground.guard }], guard := Option.some (13, Bool.false) }) (v := ?_) rfl (by kernel_rfl) (by kernel_rfl) (by kernel_rfl) (fun _ _ _ h => h) (Or.inl ⟨by rfl, ?_⟩) (by assumption) ?_
                rotate_left
                · intro w hSw
                  (try dsimp only at hSw)
                  go_simp
                  try with_reducible rfl
                try simp only [Act.put, List.setIfInBounds_toArray, List.set_cons_zero, List.set_cons_succ]
                refine wpAnyH_take (i := 17) (oi := { dst := Option.some 120, op := Op.move (Operand.tmp 119), type := 4, pos := "outright.go:61", after := #[{ on := 16, ground := Ground.data }, { on := 13, ground := Ground.chain }, { on := 13, ground := Ground.guard }], guard := Option.some (13, Bool.false) }) (v := ?_) rfl (by kernel_rfl) (by kernel_rfl) (by kernel_rfl) (fun _ _ _ h => h) (Or.inl ⟨by rfl, ?_⟩) (by assumption) ?_
                rotate_left
                · intro w hSw
                  (try dsimp only at hSw)
                  go_simp
                  try with_reducible rfl
                try simp only [Act.put, List.setIfInBounds_toArray, List.set_cons_zero, List.set_cons_succ]
                refine wpAnyH_take (i := 18) (oi := { dst := Option.some 121, op := Op.move (Operand.tmp 6), type := 44, pos := "outright.go:61", after := #[{ on := 17, ground := Ground.guard }], guard := Option.some (17, Bool.true) }) (v := undef) rfl (by kernel_rfl) (by kernel_rfl) (by kernel_rfl) (fun _ _ _ h => h) (Or.inr ⟨by rfl, rfl⟩) (by assumption) ?_
                try simp only [Act.put, List.setIfInBounds_toArray, List.set_cons_zero, List.set_cons_succ]
                refine wpAnyH_take (i := 19) (oi := { dst := Option.some 122, op := Op.move (Operand.tmp 9), type := 3, pos := "outright.go:61", after := #[{ on := 17, ground := Ground.guard }], guard := Option.some (17, Bool.true) }) (v := undef) rfl (by kernel_rfl) (by kernel_rfl) (by kernel_rfl) (fun _ _ _ h => h) (Or.inr ⟨by rfl, rfl⟩) (by assumption) ?_
                try simp only [Act.put, List.setIfInBounds_toArray, List.set_cons_zero, List.set_cons_succ]
                refine wpAnyH_take (i := 20) (oi := { dst := Option.some 123, op := Op.binOp BinOp.sub 3 (Operand.tmp 122) (Operand.const (Value.int IntKind.i64 1)) 3, type := 3, pos := "outright.go:61", after := #[{ on := 19, ground := Ground.data }, { on := 17, ground := Ground.guard }], guard := Option.some (17, Bool.true) }) (v := undef) rfl (by kernel_rfl) (by kernel_rfl) (by kernel_rfl) (fun _ _ _ h => h) (Or.inr ⟨by rfl, rfl⟩) (by assumption) ?_
                try simp only [Act.put, List.setIfInBounds_toArray, List.set_cons_zero, List.set_cons_succ]
                refine wpAnyH_take (i := 21) (oi := { dst := Option.some 124, op := Op.indexAddr 44 (Operand.tmp 121) (Operand.tmp 123), type := 0, pos := "outright.go:61", after := #[{ on := 18, ground := Ground.data }, { on := 20, ground := Ground.data }, { on := 17, ground := Ground.guard }], guard := Option.some (17, Bool.true) }) (v := undef) rfl (by kernel_rfl) (by kernel_rfl) (by kernel_rfl) (fun _ _ _ h => h) (Or.inr ⟨by rfl, rfl⟩) (by assumption) ?_
                try simp only [Act.put, List.setIfInBounds_toArray, List.set_cons_zero, List.set_cons_succ]
                refine wpAnyH_take (i := 22) (oi := { dst := Option.some 125, op := Op.load 33 (Operand.tmp 124), type := 33, pos := "outright.go:61", after := #[{ on := 21, ground := Ground.data }, { on := 17, ground := Ground.guard }], guard := Option.some (17, Bool.true) }) (v := undef) rfl (by kernel_rfl) (by kernel_rfl) (by kernel_rfl) (fun _ _ _ h => h) (Or.inr ⟨by rfl, rfl⟩) (by assumption) ?_
                try simp only [Act.put, List.setIfInBounds_toArray, List.set_cons_zero, List.set_cons_succ]
                refine wpAnyH_take (i := 23) (oi := { dst := Option.some 126, op := Op.move (Operand.tmp 6), type := 44, pos := "outright.go:61", after := #[{ on := 17, ground := Ground.guard }], guard := Option.some (17, Bool.true) }) (v := undef) rfl (by kernel_rfl) (by kernel_rfl) (by kernel_rfl) (fun _ _ _ h => h) (Or.inr ⟨by rfl, rfl⟩) (by assumption) ?_
                try simp only [Act.put, List.setIfInBounds_toArray, List.set_cons_zero, List.set_cons_succ]
                refine wpAnyH_take (i := 24) (oi := { dst := Option.some 127, op := Op.move (Operand.tmp 9), type := 3, pos := "outright.go:61", after := #[{ on := 17, ground := Ground.guard }], guard := Option.some (17, Bool.true) }) (v := undef) rfl (by kernel_rfl) (by kernel_rfl) (by kernel_rfl) (fun _ _ _ h => h) (Or.inr ⟨by rfl, rfl⟩) (by assumption) ?_
                try simp only [Act.put, List.setIfInBounds_toArray, List.set_cons_zero, List.set_cons_succ]
                refine wpAnyH_take (i := 25) (oi := { dst := Option.some 128, op := Op.indexAddr 44 (Operand.tmp 126) (Operand.tmp 127), type := 0, pos := "outright.go:61", after := #[{ on := 23, ground := Ground.data }, { on := 24, ground := Ground.data }, { on := 17, ground := Ground.guard }], guard := Option.some (17, Bool.true) }) (v := undef) rfl (by kernel_rfl) (by kernel_rfl) (by kernel_rfl) (fun _ _ _ h => h) (Or.inr ⟨by rfl, rfl⟩) (by assumption) ?_
                try simp only [Act.put, List.setIfInBounds_toArray, List.set_cons_zero, List.set_cons_succ]
                refine wpAnyH_take (i := 26) (oi := { dst := Option.some 129, op := Op.load 33 (Operand.tmp 128), type := 33, pos := "outright.go:61", after := #[{ on := 25, ground := Ground.data }, { on := 17, ground := Ground.guard }], guard := Option.some (17, Bool.true) }) (v := undef) rfl (by kernel_rfl) (by kernel_rfl) (by kernel_rfl) (fun _ _ _ h => h) (Or.inr ⟨by rfl, rfl⟩) (by assumption) ?_
                try simp only [Act.put, List.setIfInBounds_toArray, List.set_cons_zero, List.set_cons_succ]
                refine wpAnyH_take (i := 27) (oi := { dst := Option.some 130, op := Op.call { callee := Callee.value (Operand.func 24), args := #[Operand.tmp 125, Operand.tmp 129], argTypes := #[33, 33] }, type := 4, pos := "outright.go:61", after := #[{ on := 22, ground := Ground.data }, { on := 26, ground := Ground.data }, { on := 17, ground := Ground.chain }, { on := 17, ground := Ground.guard }], guard := Option.some (17, Bool.true) }) (v := undef) rfl (by kernel_rfl) (by kernel_rfl) (by kernel_rfl) (fun _ _ _ h => h) (Or.inr ⟨by rfl, rfl⟩) (by assumption) ?_
                try simp only [Act.put, List.setIfInBounds_toArray, List.set_cons_zero, List.set_cons_succ]
                have HQ7 : Hid (Qst w1 W6 qb L C) := HQ6
                have HX7 : Hid (RdX W6 (some ⟨bb, off, none⟩) D) := HX6
                clear HQ6 HX6
                refine wpAnyH_take (i := 28) (oi := { dst := Option.some 131, op := Op.unOp UnOp.not 4 (Operand.tmp 130), type := 4, pos := "outright.go:61", after := #[{ on := 27, ground := Ground.data }, { on := 17, ground := Ground.guard }], guard := Option.some (17, Bool.true) }) (v := undef) rfl (by kernel_rfl) (by kernel_rfl) (by kernel_rfl) (fun _ _ _ h => h) (Or.inr ⟨by rfl, rfl⟩) (by assumption) ?_
                try simp only [Act.put, List.setIfInBounds_toArray, List.set_cons_zero, List.set_cons_succ]
                refine wpAnyH_take (i := 29) (oi := { dst := Option.some 132, op := Op.pick (Operand.tmp 120) (Operand.tmp 131) (Operand.const (Value.bool Bool.false)), type := 4, pos := "outright.go:61", after := #[{ on := 17, ground := Ground.data }, { on := 28, ground := Ground.data }, { on := 13, ground := Ground.guard }], guard := Option.some (13, Bool.false) }) (v := ?_) rfl (by kernel_rfl) (by kernel_rfl) (by kernel_rfl) (fun _ _ _ h => h) (Or.inl ⟨by rfl, ?_⟩) (by assumption) ?_
                rotate_left
                · intro w hSw
                  (try dsimp only at hSw)
                  go_simp
                  try with_reducible rfl
                try simp only [Act.put, List.setIfInBounds_toArray, List.set_cons_zero, List.set_cons_succ]
                refine wpAnyH_take (i := 30) (oi := { dst := Option.some 133, op := Op.pick (Operand.tmp 116) (Operand.const (Value.bool Bool.true)) (Operand.tmp 132), type := 4, pos := "outright.go:61", after := #[{ on := 13, ground := Ground.data }, { on := 29, ground := Ground.data }, { on := 9, ground := Ground.guard }], guard := Option.some (9, Bool.true) }) (v := ?_) rfl (by kernel_rfl) (by kernel_rfl) (by kernel_rfl) (fun _ _ _ h => h) (Or.inl ⟨by rfl, ?_⟩) (by assumption) ?_
                rotate_left
                · intro w hSw
                  (try dsimp only at hSw)
                  go_simp
                  try with_reducible rfl
                try simp only [Act.put, List.setIfInBounds_toArray, List.set_cons_zero, List.set_cons_succ]
                refine wpAnyH_take (i := 31) (oi := { dst := Option.some 134, op := Op.pick (Operand.tmp 112) (Operand.tmp 133) (Operand.const (Value.bool Bool.false)), type := 4, pos := "outright.go:61", after := #[{ on := 9, ground := Ground.data }, { on := 30, ground := Ground.data }, { on := 5, ground := Ground.guard }], guard := Option.some (5, Bool.false) }) (v := ?_) rfl (by kernel_rfl) (by kernel_rfl) (by kernel_rfl) (fun _ _ _ h => h) (Or.inl ⟨by rfl, ?_⟩) (by assumption) ?_
                rotate_left
                · intro w hSw
                  (try dsimp only at hSw)
                  go_simp
                  try with_reducible rfl
                try simp only [Act.put, List.setIfInBounds_toArray, List.set_cons_zero, List.set_cons_succ]
                refine wpAnyH_take (i := 32) (oi := { dst := Option.some 135, op := Op.pick (Operand.tmp 108) (Operand.const (Value.bool Bool.true)) (Operand.tmp 134), type := 4, pos := "outright.go:61", after := #[{ on := 5, ground := Ground.data }, { on := 31, ground := Ground.data }], guard := Option.none }) (v := ?_) rfl (by kernel_rfl) (by kernel_rfl) (by kernel_rfl) (fun _ _ _ h => h) (Or.inl ⟨by rfl, ?_⟩) (by assumption) ?_
                rotate_left
                · intro w hSw
                  (try dsimp only at hSw)
                  go_simp
                  try with_reducible rfl
                try simp only [Act.put, List.setIfInBounds_toArray, List.set_cons_zero, List.set_cons_succ]
                refine wpAnyH_done (by kernel_rfl) ?_ _
                clear hHeld
                go_wp2_with fail
                go_roundg (n - (i + 1))
                case rel => exact ⟨i + 1, by simp, rfl, hlt, HQ7, HX7⟩
                case measure => omega

            · have HBF : Hid (Wpl.before b.s b.r b.c a.s a.r a.c = true) := q3
              have g1 : ¬ (b.lv > a.lv) := by omega
              have g3 : decide (b.lv > a.lv) = false := decide_eq_false g1
              have g4 : (b.lv == a.lv) = true := by simpa using q2
              clear q3
              go_upto_region 20 with fail
              cases sx with
              | true =>
                have hb1 := (Below.refl w5.heap.size w5).drew
                obtain ⟨b8, o8, e8, m0, m1, m2⟩ := HX5.out.at HDK.out
                obtain ⟨rfl, rfl⟩ : bb = b8 ∧ off = o8 := by simpa using e8
                obtain ⟨b8, o8, e8', k0, k1, k2⟩ := HX5.out.at HDI.out
                obtain ⟨rfl, rfl⟩ : bb = b8 ∧ off = o8 := by simpa using e8'
                clear e8 e8'
                refine wp_region_held_drew (S := fun W => (W.cell? ⟨bb, off + k * 3, none⟩ = some (.int .i64 b.s) ∧ W.cell? ⟨bb, off + k * 3 + 1, none⟩ = some (.int .i64 b.r) ∧ W.cell? ⟨bb, off + k * 3 + 2, none⟩ = some (.int .i64 b.c)) ∧ W.cell? ⟨bb, off + i * 3, none⟩ = some (.int .i64 a.s) ∧ W.cell? ⟨bb, off + i * 3 + 1, none⟩ = some (.int .i64 a.r) ∧ W.cell? ⟨bb, off + i * 3 + 2, none⟩ = some (.int .i64 a.c)) (by kernel_rfl) ⟨⟨cell_below hb1 m0, cell_below hb1 m1, cell_below hb1 m2⟩, cell_below hb1 k0, cell_below hb1 k1, cell_below hb1 k2⟩ (fun hHeld => ?_)
                have HQ6 : Hid (Qst w1 w5.drew qb L C) := HQ5.out.below hb1
                have HX6 : Hid (RdX w5.drew (some ⟨bb, off, none⟩) D) := HX5.out.below hb1
                clear hb1 HQ5 HX5 m0 m1 m2 k0 k1 k2
                generalize w5.drew = W6 at *
                refine wpAnyH_take (i := 0) (oi := { dst := Option.some 103, op := Op.move (Operand.tmp 14), type := 4, pos := "outright.go:61", after := #[], guard := Option.none }) (v := ?_) rfl (by kernel_rfl) (by kernel_rfl) (by kernel_rfl) (fun _ _ _ h => h) (Or.inl ⟨by rfl, ?_⟩) (by assumption) ?_
                rotate_left
                · intro w hSw
                  (try dsimp only at hSw)
                  go_simp
                  try with_reducible rfl
                try simp only [Act.put, List.setIfInBounds_toArray, List.set_cons_zero, List.set_cons_succ]
                refine wpAnyH_take (i := 1) (oi := { dst := Option.some 104, op := Op.unOp UnOp.not 4 (Operand.tmp 103), type := 4, pos := "outright.go:61", after := #[{ on := 0, ground := Ground.data }], guard := Option.none }) (v := ?_) rfl (by kernel_rfl) (by kernel_rfl) (by kernel_rfl) (fun _ _ _ h => h) (Or.inl ⟨by rfl, ?_⟩) (by assumption) ?_
                rotate_left
                · intro w hSw
                  (try dsimp only at hSw)
                  go_simp
                  try with_reducible rfl
                try simp only [Act.put, List.setIfInBounds_toArray, List.set_cons_zero, List.set_cons_succ]
                refine wpAnyH_take (i := 2) (oi := { dst := Option.some 105, op := Op.move (Operand.tmp 104), type := 4, pos := "outright.go:61", after := #[{ on := 1, ground := Ground.data }], guard := Option.none }) (v := ?_) rfl (by kernel_rfl) (by kernel_rfl) (by kernel_rfl) (fun _ _ _ h => h) (Or.inl ⟨by rfl, ?_⟩) (by assumption) ?_
                rotate_left
                · intro w hSw
                  (try dsimp only at hSw)
                  go_simp
                  try with_reducible rfl
                try simp only [Act.put, List.setIfInBounds_toArray, List.set_cons_zero, List.set_cons_succ]
                refine wpAnyH_take (i := 3) (oi := { dst := Option.some 106, op := Op.move (Operand.tmp 15), type := 4, pos := "outright.go:61", after := #[{ on := 2, ground := Ground.guard }], guard := Option.some (2, Bool.true) }) (v := undef) rfl (by kernel_rfl) (by kernel_rfl) (by kernel_rfl) (fun _ _ _ h => h) (Or.inr ⟨by rfl, rfl⟩) (by assumption) ?_
                try simp only [Act.put, List.setIfInBounds_toArray, List.set_cons_zero, List.set_cons_succ]
                refine wpAnyH_take (i := 4) (oi := { dst := Option.some 107, op := Op.pick (Operand.tmp 105) (Operand.tmp 106) (Operand.const (Value.bool Bool.false)), type := 4, pos := "outright.go:61", after := #[{ on := 2, ground := Ground.data }, { on := 3, ground := Ground.data }], guard := Option.none }) (v := ?_) rfl (by kernel_rfl) (by kernel_rfl) (by kernel_rfl) (fun _ _ _ h => h) (Or.inl ⟨by rfl, ?_⟩) (by assumption) ?_
                rotate_left
                · intro w hSw
                  (try dsimp only at hSw)
                  go_simp
                  try with_reducible rfl
                try simp only [Act.put, List.setIfInBounds_toArray, List.set_cons_zero, List.set_cons_succ]
                refine wpAnyH_take (i := 5) (oi := { dst := Option.some 108, op := Op.move (Operand.tmp 107), type := 4, pos := "outright.go:61", after := #[{ on := 4, ground := Ground.data }, { on := 2, ground := Ground.chain }], guard := Option.none }) (v := ?_) rfl (by kernel_rfl) (by kernel_rfl) (by kernel_rfl) (fun _ _ _ h => h) (Or.inl ⟨by rfl, ?_⟩) (by assumption) ?_
                rotate_left
                · intro w hSw
                  (try dsimp only at hSw)
                  go_simp
                  try with_reducible rfl
                try simp only [Act.put, List.setIfInBounds_toArray, List.set_cons_zero, List.set_cons_succ]
                refine wpAnyH_take (i := 6) (oi := { dst := Option.some 109, op := Op.move (Operand.tmp 14), type := 4, pos := "outright.go:61", after := #[{ on := 5, ground := Ground.guard }], guard := Option.some (5, Bool.false) }) (v := ?_) rfl (by kernel_rfl) (by kernel_rfl) (by kernel_rfl) (fun _ _ _ h => h) (Or.inl ⟨by rfl, ?_⟩) (by assumption) ?_
                rotate_left
                · intro w hSw
                  (try dsimp only at hSw)
                  go_simp
                  try with_reducible rfl
                try simp only [Act.put, List.setIfInBounds_toArray, List.set_cons_zero, List.set_cons_succ]
                refine wpAnyH_take (i := 7) (oi := { dst := Option.some 110, op := Op.move (Operand.tmp 15), type := 4, pos := "outright.go:61", after := #[{ on := 5, ground := Ground.guard }], guard := Option.some (5, Bool.false) }) (v := ?_) rfl (by kernel_rfl) (by kernel_rfl) (by kernel_rfl) (fun _ _ _ h => h) (Or.inl ⟨by rfl, ?_⟩) (by assumption) ?_
                rotate_left
                · intro w hSw
                  (try dsimp only at hSw)
                  go_simp
                  try with_reducible rfl
                try simp only [Act.put, List.setIfInBounds_toArray, List.set_cons_zero, List.set_cons_succ]
                refine wpAnyH_take (i := 8) (oi := { dst := Option.some 111, op := Op.binOp BinOp.eql 4 (Operand.tmp 109) (Operand.tmp 110) 4, type := 4, pos := "outright.go:61", after := #[{ on := 6, ground := Ground.data }, { on := 7, ground := Ground.data }, { on := 5, ground := Ground.guard }], guard := Option.some (5, Bool.false) }) (v := ?_) rfl (by kernel_rfl) (by kernel_rfl) (by kernel_rfl) (fun _ _ _ h => h) (Or.inl ⟨by rfl, ?_⟩) (by assumption) ?_
                rotate_left
                · intro w hSw
                  (try dsimp only at hSw)
                  go_simp
                  try with_reducible rfl
                try simp only [Act.put, List.setIfInBounds_toArray, List.set_cons_zero, List.set_cons_succ]
                refine wpAnyH_take (i := 9) (oi := { dst := Option.some 112, op := Op.move (Operand.tmp 111), type := 4, pos := "outright.go:61", after := #[{ on := 8, ground := Ground.data }, { on := 5, ground := Ground.chain }, { on := 5, ground := Ground.guard }], guard := Option.some (5, Bool.false) }) (v := ?_) rfl (by kernel_rfl) (by kernel_rfl) (by kernel_rfl) (fun _ _ _ h => h) (Or.inl ⟨by rfl, ?_⟩) (by assumption) ?_
                rotate_left
                · intro w hSw
                  (try dsimp only at hSw)
                  go_simp
                  try with_reducible rfl
                try simp only [Act.put, List.setIfInBounds_toArray, List.set_cons_zero, List.set_cons_succ]
                refine wpAnyH_take (i := 10) (oi := { dst := Option.some 113, op := Op.move (Operand.tmp 12), type := 3, pos := "outright.go:61", after := #[{ on := 9, ground := Ground.guard }], guard := Option.some (9, Bool.true) }) (v := ?_) rfl (by kernel_rfl) (by kernel_rfl) (by kernel_rfl) (fun _ _ _ h => h) (Or.inl ⟨by rfl, ?_⟩) (by assumption) ?_
                rotate_left
                · intro w hSw
                  (try dsimp only at hSw)
                  go_simp
                  try with_reducible rfl
                try simp only [Act.put, List.setIfInBounds_toArray, List.set_cons_zero, List.set_cons_succ]
                refine wpAnyH_take (i := 11) (oi := { dst := Option.some 114, op := Op.move (Operand.tmp 10), type := 3, pos := "outright.go:61", after := #[{ on := 9, ground := Ground.guard }], guard := Option.some (9, Bool.true) }) (v := ?_) rfl (by kernel_rfl) (by kernel_rfl) (by kernel_rfl) (fun _ _ _ h => h) (Or.inl ⟨by rfl, ?_⟩) (by assumption) ?_
                rotate_left
                · intro w hSw
                  (try dsimp only at hSw)
                  go_simp
                  try with_reducible rfl
                try simp only [Act.put, List.setIfInBounds_toArray, List.set_cons_zero, List.set_cons_succ]
                refine wpAnyH_take (i := 12) (oi := { dst := Option.some 115, op := Op.binOp BinOp.gtr 3 (Operand.tmp 113) (Operand.tmp 114) 3, type := 4, pos := "outright.go:61", after := #[{ on := 10, ground := Ground.data }, { on := 11, ground := Ground.data }, { on := 9, ground := Ground.guard }], guard := Option.some (9, Bool.true) }) (v := ?_) rfl (by kernel_rfl) (by kernel_rfl) (by kernel_rfl) (fun _ _ _ h => h) (Or.inl ⟨by rfl, ?_⟩) (by assumption) ?_
                rotate_left
                · intro w hSw
                  (try dsimp only at hSw)
                  go_simp
                  try with_reducible rfl
                try simp only [Act.put, List.setIfInBounds_toArray, List.set_cons_zero, List.set_cons_succ]
                refine wpAnyH_take (i := 13) (oi := { dst := Option.some 116, op := Op.move (Operand.tmp 115), type := 4, pos := "outright.go:61", after := #[{ on := 12, ground := Ground.data }, { on := 9, ground := Ground.chain }, { on := 9, ground := Ground.guard }], guard := Option.some (9, Bool.true) }) (v := ?_) rfl (by kernel_rfl) (by kernel_rfl) (by kernel_rfl) (fun _ _ _ h => h) (Or.inl ⟨by rfl, ?_⟩) (by assumption) ?_
                rotate_left
                · intro w hSw
                  (try dsimp only at hSw)
                  go_simp
                  try with_reducible rfl
                try simp only [Act.put, List.setIfInBounds_toArray, List.set_cons_zero, List.set_cons_succ]
                refine wpAnyH_take (i := 14) (oi := { dst := Option.some 117, op := Op.move (Operand.tmp 12), type := 3, pos := "outright.go:61", after := #[{ on := 13, ground := Ground.guard }], guard := Option.some (13, Bool.false) }) (v := ?_) rfl (by kernel_rfl) (by kernel_rfl) (by kernel_rfl) (fun _ _ _ h => h) (Or.inl ⟨by rfl, ?_⟩) (by assumption) ?_
                rotate_left
                · intro w hSw
                  (try dsimp only at hSw)
                  go_simp
                  try with_reducible rfl
                try simp only [Act.put, List.setIfInBounds_toArray, List.set_cons_zero, List.set_cons_succ]
                refine wpAnyH_take (i := 15) (oi := { dst := Option.some 118, op := Op.move (Operand.tmp 10), type := 3, pos := "outright.go:61", after := #[{ on := 13, ground := Ground.guard }], guard := Option.some (13, Bool.false) }) (v := ?_) rfl (by kernel_rfl) (by kernel_rfl) (by kernel_rfl) (fun _ _ _ h => h) (Or.inl ⟨by rfl, ?_⟩) (by assumption) ?_
                rotate_left
                · intro w hSw
                  (try dsimp only at hSw)
                  go_simp
                  try with_reducible rfl
                try simp only [Act.put, List.setIfInBounds_toArray, List.set_cons_zero, List.set_cons_succ]
                refine wpAnyH_take (i := 16) (oi := { dst := Option.some 119, op := Op.binOp BinOp.eql 3 (Operand.tmp 117) (Operand.tmp 118) 3, type := 4, pos := "outright.go:61", after := #[{ on := 14, ground := Ground.data }, { on := 15, ground := Ground.data }, { on := 13, ground := Ground.guard }], guard := Option.some (13, Bool.false) }) (v := ?_) rfl (by kernel_rfl) (by kernel_rfl) (by kernel_rfl) (fun _ _ _ h => h) (Or.inl ⟨by rfl, ?_⟩) (by assumption) ?_
                rotate_left
                · intro w hSw
                  (try dsimp only at hSw)
                  go_simp
                  try with_reducible rfl
                try simp only [Act.put, List.setIfInBounds_toArray, List.set_cons_zero, List.set_cons_succ]
                refine wpAnyH_take (i := 17) (oi := { dst := Option.some 120, op := Op.move (Operand.tmp 119), type := 4, pos := "outright.go:61", after := #[{ on := 16, ground := Ground.data }, { on := 13, ground := Ground.chain }, { on := 13, ground := Ground.guard }], guard := Option.some (13, Bool.false) }) (v := ?_) rfl (by kernel_rfl) (by kernel_rfl) (by kernel_rfl) (fun _ _ _ h => h) (Or.inl ⟨by rfl, ?_⟩) (by assumption) ?_
                rotate_left
                · intro w hSw
                  (try dsimp only at hSw)
                  go_simp
                  try with_reducible rfl
                try simp only [Act.put, List.setIfInBounds_toArray, List.set_cons_zero, List.set_cons_succ]
                refine wpAnyH_take (i := 18) (oi := { dst := Option.some 121, op := Op.move (Operand.tmp 6), type := 44, pos := "outright.go:61", after := #[{ on := 17, ground := Ground.guard }], guard := Option.some (17, Bool.true) }) (v := ?_) rfl (by kernel_rfl) (by kernel_rfl) (by kernel_rfl) (fun _ _ _ h => h) (Or.inl ⟨by rfl, ?_⟩) (by assumption) ?_
                rotate_left
                · intro w hSw
                  (try dsimp only at hSw)
                  go_simp
                  try with_reducible rfl
                try simp only [Act.put, List.setIfInBounds_toArray, List.set_cons_zero, List.set_cons_succ]
                refine wpAnyH_take (i := 19) (oi := { dst := Option.some 122, op := Op.move (Operand.tmp 9), type := 3, pos := "outright.go:61", after := #[{ on := 17, ground := Ground.guard }], guard := Option.some (17, Bool.true) }) (v := ?_) rfl (by kernel_rfl) (by kernel_rfl) (by kernel_rfl) (fun _ _ _ h => h) (Or.inl ⟨by rfl, ?_⟩) (by assumption) ?_
                rotate_left
                · intro w hSw
                  (try dsimp only at hSw)
                  go_simp
                  try with_reducible rfl
                try simp only [Act.put, List.setIfInBounds_toArray, List.set_cons_zero, List.set_cons_succ]
                refine wpAnyH_take (i := 20) (oi := { dst := Option.some 123, op := Op.binOp BinOp.sub 3 (Operand.tmp 122) (Operand.const (Value.int IntKind.i64 1)) 3, type := 3, pos := "outright.go:61", after := #[{ on := 19, ground := Ground.data }, { on := 17, ground := Ground.guard }], guard := Option.some (17, Bool.true) }) (v := ?_) rfl (by kernel_rfl) (by kernel_rfl) (by kernel_rfl) (fun _ _ _ h => h) (Or.inl ⟨by rfl, ?_⟩) (by assumption) ?_
                rotate_left
                · intro w hSw
                  (try dsimp only at hSw)
                  go_simp
                  try with_reducible rfl
                try simp only [Act.put, List.setIfInBounds_toArray, List.set_cons_zero, List.set_cons_succ]
                refine wpAnyH_take (i := 21) (oi := { dst := Option.some 124, op := Op.indexAddr 44 (Operand.tmp 121) (Operand.tmp 123), type := 0, pos := "outright.go:61", after := #[{ on := 18, ground := Ground.data }, { on := 20, ground := Ground.data }, { on := 17, ground := Ground.guard }], guard := Option.some (17, Bool.true) }) (v := ?_) rfl (by kernel_rfl) (by kernel_rfl) (by kernel_rfl) (fun _ _ _ h => h) (Or.inl ⟨by rfl, ?_⟩) (by assumption) ?_
                rotate_left
                · intro w hSw
                  (try dsimp only at hSw)
                  go_simp
                  try with_reducible rfl
                try simp only [Act.put, List.setIfInBounds_toArray, List.set_cons_zero, List.set_cons_succ]
                refine wpAnyH_take (i := 22) (oi := { dst := Option.some 125, op := Op.load 33 (Operand.tmp 124), type := 33, pos := "outright.go:61", after := #[{ on := 21, ground := Ground.data }, { on := 17, ground := Ground.guard }], guard := Option.some (17, Bool.true) }) (v := ?_) rfl (by kernel_rfl) (by kernel_rfl) (by kernel_rfl) (fun _ _ _ h => h) (Or.inl ⟨by rfl, ?_⟩) (by assumption) ?_
                rotate_left
                · intro w hSw
                  (try dsimp only at hSw)
                  go_simp
                  try with_reducible rfl
                try simp only [Act.put, List.setIfInBounds_toArray, List.set_cons_zero, List.set_cons_succ]
                refine wpAnyH_take (i := 23) (oi := { dst := Option.some 126, op := Op.move (Operand.tmp 6), type := 44, pos := "outright.go:61", after := #[{ on := 17, ground := Ground.guard }], guard := Option.some (17, Bool.true) }) (v := ?_) rfl (by kernel_rfl) (by kernel_rfl) (by kernel_rfl) (fun _ _ _ h => h) (Or.inl ⟨by rfl, ?_⟩) (by assumption) ?_
                rotate_left
                · intro w hSw
                  (try dsimp only at hSw)
                  go_simp
                  try with_reducible rfl
                try simp only [Act.put, List.setIfInBounds_toArray, List.set_cons_zero, List.set_cons_succ]
                refine wpAnyH_take (i := 24) (oi := { dst := Option.some 127, op := Op.move (Operand.tmp 9), type := 3, pos := "outright.go:61", after := #[{ on := 17, ground := Ground.guard }], guard := Option.some (17, Bool.true) }) (v := ?_) rfl (by kernel_rfl) (by kernel_rfl) (by kernel_rfl) (fun _ _ _ h => h) (Or.inl ⟨by rfl, ?_⟩) (by assumption) ?_
                rotate_left
                · intro w hSw
                  (try dsimp only at hSw)
                  go_simp
                  try with_reducible rfl
                try simp only [Act.put, List.setIfInBounds_toArray, List.set_cons_zero, List.set_cons_succ]
                refine wpAnyH_take (i := 25) (oi := { dst := Option.some 128, op := Op.indexAddr 44 (Operand.tmp 126) (Operand.tmp 127), type := 0, pos := "outright.go:61", after := #[{ on := 23, ground := Ground.data }, { on := 24, ground := Ground.data }, { on := 17, ground := Ground.guard }], guard := Option.some (17, Bool.true) }) (v := ?_) rfl (by kernel_rfl) (by kernel_rfl) (by kernel_rfl) (fun _ _ _ h => h) (Or.inl ⟨by rfl, ?_⟩) (by assumption) ?_
                rotate_left
                · intro w hSw
                  (try dsimp only at hSw)
                  go_simp
                  try with_reducible rfl
                try simp only [Act.put, List.setIfInBounds_toArray, List.set_cons_zero, List.set_cons_succ]
                refine wpAnyH_take (i := 26) (oi := { dst := Option.some 129, op := Op.load 33 (Operand.tmp 128), type := 33, pos := "outright.go:61", after := #[{ on := 25, ground := Ground.data }, { on := 17, ground := Ground.guard }], guard := Option.some (17, Bool.true) }) (v := ?_) rfl (by kernel_rfl) (by kernel_rfl) (by kernel_rfl) (fun _ _ _ h => h) (Or.inl ⟨by rfl, ?_⟩) (by assumption) ?_
                rotate_left
                · intro w hSw
                  (try dsimp only at hSw)
                  go_simp
                  try with_reducible rfl
                try simp only [Act.put, List.setIfInBounds_toArray, List.set_cons_zero, List.set_cons_succ]
                refine wpAnyH_ready (rs := [27]) (by kernel_rfl) (by simp) ?_
                refine AllReadyH.cons (o := { dst := Option.some 130, op := Op.call { callee := Callee.value (Operand.func 24), args := #[Operand.tmp 125, Operand.tmp 129], argTypes := #[33, 33] }, type := 4, pos := "outright.go:61", after := #[{ on := 22, ground := Ground.data }, { on := 26, ground := Ground.data }, { on := 17, ground := Ground.chain }, { on := 17, ground := Ground.guard }], guard := Option.some (17, Bool.true) }) rfl (fun K hK => ?_) AllReadyH.nil
                have BE := before_any b.s b.r b.c a.s a.r a.c W6
                rw [HBF.out] at BE
                go_simp
                refine BE.mono ?_
                rintro en w7 ⟨rfl, hb7⟩
                have HQ7 : Hid (Qst w1 w7 qb L C) := HQ6.out.below hb7
                have HX7 : Hid (RdX w7 (some ⟨bb, off, none⟩) D) := HX6.out.below hb7
                clear BE hb7 HQ6 HX6
                obtain ⟨b8, o8, e8, m0, m1, m2⟩ := HX7.out.at HDK.out
                obtain ⟨rfl, rfl⟩ : bb = b8 ∧ off = o8 := by simpa using e8
                obtain ⟨b8, o8, e8', k0, k1, k2⟩ := HX7.out.at HDI.out
                obtain ⟨rfl, rfl⟩ : bb = b8 ∧ off = o8 := by simpa using e8'
                clear e8 e8'
                go_wp2_with fail
                refine hK.out _ _ ⟨⟨m0, m1, m2⟩, k0, k1, k2⟩ (fun hHeld => ?_)
                clear hK K m0 m1 m2 k0 k1 k2
                try simp only [Act.put, List.setIfInBounds_toArray, List.set_cons_zero, List.set_cons_succ]
                refine wpAnyH_take (i := 28) (oi := { dst := Option.some 131, op := Op.unOp UnOp.not 4 (Operand.tmp 130), type := 4, pos := "outright.go:61", after := #[{ on := 27, ground := Ground.data }, { on := 17, ground := Ground.guard }], guard := Option.some (17, Bool.true) }) (v := ?_) rfl (by kernel_rfl) (by kernel_rfl) (by kernel_rfl) (fun _ _ _ h => h) (Or.inl ⟨by rfl, ?_⟩) (by assumption) ?_
                rotate_left
                · intro w hSw
                  (try dsimp only at hSw)
                  go_simp
                  try with_reducible rfl
                try simp only [Act.put, List.setIfInBounds_toArray, List.set_cons_zero, List.set_cons_succ]
                refine wpAnyH_take (i := 29) (oi := { dst := Option.some 132, op := Op.pick (Operand.tmp 120) (Operand.tmp 131) (Operand.const (Value.bool Bool.false)), type := 4, pos := "outright.go:61", after := #[{ on := 17, ground := Ground.data }, { on := 28, ground := Ground.data }, { on := 13, ground := Ground.guard }], guard := Option.some (13, Bool.false) }) (v := ?_) rfl (by kernel_rfl) (by kernel_rfl) (by kernel_rfl) (fun _ _ _ h => h) (Or.inl ⟨by rfl, ?_⟩) (by assumption) ?_
                rotate_left
                · intro w hSw
                  (try dsimp only at hSw)
                  go_simp
                  try with_reducible rfl
                try simp only [Act.put, List.setIfInBounds_toArray, List.set_cons_zero, List.set_cons_succ]
                refine wpAnyH_take (i := 30) (oi := { dst := Option.some 133, op := Op.pick (Operand.tmp 116) (Operand.const (Value.bool Bool.true)) (Operand.tmp 132), type := 4, pos := "outright.go:61", after := #[{ on := 13, ground := Ground.data }, { on := 29, ground := Ground.data }, { on := 9, ground := Ground.guard }], guard := Option.some (9, Bool.true) }) (v := ?_) rfl (by kernel_rfl) (by kernel_rfl) (by kernel_rfl) (fun _ _ _ h => h) (Or.inl ⟨by rfl, ?_⟩) (by assumption) ?_
                rotate_left
                · intro w hSw
                  (try dsimp only at hSw)
                  go_simp
                  try with_reducible rfl
                try simp only [Act.put, List.setIfInBounds_toArray, List.set_cons_zero, List.set_cons_succ]
                refine wpAnyH_take (i := 31) (oi := { dst := Option.some 134, op := Op.pick (Operand.tmp 112) (Operand.tmp 133) (Operand.const (Value.bool Bool.false)), type := 4, pos := "outright.go:61", after := #[{ on := 9, ground := Ground.data }, { on := 30, ground := Ground.data }, { on := 5, ground := Ground.guard }], guard := Option.some (5, Bool.false) }) (v := ?_) rfl (by kernel_rfl) (by kernel_rfl) (by kernel_rfl) (fun _ _ _ h => h) (Or.inl ⟨by rfl, ?_⟩) (by assumption) ?_
                rotate_left
                · intro w hSw
                  (try dsimp only at hSw)
                  go_simp
                  try with_reducible rfl
                try simp only [Act.put, List.setIfInBounds_toArray, List.set_cons_zero, List.set_cons_succ]
                refine wpAnyH_take (i := 32) (oi := { dst := Option.some 135, op := Op.pick (Operand.tmp 108) (Operand.const (Value.bool Bool.true)) (Operand.tmp 134), type := 4, pos := "outright.go:61", after := #[{ on := 5, ground := Ground.data }, { on := 31, ground := Ground.data }], guard := Option.none }) (v := ?_) rfl (by kernel_rfl) (by kernel_rfl) (by kernel_rfl) (fun _ _ _ h => h) (Or.inl ⟨by rfl, ?_⟩) (by assumption) ?_
                rotate_left
                · intro w hSw
                  (try dsimp only at hSw)
                  go_simp
                  try with_reducible rfl
                try simp only [Act.put, List.setIfInBounds_toArray, List.set_cons_zero, List.set_cons_succ]
                refine wpAnyH_done (by kernel_rfl) ?_ _
                clear hHeld
                go_wp2_with fail
                go_roundg (n - (i + 1))
                case rel => exact ⟨i + 1, by simp, rfl, hlt, HQ7, HX7⟩
                case measure => omega

              | false =>
                have hb1 := (Below.refl w5.heap.size w5).drew
                obtain ⟨b8, o8, e8, m0, m1, m2⟩ := HX5.out.at HDK.out
                obtain ⟨rfl, rfl⟩ : bb = b8 ∧ off = o8 := by simpa using e8
                obtain ⟨b8, o8, e8', k0, k1, k2⟩ := HX5.out.at HDI.out
                obtain ⟨rfl, rfl⟩ : bb = b8 ∧ off = o8 := by simpa using e8'
                clear e8 e8'
                refine wp_region_held_drew (S := fun W => (W.cell? ⟨bb, off + k * 3, none⟩ = some (.int .i64 b.s) ∧ W.cell? ⟨bb, off + k * 3 + 1, none⟩ = some (.int .i64 b.r) ∧ W.cell? ⟨bb, off + k * 3 + 2, none⟩ = some (.int .i64 b.c)) ∧ W.cell? ⟨bb, off + i * 3, none⟩ = some (.int .i64 a.s) ∧ W.cell? ⟨bb, off + i * 3 + 1, none⟩ = some (.int .i64 a.r) ∧ W.cell? ⟨bb, off + i * 3 + 2, none⟩ = some (.int .i64 a.c)) (by kernel_rfl) ⟨⟨cell_below hb1 m0, cell_below hb1 m1, cell_below hb1 m2⟩, cell_below hb1 k0, cell_below hb1 k1, cell_below hb1 k2⟩ (fun hHeld => ?_)
                have HQ6 : Hid (Qst w1 w5.drew qb L C) := HQ5.out.below hb1
                have HX6 : Hid (RdX w5.drew (some ⟨bb, off, none⟩) D) := HX5.out.below hb1
                clear hb1 HQ5 HX5 m0 m1 m2 k0 k1 k2
                generalize w5.drew = W6 at *
                refine wpAnyH_take (i := 0) (oi := { dst := Option.some 103, op := Op.move (Operand.tmp 14), type := 4, pos := "outright.go:61", after := #[], guard := Option.none }) (v := ?_) rfl (by kernel_rfl) (by kernel_rfl) (by kernel_rfl) (fun _ _ _ h => h) (Or.inl ⟨by rfl, ?_⟩) (by assumption) ?_
                rotate_left
                · intro w hSw
                  (try dsimp only at hSw)
                  go_simp
                  try with_reducible rfl
                try simp only [Act.put, List.setIfInBounds_toArray, List.set_cons_zero, List.set_cons_succ]
                refine wpAnyH_take (i := 1) (oi := { dst := Option.some 104, op := Op.unOp UnOp.not 4 (Operand.tmp 103), type := 4, pos := "outright.go:61", after := #[{ on := 0, ground := Ground.data }], guard := Option.none }) (v := ?_) rfl (by kernel_rfl) (by kernel_rfl) (by kernel_rfl) (fun _ _ _ h => h) (Or.inl ⟨by rfl, ?_⟩) (by assumption) ?_
                rotate_left
                · intro w hSw
                  (try dsimp only at hSw)
                  go_simp
                  try with_reducible rfl
                try simp only [Act.put, List.setIfInBounds_toArray, List.set_cons_zero, List.set_cons_succ]
                refine wpAnyH_take (i := 2) (oi := { dst := Option.some 105, op := Op.move (Operand.tmp 104), type := 4, pos := "outright.go:61", after := #[{ on := 1, ground := Ground.data }], guard := Option.none }) (v := ?_) rfl (by kernel_rfl) (by kernel_rfl) (by kernel_rfl) (fun _ _ _ h => h) (Or.inl ⟨by rfl, ?_⟩) (by assumption) ?_
                rotate_left
                · intro w hSw
                  (try dsimp only at hSw)
                  go_simp
                  try with_reducible rfl
                try simp only [Act.put, List.setIfInBounds_toArray, List.set_cons_zero, List.set_cons_succ]
                refine wpAnyH_take (i := 3) (oi := { dst := Option.some 106, op := Op.move (Operand.tmp 15), type := 4, pos := "outright.go:61", after := #[{ on := 2, ground := Ground.guard }], guard := Option.some (2, Bool.true) }) (v := ?_) rfl (by kernel_rfl) (by kernel_rfl) (by kernel_rfl) (fun _ _ _ h => h) (Or.inl ⟨by rfl, ?_⟩) (by assumption) ?_
                rotate_left
                · intro w hSw
                  (try dsimp only at hSw)
                  go_simp
                  try with_reducible rfl
                try simp only [Act.put, List.setIfInBounds_toArray, List.set_cons_zero, List.set_cons_succ]
                refine wpAnyH_take (i := 4) (oi := { dst := Option.some 107, op := Op.pick (Operand.tmp 105) (Operand.tmp 106) (Operand.const (Value.bool Bool.false)), type := 4, pos := "outright.go:61", after := #[{ on := 2, ground := Ground.data }, { on := 3, ground := Ground.data }], guard := Option.none }) (v := ?_) rfl (by kernel_rfl) (by kernel_rfl) (by kernel_rfl) (fun _ _ _ h => h) (Or.inl ⟨by rfl, ?_⟩) (by assumption) ?_
                rotate_left
                · intro w hSw
                  (try dsimp only at hSw)
                  go_simp
                  try with_reducible rfl
                try simp only [Act.put, List.setIfInBounds_toArray, List.set_cons_zero, List.set_cons_succ]
                refine wpAnyH_take (i := 5) (oi := { dst := Option.some 108, op := Op.move (Operand.tmp 107), type := 4, pos := "outright.go:61", after := #[{ on := 4, ground := Ground.data }, { on := 2, ground := Ground.chain }], guard := Option.none }) (v := ?_) rfl (by kernel_rfl) (by kernel_rfl) (by kernel_rfl) (fun _ _ _ h => h) (Or.inl ⟨by rfl, ?_⟩) (by assumption) ?_
                rotate_left
                · intro w hSw
                  (try dsimp only at hSw)
                  go_simp
                  try with_reducible rfl
                try simp only [Act.put, List.setIfInBounds_toArray, List.set_cons_zero, List.set_cons_succ]
                refine wpAnyH_take (i := 6) (oi := { dst := Option.some 109, op := Op.move (Operand.tmp 14), type := 4, pos := "outright.go:61", after := #[{ on := 5, ground := Ground.guard }], guard := Option.some (5, Bool.false) }) (v := ?_) rfl (by kernel_rfl) (by kernel_rfl) (by kernel_rfl) (fun _ _ _ h => h) (Or.inl ⟨by rfl, ?_⟩) (by assumption) ?_
                rotate_left
                · intro w hSw
                  (try dsimp only at hSw)
                  go_simp
                  try with_reducible rfl
                try simp only [Act.put, List.setIfInBounds_toArray, List.set_cons_zero, List.set_cons_succ]
                refine wpAnyH_take (i := 7) (oi := { dst := Option.some 110, op := Op.move (Operand.tmp 15), type := 4, pos := "outright.go:61", after := #[{ on := 5, ground := Ground.guard }], guard := Option.some (5, Bool.false) }) (v := ?_) rfl (by kernel_rfl) (by kernel_rfl) (by kernel_rfl) (fun _ _ _ h => h) (Or.inl ⟨by rfl, ?_⟩) (by assumption) ?_
                rotate_left
                · intro w hSw
                  (try dsimp only at hSw)
                  go_simp
                  try with_reducible rfl
                try simp only [Act.put, List.setIfInBounds_toArray, List.set_cons_zero, List.set_cons_succ]
                refine wpAnyH_take (i := 8) (oi := { dst := Option.some 111, op := Op.binOp BinOp.eql 4 (Operand.tmp 109) (Operand.tmp 110) 4, type := 4, pos := "outright.go:61", after := #[{ on := 6, ground := Ground.data }, { on := 7, ground := Ground.data }, { on := 5, ground := Ground.guard }], guard := Option.some (5, Bool.false) }) (v := ?_) rfl (by kernel_rfl) (by kernel_rfl) (by kernel_rfl) (fun _ _ _ h => h) (Or.inl ⟨by rfl, ?_⟩) (by assumption) ?_
                rotate_left
                · intro w hSw
                  (try dsimp only at hSw)
                  go_simp
                  try with_reducible rfl
                try simp only [Act.put, List.setIfInBounds_toArray, List.set_cons_zero, List.set_cons_succ]
                refine wpAnyH_take (i := 9) (oi := { dst := Option.some 112, op := Op.move (Operand.tmp 111), type := 4, pos := "outright.go:61", after := #[{ on := 8, ground := Ground.data }, { on := 5, ground := Ground.chain }, { on := 5, ground := Ground.guard }], guard := Option.some (5, Bool.false) }) (v := ?_) rfl (by kernel_rfl) (by kernel_rfl) (by kernel_rfl) (fun _ _ _ h => h) (Or.inl ⟨by rfl, ?_⟩) (by assumption) ?_
                rotate_left
                · intro w hSw
                  (try dsimp only at hSw)
                  go_simp
                  try with_reducible rfl
                try simp only [Act.put, List.setIfInBounds_toArray, List.set_cons_zero, List.set_cons_succ]
                refine wpAnyH_take (i := 10) (oi := { dst := Option.some 113, op := Op.move (Operand.tmp 12), type := 3, pos := "outright.go:61", after := #[{ on := 9, ground := Ground.guard }], guard := Option.some (9, Bool.true) }) (v := ?_) rfl (by kernel_rfl) (by kernel_rfl) (by kernel_rfl) (fun _ _ _ h => h) (Or.inl ⟨by rfl, ?_⟩) (by assumption) ?_
                rotate_left
                · intro w hSw
                  (try dsimp only at hSw)
                  go_simp
                  try with_reducible rfl
                try simp only [Act.put, List.setIfInBounds_toArray, List.set_cons_zero, List.set_cons_succ]
                refine wpAnyH_take (i := 11) (oi := { dst := Option.some 114, op := Op.move (Operand.tmp 10), type := 3, pos := "outright.go:61", after := #[{ on := 9, ground := Ground.guard }], guard := Option.some (9, Bool.true) }) (v := ?_) rfl (by kernel_rfl) (by kernel_rfl) (by kernel_rfl) (fun _ _ _ h => h) (Or.inl ⟨by rfl, ?_⟩) (by assumption) ?_
                rotate_left
                · intro w hSw
                  (try dsimp only at hSw)
                  go_simp
                  try with_reducible rfl
                try simp only [Act.put, List.setIfInBounds_toArray, List.set_cons_zero, List.set_cons_succ]
                refine wpAnyH_take (i := 12) (oi := { dst := Option.some 115, op := Op.binOp BinOp.gtr 3 (Operand.tmp 113) (Operand.tmp 114) 3, type := 4, pos := "outright.go:61", after := #[{ on := 10, ground := Ground.data }, { on := 11, ground := Ground.data }, { on := 9, ground := Ground.guard }], guard := Option.some (9, Bool.true) }) (v := ?_) rfl (by kernel_rfl) (by kernel_rfl) (by kernel_rfl) (fun _ _ _ h => h) (Or.inl ⟨by rfl, ?_⟩) (by assumption) ?_
                rotate_left
                · intro w hSw
                  (try dsimp only at hSw)
                  go_simp
                  try with_reducible rfl
                try simp only [Act.put, List.setIfInBounds_toArray, List.set_cons_zero, List.set_cons_succ]
                refine wpAnyH_take (i := 13) (oi := { dst := Option.some 116, op := Op.move (Operand.tmp 115), type := 4, pos := "outright.go:61", after := #[{ on := 12, ground := Ground.data }, { on := 9, ground := Ground.chain }, { on := 9, ground := Ground.guard }], guard := Option.some (9, Bool.true) }) (v := ?_) rfl (by kernel_rfl) (by kernel_rfl) (by kernel_rfl) (fun _ _ _ h => h) (Or.inl ⟨by rfl, ?_⟩) (by assumption) ?_
                rotate_left
                · intro w hSw
                  (try dsimp only at hSw)
                  go_simp
                  try with_reducible rfl
                try simp only [Act.put, List.setIfInBounds_toArray, List.set_cons_zero, List.set_cons_succ]
                refine wpAnyH_take (i := 14) (oi := { dst := Option.some 117, op := Op.move (Operand.tmp 12), type := 3, pos := "outright.go:61", after := #[{ on := 13, ground := Ground.guard }], guard := Option.some (13, Bool.false) }) (v := ?_) rfl (by kernel_rfl) (by kernel_rfl) (by kernel_rfl) (fun _ _ _ h => h) (Or.inl ⟨by rfl, ?_⟩) (by assumption) ?_
                rotate_left
                · intro w hSw
                  (try dsimp only at hSw)
                  go_simp
                  try with_reducible rfl
                try simp only [Act.put, List.setIfInBounds_toArray, List.set_cons_zero, List.set_cons_succ]
                refine wpAnyH_take (i := 15) (oi := { dst := Option.some 118, op := Op.move (Operand.tmp 10), type := 3, pos := "outright.go:61", after := #[{ on := 13, ground := Ground.guard }], guard := Option.some (13, Bool.false) }) (v := ?_) rfl (by kernel_rfl) (by kernel_rfl) (by kernel_rfl) (fun _ _ _ h => h) (Or.inl ⟨by rfl, ?_⟩) (by assumption) ?_
                rotate_left
                · intro w hSw
                  (try dsimp only at hSw)
                  go_simp
                  try with_reducible rfl
                try simp only [Act.put, List.setIfInBounds_toArray, List.set_cons_zero, List.set_cons_succ]
                refine wpAnyH_take (i := 16) (oi := { dst := Option.some 119, op := Op.binOp BinOp.eql 3 (Operand.tmp 117) (Operand.tmp 118) 3, type := 4, pos := "outright.go:61", after := #[{ on := 14, ground := Ground.data }, { on := 15, ground := Ground.data }, { on := 13, ground := Ground.guard }], guard := Option.some (13, Bool.false) }) (v := ?_) rfl (by kernel_rfl) (by kernel_rfl) (by kernel_rfl) (fun _ _ _ h => h) (Or.inl ⟨by rfl, ?_⟩) (by assumption) ?_
                rotate_left
                · intro w hSw
                  (try dsimp only at hSw)
                  go_simp
                  try with_reducible rfl
                try simp only [Act.put, List.setIfInBounds_toArray, List.set_cons_zero, List.set_cons_succ]
                refine wpAnyH_take (i := 17) (oi := { dst := Option.some 120, op := Op.move (Operand.tmp 119), type := 4, pos := "outright.go:61", after := #[{ on := 16, ground := Ground.data }, { on := 13, ground := Ground.chain }, { on := 13, ground := Ground.guard }], guard := Option.some (13, Bool.false) }) (v := ?_) rfl (by kernel_rfl) (by kernel_rfl) (by kernel_rfl) (fun _ _ _ h => h) (Or.inl ⟨by rfl, ?_⟩) (by assumption) ?_
                rotate_left
                · intro w hSw
                  (try dsimp only at hSw)
                  go_simp
                  try with_reducible rfl
                try simp only [Act.put, List.setIfInBounds_toArray, List.set_cons_zero, List.set_cons_succ]
                refine wpAnyH_take (i := 18) (oi := { dst := Option.some 121, op := Op.move (Operand.tmp 6), type := 44, pos := "outright.go:61", after := #[{ on := 17, ground := Ground.guard }], guard := Option.some (17, Bool.true) }) (v := ?_) rfl (by kernel_rfl) (by kernel_rfl) (by kernel_rfl) (fun _ _ _ h => h) (Or.inl ⟨by rfl, ?_⟩) (by assumption) ?_
                rotate_left
                · intro w hSw
                  (try dsimp only at hSw)
                  go_simp
                  try with_reducible rfl
                try simp only [Act.put, List.setIfInBounds_toArray, List.set_cons_zero, List.set_cons_succ]
                refine wpAnyH_take (i := 19) (oi := { dst := Option.some 122, op := Op.move (Operand.tmp 9), type := 3, pos := "outright.go:61", after := #[{ on := 17, ground := Ground.guard }], guard := Option.some (17, Bool.true) }) (v := ?_) rfl (by kernel_rfl) (by kernel_rfl) (by kernel_rfl) (fun _ _ _ h => h) (Or.inl ⟨by rfl, ?_⟩) (by assumption) ?_
                rotate_left
                · intro w hSw
                  (try dsimp only at hSw)
                  go_simp
                  try with_reducible rfl
                try simp only [Act.put, List.setIfInBounds_toArray, List.set_cons_zero, List.set_cons_succ]
                refine wpAnyH_take (i := 20) (oi := { dst := Option.some 123, op := Op.binOp BinOp.sub 3 (Operand.tmp 122) (Operand.const (Value.int IntKind.i64 1)) 3, type := 3, pos := "outright.go:61", after := #[{ on := 19, ground := Ground.data }, { on := 17, ground := Ground.guard }], guard := Option.some (17, Bool.true) }) (v := ?_) rfl (by kernel_rfl) (by kernel_rfl) (by kernel_rfl) (fun _ _ _ h => h) (Or.inl ⟨by rfl, ?_⟩) (by assumption) ?_
                rotate_left
                · intro w hSw
                  (try dsimp only at hSw)
                  go_simp
                  try with_reducible rfl
                try simp only [Act.put, List.setIfInBounds_toArray, List.set_cons_zero, List.set_cons_succ]
                refine wpAnyH_take (i := 21) (oi := { dst := Option.some 124, op := Op.indexAddr 44 (Operand.tmp 121) (Operand.tmp 123), type := 0, pos := "outright.go:61", after := #[{ on := 18, ground := Ground.data }, { on := 20, ground := Ground.data }, { on := 17, ground := Ground.guard }], guard := Option.some (17, Bool.true) }) (v := ?_) rfl (by kernel_rfl) (by kernel_rfl) (by kernel_rfl) (fun _ _ _ h => h) (Or.inl ⟨by rfl, ?_⟩) (by assumption) ?_
                rotate_left
                · intro w hSw
                  (try dsimp only at hSw)
                  go_simp
                  try with_reducible rfl
                try simp only [Act.put, List.setIfInBounds_toArray, List.set_cons_zero, List.set_cons_succ]
                refine wpAnyH_take (i := 22) (oi := { dst := Option.some 125, op := Op.load 33 (Operand.tmp 124), type := 33, pos := "outright.go:61", after := #[{ on := 21, ground := Ground.data }, { on := 17, ground := Ground.guard }], guard := Option.some (17, Bool.true) }) (v := ?_) rfl (by kernel_rfl) (by kernel_rfl) (by kernel_rfl) (fun _ _ _ h => h) (Or.inl ⟨by rfl, ?_⟩) (by assumption) ?_
                rotate_left
                · intro w hSw
                  (try dsimp only at hSw)
                  go_simp
                  try with_reducible rfl
                try simp only [Act.put, List.setIfInBounds_toArray, List.set_cons_zero, List.set_cons_succ]
                refine wpAnyH_take (i := 23) (oi := { dst := Option.some 126, op := Op.move (Operand.tmp 6), type := 44, pos := "outright.go:61", after := #[{ on := 17, ground := Ground.guard }], guard := Option.some (17, Bool.true) }) (v := ?_) rfl (by kernel_rfl) (by kernel_rfl) (by kernel_rfl) (fun _ _ _ h => h) (Or.inl ⟨by rfl, ?_⟩) (by assumption) ?_
                rotate_left
                · intro w hSw
                  (try dsimp only at hSw)
                  go_simp
                  try with_reducible rfl
                try simp only [Act.put, List.setIfInBounds_toArray, List.set_cons_zero, List.set_cons_succ]
                refine wpAnyH_take (i := 24) (oi := { dst := Option.some 127, op := Op.move (Operand.tmp 9), type := 3, pos := "outright.go:61", after := #[{ on := 17, ground := Ground.guard }], guard := Option.some (17, Bool.true) }) (v := ?_) rfl (by kernel_rfl) (by kernel_rfl) (by kernel_rfl) (fun _ _ _ h => h) (Or.inl ⟨by rfl, ?_⟩) (by assumption) ?_
                rotate_left
                · intro w hSw
                  (try dsimp only at hSw)
                  go_simp
                  try with_reducible rfl
                try simp only [Act.put, List.setIfInBounds_toArray, List.set_cons_zero, List.set_cons_succ]
                refine wpAnyH_take (i := 25) (oi := { dst := Option.some 128, op := Op.indexAddr 44 (Operand.tmp 126) (Operand.tmp 127), type := 0, pos := "outright.go:61", after := #[{ on := 23, ground := Ground.data }, { on := 24, ground := Ground.data }, { on := 17, ground := Ground.guard }], guard := Option.some (17, Bool.true) }) (v := ?_) rfl (by kernel_rfl) (by kernel_rfl) (by kernel_rfl) (fun _ _ _ h => h) (Or.inl ⟨by rfl, ?_⟩) (by assumption) ?_
                rotate_left
                · intro w hSw
                  (try dsimp only at hSw)
                  go_simp
                  try with_reducible rfl
                try simp only [Act.put, List.setIfInBounds_toArray, List.set_cons_zero, List.set_cons_succ]
                refine wpAnyH_take (i := 26) (oi := { dst := Option.some 129, op := Op.load 33 (Operand.tmp 128), type := 33, pos := "outright.go:61", after := #[{ on := 25, ground := Ground.data }, { on := 17, ground := Ground.guard }], guard := Option.some (17, Bool.true) }) (v := ?_) rfl (by kernel_rfl) (by kernel_rfl) (by kernel_rfl) (fun _ _ _ h => h) (Or.inl ⟨by rfl, ?_⟩) (by assumption) ?_
                rotate_left
                · intro w hSw
                  (try dsimp only at hSw)
                  go_simp
                  try with_reducible rfl
                try simp only [Act.put, List.setIfInBounds_toArray, List.set_cons_zero, List.set_cons_succ]
                refine wpAnyH_ready (rs := [27]) (by kernel_rfl) (by simp) ?_
                refine AllReadyH.cons (o := { dst := Option.some 130, op := Op.call { callee := Callee.value (Operand.func 24), args := #[Operand.tmp 125, Operand.tmp 129], argTypes := #[33, 33] }, type := 4, pos := "outright.go:61", after := #[{ on := 22, ground := Ground.data }, { on := 26, ground := Ground.data }, { on := 17, ground := Ground.chain }, { on := 17, ground := Ground.guard }], guard := Option.some (17, Bool.true) }) rfl (fun K hK => ?_) AllReadyH.nil
                have BE := before_any b.s b.r b.c a.s a.r a.c W6
                rw [HBF.out] at BE
                go_simp
                refine BE.mono ?_
                rintro en w7 ⟨rfl, hb7⟩
                have HQ7 : Hid (Qst w1 w7 qb L C) := HQ6.out.below hb7
                have HX7 : Hid (RdX w7 (some ⟨bb, off, none⟩) D) := HX6.out.below hb7
                clear BE hb7 HQ6 HX6
                obtain ⟨b8, o8, e8, m0, m1, m2⟩ := HX7.out.at HDK.out
                obtain ⟨rfl, rfl⟩ : bb = b8 ∧ off = o8 := by simpa using e8
                obtain ⟨b8, o8, e8', k0, k1, k2⟩ := HX7.out.at HDI.out
                obtain ⟨rfl, rfl⟩ : bb = b8 ∧ off = o8 := by simpa using e8'
                clear e8 e8'
                go_wp2_with fail
                refine hK.out _ _ ⟨⟨m0, m1, m2⟩, k0, k1, k2⟩ (fun hHeld => ?_)
                clear hK K m0 m1 m2 k0 k1 k2
                try simp only [Act.put, List.setIfInBounds_toArray, List.set_cons_zero, List.set_cons_succ]
                refine wpAnyH_take (i := 28) (oi := { dst := Option.some 131, op := Op.unOp UnOp.not 4 (Operand.tmp 130), type := 4, pos := "outright.go:61", after := #[{ on := 27, ground := Ground.data }, { on := 17, ground := Ground.guard }], guard := Option.some (17, Bool.true) }) (v := ?_) rfl (by kernel_rfl) (by kernel_rfl) (by kernel_rfl) (fun _ _ _ h => h) (Or.inl ⟨by rfl, ?_⟩) (by assumption) ?_
                rotate_left
                · intro w hSw
                  (try dsimp only at hSw)
                  go_simp
                  try with_reducible rfl
                try simp only [Act.put, List.setIfInBounds_toArray, List.set_cons_zero, List.set_cons_succ]
                refine wpAnyH_take (i := 29) (oi := { dst := Option.some 132, op := Op.pick (Operand.tmp 120) (Operand.tmp 131) (Operand.const (Value.bool Bool.false)), type := 4, pos := "outright.go:61", after := #[{ on := 17, ground := Ground.data }, { on := 28, ground := Ground.data }, { on := 13, ground := Ground.guard }], guard := Option.some (13, Bool.false) }) (v := ?_) rfl (by kernel_rfl) (by kernel_rfl) (by kernel_rfl) (fun _ _ _ h => h) (Or.inl ⟨by rfl, ?_⟩) (by assumption) ?_
                rotate_left
                · intro w hSw
                  (try dsimp only at hSw)
                  go_simp
                  try with_reducible rfl
                try simp only [Act.put, List.setIfInBounds_toArray, List.set_cons_zero, List.set_cons_succ]
                refine wpAnyH_take (i := 30) (oi := { dst := Option.some 133, op := Op.pick (Operand.tmp 116) (Operand.const (Value.bool Bool.true)) (Operand.tmp 132), type := 4, pos := "outright.go:61", after := #[{ on := 13, ground := Ground.data }, { on := 29, ground := Ground.data }, { on := 9, ground := Ground.guard }], guard := Option.some (9, Bool.true) }) (v := ?_) rfl (by kernel_rfl) (by kernel_rfl) (by kernel_rfl) (fun _ _ _ h => h) (Or.inl ⟨by rfl, ?_⟩) (by assumption) ?_
                rotate_left
                · intro w hSw
                  (try dsimp only at hSw)
                  go_simp
                  try with_reducible rfl
                try simp only [Act.put, List.setIfInBounds_toArray, List.set_cons_zero, List.set_cons_succ]
                refine wpAnyH_take (i := 31) (oi := { dst := Option.some 134, op := Op.pick (Operand.tmp 112) (Operand.tmp 133) (Operand.const (Value.bool Bool.false)), type := 4, pos := "outright.go:61", after := #[{ on := 9, ground := Ground.data }, { on := 30, ground := Ground.data }, { on := 5, ground := Ground.guard }], guard := Option.some (5, Bool.false) }) (v := ?_) rfl (by kernel_rfl) (by kernel_rfl) (by kernel_rfl) (fun _ _ _ h => h) (Or.inl ⟨by rfl, ?_⟩) (by assumption) ?_
                rotate_left
                · intro w hSw
                  (try dsimp only at hSw)
                  go_simp
                  try with_reducible rfl
                try simp only [Act.put, List.setIfInBounds_toArray, List.set_cons_zero, List.set_cons_succ]
                refine wpAnyH_take (i := 32) (oi := { dst := Option.some 135, op := Op.pick (Operand.tmp 108) (Operand.const (Value.bool Bool.true)) (Operand.tmp 134), type := 4, pos := "outright.go:61", after := #[{ on := 5, ground := Ground.data }, { on := 31, ground := Ground.data }], guard := Option.none }) (v := ?_) rfl (by kernel_rfl) (by kernel_rfl) (by kernel_rfl) (fun _ _ _ h => h) (Or.inl ⟨by rfl, ?_⟩) (by assumption) ?_
                rotate_left
                · intro w hSw
                  (try dsimp only at hSw)
                  go_simp
                  try with_reducible rfl
                try simp only [Act.put, List.setIfInBounds_toArray, List.set_cons_zero, List.set_cons_succ]
                refine wpAnyH_done (by kernel_rfl) ?_ _
                clear hHeld
                go_wp2_with fail
                go_roundg (n - (i + 1))
                case rel => exact ⟨i + 1, by simp, rfl, hlt, HQ7, HX7⟩
                case measure => omega

        · have hii : ¬ (i : Int) < (n : Int) := by omega
          have HE : Hid (Below w.heap.size w W) := below_end HB1.out HQ.out.bl
          clear HQ HX
          go_wp2
          go_ret
          exact ⟨rfl, HE.out⟩

end Go.Proofs.Ytpbjmhcpaeillaa
