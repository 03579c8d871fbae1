/- TWrE, TWrC. -/
import Derived.Test.YtjkchneffcppmaaGreatDoorQ37
import Derived.Deep.LoopGhost
/- call, walked. -/
namespace Go.Proofs.YtjkchneffcppmaaGreatDoor
open Go.RowKit Go.Shelf
set_option linter.unusedVariables false

theorem cat40 (b : ByteArray) : b ++ ⟨#[40]⟩ = ⟨(b.data.toList ++ [40]).toArray⟩ := by
  apply ByteArray.ext
  apply Array.ext'
  simp
set_option maxRecDepth 100000 in
set_option maxHeartbeats 8000000 in
theorem call_of (kw f : Nat) (P : PartOk kw f) (x : Wt.Nd) (r : List Wt.Nd) (acc : List UInt8) (w : World) (n a b : Nat) (hn : x.ar = n) (hn30 : n ≤ 30) (hnm : x.nm.data.toList.length ≤ 16) (hfr : ∀ y ∈ r, Wt.FitN y) (hm : Wt.many (Wt.one f) n r = some (a, b)) (hst : WSt w kw acc r) (hE : Env w) (hk8 : 8 ≤ kw) (hlen : acc.length + 1000 * a + 950 ≤ 1000000) :
    Calls Tryz.prog 101 #[.pointer (some ⟨kw, 0, none⟩), .agg (nd20 x).toArray] w fun e w' => e = .returned (.tuple #[]) ∧ WSt w' kw (acc ++ (x.nm.data.toList ++ [40] ++ (prA (pr f) n true r).1 ++ [41])) (r.drop a) ∧ WF kw w w' := by
  have hkw := hst.lt
  have hB0 := ball (Below.refl _ w) (.cells (nd20 x).toArray 45)
  have bx1 := Bx.new w (nd20 x) 45
  have hS1 := hst.below hB0
  have hF1 := WF.of (kw := kw) hB0 (Nat.le_of_lt hkw)
  have hE1 := hE.below hB0
  have hkx : w.heap.size ≠ kw := by omega
  obtain ⟨TX, hTX⟩ : ∃ TX, TX = acc ++ (x.nm.data.toList ++ [40] ++ (prA (pr f) n true r).1 ++ [41]) := ⟨_, rfl⟩
  obtain ⟨LF, hLF⟩ : ∃ LF, LF = r.drop a := ⟨_, rfl⟩
  rw [← hTX, ← hLF]
  have HTX : Hid (TX = (acc ++ (x.nm.data.toList ++ [40])) ++ (prA (pr f) (n - 0) (decide (0 = 0)) r).1 ++ [41]) := by
    show TX = _
    rw [hTX]; simp
  have hsn : x.nm.size ≤ 16 := by have : x.nm.data.toList.length = x.nm.size := by rw [Array.length_toList]; rfl
                                  omega
  have lx1 : ¬ 9223372036854775807 < x.nm.size + 1 := by omega
  have WR := hS1.drew.write (x.nm.data.toList ++ [40]) _ (by simp only [List.length_append, List.length_cons, List.length_nil]; omega)
  rw [← cat40] at WR
  clear hTX
  go_enter Tryz.func101, Tryz.ntmps101
  go_upto_region 1 with fail
  generalize w.alloc (.cells (nd20 x).toArray 45) = w1 at *
  refine wp_region_held_drew (S := fun W => W.cell? ⟨w.heap.size, 8, none⟩ = some (.string x.nm)) (by kernel_rfl) (bx1.drew.atl.2.1 8 _ rfl) (fun hHeld => ?_)
  refine wpAnyH_take (i := 0) (oi := { dst := Option.some 5, op := Op.move (Operand.tmp 0), type := 86, pos := "print.go:77", after := #[], guard := Option.none }) (v := ?_) rfl (by kernel_rfl) (by kernel_rfl) (by kernel_rfl) (fun _ _ _ h => h) (Or.inl ⟨by rfl, ?_⟩) (by assumption) ?_
  rotate_left
  · intro w hSw
    (try dsimp only at hSw)
    go_simp
    try with_reducible rfl
  try simp only [Act.put, List.setIfInBounds_toArray, List.set_cons_zero, List.set_cons_succ]
  refine wpAnyH_take (i := 1) (oi := { dst := Option.some 6, op := Op.nilCheck (Operand.tmp 5), type := 0, pos := "print.go:77", after := #[{ on := 0, ground := Ground.data }], guard := Option.none }) (v := ?_) rfl (by kernel_rfl) (by kernel_rfl) (by kernel_rfl) (fun _ _ _ h => h) (Or.inl ⟨by rfl, ?_⟩) (by assumption) ?_
  rotate_left
  · intro w hSw
    (try dsimp only at hSw)
    go_simp
    try with_reducible rfl
  try simp only [Act.put, List.setIfInBounds_toArray, List.set_cons_zero, List.set_cons_succ]
  refine wpAnyH_take (i := 2) (oi := { dst := Option.some 7, op := Op.fieldAddr 67 (Operand.tmp 6) 0, type := 0, pos := "print.go:77", after := #[{ on := 1, ground := Ground.data }], guard := Option.none }) (v := ?_) rfl (by kernel_rfl) (by kernel_rfl) (by kernel_rfl) (fun _ _ _ h => h) (Or.inl ⟨by rfl, ?_⟩) (by assumption) ?_
  rotate_left
  · intro w hSw
    (try dsimp only at hSw)
    go_simp
    try with_reducible rfl
  try simp only [Act.put, List.setIfInBounds_toArray, List.set_cons_zero, List.set_cons_succ]
  refine wpAnyH_take (i := 3) (oi := { dst := Option.some 8, op := Op.fieldAddr 45 (Operand.tmp 3) 3, type := 0, pos := "print.go:77", after := #[], guard := Option.none }) (v := ?_) rfl (by kernel_rfl) (by kernel_rfl) (by kernel_rfl) (fun _ _ _ h => h) (Or.inl ⟨by rfl, ?_⟩) (by assumption) ?_
  rotate_left
  · intro w hSw
    (try dsimp only at hSw)
    go_simp
    try with_reducible rfl
  try simp only [Act.put, List.setIfInBounds_toArray, List.set_cons_zero, List.set_cons_succ]
  refine wpAnyH_take (i := 4) (oi := { dst := Option.some 9, op := Op.load 9 (Operand.tmp 8), type := 9, pos := "print.go:77", after := #[{ on := 3, ground := Ground.data }], guard := Option.none }) (v := ?_) rfl (by kernel_rfl) (by kernel_rfl) (by kernel_rfl) (fun _ _ _ h => h) (Or.inl ⟨by rfl, ?_⟩) (by assumption) ?_
  rotate_left
  · intro w hSw
    (try dsimp only at hSw)
    go_simp
    try with_reducible rfl
  try simp only [Act.put, List.setIfInBounds_toArray, List.set_cons_zero, List.set_cons_succ]
  refine wpAnyH_take (i := 5) (oi := { dst := Option.some 10, op := Op.binOp BinOp.add 9 (Operand.tmp 9) (Operand.const (Value.string { data := #[40] })) 9, type := 9, pos := "print.go:77", after := #[{ on := 4, ground := Ground.data }], guard := Option.none }) (v := ?_) rfl (by kernel_rfl) (by kernel_rfl) (by kernel_rfl) (fun _ _ _ h => h) (Or.inl ⟨by rfl, ?_⟩) (by assumption) ?_
  rotate_left
  · intro w hSw
    (try dsimp only at hSw)
    go_simp
    try with_reducible rfl
  try simp only [Act.put, List.setIfInBounds_toArray, List.set_cons_zero, List.set_cons_succ]
  refine wpAnyH_ready (rs := [6]) (by kernel_rfl) (by simp) ?_
  refine AllReadyH.cons (o := { dst := Option.some 11, op := Op.call { callee := Callee.value (Operand.func 48), args := #[Operand.tmp 7, Operand.tmp 10], argTypes := #[65, 9] }, type := 90, pos := "print.go:77", after := #[{ on := 2, ground := Ground.data }, { on := 5, ground := Ground.data }], guard := Option.none }) rfl (fun K hK => ?_) AllReadyH.nil
  go_simp
  refine WR.mono ?_
  rintro e w9 ⟨rfl, hS9, hF9⟩
  have bx9 := bx1.drew.kept hF9 hkx (by decide)
  go_wp2_with fail
  refine hK.out _ _ (bx9.atl.2.1 8 _ rfl) (fun hHeld => ?_)
  clear hK K
  try simp only [Act.put, List.setIfInBounds_toArray, List.set_cons_zero, List.set_cons_succ]
  refine wpAnyH_done (by kernel_rfl) ?_ _
  have hE9 := hE1.drew.wf hF9 hk8
  have hF09 := hF1.drew.trans hF9
  have c9 := bx9.atl.2.1 9 _ rfl
  rw [hn] at c9
  clear WR hS1 hF1 hE1 hF9 bx1 hst hB0
  generalize w9 = w9 at *
  go_wp2_with fail
  go_loopg [14] n (fun gk y wr => ∃ (j : Nat) (ac : List UInt8) (l : List Wt.Nd) (c d : Nat), y = .int .i64 j ∧ gk = n - j ∧ j ≤ n ∧ Hid (TX = ac ++ (prA (pr f) (n - j) (decide (j = 0)) l).1 ++ [41]) ∧ Hid (LF = l.drop c) ∧ Hid (∀ y ∈ l, Wt.FitN y) ∧ Hid (Wt.many (Wt.one f) (n - j) l = some (c, d)) ∧ Hid (WSt wr kw ac l) ∧ Hid (WF kw w wr) ∧ Hid (Env wr) ∧ ac.length + 1000 * c + 2 * (n - j) + 10 ≤ 1000000)
  case atStart =>
    exact ⟨0, _, r, a, b, rfl, rfl, Nat.zero_le _, HTX, hLF, hfr, hm, hS9, hF09, hE9, by simp only [List.length_append, List.length_cons, List.length_nil]; omega⟩
  case round =>
    obtain ⟨j, ac, l, c, d, rfl, hg, hj, H1, H2, H3, H4, H5, H6, H7, hac⟩ := hrel
    clear hS9 hF09 hE9 HTX hLF hm hfr bx9 c9
    by_cases hlt : j < n
    · have hli : (j : Int) < (n : Int) := by omega
      obtain ⟨m, hmn⟩ : ∃ m, n - j = m + 1 := ⟨n - j - 1, by omega⟩
      rw [hmn] at H1 H4
      have H4' := H4.out
      simp only [Wt.many] at H4'
      cases h1 : Wt.one f l with
      | none => rw [h1] at H4'; cases H4'
      | some q =>
        obtain ⟨a1, b1⟩ := q
        rw [h1] at H4'
        simp only at H4'
        cases h2 : Wt.many (Wt.one f) m (l.drop a1) with
        | none => rw [h2] at H4'; cases H4'
        | some q2 =>
          obtain ⟨a2, b2⟩ := q2
          rw [h2] at H4'
          simp only [Option.some.injEq, Prod.mk.injEq] at H4'
          obtain ⟨rfl, rfl⟩ := H4'
          have hp1 := pr_ok f _ _ _ h1 0
          have H1' := H1.out
          simp only [prA] at H1'
          rw [hp1.1] at H1'
          have hm' : n - (j + 1) = m := by omega
          have hdj : decide (j + 1 = 0) = false := by simp
          by_cases hj0 : j = 0
          · subst hj0
            have PP := P 0 l ac wr a1 b1 H3.out h1 H5.out H7.out hk8 (by omega)
            have E : Hid (TX = (ac ++ (pr f 0 l).1) ++ (prA (pr f) (n - (0 + 1)) (decide (0 + 1 = 0)) (l.drop a1)).1 ++ [41]) := by
              show TX = _
              rw [H1', hm', hdj]; simp
            clear H1 H1' H4
            go_wp2_with fail
            refine PP.mono ?_
            rintro e w3 ⟨rfl, hS3, hF3⟩
            have hE3 := H7.out.wf hF3 hk8
            have hF3' := H6.out.trans hF3
            clear PP H5 H6 H7
            go_wp2_with fail
            go_roundg (n - (0 + 1))
            case rel => exact ⟨0 + 1, _, _, a2, b2, by simp, rfl, hlt, E, by show LF = _; rw [H2.out, List.drop_drop], fun y hy => H3.out y (List.mem_of_mem_drop hy), by show _ = _; rw [hm']; exact h2, hS3, hF3', hE3, by simp only [List.length_append]; omega⟩
            case measure => omega
          · have hji : (0 : Int) < (j : Int) := by omega
            have WR := H5.out.write [44] wr (by simp only [List.length_cons, List.length_nil]; omega)
            have E : Hid (TX = (ac ++ [44] ++ (pr f 0 l).1) ++ (prA (pr f) (n - (j + 1)) (decide (j + 1 = 0)) (l.drop a1)).1 ++ [41]) := by
              show TX = _
              rw [H1', hm', hdj]; simp [hj0]
            clear H1 H1' H4
            go_wp2_with fail
            refine WR.mono ?_
            rintro e w2 ⟨rfl, hS2, hF2⟩
            have hE2 := H7.out.wf hF2 hk8
            have PP := P 0 l (ac ++ [44]) w2 a1 b1 H3.out h1 hS2 hE2 hk8 (by simp only [List.length_append, List.length_cons, List.length_nil]; omega)
            clear WR
            go_wp2_with fail
            refine PP.mono ?_
            rintro e w3 ⟨rfl, hS3, hF3⟩
            have hE3 := hE2.wf hF3 hk8
            have hF3' := H6.out.trans (hF2.trans hF3)
            clear PP H5 H6 H7
            go_wp2_with fail
            go_roundg (n - (j + 1))
            case rel => exact ⟨j + 1, _, _, a2, b2, by simp, rfl, hlt, E, by show LF = _; rw [H2.out, List.drop_drop], fun y hy => H3.out y (List.mem_of_mem_drop hy), by show _ = _; rw [hm']; exact h2, hS3, hF3', hE3, by simp only [List.length_append, List.length_cons, List.length_nil]; omega⟩
            case measure => omega
    · have hli : ¬ (j : Int) < (n : Int) := by omega
      have hjn : n - j = 0 := by omega
      rw [hjn] at H1 H4
      have H4' := H4.out
      simp only [Wt.many, Option.some.injEq, Prod.mk.injEq] at H4'
      obtain ⟨rfl, rfl⟩ := H4'
      have WR := H5.out.write [41] wr (by simp only [List.length_cons, List.length_nil]; omega)
      go_wp2_with fail
      refine WR.mono ?_
      rintro e w3 ⟨rfl, hS3, hF3⟩
      go_wp2
      first | go_end0 | refine bodyPost_ret (results_none rfl _ _ _) rfl ?_
      refine ⟨rfl, ?_, H6.out.trans hF3⟩
      rw [H1.out, H2.out]
      simpa [prA] using hS3
end Go.Proofs.YtjkchneffcppmaaGreatDoor
/- part, walked. -/
namespace Go.Proofs.YtjkchneffcppmaaGreatDoor
open Go.RowKit Go.Shelf
set_option linter.unusedVariables false

theorem Bx.zero (w : World) : Bx (w.alloc (.cells #[.int .i64 0, .int .i64 0, .int .i64 0, .int .i64 0, .string ⟨#[]⟩, .bool false, .int .i64 0, .int .i64 0, .string ⟨#[]⟩, .int .i64 0, .string ⟨#[]⟩, .int .i64 0, .int .i64 0, .bool false, .bool false, .string ⟨#[]⟩, .int .i64 0, .int .i64 0, .bool false, .bool false] 45)) w.heap.size [.int .i64 0, .int .i64 0, .int .i64 0, .int .i64 0, .string ⟨#[]⟩, .bool false, .int .i64 0, .int .i64 0, .string ⟨#[]⟩, .int .i64 0, .string ⟨#[]⟩, .int .i64 0, .int .i64 0, .bool false, .bool false, .string ⟨#[]⟩, .int .i64 0, .int .i64 0, .bool false, .bool false] 45 := Bx.new w _ _
set_option maxRecDepth 100000 in
set_option maxHeartbeats 8000000 in
theorem part_of (kw f : Nat) (N : NodeOk kw f) : PartOk kw (f + 1) := by
  intro least l acc w s d hfit hone hst hE hk8 hlen
  cases l with
  | nil => simp [Wt.one] at hone
  | cons x r =>
    obtain ⟨hx, a, b, hm, rfl, rfl⟩ := one_unf hone
    have hKn := right_knd hx
    have hfx : Wt.FitN x := hfit x (by simp)
    have hfr : ∀ y ∈ r, Wt.FitN y := fun y hy => hfit y (by simp [hy])
    have HM : Hid (Wt.many (Wt.one f) (Wt.parts x).toNat r = some (a, b)) := hm
    have HKn : Hid (Knd x) := hKn
    have HFx : Hid (Wt.FitN x) := hfx
    have HFr : Hid (∀ y ∈ r, Wt.FitN y) := hfr
    have HE : Hid (Env w) := hE
    clear hm hKn hx hone hfit hfx hfr hE
    have HLen : True → acc.length + 1000 * (a + 1) ≤ 1000000 := fun _ => hlen
    clear hlen
    have hkw := hst.lt
    obtain ⟨av, cap, hcap, hIs, hcells⟩ := hst
    obtain ⟨bb, off, rfl, hbb, hx0⟩ := hcells 0 (by simp)
    simp only [List.getElem_cons_zero, Nat.zero_mul, Nat.add_zero] at hx0
    obtain ⟨l2, f2⟩ := hIs.left
    simp only [List.length_cons] at hcap l2 hIs
    have hB0 := ball (Below.refl _ w) (.cells #[.int .i64 0, .int .i64 0, .int .i64 0, .int .i64 0, .string ⟨#[]⟩, .bool false, .int .i64 0, .int .i64 0, .string ⟨#[]⟩, .int .i64 0, .string ⟨#[]⟩, .int .i64 0, .int .i64 0, .bool false, .bool false, .string ⟨#[]⟩, .int .i64 0, .int .i64 0, .bool false, .bool false] 45)
    have bZ := Bx.zero w
    have hth := bZ.there
    have hB1 := bset hB0 (Nat.le_refl _) (nd20 x) 0
    have bx1 : Bx _ w.heap.size (nd20 x) 45 := bZ.setAll rfl
    have hIs1 := hIs.below hB1
    obtain ⟨l21, f21⟩ := hIs1.left
    have rx1 := bx1.atl.range
    obtain ⟨TX, hTX⟩ : ∃ TX, TX = (pr (f + 1) least (x :: r)).1 := ⟨_, rfl⟩
    rw [← hTX, List.drop_succ_cons]
    have HTX : Hid (TX = if least ≤ tgh x then (prN (pr f) x r).1 else 40 :: (prN (pr f) x r).1 ++ [41]) := by
      show TX = _
      rw [hTX]; simp only [pr]; split <;> rfl
    clear hTX
    obtain ⟨tt, htt⟩ : ∃ tt, tgh x = tt := ⟨_, rfl⟩
    have HTT : Hid (tgh x = tt) := htt
    rw [htt] at HTX
    clear htt
    go_enter Tryz.func29, Tryz.ntmps29
    go_upto_region 1 with (first | ((with_reducible refine wpList_load_mid (cs := nd20 x) ?_ 45 (.tmp 10) ?_ bb off ?_ _ ?_ Tryz.underlying45 ?_ ?_ ?_); rfl; rfl; rfl; exact hx0; rfl; kernel_rfl) | ((with_reducible refine wpList_store_mid ?_ 45 (.tmp 4) (.tmp 11) ?_ (w.heap.size) 0 (nd20 x).toArray ?_ ?_ ?_ ?_ ?_ ?_); rfl; rfl; rfl; rfl; exact hth; kernel_rfl; exact one20 _))
    generalize (w.alloc (.cells #[.int .i64 0, .int .i64 0, .int .i64 0, .int .i64 0, .string ⟨#[]⟩, .bool false, .int .i64 0, .int .i64 0, .string ⟨#[]⟩, .int .i64 0, .string ⟨#[]⟩, .int .i64 0, .int .i64 0, .bool false, .bool false, .string ⟨#[]⟩, .int .i64 0, .int .i64 0, .bool false, .bool false] 45)).setCells w.heap.size 0 (nd20 x) = W1 at *
    clear l2 f2 hIs hB0 bZ hth hx0
    go_upto_region 2 with fail
    obtain ⟨av', hav⟩ : ∃ av', av' = if cap = 1 then some (⟨bb, off, none⟩ : Addr) else some ⟨bb, off + 20, none⟩ := ⟨_, rfl⟩
    rw [← hav]
    have hav' : 0 < r.length → av' = some ⟨bb, off + 20, none⟩ := fun h => by rw [hav, if_neg (by omega)]
    clear hav l21 f21 rx1
    have hIs2 := hIs1.set2 (.slice av' r.length (cap - 1))
    have bx2 : Bx (W1.setCell ⟨kw, 2, none⟩ (.slice av' r.length (cap - 1))) w.heap.size (nd20 x) 45 := (Below.heap_setCell _ _ _ _ (by simp only; omega)).trans bx1
    have hF2 : WF kw w (W1.setCell ⟨kw, 2, none⟩ (.slice av' r.length (cap - 1))) := ⟨(hB1.mono (Nat.le_of_lt hkw)).setCell (p := ⟨kw, 2, none⟩) (Nat.le_refl _) _, (kept_below (B := kw) hB1).setCell ⟨kw, 2, none⟩ rfl _⟩
    have hS2 : WSt (W1.setCell ⟨kw, 2, none⟩ (.slice av' r.length (cap - 1))) kw acc r := by
      refine ⟨av', cap - 1, by omega, hIs2, fun i hi => ?_⟩
      obtain ⟨bb', off', e, hlt, hr⟩ := hcells (i + 1) (by simp only [List.length_cons]; omega)
      simp only [Option.some.injEq, Addr.mk.injEq, and_true] at e
      obtain ⟨rfl, rfl⟩ := e
      refine ⟨bb, off + 20, hav' (by omega), hbb, fun j v hv => ?_⟩
      rw [World.cell?_setCell_far _ _ _ _ (by simp; omega), show off + 20 + i * 20 + j = off + (i + 1) * 20 + j by omega]
      exact cell_below hB1 (hr j v (by simpa using hv))
    have hs2 : (W1.setCell ⟨kw, 2, none⟩ (.slice av' r.length (cap - 1))).heap.size = W1.heap.size := World.size_setCell ..
    have hsz := hB1.size
    have ltx := (Array.getElem?_eq_some_iff.1 bx1).1
    clear hIs2 hIs1 bx1 hcells hav' hcap hB1
    generalize W1.setCell ⟨kw, 2, none⟩ (.slice av' r.length (cap - 1)) = W2 at *
    have HE2 : Hid (Env W2) := HE.out.wf hF2 hk8
    have T := tight_any x W2 HE2.out.1
    rw [HTT.out] at T
    have RX := bx2.atl.range
    go_wp2_with ((with_reducible refine wpList_load_mid (cs := nd20 x) ?_ 45 (.tmp 4) ?_ w.heap.size 0 ?_ _ ?_ Tryz.underlying45 ?_ ?_ ?_); rfl; rfl; rfl; exact RX; rfl; kernel_rfl)
    refine T.mono ?_
    rintro e w3 ⟨rfl, hb⟩
    have hS3 := hS2.below hb
    have bx3 := bx2.below hb
    have hF3 := hF2.trans (WF.of (kw := kw) hb (by omega))
    have HE3 : Hid (Env w3) := HE.out.wf hF3 hk8
    clear hb RX T hS2 bx2 hF2 HE2
    have RX := bx3.atl.range
    have HPn : True → (prN (pr f) x r).1.length ≤ 1000 * a + 900 := fun _ => (prN_ok (pr_ok f) HKn.out HM.out).2
    have NN := N x r acc w3 a b HKn.out HFx.out HFr.out HM.out hS3 HE3.out hk8 (by have := HLen trivial; omega)
    rw [HTT.out] at NN
    by_cases hle : least ≤ tt
    · rw [if_pos hle] at HTX
      go_wp2_with ((with_reducible refine wpList_load_mid (cs := nd20 x) ?_ 45 (.tmp 4) ?_ w.heap.size 0 ?_ _ ?_ Tryz.underlying45 ?_ ?_ ?_); rfl; rfl; rfl; exact RX; rfl; kernel_rfl)
      refine NN.mono ?_
      rintro e w4 ⟨rfl, hS4, hF4⟩
      go_wp2
      first | go_end0 | refine bodyPost_ret (results_none rfl _ _ _) rfl ?_
      exact ⟨rfl, by rw [HTX.out]; exact hS4, hF3.trans hF4⟩
    · rw [if_neg hle] at HTX
      have hle' : ¬ (least ≤ tt) := hle
      have WR := hS3.write [40] w3 (by simp only [List.length_cons, List.length_nil]; have := HLen trivial; omega)
      clear NN
      go_wp2_with fail
      refine WR.mono ?_
      rintro e w4 ⟨rfl, hS4, hF4⟩
      have bx4 := bx3.kept hF4 (by omega) (by decide)
      have HE4 : Hid (Env w4) := HE3.out.wf hF4 hk8
      have NN := N x r (acc ++ [40]) w4 a b HKn.out HFx.out HFr.out HM.out hS4 HE4.out hk8 (by simp only [List.length_append, List.length_cons, List.length_nil]; have := HLen trivial; omega)
      rw [HTT.out] at NN
      clear RX WR
      have RX := bx4.atl.range
      go_wp2_with ((with_reducible refine wpList_load_mid (cs := nd20 x) ?_ 45 (.tmp 4) ?_ w.heap.size 0 ?_ _ ?_ Tryz.underlying45 ?_ ?_ ?_); rfl; rfl; rfl; exact RX; rfl; kernel_rfl)
      refine NN.mono ?_
      rintro e w5 ⟨rfl, hS5, hF5⟩
      have WR := hS5.write [41] w5 (by simp only [List.length_append, List.length_cons, List.length_nil]; have := HLen trivial; have := HPn trivial; omega)
      go_wp2_with fail
      refine WR.mono ?_
      rintro e w6 ⟨rfl, hS6, hF6⟩
      go_wp2
      first | go_end0 | refine bodyPost_ret (results_none rfl _ _ _) rfl ?_
      exact ⟨rfl, by rw [HTX.out]; simpa using hS6, hF3.trans (hF4.trans (hF5.trans hF6))⟩
end Go.Proofs.YtjkchneffcppmaaGreatDoor
