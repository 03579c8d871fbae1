/- TSame, TLawOne, TLaid. -/
import Derived.Test.YtjkchneffcppmaaGreatDoorQ47
import Derived.Deep.LoopGhost
import Derived.Deep.MidRow
import Derived.Lib.LaidTab
import Derived.Deep.Strs
import Derived.Stop.LaidErr
/- Rows of nodes, held against each other. -/
namespace Go.Proofs.YtjkchneffcppmaaGreatDoor
open Go.RowKit
set_option linter.unusedVariables false

theorem neqN_run (x : Wt.Nd) (w : World) : (binOp .neq 45 (ndV x) (ndV x)).run Tryz.prog w = .ok (.bool false) w := by
  have h := eqN_run x x w
  have e : eqN x x = true := (eqN_iff x x).2 rfl
  rw [e] at h
  unfold ndV at h ⊢
  rw [run_eql_struct] at h
  rw [run_neq_struct]
  revert h
  generalize (Op.equalIn 10000 45 (.agg (nd20 x).toArray) (.agg (nd20 x).toArray)).run Tryz.prog w = r
  intro h
  cases r <;> simp_all [Result.andThen]
theorem neqN_exec (x : Wt.Nd) (w : World) {a : Operand → Value} {ex ey : Operand} (h1 : a ex = .agg (nd20 x).toArray) (h2 : a ey = .agg (nd20 x).toArray) {d : Option Nat} {ty : TypeId} {p : String} {af : Array Edge} {g : Option (Nat × Bool)} :
    (execOp a { dst := d, op := Op.binOp BinOp.neq 45 ex ey 45, type := ty, pos := p, after := af, guard := g }).run Tryz.prog w = .ok (.value (.bool false)) w := by
  unfold execOp
  simp only [h1, h2]
  have h3 := neqN_run x w
  unfold ndV at h3
  have h4 : (eqGuard .neq 45 ex ey (.agg (nd20 x).toArray) (.agg (nd20 x).toArray)).run Tryz.prog w = .ok () w := by kernel_rfl
  simp only [Sem.run_bind, h3, h4, Result.andThen_ok, Sem.run_pure]
set_option maxRecDepth 100000 in
set_option maxHeartbeats 4000000 in
theorem nsame_true (av1 av2 : Option Addr) (cap1 cap2 : Nat) (L : List Wt.Nd) (w : World) (h1 : RdN w av1 L) (h2 : RdN w av2 L) (hl : L.length ≤ 4000000) :
    Calls Tryz.prog 12 #[.slice av1 L.length cap1, .slice av2 L.length cap2] w fun e w' => e = .returned (.bool true) ∧ Below w.heap.size w w' := by
  have H1 : Hid (RdN w av1 L) := h1
  have H2 : Hid (RdN w av2 L) := h2
  obtain ⟨n, hn⟩ : ∃ n, L.length = n := ⟨_, rfl⟩
  rw [hn] at hl ⊢
  clear h1 h2
  go_enter Tryz.func12, Tryz.ntmps12
  go_wp2_with fail
  go_loopg [5] n (fun gk x wr => ∃ i : Nat, x = .int .i64 i ∧ gk = n - i ∧ i ≤ n ∧ Below w.heap.size w wr)
  case atStart => exact ⟨0, rfl, rfl, Nat.zero_le _, Below.refl _ _⟩
  case round =>
    obtain ⟨i, rfl, hg, hi, hb⟩ := hrel
    by_cases hlt : i < n
    · have hli : (i : Int) < (n : Int) := by omega
      have hi0 : (0 : Int) ≤ (i : Int) := by omega
      have hwi : IntKind.i64.wrap ((i : Int) + 1) = (i : Int) + 1 := by rw [IntKind.wrap_i64]; omega
      obtain ⟨b1, o1, rfl, c1⟩ := RdN.below H1.out hb i (by omega)
      obtain ⟨b2, o2, rfl, c2⟩ := RdN.below H2.out hb i (by omega)
      generalize L[i] = x at c1 c2
      go_upto_region 6 with fail
      refine wp_region_held_drew (S := fun W => W.rangeAt b1 (o1 + i * 20) (nd20 x) ∧ W.rangeAt b2 (o2 + i * 20) (nd20 x)) (by kernel_rfl) ⟨c1, c2⟩ (fun hHeld => ?_)
      refine wpAnyH_take (i := 0) (oi := { dst := Option.some 17, op := Op.move (Operand.tmp 0), type := 22, pos := "law.go:22", after := #[], guard := Option.none }) (v := ?_) rfl (by kernel_rfl) (by kernel_rfl) (by kernel_rfl) (fun _ _ _ h => h) (Or.inl ⟨by rfl, ?_⟩) (by assumption) ?_
      rotate_left
      · intro w hSw
        (try dsimp only at hSw)
        go_simp
        try with_reducible rfl
      try simp only [Act.put, List.setIfInBounds_toArray, List.set_cons_zero, List.set_cons_succ]
      refine wpAnyH_take (i := 1) (oi := { dst := Option.some 18, op := Op.move (Operand.tmp 5), type := 3, pos := "law.go:22", after := #[], guard := Option.none }) (v := ?_) rfl (by kernel_rfl) (by kernel_rfl) (by kernel_rfl) (fun _ _ _ h => h) (Or.inl ⟨by rfl, ?_⟩) (by assumption) ?_
      rotate_left
      · intro w hSw
        (try dsimp only at hSw)
        go_simp
        try with_reducible rfl
      try simp only [Act.put, List.setIfInBounds_toArray, List.set_cons_zero, List.set_cons_succ]
      refine wpAnyH_take (i := 2) (oi := { dst := Option.some 19, op := Op.indexAddr 22 (Operand.tmp 17) (Operand.tmp 18), type := 0, pos := "law.go:22", after := #[{ on := 0, ground := Ground.data }, { on := 1, ground := Ground.data }], guard := Option.none }) (v := ?_) rfl (by kernel_rfl) (by kernel_rfl) (by kernel_rfl) (fun _ _ _ h => h) (Or.inl ⟨by rfl, ?_⟩) (by assumption) ?_
      rotate_left
      · intro w hSw
        (try dsimp only at hSw)
        go_simp
        try with_reducible rfl
      try simp only [Act.put, List.setIfInBounds_toArray, List.set_cons_zero, List.set_cons_succ]
      refine wpAnyH_take (i := 3) (oi := { dst := Option.some 20, op := Op.load 45 (Operand.tmp 19), type := 45, pos := "law.go:22", after := #[{ on := 2, ground := Ground.data }], guard := Option.none }) (v := .agg (nd20 x).toArray) rfl (by kernel_rfl) (by kernel_rfl) (by kernel_rfl) (fun _ _ _ h => h) (yieldsIf_load_mid (by rfl) 45 (.tmp 19) rfl b1 (o1 + i * 20) rfl (nd20 x) _ (fun _ h => h.1) Tryz.underlying45 rfl (by kernel_rfl)) (by assumption) ?_
      try simp only [Act.put, List.setIfInBounds_toArray, List.set_cons_zero, List.set_cons_succ]
      refine wpAnyH_take (i := 4) (oi := { dst := Option.some 21, op := Op.move (Operand.tmp 1), type := 22, pos := "law.go:22", after := #[], guard := Option.none }) (v := ?_) rfl (by kernel_rfl) (by kernel_rfl) (by kernel_rfl) (fun _ _ _ h => h) (Or.inl ⟨by rfl, ?_⟩) (by assumption) ?_
      rotate_left
      · intro w hSw
        (try dsimp only at hSw)
        go_simp
        try with_reducible rfl
      try simp only [Act.put, List.setIfInBounds_toArray, List.set_cons_zero, List.set_cons_succ]
      refine wpAnyH_take (i := 5) (oi := { dst := Option.some 22, op := Op.move (Operand.tmp 5), type := 3, pos := "law.go:22", after := #[], guard := Option.none }) (v := ?_) rfl (by kernel_rfl) (by kernel_rfl) (by kernel_rfl) (fun _ _ _ h => h) (Or.inl ⟨by rfl, ?_⟩) (by assumption) ?_
      rotate_left
      · intro w hSw
        (try dsimp only at hSw)
        go_simp
        try with_reducible rfl
      try simp only [Act.put, List.setIfInBounds_toArray, List.set_cons_zero, List.set_cons_succ]
      refine wpAnyH_take (i := 6) (oi := { dst := Option.some 23, op := Op.indexAddr 22 (Operand.tmp 21) (Operand.tmp 22), type := 0, pos := "law.go:22", after := #[{ on := 4, ground := Ground.data }, { on := 5, ground := Ground.data }], guard := Option.none }) (v := ?_) rfl (by kernel_rfl) (by kernel_rfl) (by kernel_rfl) (fun _ _ _ h => h) (Or.inl ⟨by rfl, ?_⟩) (by assumption) ?_
      rotate_left
      · intro w hSw
        (try dsimp only at hSw)
        go_simp
        try with_reducible rfl
      try simp only [Act.put, List.setIfInBounds_toArray, List.set_cons_zero, List.set_cons_succ]
      refine wpAnyH_take (i := 7) (oi := { dst := Option.some 24, op := Op.load 45 (Operand.tmp 23), type := 45, pos := "law.go:22", after := #[{ on := 6, ground := Ground.data }], guard := Option.none }) (v := .agg (nd20 x).toArray) rfl (by kernel_rfl) (by kernel_rfl) (by kernel_rfl) (fun _ _ _ h => h) (yieldsIf_load_mid (by rfl) 45 (.tmp 23) rfl b2 (o2 + i * 20) rfl (nd20 x) _ (fun _ h => h.2) Tryz.underlying45 rfl (by kernel_rfl)) (by assumption) ?_
      try simp only [Act.put, List.setIfInBounds_toArray, List.set_cons_zero, List.set_cons_succ]
      refine wpAnyH_take (i := 8) (oi := { dst := Option.some 25, op := Op.binOp BinOp.neq 45 (Operand.tmp 20) (Operand.tmp 24) 45, type := 4, pos := "law.go:22", after := #[{ on := 3, ground := Ground.data }, { on := 7, ground := Ground.data }], guard := Option.none }) (v := .bool false) rfl (by kernel_rfl) (by kernel_rfl) (by kernel_rfl) (fun _ _ _ h => h) (Or.inl ⟨by rfl, fun w _ => neqN_exec x w rfl rfl⟩) (by assumption) ?_
      try simp only [Act.put, List.setIfInBounds_toArray, List.set_cons_zero, List.set_cons_succ]
      refine wpAnyH_done (by kernel_rfl) ?_ _
      clear hHeld c1 c2
      have hbd := hb.drew
      go_wp2_with fail
      go_roundg (n - (i + 1))
      case rel => exact ⟨i + 1, by simp, rfl, by omega, hbd⟩
      case measure => omega
    · have hli : ¬ (i : Int) < (n : Int) := by omega
      go_wp2
      go_ret
      exact ⟨rfl, hb⟩
end Go.Proofs.YtjkchneffcppmaaGreatDoor
/- TreeOneForm, walked. -/
namespace Go.Proofs.YtjkchneffcppmaaGreatDoor
open Go.RowKit Go.Shelf
set_option linter.unusedVariables false

theorem prsR_long {l : List UInt8} (h : 1024 < l.length) : prsR l = .inr (2, 0) := by
  unfold prsR scanAll
  rw [if_pos h]
  rfl
theorem prnt_len {L : List Wt.Nd} (hc : Wt.check L = 0) : (prnt L).length ≤ 256000 := by
  obtain ⟨h256, d, hone, hd⟩ := check_zero hc
  have := (pr_ok _ _ _ _ hone 0).2
  unfold prnt
  rw [if_pos hc]
  omega
set_option maxRecDepth 100000 in
set_option maxHeartbeats 16000000 in
theorem one_main (b : ByteArray) (w : World) (hE : Env w) (hk8 : 8 ≤ w.heap.size) (hs : b.size ≤ 9223372036854775807) :
    Calls Tryz.prog 8 #[.string b] w fun e w' => e = .returned (.bool true) ∧ Below w.heap.size w w' := by
  have A := table_any w hE hk8
  have S := fun w hE hk8 => parse_any b w hE hs hk8
  cases hr : prsR b.data.toList with
  | inr q =>
    obtain ⟨c, p⟩ := q
    rw [hr] at S
    simp only [PaPost] at S
    have hc := prsR_code hr
    obtain ⟨p0, p1⟩ := prsR_place hr
    have hp1 : p ≤ (b.size : Int) := p1
    have hci : (c != 0) = true := by simp [hc]
    clear p1 hr
    go_enter Tryz.func8, Tryz.ntmps8
    go_wp2_with fail
    refine A.mono ?_
    rintro e w1 ⟨rfl, hb1⟩
    go_wp2_with fail
    refine (S w1 (hE.below hb1) (Nat.le_trans hk8 hb1.size)).mono ?_
    rintro e w2 ⟨rfl, hb2⟩
    have hB2 := below_end hb1 hb2
    go_wp2
    go_ret
    exact ⟨rfl, hB2⟩
  | inl row =>
    rw [hr] at S
    simp only [PaPost] at S
    obtain ⟨hfit, hck⟩ := prsR_row hr
    obtain ⟨h256, d, hone, hd⟩ := check_zero hck
    have hlen := prnt_len hck
    have hback : (prnt row).length ≤ 1024 → prsR (prnt row) = .inl row := prnt_read hck
    have HFit : Hid (∀ x ∈ row, Wt.FitN x) := hfit
    have HCk : Hid (Wt.check row = 0) := hck
    obtain ⟨t, ht⟩ : ∃ t, prnt row = t := ⟨_, rfl⟩
    rw [ht] at hlen hback
    have HT : Hid (prnt row = t) := ht
    have HLen : True → t.length ≤ 256000 := fun _ => hlen
    clear hlen
    clear hr hone hd hfit hck ht
    go_enter Tryz.func8, Tryz.ntmps8
    go_wp2_with fail
    refine A.mono ?_
    rintro e w1 ⟨rfl, hb1⟩
    go_wp2_with fail
    refine (S w1 (hE.below hb1) (Nat.le_trans hk8 hb1.size)).mono ?_
    rintro e w2 ⟨⟨v, rfl, hown⟩, hb2⟩
    have hB2 := below_end hb1 hb2
    obtain ⟨av, cap, rfl, hrd⟩ := hown.form
    have hcap := hown.cap
    have hE2 := hE.below hB2
    have hk2 := Nat.le_trans hk8 hB2.size
    have T := print_any av cap row w2 (by omega) HFit.out hE2 hrd hcap hk2
    rw [HCk.out, HT.out] at T
    clear hb1 hb2 A S hown
    go_wp2_with fail
    refine T.mono ?_
    rintro e w3 ⟨rfl, hb3⟩
    have hB3 := below_end hB2 hb3
    have hrd3 := hrd.below hb3
    have hE3 := hE.below hB3
    have hk3 := Nat.le_trans hk8 hB3.size
    have S2 := parse_any ⟨t.toArray⟩ w3 hE3 (by show t.length ≤ _; have := HLen trivial; omega) hk3
    have C := fun w hr hO => check_any av cap row w (by omega) HFit.out hO hr
    rw [HCk.out] at C
    have htl : (⟨t.toArray⟩ : ByteArray).data.toList = t := by simp
    rw [htl] at S2
    clear T hb3 hB2 hE2 hk2 hrd htl
    by_cases hl : 1024 < t.length
    · rw [prsR_long hl] at S2
      simp only [PaPost] at S2
      have hli : (1024 : Int) < (t.length : Int) := by omega
      go_wp2_with fail
      refine S2.mono ?_
      rintro e w4 ⟨rfl, hb4⟩
      have hB4 := below_end hB3 hb4
      go_wp2_with fail
      refine (C w4 (hrd3.below hb4) (hE.below hB4).1).mono ?_
      rintro e w5 ⟨rfl, hb5⟩
      have hB5 := below_end hB4 hb5
      go_wp2
      go_ret
      exact ⟨rfl, hB5⟩
    · rw [hback (by omega)] at S2
      simp only [PaPost] at S2
      have hli : ¬ (1024 : Int) < (t.length : Int) := by omega
      go_wp2_with fail
      refine S2.mono ?_
      rintro e w4 ⟨⟨v2, rfl, hown2⟩, hb4⟩
      have hB4 := below_end hB3 hb4
      obtain ⟨av2, cap2, rfl, hrd2⟩ := hown2.form
      have hcap2 := hown2.cap
      have hrd4 := hrd3.below hb4
      go_wp2_with fail
      refine (C w4 hrd4 (hE.below hB4).1).mono ?_
      rintro e w5 ⟨rfl, hb5⟩
      have hB5 := below_end hB4 hb5
      have T2 := print_any av2 cap2 row w5 (by omega) HFit.out (hE.below hB5) (hrd2.below hb5) hcap2 (Nat.le_trans hk8 hB5.size)
      rw [HCk.out, HT.out] at T2
      have hr5 := hrd4.below hb5
      have hr5' := hrd2.below hb5
      go_wp2_with fail
      refine T2.mono ?_
      rintro e w6 ⟨rfl, hb6⟩
      have hB6 := below_end hB5 hb6
      have M := nsame_true av av2 cap cap2 row w6 (hr5.below hb6) (hr5'.below hb6) (by omega)
      go_wp2_with fail
      refine M.mono ?_
      rintro e w7 ⟨rfl, hb7⟩
      have hB7 := below_end hB6 hb7
      go_wp2
      go_ret
      exact ⟨by simp, hB7⟩
end Go.Proofs.YtjkchneffcppmaaGreatDoor
/- The tables of strings and of operations, of the rows' conditions. -/
namespace Go.Proofs.YtjkchneffcppmaaGreatDoor
open Go.RowKit
set_option linter.unusedVariables false

/-- An array whose elements are read one by one. -/
theorem array_each {H : Type} {enc : TypeId × Value → H} {P : Program} {w : World} {base : Nat} {sp : Nat → Bool} {held : Bool} {fuel : Nat} {t e : TypeId} {n c : Nat} {cs : List Value} {ds : List (DataW H)} {p : List MemPlace}
    (ht : P.underlying t = some (.array n e)) (hce : P.cellsOf e = c) (hct : P.cellsOf t = n * c)
    (h : DataW.trod enc P w base sp held fuel t cs = some (.agg ds, p)) : cs.length = n * c ∧ ds.length = n ∧ ∀ i d, ds[i]? = some d → ∃ fuel' p', DataW.trod enc P w base sp held fuel' e ((cs.drop (i * c)).take c) = some (d, p') := by
  cases fuel with
  | zero => simp [DataW.trod] at h
  | succ fuel =>
    simp only [DataW.trod, ht, hce, hct] at h
    split at h
    · rename_i hl
      obtain ⟨xs, hm, hx⟩ := Option.map_eq_some_iff.1 h
      have hxs : xs.map (·.1) = ds := by
        have := congrArg Prod.fst hx
        simpa using this
      have hxl : xs.length = n := by simpa using Lib.mapM_length hm
      refine ⟨by simpa using hl, by rw [← hxs]; simpa using hxl, fun i d hd => ?_⟩
      have hi : i < n := by
        have := (List.getElem?_eq_some_iff.1 hd).1
        rw [← hxs, List.length_map] at this; omega
      obtain ⟨b, hb, hf⟩ := Lib.mapM_at hm i i (by simp [hi])
      have : (xs.map (·.1))[i]? = some b.1 := by simp [hb]
      rw [hxs, hd] at this
      obtain rfl := Option.some.inj this
      exact ⟨fuel, b.2, hf⟩
    · cases h
theorem ba_of {s : ByteArray} {l : List UInt8} (h : s.data.toList = l) : s = ⟨l.toArray⟩ := by
  apply ByteArray.ext
  apply Array.ext'
  rw [h]
theorem flt_of {W : World} {rest : List (String × DataW Unit)} (h : laidMet Tryz.prog (("whittle/value.faultNames", .agg (fNames.map fun x => .lit (.string x))) :: rest) W) : FltAt W := by
  obtain ⟨ps, ⟨g', t', cs, fuel, p, q, hg', ht', hvar, hd, _, _⟩, _⟩ := h
  have hg : Tryz.prog.globalNamed "whittle/value.faultNames" = some 1 := by kernel_rfl
  have hty : (Tryz.prog.globals[1]?).map (·.type) = some 168 := by kernel_rfl
  obtain rfl := Option.some.inj (hg.symm.trans hg')
  obtain rfl := Option.some.inj (hty.symm.trans ht')
  obtain ⟨h1, h2, h3⟩ := array_each (n := 9) (c := 1) (e := 9) Tryz.underlying168 (by kernel_rfl) (by kernel_rfl) hd
  intro j v hv
  unfold fltR at hv
  rw [List.getElem?_map] at hv
  obtain ⟨x, hx, rfl⟩ := Option.map_eq_some_iff.1 hv
  obtain ⟨fu, p', ht⟩ := h3 j (.lit (.string x)) (by rw [List.getElem?_map, hx]; rfl)
  obtain ⟨s, e1, e2, _⟩ := DataW.trod_string Tryz.underlying9 ht
  simp only [Prod.mk.injEq, DataW.lit.injEq, Lit.string.injEq] at e2
  rw [Nat.zero_add, World.var?_cell hg hvar j]
  have : cs.toList[j]? = some (.string s) := by
    have := congrArg (·[0]?) e1
    simpa [List.getElem?_take, List.getElem?_drop] using this
  rw [Array.getElem?_toList] at this
  rw [this, ba_of e2.1.symm]
theorem flat3 {α β : Type} (f : α → List β) (hf : ∀ x, (f x).length = 3) : ∀ (l : List α) (i : Nat) (hi : i < l.length) (r : Nat), r < 3 → (l.flatMap f)[i * 3 + r]? = (f l[i])[r]?
  | [], i, hi, r, hr => absurd hi (Nat.not_lt_zero _)
  | x :: l, 0, hi, r, hr => by
    rw [List.flatMap_cons, List.getElem?_append_left (by rw [hf]; omega)]; simp
  | x :: l, i + 1, hi, r, hr => by
    rw [List.flatMap_cons, List.getElem?_append_right (by rw [hf]; omega), hf, show (i + 1) * 3 + r - 3 = i * 3 + r by omega]
    rw [flat3 f hf l i (by simpa using hi) r hr]; simp
theorem ops_of {W : World} {rest : List (String × DataW Unit)} (h : laidMet Tryz.prog (("whittle/tree.operators", .agg (Wt.opsT.map fun x => .agg [.lit (.int .i64 x.1), .lit (.string x.2.1), .lit (.int .i64 x.2.2)])) :: rest) W) : OpsAt W := by
  obtain ⟨ps, ⟨g', t', cs, fuel, p, q, hg', ht', hvar, hd, _, _⟩, _⟩ := h
  have hg : Tryz.prog.globalNamed "whittle/tree.operators" = some 0 := by kernel_rfl
  have hty : (Tryz.prog.globals[0]?).map (·.type) = some 137 := by kernel_rfl
  obtain rfl := Option.some.inj (hg.symm.trans hg')
  obtain rfl := Option.some.inj (hty.symm.trans ht')
  obtain ⟨h1, h2, h3⟩ := array_each (n := 15) (c := 3) (e := 118) Tryz.underlying137 (by kernel_rfl) (by kernel_rfl) hd
  have c3 : Tryz.prog.cellsOf 3 = 1 := by kernel_rfl
  have c9 : Tryz.prog.cellsOf 9 = 1 := by kernel_rfl
  have key : ∀ i x, Wt.opsT[i]? = some x → cs.toList[i * 3]? = some (.int .i64 x.1) ∧ cs.toList[i * 3 + 1]? = some (.string ⟨x.2.1.toArray⟩) ∧ cs.toList[i * 3 + 2]? = some (.int .i64 x.2.2) := by
    intro i x hx
    obtain ⟨fu, p', ht⟩ := h3 i _ (by rw [List.getElem?_map, hx]; rfl)
    obtain ⟨y0, y1, y2, n, e, -, t0, t1, t2⟩ := Deep.trod_struct3 Tryz.underlying118 ht
    simp only [Prod.mk.injEq, DataW.agg.injEq, List.cons.injEq, and_true] at e
    obtain ⟨z0, f0, g0, _⟩ := DataW.trod_int Tryz.underlying3 t0
    obtain ⟨z1, f1, g1, _⟩ := DataW.trod_string Tryz.underlying9 t1
    obtain ⟨z2, f2, g2, _⟩ := DataW.trod_int Tryz.underlying3 t2
    subst g0 g1 g2
    simp only [DataW.lit.injEq, Lit.int.injEq, Lit.string.injEq, true_and] at e
    obtain ⟨⟨rfl, e1, rfl⟩, -⟩ := e
    simp only [c3] at f0 f2
    simp only [c9] at f1
    have q0 := congrArg (·[0]?) f0
    have q1 := congrArg (·[0]?) f1
    have q2 := congrArg (·[0]?) f2
    simp [List.getElem?_drop] at q0 q1 q2
    refine ⟨?_, ?_, ?_⟩
    · rw [Array.getElem?_toList]; exact q0
    · rw [Array.getElem?_toList, q1, ba_of e1.symm]
    · rw [Array.getElem?_toList]; exact q2
  intro j v hv
  rw [Nat.zero_add, World.var?_cell hg hvar j]
  have hj : j < 45 := by
    have := (List.getElem?_eq_some_iff.1 hv).1
    have e : opsR.length = 45 := rfl
    omega
  have hi : j / 3 < Wt.opsT.length := by show j / 3 < 15; omega
  obtain ⟨k0, k1, k2⟩ := key (j / 3) _ (List.getElem?_eq_getElem hi)
  have hf := flat3 (fun x : Int × List UInt8 × Int => ([.int .i64 x.1, .string ⟨x.2.1.toArray⟩, .int .i64 x.2.2] : List Value)) (fun _ => rfl) Wt.opsT (j / 3) hi
  have hm : j % 3 = 0 ∨ j % 3 = 1 ∨ j % 3 = 2 := by omega
  rcases hm with hm | hm | hm
  · have e : j = j / 3 * 3 + 0 := by omega
    have := hf 0 (by decide)
    rw [← e] at this
    rw [show opsR[j]? = _ from this] at hv
    rw [show j = j / 3 * 3 by omega, ← Array.getElem?_toList, k0]; exact hv
  · have e : j = j / 3 * 3 + 1 := by omega
    have := hf 1 (by decide)
    rw [← e] at this
    rw [show opsR[j]? = _ from this] at hv
    rw [e, ← Array.getElem?_toList, k1]; exact hv
  · have e : j = j / 3 * 3 + 2 := by omega
    have := hf 2 (by decide)
    rw [← e] at this
    rw [show opsR[j]? = _ from this] at hv
    rw [e, ← Array.getElem?_toList, k2]; exact hv
end Go.Proofs.YtjkchneffcppmaaGreatDoor
