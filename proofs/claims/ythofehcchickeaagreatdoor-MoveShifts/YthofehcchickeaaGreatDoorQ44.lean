/- TRtD, TAblP, MCopyP, MWalkE, MWalkF, MSame, TLentA, MLawShifts, TLaid. -/
import Derived.Test.YthofehcchickeaaGreatDoorQ43
import Derived.Deep.LoopGhost
import Derived.Deep.MidRow
import Derived.Lib.LaidTab
import Derived.Deep.Strs
import Derived.Stop.LaidErr
namespace Go.Proofs.YthofehcchickeaaGreatDoor
open Go.RowKit Go.Shelf
set_option linter.unusedVariables false
theorem prnt_read {L : List Wt.Nd} (hc : Wt.check L = 0) (hl : (prnt L).length ≤ 1024) : prsR (prnt L) = .inl L := by
  obtain ⟨h256, d, hone, hd⟩ := check_zero hc
  have hp : prnt L = (pr (L.length + 1) 0 L).1 := by unfold prnt; rw [if_pos hc]
  obtain ⟨T, t1, t2, t3, t4⟩ := pr_rt _ _ _ _ hone 0 (by omega)
  rw [List.take_length] at t4
  rw [show (((0 : Nat)) : Int) = 0 from rfl, ← hp] at t1
  obtain ⟨ts, o1, o2⟩ := t1 0 [] [] Wlx.Aft.nil (Wlx.Ok.nil _)
  rw [List.append_nil, List.append_nil] at o1
  have hrep : Rep (ts.map Wlx.tv) T := by
    unfold Rep
    rw [← o2, List.map_map, List.map_map]
    rfl
  have hlv := par_form t4 (en := ((prnt L).length : Int)) (f := 10 * (ts.map Wlx.tv).length + 9) (tl := []) hrep (fun c q e => by cases e) (fun j => rfl) (by rw [hrep.len]; omega)
  rw [List.append_nil] at hlv
  rw [prsR_of hl o1 hlv, if_pos hc]
def abR : Wt.Rf := ⟨⟨#[]⟩, 0, 0, false, false⟩
theorem dd_1 : Lib.decDigits 1 = [49] := by rw [Lib.decDigits_one (by decide)]; rfl
theorem cw_A1 : cw abR = [65, 49] := by
  unfold cw
  show fx false ++ Wpl.colS 0 ++ fx false ++ Lib.decDigits 1 = _
  rw [dd_1]; decide
def t1 : Wlx.TV := ⟨1, [49], 0⟩
def t2 : Wlx.TV := ⟨5, [43], 1⟩
def t3 : Wlx.TV := ⟨3, [65, 49], 2⟩
theorem more_not {sub : List Wlx.TV → PR} {k : Int} {n : Nat} {row : List Wt.Nd} {ts : List Wlx.TV} (h : tkOp k ts = none) : more sub k n row ts = .inl (row, ts) := by cases n with
  | zero => rfl
  | succ n => simp only [more, h]
theorem up {en : Int} {f k : Nat} {ts r : List Wlx.TV} {row : List Wt.Nd} (hk : k < 5) (h : lv en f (k + 1) ts = .inl (row, r)) (hn : tkOp k r = none) : lv en (f + 1) k ts = .inl (row, r) := by
  rw [lv_bt _ _ _ hk]; unfold pbt; rw [h]; exact more_not hn
def cont (u : List UInt8) : List UInt8 × Int := if 1023 < u.length then ([], 2) else (61 :: u, 0)
def cpF (x y : Int) (r : List Wt.Nd ⊕ (Int × Int)) : List UInt8 × Int := match r with
  | .inr (c, _) => ([], c)
  | .inl row => cont (prnt (row.map (mvN x y)))
def cpR (x y : Int) (l : List UInt8) : List UInt8 × Int := if l.head? = some 61 then cpF x y (prsR l.tail) else (l, 0)
theorem prnt_len {L : List Wt.Nd} (hc : Wt.check L = 0) : (prnt L).length ≤ 256000 := by
  obtain ⟨h256, d, hone, hd⟩ := check_zero hc
  have h := (pr_ok _ _ _ _ hone 0).2
  unfold prnt
  rw [if_pos hc]
  omega
def cA (r : Int) : Wt.Nd := ⟨2, Wt.v0, 0, ⟨#[]⟩, 0, ⟨⟨#[]⟩, r, 0, false, false⟩, Wt.r0⟩
theorem dd_2 : Lib.decDigits 2 = [50] := by rw [Lib.decDigits_one (by decide)]; rfl
theorem cw_A2 : cw ⟨⟨#[]⟩, 1, 0, false, false⟩ = [65, 50] := by
  unfold cw
  show fx false ++ Wpl.colS 0 ++ fx false ++ Lib.decDigits 2 = _
  rw [dd_2]; decide
theorem chk_A (r : Int) (h : r = 0 ∨ r = 1) : Wt.check [cA r] = 0 := by
  rcases h with rfl | rfl <;> decide +kernel
theorem prnt_A (r : Int) (h : r = 0 ∨ r = 1) : prnt [cA r] = cw ⟨⟨#[]⟩, r, 0, false, false⟩ := by
  unfold prnt
  rw [if_pos (chk_A r h)]
  rfl
theorem prs_A1 : prsR [65, 49] = .inl [cA 0] := by
  have h : prnt [cA 0] = [65, 49] := by rw [prnt_A 0 (Or.inl rfl)]; exact cw_A1
  have := prnt_read (chk_A 0 (Or.inl rfl)) (by rw [h]; decide)
  rw [h] at this
  exact this
theorem cpR_eq (x y : Int) (t : List UInt8) : cpR x y (61 :: t) = cpF x y (prsR t) := if_pos (show (61 :: t).head? = some 61 from rfl)
theorem cp_able : cpR 1 0 [61, 65, 49] = ([61, 65, 50], 0) := by
  rw [cpR_eq, prs_A1]
  have e : [cA 0].map (mvN 1 0) = [cA 1] := by
    show [mvN 1 0 (cA 0)] = [cA 1]
    have : mvN 1 0 (cA 0) = cA 1 := (eqN_iff _ _).1 (by decide +kernel)
    rw [this]
  unfold cpF
  simp only [e]
  unfold cont
  rw [prnt_A 1 (Or.inr rfl), cw_A2, if_neg (by decide)]
theorem ownN_cap {w : World} {B n cap : Nat} {av : Option Addr} {row : List Wt.Nd} (h : OwnN w B (.slice av n cap) row) : row.length ≤ cap := by
  rcases h.2 with ⟨e, h0⟩ | ⟨g, cap', cur, e, hg, hc, h1, _⟩
  · omega
  · simp only [Value.slice.injEq] at e
    omega
theorem cute_no (s : ByteArray) (w : World) (hx : ¬ s.data.toList.head? = some 61) :
    Calls Tryz.prog 18 #[.string s, .string ⟨#[61]⟩] w fun e w' => e = .returned (.tuple #[.string s, .bool false]) ∧ w = w' := by
  by_cases h0 : 0 < s.size
  · have h1 : (1 : Int) ≤ (s.size : Int) := by omega
    have hx1 : ((s.extract 0 1).toList == [61]) = false := by
      rw [beq_eq_false_iff_ne]
      intro e
      apply hx
      rw [ByteArray.toList_eq, ByteArray.data_extract, Array.toList_extract] at e
      cases hq : s.data.toList with
      | nil => rw [hq] at e; simp at e
      | cons c t => rw [hq] at e; simp [List.extract] at e; rw [e]; rfl
    clear hx
    go_enter Tryz.func18, Tryz.ntmps18
    go_wp2
    go_ret2
    exact ⟨rfl, rfl⟩
  · have h1 : ¬ (1 : Int) ≤ (s.size : Int) := by omega
    clear hx
    go_enter Tryz.func18, Tryz.ntmps18
    go_wp2
    go_ret2
    exact ⟨rfl, rfl⟩
theorem cute_yes (t : List UInt8) (w : World) (ht : t.length ≤ 9223372036854775806) :
    Calls Tryz.prog 18 #[.string ⟨(61 :: t).toArray⟩, .string ⟨#[61]⟩] w fun e w' => e = .returned (.tuple #[.string ⟨t.toArray⟩, .bool true]) ∧ w = w' := by
  obtain ⟨s, hs⟩ : ∃ s : ByteArray, s = ⟨(61 :: t).toArray⟩ := ⟨_, rfl⟩
  have h0 : s.size = t.length + 1 := by rw [hs]; rfl
  have hx1 : ((s.extract 0 1).toList == [61]) = true := by rw [hs]; simp [ByteArray.toList_eq, ByteArray.data_extract, List.extract]
  have hx2 : s.extract 1 s.size = ⟨t.toArray⟩ := by
    rw [h0, hs]
    apply ByteArray.ext
    rw [ByteArray.data_extract]
    apply Array.ext'
    simp [List.extract]
  have h1 : (1 : Int) ≤ (s.size : Int) := by omega
  rw [← hs]
  clear hs h0
  go_enter Tryz.func18, Tryz.ntmps18
  go_wp2
  go_ret2
  exact ⟨rfl, rfl⟩
theorem cat_eq (u : List UInt8) : (⟨#[61]⟩ : ByteArray) ++ ⟨u.toArray⟩ = ⟨(61 :: u).toArray⟩ := by
  apply ByteArray.ext
  rw [ByteArray.data_append]
  apply Array.ext'
  simp
theorem cont_any (u : List UInt8) (w : World) (hu : True → u.length ≤ 1000000) :
    Calls Tryz.prog 21 #[.string ⟨u.toArray⟩] w fun e w' => e = .returned (.tuple #[.string ⟨(cont u).1.toArray⟩, .int .i64 (cont u).2]) ∧ w = w' := by
  have hc := cat_eq u
  have hl : ¬ 9223372036854775807 < 1 + u.length := by have := hu trivial; omega
  unfold cont
  by_cases h : 1023 < u.length
  · rw [if_pos h]
    have hi : (1024 : Int) < (u.length : Int) + 1 := by omega
    clear hu h
    go_enter Tryz.func21, Tryz.ntmps21
    go_wp2
    go_ret2
    exact ⟨rfl, rfl⟩
  · rw [if_neg h]
    have hi : ¬ (1024 : Int) < (u.length : Int) + 1 := by omega
    clear hu h
    go_enter Tryz.func21, Tryz.ntmps21
    go_wp2
    go_ret2
    exact ⟨rfl, rfl⟩
set_option maxRecDepth 100000 in
set_option maxHeartbeats 4000000 in
theorem copy_any (b : ByteArray) (x y : Int) (w : World) (hE : Env w) (hk8 : 8 ≤ w.heap.size) (hs : b.size ≤ 9223372036854775807) :
    Calls Tryz.prog 10 #[.string b, .int .i64 x, .int .i64 y] w fun e w' => e = .returned (.tuple #[.string ⟨(cpR x y b.data.toList).1.toArray⟩, .int .i64 (cpR x y b.data.toList).2]) ∧ Below w.heap.size w w' := by
  by_cases hh : b.data.toList.head? = some 61
  · obtain ⟨t, ht⟩ : ∃ t, b.data.toList = 61 :: t := by
      cases hq : b.data.toList with
      | nil => rw [hq] at hh; cases hh
      | cons c t => rw [hq] at hh; obtain rfl := Option.some.inj hh; exact ⟨t, rfl⟩
    have hb : b = ⟨(61 :: t).toArray⟩ := by
      have : b = ⟨b.data.toList.toArray⟩ := by rw [Array.toArray_toList]
      rw [this, ht]
    have htl : t.length ≤ 9223372036854775806 := by
      have : b.size = t.length + 1 := by rw [hb]; rfl
      omega
    have CU := fun w => cute_yes t w htl
    have S := fun w hE hk8 => parse_any ⟨t.toArray⟩ w hE (by show t.length ≤ _; omega) hk8
    have e0 : (⟨t.toArray⟩ : ByteArray).data.toList = t := by simp
    rw [e0] at S
    rw [ht, cpR_eq, hb]
    clear hb ht hh hs e0 htl
    cases hr : prsR t with
    | inr q =>
      obtain ⟨c, p⟩ := q
      rw [hr] at S
      simp only [PaPost] at S
      have hc := prsR_code hr
      have hci : (c != 0) = true := by simp [hc]
      have e : cpF x y (.inr (c, p)) = ([], c) := rfl
      rw [e]
      clear hr e
      go_enter Tryz.func10, Tryz.ntmps10
      go_wp2_with fail
      refine (CU w).mono ?_
      rintro e w1 ⟨rfl, rfl⟩
      go_wp2_with fail
      refine (S w hE hk8).mono ?_
      rintro e w2 ⟨rfl, hb2⟩
      go_wp2
      go_ret2
      exact ⟨rfl, hb2⟩
    | inl row =>
      rw [hr] at S
      simp only [PaPost] at S
      obtain ⟨hf, hc⟩ := prsR_row hr
      have hc2 := check_mv hc x y
      have hpl := prnt_len hc2
      have hf2 : ∀ n ∈ row.map (mvN x y), Wt.FitN n := by
        intro n hn
        obtain ⟨m, hm, rfl⟩ := List.mem_map.1 hn
        exact fit_mv (hf m hm) x y
      have h256 := (check_zero hc).1
      have e : cpF x y (.inl row) = cont (prnt (row.map (mvN x y))) := rfl
      rw [e]
      have SH := fun av cap w hO hr => mshift_ok av cap row x y w hf hO hr hc
      have PR := fun av cap w hE hr hcap hk8 => print_any av cap (row.map (mvN x y)) w (by rw [List.length_map]; omega) hf2 hE hr hcap hk8
      rw [hc2] at PR
      obtain ⟨m, hm⟩ : ∃ m, row.map (mvN x y) = m := ⟨_, rfl⟩
      rw [hm] at SH PR hpl ⊢
      generalize prnt m = u at *
      have CT := fun w => cont_any u w (fun _ => by omega)
      generalize cont u = q at *
      clear hr e hf hc hc2 hf2 hpl h256 hm
      go_enter Tryz.func10, Tryz.ntmps10
      go_wp2_with fail
      refine (CU w).mono ?_
      rintro e w1 ⟨rfl, rfl⟩
      go_wp2_with fail
      refine (S w hE hk8).mono ?_
      rintro e w2 ⟨⟨v, rfl, hown⟩, hb2⟩
      obtain ⟨av, cap, rfl, hrd⟩ := hown.form
      clear S CU hown
      go_wp2_with fail
      refine (SH av cap w2 (hE.below hb2).1 hrd).mono ?_
      rintro e w3 ⟨⟨v, rfl, hown⟩, hb3⟩
      have hB3 := below_end hb2 hb3
      obtain ⟨av3, cap3, rfl, hrd3⟩ := hown.form
      have hcap := ownN_cap hown
      clear SH hrd hb3 hown
      go_wp2_with fail
      refine (PR av3 cap3 w3 (hE.below hB3) hrd3 hcap (Nat.le_trans hk8 hB3.size)).mono ?_
      rintro e w4 ⟨rfl, hb4⟩
      have hB4 := below_end hB3 hb4
      clear PR hrd3 hcap
      go_wp2_with fail
      refine (CT w4).mono ?_
      rintro e w5 ⟨rfl, rfl⟩
      go_wp2
      go_ret2
      exact ⟨rfl, hB4⟩
  · have CU := fun w => cute_no b w hh
    have e : cpR x y b.data.toList = (b.data.toList, 0) := if_neg hh
    have e2 : (⟨b.data.toList.toArray⟩ : ByteArray) = b := by rw [Array.toArray_toList]
    rw [e]
    simp only
    rw [e2]
    clear e e2 hh
    go_enter Tryz.func10, Tryz.ntmps10
    go_wp2_with fail
    refine (CU w).mono ?_
    rintro e w1 ⟨rfl, rfl⟩
    go_wp2
    go_ret2
    exact ⟨rfl, Below.refl _ _⟩
set_option maxRecDepth 100000 in
theorem mable_any (w : World) (hE : Env w) (hk8 : 8 ≤ w.heap.size) : Calls Tryz.prog 8 #[] w fun e w' => e = .returned (.bool true) ∧ Below w.heap.size w w' := by
  have C := copy_any ⟨#[61, 65, 49]⟩ 1 0 w hE hk8 (by decide)
  have e0 : (⟨#[61, 65, 49]⟩ : ByteArray).data.toList = [61, 65, 49] := rfl
  rw [e0, cp_able] at C
  clear e0
  go_enter Tryz.func8, Tryz.ntmps8
  go_wp2_with fail
  refine C.mono ?_
  rintro e w1 ⟨rfl, hb⟩
  go_wp2
  go_ret
  exact ⟨by simp, hb⟩
open Go.RowKit
theorem neqN_run (x : Wt.Nd) (w : World) : (binOp .neq 30 (ndV x) (ndV x)).run Tryz.prog w = .ok (.bool false) w := by
  have h := eqN_run x x w
  have e : eqN x x = true := (eqN_iff x x).2 rfl
  rw [e] at h
  unfold ndV at h ⊢
  rw [run_eql_struct] at h
  rw [run_neq_struct]
  revert h
  generalize (Op.equalIn 10000 30 (.agg (nd20 x).toArray) (.agg (nd20 x).toArray)).run Tryz.prog w = r
  intro h
  cases r <;> simp_all [Result.andThen]
theorem neqN_exec (x : Wt.Nd) (w : World) {a : Operand → Value} {ex ey : Operand} (h1 : a ex = .agg (nd20 x).toArray) (h2 : a ey = .agg (nd20 x).toArray) {d : Option Nat} {ty : TypeId} {p : String} {af : Array Edge} {g : Option (Nat × Bool)} :
    (execOp a { dst := d, op := .binOp BinOp.neq 30 ex ey 30, type := ty, pos := p, after := af, guard := g }).run Tryz.prog w = .ok (.value (.bool false)) w := by
  unfold execOp
  simp only [h1, h2]
  have h3 := neqN_run x w
  unfold ndV at h3
  have h4 : (eqGuard .neq 30 ex ey (.agg (nd20 x).toArray) (.agg (nd20 x).toArray)).run Tryz.prog w = .ok () w := by kernel_rfl
  simp only [Sem.run_bind, h3, h4, Result.andThen_ok, Sem.run_pure]
set_option maxRecDepth 100000 in
set_option maxHeartbeats 4000000 in
theorem nsame_wide (av1 av2 : Option Addr) (cap1 cap2 : Nat) (L : List Wt.Nd) (w : World) (h1 : RdN w av1 L) (h2 : RdN w av2 L) (hl : True → L.length ≤ 799644820200) :
    Calls Tryz.prog 9 #[.slice av1 L.length cap1, .slice av2 L.length cap2] w fun e w' => e = .returned (.bool true) ∧ Below w.heap.size w w' := by
  have H1 : Hid (RdN w av1 L) := h1
  have H2 : Hid (RdN w av2 L) := h2
  obtain ⟨n, hn⟩ : ∃ n, L.length = n := ⟨_, rfl⟩
  rw [hn] at hl ⊢
  clear h1 h2
  go_enter Tryz.func9, Tryz.ntmps9
  go_wp2_with fail
  go_loopg [5] n (fun gk x wr => ∃ i : Nat, x = .int .i64 i ∧ gk = n - i ∧ i ≤ n ∧ Below w.heap.size w wr)
  case atStart => exact ⟨0, rfl, rfl, Nat.zero_le _, Below.refl _ _⟩
  case round =>
    obtain ⟨i, rfl, hg, hi, hb⟩ := hrel
    by_cases hlt : i < n
    · have hli : (i : Int) < (n : Int) := by omega
      have hi0 : (0 : Int) ≤ (i : Int) := by omega
      have hwi : IntKind.i64.wrap ((i : Int) + 1) = (i : Int) + 1 := by rw [IntKind.wrap_i64]; have := hl trivial; omega
      obtain ⟨b1, o1, rfl, c1⟩ := RdN.below H1.out hb i (by omega)
      obtain ⟨b2, o2, rfl, c2⟩ := RdN.below H2.out hb i (by omega)
      generalize L[i] = x at c1 c2
      go_upto_region 6 with fail
      refine wp_region_held_drew (S := fun W => W.rangeAt b1 (o1 + i * 20) (nd20 x) ∧ W.rangeAt b2 (o2 + i * 20) (nd20 x)) (by kernel_rfl) ⟨c1, c2⟩ (fun hHeld => ?_)
      refine tkQ 0 { dst := some 17, op := .move (.tmp 0), type := 22, pos := "law.go:21", after := #[], guard := none } ?_; try simp only [Act.put, lA, lZ, lS]
      refine tkQ 1 { dst := some 18, op := .move (.tmp 5), type := 3, pos := "law.go:21", after := #[], guard := none } ?_; try simp only [Act.put, lA, lZ, lS]
      refine tkQ 2 { dst := some 19, op := .indexAddr 22 (.tmp 17) (.tmp 18), type := 0, pos := "law.go:21", after := #[⟨0, .data⟩, ⟨1, .data⟩], guard := none } ?_; try simp only [Act.put, lA, lZ, lS]
      refine wpAnyH_take (i := 3) (oi := { dst := some 20, op := .load 30 (.tmp 19), type := 30, pos := "law.go:21", after := #[⟨2, .data⟩], guard := none }) (v := .agg (nd20 x).toArray) rfl (by kernel_rfl) (by kernel_rfl) (by kernel_rfl) (fun _ _ _ h => h) (yieldsIf_load_mid (by rfl) 30 (.tmp 19) rfl b1 (o1 + i * 20) rfl (nd20 x) _ (fun _ h => h.1) Tryz.underlying30 rfl (by kernel_rfl)) (by assumption) ?_
      try simp only [Act.put, lA, lZ, lS]
      refine tkQ 4 { dst := some 21, op := .move (.tmp 1), type := 22, pos := "law.go:21", after := #[], guard := none } ?_; try simp only [Act.put, lA, lZ, lS]
      refine tkQ 5 { dst := some 22, op := .move (.tmp 5), type := 3, pos := "law.go:21", after := #[], guard := none } ?_; try simp only [Act.put, lA, lZ, lS]
      refine tkQ 6 { dst := some 23, op := .indexAddr 22 (.tmp 21) (.tmp 22), type := 0, pos := "law.go:21", after := #[⟨4, .data⟩, ⟨5, .data⟩], guard := none } ?_; try simp only [Act.put, lA, lZ, lS]
      refine wpAnyH_take (i := 7) (oi := { dst := some 24, op := .load 30 (.tmp 23), type := 30, pos := "law.go:21", after := #[⟨6, .data⟩], guard := none }) (v := .agg (nd20 x).toArray) rfl (by kernel_rfl) (by kernel_rfl) (by kernel_rfl) (fun _ _ _ h => h) (yieldsIf_load_mid (by rfl) 30 (.tmp 23) rfl b2 (o2 + i * 20) rfl (nd20 x) _ (fun _ h => h.2) Tryz.underlying30 rfl (by kernel_rfl)) (by assumption) ?_
      try simp only [Act.put, lA, lZ, lS]
      refine wpAnyH_take (i := 8) (oi := { dst := some 25, op := .binOp BinOp.neq 30 (.tmp 20) (.tmp 24) 30, type := 4, pos := "law.go:21", after := #[⟨3, .data⟩, ⟨7, .data⟩], guard := none }) (v := .bool false) rfl (by kernel_rfl) (by kernel_rfl) (by kernel_rfl) (fun _ _ _ h => h) (Or.inl ⟨by rfl, fun w _ => neqN_exec x w rfl rfl⟩) (by assumption) ?_
      try simp only [Act.put, lA, lZ, lS]
      refine wpAnyH_done (by kernel_rfl) ?_ _
      clear hHeld c1 c2
      have hbd := hb.drew
      go_wp2_with fail
      go_roundg (n - (i + 1))
      case rel => exact ⟨i + 1, by simp, rfl, by omega, hbd⟩
      case measure => omega
    · have hli : ¬ (i : Int) < (n : Int) := by omega
      go_wp2
      go_ret
      exact ⟨rfl, hb⟩
theorem nsame_true (av1 av2 : Option Addr) (cap1 cap2 : Nat) (L : List Wt.Nd) (w : World) (h1 : RdN w av1 L) (h2 : RdN w av2 L) (hl : L.length ≤ 4000000) :
    Calls Tryz.prog 9 #[.slice av1 L.length cap1, .slice av2 L.length cap2] w fun e w' => e = .returned (.bool true) ∧ Below w.heap.size w w' := nsame_wide av1 av2 cap1 cap2 L w h1 h2 (fun _ => by omega)
def mkN (c : Int) : Wt.Nd := ⟨0, Wt.v0, 0, ⟨#[]⟩, c, Wt.r0, Wt.r0⟩
theorem bs2n (x y : Wt.Nd) (w : World) : (Instr.buildSlice 22 2 #[(0, .agg (nd20 x).toArray), (1, .agg (nd20 y).toArray)]).run Tryz.prog w = .ok (.slice (some ⟨w.heap.size, 0, none⟩) 2 2) (w.alloc (.cells (nd20 x ++ nd20 y).toArray 30)) := by kernel_rfl
theorem wp_bs2n {op : Oper} {a : Act} {w : World} {K : Act → World → Prop} {Q : Exit → Act → World → Prop} (y z : Operand) (ho : op.op = .buildSlice 22 2 #[(0, y), (1, z)]) (x u : Wt.Nd) (hy : a.eval y = .agg (nd20 x).toArray) (hz : a.eval z = .agg (nd20 u).toArray)
    (h : K (a.put op.dst (.slice (some ⟨w.heap.size, 0, none⟩) 2 2)) (w.alloc (.cells (nd20 x ++ nd20 u).toArray 30))) : op.wp Tryz.prog a w K Q := by
  unfold Oper.wp execOp
  simp only [ho, List.map_toArray, List.map_cons, List.map_nil, hy, hz, Sem.run_bind, Sem.run_pure, Result.andThen_ok, bs2n]
  exact h
theorem wpList_bs2n {ops : Array Oper} {rest : List Oper} {op : Oper} {a : Act} {w : World} {Q : Exit → Act → World → Prop} (hgd : op.guard = none) (y z : Operand) (ho : op.op = .buildSlice 22 2 #[(0, y), (1, z)]) (x u : Wt.Nd) (hy : a.eval y = .agg (nd20 x).toArray) (hz : a.eval z = .agg (nd20 u).toArray)
    (h : wpList Tryz.prog ops Q rest (a.put op.dst (.slice (some ⟨w.heap.size, 0, none⟩) 2 2)) (w.alloc (.cells (nd20 x ++ nd20 u).toArray 30))) : wpList Tryz.prog ops Q (op :: rest) a w :=
  wpList_plain hgd fun _ hK => wp_bs2n y z ho x u hy hz (hK _ _ h)
theorem bldN (c : Int) (w : World) : (Instr.build 30 #[(4, .int .i64 c)]).run Tryz.prog w = .ok (.agg (nd20 (mkN c)).toArray) w := by kernel_rfl
theorem wp_bldN {op : Oper} {a : Act} {w : World} {K : Act → World → Prop} {Q : Exit → Act → World → Prop} (y : Operand) (ho : op.op = .build 30 #[(4, y)]) (c : Int) (hy : a.eval y = .int .i64 c)
    (h : K (a.put op.dst (.agg (nd20 (mkN c)).toArray)) w) : op.wp Tryz.prog a w K Q := by
  unfold Oper.wp execOp
  simp only [ho, List.map_toArray, List.map_cons, List.map_nil, hy, Sem.run_bind, Sem.run_pure, Result.andThen_ok, bldN]
  exact h
theorem wpList_bldN {ops : Array Oper} {rest : List Oper} {op : Oper} {a : Act} {w : World} {Q : Exit → Act → World → Prop} (hgd : op.guard = none) (y : Operand) (ho : op.op = .build 30 #[(4, y)]) (c : Int) (hy : a.eval y = .int .i64 c)
    (h : wpList Tryz.prog ops Q rest (a.put op.dst (.agg (nd20 (mkN c)).toArray)) w) : wpList Tryz.prog ops Q (op :: rest) a w :=
  wpList_plain hgd fun _ hK => wp_bldN y ho c hy (hK _ _ h)
theorem rd_two (w : World) (x y : Wt.Nd) : RdN (w.alloc (.cells (nd20 x ++ nd20 y).toArray 30)) (some ⟨w.heap.size, 0, none⟩) [x, y] := fun i hi => by
  have h := range_new w 30 (nd20 x) (nd20 y)
  refine ⟨w.heap.size, 0, rfl, ?_⟩
  match i, hi with
  | 0, _ => exact h.1
  | 1, _ => exact h.2
def Lent (w : World) (B : Nat) (v : Value) (L : List Wt.Nd) : Prop := ∃ g cap, v = .slice (some ⟨g, 0, none⟩) L.length cap ∧ L.length + 2 ≤ cap ∧ (cap : Int) ≤ 9223372036854775807 ∧ OwnN w B (.slice (some ⟨g, 0, none⟩) (L.length + 2) cap) (L ++ [mkN 77, mkN 78])
theorem Lent.below {w w' : World} {B : Nat} {v : Value} {L : List Wt.Nd} (h : Lent w B v L) (hb : Below w.heap.size w w') : Lent w' B v L := by
  obtain ⟨g, cap, e, h1, h2, h3⟩ := h
  exact ⟨g, cap, e, h1, h2, h3.below hb⟩
theorem rd_app {w : World} {av : Option Addr} {L M : List Wt.Nd} (h : RdN w av (L ++ M)) : RdN w av L := fun i hi => by
  obtain ⟨bb, off, e, hx⟩ := h i (by rw [List.length_append]; omega)
  rw [List.getElem_append_left hi] at hx
  exact ⟨bb, off, e, hx⟩
theorem Lent.rd {w : World} {B : Nat} {v : Value} {L : List Wt.Nd} (h : Lent w B v L) : ∃ av cap, v = .slice av L.length cap ∧ L.length ≤ cap ∧ RdN w av L := by
  obtain ⟨g, cap, e, h1, h2, h3⟩ := h
  exact ⟨_, cap, e, by omega, rd_app h3.rd⟩
theorem OwnN.arg {w : World} {B g n cap : Nat} {L : List Wt.Nd} (h : OwnN w B (.slice (some ⟨g, 0, none⟩) n cap) L) (hn : n = L.length) (i : Nat) (hi : i < L.length) : w.cell? ⟨g, i * 20 + 9, none⟩ = some (.int .i64 (L[i]).ar) := by
  obtain ⟨bb, off, e, hx⟩ := h.rd i hi
  simp only [Option.some.injEq, Addr.mk.injEq] at e
  obtain ⟨rfl, rfl, -⟩ := e
  have := hx 9 _ rfl
  rw [Nat.zero_add] at this
  exact this
theorem marks_at {w : World} {B g cap : Nat} {L : List Wt.Nd} (own : OwnN w B (.slice (some ⟨g, 0, none⟩) (L.length + 2) cap) (L ++ [mkN 77, mkN 78])) : w.cell? ⟨g, L.length * 20 + 9, none⟩ = some (.int .i64 77) ∧ w.cell? ⟨g, (L.length + 1) * 20 + 9, none⟩ = some (.int .i64 78) := by
  have e2 : (L ++ [mkN 77, mkN 78]).length = L.length + 2 := by simp
  constructor
  · have h := own.arg e2.symm L.length (by rw [e2]; omega)
    rw [List.getElem_append_right (Nat.le_refl _)] at h
    simp only [Nat.sub_self, List.getElem_cons_zero] at h
    exact h
  · have h := own.arg e2.symm (L.length + 1) (by rw [e2]; omega)
    have e : (L ++ [mkN 77, mkN 78])[L.length + 1]'(by rw [e2]; omega) = mkN 78 := by
      rw [List.getElem_append_right (Nat.le_succ _)]
      simp
    rw [e] at h
    exact h
set_option maxRecDepth 100000 in
set_option maxHeartbeats 3200000 in
theorem mshifts_main (L : List Wt.Nd) (av : Option Addr) (cap : Nat) (x y : Int) (w : World) (hE : Env w) (hk8 : 8 ≤ w.heap.size) (hr : RdN w av L) (hf : ∀ x ∈ L, Wt.FitN x) (hno : av = none → L.length = 0 ∧ cap = 0) (hl : True → L.length ≤ 799644820177)
    (hx : -9223372036854775808 ≤ x ∧ x ≤ 9223372036854775807) (hy : -9223372036854775808 ≤ y ∧ y ≤ 9223372036854775807) :
    Calls Tryz.prog 3 #[.slice av L.length cap, .int .i64 x, .int .i64 y] w fun e w' => e = .returned (.bool true) ∧ Below w.heap.size w w' := by
  have HE : Hid (Env w) := hE
  have HR : Hid (RdN w av L) := hr
  have HNO : Hid (av = none → L.length = 0 ∧ cap = 0) := hno
  have HKA : Hid (∃ (M : List Wt.Nd) (c : Int), M.length ≤ 256 ∧ (∀ (av : Option Addr) (cap : Nat) (w : World), OpsAt w → RdN w av L → Calls Tryz.prog 6 #[.slice av L.length cap, .int .i64 x, .int .i64 y] w fun e w' => ∃ v, e = .returned (.tuple #[v, .int .i64 c]) ∧ OwnN w' w.heap.size v M ∧ Below w.heap.size w w') ∧
      (∀ (av : Option Addr) (cap : Nat) (w : World), RdN w av L → Calls Tryz.prog 7 #[.slice av L.length cap, .int .i64 x, .int .i64 y] w fun e w' => ∃ v, e = .returned (.tuple #[v, .int .i64 c]) ∧ OwnN w' w.heap.size v M ∧ Below w.heap.size w w')) := by
    show ∃ _, _
    have hL : L.length ≤ 9223372036854775807 := by have := hl trivial; omega
    by_cases hc : Wt.check L = 0
    · refine ⟨L.map (mvN x y), 0, by have := (check_zero hc).1; simp; omega, fun av cap w hO hr => (mshift_ok av cap L x y w hf hO hr hc).mono ?_, fun av cap w hr => (rshift_ok av cap L x y w hf hr hc hx hy).mono ?_⟩
      · rintro e w1 ⟨⟨v, rfl, h⟩, hb⟩
        exact ⟨v, rfl, h, hb⟩
      · rintro e w1 ⟨⟨v, rfl, h⟩, hb⟩
        exact ⟨v, rfl, h, hb⟩
    · refine ⟨[], Wt.check L, by simp, fun av cap w hO hr => (mshift_not av cap L x y w hL hf hO hr hc).mono ?_, fun av cap w hr => (rshift_not av cap L x y w hL hf hr hc).mono ?_⟩
      · rintro e w1 ⟨rfl, hb⟩
        exact ⟨_, rfl, World.ownsRow_nil _ _ _ _, hb⟩
      · rintro e w1 ⟨rfl, hb⟩
        exact ⟨_, rfl, World.ownsRow_nil _ _ _ _, hb⟩
  obtain ⟨M, c, hM, K1, K2⟩ := HKA.out
  have A := fun w hE hk => mable_any w hE hk
  have H256 : True → M.length ≤ 256 := fun _ => hM
  clear HKA hr hE hno hf hM hx hy
  go_enter Tryz.func3, Tryz.ntmps3
  go_wp2_with (at_builtin; refine wpList_copyN (by rfl) (.tmp 12) (.tmp 13) (by rfl) w (by rfl) av L cap (by rfl) HR.out HNO.out hl ?_)
  intro v1 w1 own1 hb1
  go_wp2_with (first
    | (with_reducible refine wpList_bldN (by rfl) (.const (.int .i64 77)) (by rfl) 77 (by rfl) ?_)
    | (with_reducible refine wpList_bldN (by rfl) (.const (.int .i64 78)) (by rfl) 78 (by rfl) ?_)
    | ((with_reducible refine wpList_bs2n ?_ (.tmp 15) (.tmp 16) ?_ (mkN 77) (mkN 78) ?_ ?_ ?_); rfl; rfl; rfl; rfl)
    | (at_builtin; refine wpList_appN (by rfl) (.tmp 14) (.tmp 17) (by rfl) w (w1.alloc (.cells (nd20 (mkN 77) ++ nd20 (mkN 78)).toArray 30)) (ball hb1 _) v1 L (by rfl) (own1.below ((Below.refl _ _).alloc (Nat.le_refl _) _)) (some ⟨w1.heap.size, 0, none⟩) [mkN 77, mkN 78] 2 (by rfl) (rd_two w1 (mkN 77) (mkN 78)) (by decide) (fun _ => by have := hl trivial; show L.length + 2 ≤ _; omega) ?_))
  intro v2 w2 own2 hb2
  have hex : ∃ g cap3, v2 = .slice (some ⟨g, 0, none⟩) (L.length + 2) cap3 ∧ L.length + 2 ≤ cap3 ∧ cap3 ≤ maxLen := by
    have e2 : (L ++ [mkN 77, mkN 78]).length = L.length + 2 := by simp
    rcases own2.2 with ⟨_, h0⟩ | ⟨g, cap3, cur, e, _, _, h1, h2, _⟩
    · omega
    · rw [e2] at e h1
      exact ⟨g, cap3, e, h1, h2⟩
  obtain ⟨g, cap3, rfl, hc3, hc4⟩ := hex
  unfold maxLen at hc4
  have k1 : (L.length : Int) ≤ (cap3 : Int) := by omega
  have k1' : (L.length : Int) + 2 ≤ (cap3 : Int) := by omega
  have k2 : (cap3 : Int) ≤ 9223372036854775807 := by omega
  have k3 : ((L.length : Int) + 1).toNat = L.length + 1 := by omega
  have HG2 : Hid (OwnN w2 w.heap.size (.slice (some ⟨g, 0, none⟩) (L.length + 2) cap3) (L ++ [mkN 77, mkN 78])) := own2
  have Q2 := K1 (some ⟨g, 0, none⟩) cap3 w2 (HE.out.below hb2).1 (rd_app own2.rd)
  clear own2 own1 HNO hc3 hc4 K1 hb1
  go_wp2_with fail
  refine Q2.mono ?_
  rintro e w3 ⟨v3, rfl, own3, hb3⟩
  obtain ⟨av3, cap3', rfl, hr3⟩ := own3.form
  have hB3 := below_end hb2 hb3
  have HM3 : Hid (RdN w3 av3 M) := hr3
  have HG3 : Hid (OwnN w3 w.heap.size (.slice (some ⟨g, 0, none⟩) (L.length + 2) cap3) (L ++ [mkN 77, mkN 78])) := HG2.out.below hb3
  have Q3 := K2 av cap w3 (HR.out.below hB3)
  clear Q2 own3 hr3 HG2 K2 hb2 hb3
  go_wp2_with fail
  refine Q3.mono ?_
  rintro e w4 ⟨v4, rfl, own4, hb4⟩
  obtain ⟨av4, cap4, rfl, hr4⟩ := own4.form
  have hB4 := below_end hB3 hb4
  have HM4 : Hid (RdN w4 av3 M) := HM3.out.below hb4
  have HN4 : Hid (RdN w4 av4 M) := hr4
  have HG4 : Hid (OwnN w4 w.heap.size (.slice (some ⟨g, 0, none⟩) (L.length + 2) cap3) (L ++ [mkN 77, mkN 78])) := HG3.out.below hb4
  have A4 := A w4 (HE.out.below hB4) (Nat.le_trans hk8 hB4.size)
  clear Q3 own4 hr4 HG3 HM3 hb4 hB3 A
  go_wp2_with fail
  refine A4.mono ?_
  rintro e w5 ⟨rfl, hb5⟩
  have hB5 := below_end hB4 hb5
  have S5 := nsame_true av3 av4 cap3' cap4 M w5 (HM4.out.below hb5) (HN4.out.below hb5) (by have := H256 trivial; omega)
  have HG5 : Hid (OwnN w5 w.heap.size (.slice (some ⟨g, 0, none⟩) (L.length + 2) cap3) (L ++ [mkN 77, mkN 78])) := HG4.out.below hb5
  clear A4 HM4 HN4 HG4 hB4 hb5
  go_wp2_with fail
  refine S5.mono ?_
  rintro e w6 ⟨rfl, hb6⟩
  have hB6 := below_end hB5 hb6
  have HG6 : Hid (OwnN w6 w.heap.size (.slice (some ⟨g, 0, none⟩) (L.length + 2) cap3) (L ++ [mkN 77, mkN 78])) := HG5.out.below hb6
  have S6 := nsame_wide (some ⟨g, 0, none⟩) av cap3 cap L w6 (rd_app HG6.out.rd) (HR.out.below hB6) (fun _ => by have := hl trivial; omega)
  clear S5 HG5 hB5 hb6
  go_wp2_with fail
  refine S6.mono ?_
  rintro e w7 ⟨rfl, hb7⟩
  have hB7 := below_end hB6 hb7
  obtain ⟨c77, c78⟩ := marks_at (HG6.out.below hb7)
  clear S6 HG6 hB6 hb7
  go_wp2
  go_ret
  exact ⟨rfl, hB7⟩
theorem array_each {H : Type} {enc : TypeId × Value → H} {P : Program} {w : World} {base : Nat} {sp : Nat → Bool} {held : Bool} {fuel : Nat} {t e : TypeId} {n c : Nat} {cs : List Value} {ds : List (DataW H)} {p : List MemPlace}
    (ht : P.underlying t = some (.array n e)) (hce : P.cellsOf e = c) (hct : P.cellsOf t = n * c)
    (h : DataW.trod enc P w base sp held fuel t cs = some (.agg ds, p)) : cs.length = n * c ∧ ds.length = n ∧ ∀ i d, ds[i]? = some d → ∃ fuel' p', DataW.trod enc P w base sp held fuel' e ((cs.drop (i * c)).take c) = some (d, p') := by
  cases fuel with
  | zero => simp [DataW.trod] at h
  | succ fuel =>
    simp only [DataW.trod, ht, hce, hct] at h
    split at h
    · rename_i hl
      obtain ⟨xs, hm, hx⟩ := Option.map_eq_some_iff.1 h
      have hxs : xs.map (·.1) = ds := by
        have := congrArg Prod.fst hx
        simpa using this
      have hxl : xs.length = n := by simpa using Lib.mapM_length hm
      refine ⟨by simpa using hl, by rw [← hxs]; simpa using hxl, fun i d hd => ?_⟩
      have hi : i < n := by
        have := (List.getElem?_eq_some_iff.1 hd).1
        rw [← hxs, List.length_map] at this; omega
      obtain ⟨b, hb, hf⟩ := Lib.mapM_at hm i i (by simp [hi])
      have : (xs.map (·.1))[i]? = some b.1 := by simp [hb]
      rw [hxs, hd] at this
      obtain rfl := Option.some.inj this
      exact ⟨fuel, b.2, hf⟩
    · cases h
theorem ba_of {s : ByteArray} {l : List UInt8} (h : s.data.toList = l) : s = ⟨l.toArray⟩ := by
  apply ByteArray.ext
  apply Array.ext'
  rw [h]
theorem flt_of {W : World} {rest : List (String × DataW Unit)} (h : laidMet Tryz.prog (("whittle/value.faultNames", .agg (fNames.map fun x => .lit (.string x))) :: rest) W) : FltAt W := by
  obtain ⟨ps, ⟨g', t', cs, fuel, p, q, hg', ht', hvar, hd, _, _⟩, _⟩ := h
  have hg : Tryz.prog.globalNamed "whittle/value.faultNames" = some 1 := by kernel_rfl
  have hty : (Tryz.prog.globals[1]?).map (·.type) = some 190 := by kernel_rfl
  obtain rfl := Option.some.inj (hg.symm.trans hg')
  obtain rfl := Option.some.inj (hty.symm.trans ht')
  obtain ⟨h1, h2, h3⟩ := array_each (n := 9) (c := 1) (e := 9) Tryz.underlying190 (by kernel_rfl) (by kernel_rfl) hd
  intro j v hv
  unfold fltR at hv
  rw [List.getElem?_map] at hv
  obtain ⟨x, hx, rfl⟩ := Option.map_eq_some_iff.1 hv
  obtain ⟨fu, p', ht⟩ := h3 j (.lit (.string x)) (by rw [List.getElem?_map, hx]; rfl)
  obtain ⟨s, e1, e2, _⟩ := DataW.trod_string Tryz.underlying9 ht
  simp only [Prod.mk.injEq, DataW.lit.injEq, Lit.string.injEq] at e2
  rw [Nat.zero_add, World.var?_cell hg hvar j]
  have : cs.toList[j]? = some (.string s) := by
    have := congrArg (·[0]?) e1
    simpa [List.getElem?_take, List.getElem?_drop] using this
  rw [Array.getElem?_toList] at this
  rw [this, ba_of e2.1.symm]
theorem flat3 {α β : Type} (f : α → List β) (hf : ∀ x, (f x).length = 3) : ∀ (l : List α) (i : Nat) (hi : i < l.length) (r : Nat), r < 3 → (l.flatMap f)[i * 3 + r]? = (f l[i])[r]?
  | [], i, hi, r, hr => absurd hi (Nat.not_lt_zero _)
  | x :: l, 0, hi, r, hr => by
    rw [List.flatMap_cons, List.getElem?_append_left (by rw [hf]; omega)]; simp
  | x :: l, i + 1, hi, r, hr => by
    rw [List.flatMap_cons, List.getElem?_append_right (by rw [hf]; omega), hf, show (i + 1) * 3 + r - 3 = i * 3 + r by omega]
    rw [flat3 f hf l i (by simpa using hi) r hr]; simp
theorem ops_of {W : World} {rest : List (String × DataW Unit)} (h : laidMet Tryz.prog (("whittle/tree.operators", .agg (Wt.opsT.map fun x => .agg [.lit (.int .i64 x.1), .lit (.string x.2.1), .lit (.int .i64 x.2.2)])) :: rest) W) : OpsAt W := by
  obtain ⟨ps, ⟨g', t', cs, fuel, p, q, hg', ht', hvar, hd, _, _⟩, _⟩ := h
  have hg : Tryz.prog.globalNamed "whittle/tree.operators" = some 0 := by kernel_rfl
  have hty : (Tryz.prog.globals[0]?).map (·.type) = some 158 := by kernel_rfl
  obtain rfl := Option.some.inj (hg.symm.trans hg')
  obtain rfl := Option.some.inj (hty.symm.trans ht')
  obtain ⟨h1, h2, h3⟩ := array_each (n := 15) (c := 3) (e := 131) Tryz.underlying158 (by kernel_rfl) (by kernel_rfl) hd
  have c3 : Tryz.prog.cellsOf 3 = 1 := by kernel_rfl
  have c9 : Tryz.prog.cellsOf 9 = 1 := by kernel_rfl
  have key : ∀ i x, Wt.opsT[i]? = some x → cs.toList[i * 3]? = some (.int .i64 x.1) ∧ cs.toList[i * 3 + 1]? = some (.string ⟨x.2.1.toArray⟩) ∧ cs.toList[i * 3 + 2]? = some (.int .i64 x.2.2) := by
    intro i x hx
    obtain ⟨fu, p', ht⟩ := h3 i _ (by rw [List.getElem?_map, hx]; rfl)
    obtain ⟨y0, y1, y2, n, e, -, t0, t1, t2⟩ := Deep.trod_struct3 Tryz.underlying131 ht
    simp only [Prod.mk.injEq, DataW.agg.injEq, List.cons.injEq, and_true] at e
    obtain ⟨z0, f0, g0, _⟩ := DataW.trod_int Tryz.underlying3 t0
    obtain ⟨z1, f1, g1, _⟩ := DataW.trod_string Tryz.underlying9 t1
    obtain ⟨z2, f2, g2, _⟩ := DataW.trod_int Tryz.underlying3 t2
    subst g0 g1 g2
    simp only [DataW.lit.injEq, Lit.int.injEq, Lit.string.injEq, true_and] at e
    obtain ⟨⟨rfl, e1, rfl⟩, -⟩ := e
    simp only [c3] at f0 f2
    simp only [c9] at f1
    have q0 := congrArg (·[0]?) f0
    have q1 := congrArg (·[0]?) f1
    have q2 := congrArg (·[0]?) f2
    simp [List.getElem?_drop] at q0 q1 q2
    refine ⟨?_, ?_, ?_⟩
    · rw [Array.getElem?_toList]; exact q0
    · rw [Array.getElem?_toList, q1, ba_of e1.symm]
    · rw [Array.getElem?_toList]; exact q2
  intro j v hv
  rw [Nat.zero_add, World.var?_cell hg hvar j]
  have hj : j < 45 := by
    have := (List.getElem?_eq_some_iff.1 hv).1
    have e : opsR.length = 45 := rfl
    omega
  have hi : j / 3 < Wt.opsT.length := by show j / 3 < 15; omega
  obtain ⟨k0, k1, k2⟩ := key (j / 3) _ (List.getElem?_eq_getElem hi)
  have hf := flat3 (fun x : Int × List UInt8 × Int => ([.int .i64 x.1, .string ⟨x.2.1.toArray⟩, .int .i64 x.2.2] : List Value)) (fun _ => rfl) Wt.opsT (j / 3) hi
  have hm : j % 3 = 0 ∨ j % 3 = 1 ∨ j % 3 = 2 := by omega
  rcases hm with hm | hm | hm
  · have e : j = j / 3 * 3 + 0 := by omega
    have := hf 0 (by decide)
    rw [← e] at this
    rw [show opsR[j]? = _ from this] at hv
    rw [show j = j / 3 * 3 by omega, ← Array.getElem?_toList, k0]; exact hv
  · have e : j = j / 3 * 3 + 1 := by omega
    have := hf 1 (by decide)
    rw [← e] at this
    rw [show opsR[j]? = _ from this] at hv
    rw [e, ← Array.getElem?_toList, k1]; exact hv
  · have e : j = j / 3 * 3 + 2 := by omega
    have := hf 2 (by decide)
    rw [← e] at this
    rw [show opsR[j]? = _ from this] at hv
    rw [e, ← Array.getElem?_toList, k2]; exact hv
end Go.Proofs.YthofehcchickeaaGreatDoor
