/- MSame, MLawTwice, MLawThere. -/
import Derived.Test.YtalkiggclckcdaaGreatDoorQ46
import Derived.Deep.LoopGhost
import Derived.Deep.MidRow
import Derived.Deep.RegionHeld3
namespace Go.Proofs.YtalkiggclckcdaaGreatDoor
open Go.RowKit
set_option linter.unusedVariables false
theorem neqN_run (x : Wt.Nd) (w : World) : (binOp .neq 37 (ndV x) (ndV x)).run Tryz.prog w = .ok (.bool false) w := by
  have h := eqN_run x x w
  have e : eqN x x = true := (eqN_iff x x).2 rfl
  rw [e] at h
  unfold ndV at h ⊢
  rw [run_eql_struct] at h
  rw [run_neq_struct]
  revert h
  generalize (Op.equalIn 10000 37 (.agg (nd20 x).toArray) (.agg (nd20 x).toArray)).run Tryz.prog w = r
  intro h
  cases r <;> simp_all [Result.andThen]
theorem neqN_exec (x : Wt.Nd) (w : World) {a : Operand → Value} {ex ey : Operand} (h1 : a ex = .agg (nd20 x).toArray) (h2 : a ey = .agg (nd20 x).toArray) {d : Option Nat} {ty : TypeId} {p : String} {af : Array Edge} {g : Option (Nat × Bool)} :
    (execOp a { dst := d, op := .binOp BinOp.neq 37 ex ey 37, type := ty, pos := p, after := af, guard := g }).run Tryz.prog w = .ok (.value (.bool false)) w := by
  unfold execOp
  simp only [h1, h2]
  have h3 := neqN_run x w
  unfold ndV at h3
  have h4 : (eqGuard .neq 37 ex ey (.agg (nd20 x).toArray) (.agg (nd20 x).toArray)).run Tryz.prog w = .ok () w := by kernel_rfl
  simp only [Sem.run_bind, h3, h4, Result.andThen_ok, Sem.run_pure]
set_option maxRecDepth 100000 in
set_option maxHeartbeats 4000000 in
theorem nsame_true (av1 av2 : Option Addr) (cap1 cap2 : Nat) (L : List Wt.Nd) (w : World) (h1 : RdN w av1 L) (h2 : RdN w av2 L) (hl : L.length ≤ 4000000) :
    Calls Tryz.prog 11 #[.slice av1 L.length cap1, .slice av2 L.length cap2] w fun e w' => e = .returned (.bool true) ∧ Below w.heap.size w w' := by
  have H1 : Hid (RdN w av1 L) := h1
  have H2 : Hid (RdN w av2 L) := h2
  obtain ⟨n, hn⟩ : ∃ n, L.length = n := ⟨_, rfl⟩
  rw [hn] at hl ⊢
  clear h1 h2
  go_enter Tryz.func11, Tryz.ntmps11
  go_wp2_with fail
  go_loopg [5] n (fun gk x wr => ∃ i : Nat, x = .int .i64 i ∧ gk = n - i ∧ i ≤ n ∧ Below w.heap.size w wr)
  case atStart => exact ⟨0, rfl, rfl, Nat.zero_le _, Below.refl _ _⟩
  case round =>
    obtain ⟨i, rfl, hg, hi, hb⟩ := hrel
    by_cases hlt : i < n
    · have hli : (i : Int) < (n : Int) := by omega
      have hi0 : (0 : Int) ≤ (i : Int) := by omega
      have hwi : IntKind.i64.wrap ((i : Int) + 1) = (i : Int) + 1 := by rw [IntKind.wrap_i64]; omega
      obtain ⟨b1, o1, rfl, c1⟩ := RdN.below H1.out hb i (by omega)
      obtain ⟨b2, o2, rfl, c2⟩ := RdN.below H2.out hb i (by omega)
      generalize L[i] = x at c1 c2
      go_upto_region 6 with fail
      refine wp_region_held_drew (S := fun W => W.rangeAt b1 (o1 + i * 20) (nd20 x) ∧ W.rangeAt b2 (o2 + i * 20) (nd20 x)) (by kernel_rfl) ⟨c1, c2⟩ (fun hHeld => ?_)
      refine wpAnyH_take (i := 0) (oi := { dst := some 17, op := .move (.tmp 0), type := 23, pos := "law.go:21", after := #[], guard := none }) (v := ?_) rfl (by kernel_rfl) (by kernel_rfl) (by kernel_rfl) (fun _ _ _ h => h) (Or.inl ⟨by rfl, ?_⟩) (by assumption) ?_
      rotate_left; (intro w hSw; (try dsimp only at hSw); go_simp; (try with_reducible rfl)); try simp only [Act.put, lA, lZ, lS]
      refine wpAnyH_take (i := 1) (oi := { dst := some 18, op := .move (.tmp 5), type := 3, pos := "law.go:21", after := #[], guard := none }) (v := ?_) rfl (by kernel_rfl) (by kernel_rfl) (by kernel_rfl) (fun _ _ _ h => h) (Or.inl ⟨by rfl, ?_⟩) (by assumption) ?_
      rotate_left; (intro w hSw; (try dsimp only at hSw); go_simp; (try with_reducible rfl)); try simp only [Act.put, lA, lZ, lS]
      refine wpAnyH_take (i := 2) (oi := { dst := some 19, op := .indexAddr 23 (.tmp 17) (.tmp 18), type := 0, pos := "law.go:21", after := #[⟨0, .data⟩, ⟨1, .data⟩], guard := none }) (v := ?_) rfl (by kernel_rfl) (by kernel_rfl) (by kernel_rfl) (fun _ _ _ h => h) (Or.inl ⟨by rfl, ?_⟩) (by assumption) ?_
      rotate_left; (intro w hSw; (try dsimp only at hSw); go_simp; (try with_reducible rfl)); try simp only [Act.put, lA, lZ, lS]
      refine wpAnyH_take (i := 3) (oi := { dst := some 20, op := .load 37 (.tmp 19), type := 37, pos := "law.go:21", after := #[⟨2, .data⟩], guard := none }) (v := .agg (nd20 x).toArray) rfl (by kernel_rfl) (by kernel_rfl) (by kernel_rfl) (fun _ _ _ h => h) (yieldsIf_load_mid (by rfl) 37 (.tmp 19) rfl b1 (o1 + i * 20) rfl (nd20 x) _ (fun _ h => h.1) Tryz.underlying37 rfl (by kernel_rfl)) (by assumption) ?_
      try simp only [Act.put, lA, lZ, lS]
      refine wpAnyH_take (i := 4) (oi := { dst := some 21, op := .move (.tmp 1), type := 23, pos := "law.go:21", after := #[], guard := none }) (v := ?_) rfl (by kernel_rfl) (by kernel_rfl) (by kernel_rfl) (fun _ _ _ h => h) (Or.inl ⟨by rfl, ?_⟩) (by assumption) ?_
      rotate_left; (intro w hSw; (try dsimp only at hSw); go_simp; (try with_reducible rfl)); try simp only [Act.put, lA, lZ, lS]
      refine wpAnyH_take (i := 5) (oi := { dst := some 22, op := .move (.tmp 5), type := 3, pos := "law.go:21", after := #[], guard := none }) (v := ?_) rfl (by kernel_rfl) (by kernel_rfl) (by kernel_rfl) (fun _ _ _ h => h) (Or.inl ⟨by rfl, ?_⟩) (by assumption) ?_
      rotate_left; (intro w hSw; (try dsimp only at hSw); go_simp; (try with_reducible rfl)); try simp only [Act.put, lA, lZ, lS]
      refine wpAnyH_take (i := 6) (oi := { dst := some 23, op := .indexAddr 23 (.tmp 21) (.tmp 22), type := 0, pos := "law.go:21", after := #[⟨4, .data⟩, ⟨5, .data⟩], guard := none }) (v := ?_) rfl (by kernel_rfl) (by kernel_rfl) (by kernel_rfl) (fun _ _ _ h => h) (Or.inl ⟨by rfl, ?_⟩) (by assumption) ?_
      rotate_left; (intro w hSw; (try dsimp only at hSw); go_simp; (try with_reducible rfl)); try simp only [Act.put, lA, lZ, lS]
      refine wpAnyH_take (i := 7) (oi := { dst := some 24, op := .load 37 (.tmp 23), type := 37, pos := "law.go:21", after := #[⟨6, .data⟩], guard := none }) (v := .agg (nd20 x).toArray) rfl (by kernel_rfl) (by kernel_rfl) (by kernel_rfl) (fun _ _ _ h => h) (yieldsIf_load_mid (by rfl) 37 (.tmp 23) rfl b2 (o2 + i * 20) rfl (nd20 x) _ (fun _ h => h.2) Tryz.underlying37 rfl (by kernel_rfl)) (by assumption) ?_
      try simp only [Act.put, lA, lZ, lS]
      refine wpAnyH_take (i := 8) (oi := { dst := some 25, op := .binOp BinOp.neq 37 (.tmp 20) (.tmp 24) 37, type := 4, pos := "law.go:21", after := #[⟨3, .data⟩, ⟨7, .data⟩], guard := none }) (v := .bool false) rfl (by kernel_rfl) (by kernel_rfl) (by kernel_rfl) (fun _ _ _ h => h) (Or.inl ⟨by rfl, fun w _ => neqN_exec x w rfl rfl⟩) (by assumption) ?_
      try simp only [Act.put, lA, lZ, lS]
      refine wpAnyH_done (by kernel_rfl) ?_ _
      clear hHeld c1 c2
      have hbd := hb.drew
      go_wp2_with fail
      go_roundg (n - (i + 1))
      case rel => exact ⟨i + 1, by simp, rfl, by omega, hbd⟩
      case measure => omega
    · have hli : ¬ (i : Int) < (n : Int) := by omega
      go_wp2
      go_ret
      exact ⟨rfl, hb⟩
open Go.RowKit Go.Shelf
theorem wpList_copyM {ops : Array Oper} {rest : List Oper} {o : Oper} {a : Act} {Q : Exit → Act → World → Prop} (hw : Region.wanted o (yielded ops a.tmps) = true) (s x : Operand) (ho : o.op = .call { callee := .builtin .append, args := #[s, x], argTypes := #[23, 23] })
    (w : World) (hs : a.eval s = .slice (some ⟨w.heap.size, 0, none⟩) 0 0) (av : Option Addr) (L : List Wt.Nd) (n : Nat) (hn : n = L.length) (cap : Nat) (hx : a.eval x = .slice av n cap) (hr : RdN w av L) (hno : av = none → L.length = 0 ∧ cap = 0) (hl : True → L.length ≤ 799644820177)
    (h : ∀ v' w', OwnN w' w.heap.size v' L → Below w.heap.size w w' → wpList Tryz.prog ops Q rest (a.put o.dst v') w') : wpList Tryz.prog ops Q (o :: rest) a (w.alloc (.cells #[] 37)) := by
  subst hn
  exact wpList_copyN hw s x ho w hs av L cap hx hr hno hl h
def refN (n : Wt.Nd) : Bool := n.k == 2 || n.k == 3
def lostT (x y : Int) (l : List Wt.Nd) (i : Nat) : Bool := (l.take i).any fun n => refN n && (mvN x y n).k == 1
def fixT (l : List Wt.Nd) (i : Nat) : Bool := (l.take i).all fun n => !refN n || fixN n
theorem lostT_next {x y : Int} {l : List Wt.Nd} {i : Nat} {q : Wt.Nd} (h : i < l.length) (hq : l[i] = q) : lostT x y l (i + 1) = (lostT x y l i || (refN q && (mvN x y q).k == 1)) := by
  unfold lostT
  rw [List.take_add_one, List.getElem?_eq_getElem h, hq]
  simp
theorem fixT_next {l : List Wt.Nd} {i : Nat} {q : Wt.Nd} (h : i < l.length) (hq : l[i] = q) : fixT l (i + 1) = (fixT l i && (!refN q || fixN q)) := by
  unfold fixT
  rw [List.take_add_one, List.getElem?_eq_getElem h, hq]
  simp
theorem lostT_all {x y : Int} {l : List Wt.Nd} {i : Nat} (hi : l.length ≤ i) (h : lostT x y l i = false) (hr : ∀ n ∈ l, Wt.right n = true) : (l.map (mvN x y)).map (mvN (-x) (-y)) = l := by
  unfold lostT at h
  rw [List.take_of_length_le hi, List.any_eq_false] at h
  rw [List.map_map]
  have e : l.map (mvN (-x) (-y) ∘ mvN x y) = l.map id := by
    refine List.map_congr_left (fun n hn => ?_)
    refine mvN_back (hr n hn) ?_
    rcases mvN_k x y n with h1 | ⟨h1, h2⟩
    · exact h1
    · exfalso
      apply h n hn
      rw [h2]
      unfold refN
      rcases h1 with h1 | h1 <;> rw [h1] <;> rfl
  rw [e, List.map_id]
theorem fixT_all {l : List Wt.Nd} {i : Nat} (hi : l.length ≤ i) (h : fixT l i = true) (hr : ∀ n ∈ l, Wt.right n = true) (x y : Int) : l.map (mvN x y) = l := by
  unfold fixT at h
  rw [List.take_of_length_le hi, List.all_eq_true] at h
  have e : l.map (mvN x y) = l.map id := by
    refine List.map_congr_left (fun n hn => ?_)
    refine mvN_fix (hr n hn) (fun hk => ?_) x y
    have := h n hn
    rw [Bool.or_eq_true, Bool.not_eq_true'] at this
    rcases this with h1 | h1
    · unfold refN at h1
      rcases hk with hk | hk <;> rw [hk] at h1 <;> cases h1
    · exact h1
  rw [e, List.map_id]
theorem mvN_no {x y : Int} {n : Wt.Nd} (h : refN n = false) : mvN x y n = n := by
  unfold refN at h
  rw [Bool.or_eq_false_iff] at h
  unfold mvN
  rw [if_neg (by simpa using h.1), if_neg (by simpa using h.2)]
set_option maxRecDepth 100000 in
set_option maxHeartbeats 16000000 in
theorem mthere_main (b : ByteArray) (x y : Int) (w : World) (hE : Env w) (hk8 : 8 ≤ w.heap.size) (hs : b.size ≤ 9223372036854775807) :
    Calls Tryz.prog 3 #[.string b, .int .i64 x, .int .i64 y] w fun e w' => e = .returned (.bool true) ∧ Below w.heap.size w w' := by
  have A := mable_any w hE hk8
  have S := fun w hE hk8 => parse_any b w hE hs hk8
  cases hr : prsR b.data.toList with
  | inr q =>
    obtain ⟨c0, p⟩ := q
    rw [hr] at S
    simp only [PaPost] at S
    have hc := prsR_code hr
    have hci : (c0 != 0) = true := by simp [hc]
    clear hr hs
    go_enter Tryz.func3, Tryz.ntmps3
    go_wp2_with fail
    refine A.mono ?_
    rintro e w1 ⟨rfl, hb1⟩
    go_wp2_with fail
    refine (S w1 (hE.below hb1) (Nat.le_trans hk8 hb1.size)).mono ?_
    rintro e w2 ⟨rfl, hb2⟩
    have hB2 := below_end hb1 hb2
    go_wp2
    go_ret
    exact ⟨rfl, hB2⟩
  | inl l =>
    rw [hr] at S
    simp only [PaPost] at S
    obtain ⟨hf, hc⟩ := prsR_row hr
    obtain ⟨h256, d0, hone, -⟩ := check_zero hc
    have hpos : 0 < l.length := by have := one_loc _ _ _ _ hone; omega
    have H256 : True → l.length ≤ 256 := fun _ => h256
    have HF : Hid (∀ n ∈ l, Wt.FitN n) := hf
    have HC : Hid (Wt.check l = 0) := hc
    have HA : Hid (∀ n ∈ l, Wt.right n = true) := check_all hc
    clear hr hone h256 hf hc hs
    have hz : Hid (l.map (mvN 0 0) = l) := mvL_zero HC.out
    go_enter Tryz.func3, Tryz.ntmps3
    go_wp2_with fail
    refine A.mono ?_
    rintro e w1 ⟨rfl, hb1⟩
    go_wp2_with fail
    refine (S w1 (hE.below hb1) (Nat.le_trans hk8 hb1.size)).mono ?_
    rintro e w2 ⟨⟨v, rfl, hown⟩, hb2⟩
    have hB2 := below_end hb1 hb2
    obtain ⟨av, cap, rfl, hrd⟩ := hown.form
    clear A S hown hb1 hb2
    go_wp2_with (at_builtin; refine wpList_copyN (by rfl) (.tmp 30) (.tmp 31) (by rfl) w2 (by rfl) av (l) cap (by rfl) hrd (fun h => by obtain ⟨_, _, e, _⟩ := hrd 0 hpos; rw [h] at e; cases e) (fun _ => by have := H256 trivial; (try simp only [List.length_map]); omega) ?_)
    intro vc w3 ownc hb3
    obtain ⟨avc, capc, rfl, hrc⟩ := ownc.form
    have hB3 := below_end hB2 hb3
    have hr3 := hrd.below hb3
    have SH := mshift_ok avc capc l 0 0 w3 HF.out (hE.below hB3).1 hrc HC.out
    rw [hz.out] at SH
    clear ownc hb3 hrd hB2 hrc
    go_wp2_with fail
    refine SH.mono ?_
    rintro e w4 ⟨⟨v4, rfl, own4⟩, hb4⟩
    obtain ⟨avz, capz, rfl, hrz⟩ := own4.form
    have hB4 := below_end hB3 hb4
    have hrl4 := hr3.below hb4
    have M0 := nsame_true av avz cap capz l w4 hrl4 hrz (by have := H256 trivial; omega)
    clear SH own4 hb4 hB3 hr3
    go_wp2_with fail
    refine M0.mono ?_
    rintro e w5 ⟨rfl, hb5⟩
    have hB5 := below_end hB4 hb5
    have hrl := hrl4.below hb5
    clear M0 hb5 hB4 hrl4 hrz
    by_cases hx1 : x < -70000
    · go_wp2
      go_ret
      exact ⟨rfl, hB5⟩
    by_cases hx2 : 70000 < x
    · go_wp2
      go_ret
      exact ⟨rfl, hB5⟩
    by_cases hy1 : y < -70000
    · go_wp2
      go_ret
      exact ⟨rfl, hB5⟩
    by_cases hy2 : 70000 < y
    · go_wp2
      go_ret
      exact ⟨rfl, hB5⟩
    have hwx : IntKind.i64.wrap (-x) = -x := by rw [IntKind.wrap_i64]; omega
    have hwy : IntKind.i64.wrap (-y) = -y := by rw [IntKind.wrap_i64]; omega
    go_wp2_with (at_builtin; refine wpList_copyN (by rfl) (.tmp 59) (.tmp 60) (by rfl) w5 (by rfl) av (l) cap (by rfl) hrl (fun h => by obtain ⟨_, _, e, _⟩ := hrl 0 hpos; rw [h] at e; cases e) (fun _ => by have := H256 trivial; (try simp only [List.length_map]); omega) ?_)
    intro vd w6 ownd hb6
    obtain ⟨ave, cape, rfl, hre⟩ := ownd.form
    have hB6 := below_end hB5 hb6
    have hr6 := hrl.below hb6
    have SH := mshift_ok ave cape l x y w6 HF.out (hE.below hB6).1 hre HC.out
    clear ownd hb6 hre hrl hB5
    go_wp2_with fail
    refine SH.mono ?_
    rintro e w7 ⟨⟨v7, rfl, own7⟩, hb7⟩
    obtain ⟨av4, cap4, rfl, hr7⟩ := own7.form
    have hB := below_end hB6 hb7
    have HL : Hid (RdN w7 av l) := hr6.below hb7
    have HM : Hid (RdN w7 av4 (l.map (mvN x y))) := hr7
    rw [List.length_map]
    clear SH own7 hb7 hB6 hr6 hr7
    go_upto_region 17 with fail
    go_loopg [14, 15, 16] (l.length) (fun gk v14 v15 vv wr => ∃ (i : Nat) (lo fx : Bool), v14 = .bool lo ∧ v15 = .bool fx ∧ vv = .int .i64 i ∧ gk = l.length - i ∧ i ≤ l.length ∧ Hid (lostT x y l i = lo) ∧ Hid (fixT l i = fx) ∧ Hid (Below w7.heap.size w7 wr))
    case atStart => exact ⟨0, false, true, rfl, rfl, rfl, rfl, Nat.zero_le _, rfl, rfl, Below.refl _ _⟩
    case round =>
      obtain ⟨i, lo, fx, rfl, rfl, rfl, hg, hi, HLO, HFX, HB⟩ := hrel
      by_cases hlt : i < l.length
      · have hli : (i : Int) < (l.length : Int) := by omega
        have hi0 : (0 : Int) ≤ (i : Int) := by omega
        have hwi : IntKind.i64.wrap ((i : Int) + 1) = (i : Int) + 1 := by rw [IntKind.wrap_i64]; have := H256 trivial; omega
        obtain ⟨b1, o1, e1, c1⟩ := HM.out.below HB.out i (by rw [List.length_map]; exact hlt)
        obtain ⟨b2', o2, e2, c2⟩ := HL.out.below HB.out i hlt
        subst e1 e2
        rw [List.getElem_map] at c1
        obtain ⟨q, hq⟩ : ∃ q, l[i] = q := ⟨_, rfl⟩
        have HN1 := lostT_next (x := x) (y := y) hlt hq
        have HN2 := fixT_next hlt hq
        rw [HLO.out] at HN1
        rw [HFX.out] at HN2
        rw [hq] at c1 c2
        clear hq HLO HFX
        by_cases hk2 : q.k = 2 ∨ q.k = 3
        · have hrf : refN q = true := by unfold refN; rcases hk2 with h | h <;> rw [h] <;> rfl
          have z0 : wr.cell? ⟨b1, o1 + i * 20, none⟩ = some (.int .i64 (mvN x y q).k) := c1 0 _ rfl
          have k0 : wr.cell? ⟨b2', o2 + i * 20, none⟩ = some (.int .i64 q.k) := c2 0 _ rfl
          have k13 : wr.cell? ⟨b2', o2 + i * 20 + 13, none⟩ = some (.bool q.a.fr) := c2 13 _ rfl
          have k14 : wr.cell? ⟨b2', o2 + i * 20 + 14, none⟩ = some (.bool q.a.fc) := c2 14 _ rfl
          have k18 : wr.cell? ⟨b2', o2 + i * 20 + 18, none⟩ = some (.bool q.b.fr) := c2 18 _ rfl
          have k19 : wr.cell? ⟨b2', o2 + i * 20 + 19, none⟩ = some (.bool q.b.fc) := c2 19 _ rfl
          have HN1' : Hid (lostT x y l (i + 1) = (lo || ((mvN x y q).k == 1))) := by show _ = _; rw [HN1, hrf]; rfl
          have HN2' : Hid (fixT l (i + 1) = (fx && ((q.a.fr && q.a.fc) && ((q.k == 2) || (q.b.fr && q.b.fc))))) := by show _ = _; rw [HN2, hrf]; rfl
          clear c1 c2 HN1 HN2 hrf
          obtain ⟨z, hz1⟩ : ∃ z, (mvN x y q).k = z := ⟨_, rfl⟩
          rw [hz1] at z0 HN1'
          clear hz1
          generalize q.a.fr = f1 at *
          generalize q.a.fc = f2 at *
          generalize q.b.fr = f3 at *
          generalize q.b.fc = f4 at *
          obtain ⟨kq, hkq⟩ : ∃ k, q.k = k := ⟨_, rfl⟩
          rw [hkq] at k0 HN2' hk2
          clear hkq
          have hkc : (kq = 2 ∧ (kq != 2) = false ∧ (kq == 2) = true) ∨ (kq = 3 ∧ (kq != 2) = true ∧ (kq != 3) = false ∧ (kq == 2) = false) := by
            rcases hk2 with rfl | rfl
            · exact Or.inl ⟨rfl, rfl, rfl⟩
            · exact Or.inr ⟨rfl, rfl, rfl, rfl⟩
          clear hk2
          rcases hkc with ⟨rfl, q1, q2⟩ | ⟨rfl, q1, q2, q3⟩
          all_goals
            go_upto_region 22 with fail
            go_cut [14] (fun v wx => v = .bool (lo || (z == 1)) ∧ wr = wx)
            case first =>
              cases lo with
              | true =>
                go_wp2_with fail
                go_meet
                case rel => exact ⟨rfl, rfl⟩
              | false =>
                go_wp2_with fail
                go_meet
                case rel => exact ⟨by simp, rfl⟩
            case rest =>
              obtain ⟨rfl, rfl⟩ := hcut
              go_upto_region 23 with fail
              refine last_of fun K9 hK9 => ?_
              go_cut [15] (fun v wx => ∃ f, v = .bool f ∧ Hid (fixT l (i + 1) = f) ∧ wr = wx)
              case first =>
                cases fx
                · go_wp2_with fail
                  go_meet
                  case rel => exact ⟨_, rfl, by show _ = _; rw [HN2'.out]; simp, rfl⟩
                · cases f1
                  · go_wp2_with fail
                    go_meet
                    case rel => exact ⟨_, rfl, by show _ = _; rw [HN2'.out]; simp, rfl⟩
                  · cases f2
                    · go_wp2_with fail
                      go_meet
                      case rel => exact ⟨_, rfl, by show _ = _; rw [HN2'.out]; simp, rfl⟩
                    · cases f3
                      · go_wp2_with fail
                        go_meet
                        case rel => exact ⟨_, rfl, by show _ = _; rw [HN2'.out]; simp, rfl⟩
                      · go_wp2_with fail
                        go_meet
                        case rel => exact ⟨_, rfl, by show _ = _; rw [HN2'.out]; simp, rfl⟩
              case rest =>
                obtain ⟨f, rfl, HF2, rfl⟩ := hcut
                clear HN2' z0 k0 k13 k14 k18 k19
                refine hK9 _ _ ?_
                go_wp2_with fail
                go_roundg (l.length - (i + 1))
                case rel => exact ⟨i + 1, (lo || (z == 1)), f, rfl, rfl, by simp, rfl, by omega, HN1', HF2, HB⟩
                case measure => omega
        · have hrf : refN q = false := by
            unfold refN
            rw [Bool.or_eq_false_iff]
            exact ⟨by simpa using fun h => hk2 (Or.inl h), by simpa using fun h => hk2 (Or.inr h)⟩
          rw [mvN_no hrf] at c1
          have HN1' : Hid (lostT x y l (i + 1) = lo) := by show _ = _; rw [HN1, hrf]; simp
          have HN2' : Hid (fixT l (i + 1) = fx) := by show _ = _; rw [HN2, hrf]; simp
          have k0 : wr.cell? ⟨b2', o2 + i * 20, none⟩ = some (.int .i64 q.k) := c2 0 _ rfl
          have hn2 : (q.k != 2) = true := by simpa using fun h => hk2 (Or.inl h)
          have hn3 : (q.k != 3) = true := by simpa using fun h => hk2 (Or.inr h)
          have hHB : Hid (Below w7.heap.size w7 wr.drew) := HB.out.drew
          clear HN1 HN2 hrf hk2 HB
          go_upto_region 20 with fail
          clear k0 hn2 hn3
          refine wp_region_held_drew (S := fun W => W.rangeAt b1 (o1 + i * 20) (nd20 q) ∧ W.rangeAt b2' (o2 + i * 20) (nd20 q)) (by kernel_rfl) ⟨c1, c2⟩ (fun hHeld => ?_)
          refine wpAnyH_take (i := 0) (oi := { dst := some 96, op := .move (.tmp 12), type := 23, pos := "outright.go:35", after := #[], guard := none }) (v := ?_) rfl (by kernel_rfl) (by kernel_rfl) (by kernel_rfl) (fun _ _ _ h => h) (Or.inl ⟨by rfl, ?_⟩) (by assumption) ?_
          rotate_left; (intro w hSw; (try dsimp only at hSw); go_simp; (try with_reducible rfl)); try simp only [Act.put, lA, lZ, lS]
          refine wpAnyH_take (i := 1) (oi := { dst := some 97, op := .move (.tmp 16), type := 3, pos := "outright.go:35", after := #[], guard := none }) (v := ?_) rfl (by kernel_rfl) (by kernel_rfl) (by kernel_rfl) (fun _ _ _ h => h) (Or.inl ⟨by rfl, ?_⟩) (by assumption) ?_
          rotate_left; (intro w hSw; (try dsimp only at hSw); go_simp; (try with_reducible rfl)); try simp only [Act.put, lA, lZ, lS]
          refine wpAnyH_take (i := 2) (oi := { dst := some 98, op := .indexAddr 23 (.tmp 96) (.tmp 97), type := 0, pos := "outright.go:35", after := #[⟨0, .data⟩, ⟨1, .data⟩], guard := none }) (v := ?_) rfl (by kernel_rfl) (by kernel_rfl) (by kernel_rfl) (fun _ _ _ h => h) (Or.inl ⟨by rfl, ?_⟩) (by assumption) ?_
          rotate_left; (intro w hSw; (try dsimp only at hSw); go_simp; (try with_reducible rfl)); try simp only [Act.put, lA, lZ, lS]
          refine wpAnyH_take (i := 3) (oi := { dst := some 99, op := .load 37 (.tmp 98), type := 37, pos := "outright.go:35", after := #[⟨2, .data⟩], guard := none }) (v := .agg (nd20 q).toArray) rfl (by kernel_rfl) (by kernel_rfl) (by kernel_rfl) (fun _ _ _ h => h) (yieldsIf_load_mid (by rfl) 37 (.tmp 98) rfl b1 (o1 + i * 20) rfl (nd20 q) _ (fun _ h => h.1) Tryz.underlying37 rfl (by kernel_rfl)) (by assumption) ?_
          try simp only [Act.put, lA, lZ, lS]
          refine wpAnyH_take (i := 4) (oi := { dst := some 100, op := .move (.tmp 7), type := 23, pos := "outright.go:35", after := #[], guard := none }) (v := ?_) rfl (by kernel_rfl) (by kernel_rfl) (by kernel_rfl) (fun _ _ _ h => h) (Or.inl ⟨by rfl, ?_⟩) (by assumption) ?_
          rotate_left; (intro w hSw; (try dsimp only at hSw); go_simp; (try with_reducible rfl)); try simp only [Act.put, lA, lZ, lS]
          refine wpAnyH_take (i := 5) (oi := { dst := some 101, op := .move (.tmp 16), type := 3, pos := "outright.go:35", after := #[], guard := none }) (v := ?_) rfl (by kernel_rfl) (by kernel_rfl) (by kernel_rfl) (fun _ _ _ h => h) (Or.inl ⟨by rfl, ?_⟩) (by assumption) ?_
          rotate_left; (intro w hSw; (try dsimp only at hSw); go_simp; (try with_reducible rfl)); try simp only [Act.put, lA, lZ, lS]
          refine wpAnyH_take (i := 6) (oi := { dst := some 102, op := .indexAddr 23 (.tmp 100) (.tmp 101), type := 0, pos := "outright.go:35", after := #[⟨4, .data⟩, ⟨5, .data⟩], guard := none }) (v := ?_) rfl (by kernel_rfl) (by kernel_rfl) (by kernel_rfl) (fun _ _ _ h => h) (Or.inl ⟨by rfl, ?_⟩) (by assumption) ?_
          rotate_left; (intro w hSw; (try dsimp only at hSw); go_simp; (try with_reducible rfl)); try simp only [Act.put, lA, lZ, lS]
          refine wpAnyH_take (i := 7) (oi := { dst := some 103, op := .load 37 (.tmp 102), type := 37, pos := "outright.go:35", after := #[⟨6, .data⟩], guard := none }) (v := .agg (nd20 q).toArray) rfl (by kernel_rfl) (by kernel_rfl) (by kernel_rfl) (fun _ _ _ h => h) (yieldsIf_load_mid (by rfl) 37 (.tmp 102) rfl b2' (o2 + i * 20) rfl (nd20 q) _ (fun _ h => h.2) Tryz.underlying37 rfl (by kernel_rfl)) (by assumption) ?_
          try simp only [Act.put, lA, lZ, lS]
          refine wpAnyH_take (i := 8) (oi := { dst := some 104, op := .binOp BinOp.neq 37 (.tmp 99) (.tmp 103) 37, type := 4, pos := "outright.go:35", after := #[⟨3, .data⟩, ⟨7, .data⟩], guard := none }) (v := .bool false) rfl (by kernel_rfl) (by kernel_rfl) (by kernel_rfl) (fun _ _ _ h => h) (Or.inl ⟨by rfl, fun w _ => neqN_exec q w rfl rfl⟩) (by assumption) ?_
          try simp only [Act.put, lA, lZ, lS]
          refine wpAnyH_done (by kernel_rfl) ?_ _
          clear hHeld c1 c2
          go_wp2_with fail
          go_roundg (l.length - (i + 1))
          case rel => exact ⟨i + 1, lo, fx, rfl, rfl, by simp, rfl, by omega, HN1', HN2', hHB⟩
          case measure => omega
      · have hli : ¬ (i : Int) < (l.length : Int) := by omega
        have hBr := below_end hB HB.out
        have hrm := HM.out.below HB.out
        have hrl := HL.out.below HB.out
        clear HM HL HB hB
        go_upto_region 24 with fail
        cases lo with
        | false =>
          cases fx with
          | false =>
            have hmt : Hid ((l.map (mvN x y)).map (mvN (-x) (-y)) = l) := lostT_all (by omega) HLO.out HA.out
            have HPM : 0 < (l.map (mvN x y)).length := by rw [List.length_map]; exact hpos
            clear HLO HFX
            go_wp2_with (at_builtin; refine wpList_copyM (by rfl) (.tmp 156) (.tmp 157) (by rfl) wr (by rfl) av4 (l.map (mvN x y)) l.length (List.length_map _).symm cap4 (by rfl) hrm (fun h => by obtain ⟨_, _, e, _⟩ := hrm 0 HPM; rw [h] at e; cases e) (fun _ => by have := H256 trivial; (try simp only [List.length_map]); omega) ?_)
            intro vd w5 ownd hb5
            obtain ⟨avc, capc, rfl, hrc⟩ := ownd.form
            have hB5 := below_end hBr hb5
            have hrl5 := hrl.below hb5
            have hrm5 := hrm.below hb5
            have SH2 := mshift_ok avc capc (l.map (mvN x y)) (-x) (-y) w5 (fun n hn => by obtain ⟨m, hm, rfl⟩ := List.mem_map.1 hn; exact fit_mv (HF.out m hm) _ _) (hE.below hB5).1 hrc (check_mv HC.out x y)
            rw [List.length_map] at SH2 ⊢
            clear ownd hb5 hrc hrm hrl hBr
            go_wp2_with fail
            refine SH2.mono ?_
            rintro e w6 ⟨⟨v6, rfl, own6⟩, hb6⟩
            rw [hmt.out] at own6
            obtain ⟨av6, cap6, rfl, hr6⟩ := own6.form
            have hB6 := below_end hB5 hb6
            have hrl6 := hrl5.below hb6
            have hrm6 := hrm5.below hb6
            clear SH2 own6 hb6 hB5 hrl5 hrm5
            have M1 := nsame_true av6 av cap6 cap l w6 hr6 hrl6 (by have := H256 trivial; omega)
            go_wp2_with fail
            refine M1.mono ?_
            rintro e w7 ⟨rfl, hb7⟩
            have hB7 := below_end hB6 hb7
            have hrm7 := hrm6.below hb7
            have hrl7 := hrl6.below hb7
            go_wp2
            go_ret
            exact ⟨by simp, hB7⟩
          | true =>
            have hmt : Hid ((l.map (mvN x y)).map (mvN (-x) (-y)) = l) := lostT_all (by omega) HLO.out HA.out
            have hfx : Hid (l.map (mvN x y) = l) := fixT_all (by omega) HFX.out HA.out x y
            have HPM : 0 < (l.map (mvN x y)).length := by rw [List.length_map]; exact hpos
            clear HLO HFX
            go_wp2_with (at_builtin; refine wpList_copyM (by rfl) (.tmp 156) (.tmp 157) (by rfl) wr (by rfl) av4 (l.map (mvN x y)) l.length (List.length_map _).symm cap4 (by rfl) hrm (fun h => by obtain ⟨_, _, e, _⟩ := hrm 0 HPM; rw [h] at e; cases e) (fun _ => by have := H256 trivial; (try simp only [List.length_map]); omega) ?_)
            intro vd w5 ownd hb5
            obtain ⟨avc, capc, rfl, hrc⟩ := ownd.form
            have hB5 := below_end hBr hb5
            have hrl5 := hrl.below hb5
            have hrm5 := hrm.below hb5
            have SH2 := mshift_ok avc capc (l.map (mvN x y)) (-x) (-y) w5 (fun n hn => by obtain ⟨m, hm, rfl⟩ := List.mem_map.1 hn; exact fit_mv (HF.out m hm) _ _) (hE.below hB5).1 hrc (check_mv HC.out x y)
            rw [List.length_map] at SH2 ⊢
            clear ownd hb5 hrc hrm hrl hBr
            go_wp2_with fail
            refine SH2.mono ?_
            rintro e w6 ⟨⟨v6, rfl, own6⟩, hb6⟩
            rw [hmt.out] at own6
            obtain ⟨av6, cap6, rfl, hr6⟩ := own6.form
            have hB6 := below_end hB5 hb6
            have hrl6 := hrl5.below hb6
            have hrm6 := hrm5.below hb6
            rw [hfx.out] at hrm6
            clear SH2 own6 hb6 hB5 hrl5 hrm5
            have M1 := nsame_true av6 av cap6 cap l w6 hr6 hrl6 (by have := H256 trivial; omega)
            go_wp2_with fail
            refine M1.mono ?_
            rintro e w7 ⟨rfl, hb7⟩
            have hB7 := below_end hB6 hb7
            have hrm7 := hrm6.below hb7
            have hrl7 := hrl6.below hb7
            have M2 := nsame_true av4 av cap4 cap l w7 hrm7 hrl7 (by have := H256 trivial; omega)
            go_wp2_with fail
            refine M2.mono ?_
            rintro e w8 ⟨rfl, hb8⟩
            have hB8 := below_end hB7 hb8
            go_wp2
            go_ret
            exact ⟨by simp, hB8⟩
        | true =>
          cases fx with
          | false =>
            have HPM : 0 < (l.map (mvN x y)).length := by rw [List.length_map]; exact hpos
            clear HLO HFX
            go_wp2_with (at_builtin; refine wpList_copyM (by rfl) (.tmp 156) (.tmp 157) (by rfl) wr (by rfl) av4 (l.map (mvN x y)) l.length (List.length_map _).symm cap4 (by rfl) hrm (fun h => by obtain ⟨_, _, e, _⟩ := hrm 0 HPM; rw [h] at e; cases e) (fun _ => by have := H256 trivial; (try simp only [List.length_map]); omega) ?_)
            intro vd w5 ownd hb5
            obtain ⟨avc, capc, rfl, hrc⟩ := ownd.form
            have hB5 := below_end hBr hb5
            have hrl5 := hrl.below hb5
            have hrm5 := hrm.below hb5
            have SH2 := mshift_ok avc capc (l.map (mvN x y)) (-x) (-y) w5 (fun n hn => by obtain ⟨m, hm, rfl⟩ := List.mem_map.1 hn; exact fit_mv (HF.out m hm) _ _) (hE.below hB5).1 hrc (check_mv HC.out x y)
            rw [List.length_map] at SH2 ⊢
            clear ownd hb5 hrc hrm hrl hBr
            go_wp2_with fail
            refine SH2.mono ?_
            rintro e w6 ⟨⟨v6, rfl, own6⟩, hb6⟩
            obtain ⟨av6, cap6, rfl, hr6⟩ := own6.form
            have hB6 := below_end hB5 hb6
            have hrl6 := hrl5.below hb6
            have hrm6 := hrm5.below hb6
            rw [List.length_map, List.length_map]
            clear SH2 own6 hb6 hB5 hrl5 hrm5
            have hB7 := hB6
            have hrm7 := hrm6
            have hrl7 := hrl6
            go_wp2
            go_ret
            exact ⟨by simp, hB7⟩
          | true =>
            have hfx : Hid (l.map (mvN x y) = l) := fixT_all (by omega) HFX.out HA.out x y
            have HPM : 0 < (l.map (mvN x y)).length := by rw [List.length_map]; exact hpos
            clear HLO HFX
            go_wp2_with (at_builtin; refine wpList_copyM (by rfl) (.tmp 156) (.tmp 157) (by rfl) wr (by rfl) av4 (l.map (mvN x y)) l.length (List.length_map _).symm cap4 (by rfl) hrm (fun h => by obtain ⟨_, _, e, _⟩ := hrm 0 HPM; rw [h] at e; cases e) (fun _ => by have := H256 trivial; (try simp only [List.length_map]); omega) ?_)
            intro vd w5 ownd hb5
            obtain ⟨avc, capc, rfl, hrc⟩ := ownd.form
            have hB5 := below_end hBr hb5
            have hrl5 := hrl.below hb5
            have hrm5 := hrm.below hb5
            have SH2 := mshift_ok avc capc (l.map (mvN x y)) (-x) (-y) w5 (fun n hn => by obtain ⟨m, hm, rfl⟩ := List.mem_map.1 hn; exact fit_mv (HF.out m hm) _ _) (hE.below hB5).1 hrc (check_mv HC.out x y)
            rw [List.length_map] at SH2 ⊢
            clear ownd hb5 hrc hrm hrl hBr
            go_wp2_with fail
            refine SH2.mono ?_
            rintro e w6 ⟨⟨v6, rfl, own6⟩, hb6⟩
            obtain ⟨av6, cap6, rfl, hr6⟩ := own6.form
            have hB6 := below_end hB5 hb6
            have hrl6 := hrl5.below hb6
            have hrm6 := hrm5.below hb6
            rw [List.length_map, List.length_map]
            rw [hfx.out] at hrm6
            clear SH2 own6 hb6 hB5 hrl5 hrm5
            have hB7 := hB6
            have hrm7 := hrm6
            have hrl7 := hrl6
            have M2 := nsame_true av4 av cap4 cap l w6 hrm7 hrl7 (by have := H256 trivial; omega)
            go_wp2_with fail
            refine M2.mono ?_
            rintro e w8 ⟨rfl, hb8⟩
            have hB8 := below_end hB7 hb8
            go_wp2
            go_ret
            exact ⟨by simp, hB8⟩
end Go.Proofs.YtalkiggclckcdaaGreatDoor
