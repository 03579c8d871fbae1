/- TKids, TLent, TRefA. -/
import Derived.Test.YtlggnpohhahdlaaGreatDoorQ36
import Derived.OwnWalk
import Derived.Laws.OwnMore
import Derived.Deep.LoopGhost
import Derived.BigQuiet
namespace Go.Proofs.YtlggnpohhahdlaaGreatDoor
open Go.RowKit
set_option linter.unusedVariables false
def starts (f : Nat) : Nat → Nat → List Wt.Nd → List Nat
  | 0, _, _ => []
  | k + 1, p, l => p :: (match Wt.one f l with | some (s, _) => starts f k (p + s) (l.drop s) | none => [])
def kidsP (L : List Wt.Nd) (i : Nat) : List Nat := match L.drop i with
  | [] => []
  | x :: r => starts (L.length + 1) (Wt.parts x).toNat (i + 1) r
def intC (ks : List Nat) : List Value := ks.map fun (k : Nat) => .int .i64 (k : Int)
def OwnI (w : World) (B : Nat) (v : Value) (ks : List Nat) : Prop := w.ownsRow B 3 1 v ks.length (intC ks)
theorem OwnI.below {w w' : World} {B : Nat} {v : Value} {ks : List Nat} (h : OwnI w B v ks) (hb : Below w.heap.size w w') : OwnI w' B v ks :=
  World.ownsRow.kept h (row := none) ⟨hb.os, hb.tape, hb.output, hb.size, fun k hk _ => hb.block k hk⟩ (by cases v.ownBlock <;> simp)
theorem intInfo : (Tryz.prog.info? 3).map (fun i => (i.zero, i.size, i.bytes)) = some (some (.int .i64 0), 1, 8) := by kernel_rfl
set_option maxRecDepth 100000 in
set_option maxHeartbeats 1600000 in
theorem kids_none (av : Option Addr) (cap : Nat) (L : List Wt.Nd) (i : Int) (w : World) (hL : L.length ≤ 9223372036854775807) (hF : ∀ x ∈ L, Wt.FitN x) (hO : OpsAt w) (hr : RdN w av L) (h : ¬ (0 ≤ i ∧ i < L.length ∧ Wt.check L = 0)) :
    Calls Tryz.prog 17 #[.slice av L.length cap, .int .i64 i] w fun e w' => e = .returned (.slice none 0 0) ∧ Below w.heap.size w w' := by
  have CK := check_any av cap L w hL hF hO hr
  by_cases h0 : i < 0
  · go_enter Tryz.func17, Tryz.ntmps17
    go_wp2
    go_ret
    exact ⟨rfl, Below.refl _ _⟩
  by_cases h1 : (L.length : Int) ≤ i
  · go_enter Tryz.func17, Tryz.ntmps17
    go_wp2
    go_ret
    exact ⟨rfl, Below.refl _ _⟩
  have h2 : ¬ Wt.check L = 0 := fun e => h ⟨by omega, by omega, e⟩
  generalize Wt.check L = ck at *
  have hci : (ck != 0) = true := by simp [h2]
  go_enter Tryz.func17, Tryz.ntmps17
  go_wp2_with fail
  refine CK.mono ?_
  rintro e w1 ⟨rfl, hb⟩
  go_wp2
  go_ret
  exact ⟨rfl, hb⟩
set_option maxRecDepth 100000 in
set_option maxHeartbeats 4000000 in
theorem kids_some (av : Option Addr) (cap : Nat) (L : List Wt.Nd) (i : Nat) (w : World) (hF : ∀ x ∈ L, Wt.FitN x) (hO : OpsAt w) (hr : RdN w av L) (hi : i < L.length) (hc : Wt.check L = 0) :
    Calls Tryz.prog 17 #[.slice av L.length cap, .int .i64 i] w fun e w' => ∃ v, e = .returned v ∧ OwnI w' w.heap.size v (kidsP L i) ∧ Below w.heap.size w w' := by
  obtain ⟨h256, d, hone, hd⟩ := check_zero hc
  have CK := check_any av cap L w (by omega) hF hO hr
  rw [hc] at CK
  have hdr := List.drop_eq_getElem_cons hi
  obtain ⟨s', d', hs, hle, hdl⟩ := one_subs _ _ _ _ hone i hi
  rw [hdr] at hs
  obtain ⟨hxr, a, b, hm, rfl, rfl⟩ := one_node hs
  obtain ⟨hp0, hp30⟩ := Wt.parts_le hxr
  unfold kidsP
  rw [hdr]
  simp only
  obtain ⟨bb, off, rfl, hx⟩ := hr i hi
  have D := fun w => tparts_any (L[i]) w
  generalize L[i] = x at *
  obtain ⟨n, hn⟩ : ∃ n : Nat, (Wt.parts x).toNat = n := ⟨_, rfl⟩
  have hnn : Wt.parts x = (n : Int) := by omega
  rw [hn] at hm ⊢
  rw [hnn] at D
  have hn30 : n ≤ 30 := by omega
  have M := fun p w hp hO hr => meas_any (some ⟨bb, off, none⟩) cap L h256 hF (L.length + 1) (by omega) p w (by omega) hp hO hr
  obtain ⟨KS, hKS⟩ : ∃ KS, KS = starts (L.length + 1) n (i + 1) (L.drop (i + 1)) := ⟨_, rfl⟩
  rw [← hKS]
  have HK : Hid (KS = [] ++ starts (L.length + 1) (n - 0) (i + 1) (L.drop (i + 1))) := hKS
  have HR : Hid (RdN w (some ⟨bb, off, none⟩) L) := hr
  have hi0 : ¬ (i : Int) < 0 := by omega
  have hi1 : ¬ (L.length : Int) ≤ (i : Int) := by omega
  obtain ⟨i0, hii, hz0, hz1, hz2⟩ := info_parts intInfo
  clear hr hKS hdr hs hone hc hxr hp0 hp30 hn hnn
  go_enter Tryz.func17, Tryz.ntmps17
  go_wp2_with fail
  refine CK.mono ?_
  rintro e w1 ⟨rfl, hb⟩
  have hx1 : w1.rangeAt bb (off + i * 20) (nd20 x) := fun j v hv => cell_below hb (hx j v hv)
  go_wp2_with ((with_reducible refine wpList_load_mid (cs := nd20 x) ?_ 45 (.tmp 24) ?_ bb (off + i * 20) ?_ _ ?_ Tryz.underlying45 ?_ ?_ ?_); rfl; rfl; rfl; exact hx1; rfl; kernel_rfl)
  refine (D _).mono ?_
  rintro e w2 ⟨rfl, hb2⟩
  have hB2 := below_end hb hb2
  clear CK D hx hx1 hb hb2
  go_wp2_with fail
  go_loopg [5, 6, 27] n (fun gk x y z wr => ∃ (j p c d : Nat) (dn : List Nat), z = .int .i64 j ∧ y = .int .i64 p ∧ gk = n - j ∧ j ≤ n ∧ dn.length = j ∧ Hid (KS = dn ++ starts (L.length + 1) (n - j) p (L.drop p)) ∧ Hid (OwnI wr w.heap.size x dn) ∧ Hid (Wt.many (Wt.one (L.length + 1)) (n - j) (L.drop p) = some (c, d)) ∧ p + c ≤ L.length ∧ Below w.heap.size w wr)
  case atStart =>
    exact ⟨0, i + 1, a, b, [], rfl, by simp, rfl, Nat.zero_le _, rfl, HK, World.ownsRow_nil _ _ _ _, hm, by omega, hB2⟩
  case round =>
    obtain ⟨j, p, c, d1, dn, rfl, rfl, hg, hj, hdn, H1, H2, H3, hpc, hB⟩ := hrel
    clear HK hB2 hm
    by_cases hlt : j < n
    · have hli : (j : Int) < (n : Int) := by omega
      obtain ⟨m, hmn⟩ : ∃ m, n - j = m + 1 := ⟨n - j - 1, by omega⟩
      have hm' : n - (j + 1) = m := by omega
      rw [hmn] at H1 H3
      have H3' := H3.out
      simp only [Wt.many] at H3'
      cases h1 : Wt.one (L.length + 1) (L.drop p) with
      | none => rw [h1] at H3'; cases H3'
      | some q =>
        obtain ⟨a1, b1⟩ := q
        rw [h1] at H3'
        simp only at H3'
        cases h2 : Wt.many (Wt.one (L.length + 1)) m ((L.drop p).drop a1) with
        | none => rw [h2] at H3'; cases H3'
        | some q2 =>
          obtain ⟨a2, b2⟩ := q2
          rw [h2] at H3'
          simp only [Option.some.injEq, Prod.mk.injEq] at H3'
          obtain ⟨rfl, rfl⟩ := H3'
          have H1' := H1.out
          simp only [starts, h1] at H1'
          have E : Hid (KS = (dn ++ [p]) ++ starts (L.length + 1) (n - (j + 1)) (p + a1) (L.drop (p + a1))) := by
            show KS = _
            rw [H1', hm', List.drop_drop]; simp
          rw [List.drop_drop] at h2
          have own := H2.out
          have hsz := hB.size
          have news : ∀ jj u, [Value.int .i64 (p : Int)][jj]? = some u → (wr.alloc (.cells #[.int .i64 (p : Int)] 3)).cell? ((⟨wr.heap.size, 0, none⟩ : Addr).add jj) = some u := by
            intro jj u hj
            cases jj with
            | zero => simp at hj; subst hj; simp [Addr.add, go_sem]
            | succ jj => simp at hj
          have hic : (intC dn).length = dn.length := by simp [intC]
          go_wp2_with (at_builtin; refine wpList_append_own _ rfl _ _ 34 rfl w.heap.size 3 i0 (.int .i64 0) 1 8 Tryz.underlying34 hii hz0 hz1 hz2 rfl (by decide) _ _ _ rfl (World.ownsRow.alloc own _) ⟨wr.heap.size, 0, none⟩ 1 1 [.int .i64 (p : Int)] rfl rfl news (by intro u hu; simp at hu; subst hu; rfl) (by unfold maxLen; omega) (by omega) (by simp; omega) ?_)
          intro v2 w2 own2 hgrow _
          have hB2 : Below w.heap.size w w2 := (ball hB (.cells #[.int .i64 (p : Int)] 3)).grown hgrow (by simp only [World.size_alloc]; omega) (fun k hk => (own.lt k hk).1)
          have own2' : OwnI w2 w.heap.size v2 (dn ++ [p]) := by
            unfold OwnI
            have e : intC (dn ++ [p]) = intC dn ++ [.int .i64 (p : Int)] := by simp [intC]
            rw [e, List.length_append, hdn]; exact own2
          have MM := M p w2 (by omega) (hO.below hB2) (HR.out.below hB2)
          rw [h1] at MM
          simp only [MP] at MM
          clear own2 own H1 H1' H2 H3 news
          go_wp2_with fail
          refine MM.mono ?_
          rintro e w3 ⟨rfl, hb3⟩
          have own3 : OwnI w3 w.heap.size v2 (dn ++ [p]) := own2'.below hb3
          have hB3 := below_end hB2 hb3
          clear MM hb3 own2' hB2
          go_wp2_with fail
          go_roundg (n - (j + 1))
          case rel => exact ⟨j + 1, p + a1, a2, b2, dn ++ [p], by simp, rfl, rfl, hlt, by simp [hdn], E, own3, by show _ = _; rw [hm']; exact h2, by omega, hB3⟩
          case measure => omega
    · have hli : ¬ (j : Int) < (n : Int) := by omega
      have hjn : n - j = 0 := by omega
      rw [hjn] at H1
      have H1' := H1.out
      simp only [starts, List.append_nil] at H1'
      go_wp2
      go_ret
      exact ⟨_, rfl, by first | exact H2.out | (rw [H1']; exact H2.out), hB⟩
open Go.RowKit Go.Shelf
def mkN (c : Int) : Wt.Nd := ⟨0, Wt.v0, 0, ⟨#[]⟩, c, Wt.r0, Wt.r0⟩
theorem bs2n (x y : Wt.Nd) (w : World) : (Instr.buildSlice 22 2 #[(0, .agg (nd20 x).toArray), (1, .agg (nd20 y).toArray)]).run Tryz.prog w = .ok (.slice (some ⟨w.heap.size, 0, none⟩) 2 2) (w.alloc (.cells (nd20 x ++ nd20 y).toArray 45)) := by kernel_rfl
theorem wp_bs2n {op : Oper} {a : Act} {w : World} {K : Act → World → Prop} {Q : Exit → Act → World → Prop} (y z : Operand) (ho : op.op = .buildSlice 22 2 #[(0, y), (1, z)]) (x u : Wt.Nd) (hy : a.eval y = .agg (nd20 x).toArray) (hz : a.eval z = .agg (nd20 u).toArray)
    (h : K (a.put op.dst (.slice (some ⟨w.heap.size, 0, none⟩) 2 2)) (w.alloc (.cells (nd20 x ++ nd20 u).toArray 45))) : op.wp Tryz.prog a w K Q := by
  unfold Oper.wp execOp
  simp only [ho, List.map_toArray, List.map_cons, List.map_nil, hy, hz, Sem.run_bind, Sem.run_pure, Result.andThen_ok, bs2n]
  exact h
theorem wpList_bs2n {ops : Array Oper} {rest : List Oper} {op : Oper} {a : Act} {w : World} {Q : Exit → Act → World → Prop} (hgd : op.guard = none) (y z : Operand) (ho : op.op = .buildSlice 22 2 #[(0, y), (1, z)]) (x u : Wt.Nd) (hy : a.eval y = .agg (nd20 x).toArray) (hz : a.eval z = .agg (nd20 u).toArray)
    (h : wpList Tryz.prog ops Q rest (a.put op.dst (.slice (some ⟨w.heap.size, 0, none⟩) 2 2)) (w.alloc (.cells (nd20 x ++ nd20 u).toArray 45))) : wpList Tryz.prog ops Q (op :: rest) a w :=
  wpList_plain hgd fun _ hK => wp_bs2n y z ho x u hy hz (hK _ _ h)
theorem bldN (c : Int) (w : World) : (Instr.build 45 #[(4, .int .i64 c)]).run Tryz.prog w = .ok (.agg (nd20 (mkN c)).toArray) w := by kernel_rfl
theorem wp_bldN {op : Oper} {a : Act} {w : World} {K : Act → World → Prop} {Q : Exit → Act → World → Prop} (y : Operand) (ho : op.op = .build 45 #[(4, y)]) (c : Int) (hy : a.eval y = .int .i64 c)
    (h : K (a.put op.dst (.agg (nd20 (mkN c)).toArray)) w) : op.wp Tryz.prog a w K Q := by
  unfold Oper.wp execOp
  simp only [ho, List.map_toArray, List.map_cons, List.map_nil, hy, Sem.run_bind, Sem.run_pure, Result.andThen_ok, bldN]
  exact h
theorem wpList_bldN {ops : Array Oper} {rest : List Oper} {op : Oper} {a : Act} {w : World} {Q : Exit → Act → World → Prop} (hgd : op.guard = none) (y : Operand) (ho : op.op = .build 45 #[(4, y)]) (c : Int) (hy : a.eval y = .int .i64 c)
    (h : wpList Tryz.prog ops Q rest (a.put op.dst (.agg (nd20 (mkN c)).toArray)) w) : wpList Tryz.prog ops Q (op :: rest) a w :=
  wpList_plain hgd fun _ hK => wp_bldN y ho c hy (hK _ _ h)
theorem rd_two (w : World) (x y : Wt.Nd) : RdN (w.alloc (.cells (nd20 x ++ nd20 y).toArray 45)) (some ⟨w.heap.size, 0, none⟩) [x, y] := fun i hi => by
  have h := range_new w 45 (nd20 x) (nd20 y)
  refine ⟨w.heap.size, 0, rfl, ?_⟩
  match i, hi with
  | 0, _ => exact h.1
  | 1, _ => exact h.2
def Lent (w : World) (B : Nat) (v : Value) (L : List Wt.Nd) : Prop := ∃ g cap, v = .slice (some ⟨g, 0, none⟩) L.length cap ∧ L.length + 2 ≤ cap ∧ (cap : Int) ≤ 9223372036854775807 ∧ OwnN w B (.slice (some ⟨g, 0, none⟩) (L.length + 2) cap) (L ++ [mkN 77, mkN 78])
theorem Lent.below {w w' : World} {B : Nat} {v : Value} {L : List Wt.Nd} (h : Lent w B v L) (hb : Below w.heap.size w w') : Lent w' B v L := by
  obtain ⟨g, cap, e, h1, h2, h3⟩ := h
  exact ⟨g, cap, e, h1, h2, h3.below hb⟩
theorem rd_app {w : World} {av : Option Addr} {L M : List Wt.Nd} (h : RdN w av (L ++ M)) : RdN w av L := fun i hi => by
  obtain ⟨bb, off, e, hx⟩ := h i (by rw [List.length_append]; omega)
  rw [List.getElem_append_left hi] at hx
  exact ⟨bb, off, e, hx⟩
theorem Lent.rd {w : World} {B : Nat} {v : Value} {L : List Wt.Nd} (h : Lent w B v L) : ∃ av cap, v = .slice av L.length cap ∧ L.length ≤ cap ∧ RdN w av L := by
  obtain ⟨g, cap, e, h1, h2, h3⟩ := h
  exact ⟨_, cap, e, by omega, rd_app h3.rd⟩
set_option maxRecDepth 100000 in
set_option maxHeartbeats 1600000 in
theorem lent_any (L : List Wt.Nd) (av : Option Addr) (cap : Nat) (w : World) (hr : RdN w av L) (hno : av = none → L.length = 0 ∧ cap = 0) (hl : True → L.length ≤ 799644820177) :
    Calls Tryz.prog 11 #[.slice av L.length cap] w fun e w' => ∃ v, e = .returned v ∧ Lent w' w.heap.size v L ∧ Below w.heap.size w w' := by
  go_enter Tryz.func11, Tryz.ntmps11
  go_wp2_with (at_builtin; refine wpList_copyN (by rfl) (.tmp 4) (.tmp 5) (by rfl) w (by rfl) av L cap (by rfl) hr hno hl ?_)
  intro v1 w1 own1 hb1
  go_wp2_with (first
    | (with_reducible refine wpList_bldN (by rfl) (.const (.int .i64 77)) (by rfl) 77 (by rfl) ?_)
    | (with_reducible refine wpList_bldN (by rfl) (.const (.int .i64 78)) (by rfl) 78 (by rfl) ?_)
    | (with_reducible refine wpList_bs2n (by rfl) (.tmp 7) (.tmp 8) (by rfl) (mkN 77) (mkN 78) (by rfl) (by rfl) ?_)
    | (at_builtin; refine wpList_appN (by rfl) (.tmp 6) (.tmp 9) (by rfl) w (w1.alloc (.cells (nd20 (mkN 77) ++ nd20 (mkN 78)).toArray 45)) (ball hb1 _) v1 L (by rfl) (own1.below ((Below.refl _ _).alloc (Nat.le_refl _) _)) (some ⟨w1.heap.size, 0, none⟩) [mkN 77, mkN 78] 2 (by rfl) (rd_two w1 (mkN 77) (mkN 78)) (by decide) (fun _ => by have := hl trivial; show L.length + 2 ≤ _; omega) ?_))
  intro v2 w2 own2 hb2
  have hex : ∃ g cap3, v2 = .slice (some ⟨g, 0, none⟩) (L.length + 2) cap3 ∧ L.length + 2 ≤ cap3 ∧ cap3 ≤ maxLen := by
    have e2 : (L ++ [mkN 77, mkN 78]).length = L.length + 2 := by simp
    rcases own2.2 with ⟨_, h0⟩ | ⟨g, cap3, cur, e, _, _, h1, h2, _⟩
    · omega
    · rw [e2] at e h1
      exact ⟨g, cap3, e, h1, h2⟩
  obtain ⟨g, cap3, rfl, hc3, hc4⟩ := hex
  unfold maxLen at hc4
  have k1 : (L.length : Int) ≤ (cap3 : Int) := by omega
  have k2 : (cap3 : Int) ≤ 9223372036854775807 := by omega
  have HL : Hid (Lent w2 w.heap.size (.slice (some ⟨g, 0, none⟩) L.length cap3) L) := ⟨g, cap3, rfl, hc3, k2, own2⟩
  clear own2 own1 hl hno hr hc3 hc4
  go_wp2
  go_ret
  exact ⟨_, rfl, HL.out, hb2⟩
theorem OwnN.arg {w : World} {B g n cap : Nat} {L : List Wt.Nd} (h : OwnN w B (.slice (some ⟨g, 0, none⟩) n cap) L) (hn : n = L.length) (i : Nat) (hi : i < L.length) : w.cell? ⟨g, i * 20 + 9, none⟩ = some (.int .i64 (L[i]).ar) := by
  obtain ⟨bb, off, e, hx⟩ := h.rd i hi
  simp only [Option.some.injEq, Addr.mk.injEq] at e
  obtain ⟨rfl, rfl, -⟩ := e
  have := hx 9 _ rfl
  rw [Nat.zero_add] at this
  exact this
set_option maxRecDepth 100000 in
set_option maxHeartbeats 1600000 in
theorem whole_any (L : List Wt.Nd) (v : Value) (B : Nat) (av : Option Addr) (cap : Nat) (w : World) (hr : RdN w av L) (hv : Lent w B v L) (hl : True → L.length ≤ 799644820177) :
    Calls Tryz.prog 16 #[v, .slice av L.length cap] w fun e w' => e = .returned (.bool true) ∧ Below w.heap.size w w' := by
  obtain ⟨g, cap3, rfl, h1, h2, own⟩ := hv
  have SM := nsame_wide (some ⟨g, 0, none⟩) av cap3 cap L w (rd_app own.rd) hr (fun _ => by have := hl trivial; omega)
  have e2 : (L ++ [mkN 77, mkN 78]).length = L.length + 2 := by simp
  have c77 : w.cell? ⟨g, L.length * 20 + 9, none⟩ = some (.int .i64 77) := by
    have h := own.arg e2.symm L.length (by rw [e2]; omega)
    rw [List.getElem_append_right (Nat.le_refl _)] at h
    simp only [Nat.sub_self, List.getElem_cons_zero] at h
    exact h
  have c78 : w.cell? ⟨g, (L.length + 1) * 20 + 9, none⟩ = some (.int .i64 78) := by
    have h := own.arg e2.symm (L.length + 1) (by rw [e2]; omega)
    have e : (L ++ [mkN 77, mkN 78])[L.length + 1]'(by rw [e2]; omega) = mkN 78 := by
      rw [List.getElem_append_right (Nat.le_succ _)]
      simp
    rw [e] at h
    exact h
  have k1 : (L.length : Int) + 2 ≤ (cap3 : Int) := by omega
  have k2 : ((L.length : Int) + 2).toNat = L.length + 2 := by omega
  have k3 : ((L.length : Int) + 1).toNat = L.length + 1 := by omega
  clear own hr e2 hl h1
  go_enter Tryz.func16, Tryz.ntmps16
  go_wp2_with fail
  refine SM.mono ?_
  rintro e w1 ⟨rfl, hb⟩
  replace c77 := cell_below hb c77
  replace c78 := cell_below hb c78
  clear SM
  go_wp2
  go_ret
  exact ⟨rfl, hb⟩
def RdI (w : World) (av : Option Addr) (ks : List Nat) : Prop := ∀ i (h : i < ks.length), ∃ bb off, av = some ⟨bb, off, none⟩ ∧ w.cell? ⟨bb, off + i, none⟩ = some (.int .i64 (ks[i] : Int))
theorem RdI.below {w w' : World} {av : Option Addr} {ks : List Nat} (h : RdI w av ks) (hb : Below w.heap.size w w') : RdI w' av ks := fun i hi => by
  obtain ⟨bb, off, e, hx⟩ := h i hi
  exact ⟨bb, off, e, cell_below hb hx⟩
theorem OwnI.form {w : World} {B : Nat} {v : Value} {ks : List Nat} (h : OwnI w B v ks) : ∃ av cap, v = .slice av ks.length cap ∧ RdI w av ks := by
  rcases h.2 with ⟨e, h0⟩ | ⟨g, cap, cur, e, -, hcur, -, -, hlen, htk⟩
  · have hk : ks.length = 0 := by omega
    exact ⟨none, 0, by rw [hk]; exact e, fun i hi => absurd hi (by omega)⟩
  · refine ⟨some ⟨g, 0, none⟩, cap, e, fun i hi => ⟨g, 0, rfl, ?_⟩⟩
    have hg := World.ownsRow.cellAt (e ▸ h) i (by omega)
    rw [Nat.zero_add, hg]
    simp [intC, hi]
set_option maxRecDepth 100000 in
set_option maxHeartbeats 1600000 in
theorem ints_true (ks : List Nat) (a1 a2 : Option Addr) (c1 c2 : Nat) (w : World) (h1 : RdI w a1 ks) (h2 : RdI w a2 ks) (hl : ks.length ≤ 1000) :
    Calls Tryz.prog 18 #[.slice a1 ks.length c1, .slice a2 ks.length c2] w fun e w' => e = .returned (.bool true) ∧ Below w.heap.size w w' := by
  have H1 : Hid (RdI w a1 ks) := h1
  have H2 : Hid (RdI w a2 ks) := h2
  obtain ⟨n, hn⟩ : ∃ n, ks.length = n := ⟨_, rfl⟩
  rw [hn] at hl ⊢
  clear h1 h2
  go_enter Tryz.func18, Tryz.ntmps18
  go_wp2_with fail
  go_loopg [5] n (fun gk x wr => ∃ i : Nat, x = .int .i64 i ∧ gk = n - i ∧ i ≤ n ∧ Below w.heap.size w wr)
  case atStart => exact ⟨0, rfl, rfl, Nat.zero_le _, Below.refl _ _⟩
  case round =>
    obtain ⟨i, rfl, hg, hi, hb⟩ := hrel
    by_cases hlt : i < n
    · have hli : (i : Int) < (n : Int) := by omega
      obtain ⟨b1, o1, rfl, c1⟩ := RdI.below H1.out hb i (by omega)
      obtain ⟨b2, o2, rfl, c2⟩ := RdI.below H2.out hb i (by omega)
      generalize (ks[i] : Int) = x at c1 c2
      go_upto_region 6 with fail
      go_quiet (fail)
      go_wp2_with fail
      go_roundg (n - (i + 1))
      case rel => exact ⟨i + 1, by simp, rfl, hlt, by with_reducible repeat (first | exact hb | refine ball ?_ _ | refine Below.setCell ?_ (by first | (simp; done) | (simp; omega) | omega) _ | refine Below.drew ?_ | refine below_drewN ?_ _)⟩
      case measure => omega
    · have hli : ¬ (i : Int) < (n : Int) := by omega
      go_wp2
      go_ret
      exact ⟨rfl, hb⟩
theorem starts_len (f : Nat) : ∀ (k p : Nat) (l : List Wt.Nd), (starts f k p l).length ≤ k
  | 0, p, l => by simp [starts]
  | k + 1, p, l => by
    simp only [starts, List.length_cons]
    cases Wt.one f l with
    | none => simp
    | some q =>
      obtain ⟨s, d⟩ := q
      have := starts_len f k (p + s) (l.drop s)
      simp only
      omega
theorem kidsP_len {L : List Wt.Nd} {i : Nat} (hi : i < L.length) (hc : Wt.check L = 0) : (kidsP L i).length ≤ 30 := by
  obtain ⟨h256, d, hone, hd⟩ := check_zero hc
  obtain ⟨s', d', hs, hle, hdl⟩ := one_subs _ _ _ _ hone i hi
  rw [List.drop_eq_getElem_cons hi] at hs
  obtain ⟨hxr, -⟩ := one_node hs
  obtain ⟨hp0, hp30⟩ := Wt.parts_le hxr
  unfold kidsP
  rw [List.drop_eq_getElem_cons hi]
  have := starts_len (L.length + 1) (Wt.parts L[i]).toNat (i + 1) (L.drop (i + 1))
  simp only
  omega
theorem r2plain_any (b : ByteArray) (w : World) (hs : b.size ≤ 9223372036854775807) : Calls Tryz.prog 131 #[.string b] w fun e w' => e = .returned (.bool (Wv.prts b.data.toList)) ∧ w = w' := by
  obtain ⟨R, hR⟩ : ∃ R, Wv.prts b.data.toList = R := ⟨_, rfl⟩
  have E0 : Hid (R = Wv.prts (b.data.toList.drop 0)) := hR.symm
  rw [hR]
  clear hR
  go_enter Tryz.func131, Tryz.ntmps131
  go_wp2_with fail
  go_loopg [3] (b.size) (fun gk x wr => ∃ j : Nat, x = .int .i64 j ∧ gk = b.size - j ∧ j ≤ b.size ∧ Hid (R = Wv.prts (b.data.toList.drop j)) ∧ wr = w)
  case atStart => exact ⟨0, rfl, rfl, Nat.zero_le _, E0, rfl⟩
  case round =>
    obtain ⟨j, rfl, hg, hj, HR, rfl⟩ := hrel
    by_cases hlt : j < b.size
    · have hli : (j : Int) < (b.size : Int) := by omega
      have hd := drop_at b j hlt
      have hp := prt_nat (b[j])
      by_cases c1 : ((b[j]).toNat : Int) < 32
      · have E : Hid (R = false) := by show _ = _; rw [HR.out, hd, Wv.prts_cons, hp, decide_eq_false (by omega)]; rfl
        clear HR hd hp
        go_wp2
        go_ret
        exact ⟨by rw [E.out]; rfl, rfl⟩
      · by_cases c2 : (126 : Int) < ((b[j]).toNat : Int)
        · have E : Hid (R = false) := by show _ = _; rw [HR.out, hd, Wv.prts_cons, hp, decide_eq_false (p := ((b[j]).toNat : Int) ≤ 126) (by omega)]; simp
          clear HR hd hp
          go_wp2
          go_ret
          exact ⟨by rw [E.out]; rfl, rfl⟩
        · have E : Hid (R = Wv.prts (b.data.toList.drop (j + 1))) := by show _ = _; rw [HR.out, hd, Wv.prts_cons, hp, decide_eq_true (by omega), decide_eq_true (by omega)]; rfl
          clear HR hd hp
          go_wp2_with fail
          go_roundg (b.size - (j + 1))
          case rel => exact ⟨j + 1, by simp, rfl, hlt, E, by first | trivial | rfl⟩
          case measure => omega
    · have hli : ¬ (j : Int) < (b.size : Int) := by omega
      have E : Hid (R = true) := by show _ = _; rw [HR.out, drop_end b j hlt]; rfl
      clear HR
      go_wp2
      go_ret
      exact ⟨by rw [E.out]; rfl, rfl⟩
theorem r2right_0 (n d : Int) (t : ByteArray) (b : Bool) (f : Int) (w : World) :
    Calls Tryz.prog 101 #[.agg #[.int .i64 0, .int .i64 n, .int .i64 d, .string t, .bool b, .int .i64 f]] w fun e w' => e = .returned (.bool (Wv.right 0 n d t b f)) ∧ Below w.heap.size w w' := by
  rw [← eqV_0]
  have hq := eqV_run 0 n d t b f 0 0 0 ⟨#[]⟩ false 0
  generalize eqV 0 n d t b f 0 0 0 ⟨#[]⟩ false 0 = R at *
  go_enter Tryz.func101, Tryz.ntmps101
  go_wp2
  go_ret
  exact ⟨rfl, by with_reducible repeat (first | exact Below.refl _ _ | refine below_drewN ?_ _ | refine Below.setCell ?_ (by first | (simp; done) | (simp; omega) | omega) _ | refine Below.drew ?_ | refine below_end ?_ (by assumption) | refine ball ?_ _)⟩
theorem r2right_1 (n d : Int) (t : ByteArray) (b : Bool) (f : Int) (w : World) (h1 : -9223372036854775808 ≤ n) (h2 : n ≤ 9223372036854775807) (h3 : -9223372036854775808 ≤ d) (h4 : d ≤ 9223372036854775807) :
    Calls Tryz.prog 101 #[.agg #[.int .i64 1, .int .i64 n, .int .i64 d, .string t, .bool b, .int .i64 f]] w fun e w' => e = .returned (.bool (Wv.right 1 n d t b f)) ∧ Below w.heap.size w w' := by
  rw [← eqV_1]
  have C := fun w => rright_any n d w h1 h2 h3 h4
  have hq := eqV_run 1 n d t b f 1 n d ⟨#[]⟩ false 0
  generalize eqV 1 n d t b f 1 n d ⟨#[]⟩ false 0 = R at *
  generalize Wnum.rightB n d = q at *
  have pA : AtL (w.alloc (.cells #[.int .i64 1, .int .i64 n, .int .i64 d, .string t, .bool b, .int .i64 f] 41)) w.heap.size [.int .i64 1, .int .i64 n, .int .i64 d, .string t, .bool b, .int .i64 f] := AtL.new0 w _ _
  cases q
  all_goals
    go_enter Tryz.func101, Tryz.ntmps101
    go_wp2_with fail
    refine (C _).mono ?_
    rintro e w1 ⟨rfl, hb⟩
    have pA1 := AtL.below hb pA
    obtain ⟨a0, a1, a2, a3, a4, a5⟩ := pA1.f6
    have hB1 := below_end (ball (Below.refl _ w) _) hb
    go_wp2
    go_ret
    exact ⟨by simp, hB1⟩
theorem r2right_2 (n d : Int) (t : ByteArray) (b : Bool) (f : Int) (w : World) (hs : t.size ≤ 9223372036854775807) :
    Calls Tryz.prog 101 #[.agg #[.int .i64 2, .int .i64 n, .int .i64 d, .string t, .bool b, .int .i64 f]] w fun e w' => e = .returned (.bool (Wv.right 2 n d t b f)) ∧ Below w.heap.size w w' := by
  rw [← eqV_2]
  have C := fun w => r2plain_any t w hs
  have hq := eqV_run 2 n d t b f 2 0 0 t false 0
  generalize eqV 2 n d t b f 2 0 0 t false 0 = R at *
  generalize Wv.prts t.data.toList = q at *
  by_cases hl : t.size ≤ 256
  · have hli : (t.size : Int) ≤ 256 := by omega
    rw [decide_eq_true hl]
    cases q
    all_goals
      go_enter Tryz.func101, Tryz.ntmps101
      go_wp2_with fail
      refine (C _).mono ?_
      rintro e w1 ⟨rfl, rfl⟩
      go_wp2
      go_ret
      exact ⟨by simp, by with_reducible repeat (first | exact Below.refl _ _ | refine below_drewN ?_ _ | refine Below.setCell ?_ (by first | (simp; done) | (simp; omega) | omega) _ | refine Below.drew ?_ | refine below_end ?_ (by assumption) | refine ball ?_ _)⟩
  · have hli : ¬ (t.size : Int) ≤ 256 := by omega
    rw [decide_eq_false hl]
    cases q
    all_goals
      go_enter Tryz.func101, Tryz.ntmps101
      go_wp2_with fail
      refine (C _).mono ?_
      rintro e w1 ⟨rfl, rfl⟩
      go_wp2
      go_ret
      exact ⟨by simp, by with_reducible repeat (first | exact Below.refl _ _ | refine below_drewN ?_ _ | refine Below.setCell ?_ (by first | (simp; done) | (simp; omega) | omega) _ | refine Below.drew ?_ | refine below_end ?_ (by assumption) | refine ball ?_ _)⟩
theorem r2right_3 (n d : Int) (t : ByteArray) (b : Bool) (f : Int) (w : World) :
    Calls Tryz.prog 101 #[.agg #[.int .i64 3, .int .i64 n, .int .i64 d, .string t, .bool b, .int .i64 f]] w fun e w' => e = .returned (.bool (Wv.right 3 n d t b f)) ∧ Below w.heap.size w w' := by
  rw [← eqV_3]
  have hq := eqV_run 3 n d t b f 3 0 0 ⟨#[]⟩ b 0
  generalize eqV 3 n d t b f 3 0 0 ⟨#[]⟩ b 0 = R at *
  go_enter Tryz.func101, Tryz.ntmps101
  go_wp2
  go_ret
  exact ⟨rfl, by with_reducible repeat (first | exact Below.refl _ _ | refine below_drewN ?_ _ | refine Below.setCell ?_ (by first | (simp; done) | (simp; omega) | omega) _ | refine Below.drew ?_ | refine below_end ?_ (by assumption) | refine ball ?_ _)⟩
theorem r2right_4 (n d : Int) (t : ByteArray) (b : Bool) (f : Int) (w : World) :
    Calls Tryz.prog 101 #[.agg #[.int .i64 4, .int .i64 n, .int .i64 d, .string t, .bool b, .int .i64 f]] w fun e w' => e = .returned (.bool (Wv.right 4 n d t b f)) ∧ Below w.heap.size w w' := by
  rw [← eqV_4]
  have hq := eqV_run 4 n d t b f 4 0 0 ⟨#[]⟩ false f
  generalize eqV 4 n d t b f 4 0 0 ⟨#[]⟩ false f = R at *
  unfold Wv.flt
  by_cases h1 : 1 ≤ f
  · by_cases h8 : f ≤ 8
    · rw [decide_eq_true h1, decide_eq_true h8]
      go_enter Tryz.func101, Tryz.ntmps101
      go_wp2
      go_ret
      exact ⟨by simp, by with_reducible repeat (first | exact Below.refl _ _ | refine below_drewN ?_ _ | refine Below.setCell ?_ (by first | (simp; done) | (simp; omega) | omega) _ | refine Below.drew ?_ | refine below_end ?_ (by assumption) | refine ball ?_ _)⟩
    · rw [decide_eq_true h1, decide_eq_false h8]
      go_enter Tryz.func101, Tryz.ntmps101
      go_wp2
      go_ret
      exact ⟨by simp, by with_reducible repeat (first | exact Below.refl _ _ | refine below_drewN ?_ _ | refine Below.setCell ?_ (by first | (simp; done) | (simp; omega) | omega) _ | refine Below.drew ?_ | refine below_end ?_ (by assumption) | refine ball ?_ _)⟩
  · rw [decide_eq_false h1]
    go_enter Tryz.func101, Tryz.ntmps101
    go_wp2
    go_ret
    exact ⟨by simp, by with_reducible repeat (first | exact Below.refl _ _ | refine below_drewN ?_ _ | refine Below.setCell ?_ (by first | (simp; done) | (simp; omega) | omega) _ | refine Below.drew ?_ | refine below_end ?_ (by assumption) | refine ball ?_ _)⟩
theorem r2right_n (k n d : Int) (t : ByteArray) (b : Bool) (f : Int) (w : World) (hk : k < 0 ∨ 4 < k) :
    Calls Tryz.prog 101 #[.agg #[.int .i64 k, .int .i64 n, .int .i64 d, .string t, .bool b, .int .i64 f]] w fun e w' => e = .returned (.bool (Wv.right k n d t b f)) ∧ Below w.heap.size w w' := by
  have E : Hid (Wv.right k n d t b f = false) := by
    show _ = _
    unfold Wv.right
    rw [if_neg (by omega), if_neg (by omega), if_neg (by omega), if_neg (by omega), if_neg (by omega)]
  rw [E.out]
  clear E
  have k0 : (k == 0) = false := by rw [beq_eq_false_iff_ne]; omega
  have k1 : (k == 1) = false := by rw [beq_eq_false_iff_ne]; omega
  have k2 : (k == 2) = false := by rw [beq_eq_false_iff_ne]; omega
  have k3 : (k == 3) = false := by rw [beq_eq_false_iff_ne]; omega
  have k4 : (k == 4) = false := by rw [beq_eq_false_iff_ne]; omega
  clear hk
  go_enter Tryz.func101, Tryz.ntmps101
  go_wp2
  go_ret
  exact ⟨rfl, by with_reducible repeat (first | exact Below.refl _ _ | refine below_drewN ?_ _ | refine Below.setCell ?_ (by first | (simp; done) | (simp; omega) | omega) _ | refine Below.drew ?_ | refine below_end ?_ (by assumption) | refine ball ?_ _)⟩
theorem r2right_any (v : Wt.Vl) (w : World) (hf : Wt.FitV v) :
    Calls Tryz.prog 101 #[.agg #[.int .i64 v.k, .int .i64 v.n, .int .i64 v.d, .string v.t, .bool v.b, .int .i64 v.f]] w fun e w' => e = .returned (.bool (Wv.right v.k v.n v.d v.t v.b v.f)) ∧ Below w.heap.size w w' := by
  obtain ⟨k, n, d, t, b, f⟩ := v
  obtain ⟨⟨h1, h2⟩, ⟨h3, h4⟩, hs⟩ := hf
  simp only at *
  by_cases k0 : k = 0
  · subst k0; exact r2right_0 n d t b f w
  by_cases k1 : k = 1
  · subst k1; exact r2right_1 n d t b f w h1 h2 h3 h4
  by_cases k2 : k = 2
  · subst k2; exact r2right_2 n d t b f w hs
  by_cases k3 : k = 3
  · subst k3; exact r2right_3 n d t b f w
  by_cases k4 : k = 4
  · subst k4; exact r2right_4 n d t b f w
  exact r2right_n k n d t b f w (by omega)
end Go.Proofs.YtlggnpohhahdlaaGreatDoor
