/- TKids, TPartsP, TDepth, TSame, TCopy, TAppN. -/
import Derived.Test.YtifdemakjphfcaaGreatDoorQ40
import Derived.OwnWalk
import Derived.Laws.OwnMore
import Derived.Deep.LoopGhost
import Derived.Deep.MidRow
import Derived.Laws.AppendOwn
import Derived.Laws.AppendOwnNone
import Derived.BigFrame
namespace Go.Proofs.YtifdemakjphfcaaGreatDoor
open Go.RowKit
set_option linter.unusedVariables false
def starts (f : Nat) : Nat → Nat → List Wt.Nd → List Nat
  | 0, _, _ => []
  | k + 1, p, l => p :: (match Wt.one f l with | some (s, _) => starts f k (p + s) (l.drop s) | none => [])
def kidsP (L : List Wt.Nd) (i : Nat) : List Nat := match L.drop i with
  | [] => []
  | x :: r => starts (L.length + 1) (Wt.parts x).toNat (i + 1) r
def intC (ks : List Nat) : List Value := ks.map fun (k : Nat) => .int .i64 (k : Int)
def OwnI (w : World) (B : Nat) (v : Value) (ks : List Nat) : Prop := w.ownsRow B 3 1 v ks.length (intC ks)
theorem OwnI.below {w w' : World} {B : Nat} {v : Value} {ks : List Nat} (h : OwnI w B v ks) (hb : Below w.heap.size w w') : OwnI w' B v ks :=
  World.ownsRow.kept h (row := none) ⟨hb.os, hb.tape, hb.output, hb.size, fun k hk _ => hb.block k hk⟩ (by cases v.ownBlock <;> simp)
theorem intInfo : (Tryz.prog.info? 3).map (fun i => (i.zero, i.size, i.bytes)) = some (some (.int .i64 0), 1, 8) := by kernel_rfl
set_option maxRecDepth 100000 in
set_option maxHeartbeats 4000000 in
theorem kids_some (av : Option Addr) (cap : Nat) (L : List Wt.Nd) (i : Nat) (w : World) (hF : ∀ x ∈ L, Wt.FitN x) (hO : OpsAt w) (hr : RdN w av L) (hi : i < L.length) (hc : Wt.check L = 0) :
    Calls Tryz.prog 19 #[.slice av L.length cap, .int .i64 i] w fun e w' => ∃ v, e = .returned v ∧ OwnI w' w.heap.size v (kidsP L i) ∧ Below w.heap.size w w' := by
  obtain ⟨h256, d, hone, hd⟩ := check_zero hc
  have CK := check_any av cap L w (by omega) hF hO hr
  rw [hc] at CK
  have hdr := List.drop_eq_getElem_cons hi
  obtain ⟨s', d', hs, hle, hdl⟩ := one_subs _ _ _ _ hone i hi
  rw [hdr] at hs
  obtain ⟨hxr, a, b, hm, rfl, rfl⟩ := one_node hs
  obtain ⟨hp0, hp30⟩ := Wt.parts_le hxr
  unfold kidsP
  rw [hdr]
  simp only
  obtain ⟨bb, off, rfl, hx⟩ := hr i hi
  have D := fun w => tparts_any (L[i]) w
  generalize L[i] = x at *
  obtain ⟨n, hn⟩ : ∃ n : Nat, (Wt.parts x).toNat = n := ⟨_, rfl⟩
  have hnn : Wt.parts x = (n : Int) := by omega
  rw [hn] at hm ⊢
  rw [hnn] at D
  have hn30 : n ≤ 30 := by omega
  have M := fun p w hp hO hr => meas_any (some ⟨bb, off, none⟩) cap L h256 hF (L.length + 1) (by omega) p w (by omega) hp hO hr
  obtain ⟨KS, hKS⟩ : ∃ KS, KS = starts (L.length + 1) n (i + 1) (L.drop (i + 1)) := ⟨_, rfl⟩
  rw [← hKS]
  have HK : Hid (KS = [] ++ starts (L.length + 1) (n - 0) (i + 1) (L.drop (i + 1))) := hKS
  have HR : Hid (RdN w (some ⟨bb, off, none⟩) L) := hr
  have hi0 : ¬ (i : Int) < 0 := by omega
  have hi1 : ¬ (L.length : Int) ≤ (i : Int) := by omega
  obtain ⟨i0, hii, hz0, hz1, hz2⟩ := info_parts intInfo
  clear hr hKS hdr hs hone hc hxr hp0 hp30 hn hnn
  go_enter Tryz.func19, Tryz.ntmps19
  go_wp2_with fail
  refine CK.mono ?_
  rintro e w1 ⟨rfl, hb⟩
  have hx1 : w1.rangeAt bb (off + i * 20) (nd20 x) := fun j v hv => cell_below hb (hx j v hv)
  go_wp2_with ((with_reducible refine wpList_load_mid (cs := nd20 x) ?_ 45 (.tmp 24) ?_ bb (off + i * 20) ?_ _ ?_ Tryz.underlying45 ?_ ?_ ?_); rfl; rfl; rfl; exact hx1; rfl; kernel_rfl)
  refine (D _).mono ?_
  rintro e w2 ⟨rfl, hb2⟩
  have hB2 := below_end hb hb2
  clear CK D hx hx1 hb hb2
  go_wp2_with fail
  go_loopg [5, 6, 27] n (fun gk x y z wr => ∃ (j p c d : Nat) (dn : List Nat), z = .int .i64 j ∧ y = .int .i64 p ∧ gk = n - j ∧ j ≤ n ∧ dn.length = j ∧ Hid (KS = dn ++ starts (L.length + 1) (n - j) p (L.drop p)) ∧ Hid (OwnI wr w.heap.size x dn) ∧ Hid (Wt.many (Wt.one (L.length + 1)) (n - j) (L.drop p) = some (c, d)) ∧ p + c ≤ L.length ∧ Below w.heap.size w wr)
  case atStart =>
    exact ⟨0, i + 1, a, b, [], rfl, by simp, rfl, Nat.zero_le _, rfl, HK, World.ownsRow_nil _ _ _ _, hm, by omega, hB2⟩
  case round =>
    obtain ⟨j, p, c, d1, dn, rfl, rfl, hg, hj, hdn, H1, H2, H3, hpc, hB⟩ := hrel
    clear HK hB2 hm
    by_cases hlt : j < n
    · have hli : (j : Int) < (n : Int) := by omega
      obtain ⟨m, hmn⟩ : ∃ m, n - j = m + 1 := ⟨n - j - 1, by omega⟩
      have hm' : n - (j + 1) = m := by omega
      rw [hmn] at H1 H3
      have H3' := H3.out
      simp only [Wt.many] at H3'
      cases h1 : Wt.one (L.length + 1) (L.drop p) with
      | none => rw [h1] at H3'; cases H3'
      | some q =>
        obtain ⟨a1, b1⟩ := q
        rw [h1] at H3'
        simp only at H3'
        cases h2 : Wt.many (Wt.one (L.length + 1)) m ((L.drop p).drop a1) with
        | none => rw [h2] at H3'; cases H3'
        | some q2 =>
          obtain ⟨a2, b2⟩ := q2
          rw [h2] at H3'
          simp only [Option.some.injEq, Prod.mk.injEq] at H3'
          obtain ⟨rfl, rfl⟩ := H3'
          have H1' := H1.out
          simp only [starts, h1] at H1'
          have E : Hid (KS = (dn ++ [p]) ++ starts (L.length + 1) (n - (j + 1)) (p + a1) (L.drop (p + a1))) := by
            show KS = _
            rw [H1', hm', List.drop_drop]; simp
          rw [List.drop_drop] at h2
          have own := H2.out
          have hsz := hB.size
          have news : ∀ jj u, [Value.int .i64 (p : Int)][jj]? = some u → (wr.alloc (.cells #[.int .i64 (p : Int)] 3)).cell? ((⟨wr.heap.size, 0, none⟩ : Addr).add jj) = some u := by
            intro jj u hj
            cases jj with
            | zero => simp at hj; subst hj; simp [Addr.add, go_sem]
            | succ jj => simp at hj
          have hic : (intC dn).length = dn.length := by simp [intC]
          go_wp2_with (at_builtin; refine wpList_append_own _ rfl _ _ 34 rfl w.heap.size 3 i0 (.int .i64 0) 1 8 Tryz.underlying34 hii hz0 hz1 hz2 rfl (by decide) _ _ _ rfl (World.ownsRow.alloc own _) ⟨wr.heap.size, 0, none⟩ 1 1 [.int .i64 (p : Int)] rfl rfl news (by intro u hu; simp at hu; subst hu; rfl) (by unfold maxLen; omega) (by omega) (by simp; omega) ?_)
          intro v2 w2 own2 hgrow _
          have hB2 : Below w.heap.size w w2 := (ball hB (.cells #[.int .i64 (p : Int)] 3)).grown hgrow (by simp only [World.size_alloc]; omega) (fun k hk => (own.lt k hk).1)
          have own2' : OwnI w2 w.heap.size v2 (dn ++ [p]) := by
            unfold OwnI
            have e : intC (dn ++ [p]) = intC dn ++ [.int .i64 (p : Int)] := by simp [intC]
            rw [e, List.length_append, hdn]; exact own2
          have MM := M p w2 (by omega) (hO.below hB2) (HR.out.below hB2)
          rw [h1] at MM
          simp only [MP] at MM
          clear own2 own H1 H1' H2 H3 news
          go_wp2_with fail
          refine MM.mono ?_
          rintro e w3 ⟨rfl, hb3⟩
          have own3 : OwnI w3 w.heap.size v2 (dn ++ [p]) := own2'.below hb3
          have hB3 := below_end hB2 hb3
          clear MM hb3 own2' hB2
          go_wp2_with fail
          go_roundg (n - (j + 1))
          case rel => exact ⟨j + 1, p + a1, a2, b2, dn ++ [p], by simp, rfl, rfl, hlt, by simp [hdn], E, own3, by show _ = _; rw [hm']; exact h2, by omega, hB3⟩
          case measure => omega
    · have hli : ¬ (j : Int) < (n : Int) := by omega
      have hjn : n - j = 0 := by omega
      rw [hjn] at H1
      have H1' := H1.out
      simp only [starts, List.append_nil] at H1'
      go_wp2
      go_ret
      exact ⟨_, rfl, by first | exact H2.out | (rw [H1']; exact H2.out), hB⟩
theorem starts_spec (F : Nat) : ∀ (k : Nat) (l : List Wt.Nd) (a b p : Nat), Wt.many (Wt.one F) k l = some (a, b) → (starts F k p l).length = k ∧
    ∀ j, j < k → ∃ q s d, (starts F k p l)[j]? = some (p + q) ∧ Wt.one F (l.drop q) = some (s, d) ∧ q + s ≤ a ∧ d ≤ b ∧ (j = 0 → q = 0) ∧ (j + 1 < k → (starts F k p l)[j + 1]? = some (p + q + s)) := by
  intro k
  induction k with
  | zero => intro l a b p h; exact ⟨rfl, fun j hj => absurd hj (Nat.not_lt_zero _)⟩
  | succ k ih =>
    intro l a b p h
    simp only [Wt.many] at h
    cases h1 : Wt.one F l with
    | none => rw [h1] at h; cases h
    | some q =>
      obtain ⟨s1, d1⟩ := q
      rw [h1] at h
      simp only at h
      cases h2 : Wt.many (Wt.one F) k (l.drop s1) with
      | none => rw [h2] at h; cases h
      | some q2 =>
        obtain ⟨a2, b2⟩ := q2
        rw [h2] at h
        simp only [Option.some.injEq, Prod.mk.injEq] at h
        obtain ⟨rfl, rfl⟩ := h
        obtain ⟨i1, i2⟩ := ih _ _ _ (p + s1) h2
        have e : starts F (k + 1) p l = p :: starts F k (p + s1) (l.drop s1) := by simp only [starts, h1]
        rw [e]
        refine ⟨by rw [List.length_cons, i1], fun j hj => ?_⟩
        cases j with
        | zero =>
          refine ⟨0, s1, d1, by simp, by rw [List.drop_zero]; exact h1, by omega, by omega, fun _ => rfl, fun hk => ?_⟩
          obtain ⟨q, s, d, e1, -, -, -, e5, -⟩ := i2 0 (by omega)
          rw [List.getElem?_cons_succ, e1, e5 rfl]; simp
        | succ j =>
          obtain ⟨q, s, d, e1, e2, e3, e4, e5, e6⟩ := i2 j (by omega)
          refine ⟨s1 + q, s, d, by rw [List.getElem?_cons_succ, e1]; congr 1; omega, by rw [← List.drop_drop]; exact e2, by omega, by omega, fun h => by omega, fun hk => ?_⟩
          rw [List.getElem?_cons_succ, e6 (by omega)]; congr 1; omega
theorem kids_spec {L : List Wt.Nd} {i : Nat} (hi : i < L.length) (hc : Wt.check L = 0) : (kidsP L i).length ≤ 30 ∧
    ∀ j, j < (kidsP L i).length → ∃ q s, (kidsP L i)[j]? = some q ∧ i < q ∧ q + s ≤ L.length ∧ 1 ≤ s ∧ (j = 0 → q = i + 1) ∧ Wt.check ((L.drop q).take s) = 0 ∧ (j + 1 < (kidsP L i).length → (kidsP L i)[j + 1]? = some (q + s)) := by
  obtain ⟨h256, d, hone, hd⟩ := check_zero hc
  have hdr := List.drop_eq_getElem_cons hi
  obtain ⟨s', d', hs, hle, hdl⟩ := one_subs _ _ _ _ hone i hi
  rw [hdr] at hs
  obtain ⟨hxr, a, b, hm, rfl, rfl⟩ := one_node hs
  obtain ⟨hp0, hp30⟩ := Wt.parts_le hxr
  have e : kidsP L i = starts (L.length + 1) (Wt.parts L[i]).toNat (i + 1) (L.drop (i + 1)) := by
    unfold kidsP; rw [hdr]
  rw [e]
  obtain ⟨i1, i2⟩ := starts_spec _ _ _ _ _ (i + 1) hm
  rw [i1]
  refine ⟨by omega, fun j hj => ?_⟩
  obtain ⟨q, s, d2, e1, e2, e3, e4, e5, e6⟩ := i2 j hj
  rw [List.drop_drop] at e2
  have hl := one_loc _ _ _ _ e2
  have hq : ((L.drop (i + 1 + q)).take s).length = s := by rw [List.length_take, List.length_drop]; omega
  refine ⟨i + 1 + q, s, e1, by omega, by omega, by omega, fun h => by rw [e5 h], ?_, e6⟩
  refine zero_check (f := L.length + 1) (d := d2) (by rw [hq]; omega) ?_ (by omega)
  rw [hq]
  exact one_same e2 (by have := one_deep _ _ _ _ e2; omega) (by rw [List.take_take, Nat.min_self])
def dep (L : List Wt.Nd) (q : Nat) : Nat := match Wt.one (L.length + 1) (L.drop q) with
  | some (_, d) => d
  | none => 0
theorem dep_of {L : List Wt.Nd} {q s d : Nat} (h : Wt.one (L.length + 1) (L.drop q) = some (s, d)) : dep L q = d := by unfold dep; rw [h]
theorem starts_max (L : List Wt.Nd) : ∀ (k p : Nat) (l : List Wt.Nd) (a b m : Nat), l = L.drop p → Wt.many (Wt.one (L.length + 1)) k l = some (a, b) → (starts (L.length + 1) k p l).foldl (fun m q => max m (dep L q)) m = max m b := by
  intro k
  induction k with
  | zero =>
    intro p l a b m hl h
    simp only [Wt.many, Option.some.injEq, Prod.mk.injEq] at h
    rw [← h.2]; simp [starts]
  | succ k ih =>
    intro p l a b m hl h
    simp only [Wt.many] at h
    cases h1 : Wt.one (L.length + 1) l with
    | none => rw [h1] at h; cases h
    | some q =>
      obtain ⟨s1, d1⟩ := q
      rw [h1] at h
      simp only at h
      cases h2 : Wt.many (Wt.one (L.length + 1)) k (l.drop s1) with
      | none => rw [h2] at h; cases h
      | some q2 =>
        obtain ⟨a2, b2⟩ := q2
        rw [h2] at h
        simp only [Option.some.injEq, Prod.mk.injEq] at h
        have e : starts (L.length + 1) (k + 1) p l = p :: starts (L.length + 1) k (p + s1) (l.drop s1) := by simp only [starts, h1]
        rw [e, List.foldl_cons, ih (p + s1) _ _ _ _ (by rw [hl, List.drop_drop]) h2, dep_of (by rw [← hl]; exact h1), ← h.2]
        omega
theorem kids_dep {L : List Wt.Nd} {i : Nat} (hi : i < L.length) (hc : Wt.check L = 0) : dep L i = (kidsP L i).foldl (fun m q => max m (dep L q)) 0 + 1 ∧ dep L i ≤ 32 ∧ ∀ q ∈ kidsP L i, dep L q < dep L i := by
  obtain ⟨h256, d, hone, hd⟩ := check_zero hc
  have hdr := List.drop_eq_getElem_cons hi
  obtain ⟨s', d', hs, hle, hdl⟩ := one_subs _ _ _ _ hone i hi
  have hdi := dep_of hs
  have hs0 := hs
  rw [hdr] at hs
  obtain ⟨hxr, a, b, hm, rfl, rfl⟩ := one_node hs
  have e : kidsP L i = starts (L.length + 1) (Wt.parts L[i]).toNat (i + 1) (L.drop (i + 1)) := by
    unfold kidsP; rw [hdr]
  have hmax := starts_max L _ (i + 1) _ _ _ 0 rfl hm
  obtain ⟨i1, i2⟩ := starts_spec _ _ _ _ _ (i + 1) hm
  refine ⟨?_, by omega, fun q hq => ?_⟩
  · rw [e, hmax, hdi]; omega
  · rw [e] at hq
    obtain ⟨j, hj, rfl⟩ := List.mem_iff_getElem.1 hq
    rw [i1] at hj
    obtain ⟨q, s, d2, e1, e2, e3, e4, e5, e6⟩ := i2 j hj
    rw [List.drop_drop] at e2
    have : (starts (L.length + 1) (Wt.parts L[i]).toNat (i + 1) (L.drop (i + 1)))[j] = i + 1 + q := by
      have := (List.getElem?_eq_some_iff.1 e1).2
      exact this
    rw [this, dep_of e2, hdi]
    omega
theorem fold_le (L : List Wt.Nd) (B : Nat) : ∀ (ks : List Nat) (m : Nat), m ≤ B → (∀ q ∈ ks, dep L q ≤ B) → ks.foldl (fun m q => max m (dep L q)) m ≤ B := by
  intro ks
  induction ks with
  | nil => intro m h _; exact h
  | cons k r ih => intro m h hk; exact ih _ (Nat.max_le.2 ⟨h, hk k (by simp)⟩) (fun q hq => hk q (by simp [hq]))
theorem fold_take (L : List Wt.Nd) (ks : List Nat) (j q : Nat) (h : ks[j]? = some q) : (ks.take (j + 1)).foldl (fun m q => max m (dep L q)) 0 = max ((ks.take j).foldl (fun m q => max m (dep L q)) 0) (dep L q) := by
  rw [List.take_add_one, h, List.foldl_append]
  rfl
theorem OwnI.at {w : World} {B n cap : Nat} {av : Option Addr} {ks : List Nat} (h : OwnI w B (.slice av n cap) ks) (hk : 0 < ks.length) : ∃ g, av = some ⟨g, 0, none⟩ ∧ ∀ (j q : Nat), ks[j]? = some q → w.cell? ⟨g, j, none⟩ = some (.int .i64 (q : Int)) := by
  rcases h.2 with ⟨e, h0⟩ | ⟨g, cap', cur, e, hg, hc, h1, _⟩
  · omega
  · simp only [Value.slice.injEq] at e
    obtain ⟨rfl, rfl, rfl⟩ := e
    refine ⟨g, rfl, fun j q hq => ?_⟩
    have hj := (List.getElem?_eq_some_iff.1 hq).1
    rw [World.ownsRow.cellAt h j (by omega)]
    unfold intC
    rw [List.getElem?_map, hq]; rfl
theorem OwnI.shape {w : World} {B : Nat} {v : Value} {ks : List Nat} (h : OwnI w B v ks) : ∃ av cap, v = .slice av ks.length cap := by
  rcases h.2 with ⟨rfl, h0⟩ | ⟨g, cap, cur, rfl, _⟩
  · exact ⟨none, 0, by rw [h0]⟩
  · exact ⟨_, cap, rfl⟩
set_option maxRecDepth 100000 in
set_option maxHeartbeats 16000000 in
theorem depth_any (av : Option Addr) (cap : Nat) (L : List Wt.Nd) (hf : ∀ x ∈ L, Wt.FitN x) (hc : Wt.check L = 0) : ∀ (D i : Nat), i < L.length → dep L i ≤ D → ∀ (w : World), OpsAt w → RdN w av L →
    Calls Tryz.prog 22 #[.slice av L.length cap, .int .i64 (i : Int)] w fun e w' => e = .returned (.int .i64 (dep L i : Int)) ∧ Below w.heap.size w w' := by
  intro D
  induction D with
  | zero =>
    intro i hi hd
    have := (kids_dep hi hc).1
    omega
  | succ D ih =>
    intro i hi hd w hO hr
    obtain ⟨k1, k2, k3⟩ := kids_dep hi hc
    obtain ⟨h30, hks⟩ := kids_spec hi hc
    have hks2 : ∀ (j : Nat) (hj : j < (kidsP L i).length), ∃ q, (kidsP L i)[j]? = some q ∧ q < L.length ∧ q ∈ kidsP L i := by
      intro j hj
      obtain ⟨q, s, e1, a1, a2, a3, -⟩ := hks j hj
      exact ⟨q, e1, by omega, List.mem_of_getElem? e1⟩
    have KD := kids_some av cap L i w hf hO hr hi hc
    have HR : Hid (RdN w av L) := hr
    have HF : Hid (∀ x ∈ L, Wt.FitN x) := hf
    have HC : Hid (Wt.check L = 0) := hc
    have HO : Hid (OpsAt w) := hO
    have IH : ∀ q, q ∈ kidsP L i → q < L.length → ∀ (w : World), OpsAt w → RdN w av L → Calls Tryz.prog 22 #[.slice av L.length cap, .int .i64 (q : Int)] w fun e w' => e = .returned (.int .i64 (dep L q : Int)) ∧ Below w.heap.size w w' := fun q hq hl => ih q hl (by have := k3 q hq; omega)
    have hb32 : ∀ j, ((kidsP L i).take j).foldl (fun m q => max m (dep L q)) 0 ≤ 32 := fun j => fold_le L 32 _ 0 (by omega) (fun q hq => by have := k3 q (List.mem_of_mem_take hq); omega)
    have hall : (kidsP L i).take (kidsP L i).length = kidsP L i := List.take_length
    clear hr hf hc hO ih hks k3 hd
    obtain ⟨m, hm⟩ : ∃ m, L.length = m := ⟨_, rfl⟩
    rw [hm] at KD IH hi hks2 ⊢
    rw [k1]
    generalize kidsP L i = ks at *
    obtain ⟨n, hn⟩ : ∃ n, ks.length = n := ⟨_, rfl⟩
    rw [hn] at h30 hks2 hall
    go_enter Tryz.func22, Tryz.ntmps22
    go_wp2_with fail
    refine KD.mono ?_
    rintro e w1 ⟨v, rfl, hI, hb1⟩
    obtain ⟨av9, cap9, rfl⟩ := hI.shape
    rw [hn]
    have HI : Hid (OwnI w1 w.heap.size (.slice av9 n cap9) ks) := by rw [← hn]; exact hI
    clear hI KD
    go_wp2_with fail
    go_loopg [6, 7] n (fun gk x y wr => ∃ j M : Nat, Hid (M = (ks.take j).foldl (fun m q => max m (dep L q)) 0) ∧ x = .int .i64 (M : Int) ∧ y = .int .i64 j ∧ gk = n - j ∧ j ≤ n ∧ Hid (OwnI wr w.heap.size (.slice av9 n cap9) ks) ∧ Below w.heap.size w wr)
    case atStart => exact ⟨0, 0, (rfl : (0 : Nat) = 0), rfl, rfl, rfl, Nat.zero_le _, HI, hb1⟩
    case round =>
      clear HI hb1
      obtain ⟨j, M, HM, rfl, rfl, hg, hj, H1, hB⟩ := hrel
      by_cases hlt : j < n
      · have hli : (j : Int) < (n : Int) := by omega
        have hj0 : (0 : Int) ≤ (j : Int) := by omega
        obtain ⟨q, e1, hq, hmem⟩ := hks2 j hlt
        obtain ⟨g, rfl, hcell⟩ := OwnI.at H1.out (by omega)
        have c0 := hcell j q e1
        obtain ⟨Q, hQ⟩ : ∃ Q, dep L q = Q := ⟨_, rfl⟩
        have HF2 : Hid (max M Q = (ks.take (j + 1)).foldl (fun m q => max m (dep L q)) 0) := by
          show _ = _
          rw [fold_take L ks j q e1, ← HM.out, hQ]
        have C := IH q hmem hq wr (HO.out.below hB) (RdN.below HR.out hB)
        rw [hQ] at C
        have hj30 : (j : Int) ≤ 30 := by omega
        have hwj : IntKind.i64.wrap ((j : Int) + 1) = (j : Int) + 1 := by rw [IntKind.wrap_i64]; omega
        clear hcell e1 hmem
        go_wp2_with fail
        refine C.mono ?_
        rintro e w3 ⟨rfl, hb3⟩
        have H3 : Hid (OwnI w3 w.heap.size (.slice (some ⟨g, 0, none⟩) n cap9) ks) := OwnI.below H1.out hb3
        have hB3 := below_end hB hb3
        clear H1 C c0 hb3 hB HM hQ
        by_cases hmq : M < Q
        · have hmx : max M Q = Q := by omega
          have c1 : (M : Int) < (Q : Int) := by omega
          have c2 : ¬ (Q : Int) < (M : Int) := by omega
          have c3 : ¬ (Q : Int) ≤ (M : Int) := by omega
          rw [hmx] at HF2
          clear hmx
          go_wp2_with fail
          go_roundg (n - (j + 1))
          case rel => exact ⟨j + 1, Q, HF2, by first | (simp; done) | (simp; omega), by first | (simp; done) | (simp; omega), rfl, by omega, H3, hB3⟩
          case measure => omega
        · have hmx : max M Q = M := by omega
          have c1 : ¬ (M : Int) < (Q : Int) := by omega
          have c3 : (Q : Int) ≤ (M : Int) := by omega
          rw [hmx] at HF2
          clear hmx
          go_wp2_with fail
          go_roundg (n - (j + 1))
          case rel => exact ⟨j + 1, M, HF2, by first | (simp; done) | (simp; omega), by first | (simp; done) | (simp; omega), rfl, by omega, H3, hB3⟩
          case measure => omega
      · have hli : ¬ (j : Int) < (n : Int) := by omega
        have hje : j = n := by omega
        subst hje
        have hb := hb32 j
        have hMe := HM.out
        rw [hall] at hb hMe
        rw [← hMe] at hb
        have hMi : (M : Int) ≤ 32 := by omega
        have HM2 : Hid (M = ks.foldl (fun m q => max m (dep L q)) 0) := hMe
        clear hMe HM
        go_wp2
        go_ret
        exact ⟨by rw [← HM2.out]; simp, hB⟩
theorem neqN_run (x : Wt.Nd) (w : World) : (binOp .neq 45 (ndV x) (ndV x)).run Tryz.prog w = .ok (.bool false) w := by
  have h := eqN_run x x w
  have e : eqN x x = true := (eqN_iff x x).2 rfl
  rw [e] at h
  unfold ndV at h ⊢
  rw [run_eql_struct] at h
  rw [run_neq_struct]
  revert h
  generalize (Op.equalIn 10000 45 (.agg (nd20 x).toArray) (.agg (nd20 x).toArray)).run Tryz.prog w = r
  intro h
  cases r <;> simp_all [Result.andThen]
theorem neqN_exec (x : Wt.Nd) (w : World) {a : Operand → Value} {ex ey : Operand} (h1 : a ex = .agg (nd20 x).toArray) (h2 : a ey = .agg (nd20 x).toArray) {d : Option Nat} {ty : TypeId} {p : String} {af : Array Edge} {g : Option (Nat × Bool)} :
    (execOp a { dst := d, op := .binOp BinOp.neq 45 ex ey 45, type := ty, pos := p, after := af, guard := g }).run Tryz.prog w = .ok (.value (.bool false)) w := by
  unfold execOp
  simp only [h1, h2]
  have h3 := neqN_run x w
  unfold ndV at h3
  have h4 : (eqGuard .neq 45 ex ey (.agg (nd20 x).toArray) (.agg (nd20 x).toArray)).run Tryz.prog w = .ok () w := by kernel_rfl
  simp only [Sem.run_bind, h3, h4, Result.andThen_ok, Sem.run_pure]
set_option maxRecDepth 100000 in
set_option maxHeartbeats 4000000 in
theorem nsame_true (av1 av2 : Option Addr) (cap1 cap2 : Nat) (L : List Wt.Nd) (w : World) (h1 : RdN w av1 L) (h2 : RdN w av2 L) (hl : L.length ≤ 4000000) :
    Calls Tryz.prog 12 #[.slice av1 L.length cap1, .slice av2 L.length cap2] w fun e w' => e = .returned (.bool true) ∧ Below w.heap.size w w' := by
  have H1 : Hid (RdN w av1 L) := h1
  have H2 : Hid (RdN w av2 L) := h2
  obtain ⟨n, hn⟩ : ∃ n, L.length = n := ⟨_, rfl⟩
  rw [hn] at hl ⊢
  clear h1 h2
  go_enter Tryz.func12, Tryz.ntmps12
  go_wp2_with fail
  go_loopg [5] n (fun gk x wr => ∃ i : Nat, x = .int .i64 i ∧ gk = n - i ∧ i ≤ n ∧ Below w.heap.size w wr)
  case atStart => exact ⟨0, rfl, rfl, Nat.zero_le _, Below.refl _ _⟩
  case round =>
    obtain ⟨i, rfl, hg, hi, hb⟩ := hrel
    by_cases hlt : i < n
    · have hli : (i : Int) < (n : Int) := by omega
      have hi0 : (0 : Int) ≤ (i : Int) := by omega
      have hwi : IntKind.i64.wrap ((i : Int) + 1) = (i : Int) + 1 := by rw [IntKind.wrap_i64]; omega
      obtain ⟨b1, o1, rfl, c1⟩ := RdN.below H1.out hb i (by omega)
      obtain ⟨b2, o2, rfl, c2⟩ := RdN.below H2.out hb i (by omega)
      generalize L[i] = x at c1 c2
      go_upto_region 6 with fail
      refine wp_region_held_drew (S := fun W => W.rangeAt b1 (o1 + i * 20) (nd20 x) ∧ W.rangeAt b2 (o2 + i * 20) (nd20 x)) (by kernel_rfl) ⟨c1, c2⟩ (fun hHeld => ?_)
      refine wpAnyH_take (i := 0) (oi := { dst := some 17, op := .move (.tmp 0), type := 22, pos := "law.go:22", after := #[], guard := none }) (v := ?_) rfl (by kernel_rfl) (by kernel_rfl) (by kernel_rfl) (fun _ _ _ h => h) (Or.inl ⟨by rfl, ?_⟩) (by assumption) ?_
      rotate_left; (intro w hSw; (try dsimp only at hSw); go_simp; (try with_reducible rfl)); try simp only [Act.put, lA, lZ, lS]
      refine wpAnyH_take (i := 1) (oi := { dst := some 18, op := .move (.tmp 5), type := 3, pos := "law.go:22", after := #[], guard := none }) (v := ?_) rfl (by kernel_rfl) (by kernel_rfl) (by kernel_rfl) (fun _ _ _ h => h) (Or.inl ⟨by rfl, ?_⟩) (by assumption) ?_
      rotate_left; (intro w hSw; (try dsimp only at hSw); go_simp; (try with_reducible rfl)); try simp only [Act.put, lA, lZ, lS]
      refine wpAnyH_take (i := 2) (oi := { dst := some 19, op := .indexAddr 22 (.tmp 17) (.tmp 18), type := 0, pos := "law.go:22", after := #[⟨0, .data⟩, ⟨1, .data⟩], guard := none }) (v := ?_) rfl (by kernel_rfl) (by kernel_rfl) (by kernel_rfl) (fun _ _ _ h => h) (Or.inl ⟨by rfl, ?_⟩) (by assumption) ?_
      rotate_left; (intro w hSw; (try dsimp only at hSw); go_simp; (try with_reducible rfl)); try simp only [Act.put, lA, lZ, lS]
      refine wpAnyH_take (i := 3) (oi := { dst := some 20, op := .load 45 (.tmp 19), type := 45, pos := "law.go:22", after := #[⟨2, .data⟩], guard := none }) (v := .agg (nd20 x).toArray) rfl (by kernel_rfl) (by kernel_rfl) (by kernel_rfl) (fun _ _ _ h => h) (yieldsIf_load_mid (by rfl) 45 (.tmp 19) rfl b1 (o1 + i * 20) rfl (nd20 x) _ (fun _ h => h.1) Tryz.underlying45 rfl (by kernel_rfl)) (by assumption) ?_
      try simp only [Act.put, lA, lZ, lS]
      refine wpAnyH_take (i := 4) (oi := { dst := some 21, op := .move (.tmp 1), type := 22, pos := "law.go:22", after := #[], guard := none }) (v := ?_) rfl (by kernel_rfl) (by kernel_rfl) (by kernel_rfl) (fun _ _ _ h => h) (Or.inl ⟨by rfl, ?_⟩) (by assumption) ?_
      rotate_left; (intro w hSw; (try dsimp only at hSw); go_simp; (try with_reducible rfl)); try simp only [Act.put, lA, lZ, lS]
      refine wpAnyH_take (i := 5) (oi := { dst := some 22, op := .move (.tmp 5), type := 3, pos := "law.go:22", after := #[], guard := none }) (v := ?_) rfl (by kernel_rfl) (by kernel_rfl) (by kernel_rfl) (fun _ _ _ h => h) (Or.inl ⟨by rfl, ?_⟩) (by assumption) ?_
      rotate_left; (intro w hSw; (try dsimp only at hSw); go_simp; (try with_reducible rfl)); try simp only [Act.put, lA, lZ, lS]
      refine wpAnyH_take (i := 6) (oi := { dst := some 23, op := .indexAddr 22 (.tmp 21) (.tmp 22), type := 0, pos := "law.go:22", after := #[⟨4, .data⟩, ⟨5, .data⟩], guard := none }) (v := ?_) rfl (by kernel_rfl) (by kernel_rfl) (by kernel_rfl) (fun _ _ _ h => h) (Or.inl ⟨by rfl, ?_⟩) (by assumption) ?_
      rotate_left; (intro w hSw; (try dsimp only at hSw); go_simp; (try with_reducible rfl)); try simp only [Act.put, lA, lZ, lS]
      refine wpAnyH_take (i := 7) (oi := { dst := some 24, op := .load 45 (.tmp 23), type := 45, pos := "law.go:22", after := #[⟨6, .data⟩], guard := none }) (v := .agg (nd20 x).toArray) rfl (by kernel_rfl) (by kernel_rfl) (by kernel_rfl) (fun _ _ _ h => h) (yieldsIf_load_mid (by rfl) 45 (.tmp 23) rfl b2 (o2 + i * 20) rfl (nd20 x) _ (fun _ h => h.2) Tryz.underlying45 rfl (by kernel_rfl)) (by assumption) ?_
      try simp only [Act.put, lA, lZ, lS]
      refine wpAnyH_take (i := 8) (oi := { dst := some 25, op := .binOp BinOp.neq 45 (.tmp 20) (.tmp 24) 45, type := 4, pos := "law.go:22", after := #[⟨3, .data⟩, ⟨7, .data⟩], guard := none }) (v := .bool false) rfl (by kernel_rfl) (by kernel_rfl) (by kernel_rfl) (fun _ _ _ h => h) (Or.inl ⟨by rfl, fun w _ => neqN_exec x w rfl rfl⟩) (by assumption) ?_
      try simp only [Act.put, lA, lZ, lS]
      refine wpAnyH_done (by kernel_rfl) ?_ _
      clear hHeld c1 c2
      have hbd := hb.drew
      go_wp2_with fail
      go_roundg (n - (i + 1))
      case rel => exact ⟨i + 1, by simp, rfl, by omega, hbd⟩
      case measure => omega
    · have hli : ¬ (i : Int) < (n : Int) := by omega
      go_wp2
      go_ret
      exact ⟨rfl, hb⟩
open Go.RowKit Go.Shelf
theorem RdN.flat {w : World} {av : Option Addr} {L : List Wt.Nd} (h : RdN w av L) : ∀ ad, av = some ad → ∀ j u, (ndRow L)[j]? = some u → w.cell? (ad.add j) = some u := by
  intro ad had j u hu
  have hj : j < L.length * 20 := by
    have := (List.getElem?_eq_some_iff.1 hu).1
    rw [ndRow_length] at this; exact this
  have hd : j / 20 < L.length := by omega
  obtain ⟨bb, off, e, hc⟩ := h (j / 20) hd
  rw [had] at e
  obtain rfl := Option.some.inj e
  have h1 := ndRow_get L (j / 20) hd (j % 20) (Nat.mod_lt _ (by omega))
  rw [show j / 20 * 20 + j % 20 = j by omega, hu] at h1
  have h2 := hc (j % 20) u h1.symm
  rw [show off + j / 20 * 20 + j % 20 = off + j by omega] at h2
  rw [Addr.add_mid]; exact h2
theorem ndRow_all (l : List Wt.Nd) : ∀ u ∈ ndRow l, u.oneCell' = true := by
  intro u hu
  unfold ndRow at hu
  obtain ⟨x, _, hu⟩ := List.mem_flatMap.1 hu
  exact nd_one x u hu
theorem ndRow_cat (a b : List Wt.Nd) : ndRow (a ++ b) = ndRow a ++ ndRow b := by simp [ndRow]
theorem wpList_appN {ops : Array Oper} {rest : List Oper} {o : Oper} {a : Act} {Q : Exit → Act → World → Prop} (hw : Region.wanted o (yielded ops a.tmps) = true) (s x : Operand) (ho : o.op = .call { callee := .builtin .append, args := #[s, x], argTypes := #[22, 22] })
    (w0 w : World) (hB : Below w0.heap.size w0 w) (v : Value) (A : List Wt.Nd) (hs : a.eval s = v) (hown : OwnN w w0.heap.size v A) (av : Option Addr) (L : List Wt.Nd) (cap : Nat) (hx : a.eval x = .slice av L.length cap) (hr : RdN w av L) (hpos : 0 < L.length) (hl : True → A.length + L.length ≤ 100000)
    (h : ∀ v' w', OwnN w' w0.heap.size v' (A ++ L) → Below w0.heap.size w0 w' → wpList Tryz.prog ops Q rest (a.put o.dst v') w') : wpList Tryz.prog ops Q (o :: rest) a w := by
  obtain ⟨i0, hi0, hz0, hz1, hz2⟩ := info_parts nodeInfo
  have hl := hl trivial
  obtain ⟨bb, off, rfl, -⟩ := hr 0 hpos
  refine BigFrame.wpList_want hw fun _ hK => ?_
  refine wp_append_own _ s x 22 ho w0.heap.size 45 i0 _ 20 176 Tryz.underlying22 hi0 hz0 hz1 hz2 rfl (by decide) v A.length (ndRow A) hs hown ⟨bb, off, none⟩ L.length cap (ndRow L) hx (ndRow_length L) (hr.flat _ rfl) (ndRow_all L) (by unfold maxLen; omega) (by omega) hB.size ?_
  intro v' w' own hg _
  refine hK _ _ (h v' w' ?_ ?_)
  · unfold OwnN
    rw [List.length_append, ndRow_cat]
    exact own
  · refine hB.grown hg hB.size (fun k e => ?_)
    rcases hown.2 with ⟨e2, _⟩ | ⟨g, cap', cur, e2, hg', _⟩
    · rw [e2] at e; simp [Value.ownBlock] at e
    · rw [e2] at e
      simp [Value.ownBlock] at e
      omega
theorem own_one (w : World) (x : Wt.Nd) : OwnN (w.alloc (.cells (nd20 x).toArray 45)) w.heap.size (.slice (some ⟨w.heap.size, 0, none⟩) 1 1) [x] := by
  refine ⟨rfl, .inr ⟨w.heap.size, 1, (nd20 x).toArray, rfl, Nat.le_refl _, heap_alloc_new w _, Nat.le_refl _, by unfold maxLen; omega, rfl, ?_⟩⟩
  simp [ndRow]
  rfl
end Go.Proofs.YtifdemakjphfcaaGreatDoor
