/- TKids, TPartsP, TParC. -/
import Derived.Test.YtegojlnbjmomeabGreatDoorQ40
import Derived.OwnWalk
import Derived.Laws.OwnMore
import Derived.Deep.LoopGhost
/- Kids, walked. -/
namespace Go.Proofs.YtegojlnbjmomeabGreatDoor
open Go.RowKit
set_option linter.unusedVariables false

/-- Where so many trees begin that stand one behind the other. -/
def starts (f : Nat) : Nat → Nat → List Wt.Nd → List Nat
  | 0, _, _ => []
  | k + 1, p, l => p :: (match Wt.one f l with | some (s, _) => starts f k (p + s) (l.drop s) | none => [])
/-- Where the parts of the node at a place begin. -/
def kidsP (L : List Wt.Nd) (i : Nat) : List Nat := match L.drop i with
  | [] => []
  | x :: r => starts (L.length + 1) (Wt.parts x).toNat (i + 1) r
def intC (ks : List Nat) : List Value := ks.map fun (k : Nat) => .int .i64 (k : Int)
def OwnI (w : World) (B : Nat) (v : Value) (ks : List Nat) : Prop := w.ownsRow B 3 1 v ks.length (intC ks)
theorem OwnI.below {w w' : World} {B : Nat} {v : Value} {ks : List Nat} (h : OwnI w B v ks) (hb : Below w.heap.size w w') : OwnI w' B v ks :=
  World.ownsRow.kept h (row := none) ⟨hb.os, hb.tape, hb.output, hb.size, fun k hk _ => hb.block k hk⟩ (by cases v.ownBlock <;> simp)
theorem intInfo : (Tryz.prog.info? 3).map (fun i => (i.zero, i.size, i.bytes)) = some (some (.int .i64 0), 1, 8) := by kernel_rfl
set_option maxRecDepth 100000 in
set_option maxHeartbeats 4000000 in
theorem kids_some (av : Option Addr) (cap : Nat) (L : List Wt.Nd) (i : Nat) (w : World) (hF : ∀ x ∈ L, Wt.FitN x) (hO : OpsAt w) (hr : RdN w av L) (hi : i < L.length) (hc : Wt.check L = 0) :
    Calls Tryz.prog 14 #[.slice av L.length cap, .int .i64 i] w fun e w' => ∃ v, e = .returned v ∧ OwnI w' w.heap.size v (kidsP L i) ∧ Below w.heap.size w w' := by
  obtain ⟨h256, d, hone, hd⟩ := check_zero hc
  have CK := check_any av cap L w (by omega) hF hO hr
  rw [hc] at CK
  have hdr := List.drop_eq_getElem_cons hi
  obtain ⟨s', d', hs, hle, hdl⟩ := one_subs _ _ _ _ hone i hi
  rw [hdr] at hs
  obtain ⟨hxr, a, b, hm, rfl, rfl⟩ := one_node hs
  obtain ⟨hp0, hp30⟩ := Wt.parts_le hxr
  unfold kidsP
  rw [hdr]
  simp only
  obtain ⟨bb, off, rfl, hx⟩ := hr i hi
  have D := fun w => tparts_any (L[i]) w
  generalize L[i] = x at *
  obtain ⟨n, hn⟩ : ∃ n : Nat, (Wt.parts x).toNat = n := ⟨_, rfl⟩
  have hnn : Wt.parts x = (n : Int) := by omega
  rw [hn] at hm ⊢
  rw [hnn] at D
  have hn30 : n ≤ 30 := by omega
  have M := fun p w hp hO hr => meas_any (some ⟨bb, off, none⟩) cap L h256 hF (L.length + 1) (by omega) p w (by omega) hp hO hr
  obtain ⟨KS, hKS⟩ : ∃ KS, KS = starts (L.length + 1) n (i + 1) (L.drop (i + 1)) := ⟨_, rfl⟩
  rw [← hKS]
  have HK : Hid (KS = [] ++ starts (L.length + 1) (n - 0) (i + 1) (L.drop (i + 1))) := hKS
  have HR : Hid (RdN w (some ⟨bb, off, none⟩) L) := hr
  have hi0 : ¬ (i : Int) < 0 := by omega
  have hi1 : ¬ (L.length : Int) ≤ (i : Int) := by omega
  obtain ⟨i0, hii, hz0, hz1, hz2⟩ := info_parts intInfo
  clear hr hKS hdr hs hone hc hxr hp0 hp30 hn hnn
  go_enter Tryz.func14, Tryz.ntmps14
  go_wp2_with fail
  refine CK.mono ?_
  rintro e w1 ⟨rfl, hb⟩
  have hx1 : w1.rangeAt bb (off + i * 20) (nd20 x) := fun j v hv => cell_below hb (hx j v hv)
  go_wp2_with ((with_reducible refine wpList_load_mid (cs := nd20 x) ?_ 42 (.tmp 24) ?_ bb (off + i * 20) ?_ _ ?_ Tryz.underlying42 ?_ ?_ ?_); rfl; rfl; rfl; exact hx1; rfl; kernel_rfl)
  refine (D _).mono ?_
  rintro e w2 ⟨rfl, hb2⟩
  have hB2 := below_end hb hb2
  clear CK D hx hx1 hb hb2
  go_wp2_with fail
  go_loopg [5, 6, 27] n (fun gk x y z wr => ∃ (j p c d : Nat) (dn : List Nat), z = .int .i64 j ∧ y = .int .i64 p ∧ gk = n - j ∧ j ≤ n ∧ dn.length = j ∧ Hid (KS = dn ++ starts (L.length + 1) (n - j) p (L.drop p)) ∧ Hid (OwnI wr w.heap.size x dn) ∧ Hid (Wt.many (Wt.one (L.length + 1)) (n - j) (L.drop p) = some (c, d)) ∧ p + c ≤ L.length ∧ Below w.heap.size w wr)
  case atStart =>
    exact ⟨0, i + 1, a, b, [], rfl, by simp, rfl, Nat.zero_le _, rfl, HK, World.ownsRow_nil _ _ _ _, hm, by omega, hB2⟩
  case round =>
    obtain ⟨j, p, c, d1, dn, rfl, rfl, hg, hj, hdn, H1, H2, H3, hpc, hB⟩ := hrel
    clear HK hB2 hm
    by_cases hlt : j < n
    · have hli : (j : Int) < (n : Int) := by omega
      obtain ⟨m, hmn⟩ : ∃ m, n - j = m + 1 := ⟨n - j - 1, by omega⟩
      have hm' : n - (j + 1) = m := by omega
      rw [hmn] at H1 H3
      have H3' := H3.out
      simp only [Wt.many] at H3'
      cases h1 : Wt.one (L.length + 1) (L.drop p) with
      | none => rw [h1] at H3'; cases H3'
      | some q =>
        obtain ⟨a1, b1⟩ := q
        rw [h1] at H3'
        simp only at H3'
        cases h2 : Wt.many (Wt.one (L.length + 1)) m ((L.drop p).drop a1) with
        | none => rw [h2] at H3'; cases H3'
        | some q2 =>
          obtain ⟨a2, b2⟩ := q2
          rw [h2] at H3'
          simp only [Option.some.injEq, Prod.mk.injEq] at H3'
          obtain ⟨rfl, rfl⟩ := H3'
          have H1' := H1.out
          simp only [starts, h1] at H1'
          have E : Hid (KS = (dn ++ [p]) ++ starts (L.length + 1) (n - (j + 1)) (p + a1) (L.drop (p + a1))) := by
            show KS = _
            rw [H1', hm', List.drop_drop]; simp
          rw [List.drop_drop] at h2
          have own := H2.out
          have hsz := hB.size
          have news : ∀ jj u, [Value.int .i64 (p : Int)][jj]? = some u → (wr.alloc (.cells #[.int .i64 (p : Int)] 3)).cell? ((⟨wr.heap.size, 0, none⟩ : Addr).add jj) = some u := by
            intro jj u hj
            cases jj with
            | zero => simp at hj; subst hj; simp [Addr.add, go_sem]
            | succ jj => simp at hj
          have hic : (intC dn).length = dn.length := by simp [intC]
          go_wp2_with (at_builtin; refine wpList_append_own _ rfl _ _ 33 rfl w.heap.size 3 i0 (.int .i64 0) 1 8 Tryz.underlying33 hii hz0 hz1 hz2 rfl (by decide) _ _ _ rfl (World.ownsRow.alloc own _) ⟨wr.heap.size, 0, none⟩ 1 1 [.int .i64 (p : Int)] rfl rfl news (by intro u hu; simp at hu; subst hu; rfl) (by unfold maxLen; omega) (by omega) (by simp; omega) ?_)
          intro v2 w2 own2 hgrow _
          have hB2 : Below w.heap.size w w2 := (ball hB (.cells #[.int .i64 (p : Int)] 3)).grown hgrow (by simp only [World.size_alloc]; omega) (fun k hk => (own.lt k hk).1)
          have own2' : OwnI w2 w.heap.size v2 (dn ++ [p]) := by
            unfold OwnI
            have e : intC (dn ++ [p]) = intC dn ++ [.int .i64 (p : Int)] := by simp [intC]
            rw [e, List.length_append, hdn]; exact own2
          have MM := M p w2 (by omega) (hO.below hB2) (HR.out.below hB2)
          rw [h1] at MM
          simp only [MP] at MM
          clear own2 own H1 H1' H2 H3 news
          go_wp2_with fail
          refine MM.mono ?_
          rintro e w3 ⟨rfl, hb3⟩
          have own3 : OwnI w3 w.heap.size v2 (dn ++ [p]) := own2'.below hb3
          have hB3 := below_end hB2 hb3
          clear MM hb3 own2' hB2
          go_wp2_with fail
          go_roundg (n - (j + 1))
          case rel => exact ⟨j + 1, p + a1, a2, b2, dn ++ [p], by simp, rfl, rfl, hlt, by simp [hdn], E, own3, by show _ = _; rw [hm']; exact h2, by omega, hB3⟩
          case measure => omega
    · have hli : ¬ (j : Int) < (n : Int) := by omega
      have hjn : n - j = 0 := by omega
      rw [hjn] at H1
      have H1' := H1.out
      simp only [starts, List.append_nil] at H1'
      go_wp2
      go_ret
      exact ⟨_, rfl, by first | exact H2.out | (rw [H1']; exact H2.out), hB⟩
end Go.Proofs.YtegojlnbjmomeabGreatDoor
/- Where parts begin: plain. -/
namespace Go.Proofs.YtegojlnbjmomeabGreatDoor
open Go.RowKit
set_option linter.unusedVariables false

theorem starts_spec (F : Nat) : ∀ (k : Nat) (l : List Wt.Nd) (a b p : Nat), Wt.many (Wt.one F) k l = some (a, b) → (starts F k p l).length = k ∧
    ∀ j, j < k → ∃ q s d, (starts F k p l)[j]? = some (p + q) ∧ Wt.one F (l.drop q) = some (s, d) ∧ q + s ≤ a ∧ d ≤ b ∧ (j = 0 → q = 0) ∧ (j + 1 < k → (starts F k p l)[j + 1]? = some (p + q + s)) := by
  intro k
  induction k with
  | zero => intro l a b p h; exact ⟨rfl, fun j hj => absurd hj (Nat.not_lt_zero _)⟩
  | succ k ih =>
    intro l a b p h
    simp only [Wt.many] at h
    cases h1 : Wt.one F l with
    | none => rw [h1] at h; cases h
    | some q =>
      obtain ⟨s1, d1⟩ := q
      rw [h1] at h
      simp only at h
      cases h2 : Wt.many (Wt.one F) k (l.drop s1) with
      | none => rw [h2] at h; cases h
      | some q2 =>
        obtain ⟨a2, b2⟩ := q2
        rw [h2] at h
        simp only [Option.some.injEq, Prod.mk.injEq] at h
        obtain ⟨rfl, rfl⟩ := h
        obtain ⟨i1, i2⟩ := ih _ _ _ (p + s1) h2
        have e : starts F (k + 1) p l = p :: starts F k (p + s1) (l.drop s1) := by simp only [starts, h1]
        rw [e]
        refine ⟨by rw [List.length_cons, i1], fun j hj => ?_⟩
        cases j with
        | zero =>
          refine ⟨0, s1, d1, by simp, by rw [List.drop_zero]; exact h1, by omega, by omega, fun _ => rfl, fun hk => ?_⟩
          obtain ⟨q, s, d, e1, -, -, -, e5, -⟩ := i2 0 (by omega)
          rw [List.getElem?_cons_succ, e1, e5 rfl]; simp
        | succ j =>
          obtain ⟨q, s, d, e1, e2, e3, e4, e5, e6⟩ := i2 j (by omega)
          refine ⟨s1 + q, s, d, by rw [List.getElem?_cons_succ, e1]; congr 1; omega, by rw [← List.drop_drop]; exact e2, by omega, by omega, fun h => by omega, fun hk => ?_⟩
          rw [List.getElem?_cons_succ, e6 (by omega)]; congr 1; omega
/-- What the parts' places are. -/
theorem kids_spec {L : List Wt.Nd} {i : Nat} (hi : i < L.length) (hc : Wt.check L = 0) : (kidsP L i).length ≤ 30 ∧
    ∀ j, j < (kidsP L i).length → ∃ q s, (kidsP L i)[j]? = some q ∧ i < q ∧ q + s ≤ L.length ∧ 1 ≤ s ∧ (j = 0 → q = i + 1) ∧ Wt.check ((L.drop q).take s) = 0 ∧ (j + 1 < (kidsP L i).length → (kidsP L i)[j + 1]? = some (q + s)) := by
  obtain ⟨h256, d, hone, hd⟩ := check_zero hc
  have hdr := List.drop_eq_getElem_cons hi
  obtain ⟨s', d', hs, hle, hdl⟩ := one_subs _ _ _ _ hone i hi
  rw [hdr] at hs
  obtain ⟨hxr, a, b, hm, rfl, rfl⟩ := one_node hs
  obtain ⟨hp0, hp30⟩ := Wt.parts_le hxr
  have e : kidsP L i = starts (L.length + 1) (Wt.parts L[i]).toNat (i + 1) (L.drop (i + 1)) := by
    unfold kidsP; rw [hdr]
  rw [e]
  obtain ⟨i1, i2⟩ := starts_spec _ _ _ _ _ (i + 1) hm
  rw [i1]
  refine ⟨by omega, fun j hj => ?_⟩
  obtain ⟨q, s, d2, e1, e2, e3, e4, e5, e6⟩ := i2 j hj
  rw [List.drop_drop] at e2
  have hl := one_loc _ _ _ _ e2
  have hq : ((L.drop (i + 1 + q)).take s).length = s := by rw [List.length_take, List.length_drop]; omega
  refine ⟨i + 1 + q, s, e1, by omega, by omega, by omega, fun h => by rw [e5 h], ?_, e6⟩
  refine zero_check (f := L.length + 1) (d := d2) (by rw [hq]; omega) ?_ (by omega)
  rw [hq]
  exact one_same e2 (by have := one_deep _ _ _ _ e2; omega) (by rw [List.take_take, Nat.min_self])
end Go.Proofs.YtegojlnbjmomeabGreatDoor
/- What Parse's answer can be. -/
namespace Go.Proofs.YtegojlnbjmomeabGreatDoor
open Go.RowKit Go.Shelf
set_option linter.unusedVariables false

theorem pl_code {ts : List Wlx.TV} {en c p : Int} (h : pl ts en = .inr (c, p)) : c ≠ 0 := by
  unfold pl at h
  split at h
  · cases h
  · simp only [Sum.inr.injEq, Prod.mk.injEq] at h; omega
theorem pc_code {ts : List Wlx.TV} {en c p : Int} (h : pc ts en = .inr (c, p)) : c ≠ 0 := by
  unfold pc at h
  repeat' split at h
  all_goals first | (simp only [Sum.inr.injEq, Prod.mk.injEq] at h; omega) | cases h
theorem pcs_code {s : ByteArray} {ts : List Wlx.TV} {en c p : Int} (h : pcs s ts en = .inr (c, p)) : c ≠ 0 := by
  unfold pcs at h
  cases h1 : pc ts en with
  | inr e => rw [h1] at h; simp only [Sum.inr.injEq] at h; rw [h] at h1; exact pc_code h1
  | inl q =>
    obtain ⟨a, r1⟩ := q
    rw [h1] at h
    simp only at h
    cases h2 : tk r1 [58] with
    | none => rw [h2] at h; cases h
    | some r2 =>
      rw [h2] at h
      simp only at h
      cases h3 : pc r2 en with
      | inr e => rw [h3] at h; simp only [Sum.inr.injEq] at h; rw [h] at h3; exact pc_code h3
      | inl q => rw [h3] at h; cases h
theorem more_code {sub : List Wlx.TV → PR} {N : Nat} (hsub : ∀ ts row r, sub ts = .inl (row, r) → r <:+ ts) (hcode : ∀ ts c p, ts.length ≤ N → sub ts = .inr (c, p) → c ≠ 0) (k : Int) : ∀ (n : Nat) (row : List Wt.Nd) (ts : List Wlx.TV) (c p : Int), ts.length ≤ N → more sub k n row ts = .inr (c, p) → c ≠ 0 := by
  intro n
  induction n with
  | zero => intro row ts c p hN h; cases h
  | succ n ih =>
    intro row ts c p hN h
    simp only [more] at h
    cases h1 : tkOp k ts with
    | none => rw [h1] at h; cases h
    | some q =>
      obtain ⟨o, r1⟩ := q
      rw [h1] at h
      simp only at h
      have s1 := (tkOp_suf h1).2
      cases h2 : sub r1 with
      | inr e => rw [h2] at h; simp only [Sum.inr.injEq] at h; rw [h] at h2; exact hcode _ _ _ (by omega) h2
      | inl q =>
        obtain ⟨row2, r2⟩ := q
        rw [h2] at h
        simp only at h
        have := (hsub _ _ _ h2).length_le
        exact ih _ _ _ _ (by omega) h
theorem argl_code {sub : List Wlx.TV → PR} {N : Nat} (hsub : ∀ ts row r, sub ts = .inl (row, r) → r <:+ ts) (hcode : ∀ ts c p, ts.length ≤ N → sub ts = .inr (c, p) → c ≠ 0) (en : Int) : ∀ (n c0 : Nat) (rows : List Wt.Nd) (ts : List Wlx.TV) (c p : Int), ts.length ≤ N → argl sub en n c0 rows ts = .inr (c, p) → c ≠ 0 := by
  intro n
  induction n with
  | zero => intro c0 rows ts c p hN h; simp only [argl, Sum.inr.injEq, Prod.mk.injEq] at h; omega
  | succ n ih =>
    intro c0 rows ts c p hN h
    simp only [argl] at h
    cases h1 : tk ts [41] with
    | some q => rw [h1] at h; cases h
    | none =>
      rw [h1] at h
      simp only at h
      split at h
      · simp only [Sum.inr.injEq, Prod.mk.injEq] at h; omega
      · cases h2 : tk ts [44] with
        | none => rw [h2] at h; simp only [Sum.inr.injEq, Prod.mk.injEq] at h; omega
        | some r1 =>
          rw [h2] at h
          simp only at h
          have s1 := (tk_suf h2).2
          cases h3 : sub r1 with
          | inr e => rw [h3] at h; simp only [Sum.inr.injEq] at h; rw [h] at h3; exact hcode _ _ _ (by omega) h3
          | inl q =>
            obtain ⟨row, r2⟩ := q
            rw [h3] at h
            simp only at h
            have := (hsub _ _ _ h3).length_le
            exact ih _ _ _ _ _ (by omega) h
theorem pargs_code {sub : List Wlx.TV → PR} {N : Nat} (hsub : ∀ ts row r, sub ts = .inl (row, r) → r <:+ ts) (hcode : ∀ ts c p, ts.length ≤ N → sub ts = .inr (c, p) → c ≠ 0) (en : Int) (nm : List UInt8) (ts : List Wlx.TV) (c p : Int) (hN : ts.length ≤ N) (h : pargs sub en nm ts = .inr (c, p)) : c ≠ 0 := by
  unfold pargs at h
  cases h1 : tk ts [41] with
  | some q => rw [h1] at h; cases h
  | none =>
    rw [h1] at h
    simp only at h
    cases h2 : sub ts with
    | inr e => rw [h2] at h; simp only [Sum.inr.injEq] at h; rw [h] at h2; exact hcode _ _ _ hN h2
    | inl q =>
      obtain ⟨row1, r1⟩ := q
      rw [h2] at h
      simp only at h
      have := (hsub _ _ _ h2).length_le
      cases h3 : argl sub en (r1.length + 1) 1 row1 r1 with
      | inr e => rw [h3] at h; simp only [Sum.inr.injEq] at h; rw [h] at h3; exact argl_code hsub hcode en _ _ _ _ _ _ (by omega) h3
      | inl q => rw [h3] at h; cases h
theorem pword_code {sub : List Wlx.TV → PR} {N : Nat} (hsub : ∀ ts row r, sub ts = .inl (row, r) → r <:+ ts) (hcode : ∀ ts c p, ts.length ≤ N → sub ts = .inr (c, p) → c ≠ 0) (en : Int) (ts : List Wlx.TV) (c p : Int) (hN : ts.length ≤ N + 2) (h : pword sub en ts = .inr (c, p)) : c ≠ 0 := by
  unfold pword at h
  split at h
  · split at h
    · exact pargs_code hsub hcode en _ _ _ _ (by rw [List.length_drop]; omega) h
    · simp only [Sum.inr.injEq, Prod.mk.injEq] at h; omega
  split at h
  · split at h
    · exact pcs_code h
    · simp only [Sum.inr.injEq, Prod.mk.injEq] at h; omega
  split at h
  · cases h
  split at h
  · cases h
  · exact pcs_code h
theorem pbrack_code {sub : List Wlx.TV → PR} {N : Nat}  (hcode : ∀ ts c p, ts.length ≤ N → sub ts = .inr (c, p) → c ≠ 0) (en : Int) (ts : List Wlx.TV) (c p : Int) (hN : ts.length ≤ N + 1) (h : pbrack sub en ts = .inr (c, p)) : c ≠ 0 := by
  unfold pbrack at h
  cases h1 : tk ts [40] with
  | none => rw [h1] at h; simp only [Sum.inr.injEq, Prod.mk.injEq] at h; omega
  | some r1 =>
    rw [h1] at h
    simp only at h
    have s1 := (tk_suf h1).2
    cases h2 : sub r1 with
    | inr e => rw [h2] at h; simp only [Sum.inr.injEq] at h; rw [h] at h2; exact hcode _ _ _ (by omega) h2
    | inl q =>
      obtain ⟨row2, r2⟩ := q
      rw [h2] at h
      simp only at h
      cases h3 : tk r2 [41] with
      | none => rw [h3] at h; simp only [Sum.inr.injEq, Prod.mk.injEq] at h; omega
      | some r3 => rw [h3] at h; cases h
theorem pct_code : ∀ (n : Nat) (row : List Wt.Nd) (ts : List Wlx.TV) (c p : Int), pct n row ts = .inr (c, p) → False := by
  intro n
  induction n with
  | zero => intro row ts c p h; cases h
  | succ n ih =>
    intro row ts c p h
    simp only [pct] at h
    cases h1 : tkOp 6 ts with
    | none => rw [h1] at h; cases h
    | some q => obtain ⟨o, r1⟩ := q; rw [h1] at h; simp only at h; exact ih _ _ _ _ h
theorem lv_code (en : Int) : ∀ (f k : Nat) (ts : List Wlx.TV) (c p : Int), k ≤ 7 → (if k < 5 then 10 * ts.length + 9 - k else if k = 5 then 10 * ts.length + 4 else if k = 6 then 10 * ts.length + 3 else 10 * ts.length + 2) ≤ f → lv en f k ts = .inr (c, p) → c ≠ 0 := by
  intro f
  induction f with
  | zero => intro k ts c p hk hf h; repeat' split at hf
            all_goals omega
  | succ f ih =>
    intro k ts c p hk hf h
    by_cases h5 : k < 5
    · rw [if_pos h5] at hf
      rw [lv_bt _ _ _ h5] at h
      unfold pbt at h
      have hs : ∀ us c p, us.length ≤ ts.length → lv en f (k + 1) us = .inr (c, p) → c ≠ 0 := by
        intro us c p hu hh
        refine ih (k + 1) us c p (by omega) ?_ hh
        split
        · omega
        · rw [if_pos (by omega)]; omega
      cases h1 : lv en f (k + 1) ts with
      | inr e => rw [h1] at h; simp only [Sum.inr.injEq] at h; rw [h] at h1; exact hs _ _ _ (Nat.le_refl _) h1
      | inl q =>
        obtain ⟨row1, r1⟩ := q
        rw [h1] at h
        simp only at h
        have := (lv_suf en _ _ _ _ _ h1).length_le
        exact more_code (N := ts.length) (lv_suf en f (k + 1)) hs _ _ _ _ _ _ (by omega) h
    rw [if_neg h5] at hf
    by_cases e5 : k = 5
    · subst e5
      rw [if_pos rfl] at hf
      rw [lv_sg] at h
      unfold psg at h
      cases h1 : tkOp 5 ts with
      | none => rw [h1] at h; exact ih 6 ts c p (by omega) (by simp; omega) h
      | some q =>
        obtain ⟨o, r1⟩ := q
        rw [h1] at h
        simp only at h
        have s1 := (tkOp_suf h1).2
        cases h2 : lv en f 5 r1 with
        | inr e => rw [h2] at h; simp only [Sum.inr.injEq] at h; rw [h] at h2; exact ih 5 r1 c p (by omega) (by simp; omega) h2
        | inl q => rw [h2] at h; cases h
    rw [if_neg e5] at hf
    by_cases e6 : k = 6
    · subst e6
      rw [if_pos rfl] at hf
      rw [lv_pc] at h
      unfold ppc at h
      cases h1 : lv en f 7 ts with
      | inr e => rw [h1] at h; simp only [Sum.inr.injEq] at h; rw [h] at h1; exact ih 7 ts c p (by omega) (by simp; omega) h1
      | inl q => obtain ⟨row1, r1⟩ := q; rw [h1] at h; simp only at h; exact (pct_code _ _ _ _ _ h).elim
    rw [if_neg e6] at hf
    obtain rfl : k = 7 := by omega
    rw [lv_si] at h
    unfold psi at h
    split at h
    · rename_i h3
      cases ts with
      | nil => exact absurd h3 (by rw [hd_nil]; decide)
      | cons t q =>
        simp only [List.length_cons] at hf
        refine pword_code (N := q.length) (lv_suf en f 0) (fun us c p hu hh => ih 0 us c p (by omega) (by simp; omega) hh) en _ _ _ (by simp only [List.length_cons]; omega) h
    split at h
    · cases ts with
      | nil => rename_i h3; exact absurd h3 (by rw [hd_nil]; decide)
      | cons t q =>
        simp only [List.length_cons] at hf
        refine pbrack_code (N := q.length) (fun us c p hu hh => ih 0 us c p (by omega) (by simp; omega) hh) en _ _ _ (by simp only [List.length_cons]; omega) h
    · exact pl_code h
/-- An error is one. -/
theorem prsR_code {l : List UInt8} {c p : Int} (h : prsR l = .inr (c, p)) : c ≠ 0 := by
  unfold prsR at h
  cases hr : scanAll l with
  | inr q =>
    obtain ⟨c', p'⟩ := q
    rw [hr] at h
    simp only [Sum.inr.injEq, Prod.mk.injEq] at h
    have := scan_code hr
    omega
  | inl ts =>
    rw [hr] at h
    simp only at h
    unfold prsT at h
    cases hp : pall (lv (l.length : Int) (10 * (ts.map Wlx.tv).length + 9) 0) (l.length : Int) (ts.map Wlx.tv) with
    | inr q =>
      rw [hp] at h
      simp only [Sum.inr.injEq] at h
      subst h
      unfold pall at hp
      split at hp
      · rename_i e he
        simp only [Sum.inr.injEq] at hp
        subst hp
        exact lv_code _ _ 0 _ _ _ (by omega) (by simp) he
      · cases hp
      · simp only [Sum.inr.injEq, Prod.mk.injEq] at hp; omega
    | inl q =>
      obtain ⟨row, rr⟩ := q
      rw [hp] at h
      simp only at h
      split at h
      · cases h
      · rename_i hc
        simp only [Sum.inr.injEq, Prod.mk.injEq] at h
        omega
/-- A tree is one. -/
theorem prsR_row {l : List UInt8} {row : List Wt.Nd} (h : prsR l = .inl row) : (∀ x ∈ row, Wt.FitN x) ∧ Wt.check row = 0 := by
  unfold prsR at h
  cases hr : scanAll l with
  | inr q =>
    obtain ⟨c', p'⟩ := q
    rw [hr] at h; cases h
  | inl ts =>
    rw [hr] at h
    simp only at h
    have hok : ∀ t ∈ ts.map Wlx.tv, TokOk t := by
      unfold scanAll at hr
      split at hr
      · cases hr
      · exact (scan_ok _ 0 l (Nat.le_refl _) (by omega) ts hr).2
    unfold prsT at h
    cases hp : pall (lv (l.length : Int) (10 * (ts.map Wlx.tv).length + 9) 0) (l.length : Int) (ts.map Wlx.tv) with
    | inr q => rw [hp] at h; cases h
    | inl q =>
      obtain ⟨row', rr⟩ := q
      rw [hp] at h
      simp only at h
      split at h
      · rename_i hc
        simp only [Sum.inl.injEq] at h
        subst h
        refine ⟨?_, hc⟩
        unfold pall at hp
        split at hp
        · cases hp
        · rename_i row'' he
          simp only [Sum.inl.injEq, Prod.mk.injEq] at hp
          rw [← hp.1]
          exact (lv_fit _ _ _ _ _ _ hok he).1
        · cases hp
      · cases h
end Go.Proofs.YtegojlnbjmomeabGreatDoor
