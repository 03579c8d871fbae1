/- TSame, TKids, TLent, MKit, MOwn, TFreshK, TParC. -/
import Derived.Test.YtlggnpohhahdlaaGreatDoorQ35
import Derived.Deep.LoopGhost
import Derived.Deep.MidRow
import Derived.OwnWalk
import Derived.Laws.OwnMore
import Derived.BigQuiet
import Derived.Laws.CopyRow
namespace Go.Proofs.YtlggnpohhahdlaaGreatDoor
open Go.RowKit
set_option linter.unusedVariables false
theorem nsame_true (av1 av2 : Option Addr) (cap1 cap2 : Nat) (L : List Wt.Nd) (w : World) (h1 : RdN w av1 L) (h2 : RdN w av2 L) (hl : L.length ≤ 4000000) :
    Calls Tryz.prog 10 #[.slice av1 L.length cap1, .slice av2 L.length cap2] w fun e w' => e = .returned (.bool true) ∧ Below w.heap.size w w' := nsame_wide av1 av2 cap1 cap2 L w h1 h2 (fun _ => by omega)
set_option maxRecDepth 100000 in
set_option maxHeartbeats 1600000 in
theorem kids_none (av : Option Addr) (cap : Nat) (L : List Wt.Nd) (i : Int) (w : World) (hL : L.length ≤ 9223372036854775807) (hF : ∀ x ∈ L, Wt.FitN x) (hO : OpsAt w) (hr : RdN w av L) (h : ¬ (0 ≤ i ∧ i < L.length ∧ Wt.check L = 0)) :
    Calls Tryz.prog 17 #[.slice av L.length cap, .int .i64 i] w fun e w' => e = .returned (.slice none 0 0) ∧ Below w.heap.size w w' := by
  have CK := check_any av cap L w hL hF hO hr
  by_cases h0 : i < 0
  · go_enter Tryz.func17, Tryz.ntmps17
    go_wp2
    go_ret
    exact ⟨rfl, Below.refl _ _⟩
  by_cases h1 : (L.length : Int) ≤ i
  · go_enter Tryz.func17, Tryz.ntmps17
    go_wp2
    go_ret
    exact ⟨rfl, Below.refl _ _⟩
  have h2 : ¬ Wt.check L = 0 := fun e => h ⟨by omega, by omega, e⟩
  generalize Wt.check L = ck at *
  have hci : (ck != 0) = true := by simp [h2]
  go_enter Tryz.func17, Tryz.ntmps17
  go_wp2_with fail
  refine CK.mono ?_
  rintro e w1 ⟨rfl, hb⟩
  go_wp2
  go_ret
  exact ⟨rfl, hb⟩
set_option maxRecDepth 100000 in
set_option maxHeartbeats 4000000 in
theorem kids_some (av : Option Addr) (cap : Nat) (L : List Wt.Nd) (i : Nat) (w : World) (hF : ∀ x ∈ L, Wt.FitN x) (hO : OpsAt w) (hr : RdN w av L) (hi : i < L.length) (hc : Wt.check L = 0) :
    Calls Tryz.prog 17 #[.slice av L.length cap, .int .i64 i] w fun e w' => ∃ v, e = .returned v ∧ OwnI w' w.heap.size v (kidsP L i) ∧ Below w.heap.size w w' := by
  obtain ⟨h256, d, hone, hd⟩ := check_zero hc
  have CK := check_any av cap L w (by omega) hF hO hr
  rw [hc] at CK
  have hdr := List.drop_eq_getElem_cons hi
  obtain ⟨s', d', hs, hle, hdl⟩ := one_subs _ _ _ _ hone i hi
  rw [hdr] at hs
  obtain ⟨hxr, a, b, hm, rfl, rfl⟩ := one_node hs
  obtain ⟨hp0, hp30⟩ := Wt.parts_le hxr
  unfold kidsP
  rw [hdr]
  simp only
  obtain ⟨bb, off, rfl, hx⟩ := hr i hi
  have D := fun w => tparts_any (L[i]) w
  generalize L[i] = x at *
  obtain ⟨n, hn⟩ : ∃ n : Nat, (Wt.parts x).toNat = n := ⟨_, rfl⟩
  have hnn : Wt.parts x = (n : Int) := by omega
  rw [hn] at hm ⊢
  rw [hnn] at D
  have hn30 : n ≤ 30 := by omega
  have M := fun p w hp hO hr => meas_any (some ⟨bb, off, none⟩) cap L h256 hF (L.length + 1) (by omega) p w (by omega) hp hO hr
  obtain ⟨KS, hKS⟩ : ∃ KS, KS = starts (L.length + 1) n (i + 1) (L.drop (i + 1)) := ⟨_, rfl⟩
  rw [← hKS]
  have HK : Hid (KS = [] ++ starts (L.length + 1) (n - 0) (i + 1) (L.drop (i + 1))) := hKS
  have HR : Hid (RdN w (some ⟨bb, off, none⟩) L) := hr
  have hi0 : ¬ (i : Int) < 0 := by omega
  have hi1 : ¬ (L.length : Int) ≤ (i : Int) := by omega
  obtain ⟨i0, hii, hz0, hz1, hz2⟩ := info_parts intInfo
  clear hr hKS hdr hs hone hc hxr hp0 hp30 hn hnn
  go_enter Tryz.func17, Tryz.ntmps17
  go_wp2_with fail
  refine CK.mono ?_
  rintro e w1 ⟨rfl, hb⟩
  have hx1 : w1.rangeAt bb (off + i * 20) (nd20 x) := fun j v hv => cell_below hb (hx j v hv)
  go_wp2_with ((with_reducible refine wpList_load_mid (cs := nd20 x) ?_ 45 (.tmp 24) ?_ bb (off + i * 20) ?_ _ ?_ Tryz.underlying45 ?_ ?_ ?_); rfl; rfl; rfl; exact hx1; rfl; kernel_rfl)
  refine (D _).mono ?_
  rintro e w2 ⟨rfl, hb2⟩
  have hB2 := below_end hb hb2
  clear CK D hx hx1 hb hb2
  go_wp2_with fail
  go_loopg [5, 6, 27] n (fun gk x y z wr => ∃ (j p c d : Nat) (dn : List Nat), z = .int .i64 j ∧ y = .int .i64 p ∧ gk = n - j ∧ j ≤ n ∧ dn.length = j ∧ Hid (KS = dn ++ starts (L.length + 1) (n - j) p (L.drop p)) ∧ Hid (OwnI wr w.heap.size x dn) ∧ Hid (Wt.many (Wt.one (L.length + 1)) (n - j) (L.drop p) = some (c, d)) ∧ p + c ≤ L.length ∧ Below w.heap.size w wr)
  case atStart =>
    exact ⟨0, i + 1, a, b, [], rfl, by simp, rfl, Nat.zero_le _, rfl, HK, World.ownsRow_nil _ _ _ _, hm, by omega, hB2⟩
  case round =>
    obtain ⟨j, p, c, d1, dn, rfl, rfl, hg, hj, hdn, H1, H2, H3, hpc, hB⟩ := hrel
    clear HK hB2 hm
    by_cases hlt : j < n
    · have hli : (j : Int) < (n : Int) := by omega
      obtain ⟨m, hmn⟩ : ∃ m, n - j = m + 1 := ⟨n - j - 1, by omega⟩
      have hm' : n - (j + 1) = m := by omega
      rw [hmn] at H1 H3
      have H3' := H3.out
      simp only [Wt.many] at H3'
      cases h1 : Wt.one (L.length + 1) (L.drop p) with
      | none => rw [h1] at H3'; cases H3'
      | some q =>
        obtain ⟨a1, b1⟩ := q
        rw [h1] at H3'
        simp only at H3'
        cases h2 : Wt.many (Wt.one (L.length + 1)) m ((L.drop p).drop a1) with
        | none => rw [h2] at H3'; cases H3'
        | some q2 =>
          obtain ⟨a2, b2⟩ := q2
          rw [h2] at H3'
          simp only [Option.some.injEq, Prod.mk.injEq] at H3'
          obtain ⟨rfl, rfl⟩ := H3'
          have H1' := H1.out
          simp only [starts, h1] at H1'
          have E : Hid (KS = (dn ++ [p]) ++ starts (L.length + 1) (n - (j + 1)) (p + a1) (L.drop (p + a1))) := by
            show KS = _
            rw [H1', hm', List.drop_drop]; simp
          rw [List.drop_drop] at h2
          have own := H2.out
          have hsz := hB.size
          have news : ∀ jj u, [Value.int .i64 (p : Int)][jj]? = some u → (wr.alloc (.cells #[.int .i64 (p : Int)] 3)).cell? ((⟨wr.heap.size, 0, none⟩ : Addr).add jj) = some u := by
            intro jj u hj
            cases jj with
            | zero => simp at hj; subst hj; simp [Addr.add, go_sem]
            | succ jj => simp at hj
          have hic : (intC dn).length = dn.length := by simp [intC]
          go_wp2_with (at_builtin; refine wpList_append_own _ rfl _ _ 34 rfl w.heap.size 3 i0 (.int .i64 0) 1 8 Tryz.underlying34 hii hz0 hz1 hz2 rfl (by decide) _ _ _ rfl (World.ownsRow.alloc own _) ⟨wr.heap.size, 0, none⟩ 1 1 [.int .i64 (p : Int)] rfl rfl news (by intro u hu; simp at hu; subst hu; rfl) (by unfold maxLen; omega) (by omega) (by simp; omega) ?_)
          intro v2 w2 own2 hgrow _
          have hB2 : Below w.heap.size w w2 := (ball hB (.cells #[.int .i64 (p : Int)] 3)).grown hgrow (by simp only [World.size_alloc]; omega) (fun k hk => (own.lt k hk).1)
          have own2' : OwnI w2 w.heap.size v2 (dn ++ [p]) := by
            unfold OwnI
            have e : intC (dn ++ [p]) = intC dn ++ [.int .i64 (p : Int)] := by simp [intC]
            rw [e, List.length_append, hdn]; exact own2
          have MM := M p w2 (by omega) (hO.below hB2) (HR.out.below hB2)
          rw [h1] at MM
          simp only [MP] at MM
          clear own2 own H1 H1' H2 H3 news
          go_wp2_with fail
          refine MM.mono ?_
          rintro e w3 ⟨rfl, hb3⟩
          have own3 : OwnI w3 w.heap.size v2 (dn ++ [p]) := own2'.below hb3
          have hB3 := below_end hB2 hb3
          clear MM hb3 own2' hB2
          go_wp2_with fail
          go_roundg (n - (j + 1))
          case rel => exact ⟨j + 1, p + a1, a2, b2, dn ++ [p], by simp, rfl, rfl, hlt, by simp [hdn], E, own3, by show _ = _; rw [hm']; exact h2, by omega, hB3⟩
          case measure => omega
    · have hli : ¬ (j : Int) < (n : Int) := by omega
      have hjn : n - j = 0 := by omega
      rw [hjn] at H1
      have H1' := H1.out
      simp only [starts, List.append_nil] at H1'
      go_wp2
      go_ret
      exact ⟨_, rfl, by first | exact H2.out | (rw [H1']; exact H2.out), hB⟩
open Go.RowKit Go.Shelf
set_option maxRecDepth 100000 in
set_option maxHeartbeats 1600000 in
theorem ints_true (ks : List Nat) (a1 a2 : Option Addr) (c1 c2 : Nat) (w : World) (h1 : RdI w a1 ks) (h2 : RdI w a2 ks) (hl : ks.length ≤ 1000) :
    Calls Tryz.prog 18 #[.slice a1 ks.length c1, .slice a2 ks.length c2] w fun e w' => e = .returned (.bool true) ∧ Below w.heap.size w w' := by
  have H1 : Hid (RdI w a1 ks) := h1
  have H2 : Hid (RdI w a2 ks) := h2
  obtain ⟨n, hn⟩ : ∃ n, ks.length = n := ⟨_, rfl⟩
  rw [hn] at hl ⊢
  clear h1 h2
  go_enter Tryz.func18, Tryz.ntmps18
  go_wp2_with fail
  go_loopg [5] n (fun gk x wr => ∃ i : Nat, x = .int .i64 i ∧ gk = n - i ∧ i ≤ n ∧ Below w.heap.size w wr)
  case atStart => exact ⟨0, rfl, rfl, Nat.zero_le _, Below.refl _ _⟩
  case round =>
    obtain ⟨i, rfl, hg, hi, hb⟩ := hrel
    by_cases hlt : i < n
    · have hli : (i : Int) < (n : Int) := by omega
      obtain ⟨b1, o1, rfl, c1⟩ := RdI.below H1.out hb i (by omega)
      obtain ⟨b2, o2, rfl, c2⟩ := RdI.below H2.out hb i (by omega)
      generalize (ks[i] : Int) = x at c1 c2
      go_upto_region 6 with fail
      go_quiet (fail)
      go_wp2_with fail
      go_roundg (n - (i + 1))
      case rel => exact ⟨i + 1, by simp, rfl, hlt, by with_reducible repeat (first | exact hb | refine ball ?_ _ | refine Below.setCell ?_ (by first | (simp; done) | (simp; omega) | omega) _ | refine Below.drew ?_ | refine below_drewN ?_ _)⟩
      case measure => omega
    · have hli : ¬ (i : Int) < (n : Int) := by omega
      go_wp2
      go_ret
      exact ⟨rfl, hb⟩
theorem starts_len (f : Nat) : ∀ (k p : Nat) (l : List Wt.Nd), (starts f k p l).length ≤ k
  | 0, p, l => by simp [starts]
  | k + 1, p, l => by
    simp only [starts, List.length_cons]
    cases Wt.one f l with
    | none => simp
    | some q =>
      obtain ⟨s, d⟩ := q
      have := starts_len f k (p + s) (l.drop s)
      simp only
      omega
theorem kidsP_len {L : List Wt.Nd} {i : Nat} (hi : i < L.length) (hc : Wt.check L = 0) : (kidsP L i).length ≤ 30 := by
  obtain ⟨h256, d, hone, hd⟩ := check_zero hc
  obtain ⟨s', d', hs, hle, hdl⟩ := one_subs _ _ _ _ hone i hi
  rw [List.drop_eq_getElem_cons hi] at hs
  obtain ⟨hxr, -⟩ := one_node hs
  obtain ⟨hp0, hp30⟩ := Wt.parts_le hxr
  unfold kidsP
  rw [List.drop_eq_getElem_cons hi]
  have := starts_len (L.length + 1) (Wt.parts L[i]).toNat (i + 1) (L.drop (i + 1))
  simp only
  omega
def setL : List Value → Nat → List Value → List Value
  | us, _, [] => us
  | us, o, v :: r => setL (us.set o v) (o + 1) r
theorem AtL.sub {W : World} {k : Nat} {us : List Value} (h : AtL W k us) (o : Nat) (vs : List Value) (hv : ∀ j v, vs[j]? = some v → us[o + j]? = some v) : W.rangeAt k o vs := fun j v hj => h.2.1 (o + j) v (hv j v hj)
theorem ownsRow_sub {base n cap g size : Nat} {e : TypeId} : ∀ (vs : List Value) (o : Nat) {w : World} {xs : List Value}, w.ownsRow base e size (.slice (some ⟨g, 0, none⟩) n cap) n xs → (w.setCells g o vs).ownsRow base e size (.slice (some ⟨g, 0, none⟩) n cap) n (setL xs o vs)
  | [], o, w, xs, h => h
  | v :: r, o, w, xs, h => by
    rw [World.setCells, setL]
    exact ownsRow_sub r (o + 1) (World.ownsRow.stored h o v).1
theorem setL_mid : ∀ (vs us P S : List Value), us.length = vs.length → setL (P ++ (us ++ S)) P.length vs = P ++ (vs ++ S)
  | [], us, P, S, h => by
    have : us = [] := List.eq_nil_of_length_eq_zero h
    subst this
    rfl
  | v :: r, [], P, S, h => by cases h
  | v :: r, u :: us, P, S, h => by
    have e : (P ++ (u :: us ++ S)).set P.length v = (P ++ [v]) ++ (us ++ S) := by
      rw [List.set_append_right _ _ (Nat.le_refl _), Nat.sub_self]
      simp
    rw [setL, e]
    have := setL_mid r us (P ++ [v]) S (by simpa using h)
    rw [List.length_append, List.length_singleton] at this
    rw [this]
    simp
theorem OwnN.put {w : World} {B g n cap : Nat} {A R : List Wt.Nd} {x : Wt.Nd} (h : OwnN w B (.slice (some ⟨g, 0, none⟩) n cap) (A ++ x :: R)) (hn : n = (A ++ x :: R).length) (k : Nat) (hk : k = A.length) (y : Wt.Nd) :
    OwnN (w.setCells g (k * 20) (nd20 y)) B (.slice (some ⟨g, 0, none⟩) n cap) (A ++ y :: R) := by
  subst hk hn
  unfold OwnN at h ⊢
  have e : (A ++ x :: R).length = (A ++ y :: R).length := by simp
  have h1 := ownsRow_sub (nd20 y) (A.length * 20) h
  have e1 : ndRow (A ++ x :: R) = ndRow A ++ (nd20 x ++ ndRow R) := by simp [ndRow]
  have e2 : ndRow (A ++ y :: R) = ndRow A ++ (nd20 y ++ ndRow R) := by simp [ndRow]
  rw [e1, show A.length * 20 = (ndRow A).length from (ndRow_length A).symm, setL_mid (nd20 y) (nd20 x) _ _ rfl] at h1
  rw [e2, ← e]
  rw [ndRow_length] at h1
  exact h1
theorem OwnN.at {w : World} {B g n cap : Nat} {L : List Wt.Nd} (h : OwnN w B (.slice (some ⟨g, 0, none⟩) n cap) L) (hn : n = L.length) (i : Nat) (hi : i < L.length) : w.rangeAt g (i * 20) (nd20 L[i]) ∧ w.there g (i * 20) 20 := by
  subst hn
  have hc : ∀ j, j < 20 → w.cell? ⟨g, i * 20 + j, none⟩ = (nd20 L[i])[j]? := fun j hj => by
    rw [World.ownsRow.cellAt h _ (by omega)]
    exact ndRow_get L i hi j hj
  refine ⟨fun j v hv => ?_, fun j hj => ⟨?_, World.ownsRow.frozenAt h _⟩⟩
  · have hj : j < 20 := by
      have := (List.getElem?_eq_some_iff.1 hv).1
      exact this
    rw [hc j hj, hv]
  · rw [hc j hj, List.getElem?_eq_getElem (show j < (nd20 L[i]).length from hj)]
    rfl
def NB (v u : Value) : Prop := ∀ g, v.ownBlock = some g → u.ownBlock = some g → False
theorem NB.symm {v u : Value} (h : NB v u) : NB u v := fun g a b => h g b a
theorem nb_new {v v' u : Value} {s : Nat} (h : NB v u) (hv : v'.ownBlock = v.ownBlock ∨ v'.ownBlock = some s) (hu : ∀ g, u.ownBlock = some g → g < s) : NB v' u := by
  intro g h1 h2
  rcases hv with e | e
  · exact h g (by rw [← e]; exact h1) h2
  · rw [e] at h1
    have := hu g h2
    simp only [Option.some.injEq] at h1
    omega
theorem nb_lt {v u : Value} {a b : Nat} (hv : ∀ g, v.ownBlock = some g → g < a) (hu : ∀ g, u.ownBlock = some g → b ≤ g) (h : a ≤ b) : NB v u := fun g h1 h2 => by
  have := hv g h1
  have := hu g h2
  omega
theorem own_kept {w w' : World} {B n sz : Nat} {e : TypeId} {v u : Value} {xs : List Value} (h : w.ownsRow B e sz v n xs) (hg : w.grownBy w' u.ownBlock) (hn : NB v u) : w'.ownsRow B e sz v n xs := by
  refine h.kept hg ?_
  cases hv : v.ownBlock with
  | none => exact Or.inl rfl
  | some g => exact Or.inr fun e => hn g hv e.symm
theorem own_leX {w : World} {B B' n sz : Nat} {e : TypeId} {v : Value} {xs : List Value} (h : w.ownsRow B e sz v n xs) (hb : B' ≤ B) : w.ownsRow B' e sz v n xs :=
  ⟨h.1, h.2.imp id fun ⟨g, cap, cur, a, b, c⟩ => ⟨g, cap, cur, a, Nat.le_trans hb b, c⟩⟩
def RdC (w : World) (v : Value) (xs : List Value) : Prop := ∀ g, v.ownBlock = some g → g < w.heap.size ∧ ∀ j, j < xs.length → w.cell? ⟨g, j, none⟩ = xs[j]?
theorem rdc_own {w : World} {B n sz : Nat} {e : TypeId} {v : Value} {xs : List Value} (h : w.ownsRow B e sz v n xs) : RdC w v xs := by
  intro g hg
  refine ⟨(h.lt g hg).2, fun j hj => ?_⟩
  rcases h.2 with ⟨rfl, _⟩ | ⟨g', cap, cur, rfl, _⟩
  · simp [Value.ownBlock] at hg
  · have e : g' = g := by simpa [Value.ownBlock] using hg
    subst e
    exact World.ownsRow.cellAt h j (by rw [← h.1]; exact hj)
theorem RdC.kept {w w' : World} {v u : Value} {xs : List Value} (h : RdC w v xs) (hg : w.grownBy w' u.ownBlock) (hn : NB v u) : RdC w' v xs := by
  intro g e
  obtain ⟨h1, h2⟩ := h g e
  refine ⟨Nat.lt_of_lt_of_le h1 hg.size, fun j hj => ?_⟩
  rw [World.cell?_of_block (hg.block g h1 (fun x => hn g e x.symm))]
  exact h2 j hj
theorem RdC.keep {w w' : World} {v u : Value} {xs : List Value} {m : Nat} (h : RdC w v xs) (hg : w.grownBy w' u.ownBlock) (hk : ∀ g j, u.ownBlock = some g → j < m → w'.cell? ⟨g, j, none⟩ = w.cell? ⟨g, j, none⟩) (hm : xs.length ≤ m) : RdC w' v xs := by
  intro g e
  obtain ⟨h1, h2⟩ := h g e
  refine ⟨Nat.lt_of_lt_of_le h1 hg.size, fun j hj => ?_⟩
  by_cases hx : u.ownBlock = some g
  · rw [hk g j hx (by omega)]; exact h2 j hj
  · rw [World.cell?_of_block (hg.block g h1 (fun x => hx x.symm))]
    exact h2 j hj
theorem RdC.alloc {w : World} {v : Value} {xs : List Value} (h : RdC w v xs) (o : Obj) : RdC (w.alloc o) v xs := by
  intro g e
  obtain ⟨h1, h2⟩ := h g e
  refine ⟨by simp only [World.size_alloc]; omega, fun j hj => ?_⟩
  rw [World.cell?_alloc_past _ _ _ h1]
  exact h2 j hj
theorem RdC.lt {w : World} {v : Value} {xs : List Value} (h : RdC w v xs) : ∀ g, v.ownBlock = some g → g < w.heap.size := fun g e => (h g e).1
def mkL (c : Int) (n : Nat) : List Wt.Nd := (List.range n).map fun (i : Nat) => mkN (c + (i : Int))
theorem mkL_length (c : Int) (n : Nat) : (mkL c n).length = n := by simp [mkL]
theorem mkL_succ (c : Int) (n : Nat) : mkL c (n + 1) = mkL c n ++ [mkN (c + (n : Int))] := by simp [mkL, List.range_succ]
def mkI (c : Int) (n : Nat) : List Int := (List.range n).map fun (i : Nat) => c + (i : Int)
theorem mkI_length (c : Int) (n : Nat) : (mkI c n).length = n := by simp [mkI]
theorem mkI_succ (c : Int) (n : Nat) : mkI c (n + 1) = mkI c n ++ [c + (n : Int)] := by simp [mkI, List.range_succ]
def intZ (zs : List Int) : List Value := zs.map fun z => .int .i64 z
theorem intZ_length (zs : List Int) : (intZ zs).length = zs.length := by simp [intZ]
abbrev OwnZ (w : World) (B : Nat) (v : Value) (zs : List Int) : Prop := w.ownsRow B 3 1 v zs.length (intZ zs)
theorem OwnZ.of {w : World} {B : Nat} {v : Value} {ks : List Nat} (h : OwnI w B v ks) : OwnZ w B v (ks.map fun (k : Nat) => (k : Int)) := by
  unfold OwnZ intZ
  rw [List.length_map, List.map_map]
  exact h
def N4 (w : World) (B : Nat) (v1 v2 v3 v4 : Value) (c1 c2 : List Wt.Nd) (c3 c4 : List Int) : Prop := OwnN w B v1 c1 ∧ OwnN w B v2 c2 ∧ OwnZ w B v3 c3 ∧ OwnZ w B v4 c4
def Sep (v1 v2 v3 v4 : Value) : Prop := NB v1 v2 ∧ NB v1 v3 ∧ NB v1 v4 ∧ NB v2 v3 ∧ NB v2 v4 ∧ NB v3 v4
theorem N4.grow1 {w w' : World} {B : Nat} {v1 v2 v3 v4 v1' : Value} {c1 c2 c1' : List Wt.Nd} {c3 c4 : List Int} (h : N4 w B v1 v2 v3 v4 c1 c2 c3 c4) (s : Sep v1 v2 v3 v4) (hg : w.grownBy w' v1.ownBlock) (ho : OwnN w' B v1' c1') : N4 w' B v1' v2 v3 v4 c1' c2 c3 c4 :=
  ⟨ho, own_kept h.2.1 hg s.1.symm, own_kept h.2.2.1 hg s.2.1.symm, own_kept h.2.2.2 hg s.2.2.1.symm⟩
theorem N4.grow2 {w w' : World} {B : Nat} {v1 v2 v3 v4 v2' : Value} {c1 c2 c2' : List Wt.Nd} {c3 c4 : List Int} (h : N4 w B v1 v2 v3 v4 c1 c2 c3 c4) (s : Sep v1 v2 v3 v4) (hg : w.grownBy w' v2.ownBlock) (ho : OwnN w' B v2' c2') : N4 w' B v1 v2' v3 v4 c1 c2' c3 c4 :=
  ⟨own_kept h.1 hg s.1, ho, own_kept h.2.2.1 hg s.2.2.2.1.symm, own_kept h.2.2.2 hg s.2.2.2.2.1.symm⟩
theorem N4.grow3 {w w' : World} {B : Nat} {v1 v2 v3 v4 v3' : Value} {c1 c2 : List Wt.Nd} {c3 c4 c3' : List Int} (h : N4 w B v1 v2 v3 v4 c1 c2 c3 c4) (s : Sep v1 v2 v3 v4) (hg : w.grownBy w' v3.ownBlock) (ho : OwnZ w' B v3' c3') : N4 w' B v1 v2 v3' v4 c1 c2 c3' c4 :=
  ⟨own_kept h.1 hg s.2.1, own_kept h.2.1 hg s.2.2.2.1, ho, own_kept h.2.2.2 hg s.2.2.2.2.2.symm⟩
theorem N4.grow4 {w w' : World} {B : Nat} {v1 v2 v3 v4 v4' : Value} {c1 c2 : List Wt.Nd} {c3 c4 c4' : List Int} (h : N4 w B v1 v2 v3 v4 c1 c2 c3 c4) (s : Sep v1 v2 v3 v4) (hg : w.grownBy w' v4.ownBlock) (ho : OwnZ w' B v4' c4') : N4 w' B v1 v2 v3 v4' c1 c2 c3 c4' :=
  ⟨own_kept h.1 hg s.2.2.1, own_kept h.2.1 hg s.2.2.2.2.1, own_kept h.2.2.1 hg s.2.2.2.2.2, ho⟩
theorem N4.alloc {w : World} {B : Nat} {v1 v2 v3 v4 : Value} {c1 c2 : List Wt.Nd} {c3 c4 : List Int} (h : N4 w B v1 v2 v3 v4 c1 c2 c3 c4) (o : Obj) : N4 (w.alloc o) B v1 v2 v3 v4 c1 c2 c3 c4 := ⟨h.1.alloc o, h.2.1.alloc o, h.2.2.1.alloc o, h.2.2.2.alloc o⟩
theorem Sep.new1 {v1 v2 v3 v4 v' : Value} {s B : Nat} {w : World} {c1 c2 : List Wt.Nd} {c3 c4 : List Int} (h : Sep v1 v2 v3 v4) (n : N4 w B v1 v2 v3 v4 c1 c2 c3 c4) (hv : v'.ownBlock = v1.ownBlock ∨ v'.ownBlock = some s) (hs : w.heap.size ≤ s) : Sep v' v2 v3 v4 :=
  ⟨nb_new h.1 hv fun g e => Nat.lt_of_lt_of_le (n.2.1.lt g e).2 hs, nb_new h.2.1 hv fun g e => Nat.lt_of_lt_of_le (n.2.2.1.lt g e).2 hs, nb_new h.2.2.1 hv fun g e => Nat.lt_of_lt_of_le (n.2.2.2.lt g e).2 hs, h.2.2.2⟩
theorem Sep.new2 {v1 v2 v3 v4 v' : Value} {s B : Nat} {w : World} {c1 c2 : List Wt.Nd} {c3 c4 : List Int} (h : Sep v1 v2 v3 v4) (n : N4 w B v1 v2 v3 v4 c1 c2 c3 c4) (hv : v'.ownBlock = v2.ownBlock ∨ v'.ownBlock = some s) (hs : w.heap.size ≤ s) : Sep v1 v' v3 v4 :=
  ⟨(nb_new h.1.symm hv fun g e => Nat.lt_of_lt_of_le (n.1.lt g e).2 hs).symm, h.2.1, h.2.2.1, nb_new h.2.2.2.1 hv fun g e => Nat.lt_of_lt_of_le (n.2.2.1.lt g e).2 hs, nb_new h.2.2.2.2.1 hv fun g e => Nat.lt_of_lt_of_le (n.2.2.2.lt g e).2 hs, h.2.2.2.2.2⟩
theorem Sep.new3 {v1 v2 v3 v4 v' : Value} {s B : Nat} {w : World} {c1 c2 : List Wt.Nd} {c3 c4 : List Int} (h : Sep v1 v2 v3 v4) (n : N4 w B v1 v2 v3 v4 c1 c2 c3 c4) (hv : v'.ownBlock = v3.ownBlock ∨ v'.ownBlock = some s) (hs : w.heap.size ≤ s) : Sep v1 v2 v' v4 :=
  ⟨h.1, (nb_new h.2.1.symm hv fun g e => Nat.lt_of_lt_of_le (n.1.lt g e).2 hs).symm, h.2.2.1, (nb_new h.2.2.2.1.symm hv fun g e => Nat.lt_of_lt_of_le (n.2.1.lt g e).2 hs).symm, h.2.2.2.2.1, nb_new h.2.2.2.2.2 hv fun g e => Nat.lt_of_lt_of_le (n.2.2.2.lt g e).2 hs⟩
theorem Sep.new4 {v1 v2 v3 v4 v' : Value} {s B : Nat} {w : World} {c1 c2 : List Wt.Nd} {c3 c4 : List Int} (h : Sep v1 v2 v3 v4) (n : N4 w B v1 v2 v3 v4 c1 c2 c3 c4) (hv : v'.ownBlock = v4.ownBlock ∨ v'.ownBlock = some s) (hs : w.heap.size ≤ s) : Sep v1 v2 v3 v' :=
  ⟨h.1, h.2.1, (nb_new h.2.2.1.symm hv fun g e => Nat.lt_of_lt_of_le (n.1.lt g e).2 hs).symm, h.2.2.2.1, (nb_new h.2.2.2.2.1.symm hv fun g e => Nat.lt_of_lt_of_le (n.2.1.lt g e).2 hs).symm, (nb_new h.2.2.2.2.2.symm hv fun g e => Nat.lt_of_lt_of_le (n.2.2.1.lt g e).2 hs).symm⟩
theorem OwnZ.put {w : World} {B g n cap : Nat} {A R : List Int} {x : Int} (h : OwnZ w B (.slice (some ⟨g, 0, none⟩) n cap) (A ++ x :: R)) (hn : n = (A ++ x :: R).length) (k : Nat) (hk : k = A.length) (y : Int) :
    OwnZ (w.setCell ⟨g, k, none⟩ (.int .i64 y)) B (.slice (some ⟨g, 0, none⟩) n cap) (A ++ y :: R) := by
  subst hk hn
  have h1 := (World.ownsRow.stored h A.length (.int .i64 y)).1
  have e1 : (intZ (A ++ x :: R)).set A.length (.int .i64 y) = intZ (A ++ y :: R) := by
    unfold intZ
    rw [List.map_append, List.map_append, List.set_append_right _ _ (by simp)]
    simp
  have e2 : (A ++ x :: R).length = (A ++ y :: R).length := by simp
  rw [e1] at h1
  unfold OwnZ
  rw [← e2]
  exact h1
theorem OwnZ.at {w : World} {B g n cap : Nat} {L : List Int} (h : OwnZ w B (.slice (some ⟨g, 0, none⟩) n cap) L) (hn : n = L.length) (i : Nat) (hi : i < L.length) : w.cell? ⟨g, i, none⟩ = some (.int .i64 L[i]) ∧ w.frozen? ⟨g, i, none⟩ = false := by
  subst hn
  refine ⟨?_, World.ownsRow.frozenAt h _⟩
  rw [World.ownsRow.cellAt h i (by omega)]
  unfold intZ
  rw [List.getElem?_map, List.getElem?_eq_getElem hi]; rfl
theorem OwnZ.form {w : World} {B : Nat} {v : Value} {zs : List Int} (h : OwnZ w B v zs) : ∃ a c, v = .slice a zs.length c ∧ (0 < zs.length → ∃ g, a = some ⟨g, 0, none⟩ ∧ B ≤ g) := by
  rcases h.2 with ⟨e, h0⟩ | ⟨g, cap, cur, e, hg, _⟩
  · exact ⟨none, 0, by rw [e, h0], fun h => by omega⟩
  · exact ⟨some ⟨g, 0, none⟩, cap, e, fun _ => ⟨g, rfl, hg⟩⟩
theorem OwnN.formX {w : World} {B : Nat} {v : Value} {zs : List Wt.Nd} (h : OwnN w B v zs) : ∃ a c, v = .slice a zs.length c ∧ (0 < zs.length → ∃ g, a = some ⟨g, 0, none⟩ ∧ B ≤ g) := by
  rcases h.2 with ⟨e, h0⟩ | ⟨g, cap, cur, e, hg, _⟩
  · exact ⟨none, 0, by rw [e, h0], fun h => by omega⟩
  · exact ⟨some ⟨g, 0, none⟩, cap, e, fun _ => ⟨g, rfl, hg⟩⟩
theorem rdn_arg {w : World} {v : Value} {L : List Wt.Nd} {g : Nat} (h : RdC w v (ndRow L)) (hv : v.ownBlock = some g) (i : Nat) (hi : i < L.length) : w.cell? ⟨g, i * 20 + 9, none⟩ = some (.int .i64 (L[i]).ar) := by
  rw [(h g hv).2 (i * 20 + 9) (by rw [ndRow_length]; omega), ndRow_get L i hi 9 (by omega)]
  rfl
theorem rdz_at {w : World} {v : Value} {L : List Int} {g : Nat} (h : RdC w v (intZ L)) (hv : v.ownBlock = some g) (i : Nat) (hi : i < L.length) : w.cell? ⟨g, i, none⟩ = some (.int .i64 L[i]) := by
  rw [(h g hv).2 i (by rw [intZ_length]; exact hi)]
  unfold intZ
  rw [List.getElem?_map, List.getElem?_eq_getElem hi]; rfl
theorem mkL_ar (c : Int) (n m : Nat) (t : Int) (i : Nat) (h : i < (mkL c n ++ List.replicate m (mkN t)).length) : ((mkL c n ++ List.replicate m (mkN t))[i]).ar = if i < n then c + (i : Int) else t := by
  by_cases hi : i < n
  · rw [if_pos hi, List.getElem_append_left (by rw [mkL_length]; exact hi)]
    simp [mkL, mkN]
  · rw [if_neg hi, List.getElem_append_right (by rw [mkL_length]; omega), List.getElem_replicate]
    simp [mkN]
theorem mkI_at (c : Int) (n m : Nat) (t : Int) (i : Nat) (h : i < (mkI c n ++ List.replicate m t).length) : (mkI c n ++ List.replicate m t)[i] = if i < n then c + (i : Int) else t := by
  by_cases hi : i < n
  · rw [if_pos hi, List.getElem_append_left (by rw [mkI_length]; exact hi)]
    simp [mkI]
  · rw [if_neg hi, List.getElem_append_right (by rw [mkI_length]; omega), List.getElem_replicate]
theorem rep_app {α : Type} (l : List α) (i : Nat) (x : α) : l ++ List.replicate (i + 1) x = (l ++ List.replicate i x) ++ [x] := by rw [List.replicate_succ', List.append_assoc]
theorem prsR_row {l : List UInt8} {row : List Wt.Nd} (h : prsR l = .inl row) : (∀ x ∈ row, Wt.FitN x) ∧ Wt.check row = 0 := by
  unfold prsR at h
  cases hr : scanAll l with
  | inr q =>
    obtain ⟨c', p'⟩ := q
    rw [hr] at h; cases h
  | inl ts =>
    rw [hr] at h
    simp only at h
    have hok : ∀ t ∈ ts.map Wlx.tv, TokOk t := by
      unfold scanAll at hr
      split at hr
      · cases hr
      · exact (scan_ok _ 0 l (Nat.le_refl _) (by omega) ts hr).2
    unfold prsT at h
    cases hp : pall (lv (l.length : Int) (10 * (ts.map Wlx.tv).length + 9) 0) (l.length : Int) (ts.map Wlx.tv) with
    | inr q => rw [hp] at h; cases h
    | inl q =>
      obtain ⟨row', rr⟩ := q
      rw [hp] at h
      simp only at h
      split at h
      · rename_i hc
        simp only [Sum.inl.injEq] at h
        subst h
        refine ⟨?_, hc⟩
        unfold pall at hp
        split at hp
        · cases hp
        · rename_i row'' he
          simp only [Sum.inl.injEq, Prod.mk.injEq] at hp
          rw [← hp.1]
          exact (lv_fit _ _ _ _ _ _ hok he).1
        · cases hp
      · cases h
end Go.Proofs.YtlggnpohhahdlaaGreatDoor
