/- TCall, LAppend, LKeep, TArgs. -/
import Derived.Test.YthofehcchickeaaGreatDoorQ21
import Derived.OwnWalk
import Derived.Laws.AppendOwnNone
import Derived.Laws.OwnMore
import Derived.Maps.AppendAt
import Derived.Laws.Tables
namespace Go.Proofs.YthofehcchickeaaGreatDoor
open Go.RowKit Go.Shelf
set_option linter.unusedVariables false
def Pts (w : World) (lo : Nat) (sl : Value) (c : Nat) (rows : List Wt.Nd) : Prop :=
  ∃ (n : Nat) (av : Option Addr) (cap : Nat) (ps : List (Wt.Nd × Value)) (rws : List (List Wt.Nd)), sl = .slice av c cap ∧ ps.length = c ∧ rws.length = c ∧ rows = rws.flatten ∧
    ∀ i (h : i < ps.length) (h' : i < rws.length), ∃ bb, av = some ⟨bb, 0, none⟩ ∧ lo ≤ bb ∧ w.rangeAt bb (i * 21) (pt21 (ps[i]).1 (ps[i]).2) ∧ PtIs w (fun b => lo ≤ b) n (ps[i]).1 (ps[i]).2 (rws[i])
theorem Pts.node {w : World} {lo : Nat} {sl : Value} {c : Nat} {rows : List Wt.Nd} (h : Pts w lo sl c rows) (x : Wt.Nd) : ∃ n, PtIs w (fun b => lo ≤ b) n x sl (x :: rows) := by
  obtain ⟨n, av, cap, ps, rws, rfl, h1, h2, rfl, h3⟩ := h
  exact ⟨n + 1, av, cap, ps, rws, by rw [h1], by rw [h1, h2], rfl, h3⟩
abbrev AR : Type := (Nat × List Wt.Nd × List Wlx.TV) ⊕ (Int × Int)
def APost (kp : Nat) (en : Int) (r : AR) (w : World) (e : Ending) (w' : World) : Prop := match r with
  | .inl (c, rows, rest) => ∃ sl, e = .returned sl ∧ Pts w' w.heap.size sl c rows ∧ PSt w' kp rest en ∧ w.grownBy w' (some kp)
  | .inr (c, p) => e = stop c p ∧ w.grownBy w' (some kp)
def ArgOk (kp : Nat) (en : Int) (sub : List Wlx.TV → AR) (n : Nat) : Prop :=
  ∀ (ts : List Wlx.TV) (w : World), PSt w kp ts en → ts.length ≤ n → ts.length ≤ 1024 → (∀ t ∈ ts, TokOk t) → Env w → Calls Tryz.prog 203 #[.pointer (some ⟨kp, 0, none⟩)] w fun e w' => APost kp en (sub ts) w e w'
def pca (suba : List Wlx.TV → AR) (en : Int) (nm : List UInt8) (ts : List Wlx.TV) : PR :=
  if Wt.fnNm ⟨nm.toArray⟩ then (match suba (ts.drop 2) with
    | .inr e => .inr e
    | .inl (c, rows, r) => .inl (callN ⟨nm.toArray⟩ c :: rows, r))
  else .inr (50, pos ts en)
set_option maxHeartbeats 8000000 in
set_option maxRecDepth 100000 in
theorem call_any (kp : Nat) (en : Int) (suba : List Wlx.TV → AR) (n : Nat) (HA : ArgOk kp en suba n) (hk8 : 8 ≤ kp) : CallOk kp en (pca suba en) (n + 2) := by
  intro nm ts w h hn hts hok hnm hfo hE
  have hB0 := ball (Below.refl _ w) (.cells #[.int .i64 0, .int .i64 0, .int .i64 0, .int .i64 0, .string ⟨#[]⟩, .bool false, .int .i64 0, .int .i64 0, .string ⟨#[]⟩, .int .i64 0, .string ⟨#[]⟩, .int .i64 0, .int .i64 0, .bool false, .bool false, .string ⟨#[]⟩, .int .i64 0, .int .i64 0, .bool false, .bool false, .slice none 0 0] 78)
  have pZ : AtL (w.alloc (.cells #[.int .i64 0, .int .i64 0, .int .i64 0, .int .i64 0, .string ⟨#[]⟩, .bool false, .int .i64 0, .int .i64 0, .string ⟨#[]⟩, .int .i64 0, .string ⟨#[]⟩, .int .i64 0, .int .i64 0, .bool false, .bool false, .string ⟨#[]⟩, .int .i64 0, .int .i64 0, .bool false, .bool false, .slice none 0 0] 78)) w.heap.size (pt21 (bare 0) (.slice none 0 0)) := AtL.new0 w _ _
  have h0 := h.below hB0
  have hE0 := hE.below hB0
  have hkp := h.lt
  obtain ⟨a, b, r, hr⟩ := fol_cons hfo
  have hlen : nm.length ≤ 1024 := by rw [← hnm]; exact (tokOk_hd en hok).1
  have FN := fun w => tfn_any ⟨nm.toArray⟩ w (by show nm.length ≤ _; omega)
  have M0 := fun w h => must_false kp ts en w h
  unfold pca
  clear hnm hfo
  cases hq : Wt.fnNm ⟨nm.toArray⟩ with
  | false =>
    rw [hq] at FN
    rw [if_neg (by decide)]
    simp only [PPost]
    unfold stop at M0 ⊢
    clear hr
    go_enter Tryz.func194, Tryz.ntmps194
    go_wp2_with fail
    generalize w.alloc (.cells #[.int .i64 0, .int .i64 0, .int .i64 0, .int .i64 0, .string ⟨#[]⟩, .bool false, .int .i64 0, .int .i64 0, .string ⟨#[]⟩, .int .i64 0, .string ⟨#[]⟩, .int .i64 0, .int .i64 0, .bool false, .bool false, .string ⟨#[]⟩, .int .i64 0, .int .i64 0, .bool false, .bool false, .slice none 0 0] 78) = wa at *
    refine (FN _).mono ?_
    rintro e wb ⟨rfl, rfl⟩
    go_wp2_with fail
    refine (M0 _ h0).mono ?_
    rintro e w5 ⟨rfl, hb⟩
    go_wp2
    exact ⟨rfl, rfl, grown_trans (below_grown hB0 (some kp)) (below_grown hb (some kp))⟩
  | true =>
    rw [hq] at FN
    rw [if_pos rfl]
    subst hr
    simp only [List.drop_succ_cons, List.drop_zero]
    cases hs : suba r with
    | inr q =>
      obtain ⟨c, p⟩ := q
      simp only [PPost]
      go_enter Tryz.func194, Tryz.ntmps194
      go_wp2_with fail
      generalize w.alloc (.cells #[.int .i64 0, .int .i64 0, .int .i64 0, .int .i64 0, .string ⟨#[]⟩, .bool false, .int .i64 0, .int .i64 0, .string ⟨#[]⟩, .int .i64 0, .string ⟨#[]⟩, .int .i64 0, .int .i64 0, .bool false, .bool false, .string ⟨#[]⟩, .int .i64 0, .int .i64 0, .bool false, .bool false, .slice none 0 0] 78) = wa at *
      refine (FN _).mono ?_
      rintro e wb ⟨rfl, rfl⟩
      go_wp2_with fail
      refine (must_true kp _).mono ?_
      rintro e w4 ⟨rfl, rfl⟩
      have P := pass_any 2 kp [a, b] r en _ h0 rfl (by decide) hts
      go_wp2_with fail
      refine P.mono ?_
      rintro e w1 ⟨rfl, h1, hg1⟩
      have hz := pZ.lt
      have pZ1 := pZ.grown hg1 (by intro e; have := Option.some.inj e; omega)
      have hG1 := grown_trans (below_grown hB0 (some kp)) hg1
      have hE1 := hE0.grown hg1 hk8
      have hs1 := hg1.size
      clear pZ h0 hB0 hE0 P hg1
      go_wp2_with fail
      refine (HA r _ h1 (by simp at hn; omega) (by simp at hts; omega) (fun t ht => hok t (by simp [ht])) hE1).mono ?_
      rintro e w2 hc
      rw [hs] at hc
      simp only [APost] at hc
      obtain ⟨rfl, hg⟩ := hc
      unfold stop
      go_wp2
      exact ⟨rfl, rfl, grown_trans hG1 hg⟩
    | inl q =>
      obtain ⟨c, rows, r2⟩ := q
      simp only [PPost]
      go_enter Tryz.func194, Tryz.ntmps194
      go_wp2_with fail
      generalize w.alloc (.cells #[.int .i64 0, .int .i64 0, .int .i64 0, .int .i64 0, .string ⟨#[]⟩, .bool false, .int .i64 0, .int .i64 0, .string ⟨#[]⟩, .int .i64 0, .string ⟨#[]⟩, .int .i64 0, .int .i64 0, .bool false, .bool false, .string ⟨#[]⟩, .int .i64 0, .int .i64 0, .bool false, .bool false, .slice none 0 0] 78) = wa at *
      refine (FN _).mono ?_
      rintro e wb ⟨rfl, rfl⟩
      go_wp2_with fail
      refine (must_true kp _).mono ?_
      rintro e w4 ⟨rfl, rfl⟩
      have P := pass_any 2 kp [a, b] r en _ h0 rfl (by decide) hts
      go_wp2_with fail
      refine P.mono ?_
      rintro e w1 ⟨rfl, h1, hg1⟩
      have hz := pZ.lt
      have pZ1 := pZ.grown hg1 (by intro e; have := Option.some.inj e; omega)
      have hG1 := grown_trans (below_grown hB0 (some kp)) hg1
      have hE1 := hE0.grown hg1 hk8
      have hs1 := hg1.size
      clear pZ h0 hB0 hE0 P hg1
      go_wp2_with fail
      refine (HA r _ h1 (by simp at hn; omega) (by simp at hts; omega) (fun t ht => hok t (by simp [ht])) hE1).mono ?_
      rintro e w2 hc
      rw [hs] at hc
      simp only [APost] at hc
      obtain ⟨sl, rfl, hP, h2, hg⟩ := hc
      obtain ⟨nn, hp⟩ := hP.node (callN ⟨nm.toArray⟩ c)
      obtain ⟨_, av, cap, _, _, rfl, _⟩ := hP
      have hz1 := pZ1.lt
      have pZ2 := pZ1.grown hg (by intro e; have := Option.some.inj e; omega)
      have hG2 := grown_trans hG1 hg
      have hth : World.there w2 w.heap.size 0 (pt21 (callN ⟨nm.toArray⟩ c) (.slice av c cap)).toArray.size := pZ2.there
      clear pZ1 hG1 hE1 h1 hg
      go_wp2_with ((with_reducible refine wpList_store_mid ?_ 78 (.tmp 4) (.tmp 19) ?_ (w.heap.size) 0 (pt21 (callN ⟨nm.toArray⟩ c) (.slice av c cap)).toArray ?_ ?_ ?_ ?_ ?_ ?_); rfl; rfl; rfl; rfl; exact hth; kernel_rfl; exact one21 _ _ rfl)
      have pZ9 : AtL (w2.setCells w.heap.size 0 (pt21 (callN ⟨nm.toArray⟩ c) (.slice av c cap))) w.heap.size (pt21 (callN ⟨nm.toArray⟩ c) (.slice av c cap)) := pZ2.setAll rfl
      refine bodyPost_ret (results_cell rfl _ _ w.heap.size (pt21 (callN ⟨nm.toArray⟩ c) (.slice av c cap)) _ rfl pZ9.range Tryz.underlying78 rfl (by kernel_rfl)) rfl ?_
      exact ⟨_, rfl, (Pt.far (show Pt w2 _ (ptV (callN ⟨nm.toArray⟩ c) (.slice av c cap)) _ from ⟨nn, _, _, rfl, hp⟩) (by omega) 0 _).mono (by omega), h2.farAll hkp _ 0, grown_setAll hG2 (Nat.le_refl _) _ 0⟩
open Go.RowKit
def tv3 (t : Wlx.TV) : List Value := [.int .i64 t.k, .string ⟨t.t.toArray⟩, .int .i64 t.p]
def rowV (ts : List Wlx.TV) : List Value := ts.flatMap tv3
theorem rowV_app (a b : List Wlx.TV) : rowV (a ++ b) = rowV a ++ rowV b := by simp [rowV]
theorem rowV_length (ts : List Wlx.TV) : (rowV ts).length = ts.length * 3 := by
  induction ts with
  | nil => rfl
  | cons t r ih =>
    show (tv3 t ++ rowV r).length = _
    rw [List.length_append, ih, List.length_cons]
    show 3 + _ = _
    omega
theorem rowV_get : ∀ (ts : List Wlx.TV) (i : Nat) (h : i < ts.length), (rowV ts)[i * 3]? = some (.int .i64 (ts[i]).k) ∧ (rowV ts)[i * 3 + 1]? = some (.string ⟨(ts[i]).t.toArray⟩) ∧ (rowV ts)[i * 3 + 2]? = some (.int .i64 (ts[i]).p)
  | [], i, h => by simp at h
  | t :: r, 0, _ => ⟨rfl, rfl, rfl⟩
  | t :: r, i + 1, h => by
    obtain ⟨h0, h1, h2⟩ := rowV_get r i (by simpa using h)
    have e : ∀ j, (rowV (t :: r))[j + 3]? = (rowV r)[j]? := fun j => rfl
    rw [show (i + 1) * 3 = i * 3 + 3 by omega, show i * 3 + 3 + 1 = i * 3 + 1 + 3 by omega, show i * 3 + 3 + 2 = i * 3 + 2 + 3 by omega, e, e, e]
    exact ⟨h0, h1, h2⟩
theorem rowV_tv (ts : List Wlx.Tok) : rowV (ts.map Wlx.tv) = rowT ts := by
  induction ts with
  | nil => rfl
  | cons t r ih =>
    show tv3 (Wlx.tv t) ++ rowV (r.map Wlx.tv) = tok3 t ++ rowT r
    rw [ih]; rfl
theorem ReadV.flat {w : World} {av : Option Addr} {len cap : Nat} {ts : List Wlx.TV} (h : ReadV w (.slice av len cap) ts) : ∀ ad, av = some ad → ∀ j u, (rowV ts)[j]? = some u → w.cell? (ad.add j) = some u := by
  obtain ⟨av', cap', e, h⟩ := h
  simp only [Value.slice.injEq] at e
  obtain ⟨rfl, rfl, rfl⟩ := e
  intro ad had j u hu
  have hj : j < ts.length * 3 := by
    have := (List.getElem?_eq_some_iff.1 hu).1
    rw [rowV_length] at this; exact this
  obtain ⟨bb, off, e1, hb, c0, c1, c2⟩ := h (j / 3) (by omega)
  obtain ⟨r0, r1, r2⟩ := rowV_get ts (j / 3) (by omega)
  rw [had] at e1
  obtain rfl := Option.some.inj e1
  have ea : (⟨bb, off, none⟩ : Addr).add j = ⟨bb, off + j, none⟩ := by
    unfold Addr.add
    by_cases h0 : j = 0
    · rw [if_pos h0, h0]; rfl
    · rw [if_neg h0]
  rw [ea]
  have hm : j % 3 = 0 ∨ j % 3 = 1 ∨ j % 3 = 2 := by omega
  rcases hm with hm | hm | hm
  · rw [show j / 3 * 3 = j by omega] at r0
    rw [r0] at hu
    rw [show off + j = off + j / 3 * 3 by omega, c0]; exact hu
  · rw [show j / 3 * 3 + 1 = j by omega] at r1
    rw [r1] at hu
    rw [show off + j = off + j / 3 * 3 + 1 by omega, c1]; exact hu
  · rw [show j / 3 * 3 + 2 = j by omega] at r2
    rw [r2] at hu
    rw [show off + j = off + j / 3 * 3 + 2 by omega, c2]; exact hu
theorem run_append_keep {P : Program} (w : World) (base : Nat) (t ty e : TypeId) (i : TypeInfo) (z : Value) (size bytes : Nat) (ht : P.underlying t = some (.slice e)) (hi : P.info? e = some i) (hz : i.zero = some z)
    (hsize : i.size = size) (hby : i.bytes = bytes) (hzs : z.cells.size = size) (hsz : 0 < size)
    (v : Value) (n : Nat) (xs : List Value) (hown : w.ownsRow base e size v n xs)
    (a : Addr) (m c : Nat) (news : List Value) (hl : news.length = m * size) (hnews : ∀ j u, news[j]? = some u → w.cell? (a.add j) = some u) (h1 : ∀ u ∈ news, u.oneCell' = true)
    (h63 : n + m ≤ maxLen) (hbytes : (n + m) * bytes ≤ 140737488355328) (hbase : base ≤ w.heap.size) :
    ∃ v' w', (Builtin.append_ #[t, t] ty #[v, .slice (some a) m c]).run P w = .ok v' w' ∧ w'.ownsRow base e size v' (n + m) (xs ++ news) ∧ w.grownBy w' v.ownBlock ∧
      (v'.ownBlock = v.ownBlock ∨ v'.ownBlock = some w.heap.size) ∧ (∀ g j, v.ownBlock = some g → j < n * size → w'.cell? ⟨g, j, none⟩ = w.cell? ⟨g, j, none⟩) := by
  obtain ⟨v', w', hr, h2, h3, _, h5⟩ := run_append_own_at (P := P) w base t ty e i z size bytes ht hi hz hsize hby hzs hsz v n xs hown a m c news hl hnews h1 h63 hbytes hbase
  refine ⟨v', w', hr, h2, h3, h5, ?_⟩
  intro g j hg hj
  subst hsize hby
  have hsmall : n + m ≤ 9223372036854775807 := by simp only [maxLen] at h63; omega
  rcases hown.2 with ⟨rfl, rfl⟩ | ⟨g', cap, cur, rfl, hbg, hgg, hnc, hcm, hcs, htake⟩
  · simp [Value.ownBlock] at hg
  · obtain rfl : g' = g := by simpa [Value.ownBlock] using hg
    have hjc : j < cur.size := by
      rw [hcs]
      exact Nat.lt_of_lt_of_le hj (Nat.mul_le_mul_right _ hnc)
    by_cases hroom : n + m ≤ cap
    · have hfit : n * i.size + news.length ≤ cur.size := by rw [hl, hcs, ← Nat.add_mul]; exact Nat.mul_le_mul_right _ hroom
      have hr2 := run_append_room (P := P) w t ty e i ht hi g' n cap cur hgg a m c news hl hnews h1 hroom hfit
      rw [hr2] at hr
      simp only [Result.ok.injEq] at hr
      obtain ⟨_, rfl⟩ := hr
      rw [cell_of_row _ g' j _ e (0, 0) (setRow_heap w g' cur _ e _ hgg), cell_of_row w g' j cur e (0, 0) hgg]
      simp only [List.getElem?_toArray]
      rw [List.append_assoc, List.getElem?_append_left (by rw [List.length_take, Array.length_toList]; omega), List.getElem?_take, if_pos hj]
      simp
    · have holds : ∀ j u, xs[j]? = some u → w.cell? ((⟨g', 0, none⟩ : Addr).add j) = some u := hown.cells (g := g') rfl
      have hr2 := run_append_grow (P := P) w t ty e i z ht hi hz ⟨g', 0, none⟩ n cap xs hown.1 holds a m c news hl hnews (by omega) (by omega) (growslice_fits (by omega) hbytes)
      rw [hr2] at hr
      simp only [Result.ok.injEq] at hr
      obtain ⟨_, rfl⟩ := hr
      have hlt : g' < w.heap.size := (Array.getElem?_eq_some_iff.1 hgg).1
      exact World.cell?_of_block (heap_alloc_old w.drew _ hlt)
theorem wpList_append_keep {P : Program} (w : World) {ops : Array Oper} {rest : List Oper} {o : Oper} {a : Act} {Q : Exit → Act → World → Prop} (hgd : o.guard = none) (s x : Operand) (t : TypeId)
    (ho : o.op = .call { callee := .builtin .append, args := #[s, x], argTypes := #[t, t] })
    (base : Nat) (e : TypeId) (i : TypeInfo) (z : Value) (size bytes : Nat) (ht : P.underlying t = some (.slice e)) (hi : P.info? e = some i) (hz : i.zero = some z)
    (hsize : i.size = size) (hby : i.bytes = bytes) (hzs : z.cells.size = size) (hsz : 0 < size)
    (v : Value) (n : Nat) (xs : List Value) (hs : a.eval s = v) (hown : w.ownsRow base e size v n xs)
    (ad : Addr) (m c : Nat) (news : List Value) (hx : a.eval x = .slice (some ad) m c) (hl : news.length = m * size) (hnews : ∀ j u, news[j]? = some u → w.cell? (ad.add j) = some u) (h1 : ∀ u ∈ news, u.oneCell' = true)
    (h63 : n + m ≤ maxLen) (hbytes : (n + m) * bytes ≤ 140737488355328) (hbase : base ≤ w.heap.size)
    (h : ∀ v' w', w'.ownsRow base e size v' (n + m) (xs ++ news) → w.grownBy w' v.ownBlock → (v'.ownBlock = v.ownBlock ∨ v'.ownBlock = some w.heap.size) → (∀ g j, v.ownBlock = some g → j < n * size → w'.cell? ⟨g, j, none⟩ = w.cell? ⟨g, j, none⟩) → wpList P ops Q rest (a.put o.dst v') w') : wpList P ops Q (o :: rest) a w := by
  refine wpList_plain hgd fun K hK => ?_
  obtain ⟨v', w', hr, h2, h3, h4, h5⟩ := run_append_keep (P := P) w base t o.type e i z size bytes ht hi hz hsize hby hzs hsz v n xs hown ad m c news hl hnews h1 h63 hbytes hbase
  unfold Oper.wp execOp
  simp only [ho, resolve, invoke, builtin, Sem.run_bind, Sem.run_pure, Result.andThen_ok, List.map_toArray, List.map_cons, List.map_nil, hs, hx, hr]
  exact hK _ _ (h v' w' h2 h3 h4 h5)
abbrev OwnV (w : World) (base : Nat) (v : Value) (ts : List Wlx.TV) : Prop := w.ownsRow base 107 3 v ts.length (rowV ts)
theorem OwnV.of {w : World} {B : Nat} {v : Value} {ts : List Wlx.Tok} (h : OwnT w B v ts) : OwnV w B v (ts.map Wlx.tv) := by
  show w.ownsRow B _ 3 v (ts.map Wlx.tv).length (rowV (ts.map Wlx.tv))
  rw [List.length_map, rowV_tv]; exact h
theorem OwnV.form {w : World} {B : Nat} {v : Value} {ts : List Wlx.TV} (h : OwnV w B v ts) : ∃ a c, v = .slice a ts.length c ∧ (0 < ts.length → ∃ g, a = some ⟨g, 0, none⟩ ∧ B ≤ g ∧ g < w.heap.size) := by
  rcases h.2 with ⟨e, h0⟩ | ⟨g, cap, cur, e, hg, hc, _⟩
  · exact ⟨none, 0, by rw [e, h0], fun h => by omega⟩
  · exact ⟨some ⟨g, 0, none⟩, cap, e, fun _ => ⟨g, rfl, hg, (Array.getElem?_eq_some_iff.1 hc).1⟩⟩
theorem OwnV.below {B : Nat} {v : Value} {ts : List Wlx.TV} {w w' : World} (h : OwnV w B v ts) (hb : Below w.heap.size w w') : OwnV w' B v ts :=
  h.kept (row := none) ⟨hb.os, hb.tape, hb.output, hb.size, fun k hk _ => hb.block k hk⟩ (by cases v.ownBlock <;> simp)
def RdV (w : World) (a : Option Addr) (ts : List Wlx.TV) : Prop :=
  ∀ i (h : i < ts.length), ∃ g, a = some ⟨g, 0, none⟩ ∧ g < w.heap.size ∧ w.cell? ⟨g, i * 3, none⟩ = some (.int .i64 (ts[i]).k) ∧ w.cell? ⟨g, i * 3 + 1, none⟩ = some (.string ⟨(ts[i]).t.toArray⟩) ∧ w.cell? ⟨g, i * 3 + 2, none⟩ = some (.int .i64 (ts[i]).p)
theorem RdV.own {w : World} {B n c : Nat} {a : Option Addr} {ts : List Wlx.TV} (h : OwnV w B (.slice a n c) ts) : RdV w a ts := by
  intro i hi
  rcases h.2 with ⟨_, h0⟩ | ⟨g, cap, cur, e, hg, hc, _⟩
  · omega
  · simp only [Value.slice.injEq] at e
    obtain ⟨rfl, rfl, rfl⟩ := e
    obtain ⟨r0, r1, r2⟩ := rowV_get ts i hi
    refine ⟨g, rfl, (Array.getElem?_eq_some_iff.1 hc).1, ?_, ?_, ?_⟩
    · rw [World.ownsRow.cellAt h _ (by omega), r0]
    · rw [World.ownsRow.cellAt h _ (by omega), r1]
    · rw [World.ownsRow.cellAt h _ (by omega), r2]
theorem RdV.grown {w w' : World} {row : Option Nat} {a : Option Addr} {ts : List Wlx.TV} (h : RdV w a ts) (hg : w.grownBy w' row) (hk : 0 < ts.length → ∀ g, a = some ⟨g, 0, none⟩ → some g ≠ row ∨ ∀ j, j < ts.length * 3 → w'.cell? ⟨g, j, none⟩ = w.cell? ⟨g, j, none⟩) : RdV w' a ts := by
  intro i hi
  obtain ⟨g, e, hlt, c0, c1, c2⟩ := h i hi
  have hs := hg.size
  refine ⟨g, e, by omega, ?_, ?_, ?_⟩
  all_goals
    rcases hk (by omega) g e with hn | hn
    · rw [World.cell?_of_block (hg.block g hlt hn)]; assumption
    · rw [hn _ (by omega)]; assumption
theorem RdV.alloc {w : World} {a : Option Addr} {ts : List Wlx.TV} (h : RdV w a ts) (o : Obj) : RdV (w.alloc o) a ts := by
  intro i hi
  obtain ⟨g, e, hlt, c0, c1, c2⟩ := h i hi
  refine ⟨g, e, by simp; omega, ?_, ?_, ?_⟩
  · rw [World.cell?_alloc_past _ _ _ hlt]; exact c0
  · rw [World.cell?_alloc_past _ _ _ hlt]; exact c1
  · rw [World.cell?_alloc_past _ _ _ hlt]; exact c2
theorem set_mid (A : List Value) (x y z : Value) (r : List Value) (a b c : Value) : (((A ++ x :: y :: z :: r).set A.length a).set (A.length + 1) b).set (A.length + 2) c = A ++ a :: b :: c :: r := by
  induction A with
  | nil => rfl
  | cons h t ih => simp only [List.cons_append, List.length_cons, List.set_cons_succ, ih]
theorem rowV_put (a : List Wlx.TV) (t x : Wlx.TV) (r : List Wlx.TV) (k : Nat) (hk : k = a.length * 3) : (((rowV (a ++ t :: r)).set k (.int .i64 x.k)).set (k + 1) (.string ⟨x.t.toArray⟩)).set (k + 2) (.int .i64 x.p) = rowV (a ++ [x] ++ r) := by
  subst hk
  rw [← rowV_length, rowV_app]
  show (((rowV a ++ (.int .i64 t.k :: .string ⟨t.t.toArray⟩ :: .int .i64 t.p :: rowV r)).set _ _).set _ _).set _ _ = _
  rw [set_mid, rowV_app, rowV_app, List.append_assoc]
  rfl
theorem OwnV.put {w : World} {B g n cap : Nat} {a : List Wlx.TV} {t : Wlx.TV} {r : List Wlx.TV} (h : OwnV w B (.slice (some ⟨g, 0, none⟩) n cap) (a ++ t :: r)) (x : Wlx.TV) (k : Nat) (hk : k = a.length * 3) (hn : n = (a ++ t :: r).length) :
    OwnV (((w.setCell ⟨g, k, none⟩ (.int .i64 x.k)).setCell ⟨g, k + 1, none⟩ (.string ⟨x.t.toArray⟩)).setCell ⟨g, k + 2, none⟩ (.int .i64 x.p)) B (.slice (some ⟨g, 0, none⟩) n cap) (a ++ [x] ++ r) := by
  subst hn
  have h3 := (((World.ownsRow.stored h k (.int .i64 x.k)).1.stored (k + 1) (.string ⟨x.t.toArray⟩)).1.stored (k + 2) (.int .i64 x.p)).1
  rw [rowV_put a t x r k hk] at h3
  show World.ownsRow _ B _ 3 _ (a ++ [x] ++ r).length (rowV (a ++ [x] ++ r))
  have hl : (a ++ [x] ++ r).length = (a ++ t :: r).length := by simp
  rw [hl]
  exact h3
theorem OwnV.far {w : World} {B n c : Nat} {a : Option Addr} {ts : List Wlx.TV} (h : OwnV w B (.slice a n c) ts) {g : Nat} (hg : ∀ g', a = some ⟨g', 0, none⟩ → g' ≠ g) (k : Nat) (u : Value) : OwnV (w.setCell ⟨g, k, none⟩ u) B (.slice a n c) ts := by
  obtain ⟨h1, h2⟩ := h
  refine ⟨h1, ?_⟩
  rcases h2 with h2 | ⟨g', cap, cur, hv, hb, hh, r⟩
  · exact Or.inl h2
  · have e := hv
    simp only [Value.slice.injEq] at e
    exact Or.inr ⟨g', cap, cur, hv, hb, by rw [Below.heap_setCell _ _ _ _ (hg g' e.1)]; exact hh, r⟩
theorem PSt.row {w w' : World} {kp : Nat} {ts : List Wlx.TV} {en : Int} {row : Option Nat} (h : PSt w kp ts en) (hg : w.grownBy w' row) (hr : ∀ b, row = some b → kp < b) : PSt w' kp ts en := by
  obtain ⟨av, cap, h1, h2, h3⟩ := h
  have hn : ∀ b, b ≤ kp → some b ≠ row := fun b hb e => by have := hr b e.symm; omega
  refine ⟨av, cap, h1, h2.grown hg (hn kp (Nat.le_refl _)), fun i hi => ?_⟩
  obtain ⟨bb, off, e, hb, c0, c1, c2⟩ := h3 i hi
  exact ⟨bb, off, e, hb, hg.cell c0 (hn _ (by simp only; omega)), hg.cell c1 (hn _ (by simp only; omega)), hg.cell c2 (hn _ (by simp only; omega))⟩
theorem grown_any {w w' : World} (h : w.grownBy w' none) (row : Option Nat) : w.grownBy w' row := ⟨h.os, h.tape, h.output, h.size, fun k hk _ => h.block k hk (by simp)⟩
theorem Env.row {w w' : World} {row : Option Nat} (h : Env w) (hg : w.grownBy w' row) (hr : ∀ b, row = some b → 8 ≤ b) : Env w' := by
  cases row with
  | none => exact h.grown (grown_any hg (some 8)) (Nat.le_refl _)
  | some b => exact h.grown hg (hr b rfl)
theorem grown_mix {w W W' : World} {kp : Nat} {row : Option Nat} (h : w.grownBy W (some kp)) (hg : W.grownBy W' row) (hr : ∀ b, row = some b → w.heap.size ≤ b) : w.grownBy W' (some kp) :=
  ⟨hg.os.trans h.os, hg.tape.trans h.tape, hg.output.trans h.output, Nat.le_trans h.size hg.size, fun k hk hn => (hg.block k (Nat.lt_of_lt_of_le hk h.size) (fun e => by have := hr k e.symm; omega)).trans (h.block k hk hn)⟩
def ptRow (ps : List (Wt.Nd × Value)) : List Value := ps.flatMap fun p => pt21 p.1 p.2
theorem ptRow_app (a b : List (Wt.Nd × Value)) : ptRow (a ++ b) = ptRow a ++ ptRow b := by simp [ptRow]
theorem ptRow_one (x : Wt.Nd) (sl : Value) : ptRow [(x, sl)] = pt21 x sl := by simp [ptRow]
theorem ptRow_get : ∀ (ps : List (Wt.Nd × Value)) (i : Nat) (h : i < ps.length) (j : Nat), j < 21 → (ptRow ps)[i * 21 + j]? = (pt21 (ps[i]).1 (ps[i]).2)[j]?
  | [], i, h, _, _ => by simp at h
  | p :: r, 0, _, j, hj => by
    show (pt21 p.1 p.2 ++ ptRow r)[0 * 21 + j]? = _
    rw [Nat.zero_mul, Nat.zero_add, List.getElem?_append_left (by show j < 21; exact hj)]
    rfl
  | p :: r, i + 1, h, j, hj => by
    show (pt21 p.1 p.2 ++ ptRow r)[(i + 1) * 21 + j]? = _
    rw [List.getElem?_append_right (by show 21 ≤ _; omega)]
    rw [show (i + 1) * 21 + j - (pt21 p.1 p.2).length = i * 21 + j by show _ - 21 = _; omega]
    exact ptRow_get r i (by simpa using h) j hj
theorem own_parts {w : World} {base g n cap : Nat} {ps : List (Wt.Nd × Value)} (h : w.ownsRow base 78 21 (.slice (some ⟨g, 0, none⟩) n cap) n (ptRow ps)) (hn : n = ps.length) (i : Nat) (hi : i < ps.length) : w.rangeAt g (i * 21) (pt21 (ps[i]).1 (ps[i]).2) := by
  intro j v hv
  have hj : j < 21 := (List.getElem?_eq_some_iff.1 hv).1
  rw [World.ownsRow.cellAt h (i * 21 + j) (by omega), ptRow_get ps i hi j hj]
  exact hv
theorem argl_fuel {sub : List Wlx.TV → PR} (hsub : ∀ ts row r, sub ts = .inl (row, r) → r <:+ ts) (en : Int) : ∀ (n m c : Nat) (rows : List Wt.Nd) (ts : List Wlx.TV), ts.length < n → ts.length < m → argl sub en n c rows ts = argl sub en m c rows ts := by
  intro n
  induction n with
  | zero => intro m c rows ts h1; omega
  | succ n ih =>
    intro m c rows ts h1 h2
    cases m with
    | zero => omega
    | succ m =>
      simp only [argl]
      cases h : tk ts [41] with
      | some r => rfl
      | none =>
        simp only
        split
        · rfl
        · cases h2' : tk ts [44] with
          | none => rfl
          | some r =>
            simp only
            have hl := (tk_suf h2').2
            cases hs : sub r with
            | inr e => rfl
            | inl q =>
              obtain ⟨row, r2⟩ := q
              simp only
              have := (hsub _ _ _ hs).length_le
              exact ih m _ _ _ (by omega) (by omega)
end Go.Proofs.YthofehcchickeaaGreatDoor
