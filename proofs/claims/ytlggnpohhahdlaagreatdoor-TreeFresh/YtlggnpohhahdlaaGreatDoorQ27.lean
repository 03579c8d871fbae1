/- TParB, TCopy, TAppN, TLentA. -/
import Derived.Test.YtlggnpohhahdlaaGreatDoorQ26
import Derived.Laws.AppendOwn
import Derived.Laws.AppendOwnNone
import Derived.BigFrame
namespace Go.Proofs.YtlggnpohhahdlaaGreatDoor
open Go.RowKit Go.Shelf
set_option linter.unusedVariables false
def prsT (en : Int) (ts : List Wlx.TV) : List Wt.Nd ⊕ (Int × Int) := match pall (lv en (10 * ts.length + 9) 0) en ts with
  | .inr e => .inr e
  | .inl (row, _) => if Wt.check row = 0 then .inl row else .inr (Wt.check row, 0)
def prsR (l : List UInt8) : List Wt.Nd ⊕ (Int × Int) := match scanAll l with
  | .inr (c, p) => .inr ((c : Int), (p : Int))
  | .inl ts => prsT (l.length : Int) (ts.map Wlx.tv)
def OwnN (w : World) (B : Nat) (v : Value) (row : List Wt.Nd) : Prop := w.ownsRow B 45 20 v row.length (ndRow row)
def PaPost (B : Nat) (r : List Wt.Nd ⊕ (Int × Int)) (e : Ending) (w : World) : Prop := match r with
  | .inl row => ∃ v, e = .returned (.tuple #[v, .int .i64 0, .int .i64 0]) ∧ OwnN w B v row
  | .inr (c, p) => e = .returned (.tuple #[.slice none 0 0, .int .i64 c, .int .i64 p])
theorem nd20_length (x : Wt.Nd) : (nd20 x).length = 20 := rfl
theorem ndRow_get (l : List Wt.Nd) : ∀ (i : Nat) (h : i < l.length) (j : Nat), j < 20 → (ndRow l)[i * 20 + j]? = (nd20 (l[i]))[j]? := by
  induction l with
  | nil => intro i h; exact absurd h (Nat.not_lt_zero _)
  | cons x r ih =>
    intro i h j hj
    have e : ndRow (x :: r) = nd20 x ++ ndRow r := by simp [ndRow]
    rw [e]
    cases i with
    | zero => rw [List.getElem?_append_left (by rw [nd20_length]; omega)]; simp
    | succ i =>
      rw [List.getElem?_append_right (by rw [nd20_length]; omega), nd20_length, show (i + 1) * 20 + j - 20 = i * 20 + j by omega]
      rw [ih i (by simpa using h) j hj]
      simp
theorem ndRow_length (l : List Wt.Nd) : (ndRow l).length = l.length * 20 := by
  induction l with
  | nil => rfl
  | cons x r ih =>
    have e : ndRow (x :: r) = nd20 x ++ ndRow r := by simp [ndRow]
    rw [e, List.length_append, ih, nd20_length, List.length_cons]; omega
theorem OwnN.form {w : World} {B : Nat} {v : Value} {row : List Wt.Nd} (h : OwnN w B v row) : ∃ av cap, v = .slice av row.length cap ∧ RdN w av row := by
  rcases h.2 with ⟨rfl, h0⟩ | ⟨g, cap, cur, rfl, hr⟩
  · exact ⟨none, 0, by rw [h0], fun i hi => by omega⟩
  · refine ⟨_, cap, rfl, fun i hi => ⟨g, 0, rfl, fun j u hu => ?_⟩⟩
    have hj : j < 20 := by
      rcases Nat.lt_or_ge j 20 with h1 | h1
      · exact h1
      · rw [List.getElem?_eq_none (by rw [nd20_length]; exact h1)] at hu; cases hu
    rw [Nat.zero_add, World.ownsRow.cellAt h _ (by omega), ndRow_get row i hi j hj]
    exact hu
theorem OwnN.rd {w : World} {B n cap : Nat} {av : Option Addr} {row : List Wt.Nd} (h : OwnN w B (.slice av n cap) row) : RdN w av row := by
  obtain ⟨av', cap', e, hr⟩ := h.form
  simp only [Value.slice.injEq] at e
  rw [e.1]; exact hr
theorem OwnN.below {w w' : World} {B : Nat} {v : Value} {row : List Wt.Nd} (h : OwnN w B v row) (hb : Below w.heap.size w w') : OwnN w' B v row :=
  h.kept (row := none) ⟨hb.os, hb.tape, hb.output, hb.size, fun k hk _ => hb.block k hk⟩ (by cases v.ownBlock <;> simp)
theorem res3 (W : World) (tm : Array Value) (bl bc ba : Nat) (v : Value) (c p : Int) (hv : v.oneCell' = true) (h2 : tm.getD 2 undef = .pointer (some ⟨bl, 0, none⟩)) (h3 : tm.getD 3 undef = .pointer (some ⟨bc, 0, none⟩)) (h4 : tm.getD 4 undef = .pointer (some ⟨ba, 0, none⟩))
    (hl : AtL W bl [v]) (hc : AtL W bc [.int .i64 c]) (ha : AtL W ba [.int .i64 p]) : (results Tryz.f7 tm).run Tryz.prog W = .ok (.tuple #[v, .int .i64 c, .int .i64 p]) W := by
  have l0 := hl.2.1 0 _ rfl
  have c0 := hc.2.1 0 _ rfl
  have a0 := ha.2.1 0 _ rfl
  have h2' : tm[2]?.getD undef = .pointer (some ⟨bl, 0, none⟩) := by rw [← h2]; simp
  have h3' : tm[3]?.getD undef = .pointer (some ⟨bc, 0, none⟩) := by rw [← h3]; simp
  have h4' : tm[4]?.getD undef = .pointer (some ⟨ba, 0, none⟩) := by rw [← h4]; simp
  simp [results, Tryz.results7, go_sem, h2', h3', h4', l0, c0, a0]
set_option maxRecDepth 100000 in
set_option maxHeartbeats 8000000 in
theorem parse_err (b : ByteArray) (w : World) (hE : Env w) (hs : b.size ≤ 9223372036854775807) (c p : Nat) (hc : c ≠ 0) (hr : scanAll b.data.toList = .inr (c, p)) : Calls Tryz.prog 7 #[.string b] w fun e w' => e = .returned (.tuple #[.slice none 0 0, .int .i64 c, .int .i64 p]) ∧ Below w.heap.size w w' := by
  have S := fun w hm => scan_any b w hm hs
  rw [hr] at S
  simp only [ScanPost] at S
  have hE3 := ((hE.below (ball (Below.refl _ w) (.cells #[.slice none 0 0] 22))).below (ball (Below.refl _ _) (.cells #[.int .i64 0] 23))).below (ball (Below.refl _ _) (.cells #[.int .i64 0] 3))
  have hB0 := ball (ball (ball (Below.refl _ w) (.cells #[.slice none 0 0] 22)) (.cells #[.int .i64 0] 23)) (.cells #[.int .i64 0] 3)
  have hmf : ∀ (fn : Fn) (first cap : Array Value) (w : World), (Instr.makeFunc fn first cap).run Tryz.prog w = .ok (.func fn first cap) w := fun _ _ _ _ => rfl
  have pl0 := ((AtL.new0 w 22 [.slice none 0 0]).alloc (.cells #[.int .i64 0] 23)).alloc (.cells #[.int .i64 0] 3)
  have pc0 := (AtL.new1 w (.cells #[.slice none 0 0] 22) 23 [.int .i64 0]).alloc (.cells #[.int .i64 0] 3)
  have pa0 : AtL (((w.alloc (.cells #[.slice none 0 0] 22)).alloc (.cells #[.int .i64 0] 23)).alloc (.cells #[.int .i64 0] 3)) (w.heap.size + 1 + 1) [.int .i64 0] := AtL.new _ 3 (by simp only [World.size_alloc]) _
  generalize hW0 : ((w.alloc (.cells #[.slice none 0 0] 22)).alloc (.cells #[.int .i64 0] 23)).alloc (.cells #[.int .i64 0] 3) = W0 at hE3 hB0 pl0 pc0 pa0
  have hci : ((c : Int) != 0) = true := by simp; omega
  go_enter_defers Tryz.func7, Tryz.ntmps7
  go_wp2_with fail
  refine (S _ hE3.2.2.1).mono ?_
  rintro e w1 ⟨rfl, hb⟩
  have pl1 := pl0.below hb
  have pc1 := pc0.below hb
  have pa1 := pa0.below hb
  have hB1 := below_end hB0 hb
  clear hb hW0 pl0 pc0 pa0 hB0 hE3 S
  have l1 := pl1.2.1 0 _ rfl
  have c1 := pc1.2.1 0 _ rfl
  have a1 := pa1.2.1 0 _ rfl
  have fl1 := pl1.2.2 0 (by simp)
  have fc1 := pc1.2.2 0 (by simp)
  have fa1 := pa1.2.2 0 (by simp)
  go_wp2
  go_region
  go_wp2
  have pl2 := (AtL.far (AtL.far ((AtL.far (AtL.far (pl1) (j := w.heap.size + 1) (by omega) 0 (.int .i64 c)) (j := w.heap.size + 1 + 1) (by omega) 0 (.int .i64 p)).set 0 (.slice none 0 0)) (j := w.heap.size + 1) (by omega) 0 (.int .i64 c)) (j := w.heap.size + 1 + 1) (by omega) 0 (.int .i64 p)).drew
  have pc2 := (AtL.far ((AtL.far (AtL.far ((pc1).set 0 (.int .i64 c)) (j := w.heap.size + 1 + 1) (by omega) 0 (.int .i64 p)) (j := w.heap.size) (by omega) 0 (.slice none 0 0)).set 0 (.int .i64 c)) (j := w.heap.size + 1 + 1) (by omega) 0 (.int .i64 p)).drew
  have pa2 := ((AtL.far (AtL.far ((AtL.far (pa1) (j := w.heap.size + 1) (by omega) 0 (.int .i64 c)).set 0 (.int .i64 p)) (j := w.heap.size) (by omega) 0 (.slice none 0 0)) (j := w.heap.size + 1) (by omega) 0 (.int .i64 c)).set 0 (.int .i64 p)).drew
  have hB2 := ((((((hB1).setCell (p := ⟨w.heap.size + 1, 0, none⟩) (show w.heap.size ≤ w.heap.size + 1 by omega) (.int .i64 c)).setCell (p := ⟨w.heap.size + 1 + 1, 0, none⟩) (show w.heap.size ≤ w.heap.size + 1 + 1 by omega) (.int .i64 p)).setCell (p := ⟨w.heap.size, 0, none⟩) (show w.heap.size ≤ w.heap.size by omega) (.slice none 0 0)).setCell (p := ⟨w.heap.size + 1, 0, none⟩) (show w.heap.size ≤ w.heap.size + 1 by omega) (.int .i64 c)).setCell (p := ⟨w.heap.size + 1 + 1, 0, none⟩) (show w.heap.size ≤ w.heap.size + 1 + 1 by omega) (.int .i64 p)).drew
  generalize ((((((w1).setCell ⟨w.heap.size + 1, 0, none⟩ (.int .i64 c)).setCell ⟨w.heap.size + 1 + 1, 0, none⟩ (.int .i64 p)).setCell ⟨w.heap.size, 0, none⟩ (.slice none 0 0)).setCell ⟨w.heap.size + 1, 0, none⟩ (.int .i64 c)).setCell ⟨w.heap.size + 1 + 1, 0, none⟩ (.int .i64 p)).drew = W2 at *
  simp [bodyPostD, Leaves]
  exact ⟨_, res3 _ _ _ _ _ _ _ _ rfl rfl rfl rfl pl2 pc2 pa2, rfl, hB2⟩
theorem PSt.new {W : World} {kp B cap : Nat} {av : Option Addr} {ts : List Wlx.Tok} {en : Int} (hO : OwnT W B (.slice av ts.length cap) ts) (hk : kp = W.heap.size) : PSt (W.alloc (.cells #[.slice av ts.length cap, .int .i64 en] 53)) kp (ts.map Wlx.tv) en := by
  subst hk
  have hv := OwnV.of hO
  have hR := RdV.own hv
  have hcap : ts.length ≤ cap := by
    rcases hO.2 with ⟨e, h0⟩ | ⟨g, cap', cur, e, hg, hc, h1, _⟩
    · omega
    · simp only [Value.slice.injEq] at e
      omega
  refine ⟨av, cap, by rw [List.length_map]; exact hcap, by rw [List.length_map]; exact AtL.new0 W 53 [.slice av ts.length cap, .int .i64 en], fun i hi => ?_⟩
  obtain ⟨g, e, hlt, c0, c1, c2⟩ := hR i hi
  have hb := ball (Below.refl _ W) (.cells #[.slice av ts.length cap, .int .i64 en] 53)
  exact ⟨g, 0, e, hlt, by rw [Nat.zero_add]; exact cell_below hb c0, by rw [Nat.zero_add]; exact cell_below hb c1, by rw [Nat.zero_add]; exact cell_below hb c2⟩
set_option maxRecDepth 100000 in
set_option maxHeartbeats 8000000 in
theorem parse_toks (b : ByteArray) (w : World) (hE : Env w) (hs : b.size ≤ 9223372036854775807) (ts : List Wlx.Tok) (hk8 : 8 ≤ w.heap.size) (hr : scanAll b.data.toList = .inl ts) : Calls Tryz.prog 7 #[.string b] w fun e w' => PaPost w.heap.size (prsT (b.size : Int) (ts.map Wlx.tv)) e w' ∧ Below w.heap.size w w' := by
  have S := fun w hm => scan_any b w hm hs
  have hbl : b.data.toList.length = b.size := by rw [Array.length_toList]; rfl
  have hT : ts.length ≤ 1024 ∧ ∀ t ∈ ts.map Wlx.tv, TokOk t := by
    unfold scanAll at hr
    split at hr
    · cases hr
    · rename_i h
      have := scan_ok _ 0 b.data.toList (Nat.le_refl _) (by omega) ts hr
      exact ⟨by omega, this.2⟩
  have hb1024 : b.size ≤ 1024 := by
    unfold scanAll at hr
    split at hr
    · cases hr
    · omega
  obtain ⟨hn, hok⟩ := hT
  rw [hr] at S
  simp only [ScanPost] at S
  clear hr hbl
  obtain ⟨R, hR⟩ : ∃ R, R = prsT (b.size : Int) (ts.map Wlx.tv) := ⟨_, rfl⟩
  rw [← hR]
  have HR : Hid (R = prsT (b.size : Int) (ts.map Wlx.tv)) := hR
  clear hR
  have hE3 := ((hE.below (ball (Below.refl _ w) (.cells #[.slice none 0 0] 22))).below (ball (Below.refl _ _) (.cells #[.int .i64 0] 23))).below (ball (Below.refl _ _) (.cells #[.int .i64 0] 3))
  have hB0 := ball (ball (ball (Below.refl _ w) (.cells #[.slice none 0 0] 22)) (.cells #[.int .i64 0] 23)) (.cells #[.int .i64 0] 3)
  have hmf : ∀ (fn : Fn) (first cap : Array Value) (w : World), (Instr.makeFunc fn first cap).run Tryz.prog w = .ok (.func fn first cap) w := fun _ _ _ _ => rfl
  have pl0 := ((AtL.new0 w 22 [.slice none 0 0]).alloc (.cells #[.int .i64 0] 23)).alloc (.cells #[.int .i64 0] 3)
  have pc0 := (AtL.new1 w (.cells #[.slice none 0 0] 22) 23 [.int .i64 0]).alloc (.cells #[.int .i64 0] 3)
  have pa0 : AtL (((w.alloc (.cells #[.slice none 0 0] 22)).alloc (.cells #[.int .i64 0] 23)).alloc (.cells #[.int .i64 0] 3)) (w.heap.size + 1 + 1) [.int .i64 0] := AtL.new _ 3 (by simp only [World.size_alloc]) _
  generalize hW0 : ((w.alloc (.cells #[.slice none 0 0] 22)).alloc (.cells #[.int .i64 0] 23)).alloc (.cells #[.int .i64 0] 3) = W0 at hE3 hB0 pl0 pc0 pa0
  have hs0 : W0.heap.size = w.heap.size + 1 + 1 + 1 := by rw [← hW0]; simp only [World.size_alloc]
  go_enter_defers Tryz.func7, Tryz.ntmps7
  go_wp2_with fail
  refine (S _ hE3.2.2.1).mono ?_
  rintro e w1 ⟨⟨v, rfl, hO⟩, hb⟩
  have pl1 := pl0.below hb
  have pc1 := pc0.below hb
  have pa1 := pa0.below hb
  have hB1 := below_end hB0 hb
  have hs1 := hb.size
  clear hb hW0 pl0 pc0 pa0 hB0 hE3 S
  have l1 := pl1.2.1 0 _ rfl
  have c1 := pc1.2.1 0 _ rfl
  have a1 := pa1.2.1 0 _ rfl
  have fl1 := pl1.2.2 0 (by simp)
  have fc1 := pc1.2.2 0 (by simp)
  have fa1 := pa1.2.2 0 (by simp)
  obtain ⟨av, cap, hv, -⟩ := (OwnV.of hO).form
  rw [List.length_map] at hv
  subst hv
  have hOl := hO.lt
  rw [hs0] at hOl hs1
  have hO2 : OwnT ((w1.setCell ⟨w.heap.size + 1, 0, none⟩ (.int .i64 0)).setCell ⟨w.heap.size + 1 + 1, 0, none⟩ (.int .i64 0)) W0.heap.size (.slice av ts.length cap) ts :=
    World.ownsRow.kept (World.ownsRow.kept hO (set_grown w1 (w.heap.size + 1) 0 _) (Or.inr (fun e => by have := (hOl _ e).1; omega))) (set_grown _ (w.heap.size + 1 + 1) 0 _) (Or.inr (fun e => by have := (hOl _ e).1; omega))
  have hP3 := PSt.new (kp := w1.heap.size) (en := (b.size : Int)) hO2 (by simp only [World.size_setCell])
  have pl3 := AtL.alloc (AtL.far (AtL.far (pl1) (j := w.heap.size + 1) (by omega) 0 (.int .i64 0)) (j := w.heap.size + 1 + 1) (by omega) 0 (.int .i64 0)) (.cells #[.slice av ts.length cap, .int .i64 (b.size : Int)] 53)
  have pc3 := AtL.alloc (AtL.far ((pc1).set 0 (.int .i64 0)) (j := w.heap.size + 1 + 1) (by omega) 0 (.int .i64 0)) (.cells #[.slice av ts.length cap, .int .i64 (b.size : Int)] 53)
  have pa3 := AtL.alloc ((AtL.far (pa1) (j := w.heap.size + 1) (by omega) 0 (.int .i64 0)).set 0 (.int .i64 0)) (.cells #[.slice av ts.length cap, .int .i64 (b.size : Int)] 53)
  have hB3 := ball (((hB1).setCell (p := ⟨w.heap.size + 1, 0, none⟩) (show w.heap.size ≤ w.heap.size + 1 by omega) (.int .i64 0)).setCell (p := ⟨w.heap.size + 1 + 1, 0, none⟩) (show w.heap.size ≤ w.heap.size + 1 + 1 by omega) (.int .i64 0)) (.cells #[.slice av ts.length cap, .int .i64 (b.size : Int)] 53)
  have hs3 : ((((w1).setCell ⟨w.heap.size + 1, 0, none⟩ (.int .i64 0)).setCell ⟨w.heap.size + 1 + 1, 0, none⟩ (.int .i64 0)).alloc (.cells #[.slice av ts.length cap, .int .i64 (b.size : Int)] 53)).heap.size = w1.heap.size + 1 := by simp only [World.size_alloc, World.size_setCell]
  generalize hW3 : (((w1).setCell ⟨w.heap.size + 1, 0, none⟩ (.int .i64 0)).setCell ⟨w.heap.size + 1 + 1, 0, none⟩ (.int .i64 0)).alloc (.cells #[.slice av ts.length cap, .int .i64 (b.size : Int)] 53) = W3 at hP3 pl3 pc3 pa3 hB3 hs3
  have hE3 := hE.below hB3
  have hlen : (ts.map Wlx.tv).length = ts.length := List.length_map ..
  have AL := all_any w1.heap.size (b.size : Int) (lv (b.size : Int) (10 * (ts.map Wlx.tv).length + 9) 0) (ts.map Wlx.tv).length (formula_lv w1.heap.size (b.size : Int) (by omega) _) (lv_suf _ _ _) (ts.map Wlx.tv) W3 hP3 (Nat.le_refl _) (by omega) hok hE3
  have hfit := fun row r h => lv_fit (b.size : Int) (10 * (ts.map Wlx.tv).length + 9) 0 (ts.map Wlx.tv) row r hok h
  clear hO hO2 hOl hP3 hE3 hok
  cases hpa : pall (lv (b.size : Int) (10 * (ts.map Wlx.tv).length + 9) 0) (b.size : Int) (ts.map Wlx.tv) with
  | inr q =>
    obtain ⟨c, p⟩ := q
    rw [hpa] at AL
    simp only [PPost] at AL
    go_wp2_with fail
    refine AL.mono ?_
    rintro e w4 ⟨rfl, hg⟩
    have pl4 := pl3.grown hg (fun e => by have := Option.some.inj e; omega)
    have pc4 := pc3.grown hg (fun e => by have := Option.some.inj e; omega)
    have pa4 := pa3.grown hg (fun e => by have := Option.some.inj e; omega)
    have hB4 : Below w.heap.size w w4 := hB3.grown hg (by have := hB3.size; omega) (fun k e => by have := Option.some.inj e; omega)
    clear hg hW3 pl3 pc3 pa3 hB3 AL pl1 pc1 pa1 hfit
    unfold stop
    have HR2 : Hid (R = .inr (c, p)) := by
      show R = _
      rw [HR.out]; unfold prsT; rw [hpa]
    clear HR hpa
    go_wp2
    refine leaves_cons (f := 21) (args := #[.pointer (some ⟨w.heap.size, 0, none⟩), .pointer (some ⟨w.heap.size + 1, 0, none⟩), .pointer (some ⟨w.heap.size + 1 + 1, 0, none⟩)]) (by simp) (by simp [go_sem]) ?_
    refine (catch_panics _ _ _ c p _ _ _ [] _ pl4 pc4 pa4 (by omega) (by omega) (by omega)).mono ?_
    rintro e u' w5 ⟨rfl, rfl, pl5, pc5, pa5, hb⟩
    have hB5 : Below w.heap.size w w5 := hB4.trans (hb _ (Nat.le_refl _) (by omega) (by omega))
    rw [HR2.out]
    simp only [PaPost]
    simp [Leaves, settle]
    exact ⟨_, res3 _ _ _ _ _ _ _ _ rfl rfl rfl rfl pl5 pc5 pa5, rfl, hB5⟩
  | inl q =>
    obtain ⟨row, rr⟩ := q
    have hrow : (∀ x ∈ row, Wt.FitN x) ∧ row.length ≤ 1024 := by
      unfold pall at hpa
      split at hpa
      · cases hpa
      · rename_i row' hq
        simp only [Sum.inl.injEq, Prod.mk.injEq] at hpa
        have := hfit _ _ hq
        rw [hpa.1] at this
        exact ⟨this.1, by have := this.2; omega⟩
      · cases hpa
    rw [hpa] at AL
    simp only [PPost] at AL
    go_wp2_with fail
    refine AL.mono ?_
    rintro e w4 ⟨v, rfl, ⟨n, x, sl, rfl, hpt⟩, -, hg⟩
    have pl4 := pl3.grown hg (fun e => by have := Option.some.inj e; omega)
    have pc4 := pc3.grown hg (fun e => by have := Option.some.inj e; omega)
    have pa4 := pa3.grown hg (fun e => by have := Option.some.inj e; omega)
    have hB4 : Below w.heap.size w w4 := hB3.grown hg (by have := hB3.size; omega) (fun k e => by have := Option.some.inj e; omega)
    have hs4 := hg.size
    clear hg hW3 pl3 pc3 pa3 hB3 AL pl1 pc1 pa1 hfit
    have RW := row_any w.heap.size n x sl row (fun b => W3.heap.size ≤ b) (.slice none 0 0) [] w4 hpt (World.ownsRow_nil _ _ _ _) (fun b _ => by simp [Value.ownBlock]) hB4.size (by simp only [List.length_nil]; omega)
    clear hpt
    rw [List.nil_append] at RW
    go_wp2_with fail
    refine RW.mono ?_
    rintro e w5 ⟨v5, rfl, ho5, hg5, hob⟩
    have pl5 := pl4.grown hg5 (by simp [Value.ownBlock])
    have pc5 := pc4.grown hg5 (by simp [Value.ownBlock])
    have pa5 := pa4.grown hg5 (by simp [Value.ownBlock])
    have hB5 : Below w.heap.size w w5 := hB4.grown hg5 hB4.size (fun k e => by simp [Value.ownBlock] at e)
    have hs5 := hg5.size
    have ho5' : OwnN w5 w.heap.size v5 row := ho5
    clear ho5
    obtain ⟨av5, cap5, rfl, -⟩ := ho5'.form
    have hne : (Value.slice av5 row.length cap5).ownBlock ≠ some w.heap.size := by
      rcases hob with h | ⟨b, h, h'⟩
      · rw [h]; simp [Value.ownBlock]
      · rw [h]; intro e; have := Option.some.inj e; omega
    have hne1 : (Value.slice av5 row.length cap5).ownBlock ≠ some (w.heap.size + 1) := by
      rcases hob with h | ⟨b, h, h'⟩
      · rw [h]; simp [Value.ownBlock]
      · rw [h]; intro e; have := Option.some.inj e; omega
    have hne2 : (Value.slice av5 row.length cap5).ownBlock ≠ some (w.heap.size + 1 + 1) := by
      rcases hob with h | ⟨b, h, h'⟩
      · rw [h]; simp [Value.ownBlock]
      · rw [h]; intro e; have := Option.some.inj e; omega
    have ho6 : OwnN (w5.setCell ⟨w.heap.size, 0, none⟩ (.slice av5 row.length cap5)) w.heap.size (.slice av5 row.length cap5) row := World.ownsRow.kept ho5' (set_grown w5 w.heap.size 0 _) (Or.inr hne)
    have hrd6 := ho6.rd
    clear RW hg5 hob ho5'
    have l5 := pl5.2.1 0 _ rfl
    have c5 := pc5.2.1 0 _ rfl
    have a5 := pa5.2.1 0 _ rfl
    have fl5 := pl5.2.2 0 (by simp)
    have fc5 := pc5.2.2 0 (by simp)
    have fa5 := pa5.2.2 0 (by simp)
    have pl6 := (pl5).set 0 (.slice av5 row.length cap5)
    have pc6 := AtL.far (pc5) (j := w.heap.size) (by omega) 0 (.slice av5 row.length cap5)
    have pa6 := AtL.far (pa5) (j := w.heap.size) (by omega) 0 (.slice av5 row.length cap5)
    have hB6 := (hB5).setCell (p := ⟨w.heap.size, 0, none⟩) (show w.heap.size ≤ w.heap.size by omega) (.slice av5 row.length cap5)
    have CK := check_any av5 cap5 row _ (by omega) hrow.1 (hE.below hB6).1 hrd6
    go_wp2_with fail
    refine CK.mono ?_
    rintro e w7 ⟨rfl, hb⟩
    have pl7 := pl6.below hb
    have pc7 := pc6.below hb
    have pa7 := pa6.below hb
    have ho7 := ho6.below hb
    have hB7 := below_end hB6 hb
    have hs7 := hb.size
    simp only [World.size_setCell] at hs7
    clear hb CK pl6 pc6 pa6 ho6 hB6 hrd6 pl5 pc5 pa5 hB5 l5 c5 a5 fl5 fc5 fa5 pl4 pc4 pa4 hB4
    have HR2 : Hid (R = if Wt.check row = 0 then .inl row else .inr (Wt.check row, 0)) := by
      show R = _
      rw [HR.out]; unfold prsT; rw [hpa]
    clear HR hpa
    generalize Wt.check row = ck at *
    have l7 := pl7.2.1 0 _ rfl
    have c7 := pc7.2.1 0 _ rfl
    have a7 := pa7.2.1 0 _ rfl
    have fl7 := pl7.2.2 0 (by simp)
    have fc7 := pc7.2.2 0 (by simp)
    have fa7 := pa7.2.2 0 (by simp)
    by_cases hck : ck = 0
    · subst hck
      rw [if_pos rfl] at HR2
      go_wp2
      have ho8 : OwnN (((((w7).setCell ⟨w.heap.size + 1, 0, none⟩ (.int .i64 0)).setCell ⟨w.heap.size, 0, none⟩ (.slice av5 row.length cap5)).setCell ⟨w.heap.size + 1, 0, none⟩ (.int .i64 0)).setCell ⟨w.heap.size + 1 + 1, 0, none⟩ (.int .i64 0)) w.heap.size (.slice av5 row.length cap5) row := (World.ownsRow.kept ((World.ownsRow.kept ((World.ownsRow.kept ((World.ownsRow.kept (ho7) (set_grown _ (w.heap.size + 1) 0 (.int .i64 0)) (Or.inr hne1))) (set_grown _ (w.heap.size) 0 (.slice av5 row.length cap5)) (Or.inr hne))) (set_grown _ (w.heap.size + 1) 0 (.int .i64 0)) (Or.inr hne1))) (set_grown _ (w.heap.size + 1 + 1) 0 (.int .i64 0)) (Or.inr hne2))
      have pl8 := AtL.far (AtL.far ((AtL.far (pl7) (j := w.heap.size + 1) (by omega) 0 (.int .i64 0)).set 0 (.slice av5 row.length cap5)) (j := w.heap.size + 1) (by omega) 0 (.int .i64 0)) (j := w.heap.size + 1 + 1) (by omega) 0 (.int .i64 0)
      have pc8 := AtL.far ((AtL.far ((pc7).set 0 (.int .i64 0)) (j := w.heap.size) (by omega) 0 (.slice av5 row.length cap5)).set 0 (.int .i64 0)) (j := w.heap.size + 1 + 1) (by omega) 0 (.int .i64 0)
      have pa8 := (AtL.far (AtL.far (AtL.far (pa7) (j := w.heap.size + 1) (by omega) 0 (.int .i64 0)) (j := w.heap.size) (by omega) 0 (.slice av5 row.length cap5)) (j := w.heap.size + 1) (by omega) 0 (.int .i64 0)).set 0 (.int .i64 0)
      have hB8 := ((((hB7).setCell (p := ⟨w.heap.size + 1, 0, none⟩) (show w.heap.size ≤ w.heap.size + 1 by omega) (.int .i64 0)).setCell (p := ⟨w.heap.size, 0, none⟩) (show w.heap.size ≤ w.heap.size by omega) (.slice av5 row.length cap5)).setCell (p := ⟨w.heap.size + 1, 0, none⟩) (show w.heap.size ≤ w.heap.size + 1 by omega) (.int .i64 0)).setCell (p := ⟨w.heap.size + 1 + 1, 0, none⟩) (show w.heap.size ≤ w.heap.size + 1 + 1 by omega) (.int .i64 0)
      generalize (((((w7).setCell ⟨w.heap.size + 1, 0, none⟩ (.int .i64 0)).setCell ⟨w.heap.size, 0, none⟩ (.slice av5 row.length cap5)).setCell ⟨w.heap.size + 1, 0, none⟩ (.int .i64 0)).setCell ⟨w.heap.size + 1 + 1, 0, none⟩ (.int .i64 0)) = W8 at *
      refine leaves_cons (f := 21) (args := #[.pointer (some ⟨w.heap.size, 0, none⟩), .pointer (some ⟨w.heap.size + 1, 0, none⟩), .pointer (some ⟨w.heap.size + 1 + 1, 0, none⟩)]) (by simp) (by simp [go_sem]) ?_
      refine (catch_idles _ _ _ _).mono ?_
      rintro e u' w9 ⟨rfl, rfl, hb⟩
      have pl9 := pl8.below hb
      have pc9 := pc8.below hb
      have pa9 := pa8.below hb
      have hB9 := below_end hB8 hb
      have ho9 := ho8.below hb
      rw [HR2.out]
      simp only [PaPost]
      simp [Leaves, settle]
      exact ⟨_, res3 _ _ _ _ _ _ _ _ rfl rfl rfl rfl pl9 pc9 pa9, ⟨_, rfl, ho9⟩, hB9⟩
    · have hci : (ck != 0) = true := by simp [hck]
      rw [if_neg hck] at HR2
      go_wp2
      go_region
      go_wp2
      have pl8 := (AtL.far (AtL.far ((AtL.far (pl7) (j := w.heap.size + 1) (by omega) 0 (.int .i64 ck)).set 0 (.slice none 0 0)) (j := w.heap.size + 1) (by omega) 0 (.int .i64 ck)) (j := w.heap.size + 1 + 1) (by omega) 0 (.int .i64 0)).drew
      have pc8 := (AtL.far ((AtL.far ((pc7).set 0 (.int .i64 ck)) (j := w.heap.size) (by omega) 0 (.slice none 0 0)).set 0 (.int .i64 ck)) (j := w.heap.size + 1 + 1) (by omega) 0 (.int .i64 0)).drew
      have pa8 := ((AtL.far (AtL.far (AtL.far (pa7) (j := w.heap.size + 1) (by omega) 0 (.int .i64 ck)) (j := w.heap.size) (by omega) 0 (.slice none 0 0)) (j := w.heap.size + 1) (by omega) 0 (.int .i64 ck)).set 0 (.int .i64 0)).drew
      have hB8 := (((((hB7).setCell (p := ⟨w.heap.size + 1, 0, none⟩) (show w.heap.size ≤ w.heap.size + 1 by omega) (.int .i64 ck)).setCell (p := ⟨w.heap.size, 0, none⟩) (show w.heap.size ≤ w.heap.size by omega) (.slice none 0 0)).setCell (p := ⟨w.heap.size + 1, 0, none⟩) (show w.heap.size ≤ w.heap.size + 1 by omega) (.int .i64 ck)).setCell (p := ⟨w.heap.size + 1 + 1, 0, none⟩) (show w.heap.size ≤ w.heap.size + 1 + 1 by omega) (.int .i64 0)).drew
      generalize (((((w7).setCell ⟨w.heap.size + 1, 0, none⟩ (.int .i64 ck)).setCell ⟨w.heap.size, 0, none⟩ (.slice none 0 0)).setCell ⟨w.heap.size + 1, 0, none⟩ (.int .i64 ck)).setCell ⟨w.heap.size + 1 + 1, 0, none⟩ (.int .i64 0)).drew = W8 at *
      refine leaves_cons (f := 21) (args := #[.pointer (some ⟨w.heap.size, 0, none⟩), .pointer (some ⟨w.heap.size + 1, 0, none⟩), .pointer (some ⟨w.heap.size + 1 + 1, 0, none⟩)]) (by simp) (by simp [go_sem]) ?_
      refine (catch_idles _ _ _ _).mono ?_
      rintro e u' w9 ⟨rfl, rfl, hb⟩
      have pl9 := pl8.below hb
      have pc9 := pc8.below hb
      have pa9 := pa8.below hb
      have hB9 := below_end hB8 hb
      rw [HR2.out]
      simp only [PaPost]
      simp [Leaves, settle]
      exact ⟨_, res3 _ _ _ _ _ _ _ _ rfl rfl rfl rfl pl9 pc9 pa9, rfl, hB9⟩
theorem scan_bad_code : ∀ (n : Nat) (p : Nat) (l : List UInt8), l.length ≤ n → ∀ c q, Wlx.scan p l = .inr (c, q) → c ≠ 0 := by
  intro n
  induction n with
  | zero => intro p l h c q hs; obtain rfl := List.eq_nil_of_length_eq_zero (Nat.le_zero.1 h); rw [Wlx.scan_nil] at hs; cases hs
  | succ n ih =>
    intro p l h c q hs
    cases l with
    | nil => rw [Wlx.scan_nil] at hs; cases hs
    | cons b t =>
      rw [Wlx.scan_cons] at hs
      simp only [List.length_cons] at h
      split at hs
      · exact ih _ t (by omega) _ _ hs
      split at hs
      · simp only [Wlx.Res.err, Sum.inr.injEq, Prod.mk.injEq] at hs
        have := hs.1
        split at this <;> omega
      rename_i h6
      split at hs
      · simp only [Wlx.Res.err, Sum.inr.injEq, Prod.mk.injEq] at hs
        omega
      have hp := Wlx.hit_pos h6
      generalize Wlx.sz (Wlx.hit (b :: t)) (b :: t) = m at *
      generalize hR : Wlx.scan (p + m) ((b :: t).drop m) = R at hs
      cases R with
      | inl us => cases hs
      | inr q' =>
        obtain ⟨c', p'⟩ := q'
        simp only [Wlx.Res.cons, Sum.inr.injEq, Prod.mk.injEq] at hs
        have := ih (p + m) ((b :: t).drop m) (by rw [List.length_drop]; simp only [List.length_cons]; omega) _ _ hR
        rw [← hs.1]; exact this
theorem scan_code {l : List UInt8} {c p : Nat} (h : scanAll l = .inr (c, p)) : c ≠ 0 := by
  unfold scanAll at h
  split at h
  · simp only [Wlx.Res.err, Sum.inr.injEq, Prod.mk.injEq] at h
    omega
  · exact scan_bad_code _ 0 l (Nat.le_refl _) _ _ h
theorem parse_any (b : ByteArray) (w : World) (hE : Env w) (hs : b.size ≤ 9223372036854775807) (hk8 : 8 ≤ w.heap.size) : Calls Tryz.prog 7 #[.string b] w fun e w' => PaPost w.heap.size (prsR b.data.toList) e w' ∧ Below w.heap.size w w' := by
  unfold prsR
  cases hr : scanAll b.data.toList with
  | inr q =>
    obtain ⟨c, p⟩ := q
    exact (parse_err b w hE hs c p (scan_code hr) hr).mono fun e w' h => ⟨h.1, h.2⟩
  | inl ts =>
    have := parse_toks b w hE hs ts hk8 hr
    have e : b.data.toList.length = b.size := by rw [Array.length_toList]; rfl
    rw [e]; exact this
theorem RdN.flat {w : World} {av : Option Addr} {L : List Wt.Nd} (h : RdN w av L) : ∀ ad, av = some ad → ∀ j u, (ndRow L)[j]? = some u → w.cell? (ad.add j) = some u := by
  intro ad had j u hu
  have hj : j < L.length * 20 := by
    have := (List.getElem?_eq_some_iff.1 hu).1
    rw [ndRow_length] at this; exact this
  have hd : j / 20 < L.length := by omega
  obtain ⟨bb, off, e, hc⟩ := h (j / 20) hd
  rw [had] at e
  obtain rfl := Option.some.inj e
  have h1 := ndRow_get L (j / 20) hd (j % 20) (Nat.mod_lt _ (by omega))
  rw [show j / 20 * 20 + j % 20 = j by omega, hu] at h1
  have h2 := hc (j % 20) u h1.symm
  rw [show off + j / 20 * 20 + j % 20 = off + j by omega] at h2
  rw [Addr.add_mid]; exact h2
theorem ndRow_all (l : List Wt.Nd) : ∀ u ∈ ndRow l, u.oneCell' = true := by
  intro u hu
  unfold ndRow at hu
  obtain ⟨x, _, hu⟩ := List.mem_flatMap.1 hu
  exact nd_one x u hu
theorem wp_copyN {o : Oper} {a : Act} {K : Act → World → Prop} {Q : Exit → Act → World → Prop} (s x : Operand) (ho : o.op = .call { callee := .builtin .append, args := #[s, x], argTypes := #[22, 22] })
    (w : World) (hs : a.eval s = .slice (some ⟨w.heap.size, 0, none⟩) 0 0) (av : Option Addr) (L : List Wt.Nd) (cap : Nat) (hx : a.eval x = .slice av L.length cap) (hr : RdN w av L) (hno : av = none → L.length = 0 ∧ cap = 0) (hl : True → L.length ≤ 799644820177)
    (h : ∀ v' w', OwnN w' w.heap.size v' L → Below w.heap.size w w' → K (a.put o.dst v') w') : o.wp Tryz.prog a (w.alloc (.cells #[] 45)) K Q := by
  obtain ⟨i0, hi0, hz0, hz1, hz2⟩ := info_parts nodeInfo
  have hl := hl trivial
  have hBa := ball (Below.refl _ w) (.cells #[] 45)
  have hown : (w.alloc (.cells #[] 45)).ownsRow w.heap.size 45 20 (.slice (some ⟨w.heap.size, 0, none⟩) 0 0) 0 [] := ⟨rfl, .inr ⟨w.heap.size, 0, #[], rfl, Nat.le_refl _, heap_alloc_new w _, Nat.le_refl _, by unfold maxLen; omega, rfl, rfl⟩⟩
  cases av with
  | some ad =>
    refine wp_append_own _ s x 22 ho w.heap.size 45 i0 _ 20 176 Tryz.underlying22 hi0 hz0 hz1 hz2 rfl (by decide) _ 0 [] hs hown ad L.length cap (ndRow L) hx (ndRow_length L) ((hr.below hBa).flat ad rfl) (ndRow_all L) (by unfold maxLen; omega) (by omega) (by simp only [World.size_alloc]; omega) ?_
    intro v' w' own hg _
    rw [Nat.zero_add, List.nil_append] at own
    refine h v' w' own (hBa.grown hg (by simp only [World.size_alloc]; omega) (fun k e => by simp [Value.ownBlock] at e; omega))
  | none =>
    obtain ⟨h0, rfl⟩ := hno rfl
    have hL : L = [] := List.eq_nil_of_length_eq_zero h0
    subst hL
    have hrun := run_append_owned_none (P := Tryz.prog) (w := w.alloc (.cells #[] 45)) w.heap.size 22 o.type 45 i0 20 Tryz.underlying22 hi0 _ 0 [] hown
    have hx : a.eval x = .slice none 0 0 := hx
    unfold Oper.wp
    simp only [execOp, ho, resolve, invoke, builtin, Sem.run_bind, Sem.run_pure, Result.andThen_ok, List.map_toArray, List.map_cons, List.map_nil, hs, hx, hrun]
    exact h _ _ hown hBa
theorem wpList_copyN {ops : Array Oper} {rest : List Oper} {o : Oper} {a : Act} {Q : Exit → Act → World → Prop} (hw : Region.wanted o (yielded ops a.tmps) = true) (s x : Operand) (ho : o.op = .call { callee := .builtin .append, args := #[s, x], argTypes := #[22, 22] })
    (w : World) (hs : a.eval s = .slice (some ⟨w.heap.size, 0, none⟩) 0 0) (av : Option Addr) (L : List Wt.Nd) (cap : Nat) (hx : a.eval x = .slice av L.length cap) (hr : RdN w av L) (hno : av = none → L.length = 0 ∧ cap = 0) (hl : True → L.length ≤ 799644820177)
    (h : ∀ v' w', OwnN w' w.heap.size v' L → Below w.heap.size w w' → wpList Tryz.prog ops Q rest (a.put o.dst v') w') : wpList Tryz.prog ops Q (o :: rest) a (w.alloc (.cells #[] 45)) :=
  BigFrame.wpList_want hw fun _ hK => wp_copyN s x ho w hs av L cap hx hr hno hl fun v' w' h1 h2 => hK _ _ (h v' w' h1 h2)
theorem ndRow_cat (a b : List Wt.Nd) : ndRow (a ++ b) = ndRow a ++ ndRow b := by simp [ndRow]
theorem wpList_appN {ops : Array Oper} {rest : List Oper} {o : Oper} {a : Act} {Q : Exit → Act → World → Prop} (hw : Region.wanted o (yielded ops a.tmps) = true) (s x : Operand) (ho : o.op = .call { callee := .builtin .append, args := #[s, x], argTypes := #[22, 22] })
    (w0 w : World) (hB : Below w0.heap.size w0 w) (v : Value) (A : List Wt.Nd) (hs : a.eval s = v) (hown : OwnN w w0.heap.size v A) (av : Option Addr) (L : List Wt.Nd) (cap : Nat) (hx : a.eval x = .slice av L.length cap) (hr : RdN w av L) (hpos : 0 < L.length) (hl : True → A.length + L.length ≤ 799644820179)
    (h : ∀ v' w', OwnN w' w0.heap.size v' (A ++ L) → Below w0.heap.size w0 w' → wpList Tryz.prog ops Q rest (a.put o.dst v') w') : wpList Tryz.prog ops Q (o :: rest) a w := by
  obtain ⟨i0, hi0, hz0, hz1, hz2⟩ := info_parts nodeInfo
  have hl := hl trivial
  obtain ⟨bb, off, rfl, -⟩ := hr 0 hpos
  refine BigFrame.wpList_want hw fun _ hK => ?_
  refine wp_append_own _ s x 22 ho w0.heap.size 45 i0 _ 20 176 Tryz.underlying22 hi0 hz0 hz1 hz2 rfl (by decide) v A.length (ndRow A) hs hown ⟨bb, off, none⟩ L.length cap (ndRow L) hx (ndRow_length L) (hr.flat _ rfl) (ndRow_all L) (by unfold maxLen; omega) (by omega) hB.size ?_
  intro v' w' own hg _
  refine hK _ _ (h v' w' ?_ ?_)
  · unfold OwnN
    rw [List.length_append, ndRow_cat]
    exact own
  · refine hB.grown hg hB.size (fun k e => ?_)
    rcases hown.2 with ⟨e2, _⟩ | ⟨g, cap', cur, e2, hg', _⟩
    · rw [e2] at e; simp [Value.ownBlock] at e
    · rw [e2] at e
      simp [Value.ownBlock] at e
      omega
def mkN (c : Int) : Wt.Nd := ⟨0, Wt.v0, 0, ⟨#[]⟩, c, Wt.r0, Wt.r0⟩
theorem bs2n (x y : Wt.Nd) (w : World) : (Instr.buildSlice 22 2 #[(0, .agg (nd20 x).toArray), (1, .agg (nd20 y).toArray)]).run Tryz.prog w = .ok (.slice (some ⟨w.heap.size, 0, none⟩) 2 2) (w.alloc (.cells (nd20 x ++ nd20 y).toArray 45)) := by kernel_rfl
theorem wp_bs2n {op : Oper} {a : Act} {w : World} {K : Act → World → Prop} {Q : Exit → Act → World → Prop} (y z : Operand) (ho : op.op = .buildSlice 22 2 #[(0, y), (1, z)]) (x u : Wt.Nd) (hy : a.eval y = .agg (nd20 x).toArray) (hz : a.eval z = .agg (nd20 u).toArray)
    (h : K (a.put op.dst (.slice (some ⟨w.heap.size, 0, none⟩) 2 2)) (w.alloc (.cells (nd20 x ++ nd20 u).toArray 45))) : op.wp Tryz.prog a w K Q := by
  unfold Oper.wp execOp
  simp only [ho, List.map_toArray, List.map_cons, List.map_nil, hy, hz, Sem.run_bind, Sem.run_pure, Result.andThen_ok, bs2n]
  exact h
theorem wpList_bs2n {ops : Array Oper} {rest : List Oper} {op : Oper} {a : Act} {w : World} {Q : Exit → Act → World → Prop} (hgd : op.guard = none) (y z : Operand) (ho : op.op = .buildSlice 22 2 #[(0, y), (1, z)]) (x u : Wt.Nd) (hy : a.eval y = .agg (nd20 x).toArray) (hz : a.eval z = .agg (nd20 u).toArray)
    (h : wpList Tryz.prog ops Q rest (a.put op.dst (.slice (some ⟨w.heap.size, 0, none⟩) 2 2)) (w.alloc (.cells (nd20 x ++ nd20 u).toArray 45))) : wpList Tryz.prog ops Q (op :: rest) a w :=
  wpList_plain hgd fun _ hK => wp_bs2n y z ho x u hy hz (hK _ _ h)
theorem bldN (c : Int) (w : World) : (Instr.build 45 #[(4, .int .i64 c)]).run Tryz.prog w = .ok (.agg (nd20 (mkN c)).toArray) w := by kernel_rfl
theorem wp_bldN {op : Oper} {a : Act} {w : World} {K : Act → World → Prop} {Q : Exit → Act → World → Prop} (y : Operand) (ho : op.op = .build 45 #[(4, y)]) (c : Int) (hy : a.eval y = .int .i64 c)
    (h : K (a.put op.dst (.agg (nd20 (mkN c)).toArray)) w) : op.wp Tryz.prog a w K Q := by
  unfold Oper.wp execOp
  simp only [ho, List.map_toArray, List.map_cons, List.map_nil, hy, Sem.run_bind, Sem.run_pure, Result.andThen_ok, bldN]
  exact h
theorem wpList_bldN {ops : Array Oper} {rest : List Oper} {op : Oper} {a : Act} {w : World} {Q : Exit → Act → World → Prop} (hgd : op.guard = none) (y : Operand) (ho : op.op = .build 45 #[(4, y)]) (c : Int) (hy : a.eval y = .int .i64 c)
    (h : wpList Tryz.prog ops Q rest (a.put op.dst (.agg (nd20 (mkN c)).toArray)) w) : wpList Tryz.prog ops Q (op :: rest) a w :=
  wpList_plain hgd fun _ hK => wp_bldN y ho c hy (hK _ _ h)
theorem rd_two (w : World) (x y : Wt.Nd) : RdN (w.alloc (.cells (nd20 x ++ nd20 y).toArray 45)) (some ⟨w.heap.size, 0, none⟩) [x, y] := fun i hi => by
  have h := range_new w 45 (nd20 x) (nd20 y)
  refine ⟨w.heap.size, 0, rfl, ?_⟩
  match i, hi with
  | 0, _ => exact h.1
  | 1, _ => exact h.2
def Lent (w : World) (B : Nat) (v : Value) (L : List Wt.Nd) : Prop := ∃ g cap, v = .slice (some ⟨g, 0, none⟩) L.length cap ∧ L.length + 2 ≤ cap ∧ (cap : Int) ≤ 9223372036854775807 ∧ OwnN w B (.slice (some ⟨g, 0, none⟩) (L.length + 2) cap) (L ++ [mkN 77, mkN 78])
theorem Lent.below {w w' : World} {B : Nat} {v : Value} {L : List Wt.Nd} (h : Lent w B v L) (hb : Below w.heap.size w w') : Lent w' B v L := by
  obtain ⟨g, cap, e, h1, h2, h3⟩ := h
  exact ⟨g, cap, e, h1, h2, h3.below hb⟩
theorem rd_app {w : World} {av : Option Addr} {L M : List Wt.Nd} (h : RdN w av (L ++ M)) : RdN w av L := fun i hi => by
  obtain ⟨bb, off, e, hx⟩ := h i (by rw [List.length_append]; omega)
  rw [List.getElem_append_left hi] at hx
  exact ⟨bb, off, e, hx⟩
theorem Lent.rd {w : World} {B : Nat} {v : Value} {L : List Wt.Nd} (h : Lent w B v L) : ∃ av cap, v = .slice av L.length cap ∧ L.length ≤ cap ∧ RdN w av L := by
  obtain ⟨g, cap, e, h1, h2, h3⟩ := h
  exact ⟨_, cap, e, by omega, rd_app h3.rd⟩
theorem OwnN.arg {w : World} {B g n cap : Nat} {L : List Wt.Nd} (h : OwnN w B (.slice (some ⟨g, 0, none⟩) n cap) L) (hn : n = L.length) (i : Nat) (hi : i < L.length) : w.cell? ⟨g, i * 20 + 9, none⟩ = some (.int .i64 (L[i]).ar) := by
  obtain ⟨bb, off, e, hx⟩ := h.rd i hi
  simp only [Option.some.injEq, Addr.mk.injEq] at e
  obtain ⟨rfl, rfl, -⟩ := e
  have := hx 9 _ rfl
  rw [Nat.zero_add] at this
  exact this
end Go.Proofs.YtlggnpohhahdlaaGreatDoor
