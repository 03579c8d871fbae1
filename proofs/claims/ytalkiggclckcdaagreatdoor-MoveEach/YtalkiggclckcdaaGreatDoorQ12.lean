/- TState, TStateB, TStateC, VWalkD, PlainF. -/
import Derived.Test.YtalkiggclckcdaaGreatDoorQ11
import Derived.Laws.AppendOwn
import Derived.Laws.Slices
import Derived.WalkSmall
namespace Go.Proofs.YtalkiggclckcdaaGreatDoor
open Go.RowKit
set_option linter.unusedVariables false
def PSt (w : World) (kp : Nat) (ts : List Wlx.TV) (en : Int) : Prop :=
  ∃ (av : Option Addr) (cap : Nat), ts.length ≤ cap ∧ AtL w kp [.slice av ts.length cap, .int .i64 en] ∧
    ∀ i (h : i < ts.length), ∃ bb off, av = some ⟨bb, off, none⟩ ∧ bb < kp ∧ w.cell? ⟨bb, off + i * 3, none⟩ = some (.int .i64 (ts[i]).k) ∧ w.cell? ⟨bb, off + i * 3 + 1, none⟩ = some (.string ⟨(ts[i]).t.toArray⟩) ∧ w.cell? ⟨bb, off + i * 3 + 2, none⟩ = some (.int .i64 (ts[i]).p)
theorem PSt.below {w w' : World} {kp : Nat} {ts : List Wlx.TV} {en : Int} (h : PSt w kp ts en) (hb : Below w.heap.size w w') : PSt w' kp ts en := by
  obtain ⟨av, cap, h1, h2, h3⟩ := h
  refine ⟨av, cap, h1, h2.below hb, fun i hi => ?_⟩
  obtain ⟨bb, off, e, hn, c0, c1, c2⟩ := h3 i hi
  exact ⟨bb, off, e, hn, cell_below hb c0, cell_below hb c1, cell_below hb c2⟩
theorem below_grown {w w' : World} (hb : Below w.heap.size w w') (row : Option Nat) : w.grownBy w' row := ⟨hb.os, hb.tape, hb.output, hb.size, fun k hk _ => hb.block k hk⟩
theorem grown_trans {w w1 w2 : World} {row : Option Nat} (h1 : w.grownBy w1 row) (h2 : w1.grownBy w2 row) : w.grownBy w2 row :=
  ⟨h2.os.trans h1.os, h2.tape.trans h1.tape, h2.output.trans h1.output, Nat.le_trans h1.size h2.size, fun k hk hn => (h2.block k (Nat.lt_of_lt_of_le hk h1.size) hn).trans (h1.block k hk hn)⟩
def hd (ts : List Wlx.TV) (en : Int) : Wlx.TV := match ts with
  | [] => ⟨0, [], en⟩
  | t :: _ => t
def tkV (t : Wlx.TV) : Value := .agg #[.int .i64 t.k, .string ⟨t.t.toArray⟩, .int .i64 t.p]
set_option maxRecDepth 100000 in
theorem next_any (kp : Nat) (ts : List Wlx.TV) (en : Int) (w : World) (h : PSt w kp ts en) : Calls Tryz.prog 68 #[.pointer (some ⟨kp, 0, none⟩)] w fun e w' => e = .returned (tkV (hd ts en)) ∧ Below w.heap.size w w' := by
  obtain ⟨av, cap, h1, h2, h3⟩ := h
  have hlt := h2.lt
  obtain ⟨c0, c1, f0, f1⟩ := h2.two
  have hne : ¬ kp = w.heap.size := by omega
  cases ts with
  | nil =>
    simp only [List.length_nil] at c0
    go_enter Tryz.func68, Tryz.ntmps68
    go_wp2
    refine bodyPost_ret (v := .agg #[.int .i64 0, .string ⟨#[]⟩, .int .i64 en]) (by simp [results, Tryz.results68, go_sem, *]) rfl ⟨rfl, ?_⟩
    exact by with_reducible repeat (first | exact Below.refl _ _ | refine below_drewN ?_ _ | refine Below.setCell ?_ (by first | (simp; done) | (simp; omega) | omega) _ | refine Below.drew ?_ | refine below_end ?_ (by assumption) | refine ball ?_ _)
  | cons t r =>
    obtain ⟨bb, off, e, hn, d0, d1, d2⟩ := h3 0 (by simp)
    subst e
    have hlb := World.block_lt_of_cell? _ _ d0
    have hnb : ¬ bb = w.heap.size := by simp only at hlb; omega
    simp only [List.getElem_cons_zero, Nat.zero_mul, Nat.add_zero] at d0 d1 d2
    obtain ⟨m, hm⟩ : ∃ m, r.length + 1 = m := ⟨_, rfl⟩
    simp only [List.length_cons, hm] at c0
    have hm0 : ((m : Int) == 0) = false := by rw [beq_eq_false_iff_ne]; omega
    have hm1 : (0 : Int) < (m : Int) := by omega
    go_enter Tryz.func68, Tryz.ntmps68
    go_wp2
    refine bodyPost_ret (v := tkV t) (by simp [results, Tryz.results68, go_sem, tkV, *]) rfl ⟨rfl, ?_⟩
    exact by with_reducible repeat (first | exact Below.refl _ _ | refine below_drewN ?_ _ | refine Below.setCell ?_ (by first | (simp; done) | (simp; omega) | omega) _ | refine Below.drew ?_ | refine below_end ?_ (by assumption) | refine ball ?_ _)
def isMk (t : Wlx.TV) (m : List UInt8) : Bool := (t.k == 5) && (t.t == m)
theorem isMark_any (t : Wlx.TV) (m : List UInt8) (w : World) : Calls Tryz.prog 139 #[tkV t, .string ⟨m.toArray⟩] w fun e w' => e = .returned (.bool (isMk t m)) ∧ Below w.heap.size w w' := by
  obtain ⟨k, x, p⟩ := t
  unfold isMk
  show Calls _ _ #[.agg #[.int .i64 k, .string ⟨x.toArray⟩, .int .i64 p], .string ⟨m.toArray⟩] _ _
  simp only
  by_cases hk : k = 5
  · subst hk
    go_enter Tryz.func139, Tryz.ntmps139
    go_wp2
    go_ret
    exact ⟨ret_bool (by simp), by with_reducible repeat (first | exact Below.refl _ _ | refine below_drewN ?_ _ | refine Below.setCell ?_ (by first | (simp; done) | (simp; omega) | omega) _ | refine Below.drew ?_ | refine below_end ?_ (by assumption) | refine ball ?_ _)⟩
  · have hk' : (k == 5) = false := by simp [hk]
    rw [hk']
    go_enter Tryz.func139, Tryz.ntmps139
    go_wp2
    go_ret
    exact ⟨rfl, by with_reducible repeat (first | exact Below.refl _ _ | refine below_drewN ?_ _ | refine Below.setCell ?_ (by first | (simp; done) | (simp; omega) | omega) _ | refine Below.drew ?_ | refine below_end ?_ (by assumption) | refine ball ?_ _)⟩
def fol (ts : List Wlx.TV) (m : List UInt8) : Bool := match ts with
  | _ :: t :: _ => isMk t m
  | _ => false
set_option maxRecDepth 100000 in
theorem follows_any (kp : Nat) (ts : List Wlx.TV) (en : Int) (m : List UInt8) (w : World) (h : PSt w kp ts en) (hts : ts.length ≤ 1024) : Calls Tryz.prog 130 #[.pointer (some ⟨kp, 0, none⟩), .string ⟨m.toArray⟩] w fun e w' => e = .returned (.bool (fol ts m)) ∧ Below w.heap.size w w' := by
  obtain ⟨av, cap, h1, h2, h3⟩ := h
  obtain ⟨c0, c1, f0, f1⟩ := h2.two
  by_cases hl : 1 < ts.length
  · obtain ⟨bb, off, e, hn, d0, d1, d2⟩ := h3 1 hl
    subst e
    have C := isMark_any (ts[1]) m w
    have hf : fol ts m = isMk (ts[1]) m := by
      match ts, hl with
      | _ :: t :: _, _ => rfl
    rw [hf]
    clear hf h3 h2
    have hli : (1 : Int) < (ts.length : Int) := by omega
    generalize isMk (ts[1]) m = q at *
    unfold tkV at C
    go_enter Tryz.func130, Tryz.ntmps130
    go_wp2_with fail
    refine C.mono ?_
    rintro e w1 ⟨rfl, hb⟩
    go_wp2
    go_ret
    exact ⟨rfl, hb⟩
  · have hf : fol ts m = false := by
      match ts, hl with
      | [], _ => rfl
      | [_], _ => rfl
      | _ :: _ :: _, h => exact absurd (by simp) h
    rw [hf]
    have hli : ¬ (1 : Int) < (ts.length : Int) := by omega
    go_enter Tryz.func130, Tryz.ntmps130
    go_wp2
    go_ret
    exact ⟨rfl, Below.refl _ _⟩
theorem set_grown (w : World) (kp o : Nat) (v : Value) : w.grownBy (w.setCell ⟨kp, o, none⟩ v) (some kp) := by
  have hb := (Below.refl kp w).setCell (p := ⟨kp, o, none⟩) (Nat.le_refl _) v
  refine ⟨hb.os, hb.tape, hb.output, hb.size, fun k hk hn => ?_⟩
  exact Below.heap_setCell _ _ _ _ (fun e => hn (by rw [e]))
theorem PSt.far {w : World} {kp : Nat} {ts : List Wlx.TV} {en : Int} (h : PSt w kp ts en) {b : Nat} (hb : kp < b) (o : Nat) (v : Value) : PSt (w.setCell ⟨b, o, none⟩ v) kp ts en := by
  obtain ⟨av, cap, h1, h2, h3⟩ := h
  refine ⟨av, cap, h1, h2.far (by omega) o v, fun i hi => ?_⟩
  obtain ⟨bb, off, e, hn, c0, c1, c2⟩ := h3 i hi
  refine ⟨bb, off, e, hn, ?_, ?_, ?_⟩ <;> rw [World.cell?_setCell_far _ _ _ _ (by simp; omega)] <;> assumption
theorem grown_set {w W : World} {row : Option Nat} (h : w.grownBy W row) {b : Nat} (hb : w.heap.size ≤ b) (o : Nat) (v : Value) : w.grownBy (W.setCell ⟨b, o, none⟩ v) row := by
  have q := (Below.refl b W).setCell (p := ⟨b, o, none⟩) (Nat.le_refl _) v
  exact ⟨q.os.trans h.os, q.tape.trans h.tape, q.output.trans h.output, Nat.le_trans h.size q.size, fun k hk hn => (q.block k (by omega)).trans (h.block k hk hn)⟩
theorem PSt.lt {w : World} {kp : Nat} {ts : List Wlx.TV} {en : Int} (h : PSt w kp ts en) : kp < w.heap.size := by
  obtain ⟨av, cap, h1, h2, h3⟩ := h
  exact h2.lt
theorem PSt.moved {w : World} {kp n cap : Nat} {av av' : Option Addr} {a r : List Wlx.TV} {en : Int} (hn : a.length = n) (hcap : n + r.length ≤ cap) (h2 : AtL w kp [.slice av (a ++ r).length cap, .int .i64 en])
    (h3 : ∀ i (h : i < (a ++ r).length), ∃ bb off, av = some ⟨bb, off, none⟩ ∧ bb < kp ∧ w.cell? ⟨bb, off + i * 3, none⟩ = some (.int .i64 ((a ++ r)[i]).k) ∧ w.cell? ⟨bb, off + i * 3 + 1, none⟩ = some (.string ⟨((a ++ r)[i]).t.toArray⟩) ∧ w.cell? ⟨bb, off + i * 3 + 2, none⟩ = some (.int .i64 ((a ++ r)[i]).p))
    (hav : 0 < r.length → av' = av.map (·.add (n * 3))) : PSt (w.setCell ⟨kp, 0, none⟩ (.slice av' r.length (cap - n))) kp r en := by
  refine ⟨av', cap - n, by omega, h2.set 0 _, fun i hi => ?_⟩
  obtain ⟨bb, off, e, hne, d0, d1, d2⟩ := h3 (i + n) (by rw [List.length_append]; omega)
  have hg : (a ++ r)[i + n]'(by rw [List.length_append]; omega) = r[i] := by
    rw [List.getElem_append_right (by omega)]
    congr 1
    omega
  rw [hg] at d0 d1 d2
  refine ⟨bb, off + n * 3, ?_, hne, ?_, ?_, ?_⟩
  · rw [hav (by omega), e]
    show some ((⟨bb, off, none⟩ : Addr).add (n * 3)) = _
    rw [Addr.add_mid]
  · rw [World.cell?_setCell_far _ _ _ _ (by simp; omega), show off + n * 3 + i * 3 = off + (i + n) * 3 by omega]; exact d0
  · rw [World.cell?_setCell_far _ _ _ _ (by simp; omega), show off + n * 3 + i * 3 + 1 = off + (i + n) * 3 + 1 by omega]; exact d1
  · rw [World.cell?_setCell_far _ _ _ _ (by simp; omega), show off + n * 3 + i * 3 + 2 = off + (i + n) * 3 + 2 by omega]; exact d2
set_option maxRecDepth 100000 in
theorem pass_any (n : Nat) (kp : Nat) (a r : List Wlx.TV) (en : Int) (w : World) (h : PSt w kp (a ++ r) en) (hn : a.length = n) (hn2 : n ≤ 2) (hts : (a ++ r).length ≤ 1024) : Calls Tryz.prog 84 #[.pointer (some ⟨kp, 0, none⟩), .int .i64 n] w fun e w' => e = .returned (.tuple #[]) ∧ PSt w' kp r en ∧ w.grownBy w' (some kp) := by
  obtain ⟨av, cap, h1, h2, h3⟩ := h
  obtain ⟨c0, c1, f0, f1⟩ := h2.two
  have hl : (a ++ r).length = n + r.length := by rw [List.length_append, hn]
  rw [hl] at h1 hts
  simp only [hl] at c0
  have e1 : (0 : Int) ≤ (n : Int) := by omega
  have e2 : (n : Int) ≤ ((n + r.length : Nat) : Int) := by omega
  go_enter Tryz.func84, Tryz.ntmps84
  go_wp2
  · go_end0
    refine ⟨rfl, ?_, set_grown _ _ _ _⟩
    have q := PSt.moved (av' := av) hn h1 h2 h3 (fun q => by omega)
    rw [show cap - n = 0 by omega] at q
    exact q
  · go_end0
    exact ⟨rfl, PSt.moved hn h1 h2 h3 (fun h => rfl), set_grown _ _ _ _⟩
def pos (ts : List Wlx.TV) (en : Int) : Int := (hd ts en).p
def stop (c p : Int) : Ending := .panicked [{ v := .iface 57 (.agg #[.int .i64 c, .int .i64 p]), recovered := false }]
theorem tok_at (k : Int) (x : ByteArray) (p : Int) (w : World) : (Instr.field 89 (.agg #[.int .i64 k, .string x, .int .i64 p]) 2).run Tryz.prog w = .ok (.int .i64 p) w := by kernel_rfl
theorem tok_kind (k : Int) (x : ByteArray) (p : Int) (w : World) : (Instr.field 89 (.agg #[.int .i64 k, .string x, .int .i64 p]) 0).run Tryz.prog w = .ok (.int .i64 k) w := by kernel_rfl
theorem tok_text (k : Int) (x : ByteArray) (p : Int) (w : World) : (Instr.field 89 (.agg #[.int .i64 k, .string x, .int .i64 p]) 1).run Tryz.prog w = .ok (.string x) w := by kernel_rfl
set_option maxRecDepth 100000 in
theorem refuse_any (kp : Nat) (ts : List Wlx.TV) (en c : Int) (w : World) (h : PSt w kp ts en) : Calls Tryz.prog 52 #[.pointer (some ⟨kp, 0, none⟩), .int .i64 c] w fun e w' => e = stop c (pos ts en) ∧ Below w.heap.size w w' := by
  have N := next_any kp ts en w h
  unfold pos
  generalize hd ts en = t at *
  obtain ⟨k, x, p⟩ := t
  unfold tkV at N
  simp only at N ⊢
  have hfl := tok_at
  go_enter Tryz.func52, Tryz.ntmps52
  go_wp2_with fail
  refine N.mono ?_
  rintro e w1 ⟨rfl, hb⟩
  go_wp2
  exact ⟨rfl, rfl, hb⟩
theorem must_true (kp : Nat) (w : World) : Calls Tryz.prog 35 #[.pointer (some ⟨kp, 0, none⟩), .bool true] w fun e w' => e = .returned (.tuple #[]) ∧ w = w' := by
  go_enter Tryz.func35, Tryz.ntmps35
  go_wp2
  go_end0
  exact ⟨rfl, rfl⟩
theorem must_false (kp : Nat) (ts : List Wlx.TV) (en : Int) (w : World) (h : PSt w kp ts en) : Calls Tryz.prog 35 #[.pointer (some ⟨kp, 0, none⟩), .bool false] w fun e w' => e = stop 50 (pos ts en) ∧ Below w.heap.size w w' := by
  have N := refuse_any kp ts en 50 w h
  unfold stop at N ⊢
  go_enter Tryz.func35, Tryz.ntmps35
  go_wp2_with fail
  refine N.mono ?_
  rintro e w1 ⟨rfl, hb⟩
  go_wp2
  exact ⟨rfl, rfl, hb⟩
def tk (ts : List Wlx.TV) (m : List UInt8) : Option (List Wlx.TV) := match ts with
  | [] => none
  | t :: r => if isMk t m then some r else none
set_option maxRecDepth 100000 in
theorem take_any (kp : Nat) (ts : List Wlx.TV) (en : Int) (m : List UInt8) (w : World) (h : PSt w kp ts en) (hts : ts.length ≤ 1024) : Calls Tryz.prog 134 #[.pointer (some ⟨kp, 0, none⟩), .string ⟨m.toArray⟩] w fun e w' =>
    match tk ts m with
    | some r => e = .returned (.bool true) ∧ PSt w' kp r en ∧ w.grownBy w' (some kp)
    | none => e = .returned (.bool false) ∧ PSt w' kp ts en ∧ w.grownBy w' (some kp) := by
  have N := next_any kp ts en w h
  have M := fun w => isMark_any (hd ts en) m w
  cases ts with
  | nil =>
    have e0 : isMk (hd [] en) m = false := rfl
    rw [e0] at M
    generalize hd [] en = t at *
    simp only [tk]
    go_enter Tryz.func134, Tryz.ntmps134
    go_wp2_with fail
    refine N.mono ?_
    rintro e w1 ⟨rfl, hb1⟩
    go_wp2_with fail
    refine (M _).mono ?_
    rintro e w2 ⟨rfl, hb2⟩
    have hb := below_end hb1 hb2
    go_wp2
    go_ret
    exact ⟨rfl, h.below hb, below_grown hb _⟩
  | cons t r =>
    have e0 : hd (t :: r) en = t := rfl
    rw [e0] at M N
    simp only [tk]
    cases hq : isMk t m with
    | false =>
      rw [hq] at M
      rw [if_neg (by decide)]
      go_enter Tryz.func134, Tryz.ntmps134
      go_wp2_with fail
      refine N.mono ?_
      rintro e w1 ⟨rfl, hb1⟩
      go_wp2_with fail
      refine (M _).mono ?_
      rintro e w2 ⟨rfl, hb2⟩
      have hb := below_end hb1 hb2
      go_wp2
      go_ret
      exact ⟨rfl, h.below hb, below_grown hb _⟩
    | true =>
      rw [hq] at M
      rw [if_pos rfl]
      go_enter Tryz.func134, Tryz.ntmps134
      go_wp2_with fail
      refine N.mono ?_
      rintro e w1 ⟨rfl, hb1⟩
      go_wp2_with fail
      refine (M _).mono ?_
      rintro e w2 ⟨rfl, hb2⟩
      have hb := below_end hb1 hb2
      have P := pass_any 1 kp [t] r en w2 (h.below hb) rfl (by decide) hts
      go_wp2_with fail
      refine P.mono ?_
      rintro e w3 ⟨rfl, hp, hg⟩
      go_wp2
      go_ret
      exact ⟨rfl, hp, grown_trans (below_grown hb _) hg⟩
theorem AtL.grown {W W' : World} {k : Nat} {vs : List Value} {row : Option Nat} (h : AtL W k vs) (hg : W.grownBy W' row) (hne : some k ≠ row) : AtL W' k vs := by
  obtain ⟨h1, h2, h3⟩ := h
  have hbk := hg.block k h1 hne
  refine ⟨Nat.lt_of_lt_of_le h1 hg.size, fun i v hi => ?_, fun i hi => ?_⟩
  · exact (World.cell?_of_block (a := ⟨k, i, none⟩) hbk).trans (h2 i v hi)
  · rw [← h3 i hi]
    unfold World.frozen?
    simp only [hbk]
def tkOp (k : Int) (ts : List Wlx.TV) : Option ((Int × List UInt8 × Int) × List Wlx.TV) := match ts with
  | [] => none
  | t :: r => if t.k = 5 then (Wt.opAs t.t k).map fun o => (o, r) else none
def TkPost (kp : Nat) (en : Int) (ts : List Wlx.TV) (r : Option ((Int × List UInt8 × Int) × List Wlx.TV)) (w : World) (e : Ending) (w' : World) : Prop := match r with
  | some ((o, m, t), r) => e = .returned (.tuple #[.agg #[.int .i64 o, .string ⟨m.toArray⟩, .int .i64 t], .bool true]) ∧ PSt w' kp r en ∧ w.grownBy w' (some kp)
  | none => e = .returned (.tuple #[.agg #[.int .i64 0, .string ⟨#[]⟩, .int .i64 0], .bool false]) ∧ PSt w' kp ts en ∧ w.grownBy w' (some kp)
set_option maxHeartbeats 2000000 in
set_option maxRecDepth 100000 in
theorem takeOp_any (kp : Nat) (ts : List Wlx.TV) (en k : Int) (w : World) (h : PSt w kp ts en) (hts : ts.length ≤ 1024) (hO : OpsAt w) : Calls Tryz.prog 66 #[.pointer (some ⟨kp, 0, none⟩), .int .i64 k] w fun e w' => TkPost kp en ts (tkOp k ts) w e w' := by
  have h' : PSt (w.alloc (.cells #[.int .i64 0, .string ⟨#[]⟩, .int .i64 0] 118)) kp ts en := h.below ((Below.refl _ _).alloc (Nat.le_refl _) _)
  have N := next_any kp ts en _ h'
  clear h'
  have hO0 := hO.alloc (.cells #[.int .i64 0, .string ⟨#[]⟩, .int .i64 0] 118)
  have pR := AtL.new0 w 118 [.int .i64 0, .string ⟨#[]⟩, .int .i64 0]
  have hB0 := ball (Below.refl _ w) (.cells #[.int .i64 0, .string ⟨#[]⟩, .int .i64 0] 118)
  obtain ⟨t, ht⟩ : ∃ t, hd ts en = t := ⟨_, rfl⟩
  have A := fun w h => topAs_any ⟨t.t.toArray⟩ k w h
  have e1 : (⟨t.t.toArray⟩ : ByteArray).data.toList = t.t := rfl
  rw [e1] at A
  clear e1
  rw [ht] at N
  have hko : tkOp k ts = if t.k = 5 then (Wt.opAs t.t k).map fun o => (o, ts.tail) else none := by
    cases ts with
    | nil => subst ht; rfl
    | cons a r => subst ht; rfl
  have hne : t.k = 5 → ∃ r, ts = t :: r := by
    intro h5
    cases ts with
    | nil => subst ht; exact absurd h5 (by show ¬ (0 : Int) = 5; decide)
    | cons a r => subst ht; exact ⟨r, rfl⟩
  rw [hko]
  clear ht hko
  obtain ⟨tk, tx, tp⟩ := t
  simp only at A hne ⊢
  unfold tkV at N
  simp only at N
  cases ha : Wt.opAs tx k with
  | none =>
    rw [ha] at A
    have e2 : (if tk = 5 then Option.map (fun o => (o, ts.tail)) (none : Option (Int × List UInt8 × Int)) else none) = none := by split <;> rfl
    rw [e2]
    simp only [TkPost]
    simp only [opV] at A
    go_enter Tryz.func66, Tryz.ntmps66
    go_wp2_with fail
    refine N.mono ?_
    rintro e w1 ⟨rfl, hb1⟩
    have pR1 := AtL.below hb1 pR
    have hB1 := below_end hB0 hb1
    have hO1 := hO0.below hb1
    have hA := A _ (hO1.alloc (.cells #[.int .i64 tk, .string ⟨tx.toArray⟩, .int .i64 tp] 89))
    have pR2 := AtL.alloc pR1 (.cells #[.int .i64 tk, .string ⟨tx.toArray⟩, .int .i64 tp] 89)
    have hB2 := ball hB1 (.cells #[.int .i64 tk, .string ⟨tx.toArray⟩, .int .i64 tp] 89)
    clear pR hB0 hO0 N hb1 pR1 hB1 hO1 A
    go_wp2_with fail
    refine hA.mono ?_
    rintro e w2 ⟨rfl, hb2⟩
    have pR3 := AtL.below hb2 pR2
    have hB3 := below_end hB2 hb2
    have hlt := pR3.lt
    have hx : ¬ w.heap.size = w2.heap.size := by omega
    have hx2 : ¬ w2.heap.size = w.heap.size := by omega
    obtain ⟨c0, c1, c2, f0, f1, f2⟩ := pR3.three
    clear hA pR2 hB2 hb2
    go_wp2
    refine bodyPost_ret (v := .tuple #[.agg #[.int .i64 0, .string ⟨#[]⟩, .int .i64 0], .bool false]) (by simp [results, Tryz.results66, go_sem, *]) rfl ?_
    have hf : ∀ W : World, Below w.heap.size w W → (Ending.returned (.tuple #[.agg #[.int .i64 0, .string ⟨#[]⟩, .int .i64 0], .bool false]) = Ending.returned (.tuple #[.agg #[.int .i64 0, .string ⟨#[]⟩, .int .i64 0], .bool false]) ∧ PSt W kp ts en ∧ w.grownBy W (some kp)) := fun W hW => ⟨rfl, h.below hW, below_grown hW _⟩
    exact hf _ (by with_reducible repeat (first | exact hB3 | refine ball ?_ _ | refine Below.setCell ?_ (by first | (simp; done) | (simp; omega) | omega) _ | refine Below.drew ?_ | refine below_drewN ?_ _))
  | some q =>
    obtain ⟨o, m, t2⟩ := q
    rw [ha] at A
    simp only [opV] at A
    by_cases h5 : tk = 5
    · rw [if_pos h5]
      obtain ⟨r, hr⟩ := hne h5
      subst hr
      simp only [Option.map_some, List.tail_cons, TkPost]
      subst h5
      go_enter Tryz.func66, Tryz.ntmps66
      go_wp2_with fail
      refine N.mono ?_
      rintro e w1 ⟨rfl, hb1⟩
      have pR1 := AtL.below hb1 pR
      have hB1 := below_end hB0 hb1
      have hO1 := hO0.below hb1
      have hA := A _ (hO1.alloc (.cells #[.int .i64 5, .string ⟨tx.toArray⟩, .int .i64 tp] 89))
      have pR2 := AtL.alloc pR1 (.cells #[.int .i64 5, .string ⟨tx.toArray⟩, .int .i64 tp] 89)
      have hB2 := ball hB1 (.cells #[.int .i64 5, .string ⟨tx.toArray⟩, .int .i64 tp] 89)
      clear pR hB0 hO0 N hb1 pR1 hB1 hO1 A
      go_wp2_with fail
      refine hA.mono ?_
      rintro e w2 ⟨rfl, hb2⟩
      have hb2x := hb2
      have pR3 := AtL.below hb2 pR2
      have hB3 := below_end hB2 hb2
      have hlt := pR3.lt
      have hx : ¬ w.heap.size = w2.heap.size := by omega
      have hx2 : ¬ w2.heap.size = w.heap.size := by omega
      obtain ⟨c0, c1, c2, f0, f1, f2⟩ := pR3.three
      clear hA pR2 hB2 hb2
      have pT := AtL.below hb2x (AtL.new0 w1 89 [.int .i64 5, .string ⟨tx.toArray⟩, .int .i64 tp])
      obtain ⟨u0, u1, u2⟩ := pT.f3
      have hltT := pT.lt
      have pO2 := AtL.new0 w2 118 [.int .i64 o, .string ⟨m.toArray⟩, .int .i64 t2]
      have P := pass_any 1 kp [⟨5, tx, tp⟩] r en (w2.alloc (.cells #[.int .i64 o, .string ⟨m.toArray⟩, .int .i64 t2] 118)) (h.below (ball hB3 _)) rfl (by decide) hts
      have hB4 := ball hB3 (.cells #[.int .i64 o, .string ⟨m.toArray⟩, .int .i64 t2] 118)
      have hkp := h.lt
      go_wp2_with fail
      refine P.mono ?_
      rintro e w3 ⟨rfl, hp, hg⟩
      have pR4 : AtL w3 w.heap.size [.int .i64 0, .string ⟨#[]⟩, .int .i64 0] := AtL.grown (AtL.alloc pR3 _) hg (by intro e; have := Option.some.inj e; omega)
      have pO4 : AtL w3 w2.heap.size [.int .i64 o, .string ⟨m.toArray⟩, .int .i64 t2] := AtL.grown pO2 hg (by intro e; have := Option.some.inj e; omega)
      have hG := grown_trans (below_grown hB4 (some kp)) hg
      obtain ⟨c0, c1, c2, f0, f1, f2⟩ := pR4.three
      obtain ⟨d0, d1, d2, g0, g1, g2⟩ := pO4.three
      go_wp2
      refine bodyPost_ret (v := .tuple #[.agg #[.int .i64 o, .string ⟨m.toArray⟩, .int .i64 t2], .bool true]) (by simp [results, Tryz.results66, go_sem, *]) rfl ?_
      exact ⟨rfl, ((hp.far hkp _ _).far hkp _ _).far hkp _ _, grown_set (grown_set (grown_set hG (Nat.le_refl _) _ _) (Nat.le_refl _) _ _) (Nat.le_refl _) _ _⟩
    · rw [if_neg h5]
      have h5' : (tk == 5) = false := by simp [h5]
      simp only [TkPost]
      go_enter Tryz.func66, Tryz.ntmps66
      go_wp2_with fail
      refine N.mono ?_
      rintro e w1 ⟨rfl, hb1⟩
      have pR1 := AtL.below hb1 pR
      have hB1 := below_end hB0 hb1
      have hO1 := hO0.below hb1
      have hA := A _ (hO1.alloc (.cells #[.int .i64 tk, .string ⟨tx.toArray⟩, .int .i64 tp] 89))
      have pR2 := AtL.alloc pR1 (.cells #[.int .i64 tk, .string ⟨tx.toArray⟩, .int .i64 tp] 89)
      have hB2 := ball hB1 (.cells #[.int .i64 tk, .string ⟨tx.toArray⟩, .int .i64 tp] 89)
      clear pR hB0 hO0 N hb1 pR1 hB1 hO1 A
      go_wp2_with fail
      refine hA.mono ?_
      rintro e w2 ⟨rfl, hb2⟩
      have hb2x := hb2
      have pR3 := AtL.below hb2 pR2
      have hB3 := below_end hB2 hb2
      have hlt := pR3.lt
      have hx : ¬ w.heap.size = w2.heap.size := by omega
      have hx2 : ¬ w2.heap.size = w.heap.size := by omega
      obtain ⟨c0, c1, c2, f0, f1, f2⟩ := pR3.three
      clear hA pR2 hB2 hb2
      have pT := AtL.below hb2x (AtL.new0 w1 89 [.int .i64 tk, .string ⟨tx.toArray⟩, .int .i64 tp])
      obtain ⟨u0, u1, u2⟩ := pT.f3
      have hltT := pT.lt
      have hy : ¬ w1.heap.size = w2.heap.size := by omega
      go_wp2
      refine bodyPost_ret (v := .tuple #[.agg #[.int .i64 0, .string ⟨#[]⟩, .int .i64 0], .bool false]) (by simp [results, Tryz.results66, go_sem, *]) rfl ?_
      have hf : ∀ W : World, Below w.heap.size w W → (Ending.returned (.tuple #[.agg #[.int .i64 0, .string ⟨#[]⟩, .int .i64 0], .bool false]) = Ending.returned (.tuple #[.agg #[.int .i64 0, .string ⟨#[]⟩, .int .i64 0], .bool false]) ∧ PSt W kp ts en ∧ w.grownBy W (some kp)) := fun W hW => ⟨rfl, h.below hW, below_grown hW _⟩
      exact hf _ (by with_reducible repeat (first | exact hB3 | refine ball ?_ _ | refine Below.setCell ?_ (by first | (simp; done) | (simp; omega) | omega) _ | refine Below.drew ?_ | refine below_drewN ?_ _))
theorem vlz (w : World) : AtL (w.alloc (.cells #[.int .i64 0, .int .i64 0, .int .i64 0, .string ⟨#[]⟩, .bool false, .int .i64 0] 33)) w.heap.size [.int .i64 0, .int .i64 0, .int .i64 0, .string ⟨#[]⟩, .bool false, .int .i64 0] := AtL.new0 w _ _
def vFault (c : Int) : Wt.Vl := ⟨4, 0, 0, ⟨#[]⟩, false, if Wv.flt c then c else 2⟩
set_option maxRecDepth 100000 in
theorem vFault_any (c : Int) (w : World) : Calls Tryz.prog 37 #[.int .i64 c] w fun e w' => e = .returned (vlV (vFault c)) ∧ Below w.heap.size w w' := by
  have C := fun w => vfault_any c w
  unfold vFault
  cases hq : Wv.flt c with
  | false =>
    rw [hq] at C
    go_enter Tryz.func37, Tryz.ntmps37
    go_wp2_with fail
    refine (C _).mono ?_
    rintro e w1 ⟨rfl, rfl⟩
    go_wp2
    refine bodyPost_ret (v := vlV ⟨4, 0, 0, ⟨#[]⟩, false, 2⟩) (by simp [results, Tryz.results37, go_sem, vlV, vl6]) rfl ⟨rfl, ?_⟩
    exact by with_reducible repeat (first | exact Below.refl _ _ | refine below_drewN ?_ _ | refine Below.setCell ?_ (by first | (simp; done) | (simp; omega) | omega) _ | refine Below.drew ?_ | refine below_end ?_ (by assumption) | refine ball ?_ _)
  | true =>
    rw [hq] at C
    go_enter Tryz.func37, Tryz.ntmps37
    go_wp2_with fail
    refine (C _).mono ?_
    rintro e w1 ⟨rfl, rfl⟩
    go_wp2
    refine bodyPost_ret (v := vlV ⟨4, 0, 0, ⟨#[]⟩, false, c⟩) (by simp [results, Tryz.results37, go_sem, vlV, vl6]) rfl ⟨rfl, ?_⟩
    exact by with_reducible repeat (first | exact Below.refl _ _ | refine below_drewN ?_ _ | refine Below.setCell ?_ (by first | (simp; done) | (simp; omega) | omega) _ | refine Below.drew ?_ | refine below_end ?_ (by assumption) | refine ball ?_ _)
def vTruth (b : Bool) : Wt.Vl := ⟨3, 0, 0, ⟨#[]⟩, b, 0⟩
set_option maxRecDepth 100000 in
theorem vTruth_any (b : Bool) (w : World) : Calls Tryz.prog 125 #[.bool b] w fun e w' => e = .returned (vlV (vTruth b)) ∧ Below w.heap.size w w' := by
  go_enter Tryz.func125, Tryz.ntmps125
  go_wp2
  refine bodyPost_ret (v := vlV (vTruth b)) (by simp [results, Tryz.results125, go_sem, vlV, vl6, vTruth]) rfl ⟨rfl, ?_⟩
  exact by with_reducible repeat (first | exact Below.refl _ _ | refine below_drewN ?_ _ | refine Below.setCell ?_ (by first | (simp; done) | (simp; omega) | omega) _ | refine Below.drew ?_ | refine below_end ?_ (by assumption) | refine ball ?_ _)
def vNum (n d : Int) : Wt.Vl := ⟨1, Wnum.cN n d, Wnum.cD n d, ⟨#[]⟩, false, 0⟩
set_option maxRecDepth 100000 in
theorem vNum_any (n d : Int) (w : World) (h1 : -9223372036854775808 ≤ n) (h2 : n ≤ 9223372036854775807) (h3 : -9223372036854775808 ≤ d) (h4 : d ≤ 9223372036854775807) :
    Calls Tryz.prog 123 #[.agg #[.int .i64 n, .int .i64 d]] w fun e w' => e = .returned (vlV (vNum n d)) ∧ Below w.heap.size w w' := by
  have C := fun w => right_any n d w h1 h2 h3 h4
  unfold vNum Wnum.cN Wnum.cD
  have pA := (AtL.new0 w 31 [.int .i64 n, .int .i64 d]).alloc (.cells #[.int .i64 0, .int .i64 0, .int .i64 0, .string ⟨#[]⟩, .bool false, .int .i64 0] 33)
  have pR := vlz (w.alloc (.cells #[.int .i64 n, .int .i64 d] 31))
  simp only [World.size_alloc] at pR
  have hB0 := ball (ball (Below.refl _ w) (.cells #[.int .i64 n, .int .i64 d] 31)) (.cells #[.int .i64 0, .int .i64 0, .int .i64 0, .string ⟨#[]⟩, .bool false, .int .i64 0] 33)
  cases hq : Wnum.rightB n d with
  | false =>
    rw [hq] at C
    go_enter Tryz.func123, Tryz.ntmps123
    go_wp2_with fail
    refine (C _).mono ?_
    rintro e w1 ⟨rfl, hb⟩
    have pA1 := AtL.below hb pA
    have pR1 := AtL.below hb pR
    obtain ⟨a0, a1, f0, f1⟩ := pA1.two
    obtain ⟨c0, c1, c2, c3, c4, c5⟩ := pR1.f6
    have g0 := pR1.2.2 0 (by decide)
    have g1 := pR1.2.2 1 (by decide)
    have g2 := pR1.2.2 2 (by decide)
    have g3 := pR1.2.2 3 (by decide)
    have g4 := pR1.2.2 4 (by decide)
    have g5 := pR1.2.2 5 (by decide)
    have hB1 := below_end hB0 hb
    go_wp2
    refine bodyPost_ret (v := vlV ⟨1, 0, 1, ⟨#[]⟩, false, 0⟩) (by simp [results, Tryz.results123, go_sem, vlV, vl6, *]) rfl ⟨rfl, ?_⟩
    exact by with_reducible repeat (first | exact hB1 | refine ball ?_ _ | refine Below.setCell ?_ (by first | (simp; done) | (simp; omega) | omega) _ | refine Below.drew ?_ | refine below_drewN ?_ _)
  | true =>
    rw [hq] at C
    go_enter Tryz.func123, Tryz.ntmps123
    go_wp2_with fail
    refine (C _).mono ?_
    rintro e w1 ⟨rfl, hb⟩
    have pA1 := AtL.below hb pA
    have pR1 := AtL.below hb pR
    obtain ⟨a0, a1, f0, f1⟩ := pA1.two
    obtain ⟨c0, c1, c2, c3, c4, c5⟩ := pR1.f6
    have g0 := pR1.2.2 0 (by decide)
    have g1 := pR1.2.2 1 (by decide)
    have g2 := pR1.2.2 2 (by decide)
    have g3 := pR1.2.2 3 (by decide)
    have g4 := pR1.2.2 4 (by decide)
    have g5 := pR1.2.2 5 (by decide)
    have hB1 := below_end hB0 hb
    go_wp2
    refine bodyPost_ret (v := vlV ⟨1, n, d, ⟨#[]⟩, false, 0⟩) (by simp [results, Tryz.results123, go_sem, vlV, vl6, *]) rfl ⟨rfl, ?_⟩
    exact by with_reducible repeat (first | exact hB1 | refine ball ?_ _ | refine Below.setCell ?_ (by first | (simp; done) | (simp; omega) | omega) _ | refine Below.drew ?_ | refine below_drewN ?_ _)
def vText (s : ByteArray) : Wt.Vl := if Wv.prts s.data.toList then (if 256 < s.size then ⟨4, 0, 0, ⟨#[]⟩, false, 7⟩ else ⟨2, 0, 0, s, false, 0⟩) else ⟨4, 0, 0, ⟨#[]⟩, false, 2⟩
set_option maxRecDepth 100000 in
theorem vText_any (s : ByteArray) (w : World) (hs : s.size ≤ 9223372036854775807) : Calls Tryz.prog 121 #[.string s] w fun e w' => e = .returned (vlV (vText s)) ∧ Below w.heap.size w w' := by
  have C := fun w => vprt_any s w hs
  have F2 := fun w => vFault_any 2 w
  have F7 := fun w => vFault_any 7 w
  have e2 : vFault 2 = ⟨4, 0, 0, ⟨#[]⟩, false, 2⟩ := rfl
  have e7 : vFault 7 = ⟨4, 0, 0, ⟨#[]⟩, false, 7⟩ := rfl
  rw [e2] at F2
  rw [e7] at F7
  simp only [vlV, vl6] at F2 F7
  have pR := vlz w
  have hB0 := ball (Below.refl _ w) (.cells #[.int .i64 0, .int .i64 0, .int .i64 0, .string ⟨#[]⟩, .bool false, .int .i64 0] 33)
  unfold vText
  cases hq : Wv.prts s.data.toList with
  | false =>
    rw [hq] at C
    rw [if_neg (by decide)]
    go_enter Tryz.func121, Tryz.ntmps121
    go_wp2_with fail
    refine (C _).mono ?_
    rintro e w1 ⟨rfl, rfl⟩
    go_wp2_with fail
    refine (F2 _).mono ?_
    rintro e w2 ⟨rfl, hb⟩
    have pR1 := AtL.below hb pR
    obtain ⟨c0, c1, c2, c3, c4, c5⟩ := pR1.f6
    have g0 := pR1.2.2 0 (by decide)
    have g1 := pR1.2.2 1 (by decide)
    have g2 := pR1.2.2 2 (by decide)
    have g3 := pR1.2.2 3 (by decide)
    have g4 := pR1.2.2 4 (by decide)
    have g5 := pR1.2.2 5 (by decide)
    have hB1 := below_end hB0 hb
    go_wp2
    refine bodyPost_ret (v := vlV ⟨4, 0, 0, ⟨#[]⟩, false, 2⟩) (by simp [results, Tryz.results121, go_sem, vlV, vl6, *]) rfl ⟨rfl, ?_⟩
    exact by with_reducible repeat (first | exact hB1 | refine ball ?_ _ | refine Below.setCell ?_ (by first | (simp; done) | (simp; omega) | omega) _ | refine Below.drew ?_ | refine below_drewN ?_ _)
  | true =>
    rw [hq] at C
    rw [if_pos rfl]
    by_cases hl : 256 < s.size
    · have hli : (256 : Int) < (s.size : Int) := by omega
      rw [if_pos hl]
      go_enter Tryz.func121, Tryz.ntmps121
      go_wp2_with fail
      refine (C _).mono ?_
      rintro e w1 ⟨rfl, rfl⟩
      go_wp2_with fail
      refine (F7 _).mono ?_
      rintro e w2 ⟨rfl, hb⟩
      have pR1 := AtL.below hb pR
      obtain ⟨c0, c1, c2, c3, c4, c5⟩ := pR1.f6
      have g0 := pR1.2.2 0 (by decide)
      have g1 := pR1.2.2 1 (by decide)
      have g2 := pR1.2.2 2 (by decide)
      have g3 := pR1.2.2 3 (by decide)
      have g4 := pR1.2.2 4 (by decide)
      have g5 := pR1.2.2 5 (by decide)
      have hB1 := below_end hB0 hb
      go_wp2
      refine bodyPost_ret (v := vlV ⟨4, 0, 0, ⟨#[]⟩, false, 7⟩) (by simp [results, Tryz.results121, go_sem, vlV, vl6, *]) rfl ⟨rfl, ?_⟩
      exact by with_reducible repeat (first | exact hB1 | refine ball ?_ _ | refine Below.setCell ?_ (by first | (simp; done) | (simp; omega) | omega) _ | refine Below.drew ?_ | refine below_drewN ?_ _)
    · have hli : ¬ (256 : Int) < (s.size : Int) := by omega
      rw [if_neg hl]
      go_enter Tryz.func121, Tryz.ntmps121
      go_wp2_with fail
      refine (C _).mono ?_
      rintro e w1 ⟨rfl, rfl⟩
      go_wp2
      refine bodyPost_ret (v := vlV ⟨2, 0, 0, s, false, 0⟩) (by simp [results, Tryz.results121, go_sem, vlV, vl6, *]) rfl ⟨rfl, ?_⟩
      exact by with_reducible repeat (first | exact Below.refl _ _ | refine below_drewN ?_ _ | refine Below.setCell ?_ (by first | (simp; done) | (simp; omega) | omega) _ | refine Below.drew ?_ | refine below_end ?_ (by assumption) | refine ball ?_ _)
end Go.Proofs.YtalkiggclckcdaaGreatDoor
namespace Go.Proofs.YtalkiggclckcdaaGreatDoor.Wnum
def tenP (k : Nat) : Int := 10 ^ k
theorem tenP_succ (k : Nat) : tenP (k + 1) = tenP k * 10 := by unfold tenP; exact Int.pow_succ 10 k
theorem tenP_pos (k : Nat) : 1 ≤ tenP k := by
  induction k with
  | zero => exact Int.le_refl _
  | succ k ih => rw [tenP_succ]; omega
theorem tenP_mono (k n : Nat) : tenP k ≤ tenP (k + n) := by
  induction n with
  | zero => exact Int.le_refl _
  | succ n ih => rw [← Nat.add_assoc, tenP_succ]; have := tenP_pos (k + n); omega
theorem tenP_twelve : tenP 12 = 1000000000000 := by decide
theorem tenP_six : tenP 6 = 1000000 := by decide
theorem tenP_le12 {k : Nat} (h : k ≤ 12) : tenP k ≤ 1000000000000 := by
  have := tenP_mono k (12 - k)
  rw [show k + (12 - k) = 12 by omega, tenP_twelve] at this
  exact this
theorem tenP_le6 {k : Nat} (h : k ≤ 6) : tenP k ≤ 1000000 := by
  have := tenP_mono k (6 - k)
  rw [show k + (6 - k) = 6 by omega, tenP_six] at this
  exact this
end Go.Proofs.YtalkiggclckcdaaGreatDoor.Wnum
