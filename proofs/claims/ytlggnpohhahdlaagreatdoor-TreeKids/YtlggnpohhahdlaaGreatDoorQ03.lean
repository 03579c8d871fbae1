/- VWalkC, TKit, TWalkA. -/
import Derived.Test.YtlggnpohhahdlaaGreatDoorQ02
import Derived.Deep.MidRow
namespace Go.Proofs.YtlggnpohhahdlaaGreatDoor
open Go.RowKit
set_option linter.unusedVariables false
abbrev VrS (ka kb : Nat) (k n d : Int) (t : ByteArray) (b : Bool) (f : Int) (W : World) : Prop :=
  Six W ka (.int .i64 k) (.int .i64 n) (.int .i64 d) (.string t) (.bool b) (.int .i64 f) ∧ W.frozen? ⟨kb, 0, none⟩ = false ∧ W.frozen? ⟨kb, 1, none⟩ = false ∧ W.frozen? ⟨kb, 2, none⟩ = false ∧ W.frozen? ⟨kb, 3, none⟩ = false ∧ W.frozen? ⟨kb, 4, none⟩ = false ∧ W.frozen? ⟨kb, 5, none⟩ = false
theorem VrS_mk {ka kb : Nat} {k n d : Int} {t : ByteArray} {b : Bool} {f : Int} {W : World} {us : List Value} (h0 : AtL W ka [.int .i64 k, .int .i64 n, .int .i64 d, .string t, .bool b, .int .i64 f]) (h1 : AtL W kb us) (hl : us.length = 6) : VrS ka kb k n d t b f W :=
  ⟨h0.f6, h1.2.2 0 (by omega), h1.2.2 1 (by omega), h1.2.2 2 (by omega), h1.2.2 3 (by omega), h1.2.2 4 (by omega), h1.2.2 5 (by omega)⟩
theorem VrS_set {ka kb : Nat} {k n d : Int} {t : ByteArray} {b : Bool} {f : Int} {W : World} (h : VrS ka kb k n d t b f W) (hne : kb ≠ ka) (o : Nat) (u : Value) : VrS ka kb k n d t b f (W.setCell ⟨kb, o, none⟩ u) := by
  obtain ⟨⟨h0, h1, h2, h3, h4, h5⟩, g0, g1, g2, g3, g4, g5⟩ := h
  refine ⟨⟨?_, ?_, ?_, ?_, ?_, ?_⟩, ?_, ?_, ?_, ?_, ?_, ?_⟩
  any_goals rw [World.cell?_setCell_far _ _ _ _ (by simpa using hne)]; assumption
  all_goals rw [World.frozen?_setCell]; assumption
theorem vfault_any4 (f : Int) (w : World) : Calls Tryz.prog 137 #[.int .i64 f] w fun e w' => e = .returned (.bool (Wv.flt f)) ∧ Below w.heap.size w w' := (vfault_any f w).mono fun e w' h => ⟨h.1, h.2 ▸ Below.refl _ _⟩
theorem vprt_any4 (b : ByteArray) (w : World) (hs : b.size ≤ 9223372036854775807) : Calls Tryz.prog 136 #[.string b] w fun e w' => e = .returned (.bool (Wv.prts b.data.toList)) ∧ Below w.heap.size w w' := (vprt_any b w hs).mono fun e w' h => ⟨h.1, h.2 ▸ Below.refl _ _⟩
theorem eqV_1 (n d : Int) (t : ByteArray) (b : Bool) (f : Int) : (Wnum.rightB n d && eqV 1 n d t b f 1 n d ⟨#[]⟩ false 0) = Wv.right 1 n d t b f := by
  unfold eqV Wv.right
  rw [if_neg (by decide)]
  rw [if_pos rfl]
  rw [Bool.eq_iff_iff]
  simp [and_assoc, ba_beq]
theorem vright_1 (n d : Int) (t : ByteArray) (b : Bool) (f : Int) (w : World) (h1 : -9223372036854775808 ≤ n) (h2 : n ≤ 9223372036854775807) (h3 : -9223372036854775808 ≤ d) (h4 : d ≤ 9223372036854775807) :
    Calls Tryz.prog 112 #[.agg #[.int .i64 1, .int .i64 n, .int .i64 d, .string t, .bool b, .int .i64 f]] w fun e w' => e = .returned (.bool (Wv.right 1 n d t b f)) ∧ Below w.heap.size w w' := by
  rw [← eqV_1]
  have C := fun w => right_any n d w h1 h2 h3 h4
  have hq := eqV_run 1 n d t b f 1 n d ⟨#[]⟩ false 0
  generalize eqV 1 n d t b f 1 n d ⟨#[]⟩ false 0 = R at *
  generalize Wnum.rightB n d = q at *
  have pA : AtL ((w.alloc (.cells #[.int .i64 1, .int .i64 n, .int .i64 d, .string t, .bool b, .int .i64 f] 41)).alloc (.cells #[.int .i64 1, .int .i64 0, .int .i64 0, .string ⟨#[]⟩, .bool false, .int .i64 0] 41)) w.heap.size [.int .i64 1, .int .i64 n, .int .i64 d, .string t, .bool b, .int .i64 f] := (AtL.new0 w _ _).alloc _
  have pO : AtL ((w.alloc (.cells #[.int .i64 1, .int .i64 n, .int .i64 d, .string t, .bool b, .int .i64 f] 41)).alloc (.cells #[.int .i64 1, .int .i64 0, .int .i64 0, .string ⟨#[]⟩, .bool false, .int .i64 0] 41)) (w.heap.size + 1) [.int .i64 1, .int .i64 0, .int .i64 0, .string ⟨#[]⟩, .bool false, .int .i64 0] := AtL.new1 w _ _ _
  have hS : VrS w.heap.size (w.heap.size + 1) 1 n d t b f ((w.alloc (.cells #[.int .i64 1, .int .i64 n, .int .i64 d, .string t, .bool b, .int .i64 f] 41)).alloc (.cells #[.int .i64 1, .int .i64 0, .int .i64 0, .string ⟨#[]⟩, .bool false, .int .i64 0] 41)) := VrS_mk pA pO rfl
  cases q
  all_goals
    go_enter Tryz.func112, Tryz.ntmps112
    go_upto_region 6 with fail
    go_region_held3 (VrS w.heap.size (w.heap.size + 1) 1 n d t b f)
      (with_reducible first | exact hS | assumption | exact VrS_mk pA1 pO1 rfl | exact VrS_set (by assumption) (by omega) _ _ | exact VrS_set (VrS_set (by assumption) (by omega) _ _) (by omega) _ _ | exact VrS_mk (AtL.drew pA) (AtL.drew pO) rfl)
      (first | (go_at_call 135; refine (C _).mono ?_; rintro e w1 ⟨rfl, hb⟩; have pA1 := AtL.below hb (AtL.drew pA); have pO1 := AtL.below hb (AtL.drew pO); obtain ⟨a0, a1, a2, a3, a4, a5⟩ := pA1.f6; obtain ⟨o0, o1, o2, o3, o4, o5⟩ := pO1.f6; have hB1 := below_end (ball (ball (Below.refl _ w) _) _).drew hb))
    all_goals
      go_wp2
      go_ret
      exact ⟨by simp, by with_reducible repeat (first | exact hB1 | refine Below.setCell ?_ (by first | (simp; done) | (simp; omega) | omega) _ | refine Below.drew ?_)⟩
theorem eqV_4 (n d : Int) (t : ByteArray) (b : Bool) (f : Int) : (Wv.flt f && eqV 4 n d t b f 4 0 0 ⟨#[]⟩ false f) = Wv.right 4 n d t b f := by
  unfold eqV Wv.right
  rw [if_neg (by decide)]
  rw [if_neg (by decide)]
  rw [if_neg (by decide)]
  rw [if_neg (by decide)]
  rw [if_pos rfl]
  rw [Bool.eq_iff_iff]
  simp [and_assoc, ba_beq]
theorem vright_4 (n d : Int) (t : ByteArray) (b : Bool) (f : Int) (w : World) :
    Calls Tryz.prog 112 #[.agg #[.int .i64 4, .int .i64 n, .int .i64 d, .string t, .bool b, .int .i64 f]] w fun e w' => e = .returned (.bool (Wv.right 4 n d t b f)) ∧ Below w.heap.size w w' := by
  rw [← eqV_4]
  have C := fun w => vfault_any4 f w
  have hq := eqV_run 4 n d t b f 4 0 0 ⟨#[]⟩ false f
  generalize eqV 4 n d t b f 4 0 0 ⟨#[]⟩ false f = R at *
  generalize Wv.flt f = q at *
  have pA : AtL ((w.alloc (.cells #[.int .i64 4, .int .i64 n, .int .i64 d, .string t, .bool b, .int .i64 f] 41)).alloc (.cells #[.int .i64 4, .int .i64 0, .int .i64 0, .string ⟨#[]⟩, .bool false, .int .i64 0] 41)) w.heap.size [.int .i64 4, .int .i64 n, .int .i64 d, .string t, .bool b, .int .i64 f] := (AtL.new0 w _ _).alloc _
  have pO : AtL ((w.alloc (.cells #[.int .i64 4, .int .i64 n, .int .i64 d, .string t, .bool b, .int .i64 f] 41)).alloc (.cells #[.int .i64 4, .int .i64 0, .int .i64 0, .string ⟨#[]⟩, .bool false, .int .i64 0] 41)) (w.heap.size + 1) [.int .i64 4, .int .i64 0, .int .i64 0, .string ⟨#[]⟩, .bool false, .int .i64 0] := AtL.new1 w _ _ _
  have hS : VrS w.heap.size (w.heap.size + 1) 4 n d t b f ((w.alloc (.cells #[.int .i64 4, .int .i64 n, .int .i64 d, .string t, .bool b, .int .i64 f] 41)).alloc (.cells #[.int .i64 4, .int .i64 0, .int .i64 0, .string ⟨#[]⟩, .bool false, .int .i64 0] 41)) := VrS_mk pA pO rfl
  cases q
  all_goals
    go_enter Tryz.func112, Tryz.ntmps112
    go_upto_region 12 with fail
    go_region_held3 (VrS w.heap.size (w.heap.size + 1) 4 n d t b f)
      (with_reducible first | exact hS | assumption | exact VrS_mk pA1 pO1 rfl | exact VrS_set (by assumption) (by omega) _ _ | exact VrS_set (VrS_set (by assumption) (by omega) _ _) (by omega) _ _ | exact VrS_mk (AtL.drew pA) (AtL.drew pO) rfl)
      (first | (go_at_call 137; refine (C _).mono ?_; rintro e w1 ⟨rfl, hb⟩; have pA1 := AtL.below hb (AtL.drew pA); have pO1 := AtL.below hb (AtL.drew pO); obtain ⟨a0, a1, a2, a3, a4, a5⟩ := pA1.f6; obtain ⟨o0, o1, o2, o3, o4, o5⟩ := pO1.f6; have hB1 := below_end (ball (ball (Below.refl _ w) _) _).drew hb))
    all_goals
      go_wp2
      go_ret
      exact ⟨by simp, by with_reducible repeat (first | exact hB1 | refine Below.setCell ?_ (by first | (simp; done) | (simp; omega) | omega) _ | refine Below.drew ?_)⟩
theorem eqV_2 (n d : Int) (t : ByteArray) (b : Bool) (f : Int) : ((decide (t.size ≤ 256) && Wv.prts t.data.toList) && eqV 2 n d t b f 2 0 0 t false 0) = Wv.right 2 n d t b f := by
  unfold eqV Wv.right
  rw [if_neg (by decide)]
  rw [if_neg (by decide)]
  rw [if_pos rfl]
  rw [Bool.eq_iff_iff]
  simp [and_assoc, ba_beq]
theorem eqV_3 (n d : Int) (t : ByteArray) (b : Bool) (f : Int) : eqV 3 n d t b f 3 0 0 ⟨#[]⟩ b 0 = Wv.right 3 n d t b f := by
  unfold eqV Wv.right
  rw [if_neg (by decide)]
  rw [if_neg (by decide)]
  rw [if_neg (by decide)]
  rw [if_pos rfl]
  rw [Bool.eq_iff_iff]
  simp [and_assoc, ba_beq]
theorem vright_3 (n d : Int) (t : ByteArray) (b : Bool) (f : Int) (w : World) :
    Calls Tryz.prog 112 #[.agg #[.int .i64 3, .int .i64 n, .int .i64 d, .string t, .bool b, .int .i64 f]] w fun e w' => e = .returned (.bool (Wv.right 3 n d t b f)) ∧ Below w.heap.size w w' := by
  rw [← eqV_3]
  have hq := eqV_run 3 n d t b f 3 0 0 ⟨#[]⟩ b 0
  generalize eqV 3 n d t b f 3 0 0 ⟨#[]⟩ b 0 = R at *
  go_enter Tryz.func112, Tryz.ntmps112
  go_wp2
  go_ret
  exact ⟨rfl, by with_reducible repeat (first | exact Below.refl _ _ | refine below_drewN ?_ _ | refine Below.setCell ?_ (by first | (simp; done) | (simp; omega) | omega) _ | refine Below.drew ?_ | refine below_end ?_ (by assumption) | refine ball ?_ _)⟩
theorem vright_n (k n d : Int) (t : ByteArray) (b : Bool) (f : Int) (w : World) (hk : k < 0 ∨ 4 < k) :
    Calls Tryz.prog 112 #[.agg #[.int .i64 k, .int .i64 n, .int .i64 d, .string t, .bool b, .int .i64 f]] w fun e w' => e = .returned (.bool (Wv.right k n d t b f)) ∧ Below w.heap.size w w' := by
  have E : Hid (Wv.right k n d t b f = false) := by
    show _ = _
    unfold Wv.right
    rw [if_neg (by omega), if_neg (by omega), if_neg (by omega), if_neg (by omega), if_neg (by omega)]
  rw [E.out]
  clear E
  go_enter Tryz.func112, Tryz.ntmps112
  go_wp2
  go_ret
  exact ⟨rfl, by with_reducible repeat (first | exact Below.refl _ _ | refine below_drewN ?_ _ | refine Below.setCell ?_ (by first | (simp; done) | (simp; omega) | omega) _ | refine Below.drew ?_ | refine below_end ?_ (by assumption) | refine ball ?_ _)⟩
theorem vright_2 (n d : Int) (t : ByteArray) (b : Bool) (f : Int) (w : World) (hs : t.size ≤ 9223372036854775807) :
    Calls Tryz.prog 112 #[.agg #[.int .i64 2, .int .i64 n, .int .i64 d, .string t, .bool b, .int .i64 f]] w fun e w' => e = .returned (.bool (Wv.right 2 n d t b f)) ∧ Below w.heap.size w w' := by
  rw [← eqV_2]
  have C := fun w => vprt_any4 t w hs
  have hq := eqV_run 2 n d t b f 2 0 0 t false 0
  generalize eqV 2 n d t b f 2 0 0 t false 0 = R at *
  generalize Wv.prts t.data.toList = q at *
  have pA : AtL ((w.alloc (.cells #[.int .i64 2, .int .i64 n, .int .i64 d, .string t, .bool b, .int .i64 f] 41)).alloc (.cells #[.int .i64 2, .int .i64 0, .int .i64 0, .string ⟨#[]⟩, .bool false, .int .i64 0] 41)) w.heap.size [.int .i64 2, .int .i64 n, .int .i64 d, .string t, .bool b, .int .i64 f] := (AtL.new0 w _ _).alloc _
  have pO : AtL ((w.alloc (.cells #[.int .i64 2, .int .i64 n, .int .i64 d, .string t, .bool b, .int .i64 f] 41)).alloc (.cells #[.int .i64 2, .int .i64 0, .int .i64 0, .string ⟨#[]⟩, .bool false, .int .i64 0] 41)) (w.heap.size + 1) [.int .i64 2, .int .i64 0, .int .i64 0, .string ⟨#[]⟩, .bool false, .int .i64 0] := AtL.new1 w _ _ _
  have hS : VrS w.heap.size (w.heap.size + 1) 2 n d t b f ((w.alloc (.cells #[.int .i64 2, .int .i64 n, .int .i64 d, .string t, .bool b, .int .i64 f] 41)).alloc (.cells #[.int .i64 2, .int .i64 0, .int .i64 0, .string ⟨#[]⟩, .bool false, .int .i64 0] 41)) := VrS_mk pA pO rfl
  by_cases hl : t.size ≤ 256
  · have hli : (t.size : Int) ≤ 256 := by omega
    rw [decide_eq_true hl]
    cases q
    all_goals
      go_enter Tryz.func112, Tryz.ntmps112
      go_upto_region 8 with fail
      go_region_held3 (VrS w.heap.size (w.heap.size + 1) 2 n d t b f)
        (with_reducible first | exact hS | assumption | exact VrS_mk pA1 pO1 rfl | exact VrS_set (by assumption) (by omega) _ _ | exact VrS_mk (AtL.drew pA) (AtL.drew pO) rfl)
        (first | (go_at_call 136; refine (C _).mono ?_; rintro e w1 ⟨rfl, hb⟩; have pA1 := AtL.below hb (AtL.drew pA); have pO1 := AtL.below hb (AtL.drew pO); obtain ⟨a0, a1, a2, a3, a4, a5⟩ := pA1.f6; obtain ⟨o0, o1, o2, o3, o4, o5⟩ := pO1.f6; have hB1 := below_end (ball (ball (Below.refl _ w) _) _).drew hb))
      all_goals
        go_wp2
        go_ret
        exact ⟨by simp, by with_reducible repeat (first | exact hB1 | refine Below.setCell ?_ (by first | (simp; done) | (simp; omega) | omega) _ | refine Below.drew ?_)⟩
  · have hli : ¬ (t.size : Int) ≤ 256 := by omega
    rw [decide_eq_false hl]
    go_enter Tryz.func112, Tryz.ntmps112
    go_upto_region 8 with fail
    go_big_region
    all_goals
      go_wp2
      go_ret
      exact ⟨by simp, by with_reducible repeat (first | exact Below.refl _ _ | refine below_drewN ?_ _ | refine Below.setCell ?_ (by first | (simp; done) | (simp; omega) | omega) _ | refine Below.drew ?_ | refine below_end ?_ (by assumption) | refine ball ?_ _)⟩
def vl6 (v : Wt.Vl) : List Value := [.int .i64 v.k, .int .i64 v.n, .int .i64 v.d, .string v.t, .bool v.b, .int .i64 v.f]
def rf5 (a : Wt.Rf) : List Value := [.string a.s, .int .i64 a.r, .int .i64 a.c, .bool a.fr, .bool a.fc]
def nd20 (x : Wt.Nd) : List Value := [.int .i64 x.k, .int .i64 x.v.k, .int .i64 x.v.n, .int .i64 x.v.d, .string x.v.t, .bool x.v.b, .int .i64 x.v.f, .int .i64 x.op, .string x.nm, .int .i64 x.ar, .string x.a.s, .int .i64 x.a.r, .int .i64 x.a.c, .bool x.a.fr, .bool x.a.fc, .string x.b.s, .int .i64 x.b.r, .int .i64 x.b.c, .bool x.b.fr, .bool x.b.fc]
def vlV (v : Wt.Vl) : Value := .agg (vl6 v).toArray
def rfV (a : Wt.Rf) : Value := .agg (rf5 a).toArray
def ndV (x : Wt.Nd) : Value := .agg (nd20 x).toArray
theorem nodeInfo : (Tryz.prog.info? 45).map (fun i => (i.zero, i.size, i.bytes)) = some (some (.agg #[.int .i64 0, .int .i64 0, .int .i64 0, .int .i64 0, .string ⟨#[]⟩, .bool false, .int .i64 0, .int .i64 0, .string ⟨#[]⟩, .int .i64 0, .string ⟨#[]⟩, .int .i64 0, .int .i64 0, .bool false, .bool false, .string ⟨#[]⟩, .int .i64 0, .int .i64 0, .bool false, .bool false]), 20, 176) := by kernel_rfl
def opsR : List Value := Wt.opsT.flatMap fun x => [.int .i64 x.1, .string ⟨x.2.1.toArray⟩, .int .i64 x.2.2]
def OpsAt (w : World) : Prop := w.rangeAt 0 0 opsR
theorem OpsAt.below {w w' : World} (h : OpsAt w) (hb : Below w.heap.size w w') : OpsAt w' := fun j v hv => cell_below hb (h j v hv)
theorem OpsAt.drew {w : World} (h : OpsAt w) : OpsAt w.drew := h.below (Below.refl _ _).drew
theorem OpsAt.alloc {w : World} (h : OpsAt w) (o : Obj) : OpsAt (w.alloc o) := h.below ((Below.refl _ _).alloc (Nat.le_refl _) _)
theorem OpsAt.load {w : World} (h : OpsAt w) : (Instr.loadAt 137 (.pointer (some ⟨0, 0, none⟩))).run Tryz.prog w = .ok (.agg opsR.toArray) w :=
  run_loadAt_mid w _ 0 137 opsR _ h Tryz.underlying137 rfl (by kernel_rfl)
theorem AtL.there {W : World} {k : Nat} {us : List Value} (h : AtL W k us) : W.there k 0 us.length := fun j hj =>
  ⟨by rw [Nat.zero_add, h.2.1 j us[j] (List.getElem?_eq_getElem hj)]; rfl, by rw [Nat.zero_add]; exact h.2.2 j hj⟩
theorem AtL.range {W : World} {k : Nat} {us : List Value} (h : AtL W k us) : W.rangeAt k 0 us := fun j v hv => by rw [Nat.zero_add]; exact h.2.1 j v hv
theorem size_setCells (k : Nat) : ∀ (vs : List Value) (o : Nat) (W : World), (W.setCells k o vs).heap.size = W.heap.size
  | [], _, _ => rfl
  | v :: r, o, W => by rw [World.setCells, size_setCells k r]; simp [go_sem]
theorem AtL.setAll {W : World} {k : Nat} {us vs : List Value} (h : AtL W k us) (hl : vs.length = us.length) : AtL (W.setCells k 0 vs) k vs := by
  refine ⟨by rw [size_setCells]; exact h.1, fun i v hv => ?_, fun i hi => ?_⟩
  · have := World.rangeAt_setCells_same W k 0 vs (by rw [hl]; exact h.there) i v hv
    rw [Nat.zero_add] at this; exact this
  · rw [World.frozen?_setCells]; exact h.2.2 i (by omega)
theorem AtL.farAll {W : World} {k b : Nat} {us : List Value} (h : AtL W k us) (hb : b ≠ k) (o : Nat) (vs : List Value) : AtL (W.setCells b o vs) k us := by
  refine ⟨by rw [size_setCells]; exact h.1, fun i v hv => ?_, fun i hi => ?_⟩
  · rw [World.cell?_setCells_out b vs o W _ (fun h1 => absurd h1.symm hb)]; exact h.2.1 i v hv
  · rw [World.frozen?_setCells]; exact h.2.2 i hi
theorem bset {w W : World} {k : Nat} (hb : Below w.heap.size w W) (hk : w.heap.size ≤ k) : ∀ (vs : List Value) (o : Nat), Below w.heap.size w (W.setCells k o vs) := by
  intro vs
  induction vs generalizing W with
  | nil => intro o; exact hb
  | cons v r ih => intro o; rw [World.setCells]; exact ih (hb.setCell (p := ⟨k, o, none⟩) hk v) (o + 1)
theorem tcap_any (c : UInt8) (w : World) : Calls Tryz.prog 116 #[.int .u8 c.toNat] w fun e w' => e = .returned (.bool (Wlx.cap c)) ∧ w = w' := by
  unfold Wlx.cap
  go_enter Tryz.func116, Tryz.ntmps116
  by_cases a : 65 ≤ (c.toNat : Int)
  · go_wp2
    go_ret
    exact ⟨ret_bool (by simp [a]), rfl⟩
  · go_wp2
    go_ret
    exact ⟨ret_bool (by rw [decide_eq_false (by omega)]; rfl), rfl⟩
theorem tdig_any (c : UInt8) (w : World) : Calls Tryz.prog 140 #[.int .u8 c.toNat] w fun e w' => e = .returned (.bool (Wlx.dig c)) ∧ w = w' := by
  unfold Wlx.dig
  go_enter Tryz.func140, Tryz.ntmps140
  by_cases a : 48 ≤ (c.toNat : Int)
  · go_wp2
    go_ret
    exact ⟨ret_bool (by simp [a]), rfl⟩
  · go_wp2
    go_ret
    exact ⟨ret_bool (by rw [decide_eq_false (by omega)]; rfl), rfl⟩
theorem tltr_any (c : UInt8) (w : World) : Calls Tryz.prog 139 #[.int .u8 c.toNat] w fun e w' => e = .returned (.bool (Wt.ltr c)) ∧ w = w' := by
  unfold Wt.ltr
  have C := tcap_any c w
  unfold Wlx.low
  generalize Wlx.cap c = q at *
  go_enter Tryz.func139, Tryz.ntmps139
  cases q
  · by_cases a : 97 ≤ (c.toNat : Int)
    · go_wp2_with fail
      refine C.mono ?_
      rintro e w1 ⟨rfl, rfl⟩
      go_wp2
      go_ret
      exact ⟨ret_bool (by simp [a]), rfl⟩
    · go_wp2_with fail
      refine C.mono ?_
      rintro e w1 ⟨rfl, rfl⟩
      go_wp2
      go_ret
      exact ⟨ret_bool (by rw [decide_eq_false (p := 97 ≤ (c.toNat : Int)) (by omega)]; rfl), rfl⟩
  · go_wp2_with fail
    refine C.mono ?_
    rintro e w1 ⟨rfl, rfl⟩
    go_wp2
    go_ret
    exact ⟨ret_bool (by simp), rfl⟩
theorem head_at (b : ByteArray) (h : 0 < b.size) : b.data.toList.headD 0 = b[0] := by
  have := drop_at b 0 h
  rw [List.drop_zero] at this
  rw [this]
  rfl
theorem all_dropS (p : UInt8 → Bool) (b : ByteArray) (j : Nat) (h : j < b.size) : (b.data.toList.drop j).all p = (p (b[j]) && (b.data.toList.drop (j + 1)).all p) := by
  rw [drop_at b j h]; rfl
set_option maxRecDepth 100000 in
set_option maxHeartbeats 800000 in
theorem tname_cap (b : ByteArray) (w : World) (hs : b.size ≤ 9223372036854775807) :
    Calls Tryz.prog 115 #[.string b, .func (.func 116) #[] #[]] w fun e w' => e = .returned (.bool (Wt.isNm Wlx.cap b.data.toList)) ∧ w = w' := by
  have C : ∀ (c : UInt8) (w : World), Calls Tryz.prog 116 #[.int .u8 c.toNat] w fun e w' => e = .returned (.bool (Wlx.cap c)) ∧ w = w' := tcap_any
  have hl : b.data.toList.length = b.size := rfl
  by_cases h0 : b = ⟨#[]⟩
  · subst h0
    go_enter Tryz.func115, Tryz.ntmps115
    go_wp2
    go_ret
    exact ⟨rfl, rfl⟩
  have h1 : 0 < b.size := by
    rcases Nat.eq_zero_or_pos b.size with h | h
    · exact absurd (ByteArray.size_eq_zero_iff.1 h) h0
    · exact h
  have hb0 : b.toList.isEmpty = false := by
    rw [ByteArray.toList_eq]
    cases hh : b.data.toList with
    | nil => rw [hh] at hl; exact absurd hl (by show ¬ 0 = _; omega)
    | cons _ _ => rfl
  by_cases h16 : 16 < b.size
  · have h16i : (16 : Int) < (b.size : Int) := by omega
    have E : Hid (Wt.isNm Wlx.cap b.data.toList = false) := by
      show _ = _
      unfold Wt.isNm
      rw [hl, decide_eq_false (p := b.size ≤ 16) (by omega)]
      simp
    rw [E.out]
    clear E
    go_enter Tryz.func115, Tryz.ntmps115
    go_wp2
    go_ret
    exact ⟨rfl, rfl⟩
  have h16i : ¬ (16 : Int) < (b.size : Int) := by omega
  have E0 : Wt.isNm Wlx.cap b.data.toList = (Wlx.cap (b[0]) && b.data.toList.all (fun c => Wlx.cap c || Wlx.dig c)) := by
    unfold Wt.isNm
    rw [hl, decide_eq_true (by omega), decide_eq_true (by omega), head_at b h1]
    simp
  rw [E0]
  clear E0
  have C0 := C (b[0]) w
  cases hp : Wlx.cap (b[0]) with
  | false =>
    rw [hp] at C0
    go_enter Tryz.func115, Tryz.ntmps115
    go_wp2_with fail
    refine C0.mono ?_
    rintro e w1 ⟨rfl, rfl⟩
    go_wp2
    go_ret
    exact ⟨rfl, rfl⟩
  | true =>
    rw [hp] at C0
    clear hp
    obtain ⟨R, hR⟩ : ∃ R, b.data.toList.all (fun c => Wlx.cap c || Wlx.dig c) = R := ⟨_, rfl⟩
    have E0 : Hid (R = (b.data.toList.drop 0).all (fun c => Wlx.cap c || Wlx.dig c)) := hR.symm
    rw [hR]
    clear hR
    go_enter Tryz.func115, Tryz.ntmps115
    go_wp2_with fail
    refine C0.mono ?_
    rintro e w1 ⟨rfl, rfl⟩
    go_wp2_with fail
    go_loopg [22] (b.size) (fun gk x wr => ∃ j : Nat, x = .int .i64 j ∧ gk = b.size - j ∧ j ≤ b.size ∧ Hid (R = (b.data.toList.drop j).all (fun c => Wlx.cap c || Wlx.dig c)) ∧ wr = w)
    case atStart => exact ⟨0, rfl, rfl, Nat.zero_le _, E0, rfl⟩
    case round =>
      obtain ⟨j, rfl, hg, hj, HR, rfl⟩ := hrel
      by_cases hlt : j < b.size
      · have hli : (j : Int) < (b.size : Int) := by omega
        have hd := all_dropS (fun c => Wlx.cap c || Wlx.dig c) b j hlt
        have C1 := C (b[j]) wr
        have C2 := tdig_any (b[j]) wr
        cases h1 : Wlx.cap (b[j]) with
        | true =>
          have E : Hid (R = (b.data.toList.drop (j + 1)).all (fun c => Wlx.cap c || Wlx.dig c)) := by show _ = _; rw [HR.out, hd, h1]; rfl
          rw [h1] at C1
          clear HR hd h1 C2 C0
          go_wp2_with fail
          refine C1.mono ?_
          rintro e w1 ⟨rfl, rfl⟩
          go_wp2_with fail
          go_roundg (b.size - (j + 1))
          case rel => exact ⟨j + 1, by simp, rfl, hlt, E, by first | trivial | rfl⟩
          case measure => omega
        | false =>
          cases h2 : Wlx.dig (b[j]) with
          | true =>
            have E : Hid (R = (b.data.toList.drop (j + 1)).all (fun c => Wlx.cap c || Wlx.dig c)) := by show _ = _; rw [HR.out, hd, h1, h2]; rfl
            rw [h1] at C1
            rw [h2] at C2
            clear HR hd h1 h2 C0
            go_wp2_with fail
            refine C1.mono ?_
            rintro e w1 ⟨rfl, rfl⟩
            go_wp2_with fail
            refine C2.mono ?_
            rintro e w1 ⟨rfl, rfl⟩
            go_wp2_with fail
            go_roundg (b.size - (j + 1))
            case rel => exact ⟨j + 1, by simp, rfl, hlt, E, by first | trivial | rfl⟩
            case measure => omega
          | false =>
            have E : Hid (R = false) := by show _ = _; rw [HR.out, hd, h1, h2]; rfl
            rw [h1] at C1
            rw [h2] at C2
            clear HR hd h1 h2 C0
            go_wp2_with fail
            refine C1.mono ?_
            rintro e w1 ⟨rfl, rfl⟩
            go_wp2_with fail
            refine C2.mono ?_
            rintro e w1 ⟨rfl, rfl⟩
            go_wp2
            go_ret
            exact ⟨by rw [E.out]; rfl, rfl⟩
      · have hli : ¬ (j : Int) < (b.size : Int) := by omega
        have E : Hid (R = true) := by show _ = _; rw [HR.out, drop_end b j hlt]; rfl
        clear HR C0
        go_wp2
        go_ret
        exact ⟨by rw [E.out]; rfl, rfl⟩
set_option maxRecDepth 100000 in
set_option maxHeartbeats 800000 in
theorem tname_ltr (b : ByteArray) (w : World) (hs : b.size ≤ 9223372036854775807) :
    Calls Tryz.prog 115 #[.string b, .func (.func 139) #[] #[]] w fun e w' => e = .returned (.bool (Wt.isNm Wt.ltr b.data.toList)) ∧ w = w' := by
  have C : ∀ (c : UInt8) (w : World), Calls Tryz.prog 139 #[.int .u8 c.toNat] w fun e w' => e = .returned (.bool (Wt.ltr c)) ∧ w = w' := tltr_any
  have hl : b.data.toList.length = b.size := rfl
  by_cases h0 : b = ⟨#[]⟩
  · subst h0
    go_enter Tryz.func115, Tryz.ntmps115
    go_wp2
    go_ret
    exact ⟨rfl, rfl⟩
  have h1 : 0 < b.size := by
    rcases Nat.eq_zero_or_pos b.size with h | h
    · exact absurd (ByteArray.size_eq_zero_iff.1 h) h0
    · exact h
  have hb0 : b.toList.isEmpty = false := by
    rw [ByteArray.toList_eq]
    cases hh : b.data.toList with
    | nil => rw [hh] at hl; exact absurd hl (by show ¬ 0 = _; omega)
    | cons _ _ => rfl
  by_cases h16 : 16 < b.size
  · have h16i : (16 : Int) < (b.size : Int) := by omega
    have E : Hid (Wt.isNm Wt.ltr b.data.toList = false) := by
      show _ = _
      unfold Wt.isNm
      rw [hl, decide_eq_false (p := b.size ≤ 16) (by omega)]
      simp
    rw [E.out]
    clear E
    go_enter Tryz.func115, Tryz.ntmps115
    go_wp2
    go_ret
    exact ⟨rfl, rfl⟩
  have h16i : ¬ (16 : Int) < (b.size : Int) := by omega
  have E0 : Wt.isNm Wt.ltr b.data.toList = (Wt.ltr (b[0]) && b.data.toList.all (fun c => Wt.ltr c || Wlx.dig c)) := by
    unfold Wt.isNm
    rw [hl, decide_eq_true (by omega), decide_eq_true (by omega), head_at b h1]
    simp
  rw [E0]
  clear E0
  have C0 := C (b[0]) w
  cases hp : Wt.ltr (b[0]) with
  | false =>
    rw [hp] at C0
    go_enter Tryz.func115, Tryz.ntmps115
    go_wp2_with fail
    refine C0.mono ?_
    rintro e w1 ⟨rfl, rfl⟩
    go_wp2
    go_ret
    exact ⟨rfl, rfl⟩
  | true =>
    rw [hp] at C0
    clear hp
    obtain ⟨R, hR⟩ : ∃ R, b.data.toList.all (fun c => Wt.ltr c || Wlx.dig c) = R := ⟨_, rfl⟩
    have E0 : Hid (R = (b.data.toList.drop 0).all (fun c => Wt.ltr c || Wlx.dig c)) := hR.symm
    rw [hR]
    clear hR
    go_enter Tryz.func115, Tryz.ntmps115
    go_wp2_with fail
    refine C0.mono ?_
    rintro e w1 ⟨rfl, rfl⟩
    go_wp2_with fail
    go_loopg [22] (b.size) (fun gk x wr => ∃ j : Nat, x = .int .i64 j ∧ gk = b.size - j ∧ j ≤ b.size ∧ Hid (R = (b.data.toList.drop j).all (fun c => Wt.ltr c || Wlx.dig c)) ∧ wr = w)
    case atStart => exact ⟨0, rfl, rfl, Nat.zero_le _, E0, rfl⟩
    case round =>
      obtain ⟨j, rfl, hg, hj, HR, rfl⟩ := hrel
      by_cases hlt : j < b.size
      · have hli : (j : Int) < (b.size : Int) := by omega
        have hd := all_dropS (fun c => Wt.ltr c || Wlx.dig c) b j hlt
        have C1 := C (b[j]) wr
        have C2 := tdig_any (b[j]) wr
        cases h1 : Wt.ltr (b[j]) with
        | true =>
          have E : Hid (R = (b.data.toList.drop (j + 1)).all (fun c => Wt.ltr c || Wlx.dig c)) := by show _ = _; rw [HR.out, hd, h1]; rfl
          rw [h1] at C1
          clear HR hd h1 C2 C0
          go_wp2_with fail
          refine C1.mono ?_
          rintro e w1 ⟨rfl, rfl⟩
          go_wp2_with fail
          go_roundg (b.size - (j + 1))
          case rel => exact ⟨j + 1, by simp, rfl, hlt, E, by first | trivial | rfl⟩
          case measure => omega
        | false =>
          cases h2 : Wlx.dig (b[j]) with
          | true =>
            have E : Hid (R = (b.data.toList.drop (j + 1)).all (fun c => Wt.ltr c || Wlx.dig c)) := by show _ = _; rw [HR.out, hd, h1, h2]; rfl
            rw [h1] at C1
            rw [h2] at C2
            clear HR hd h1 h2 C0
            go_wp2_with fail
            refine C1.mono ?_
            rintro e w1 ⟨rfl, rfl⟩
            go_wp2_with fail
            refine C2.mono ?_
            rintro e w1 ⟨rfl, rfl⟩
            go_wp2_with fail
            go_roundg (b.size - (j + 1))
            case rel => exact ⟨j + 1, by simp, rfl, hlt, E, by first | trivial | rfl⟩
            case measure => omega
          | false =>
            have E : Hid (R = false) := by show _ = _; rw [HR.out, hd, h1, h2]; rfl
            rw [h1] at C1
            rw [h2] at C2
            clear HR hd h1 h2 C0
            go_wp2_with fail
            refine C1.mono ?_
            rintro e w1 ⟨rfl, rfl⟩
            go_wp2_with fail
            refine C2.mono ?_
            rintro e w1 ⟨rfl, rfl⟩
            go_wp2
            go_ret
            exact ⟨by rw [E.out]; rfl, rfl⟩
      · have hli : ¬ (j : Int) < (b.size : Int) := by omega
        have E : Hid (R = true) := by show _ = _; rw [HR.out, drop_end b j hlt]; rfl
        clear HR C0
        go_wp2
        go_ret
        exact ⟨by rw [E.out]; rfl, rfl⟩
theorem tfn_any (b : ByteArray) (w : World) (hs : b.size ≤ 9223372036854775807) : Calls Tryz.prog 84 #[.string b] w fun e w' => e = .returned (.bool (Wt.fnNm b)) ∧ w = w' := by
  have C := tname_cap b w hs
  unfold Wt.fnNm
  generalize Wt.isNm Wlx.cap b.data.toList = R at *
  go_enter Tryz.func84, Tryz.ntmps84
  go_wp2_with fail
  refine C.mono ?_
  rintro e w1 ⟨rfl, rfl⟩
  go_wp2
  go_ret
  exact ⟨rfl, rfl⟩
theorem tsh_any (b : ByteArray) (w : World) (hs : b.size ≤ 9223372036854775807) : Calls Tryz.prog 114 #[.string b] w fun e w' => e = .returned (.bool (Wt.shNm b)) ∧ w = w' := by
  have C := tname_ltr b w hs
  unfold Wt.shNm
  generalize Wt.isNm Wt.ltr b.data.toList = R at *
  go_enter Tryz.func114, Tryz.ntmps114
  go_wp2_with fail
  refine C.mono ?_
  rintro e w1 ⟨rfl, rfl⟩
  go_wp2
  go_ret
  exact ⟨rfl, rfl⟩
end Go.Proofs.YtlggnpohhahdlaaGreatDoor
