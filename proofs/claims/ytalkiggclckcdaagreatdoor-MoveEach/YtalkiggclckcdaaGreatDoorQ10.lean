/- PWalkT, TCheck, LName, LQuo, LSize. -/
import Derived.Test.YtalkiggclckcdaaGreatDoorQ09
import Derived.Lib.Strings
namespace Go.Proofs.YtalkiggclckcdaaGreatDoor
open Go.RowKit
set_option linter.unusedVariables false
set_option maxHeartbeats 800000 in
theorem shift_any (s r c x y : Int) (w : World) :
    Calls Tryz.prog 53 #[.agg #[.int .i64 s, .int .i64 r, .int .i64 c], .int .i64 x, .int .i64 y] w fun e w' => e = .returned (.tuple #[.agg #[.int .i64 (Wpl.shiftV s r c x y).s, .int .i64 (Wpl.shiftV s r c x y).r, .int .i64 (Wpl.shiftV s r c x y).c], .bool (Wpl.shiftOk s r c x y)]) ∧ Below w.heap.size w w' := by
  have R := fun w => x3_right_any s r c w
  cases h1 : Wpl.rightC s r c with
  | false =>
    have e1 : Hid (Wpl.shiftOk s r c x y = false) := by show _ = _; unfold Wpl.shiftOk; rw [h1]; rfl
    have e2 : Hid (Wpl.shiftV s r c x y = ⟨0, 0, 0⟩) := by show _ = _; unfold Wpl.shiftV; rw [e1.out]; rfl
    rw [h1] at R; clear h1
    go_enter Tryz.func53, Tryz.ntmps53
    go_wp2_with fail
    refine (R _).mono ?_
    rintro e w1 ⟨rfl, hb1⟩
    have pC : AtL w1 (w.heap.size + 1) [.int .i64 0, .int .i64 0, .int .i64 0] := AtL.below hb1 (AtL.new1 w _ 47 _)
    have hB : Below w.heap.size w w1 := by with_reducible repeat (first | exact Below.refl _ _ | refine x3_below_drewN ?_ _ | refine Below.setCell ?_ (by first | (simp; done) | (simp; omega) | omega) _ | refine Below.drew ?_ | refine x3_below_end ?_ (by assumption) | refine x3_ball ?_ _)
    clear hb1
    obtain ⟨c0, c1, c2, f0, f1, f2⟩ := pC.three
    go_wp2
    refine bodyPost_ret (v := .tuple #[.agg #[.int .i64 0, .int .i64 0, .int .i64 0], .bool false]) (by simp [results, Tryz.results53, go_sem, c0, c1, c2]) rfl ⟨by rw [e1.out, e2.out], ?_⟩
    exact put3_below hB (by omega) _ _ _
  | true =>
    have hh := Wpl.rightC_iff.1 h1
    rw [h1] at R
    have S1 := fun w => stays_any r x 65536 w (by omega) (by omega) (by omega)
    have S2 := fun w => stays_any c y 256 w (by omega) (by omega) (by omega)
    have e0 : Hid (Wpl.shiftOk s r c x y = (Wpl.inB (r + x) 65536 && Wpl.inB (c + y) 256)) := by show _ = _; unfold Wpl.shiftOk; rw [h1]; rfl
    clear h1
    cases h2 : Wpl.inB (r + x) 65536 with
    | false =>
      have e1 : Hid (Wpl.shiftOk s r c x y = false) := by show _ = _; rw [e0.out, h2]; rfl
      have e2 : Hid (Wpl.shiftV s r c x y = ⟨0, 0, 0⟩) := by show _ = _; unfold Wpl.shiftV; rw [e1.out]; rfl
      rw [h2] at S1; clear h2 e0
      go_enter Tryz.func53, Tryz.ntmps53
      go_wp2_with fail
      refine (R _).mono ?_
      rintro e w1 ⟨rfl, hb1⟩
      have pA : AtL w1 w.heap.size [.int .i64 s, .int .i64 r, .int .i64 c] := AtL.below hb1 ((AtL.new0 w 47 _).alloc _)
      have pC : AtL w1 (w.heap.size + 1) [.int .i64 0, .int .i64 0, .int .i64 0] := AtL.below hb1 (AtL.new1 w _ 47 _)
      have hB : Below w.heap.size w w1 := by with_reducible repeat (first | exact Below.refl _ _ | refine x3_below_drewN ?_ _ | refine Below.setCell ?_ (by first | (simp; done) | (simp; omega) | omega) _ | refine Below.drew ?_ | refine x3_below_end ?_ (by assumption) | refine x3_ball ?_ _)
      clear hb1
      obtain ⟨c0, c1, c2, f0, f1, f2⟩ := pC.three
      obtain ⟨a0, a1, a2, g0, g1, g2⟩ := pA.three
      go_wp2_with fail
      refine (S1 _).mono ?_
      rintro e w2 ⟨rfl, rfl⟩
      go_wp2
      refine bodyPost_ret (v := .tuple #[.agg #[.int .i64 0, .int .i64 0, .int .i64 0], .bool false]) (by simp [results, Tryz.results53, go_sem, c0, c1, c2]) rfl ⟨by rw [e1.out, e2.out], ?_⟩
      exact put3_below hB (by omega) _ _ _
    | true =>
      rw [h2] at S1
      cases h3 : Wpl.inB (c + y) 256 with
      | false =>
        have e1 : Hid (Wpl.shiftOk s r c x y = false) := by show _ = _; rw [e0.out, h2, h3]; rfl
        have e2 : Hid (Wpl.shiftV s r c x y = ⟨0, 0, 0⟩) := by show _ = _; unfold Wpl.shiftV; rw [e1.out]; rfl
        rw [h3] at S2; clear h2 h3 e0
        go_enter Tryz.func53, Tryz.ntmps53
        go_wp2_with fail
        refine (R _).mono ?_
        rintro e w1 ⟨rfl, hb1⟩
        have pA : AtL w1 w.heap.size [.int .i64 s, .int .i64 r, .int .i64 c] := AtL.below hb1 ((AtL.new0 w 47 _).alloc _)
        have pC : AtL w1 (w.heap.size + 1) [.int .i64 0, .int .i64 0, .int .i64 0] := AtL.below hb1 (AtL.new1 w _ 47 _)
        have hB : Below w.heap.size w w1 := by with_reducible repeat (first | exact Below.refl _ _ | refine x3_below_drewN ?_ _ | refine Below.setCell ?_ (by first | (simp; done) | (simp; omega) | omega) _ | refine Below.drew ?_ | refine x3_below_end ?_ (by assumption) | refine x3_ball ?_ _)
        clear hb1
        obtain ⟨c0, c1, c2, f0, f1, f2⟩ := pC.three
        obtain ⟨a0, a1, a2, g0, g1, g2⟩ := pA.three
        go_wp2_with fail
        refine (S1 _).mono ?_
        rintro e w2 ⟨rfl, rfl⟩
        go_wp2_with fail
        refine (S2 _).mono ?_
        rintro e w2 ⟨rfl, rfl⟩
        go_wp2
        refine bodyPost_ret (v := .tuple #[.agg #[.int .i64 0, .int .i64 0, .int .i64 0], .bool false]) (by simp [results, Tryz.results53, go_sem, c0, c1, c2]) rfl ⟨by rw [e1.out, e2.out], ?_⟩
        exact put3_below hB (by omega) _ _ _
      | true =>
        have e1 : Hid (Wpl.shiftOk s r c x y = true) := by show _ = _; rw [e0.out, h2, h3]; rfl
        have e2 : Hid (Wpl.shiftV s r c x y = ⟨s, r + x, c + y⟩) := by show _ = _; unfold Wpl.shiftV; rw [e1.out]; rfl
        have b2 := Wpl.inB_iff.1 h2
        have b3 := Wpl.inB_iff.1 h3
        rw [h3] at S2; clear h2 h3 e0
        go_enter Tryz.func53, Tryz.ntmps53
        go_wp2_with fail
        refine (R _).mono ?_
        rintro e w1 ⟨rfl, hb1⟩
        have pA : AtL w1 w.heap.size [.int .i64 s, .int .i64 r, .int .i64 c] := AtL.below hb1 ((AtL.new0 w 47 _).alloc _)
        have pC : AtL w1 (w.heap.size + 1) [.int .i64 0, .int .i64 0, .int .i64 0] := AtL.below hb1 (AtL.new1 w _ 47 _)
        have hB : Below w.heap.size w w1 := by with_reducible repeat (first | exact Below.refl _ _ | refine x3_below_drewN ?_ _ | refine Below.setCell ?_ (by first | (simp; done) | (simp; omega) | omega) _ | refine Below.drew ?_ | refine x3_below_end ?_ (by assumption) | refine x3_ball ?_ _)
        clear hb1
        obtain ⟨c0, c1, c2, f0, f1, f2⟩ := pC.three
        obtain ⟨a0, a1, a2, g0, g1, g2⟩ := pA.three
        go_wp2_with fail
        refine (S1 _).mono ?_
        rintro e w2 ⟨rfl, rfl⟩
        go_wp2_with fail
        refine (S2 _).mono ?_
        rintro e w2 ⟨rfl, rfl⟩
        have hne : ¬ w.heap.size = w.heap.size + 1 := by omega
        go_wp2
        refine bodyPost_ret (v := .tuple #[.agg #[.int .i64 s, .int .i64 (r + x), .int .i64 (c + y)], .bool true]) (by simp [results, Tryz.results53, go_sem, c0, c1, c2]) rfl ⟨by rw [e1.out, e2.out], ?_⟩
        with_reducible exact put3_below ((hB.setCell (p := ⟨w.heap.size, 1, none⟩) (Nat.le_refl _) _).setCell (p := ⟨w.heap.size, 2, none⟩) (Nat.le_refl _) _) (by omega) _ _ _
set_option maxRecDepth 100000 in
theorem check_any (av : Option Addr) (cap : Nat) (L : List Wt.Nd) (w : World) (hL : L.length ≤ 9223372036854775807) (hF : ∀ x ∈ L, Wt.FitN x) (hO : OpsAt w) (hr : RdN w av L) :
    Calls Tryz.prog 12 #[.slice av L.length cap] w fun e w' => e = .returned (.int .i64 (Wt.check L)) ∧ Below w.heap.size w w' := by
  unfold Wt.check
  by_cases h : 256 < L.length
  · rw [if_pos h]
    have hi : (256 : Int) < (L.length : Int) := by omega
    go_enter Tryz.func12, Tryz.ntmps12
    go_wp2
    go_ret
    exact ⟨rfl, Below.refl _ _⟩
  rw [if_neg h]
  have hi : ¬ (256 : Int) < (L.length : Int) := by omega
  have M := meas_any av cap L (by omega) hF (L.length + 1) (by omega) 0 w (by omega) (by omega) hO hr
  rw [List.drop_zero] at M
  have h1 := one_le (L.length + 1) L
  cases hone : Wt.one (L.length + 1) L with
  | none =>
    rw [hone] at M
    clear h1
    go_enter Tryz.func12, Tryz.ntmps12
    go_wp2_with fail
    refine M.mono ?_
    rintro e w1 ⟨rfl, hb⟩
    simp only [MP]
    go_wp2
    go_ret
    exact ⟨rfl, hb⟩
  | some q =>
    obtain ⟨s, d⟩ := q
    rw [hone] at M
    have h2 := one_deep _ _ _ _ hone
    replace h1 := h1 s d hone
    simp only [MP, Nat.zero_add] at M
    simp only
    by_cases hs : s = L.length
    · rw [if_neg (by omega)]
      have hsi : ((s : Int) == (L.length : Int)) = true := by rw [beq_iff_eq]; omega
      have hsi2 : (s : Int) = (L.length : Int) := by omega
      by_cases hd : 32 < d
      · rw [if_pos hd]
        have hdi : (32 : Int) < (d : Int) := by omega
        go_enter Tryz.func12, Tryz.ntmps12
        go_wp2_with fail
        refine M.mono ?_
        rintro e w1 ⟨rfl, hb⟩
        go_wp2
        go_ret
        exact ⟨rfl, hb⟩
      · rw [if_neg hd]
        have hdi : ¬ (32 : Int) < (d : Int) := by omega
        go_enter Tryz.func12, Tryz.ntmps12
        go_wp2_with fail
        refine M.mono ?_
        rintro e w1 ⟨rfl, hb⟩
        go_wp2
        go_ret
        exact ⟨rfl, hb⟩
    · rw [if_pos hs]
      have hsi : ((s : Int) == (L.length : Int)) = false := by rw [beq_eq_false_iff_ne]; omega
      have hsi2 : ¬ (s : Int) = (L.length : Int) := by omega
      go_enter Tryz.func12, Tryz.ntmps12
      go_wp2_with fail
      refine M.mono ?_
      rintro e w1 ⟨rfl, hb⟩
      go_wp2
      go_ret
      exact ⟨rfl, hb⟩
theorem begins_take (p : List UInt8) : ∀ l : List UInt8, Wlx.begins p l = (decide (p.length ≤ l.length) && (l.take p.length == p)) := by
  induction p with
  | nil => intro l; simp [Wlx.begins]
  | cons a p ih =>
    intro l
    cases l with
    | nil => simp [Wlx.begins]
    | cons b t =>
      have e : ((b :: t).take (a :: p).length == a :: p) = (decide (a = b) && (t.take p.length == p)) := by
        simp only [List.length_cons, List.take_succ_cons]
        by_cases h : a = b
        · subst h; simp
        · have h2 : ¬ b = a := fun e => h e.symm
          simp [h, h2]
      rw [e]
      have e2 : decide ((a :: p).length ≤ (b :: t).length) = decide (p.length ≤ t.length) := by simp
      rw [e2]
      show (decide (a = b) && Wlx.begins p t) = _
      rw [ih t]
      cases decide (a = b) <;> cases decide (p.length ≤ t.length) <;> rfl
theorem prefix_any (b p : ByteArray) (w : World) (hs : b.size ≤ 9223372036854775807) : Calls Tryz.prog 60 #[.string b, .string p] w fun e w' => e = .returned (.bool (Wlx.begins p.data.toList b.data.toList)) ∧ w = w' := by
  have E : Hid (Wlx.begins p.data.toList b.data.toList = (decide (p.size ≤ b.size) && ((b.extract 0 p.size).toList == p.toList))) := by
    show _ = _
    rw [begins_take, Lib.extract_toList, Lib.toList_data]
    rfl
  by_cases h : p.size ≤ b.size
  · have E2 : Hid (Wlx.begins p.data.toList b.data.toList = ((b.extract 0 p.size).toList == p.toList)) := by
      show _ = _; rw [E.out, decide_eq_true h]; rfl
    clear E
    have h1 : (p.size : Int) ≤ (b.size : Int) := by omega
    generalize Wlx.begins p.data.toList b.data.toList = r at *
    go_enter Tryz.func60, Tryz.ntmps60
    go_wp2
    go_ret
    exact ⟨by rw [E2.out]; rfl, rfl⟩
  · have E2 : Hid (Wlx.begins p.data.toList b.data.toList = false) := by
      show _ = _; rw [E.out, decide_eq_false h]; rfl
    clear E
    have h1 : ¬ (p.size : Int) ≤ (b.size : Int) := by omega
    generalize Wlx.begins p.data.toList b.data.toList = r at *
    go_enter Tryz.func60, Tryz.ntmps60
    go_wp2
    go_ret
    exact ⟨by rw [E2.out]; rfl, rfl⟩
theorem hasPrefix_any (b p : ByteArray) (w : World) (hs : b.size ≤ 9223372036854775807) : Calls Tryz.prog 50 #[.string b, .string p] w fun e w' => e = .returned (.bool (Wlx.begins p.data.toList b.data.toList)) ∧ w = w' := by
  go_enter Tryz.func50, Tryz.ntmps50
  go_wp2_with fail
  refine (prefix_any _ _ _ hs).mono ?_
  rintro e w1 ⟨rfl, rfl⟩
  go_wp2
  go_ret
  exact ⟨rfl, rfl⟩
theorem nameSize_any (b : ByteArray) (k : Nat) (ns : List (List UInt8)) (n : Nat) (w : World) (hs : b.size ≤ 9223372036854775807) (hn : n = ns.length) (hn2 : ns.length ≤ 100) (hns : ∀ x ∈ ns, x.length ≤ 100)
    (hc : ∀ i (h : i < ns.length), w.cell? ⟨k, i, none⟩ = some (.string ⟨(ns[i]).toArray⟩)) :
    Calls Tryz.prog 48 #[.string b, .slice (some ⟨k, 0, none⟩) n n] w fun e w' => e = .returned (.int .i64 (Wlx.nameSz b.data.toList ns : Nat)) ∧ w = w' := by
  subst hn
  have HC : Hid (∀ i (h : i < ns.length), w.cell? ⟨k, i, none⟩ = some (.string ⟨(ns[i]).toArray⟩)) := hc
  clear hc
  go_enter Tryz.func48, Tryz.ntmps48
  go_wp2_with fail
  go_loopw [9] (fun x wr => ∃ i : Nat, x = .int .i64 i ∧ i ≤ ns.length ∧ Hid (Wlx.nameSz b.data.toList ns = Wlx.nameSz b.data.toList (ns.drop i)) ∧ wr = w) (fun x _ => match x with | .int _ i => ns.length - i.toNat | _ => 0)
  case atStart => exact ⟨0, rfl, Nat.zero_le _, (rfl : Wlx.nameSz b.data.toList ns = _), rfl⟩
  case round =>
    obtain ⟨i, rfl, hi, HR, rfl⟩ := hrel
    by_cases hlt : i < ns.length
    · have hli : (i : Int) < (ns.length : Int) := by omega
      have ci := HC.out i hlt
      obtain ⟨x, hx⟩ : ∃ x, ns[i] = x := ⟨_, rfl⟩
      have hxl : x.length ≤ 100 := hns x (by rw [← hx]; exact List.getElem_mem hlt)
      rw [hx] at ci
      have E0 : Hid (Wlx.nameSz b.data.toList ns = if Wlx.begins x b.data.toList then x.length else Wlx.nameSz b.data.toList (ns.drop (i + 1))) := by
        show _ = _
        rw [HR.out, List.drop_eq_getElem_cons hlt, hx]
        rfl
      clear HR hx
      have HP := hasPrefix_any b ⟨x.toArray⟩ wr hs
      cases hbx : Wlx.begins x b.data.toList with
      | true =>
        have E : Hid (Wlx.nameSz b.data.toList ns = x.length) := by show _ = _; rw [E0.out, if_pos hbx]
        have e1 : Wlx.begins (⟨x.toArray⟩ : ByteArray).data.toList b.data.toList = true := by simpa using hbx
        rw [e1] at HP
        clear E0 e1 hbx
        go_wp2_with fail
        refine HP.mono ?_
        rintro e w1 ⟨rfl, rfl⟩
        go_wp2
        go_ret
        exact ⟨by rw [E.out]; simp, rfl⟩
      | false =>
        have E : Hid (Wlx.nameSz b.data.toList ns = Wlx.nameSz b.data.toList (ns.drop (i + 1))) := by show _ = _; rw [E0.out, if_neg (by rw [hbx]; decide)]
        have e1 : Wlx.begins (⟨x.toArray⟩ : ByteArray).data.toList b.data.toList = false := by simpa using hbx
        rw [e1] at HP
        clear E0 e1 hbx
        go_wp2_with fail
        refine HP.mono ?_
        rintro e w1 ⟨rfl, rfl⟩
        go_wp2_with fail
        go_roundw
        case rel => exact ⟨i + 1, by simp, hlt, E, by first | trivial | rfl⟩
        case measure => simp; omega
    · have hli : ¬ (i : Int) < (ns.length : Int) := by omega
      have E : Hid (Wlx.nameSz b.data.toList ns = 0) := by
        show _ = _; rw [HR.out, List.drop_eq_nil_of_le (by omega)]; rfl
      clear HR
      go_wp2
      go_ret
      exact ⟨by rw [E.out]; rfl, rfl⟩
theorem ext_drop (b : ByteArray) (n : Nat) : (b.extract n b.size).data.toList = b.data.toList.drop n := by
  rw [Lib.extract_data]
  exact List.take_of_length_le (by rw [List.length_drop]; exact Nat.le_refl _)
theorem begins_one (c : UInt8) (l : List UInt8) : Wlx.begins [c] l = match l with | [] => false | d :: _ => decide (c = d) := by
  cases l with
  | nil => rfl
  | cons d t => show (decide (c = d) && Wlx.begins [] t) = _; simp [Wlx.begins]
set_option maxHeartbeats 800000 in
theorem numberSize_any (b : ByteArray) (w : World) (hs : b.size ≤ 9223372036854775806) : Calls Tryz.prog 45 #[.string b] w fun e w' => e = .returned (.int .i64 (Wlx.numSz b.data.toList : Nat)) ∧ Below w.heap.size w w' := by
  obtain ⟨n, hn⟩ : ∃ n, Wlx.runP Wlx.dig b.data.toList = n := ⟨_, rfl⟩
  have hle : n ≤ b.size := by rw [← hn]; exact Wlx.runP_le _ _
  have R1 := run_digit b w (by omega)
  rw [hn] at R1
  have E0 : Hid (Wlx.numSz b.data.toList = if n = 0 then 0 else Wlx.numTl n (b.data.toList.drop n)) := by
    show _ = _; unfold Wlx.numSz; rw [hn]
  clear hn
  by_cases h0 : n = 0
  · subst h0
    have E : Hid (Wlx.numSz b.data.toList = 0) := by show _ = _; rw [E0.out, if_pos rfl]
    clear E0
    go_enter Tryz.func45, Tryz.ntmps45
    go_wp2_with fail
    refine R1.mono ?_
    rintro e w1 ⟨rfl, hb1⟩
    go_wp2
    go_ret
    exact ⟨by rw [E.out]; rfl, hb1⟩
  · have hn0 : ((n : Int) == 0) = false := beq_eq_false_iff_ne.2 (by omega)
    have c1 : (n : Int) ≤ (b.size : Int) := by omega
    have c0 : (0 : Int) ≤ (n : Int) := by omega
    have HP := fun w => hasPrefix_any (b.extract n b.size) ⟨#[46]⟩ w (by rw [ByteArray.size_extract]; omega)
    rw [ext_drop, begins_one] at HP
    cases hd : b.data.toList.drop n with
    | nil =>
      have E : Hid (Wlx.numSz b.data.toList = n) := by show _ = _; rw [E0.out, if_neg h0, hd]; rfl
      simp only [hd] at HP
      clear E0 hd
      go_enter Tryz.func45, Tryz.ntmps45
      go_wp2_with fail
      refine R1.mono ?_
      rintro e w1 ⟨rfl, hb1⟩
      go_wp2_with fail
      refine (HP _).mono ?_
      rintro e w2 ⟨rfl, rfl⟩
      go_wp2
      go_ret
      exact ⟨by rw [E.out]; rfl, hb1⟩
    | cons c t =>
      simp only [hd] at HP
      by_cases hc : c = 46
      · subst hc
        have hsz : n + 1 + t.length = b.size := by
          have := congrArg List.length hd
          simp only [List.length_drop, List.length_cons] at this
          have e : b.data.toList.length = b.size := rfl
          omega
        have c2 : (n : Int) + 1 ≤ (b.size : Int) := by omega
        have R2 := fun w => run_digit (b.extract (n + 1) b.size) w (by rw [ByteArray.size_extract]; omega)
        have e2 : b.data.toList.drop (n + 1) = t := by rw [show n + 1 = n + 1 from rfl, ← List.drop_drop, hd]; rfl
        rw [ext_drop, e2] at R2
        obtain ⟨m, hm⟩ : ∃ m, Wlx.runP Wlx.dig t = m := ⟨_, rfl⟩
        have hml : m ≤ t.length := by rw [← hm]; exact Wlx.runP_le _ _
        rw [hm] at R2
        by_cases h1 : 0 < m
        · have E : Hid (Wlx.numSz b.data.toList = n + 1 + m) := by show _ = _; rw [E0.out, if_neg h0, hd]; rw [Wlx.numTl_cons, hm, if_pos ⟨rfl, h1⟩]
          have h1i : (0 : Int) < (m : Int) := by omega
          clear E0 hd e2 hm
          go_enter Tryz.func45, Tryz.ntmps45
          go_wp2_with fail
          refine R1.mono ?_
          rintro e w1 ⟨rfl, hb1⟩
          go_wp2_with fail
          refine (HP _).mono ?_
          rintro e w2 ⟨rfl, rfl⟩
          go_wp2_with fail
          refine (R2 _).mono ?_
          rintro e w2 ⟨rfl, hb2⟩
          go_wp2
          go_ret
          exact ⟨by rw [E.out]; exact x3_ret_int (by omega), hb1.trans (hb2.mono hb1.size)⟩
        · have E : Hid (Wlx.numSz b.data.toList = n) := by show _ = _; rw [E0.out, if_neg h0, hd]; rw [Wlx.numTl_cons, hm, if_neg (fun h => h1 h.2)]
          have h1i : ¬ (0 : Int) < (m : Int) := by omega
          clear E0 hd e2 hm
          go_enter Tryz.func45, Tryz.ntmps45
          go_wp2_with fail
          refine R1.mono ?_
          rintro e w1 ⟨rfl, hb1⟩
          go_wp2_with fail
          refine (HP _).mono ?_
          rintro e w2 ⟨rfl, rfl⟩
          go_wp2_with fail
          refine (R2 _).mono ?_
          rintro e w2 ⟨rfl, hb2⟩
          go_wp2
          go_ret
          exact ⟨by rw [E.out]; rfl, hb1.trans (hb2.mono hb1.size)⟩
      · have hc' : ¬ (46 : UInt8) = c := fun e => hc e.symm
        rw [decide_eq_false hc'] at HP
        have E : Hid (Wlx.numSz b.data.toList = n) := by show _ = _; rw [E0.out, if_neg h0, hd]; rw [Wlx.numTl_cons, if_neg (fun h => hc h.1)]
        clear E0 hd hc hc'
        go_enter Tryz.func45, Tryz.ntmps45
        go_wp2_with fail
        refine R1.mono ?_
        rintro e w1 ⟨rfl, hb1⟩
        go_wp2_with fail
        refine (HP _).mono ?_
        rintro e w2 ⟨rfl, rfl⟩
        go_wp2
        go_ret
        exact ⟨by rw [E.out]; rfl, hb1⟩
theorem quo_hit (w : Bool) (i : Nat) (t : List UInt8) : Wlx.quo w i (34 :: t) = Wlx.quo (!w) (i + 1) t := by
  conv => lhs; unfold Wlx.quo
  rw [if_pos rfl]
theorem quo_in {c : UInt8} (h : ¬ c = 34) (i : Nat) (t : List UInt8) : Wlx.quo true i (c :: t) = Wlx.quo true (i + 1) t := by
  conv => lhs; unfold Wlx.quo
  rw [if_neg h, if_pos rfl]
theorem quo_out {c : UInt8} (h : ¬ c = 34) (i : Nat) (t : List UInt8) : Wlx.quo false i (c :: t) = i := by
  conv => lhs; unfold Wlx.quo
  rw [if_neg h, if_neg (by decide)]
theorem wide_bytes (b : ByteArray) (i : Nat) (h : i < b.size) (hc : 128 ≤ (b[i]).toNat) : 1 ≤ (Utf8.decode b i).2 ∧ i + (Utf8.decode b i).2 ≤ b.size ∧ ∀ j, i ≤ j → (hj : j < b.size) → j < i + (Utf8.decode b i).2 → 128 ≤ (b[j]).toNat := by
  have g : ∀ k (hk : i + k < b.size), (b.get! (i + k)) = b[i + k] := by
    intro k hk
    simp [ByteArray.get!, getElem!_pos, hk]
    rfl
  have g0 := g 0 h
  have hn : ¬ (b[i + 0]).toNat < 128 := by simpa using hc
  have one : i + 1 ≤ b.size ∧ ∀ j, i ≤ j → (hj : j < b.size) → j < i + 1 → 128 ≤ (b[j]).toNat := ⟨h, fun j h1 h2 h3 => by
    obtain rfl : j = i := by omega
    exact hc⟩
  have two : ∀ k, (decide (i + k < b.size) && (b.get! (i + k)).toNat / 64 == 2) = true → ∃ hk : i + k < b.size, 128 ≤ (b[i + k]).toNat := by
    intro k hk
    simp only [Bool.and_eq_true, decide_eq_true_eq, beq_iff_eq] at hk
    obtain ⟨h1, h2⟩ := hk
    rw [g k h1] at h2
    exact ⟨h1, by omega⟩
  simp only [Utf8.decode, g0, hn, if_false]
  split
  · rename_i c1
    simp only [Bool.and_eq_true] at c1
    obtain ⟨k1, b1⟩ := two 1 (by simpa using c1.2)
    split
    · refine ⟨by omega, by omega, fun j h1 h2 h3 => ?_⟩
      have : j = i ∨ j = i + 1 := by omega
      rcases this with rfl | rfl
      · exact hc
      · exact b1
    · exact ⟨by omega, one⟩
  · split
    · rename_i c1
      simp only [Bool.and_eq_true] at c1
      obtain ⟨k1, b1⟩ := two 1 (by simpa using c1.1.2)
      obtain ⟨k2, b2⟩ := two 2 (by simpa using c1.2)
      split
      · refine ⟨by omega, by omega, fun j h1 h2 h3 => ?_⟩
        have : j = i ∨ j = i + 1 ∨ j = i + 2 := by omega
        rcases this with rfl | rfl | rfl
        · exact hc
        · exact b1
        · exact b2
      · exact ⟨by omega, one⟩
    · split
      · rename_i c1
        simp only [Bool.and_eq_true] at c1
        obtain ⟨k1, b1⟩ := two 1 (by simpa using c1.1.1.2)
        obtain ⟨k2, b2⟩ := two 2 (by simpa using c1.1.2)
        obtain ⟨k3, b3⟩ := two 3 (by simpa using c1.2)
        split
        · refine ⟨by omega, by omega, fun j h1 h2 h3 => ?_⟩
          have : j = i ∨ j = i + 1 ∨ j = i + 2 ∨ j = i + 3 := by omega
          rcases this with rfl | rfl | rfl | rfl
          · exact hc
          · exact b1
          · exact b2
          · exact b3
        · exact ⟨by omega, one⟩
      · exact ⟨by omega, one⟩
theorem quo_skip (b : ByteArray) (i : Nat) : ∀ n, i + n ≤ b.size → (∀ j, i ≤ j → (hj : j < b.size) → j < i + n → ¬ b[j] = 34) → Wlx.quo true i (b.data.toList.drop i) = Wlx.quo true (i + n) (b.data.toList.drop (i + n)) := by
  intro n
  induction n with
  | zero => intro _ _; rfl
  | succ n ih =>
    intro h1 h2
    rw [ih (by omega) (fun j a b c => h2 j a b (by omega)), drop_at b (i + n) (by omega), quo_in (h2 (i + n) (by omega) (by omega) (by omega))]
    rfl
set_option maxHeartbeats 800000 in
theorem textSize_any (b : ByteArray) (w : World) (hs : b.size ≤ 9223372036854775806) : Calls Tryz.prog 46 #[.string b] w fun e w' => e = .returned (.int .i64 (Wlx.txtSz b.data.toList : Nat)) ∧ Below w.heap.size w w' := by
  have HP := hasPrefix_any b ⟨#[34]⟩ w (by omega)
  rw [begins_one] at HP
  cases hl : b.data.toList with
  | nil =>
    simp only [hl] at HP
    go_enter Tryz.func46, Tryz.ntmps46
    go_wp2_with fail
    refine HP.mono ?_
    rintro e w1 ⟨rfl, rfl⟩
    go_wp2
    go_ret
    exact ⟨rfl, Below.refl _ _⟩
  | cons c t =>
    simp only [hl] at HP
    by_cases hc : c = 34
    · subst hc
      have E0 : Hid (Wlx.txtSz (34 :: t) = Wlx.quo false 0 (b.data.toList)) := by
        show _ = _; rw [hl, quo_hit]; rfl
      obtain ⟨R, hR⟩ : ∃ R, Wlx.txtSz (34 :: t) = R := ⟨_, rfl⟩
      rw [hR] at E0 ⊢
      clear hl hR
      go_enter Tryz.func46, Tryz.ntmps46
      go_wp2_with fail
      refine HP.mono ?_
      rintro e w1 ⟨rfl, rfl⟩
      go_wp2_with fail
      go_loopw [3] (fun x wr => ∃ (q : Bool) (pos : Nat), x = .bool q ∧ pos ≤ b.size ∧ wr.heap[w.heap.size]? = some (.stringIter b pos) ∧ Hid (R = Wlx.quo q pos (b.data.toList.drop pos)) ∧ Below w.heap.size w wr) (fun _ wr => b.size - wr.iterPos w.heap.size)
      case atStart => exact ⟨false, 0, rfl, Nat.zero_le _, World.iter_heap w b 0, E0, (Below.refl _ w).alloc (Nat.le_refl _) _⟩
      case round =>
        obtain ⟨q, pos, rfl, hp, hit, HR, hb⟩ := hrel
        by_cases hlt : pos < b.size
        · have nx := fun ty => Lib.run_next_any_at (P := Tryz.prog) wr w.heap.size b pos ty hit hlt
          have hk2 := fun q => Lib.iterAt_heap wr w.heap.size b pos q hit
          have hb2 := fun q => Lib.below_iterAt hb (Nat.le_refl w.heap.size) b q
          have hm : wr.iterPos w.heap.size = pos := by simp [World.iterPos, hit]
          obtain ⟨rv, hrv⟩ : ∃ rv : Nat, (Utf8.decode b pos).1 = rv := ⟨_, rfl⟩
          obtain ⟨n, hn⟩ : ∃ n : Nat, (Utf8.decode b pos).2 = n := ⟨_, rfl⟩
          have hm2 : (wr.iterAt w.heap.size b (pos + n)).iterPos w.heap.size = pos + n := by simp [World.iterPos, hk2]
          have facts : 1 ≤ n ∧ pos + n ≤ b.size ∧ (((rv : Int) == 34) = true → b[pos] = 34 ∧ n = 1) ∧ (((rv : Int) == 34) = false → ∀ j, pos ≤ j → (hj : j < b.size) → j < pos + n → ¬ b[j] = 34) := by
            rcases rune_at b pos hlt with ⟨h1, e⟩ | ⟨h1, e⟩
            · rw [e] at hrv hn
              simp only at hrv hn
              subst hn hrv
              refine ⟨Nat.le_refl _, hlt, fun h => ⟨UInt8.toNat_inj.1 (by have := beq_iff_eq.1 h; show _ = 34; omega), rfl⟩, fun h j a1 a2 a3 => ?_⟩
              obtain rfl : j = pos := by omega
              intro h2
              rw [h2] at h
              exact absurd h (by decide)
            · obtain ⟨w1, w2, w3⟩ := wide_bytes b pos hlt h1
              rw [hn] at w1 w2 w3
              rw [hrv] at e
              refine ⟨w1, w2, fun h => by have := beq_iff_eq.1 h; omega, fun h j a1 a2 a3 h2 => ?_⟩
              have := w3 j a1 a2 a3
              rw [h2] at this
              exact absurd this (by decide)
          obtain ⟨f1, f2, f3, f4⟩ := facts
          rw [hrv, hn] at nx
          have hi := hk2 (pos + n)
          have hbb := hb2 (pos + n)
          clear hk2 hb2 hrv hn
          cases h34 : ((rv : Int) == 34) with
          | true =>
            obtain ⟨e34, rfl⟩ := f3 h34
            have E : Hid (R = Wlx.quo (!q) (pos + 1) (b.data.toList.drop (pos + 1))) := by
              show _ = _; rw [HR.out, drop_at b pos hlt, e34, quo_hit]
            clear HR f3 f4 e34
            go_wp2_with fail
            go_roundw
            case rel => exact ⟨!q, pos + 1, rfl, f2, hi, E, hbb⟩
            case measure => rw [hm, hm2]; omega
          | false =>
            cases q with
            | true =>
              have E : Hid (R = Wlx.quo true (pos + n) (b.data.toList.drop (pos + n))) := by
                show _ = _; rw [HR.out, quo_skip b pos n f2 (f4 h34)]
              clear HR f3 f4
              go_wp2_with fail
              go_roundw
              case rel => exact ⟨true, pos + n, rfl, f2, hi, E, hbb⟩
              case measure => rw [hm, hm2]; omega
            | false =>
              have E : Hid (R = pos) := by
                show _ = _; rw [HR.out, drop_at b pos hlt, quo_out (f4 h34 pos (Nat.le_refl _) hlt (by omega))]
              clear HR f3 f4
              go_wp2
              go_ret
              exact ⟨by rw [E.out]; rfl, hbb⟩
        · have nx := fun ty => Lib.run_next_end_at (P := Tryz.prog) wr w.heap.size b pos ty hit hlt
          obtain rfl : pos = b.size := by omega
          have E : Hid (R = if q then 0 else b.size) := by
            show _ = _
            rw [HR.out, drop_end b _ hlt]; rfl
          clear HR
          cases q with
          | true =>
            have E2 : Hid (R = 0) := by show _ = _; rw [E.out]; rfl
            clear E
            go_wp2
            go_ret
            exact ⟨by rw [E2.out]; rfl, hb⟩
          | false =>
            have E2 : Hid (R = b.size) := by show _ = _; rw [E.out]; rfl
            clear E
            go_wp2
            go_ret
            exact ⟨by rw [E2.out]; rfl, hb⟩
    · have hc' : ¬ (34 : UInt8) = c := fun e => hc e.symm
      rw [decide_eq_false hc'] at HP
      have E : Hid (Wlx.txtSz (c :: t) = 0) := by show (if c = 34 then _ else 0) = 0; rw [if_neg hc]
      clear hl hc hc'
      go_enter Tryz.func46, Tryz.ntmps46
      go_wp2_with fail
      refine HP.mono ?_
      rintro e w1 ⟨rfl, rfl⟩
      go_wp2
      go_ret
      exact ⟨by rw [E.out]; rfl, Below.refl _ _⟩
def strs (ns : List (List UInt8)) : List Value := ns.map fun n => .string ⟨n.toArray⟩
theorem nameSize_new (b : ByteArray) (ns : List (List UInt8)) (n : Nat) (w W : World) (t : TypeId) (o : Obj) (hW : W = w.alloc o) (ho : o = .cells (strs ns).toArray t) (hs : b.size ≤ 9223372036854775807) (hn : n = ns.length) (hn2 : ns.length ≤ 100) (hns : ∀ x ∈ ns, x.length ≤ 100) :
    Calls Tryz.prog 48 #[.string b, .slice (some ⟨w.heap.size, 0, none⟩) n n] W fun e w' => e = .returned (.int .i64 (Wlx.nameSz b.data.toList ns : Nat)) ∧ Below w.heap.size w w' := by
  subst hW ho
  refine (nameSize_any b w.heap.size ns n _ hs hn hn2 hns (fun i h => ?_)).mono ?_
  · exact (AtL.new0 w t (strs ns)).2.1 i _ (by unfold strs; simp [h])
  · rintro e w1 ⟨rfl, rfl⟩
    exact ⟨rfl, (Below.refl _ w).alloc (Nat.le_refl _) _⟩
set_option maxHeartbeats 1600000 in
theorem x4_size_any (k : Nat) (b : ByteArray) (w : World) (hs : b.size ≤ 9223372036854775806) (hk : 1 ≤ k) (hk2 : k ≤ 5) : Calls Tryz.prog 29 #[.int .i64 k, .string b] w fun e w' => e = .returned (.int .i64 (Wlx.sz k b.data.toList : Nat)) ∧ Below w.heap.size w w' := by
  have : k = 1 ∨ k = 2 ∨ k = 3 ∨ k = 4 ∨ k = 5 := by omega
  rcases this with rfl | rfl | rfl | rfl | rfl
  · go_enter Tryz.func29, Tryz.ntmps29
    go_wp2_with fail
    refine (numberSize_any _ _ hs).mono ?_
    rintro e w1 ⟨rfl, hb⟩
    go_wp2
    go_ret
    exact ⟨rfl, hb⟩
  · go_enter Tryz.func29, Tryz.ntmps29
    go_wp2_with fail
    refine (textSize_any _ _ hs).mono ?_
    rintro e w1 ⟨rfl, hb⟩
    go_wp2
    go_ret
    exact ⟨rfl, hb⟩
  · go_enter Tryz.func29, Tryz.ntmps29
    go_wp2_with fail
    refine (run_word _ _ (by omega)).mono ?_
    rintro e w1 ⟨rfl, hb⟩
    go_wp2
    go_ret
    exact ⟨rfl, hb⟩
  · go_enter Tryz.func29, Tryz.ntmps29
    go_wp2_with fail
    refine (nameSize_new _ Wlx.faults 8 _ _ 9 _ rfl rfl (by omega) rfl (by decide) (by decide)).mono ?_
    rintro e w1 ⟨rfl, hb⟩
    go_wp2
    go_ret
    exact ⟨rfl, hb⟩
  · go_enter Tryz.func29, Tryz.ntmps29
    go_wp2_with fail
    refine (nameSize_new _ Wlx.marks 18 _ _ 9 _ rfl rfl (by omega) rfl (by decide) (by decide)).mono ?_
    rintro e w1 ⟨rfl, hb⟩
    go_wp2
    go_ret
    exact ⟨rfl, hb⟩
end Go.Proofs.YtalkiggclckcdaaGreatDoor
