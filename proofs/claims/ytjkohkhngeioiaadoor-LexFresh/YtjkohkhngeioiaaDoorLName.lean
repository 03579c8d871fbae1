/- HasPrefix, nameSize, numberSize, textSize. -/
import Derived.Test.YtjkohkhngeioiaaDoorLRun
import Derived.Lib.Strings
namespace Go.Proofs.YtjkohkhngeioiaaDoor
open Go.RowKit
set_option linter.unusedVariables false

theorem begins_take (p : List UInt8) : ∀ l : List UInt8, Wlx.begins p l = (decide (p.length ≤ l.length) && (l.take p.length == p)) := by
  induction p with
  | nil => intro l; simp [Wlx.begins]
  | cons a p ih =>
    intro l
    cases l with
    | nil => simp [Wlx.begins]
    | cons b t =>
      have e : ((b :: t).take (a :: p).length == a :: p) = (decide (a = b) && (t.take p.length == p)) := by
        simp only [List.length_cons, List.take_succ_cons]
        by_cases h : a = b
        · subst h; simp
        · have h2 : ¬ b = a := fun e => h e.symm
          simp [h, h2]
      rw [e]
      have e2 : decide ((a :: p).length ≤ (b :: t).length) = decide (p.length ≤ t.length) := by simp
      rw [e2]
      show (decide (a = b) && Wlx.begins p t) = _
      rw [ih t]
      cases decide (a = b) <;> cases decide (p.length ≤ t.length) <;> rfl

theorem prefix_any (b p : ByteArray) (w : World) (hs : b.size ≤ 9223372036854775807) : Calls Tryd.prog 43 #[.string b, .string p] w fun e w' => e = .returned (.bool (Wlx.begins p.data.toList b.data.toList)) ∧ w = w' := by
  have E : Hid (Wlx.begins p.data.toList b.data.toList = (decide (p.size ≤ b.size) && ((b.extract 0 p.size).toList == p.toList))) := by
    show _ = _
    rw [begins_take, Lib.extract_toList, Lib.toList_data]
    rfl
  by_cases h : p.size ≤ b.size
  · have E2 : Hid (Wlx.begins p.data.toList b.data.toList = ((b.extract 0 p.size).toList == p.toList)) := by
      show _ = _; rw [E.out, decide_eq_true h]; rfl
    clear E
    have h1 : (p.size : Int) ≤ (b.size : Int) := by omega
    generalize Wlx.begins p.data.toList b.data.toList = r at *
    go_enter Tryd.func43, Tryd.ntmps43
    go_wp2
    go_ret
    exact ⟨by rw [E2.out]; rfl, rfl⟩
  · have E2 : Hid (Wlx.begins p.data.toList b.data.toList = false) := by
      show _ = _; rw [E.out, decide_eq_false h]; rfl
    clear E
    have h1 : ¬ (p.size : Int) ≤ (b.size : Int) := by omega
    generalize Wlx.begins p.data.toList b.data.toList = r at *
    go_enter Tryd.func43, Tryd.ntmps43
    go_wp2
    go_ret
    exact ⟨by rw [E2.out]; rfl, rfl⟩
theorem hasPrefix_any (b p : ByteArray) (w : World) (hs : b.size ≤ 9223372036854775807) : Calls Tryd.prog 33 #[.string b, .string p] w fun e w' => e = .returned (.bool (Wlx.begins p.data.toList b.data.toList)) ∧ w = w' := by
  go_enter Tryd.func33, Tryd.ntmps33
  go_wp2_with fail
  refine (prefix_any _ _ _ hs).mono ?_
  rintro e w1 ⟨rfl, rfl⟩
  go_wp2
  go_ret
  exact ⟨rfl, rfl⟩

theorem nameSize_any (b : ByteArray) (k : Nat) (ns : List (List UInt8)) (n : Nat) (w : World) (hs : b.size ≤ 9223372036854775807) (hn : n = ns.length) (hn2 : ns.length ≤ 100) (hns : ∀ x ∈ ns, x.length ≤ 100)
    (hc : ∀ i (h : i < ns.length), w.cell? ⟨k, i, none⟩ = some (.string ⟨(ns[i]).toArray⟩)) :
    Calls Tryd.prog 31 #[.string b, .slice (some ⟨k, 0, none⟩) n n] w fun e w' => e = .returned (.int .i64 (Wlx.nameSz b.data.toList ns : Nat)) ∧ w = w' := by
  subst hn
  have HC : Hid (∀ i (h : i < ns.length), w.cell? ⟨k, i, none⟩ = some (.string ⟨(ns[i]).toArray⟩)) := hc
  clear hc
  go_enter Tryd.func31, Tryd.ntmps31
  go_wp2_with fail
  go_loopw [9] (fun x wr => ∃ i : Nat, x = .int .i64 i ∧ i ≤ ns.length ∧ Hid (Wlx.nameSz b.data.toList ns = Wlx.nameSz b.data.toList (ns.drop i)) ∧ wr = w) (fun x _ => match x with | .int _ i => ns.length - i.toNat | _ => 0)
  case atStart => exact ⟨0, rfl, Nat.zero_le _, (rfl : Wlx.nameSz b.data.toList ns = _), rfl⟩
  case round =>
    obtain ⟨i, rfl, hi, HR, rfl⟩ := hrel
    by_cases hlt : i < ns.length
    · have hli : (i : Int) < (ns.length : Int) := by omega
      have ci := HC.out i hlt
      obtain ⟨x, hx⟩ : ∃ x, ns[i] = x := ⟨_, rfl⟩
      have hxl : x.length ≤ 100 := hns x (by rw [← hx]; exact List.getElem_mem hlt)
      rw [hx] at ci
      have E0 : Hid (Wlx.nameSz b.data.toList ns = if Wlx.begins x b.data.toList then x.length else Wlx.nameSz b.data.toList (ns.drop (i + 1))) := by
        show _ = _
        rw [HR.out, List.drop_eq_getElem_cons hlt, hx]
        rfl
      clear HR hx
      have HP := hasPrefix_any b ⟨x.toArray⟩ wr hs
      cases hbx : Wlx.begins x b.data.toList with
      | true =>
        have E : Hid (Wlx.nameSz b.data.toList ns = x.length) := by show _ = _; rw [E0.out, if_pos hbx]
        have e1 : Wlx.begins (⟨x.toArray⟩ : ByteArray).data.toList b.data.toList = true := by simpa using hbx
        rw [e1] at HP
        clear E0 e1 hbx
        go_wp2_with fail
        refine HP.mono ?_
        rintro e w1 ⟨rfl, rfl⟩
        go_wp2
        go_ret
        exact ⟨by rw [E.out]; simp, rfl⟩
      | false =>
        have E : Hid (Wlx.nameSz b.data.toList ns = Wlx.nameSz b.data.toList (ns.drop (i + 1))) := by show _ = _; rw [E0.out, if_neg (by rw [hbx]; decide)]
        have e1 : Wlx.begins (⟨x.toArray⟩ : ByteArray).data.toList b.data.toList = false := by simpa using hbx
        rw [e1] at HP
        clear E0 e1 hbx
        go_wp2_with fail
        refine HP.mono ?_
        rintro e w1 ⟨rfl, rfl⟩
        go_wp2_with fail
        go_roundw
        case rel => exact ⟨i + 1, by simp, hlt, E, by first | trivial | rfl⟩
        case measure => simp; omega
    · have hli : ¬ (i : Int) < (ns.length : Int) := by omega
      have E : Hid (Wlx.nameSz b.data.toList ns = 0) := by
        show _ = _; rw [HR.out, List.drop_eq_nil_of_le (by omega)]; rfl
      clear HR
      go_wp2
      go_ret
      exact ⟨by rw [E.out]; rfl, rfl⟩

theorem ext_drop (b : ByteArray) (n : Nat) : (b.extract n b.size).data.toList = b.data.toList.drop n := by
  rw [Lib.extract_data]
  exact List.take_of_length_le (by rw [List.length_drop]; exact Nat.le_refl _)
theorem begins_one (c : UInt8) (l : List UInt8) : Wlx.begins [c] l = match l with | [] => false | d :: _ => decide (c = d) := by
  cases l with
  | nil => rfl
  | cons d t => show (decide (c = d) && Wlx.begins [] t) = _; simp [Wlx.begins]

set_option maxHeartbeats 800000 in
theorem numberSize_any (b : ByteArray) (w : World) (hs : b.size ≤ 9223372036854775806) : Calls Tryd.prog 28 #[.string b] w fun e w' => e = .returned (.int .i64 (Wlx.numSz b.data.toList : Nat)) ∧ Below w.heap.size w w' := by
  obtain ⟨n, hn⟩ : ∃ n, Wlx.runP Wlx.dig b.data.toList = n := ⟨_, rfl⟩
  have hle : n ≤ b.size := by rw [← hn]; exact Wlx.runP_le _ _
  have R1 := run_digit b w (by omega)
  rw [hn] at R1
  have E0 : Hid (Wlx.numSz b.data.toList = if n = 0 then 0 else Wlx.numTl n (b.data.toList.drop n)) := by
    show _ = _; unfold Wlx.numSz; rw [hn]
  clear hn
  by_cases h0 : n = 0
  · subst h0
    have E : Hid (Wlx.numSz b.data.toList = 0) := by show _ = _; rw [E0.out, if_pos rfl]
    clear E0
    go_enter Tryd.func28, Tryd.ntmps28
    go_wp2_with fail
    refine R1.mono ?_
    rintro e w1 ⟨rfl, hb1⟩
    go_wp2
    go_ret
    exact ⟨by rw [E.out]; rfl, hb1⟩
  · have hn0 : ((n : Int) == 0) = false := beq_eq_false_iff_ne.2 (by omega)
    have c1 : (n : Int) ≤ (b.size : Int) := by omega
    have c0 : (0 : Int) ≤ (n : Int) := by omega
    have HP := fun w => hasPrefix_any (b.extract n b.size) ⟨#[46]⟩ w (by rw [ByteArray.size_extract]; omega)
    rw [ext_drop, begins_one] at HP
    cases hd : b.data.toList.drop n with
    | nil =>
      have E : Hid (Wlx.numSz b.data.toList = n) := by show _ = _; rw [E0.out, if_neg h0, hd]; rfl
      simp only [hd] at HP
      clear E0 hd
      go_enter Tryd.func28, Tryd.ntmps28
      go_wp2_with fail
      refine R1.mono ?_
      rintro e w1 ⟨rfl, hb1⟩
      go_wp2_with fail
      refine (HP _).mono ?_
      rintro e w2 ⟨rfl, rfl⟩
      go_wp2
      go_ret
      exact ⟨by rw [E.out]; rfl, hb1⟩
    | cons c t =>
      simp only [hd] at HP
      by_cases hc : c = 46
      · subst hc
        have hsz : n + 1 + t.length = b.size := by
          have := congrArg List.length hd
          simp only [List.length_drop, List.length_cons] at this
          have e : b.data.toList.length = b.size := rfl
          omega
        have c2 : (n : Int) + 1 ≤ (b.size : Int) := by omega
        have R2 := fun w => run_digit (b.extract (n + 1) b.size) w (by rw [ByteArray.size_extract]; omega)
        have e2 : b.data.toList.drop (n + 1) = t := by rw [show n + 1 = n + 1 from rfl, ← List.drop_drop, hd]; rfl
        rw [ext_drop, e2] at R2
        obtain ⟨m, hm⟩ : ∃ m, Wlx.runP Wlx.dig t = m := ⟨_, rfl⟩
        have hml : m ≤ t.length := by rw [← hm]; exact Wlx.runP_le _ _
        rw [hm] at R2
        by_cases h1 : 0 < m
        · have E : Hid (Wlx.numSz b.data.toList = n + 1 + m) := by show _ = _; rw [E0.out, if_neg h0, hd]; rw [Wlx.numTl_cons, hm, if_pos ⟨rfl, h1⟩]
          have h1i : (0 : Int) < (m : Int) := by omega
          clear E0 hd e2 hm
          go_enter Tryd.func28, Tryd.ntmps28
          go_wp2_with fail
          refine R1.mono ?_
          rintro e w1 ⟨rfl, hb1⟩
          go_wp2_with fail
          refine (HP _).mono ?_
          rintro e w2 ⟨rfl, rfl⟩
          go_wp2_with fail
          refine (R2 _).mono ?_
          rintro e w2 ⟨rfl, hb2⟩
          go_wp2
          go_ret
          exact ⟨by rw [E.out]; exact ret_int (by omega), hb1.trans (hb2.mono hb1.size)⟩
        · have E : Hid (Wlx.numSz b.data.toList = n) := by show _ = _; rw [E0.out, if_neg h0, hd]; rw [Wlx.numTl_cons, hm, if_neg (fun h => h1 h.2)]
          have h1i : ¬ (0 : Int) < (m : Int) := by omega
          clear E0 hd e2 hm
          go_enter Tryd.func28, Tryd.ntmps28
          go_wp2_with fail
          refine R1.mono ?_
          rintro e w1 ⟨rfl, hb1⟩
          go_wp2_with fail
          refine (HP _).mono ?_
          rintro e w2 ⟨rfl, rfl⟩
          go_wp2_with fail
          refine (R2 _).mono ?_
          rintro e w2 ⟨rfl, hb2⟩
          go_wp2
          go_ret
          exact ⟨by rw [E.out]; rfl, hb1.trans (hb2.mono hb1.size)⟩
      · have hc' : ¬ (46 : UInt8) = c := fun e => hc e.symm
        rw [decide_eq_false hc'] at HP
        have E : Hid (Wlx.numSz b.data.toList = n) := by show _ = _; rw [E0.out, if_neg h0, hd]; rw [Wlx.numTl_cons, if_neg (fun h => hc h.1)]
        clear E0 hd hc hc'
        go_enter Tryd.func28, Tryd.ntmps28
        go_wp2_with fail
        refine R1.mono ?_
        rintro e w1 ⟨rfl, hb1⟩
        go_wp2_with fail
        refine (HP _).mono ?_
        rintro e w2 ⟨rfl, rfl⟩
        go_wp2
        go_ret
        exact ⟨by rw [E.out]; rfl, hb1⟩

theorem quo_hit (w : Bool) (i : Nat) (t : List UInt8) : Wlx.quo w i (34 :: t) = Wlx.quo (!w) (i + 1) t := by
  conv => lhs; unfold Wlx.quo
  rw [if_pos rfl]
theorem quo_in {c : UInt8} (h : ¬ c = 34) (i : Nat) (t : List UInt8) : Wlx.quo true i (c :: t) = Wlx.quo true (i + 1) t := by
  conv => lhs; unfold Wlx.quo
  rw [if_neg h, if_pos rfl]
theorem quo_out {c : UInt8} (h : ¬ c = 34) (i : Nat) (t : List UInt8) : Wlx.quo false i (c :: t) = i := by
  conv => lhs; unfold Wlx.quo
  rw [if_neg h, if_neg (by decide)]

end Go.Proofs.YtjkohkhngeioiaaDoor
