/- LexCovers, of a text that is taken. -/
import Derived.Test.YtjkohkhngeioiaaDoorLLawCovers
namespace Wlx
theorem dbl_snoc (l : List UInt8) (c : UInt8) : (dbl (l ++ [c])).length = (dbl l).length + (if c = 34 then 2 else 1) := by
  induction l with
  | nil =>
    by_cases h : c = 34
    · subst h; rfl
    · rw [List.nil_append, dbl_other h, if_neg h]; rfl
  | cons d t ih =>
    by_cases h : d = 34
    · subst h
      rw [List.cons_append, dbl_quote, dbl_quote]
      simp only [List.length_cons, ih]; omega
    · rw [List.cons_append, dbl_other h, dbl_other h]
      simp only [List.length_cons, ih]; omega
theorem dbl_ge (l : List UInt8) : l.length ≤ (dbl l).length := by
  induction l with
  | nil => exact Nat.le_refl _
  | cons c t ih =>
    show t.length + 1 ≤ (if c = 34 then 34 :: 34 :: dbl t else c :: dbl t).length
    split <;> simp only [List.length_cons] <;> omega
/-- A token's size. -/
theorem At.size {k : Nat} {u r : List UInt8} (h : At k u r) : u.length = if k = 2 then 2 + (dbl (said k u)).length else (said k u).length := by
  have hw := congrArg List.length h.writ
  unfold Wlx.writ at hw
  by_cases hk : k = 2
  · rw [if_pos hk] at hw ⊢
    simp only [List.length_cons, List.length_append, List.length_nil] at hw
    omega
  · rw [if_neg hk] at hw ⊢
    exact hw.symm
theorem drop_tok {l : List UInt8} {e bl : Nat} {u r : List UInt8} (h : l.drop e = List.replicate bl 32 ++ (u ++ r)) : l.drop (e + bl) = u ++ r ∧ l.drop (e + bl + u.length) = r ∧ (l.drop (e + bl)).take u.length = u := by
  have h1 : l.drop (e + bl) = u ++ r := by
    rw [← List.drop_drop, h]
    exact List.drop_left' (List.length_replicate ..)
  refine ⟨h1, ?_, by rw [h1]; exact List.take_left⟩
  rw [← List.drop_drop, h1]
  exact List.drop_left
end Wlx
namespace Go.Proofs.YtjkohkhngeioiaaDoor
open Go.Shelf Go.RowKit
set_option linter.unusedVariables false

/-- The three cells of one token. -/
abbrev OneS (k0 : Nat) (k p : Int) (s : ByteArray) (W : World) : Prop :=
  W.cell? ⟨k0, 0, none⟩ = some (.int .i64 k) ∧ W.cell? ⟨k0, 1, none⟩ = some (.string s) ∧ W.cell? ⟨k0, 2, none⟩ = some (.int .i64 p)
theorem oneS_drew {k0 : Nat} {k p : Int} {s : ByteArray} {W : World} (h : OneS k0 k p s W) : OneS k0 k p s W.drew := h

set_option maxRecDepth 100000 in
set_option maxHeartbeats 4000000 in
theorem covers_ok (b : ByteArray) (w : World) (hm : MaxAt w) (hs : b.size ≤ 1024) (ts : List Wlx.Tok) (e : scanAll b.data.toList = Wlx.Res.ok ts) (hok : Wlx.Ok 0 b.data.toList ts) : Calls Tryd.prog 8 #[.string b] w fun e w' => e = .returned (.bool true) ∧ Below w.heap.size w w' := by
  have A := able_any w hm
  have S := fun w hm => scan_any b w hm (by omega)
  rw [e] at S
  have hN : ts.length ≤ 1024 := by
    have := hok.count.1
    have e2 : b.data.toList.length = b.size := rfl
    omega
  have HK : Hid (∀ i (h : i < ts.length), 1 ≤ (ts[i]).k ∧ (ts[i]).k ≤ 5) := fun i h => by
    have := hok.count.2 (ts[i]) (List.getElem_mem h)
    exact ⟨this.2.2.1, this.2.2.2.1⟩
  have HO : Hid (Wlx.Ok 0 (b.data.toList.drop 0) (ts.drop 0)) := hok
  clear e hok
  go_enter Tryd.func8, Tryd.ntmps8
  go_wp2_with fail
  refine A.mono ?_
  rintro e w1 ⟨rfl, hb1⟩
  have hm1 := MaxAt.below hm hb1
  go_wp2_with fail
  refine (S _ hm1).mono ?_
  rintro e w2 ⟨⟨v, rfl, hown⟩, hb2⟩
  have hB2 : Below w.heap.size w w2 := hb1.trans (hb2.mono hb1.size)
  obtain ⟨av, cap, rfl, hr⟩ := ReadV.own hown
  rw [List.length_map] at *
  have HC : Hid (∀ i (h : i < ts.length), ∃ bb off, av = some ⟨bb, off, none⟩ ∧ bb < w2.heap.size ∧ w2.cell? ⟨bb, off + i * 3, none⟩ = some (.int .i64 (ts[i]).k) ∧ w2.cell? ⟨bb, off + i * 3 + 1, none⟩ = some (.string ⟨(ts[i]).t.toArray⟩) ∧ w2.cell? ⟨bb, off + i * 3 + 2, none⟩ = some (.int .i64 (ts[i]).p)) := fun i h => by
    obtain ⟨bb, off, e1, e2, c0, c1, c2⟩ := hr i (by simpa using h)
    simp only [List.getElem_map, Wlx.tv] at c0 c1 c2
    exact ⟨bb, off, e1, e2, c0, c1, c2⟩
  clear hr hown A S hb1 hb2 hm1
  go_wp2_with fail
  go_loopg [6, 7] (ts.length) (fun gk x y wr => ∃ e i : Nat, x = .int .i64 e ∧ y = .int .i64 i ∧ gk = ts.length - i ∧ i ≤ ts.length ∧ e ≤ b.size ∧ Hid (Wlx.Ok e (b.data.toList.drop e) (ts.drop i)) ∧ Below w.heap.size w wr ∧ Below w2.heap.size w2 wr)
  case atStart => exact ⟨0, 0, rfl, rfl, rfl, Nat.zero_le _, Nat.zero_le _, HO, hB2, Below.refl _ _⟩
  case round =>
    clear HO hB2
    obtain ⟨e, i, rfl, rfl, hg, hi, he, HO, hB, hb2⟩ := hrel
    by_cases hlt : i < ts.length
    · have hli : (i : Int) < (ts.length : Int) := by omega
      obtain ⟨bb, off, rfl, hbb, c0, c1, c2⟩ := HC.out i hlt
      have hk := HK.out i hlt
      have hd := List.drop_eq_getElem_cons hlt
      obtain ⟨x, hx⟩ : ∃ x, ts[i] = x := ⟨_, rfl⟩
      rw [hx] at c0 c1 c2 hk hd
      have ho := HO.out
      rw [hd] at ho
      obtain ⟨bl, u, r, h1, h2, h3, h4⟩ := ho.next
      obtain ⟨k, tx, p⟩ := x
      simp only [Wlx.Tok.mk.injEq, true_and] at h2
      obtain ⟨h2a, rfl⟩ := h2
      simp only at c0 c1 c2 hk h3 h2a
      have hlen : e + bl + u.length + r.length = b.size := by
        have := congrArg List.length h1
        simp only [List.length_drop, List.length_append, List.length_replicate] at this
        have e2 : b.data.toList.length = b.size := rfl
        omega
      have hu := h3.pos
      have husz := h3.size
      rw [← h2a] at husz
      have HZ : Hid (u.length = if k = 2 then 2 + (Wlx.dbl tx).length else tx.length) := husz
      clear husz
      have HB : Hid (∀ j, e ≤ j → (h : j < b.size) → j < e + bl → b[j] = 32) := fun j a1 a2 a3 => blank_at h1 j a1 a2 a3
      have HU : Hid (¬ k = 2 → tx = u) := fun h => by rw [h2a]; unfold Wlx.said; rw [if_neg h]
      have HE : Hid (b.extract (e + bl) (e + bl + u.length) = ⟨u.toArray⟩) := by
        show _ = _
        rw [Lib.extract_eq]
        have : (b.data.toList.drop (e + bl)).take (e + bl + u.length - (e + bl)) = u := by
          rw [Nat.add_sub_cancel_left]; exact (Wlx.drop_tok h1).2.2
        rw [this]
      have HO2 : Hid (Wlx.Ok (e + bl + u.length) (b.data.toList.drop (e + bl + u.length)) (ts.drop (i + 1))) := by
        have e3 : b.data.toList.drop (e + bl + u.length) = r := (Wlx.drop_tok h1).2.1
        show Wlx.Ok _ _ _
        rw [e3]; exact h4
      have c0 := (hb2.cell (p := ⟨bb, off + i * 3, none⟩) hbb).trans c0
      have c1 := (hb2.cell (p := ⟨bb, off + i * 3 + 1, none⟩) hbb).trans c1
      have c2 := (hb2.cell (p := ⟨bb, off + i * 3 + 2, none⟩) hbb).trans c2
      clear h1 h3 h4 ho HO hx hd h2a
      obtain ⟨k1, k5⟩ := hk
      have kk1 : ¬ (k : Int) < 1 := by omega
      have kk5 : ¬ (5 : Int) < (k : Int) := by omega
      have pp0 : ¬ ((e + bl : Nat) : Int) < (e : Int) := by omega
      have pp1 : ¬ (b.size : Int) ≤ ((e + bl : Nat) : Int) := by omega
      obtain ⟨T, hT⟩ : ∃ T : ByteArray, T = ⟨tx.toArray⟩ := ⟨_, rfl⟩
      have HTl : Hid (T.data.toList = tx) := by show _ = _; rw [hT]
      have HTs : Hid (T.size = tx.length) := by show _ = _; rw [hT]; rfl
      have HT : Hid (T = ⟨tx.toArray⟩) := hT
      rw [← hT] at c1
      clear hT
      generalize hP : e + bl = P at *
      go_upto_region 11 with fail
      have q0 := new_heap wr (.cells #[.int .i64 k, .string T, .int .i64 P] 31)
      have hS : OneS wr.heap.size k P T (wr.alloc (.cells #[.int .i64 k, .string T, .int .i64 P] 31)) := ⟨by rw [Lib.cell_of_heap q0]; rfl, by rw [Lib.cell_of_heap q0]; rfl, by rw [Lib.cell_of_heap q0]; rfl⟩
      have hB1 := hB.alloc hB.size (.cells #[.int .i64 k, .string T, .int .i64 P] 31)
      have hb21 := hb2.alloc hb2.size (.cells #[.int .i64 k, .string T, .int .i64 P] 31)
      clear q0 c0 c1 c2 hB hb2
      generalize wr.alloc (.cells #[.int .i64 k, .string T, .int .i64 P] 31) = W1 at *
      generalize wr.heap.size = t8 at *
      obtain ⟨y0, y1, y2⟩ := hS
      go_wp2_with fail
      go_loopg [9] (P - e) (fun gk x wi => ∃ j : Nat, x = .int .i64 j ∧ gk = P - j ∧ e ≤ j ∧ j ≤ P ∧ OneS t8 k P T wi ∧ Below w.heap.size w wi ∧ Below w2.heap.size w2 wi)
      case atStart => exact ⟨e, rfl, rfl, Nat.le_refl _, by omega, ⟨y0, y1, y2⟩, hB1, hb21⟩
      case round =>
        clear y0 y1 y2 hB1 hb21
        obtain ⟨j, rfl, hg2, hj1, hj2, hS, hB1, hb21⟩ := hrel
        obtain ⟨y0, y1, y2⟩ := hS
        by_cases hjP : j < P
        · have hjs : j < b.size := by omega
          have hji : (j : Int) < (P : Int) := by omega
          have hjs2 : (j : Int) < (b.size : Int) := by omega
          have eb : (((b[j]).toNat : Nat) : Int) = 32 := by rw [HB.out j hj1 hjs hjP]; rfl
          go_wp2_with fail
          go_roundg (P - (j + 1))
          case rel => exact ⟨j + 1, by simp, rfl, by omega, by omega, ⟨y0, y1, y2⟩, hB1, hb21⟩
          case measure => omega
        · obtain rfl : j = P := by omega
          have hji : ¬ (j : Int) < (j : Int) := by omega
          go_upto_if 97 with fail
          go_cut [10] (fun x wx => x = .int .i64 (u.length : Nat) ∧ OneS t8 k j T wx ∧ Below w.heap.size w wx ∧ Below w2.heap.size w2 wx)
          case first =>
            by_cases hk2 : k = 2
            · subst hk2
              have HN : Hid (u.length = 2 + (Wlx.dbl tx).length) := by show _ = _; rw [HZ.out, if_pos rfl]
              have hul : u.length ≤ 1024 := by omega
              have htx : T.size ≤ 1024 := by have h1 := Wlx.dbl_ge tx; have h2 := HN.out; have h3 := HTs.out; omega
              clear HZ HE HU
              go_wp2_with fail
              go_loopg [10, 11] (T.size) (fun gk x y wi => ∃ q : Nat, y = .int .i64 q ∧ x = .int .i64 ((2 + (Wlx.dbl (tx.take q)).length : Nat) : Int) ∧ gk = T.size - q ∧ q ≤ T.size ∧ OneS t8 (2 : Nat) j T wi ∧ Below w.heap.size w wi ∧ Below w2.heap.size w2 wi)
              case atStart => exact ⟨0, rfl, rfl, rfl, Nat.zero_le _, ⟨y0, y1, y2⟩, hB1, hb21⟩
              case round =>
                clear y0 y1 y2 hB1 hb21
                obtain ⟨q, rfl, rfl, hg3, hq, hS, hB1, hb21⟩ := hrel
                obtain ⟨y0, y1, y2⟩ := hS
                by_cases hqs : q < T.size
                · have hqi : (q : Int) < (T.size : Int) := by omega
                  have hql : q < tx.length := by have := HTs.out; omega
                  have etk : tx.take (q + 1) = tx.take q ++ [tx[q]] := by rw [List.take_succ_eq_append_getElem hql]
                  have hTq : T[q] = tx[q] := by
                    have e1 : T.data.toList[q]? = some T[q] := List.getElem?_eq_getElem (by exact hqs)
                    rw [HTl.out, List.getElem?_eq_getElem hql] at e1
                    exact (Option.some.inj e1).symm
                  have hsn := Wlx.dbl_snoc (tx.take q) (tx[q])
                  rw [← etk] at hsn
                  have hdl : (Wlx.dbl (tx.take q)).length ≤ 2 * 1024 := by
                    have := Wlx.dbl_length (tx.take q)
                    rw [List.length_take] at this
                    have := Wlx.dbl_ge tx
                    have := HN.out
                    have := HTs.out
                    omega
                  by_cases h34 : tx[q] = 34
                  · rw [if_pos h34] at hsn
                    have eb : (((T[q]).toNat : Nat) : Int) = 34 := by rw [hTq, h34]; rfl
                    have HS : Hid ((Wlx.dbl (tx.take (q + 1))).length = (Wlx.dbl (tx.take q)).length + 2) := hsn
                    clear hsn etk hTq h34
                    generalize (Wlx.dbl (tx.take q)).length = dq at *
                    go_wp2_with fail
                    go_roundg (T.size - (q + 1))
                    case rel => exact ⟨q + 1, by simp, by rw [HS.out]; exact congrArg (Value.int IntKind.i64) (by omega), rfl, hqs, ⟨y0, y1, y2⟩, hB1, hb21⟩
                    case measure => omega
                  · rw [if_neg h34] at hsn
                    have eb : ((((T[q]).toNat : Nat) : Int) == 34) = false := by
                      rw [hTq]
                      refine beq_eq_false_iff_ne.2 (fun e => h34 ?_)
                      have : (tx[q]).toNat = 34 := by omega
                      exact UInt8.toNat_inj.1 this
                    have HS : Hid ((Wlx.dbl (tx.take (q + 1))).length = (Wlx.dbl (tx.take q)).length + 1) := hsn
                    clear hsn etk hTq h34
                    generalize (Wlx.dbl (tx.take q)).length = dq at *
                    go_wp2_with fail
                    go_roundg (T.size - (q + 1))
                    case rel => exact ⟨q + 1, by simp, by rw [HS.out]; exact congrArg (Value.int IntKind.i64) (by omega), rfl, hqs, ⟨y0, y1, y2⟩, hB1, hb21⟩
                    case measure => omega
                · have hqi : ¬ (q : Int) < (T.size : Int) := by omega
                  have HQ : Hid (2 + (Wlx.dbl (tx.take q)).length = u.length) := by
                    show _ = _
                    rw [List.take_of_length_le (by have := HTs.out; omega), HN.out]
                  generalize 2 + (Wlx.dbl (tx.take q)).length = nq at *
                  go_wp2_with fail
                  go_meet
                  case rel => exact ⟨by rw [HQ.out], ⟨y0, y1, y2⟩, hB1, hb21⟩
            · have hk2i : ((k : Int) == 2) = false := beq_eq_false_iff_ne.2 (by omega)
              have HN : Hid (u.length = T.size) := by show _ = _; rw [HZ.out, if_neg hk2, HTs.out]
              have hTu : T.size ≤ 1024 := by have := HN.out; omega
              have hTp : 0 < T.size := by have := HN.out; omega
              have hTb : j + T.size ≤ b.size := by have := HN.out; omega
              have hex : b.extract j (j + T.size) = T := by rw [← HN.out, HE.out, HT.out, HU.out hk2]
              have f1 : ¬ (b.size : Int) - (j : Int) < (T.size : Int) := by omega
              have f1d : decide ((b.size : Int) - (j : Int) < (T.size : Int)) = false := decide_eq_false f1
              have f2 : ((T.size : Int) == 0) = false := beq_eq_false_iff_ne.2 (by omega)
              have f3 : IntKind.i64.wrap ((b.size : Int) - (j : Int)) = (b.size : Int) - (j : Int) := by rw [IntKind.wrap_i64]; omega
              have f4 : IntKind.i64.wrap ((j : Int) + (T.size : Int)) = (j : Int) + (T.size : Int) := by rw [IntKind.wrap_i64]; omega
              have f5 : (j : Int) ≤ (j : Int) + (T.size : Int) := by omega
              have f6 : (j : Int) + (T.size : Int) ≤ (b.size : Int) := by omega
              have htn : ((j : Int) + (T.size : Int)).toNat = j + T.size := by omega
              have hS : OneS t8 k j T wr := ⟨y0, y1, y2⟩
              clear HZ HE HU HTl HTs y0 y1 y2
              go_wp2_with fail
              go_region_held3 (OneS t8 k j T)
                (with_reducible first | exact hS | assumption | exact oneS_drew hS)
                (first | (go_at_call 999999; fail))
              all_goals
                go_wp2_with fail
                go_meet
                case rel => exact ⟨by rw [HN.out], oneS_drew hS, hB1.drew, hb21.drew⟩
          case rest =>
            clear y0 y1 y2 hB1 hb21
            obtain ⟨rfl, ⟨y0, y1, y2⟩, hB1, hb21⟩ := hcut
            go_wp2_with fail
            go_roundg (ts.length - (i + 1))
            case rel => exact ⟨j + u.length, i + 1, by simp, by simp, rfl, hlt, by omega, HO2, hB1, hb21⟩
            case measure => omega
    · have hli : ¬ (i : Int) < (ts.length : Int) := by omega
      have hlast : Wlx.Ok e (b.data.toList.drop e) [] := by
        have := HO.out
        have e0 : ts.drop i = [] := List.drop_eq_nil_of_le (by omega)
        rw [e0] at this
        exact this
      have h1 := hlast.last
      have HB : Hid (∀ j, e ≤ j → (h : j < b.size) → b[j] = 32) := fun j a1 a2 => by
        have e2 : b.data.toList.length = b.size := rfl
        exact blank_at (y := []) (by rw [List.append_nil]; exact h1) j a1 a2 (by rw [List.length_drop]; omega)
      clear h1 hlast HO
      go_wp2_with fail
      go_loopg [12] (b.size - e) (fun gk x wi => ∃ j : Nat, x = .int .i64 j ∧ gk = b.size - j ∧ e ≤ j ∧ j ≤ b.size ∧ Below w.heap.size w wi)
      case atStart => exact ⟨e, rfl, rfl, Nat.le_refl _, he, hB⟩
      case round =>
        clear hB
        obtain ⟨j, rfl, hg2, hj1, hj2, hB⟩ := hrel
        by_cases hjs : j < b.size
        · have hjs2 : (j : Int) < (b.size : Int) := by omega
          have eb : (((b[j]).toNat : Nat) : Int) = 32 := by rw [HB.out j hj1 hjs]; rfl
          go_wp2_with fail
          go_roundg (b.size - (j + 1))
          case rel => exact ⟨j + 1, by simp, rfl, by omega, by omega, hB⟩
          case measure => omega
        · have hjs2 : ¬ (j : Int) < (b.size : Int) := by omega
          go_wp2
          go_ret
          exact ⟨rfl, hB⟩
theorem covers_main (b : ByteArray) (w : World) (hm : MaxAt w) (hs : b.size ≤ 9223372036854775807) : Calls Tryd.prog 8 #[.string b] w fun e w' => e = .returned (.bool true) ∧ Below w.heap.size w w' := by
  rcases scanAll_cases b.data.toList with ⟨ts, e, hok, hl⟩ | ⟨c, p, e, hc⟩
  · exact covers_ok b w hm (by exact hl) ts e hok
  · exact covers_err b w hm hs c p e hc
end Go.Proofs.YtjkohkhngeioiaaDoor
