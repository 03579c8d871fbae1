/- MLawTwice, TLaid. -/
import Derived.Test.YtalkiggclckcdaaGreatDoorQ46
import Derived.Deep.RegionHeld3
import Derived.Lib.LaidTab
import Derived.Deep.Strs
import Derived.Stop.LaidErr
namespace Go.Proofs.YtalkiggclckcdaaGreatDoor
open Go.RowKit Go.Shelf
set_option linter.unusedVariables false
theorem wpList_copyM {ops : Array Oper} {rest : List Oper} {o : Oper} {a : Act} {Q : Exit → Act → World → Prop} (hw : Region.wanted o (yielded ops a.tmps) = true) (s x : Operand) (ho : o.op = .call { callee := .builtin .append, args := #[s, x], argTypes := #[23, 23] })
    (w : World) (hs : a.eval s = .slice (some ⟨w.heap.size, 0, none⟩) 0 0) (av : Option Addr) (L : List Wt.Nd) (n : Nat) (hn : n = L.length) (cap : Nat) (hx : a.eval x = .slice av n cap) (hr : RdN w av L) (hno : av = none → L.length = 0 ∧ cap = 0) (hl : True → L.length ≤ 799644820177)
    (h : ∀ v' w', OwnN w' w.heap.size v' L → Below w.heap.size w w' → wpList Tryz.prog ops Q rest (a.put o.dst v') w') : wpList Tryz.prog ops Q (o :: rest) a (w.alloc (.cells #[] 37)) := by
  subst hn
  exact wpList_copyN hw s x ho w hs av L cap hx hr hno hl h
theorem rem_bd {a x : Int} (h : a.tmod 70000 = x) : -70000 < x ∧ x < 70000 := by
  have h1 := Int.tmod_lt_of_pos a (show (0 : Int) < 70000 by decide)
  have h2 := Int.tmod_lt_of_pos (-a) (show (0 : Int) < 70000 by decide)
  have h3 := Int.neg_tmod (a := a) (b := 70000)
  omega
set_option maxRecDepth 100000 in
set_option maxHeartbeats 16000000 in
theorem mtwice_main (b : ByteArray) (a b2 c d : Int) (w : World) (hE : Env w) (hk8 : 8 ≤ w.heap.size) (hs : b.size ≤ 9223372036854775807) :
    Calls Tryz.prog 4 #[.string b, .int .i64 a, .int .i64 b2, .int .i64 c, .int .i64 d] w fun e w' => e = .returned (.bool true) ∧ Below w.heap.size w w' := by
  have A := mable_any w hE hk8
  have S := fun w hE hk8 => parse_any b w hE hs hk8
  cases hr : prsR b.data.toList with
  | inr q =>
    obtain ⟨c0, p⟩ := q
    rw [hr] at S
    simp only [PaPost] at S
    have hc := prsR_code hr
    have hci : (c0 != 0) = true := by simp [hc]
    clear hr hs
    go_enter Tryz.func4, Tryz.ntmps4
    go_wp2_with fail
    refine A.mono ?_
    rintro e w1 ⟨rfl, hb1⟩
    go_wp2_with fail
    refine (S w1 (hE.below hb1) (Nat.le_trans hk8 hb1.size)).mono ?_
    rintro e w2 ⟨rfl, hb2⟩
    have hB2 := below_end hb1 hb2
    go_wp2
    go_ret
    exact ⟨rfl, hB2⟩
  | inl l =>
    rw [hr] at S
    simp only [PaPost] at S
    obtain ⟨hf, hc⟩ := prsR_row hr
    obtain ⟨h256, d0, hone, -⟩ := check_zero hc
    have hpos : 0 < l.length := by have := one_loc _ _ _ _ hone; omega
    have H256 : True → l.length ≤ 256 := fun _ => h256
    have HF : Hid (∀ n ∈ l, Wt.FitN n) := hf
    have HC : Hid (Wt.check l = 0) := hc
    have HA : Hid (∀ n ∈ l, Wt.right n = true) := check_all hc
    clear hr hone h256 hf hc hs
    obtain ⟨x, hx⟩ : ∃ x, a.tmod 70000 = x := ⟨_, rfl⟩
    obtain ⟨y, hy⟩ : ∃ y, b2.tmod 70000 = y := ⟨_, rfl⟩
    obtain ⟨x2, hx2⟩ : ∃ x, c.tmod 70000 = x := ⟨_, rfl⟩
    obtain ⟨y2, hy2⟩ : ∃ y, d.tmod 70000 = y := ⟨_, rfl⟩
    have bx := rem_bd hx
    have by' := rem_bd hy
    have bx2 := rem_bd hx2
    have by2 := rem_bd hy2
    have hwx : IntKind.i64.wrap (x + x2) = x + x2 := by rw [IntKind.wrap_i64]; omega
    have hwy : IntKind.i64.wrap (y + y2) = y + y2 := by rw [IntKind.wrap_i64]; omega
    go_enter Tryz.func4, Tryz.ntmps4
    go_wp2_with fail
    refine A.mono ?_
    rintro e w1 ⟨rfl, hb1⟩
    go_wp2_with fail
    refine (S w1 (hE.below hb1) (Nat.le_trans hk8 hb1.size)).mono ?_
    rintro e w2 ⟨⟨v, rfl, hown⟩, hb2⟩
    have hB2 := below_end hb1 hb2
    obtain ⟨av, cap, rfl, hrd⟩ := hown.form
    clear A S hown hb1 hb2
    go_wp2_with (at_builtin; refine wpList_copyN (by rfl) (.tmp 40) (.tmp 41) (by rfl) w2 (by rfl) av (l) cap (by rfl) hrd (fun h => by obtain ⟨_, _, e, _⟩ := hrd 0 hpos; rw [h] at e; cases e) (fun _ => by have := H256 trivial; (try simp only [List.length_map]); omega) ?_)
    intro vc w3 ownc hb3
    obtain ⟨avc, capc, rfl, hrc⟩ := ownc.form
    have hB3 := below_end hB2 hb3
    have hr3 := hrd.below hb3
    have SH := mshift_ok avc capc l x y w3 HF.out (hE.below hB3).1 hrc HC.out
    clear ownc hb3 hrd hB2 hrc
    go_wp2_with fail
    refine SH.mono ?_
    rintro e w4 ⟨⟨v4, rfl, own4⟩, hb4⟩
    obtain ⟨av4, cap4, rfl, hr4⟩ := own4.form
    have hB4 := below_end hB3 hb4
    have hrl := hr3.below hb4
    rw [List.length_map]
    clear SH own4 hb4 hB3 hr3
    have HM : Hid (RdN w4 av4 (l.map (mvN x y))) := hr4
    have HL : Hid (RdN w4 av l) := hrl
    clear hr4 hrl
    go_upto_region 11 with fail
    have hB := hB4
    go_loopg [16] (l.length) (fun gk vv wr => ∃ i : Nat, vv = .int .i64 i ∧ gk = l.length - i ∧ i ≤ l.length ∧ Hid (∀ (j : Nat) (h : j < l.length), j < i → (mvN x y l[j]).k = l[j].k) ∧ Hid (Below w4.heap.size w4 wr))
    case atStart => exact ⟨0, rfl, rfl, Nat.zero_le _, fun j _ h => absurd h (Nat.not_lt_zero _), Below.refl _ _⟩
    case round =>
      obtain ⟨i, rfl, hg, hi, HK, HB⟩ := hrel
      by_cases hlt : i < l.length
      · have hli : (i : Int) < (l.length : Int) := by omega
        have hi0 : (0 : Int) ≤ (i : Int) := by omega
        have hwi : IntKind.i64.wrap ((i : Int) + 1) = (i : Int) + 1 := by rw [IntKind.wrap_i64]; have := H256 trivial; omega
        obtain ⟨b1, o1, e1, c1⟩ := HM.out.below HB.out i (by rw [List.length_map]; exact hlt)
        obtain ⟨b2', o2, e2, c2⟩ := HL.out.below HB.out i hlt
        subst e1 e2
        rw [List.getElem_map] at c1
        obtain ⟨q, hq⟩ : ∃ q, l[i] = q := ⟨_, rfl⟩
        have HQ : Hid (l[i] = q) := hq
        rw [hq] at c1 c2
        have k1 : wr.cell? ⟨b1, o1 + i * 20, none⟩ = some (.int .i64 (mvN x y q).k) := c1 0 _ rfl
        have k2 : wr.cell? ⟨b2', o2 + i * 20, none⟩ = some (.int .i64 q.k) := c2 0 _ rfl
        obtain ⟨z1, hz1⟩ : ∃ z, (mvN x y q).k = z := ⟨_, rfl⟩
        have HZ1 : Hid ((mvN x y q).k = z1) := hz1
        rw [hz1] at k1
        obtain ⟨z2, hz2⟩ : ∃ z, q.k = z := ⟨_, rfl⟩
        have HZ2 : Hid (q.k = z2) := hz2
        rw [hz2] at k2
        clear c1 c2 hz1 hz2 hq
        go_upto_region 13 with fail
        have kd1 := cell_below (Below.refl _ wr).drew k1
        have kd2 := cell_below (Below.refl _ wr).drew k2
        go_region_held3 (fun W => W.cell? ⟨b1, o1 + i * 20, none⟩ = some (.int .i64 z1) ∧ W.cell? ⟨b2', o2 + i * 20, none⟩ = some (.int .i64 z2)) (with_reducible first | exact ⟨kd1, kd2⟩ | assumption) (fail)
        clear kd1 kd2
        have hHB : Hid (Below w4.heap.size w4 wr.drew) := HB.out.drew
        by_cases hzz : z1 = z2
        · have hne : (z1 != z2) = false := by simp [hzz]
          have HK2 : Hid (∀ (j : Nat) (h : j < l.length), j < i + 1 → (mvN x y l[j]).k = l[j].k) := by
            intro j h hj
            by_cases hji : j < i
            · exact HK.out j h hji
            · have : j = i := by omega
              subst this
              rw [HQ.out, HZ1.out, HZ2.out]
              exact hzz
          clear hzz k1 k2 HK HQ HZ1 HZ2 HB
          go_wp2_with fail
          go_roundg (l.length - (i + 1))
          case rel => exact ⟨i + 1, by simp, rfl, by omega, HK2, hHB⟩
          case measure => omega
        · have hne : (z1 != z2) = true := by simp [hzz]
          have hBr := below_end hB HB.out.drew
          clear hzz k1 k2 HK HQ HZ1 HZ2
          go_wp2
          go_ret
          exact ⟨rfl, hBr⟩
      · have hli : ¬ (i : Int) < (l.length : Int) := by omega
        have HK2 : Hid (∀ n ∈ l, (mvN x y n).k = n.k) := by
          intro n hn
          obtain ⟨j, hj, rfl⟩ := List.getElem_of_mem hn
          exact HK.out j hj (by omega)
        have hmt : Hid ((l.map (mvN x y)).map (mvN x2 y2) = l.map (mvN (x + x2) (y + y2))) := by
          show _ = _
          rw [List.map_map]
          exact List.map_congr_left (fun n hn => mvN_twice (HK2.out n hn))
        have hBr := below_end hB HB.out
        have hrm := HM.out.below HB.out
        have hrl := HL.out.below HB.out
        have HPM : 0 < (l.map (mvN x y)).length := by rw [List.length_map]; exact hpos
        have hEr := hE.below hBr
        clear HK HK2 HM HL HB hB hB4
        go_wp2_with (at_builtin; refine wpList_copyM (by rfl) (.tmp 75) (.tmp 76) (by rfl) wr (by rfl) av4 (l.map (mvN x y)) l.length (List.length_map _).symm cap4 (by rfl) hrm (fun h => by obtain ⟨_, _, e, _⟩ := hrm 0 HPM; rw [h] at e; cases e) (fun _ => by have := H256 trivial; (try simp only [List.length_map]); omega) ?_)
        intro vd w5 ownd hb5
        obtain ⟨avc, capc, rfl, hrc⟩ := ownd.form
        have hB5 := below_end hBr hb5
        have hrl5 := hrl.below hb5
        have SH2 := mshift_ok avc capc (l.map (mvN x y)) x2 y2 w5 (fun n hn => by obtain ⟨m, hm, rfl⟩ := List.mem_map.1 hn; exact fit_mv (HF.out m hm) _ _) (hE.below hB5).1 hrc (check_mv HC.out x y)
        rw [List.length_map] at SH2 ⊢
        clear ownd hb5 hrc hrm hrl hBr hEr
        go_wp2_with fail
        refine SH2.mono ?_
        rintro e w6 ⟨⟨v6, rfl, own6⟩, hb6⟩
        rw [hmt.out] at own6
        obtain ⟨av6, cap6, rfl, hr6⟩ := own6.form
        rw [List.length_map]
        have hB6 := below_end hB5 hb6
        have hrl6 := hrl5.below hb6
        clear SH2 own6 hb6 hB5 hrl5
        go_wp2_with (at_builtin; refine wpList_copyN (by rfl) (.tmp 84) (.tmp 85) (by rfl) w6 (by rfl) av (l) cap (by rfl) hrl6 (fun h => by obtain ⟨_, _, e, _⟩ := hrl6 0 hpos; rw [h] at e; cases e) (fun _ => by have := H256 trivial; (try simp only [List.length_map]); omega) ?_)
        intro ve w7 owne hb7
        obtain ⟨ave, cape, rfl, hre⟩ := owne.form
        have hB7 := below_end hB6 hb7
        have hr67 := hr6.below hb7
        have SH3 := mshift_ok ave cape l (x + x2) (y + y2) w7 HF.out (hE.below hB7).1 hre HC.out
        clear owne hb7 hre hrl6 hr6 hB6
        go_wp2_with fail
        refine SH3.mono ?_
        rintro e w8 ⟨⟨v8, rfl, own8⟩, hb8⟩
        obtain ⟨av8, cap8, rfl, hr8⟩ := own8.form
        have hB8 := below_end hB7 hb8
        have hr68 := hr67.below hb8
        have M := nsame_true av6 av8 cap6 cap8 (l.map (mvN (x + x2) (y + y2))) w8 hr68 hr8 (by have := H256 trivial; simp only [List.length_map]; omega)
        rw [List.length_map] at M ⊢
        clear SH3 own8 hb8 hB7 hr67
        go_wp2_with fail
        refine M.mono ?_
        rintro e w9 ⟨rfl, hb9⟩
        have hB9 := below_end hB8 hb9
        go_wp2
        go_ret
        exact ⟨by simp, hB9⟩
open Go.RowKit
theorem array_each {H : Type} {enc : TypeId × Value → H} {P : Program} {w : World} {base : Nat} {sp : Nat → Bool} {held : Bool} {fuel : Nat} {t e : TypeId} {n c : Nat} {cs : List Value} {ds : List (DataW H)} {p : List MemPlace}
    (ht : P.underlying t = some (.array n e)) (hce : P.cellsOf e = c) (hct : P.cellsOf t = n * c)
    (h : DataW.trod enc P w base sp held fuel t cs = some (.agg ds, p)) : cs.length = n * c ∧ ds.length = n ∧ ∀ i d, ds[i]? = some d → ∃ fuel' p', DataW.trod enc P w base sp held fuel' e ((cs.drop (i * c)).take c) = some (d, p') := by
  cases fuel with
  | zero => simp [DataW.trod] at h
  | succ fuel =>
    simp only [DataW.trod, ht, hce, hct] at h
    split at h
    · rename_i hl
      obtain ⟨xs, hm, hx⟩ := Option.map_eq_some_iff.1 h
      have hxs : xs.map (·.1) = ds := by
        have := congrArg Prod.fst hx
        simpa using this
      have hxl : xs.length = n := by simpa using Lib.mapM_length hm
      refine ⟨by simpa using hl, by rw [← hxs]; simpa using hxl, fun i d hd => ?_⟩
      have hi : i < n := by
        have := (List.getElem?_eq_some_iff.1 hd).1
        rw [← hxs, List.length_map] at this; omega
      obtain ⟨b, hb, hf⟩ := Lib.mapM_at hm i i (by simp [hi])
      have : (xs.map (·.1))[i]? = some b.1 := by simp [hb]
      rw [hxs, hd] at this
      obtain rfl := Option.some.inj this
      exact ⟨fuel, b.2, hf⟩
    · cases h
theorem ba_of {s : ByteArray} {l : List UInt8} (h : s.data.toList = l) : s = ⟨l.toArray⟩ := by
  apply ByteArray.ext
  apply Array.ext'
  rw [h]
theorem flt_of {W : World} {rest : List (String × DataW Unit)} (h : laidMet Tryz.prog (("whittle/value.faultNames", .agg (fNames.map fun x => .lit (.string x))) :: rest) W) : FltAt W := by
  obtain ⟨ps, ⟨g', t', cs, fuel, p, q, hg', ht', hvar, hd, _, _⟩, _⟩ := h
  have hg : Tryz.prog.globalNamed "whittle/value.faultNames" = some 1 := by kernel_rfl
  have hty : (Tryz.prog.globals[1]?).map (·.type) = some 149 := by kernel_rfl
  obtain rfl := Option.some.inj (hg.symm.trans hg')
  obtain rfl := Option.some.inj (hty.symm.trans ht')
  obtain ⟨h1, h2, h3⟩ := array_each (n := 9) (c := 1) (e := 9) Tryz.underlying149 (by kernel_rfl) (by kernel_rfl) hd
  intro j v hv
  unfold fltR at hv
  rw [List.getElem?_map] at hv
  obtain ⟨x, hx, rfl⟩ := Option.map_eq_some_iff.1 hv
  obtain ⟨fu, p', ht⟩ := h3 j (.lit (.string x)) (by rw [List.getElem?_map, hx]; rfl)
  obtain ⟨s, e1, e2, _⟩ := DataW.trod_string Tryz.underlying9 ht
  simp only [Prod.mk.injEq, DataW.lit.injEq, Lit.string.injEq] at e2
  rw [Nat.zero_add, World.var?_cell hg hvar j]
  have : cs.toList[j]? = some (.string s) := by
    have := congrArg (·[0]?) e1
    simpa [List.getElem?_take, List.getElem?_drop] using this
  rw [Array.getElem?_toList] at this
  rw [this, ba_of e2.1.symm]
theorem flat3 {α β : Type} (f : α → List β) (hf : ∀ x, (f x).length = 3) : ∀ (l : List α) (i : Nat) (hi : i < l.length) (r : Nat), r < 3 → (l.flatMap f)[i * 3 + r]? = (f l[i])[r]?
  | [], i, hi, r, hr => absurd hi (Nat.not_lt_zero _)
  | x :: l, 0, hi, r, hr => by
    rw [List.flatMap_cons, List.getElem?_append_left (by rw [hf]; omega)]; simp
  | x :: l, i + 1, hi, r, hr => by
    rw [List.flatMap_cons, List.getElem?_append_right (by rw [hf]; omega), hf, show (i + 1) * 3 + r - 3 = i * 3 + r by omega]
    rw [flat3 f hf l i (by simpa using hi) r hr]; simp
theorem ops_of {W : World} {rest : List (String × DataW Unit)} (h : laidMet Tryz.prog (("whittle/tree.operators", .agg (Wt.opsT.map fun x => .agg [.lit (.int .i64 x.1), .lit (.string x.2.1), .lit (.int .i64 x.2.2)])) :: rest) W) : OpsAt W := by
  obtain ⟨ps, ⟨g', t', cs, fuel, p, q, hg', ht', hvar, hd, _, _⟩, _⟩ := h
  have hg : Tryz.prog.globalNamed "whittle/tree.operators" = some 0 := by kernel_rfl
  have hty : (Tryz.prog.globals[0]?).map (·.type) = some 127 := by kernel_rfl
  obtain rfl := Option.some.inj (hg.symm.trans hg')
  obtain rfl := Option.some.inj (hty.symm.trans ht')
  obtain ⟨h1, h2, h3⟩ := array_each (n := 15) (c := 3) (e := 118) Tryz.underlying127 (by kernel_rfl) (by kernel_rfl) hd
  have c3 : Tryz.prog.cellsOf 3 = 1 := by kernel_rfl
  have c9 : Tryz.prog.cellsOf 9 = 1 := by kernel_rfl
  have key : ∀ i x, Wt.opsT[i]? = some x → cs.toList[i * 3]? = some (.int .i64 x.1) ∧ cs.toList[i * 3 + 1]? = some (.string ⟨x.2.1.toArray⟩) ∧ cs.toList[i * 3 + 2]? = some (.int .i64 x.2.2) := by
    intro i x hx
    obtain ⟨fu, p', ht⟩ := h3 i _ (by rw [List.getElem?_map, hx]; rfl)
    obtain ⟨y0, y1, y2, n, e, -, t0, t1, t2⟩ := Deep.trod_struct3 Tryz.underlying118 ht
    simp only [Prod.mk.injEq, DataW.agg.injEq, List.cons.injEq, and_true] at e
    obtain ⟨z0, f0, g0, _⟩ := DataW.trod_int Tryz.underlying3 t0
    obtain ⟨z1, f1, g1, _⟩ := DataW.trod_string Tryz.underlying9 t1
    obtain ⟨z2, f2, g2, _⟩ := DataW.trod_int Tryz.underlying3 t2
    subst g0 g1 g2
    simp only [DataW.lit.injEq, Lit.int.injEq, Lit.string.injEq, true_and] at e
    obtain ⟨⟨rfl, e1, rfl⟩, -⟩ := e
    simp only [c3] at f0 f2
    simp only [c9] at f1
    have q0 := congrArg (·[0]?) f0
    have q1 := congrArg (·[0]?) f1
    have q2 := congrArg (·[0]?) f2
    simp [List.getElem?_drop] at q0 q1 q2
    refine ⟨?_, ?_, ?_⟩
    · rw [Array.getElem?_toList]; exact q0
    · rw [Array.getElem?_toList, q1, ba_of e1.symm]
    · rw [Array.getElem?_toList]; exact q2
  intro j v hv
  rw [Nat.zero_add, World.var?_cell hg hvar j]
  have hj : j < 45 := by
    have := (List.getElem?_eq_some_iff.1 hv).1
    have e : opsR.length = 45 := rfl
    omega
  have hi : j / 3 < Wt.opsT.length := by show j / 3 < 15; omega
  obtain ⟨k0, k1, k2⟩ := key (j / 3) _ (List.getElem?_eq_getElem hi)
  have hf := flat3 (fun x : Int × List UInt8 × Int => ([.int .i64 x.1, .string ⟨x.2.1.toArray⟩, .int .i64 x.2.2] : List Value)) (fun _ => rfl) Wt.opsT (j / 3) hi
  have hm : j % 3 = 0 ∨ j % 3 = 1 ∨ j % 3 = 2 := by omega
  rcases hm with hm | hm | hm
  · have e : j = j / 3 * 3 + 0 := by omega
    have := hf 0 (by decide)
    rw [← e] at this
    rw [show opsR[j]? = _ from this] at hv
    rw [show j = j / 3 * 3 by omega, ← Array.getElem?_toList, k0]; exact hv
  · have e : j = j / 3 * 3 + 1 := by omega
    have := hf 1 (by decide)
    rw [← e] at this
    rw [show opsR[j]? = _ from this] at hv
    rw [e, ← Array.getElem?_toList, k1]; exact hv
  · have e : j = j / 3 * 3 + 2 := by omega
    have := hf 2 (by decide)
    rw [← e] at this
    rw [show opsR[j]? = _ from this] at hv
    rw [e, ← Array.getElem?_toList, k2]; exact hv
end Go.Proofs.YtalkiggclckcdaaGreatDoor
