/- TArgB, TSgB. -/
import Derived.Test.YthofehcchickeaaGreatDoorQ22
import Derived.WalkMore
import Derived.Deep.LoopGhost
namespace Go.Proofs.YthofehcchickeaaGreatDoor
abbrev z22n0 : Oper := { dst := some 11, op := .load 131 (.tmp 3), type := 131, pos := "parse.go:136", after := #[], guard := none }
abbrev z22n1 : Oper := { dst := some 12, op := .move (.tmp 0), type := 109, pos := "parse.go:136", after := #[], guard := none }
abbrev z22n2 : Oper := { dst := some 13, op := .call { callee := Callee.value (Operand.func 112), args := #[.tmp 12], argTypes := #[109] }, type := 78, pos := "parse.go:136", after := #[⟨1, .data⟩], guard := none }
open Go.RowKit Go.Shelf
set_option linter.unusedVariables false
theorem partInfo : (Tryz.prog.info? 78).map (fun i => (i.zero, i.size, i.bytes)) = some (some (.agg #[.int .i64 0, .int .i64 0, .int .i64 0, .int .i64 0, .string ⟨#[]⟩, .bool false, .int .i64 0, .int .i64 0, .string ⟨#[]⟩, .int .i64 0, .string ⟨#[]⟩, .int .i64 0, .int .i64 0, .bool false, .bool false, .string ⟨#[]⟩, .int .i64 0, .int .i64 0, .bool false, .bool false, .slice none 0 0]), 21, 200) := by kernel_rfl
def paa (sub : List Wlx.TV → PR) (en : Int) (ts : List Wlx.TV) : AR := match tk ts [41] with
  | some r => .inl (0, [], r)
  | none => match sub ts with
    | .inr e => .inr e
    | .inl (row, r) => argl sub en (r.length + 1) 1 row r
theorem pt_new (w : World) (x : Wt.Nd) (sl : Value) (j : Nat) (u : Value) (hu : (pt21 x sl)[j]? = some u) : (w.alloc (.cells (pt21 x sl).toArray 78)).cell? ((⟨w.heap.size, 0, none⟩ : Addr).add j) = some u := by
  have hadd : (⟨w.heap.size, 0, none⟩ : Addr).add j = ⟨w.heap.size, 0 + j, none⟩ := by unfold Addr.add; split <;> simp_all
  rw [hadd]
  exact (AtL.new0 w 78 (pt21 x sl)).range j u hu
theorem pt_one (x : Wt.Nd) (sl : Value) (h : sl.oneCell' = true) (u : Value) (hu : u ∈ pt21 x sl) : u.oneCell' = true := by
  have := one21 x sl h
  simp only [List.all_toArray, List.all_eq_true] at this
  exact this u hu
theorem own_form {w : World} {base n m : Nat} {v : Value} {xs : List Value} (h : w.ownsRow base 78 21 v (n + 1) xs) : ∃ g cap, v = .slice (some ⟨g, 0, none⟩) (n + 1) cap ∧ base ≤ g ∧ g < w.heap.size := by
  rcases h.2 with ⟨_, h0⟩ | ⟨g, cap, cur, e, hg, hc, _⟩
  · omega
  · exact ⟨g, cap, e, hg, (Array.getElem?_eq_some_iff.1 hc).1⟩
set_option maxHeartbeats 16000000 in
set_option maxRecDepth 100000 in
theorem arguments_any (kp : Nat) (en : Int) (sub : List Wlx.TV → PR) (n : Nat) (HF : FormOk kp en sub n) (hsub : ∀ ts row r, sub ts = .inl (row, r) → r <:+ ts) (hk8 : 8 ≤ kp) : ArgOk kp en (paa sub en) n := by
  intro ts w h hn hts hok hE
  have hkp := h.lt
  have T1 := take_any kp ts en [41] w h hts
  unfold paa
  cases ht : tk ts [41] with
  | some r =>
    rw [ht] at T1
    simp only [APost] at T1 ⊢
    go_enter Tryz.func203, Tryz.ntmps203
    go_wp2_with fail
    refine T1.mono ?_
    rintro e w1 ⟨rfl, h1, hg1⟩
    go_wp2
    go_ret
    exact ⟨_, rfl, ⟨0, none, 0, [], [], rfl, rfl, rfl, rfl, fun i h => absurd h (Nat.not_lt_zero _)⟩, h1, hg1⟩
  | none =>
    rw [ht] at T1
    simp only at T1 ⊢
    cases hs : sub ts with
    | inr q =>
      obtain ⟨c, p⟩ := q
      simp only [APost]
      go_enter Tryz.func203, Tryz.ntmps203
      go_wp2_with fail
      refine T1.mono ?_
      rintro e w1 ⟨rfl, h1, hg1⟩
      go_wp2_with fail
      refine (HF ts w1 h1 hn hts hok (hE.grown hg1 hk8)).mono ?_
      rintro e w2 hc
      rw [hs] at hc
      simp only [PPost] at hc
      obtain ⟨rfl, hg⟩ := hc
      unfold stop
      go_wp2
      exact ⟨rfl, rfl, grown_trans hg1 hg⟩
    | inl q =>
      obtain ⟨row, r1⟩ := q
      have hsuf := hsub _ _ _ hs
      have hl1 := hsuf.length_le
      simp only
      obtain ⟨R, hR⟩ : ∃ R, argl sub en (r1.length + 1) 1 row r1 = R := ⟨_, rfl⟩
      rw [hR]
      obtain ⟨i0, hi, hz0, hz1, hz2⟩ := info_parts partInfo
      go_enter Tryz.func203, Tryz.ntmps203
      go_wp2_with fail
      refine T1.mono ?_
      rintro e w1 ⟨rfl, h1, hg1⟩
      go_wp2_with fail
      refine (HF ts w1 h1 hn hts hok (hE.grown hg1 hk8)).mono ?_
      rintro e w2 hc
      rw [hs] at hc
      simp only [PPost] at hc
      obtain ⟨v, rfl, hP, h2, hg2⟩ := hc
      have hE2 := (hE.grown hg1 hk8).grown hg2 hk8
      have hG2 := grown_trans hg1 hg2
      have hs1 := hg1.size
      have hs2 := hg2.size
      obtain ⟨nn, x, sl, rfl, hp⟩ := hP
      obtain ⟨av, len, cap, rfl⟩ := hp.one
      clear T1 h1 hg1 hg2 hE
      unfold ptV
      go_wp2_with ((with_reducible refine wpList_bs1 ?_ (.tmp 7) ?_ x av len cap ?_ ?_); rfl; rfl; rfl)
      have hb3 := ball (Below.refl _ w2) (.cells (pt21 x (.slice av len cap)).toArray 78)
      have O3 : Hid ((w2.alloc (.cells (pt21 x (.slice av len cap)).toArray 78)).ownsRow w.heap.size 78 21 (.slice (some ⟨w2.heap.size, 0, none⟩) 1 1) 1 (ptRow [(x, .slice av len cap)])) := by
        have := World.ownsRow_lit (base := w.heap.size) (e := 78) (size := 21) w2 (pt21 x (.slice av len cap)).toArray 1 (by omega) (by decide) rfl
        rw [ptRow_one]
        exact this
      have P3 : Hid (∀ i (h : i < [(x, Value.slice av len cap)].length) (h' : i < [row].length), PtIs (w2.alloc (.cells (pt21 x (.slice av len cap)).toArray 78)) (fun b => w.heap.size ≤ b ∧ b ≠ w2.heap.size) nn ([(x, Value.slice av len cap)][i]).1 ([(x, Value.slice av len cap)][i]).2 ([row][i])) := by
        intro i h h'
        obtain rfl : i = 0 := by simp at h; exact h
        exact PtIs.keep (fun k _ h2 => hb3.block k h2) nn (PtIs.inside (fun b hb hl => ⟨by have hb' : w1.heap.size ≤ b := hb; omega, by omega⟩) nn hp)
      have h3 := h2.below hb3
      have hE3 := hE2.below hb3
      have hG3 : Hid (w.grownBy (w2.alloc (.cells (pt21 x (.slice av len cap)).toArray 78)) (some kp)) := grown_trans hG2 (below_grown hb3 (some kp))
      have hg3 : kp < w2.heap.size := h2.lt
      have R3 : Hid (R = argl sub en (r1.length + 1) 1 [row].flatten r1) := by show _ = _; rw [← hR]; simp
      have hw3 : w.heap.size ≤ w2.heap.size := by omega
      clear h2 hE2 hG2 hb3 hp hR
      go_wp2_with fail
      go_loopg [3] (r1.length) (fun gk a wr => ∃ (g c cap nn : Nat) (ps : List (Wt.Nd × Value)) (rws : List (List Wt.Nd)) (us : List Wlx.TV), a = .slice (some ⟨g, 0, none⟩) c cap ∧ gk = us.length ∧ ps.length = c ∧ rws.length = c ∧ 1 ≤ c ∧ c ≤ 30 ∧ us.length ≤ r1.length ∧ kp < g ∧ w.heap.size ≤ g ∧ Hid (us <:+ r1) ∧ Hid (R = argl sub en (us.length + 1) c rws.flatten us) ∧ Hid (wr.ownsRow w.heap.size 78 21 (.slice (some ⟨g, 0, none⟩) c cap) c (ptRow ps)) ∧ Hid (∀ i (h : i < ps.length) (h' : i < rws.length), PtIs wr (fun b => w.heap.size ≤ b ∧ b ≠ g) nn (ps[i]).1 (ps[i]).2 (rws[i])) ∧ PSt wr kp us en ∧ Hid (w.grownBy wr (some kp)) ∧ Env wr)
      case atStart => exact ⟨w2.heap.size, 1, 1, nn, [(x, .slice av len cap)], [row], r1, rfl, rfl, rfl, rfl, by omega, by omega, Nat.le_refl _, hg3, hw3, (List.suffix_refl _ : r1 <:+ r1), R3, O3, P3, h3, hG3, hE3⟩
      case round =>
        clear O3 P3 h3 hE3 hG3 R3
        obtain ⟨g, c, cap', nn', ps, rws, us, rfl, hgk, hps, hrws, hc1, hc30, hle, hkg, hwg, hsu, ER, OW, PP, hS, hG, hEr⟩ := hrel
        have TC := take_any kp us en [41] wr hS (by omega)
        cases h41 : tk us [41] with
        | some r =>
          rw [h41] at TC
          simp only at TC
          have hR : Hid (R = .inl (c, rws.flatten, r)) := by
            have := ER.out
            simp only [argl, h41] at this
            exact this
          go_wp2_with fail
          refine TC.mono ?_
          rintro e w3 ⟨rfl, h4, hg4⟩
          go_wp2_with fail
          go_ret
          rw [hR.out]
          have OW4 := OW.out.kept hg4 (Or.inr (by intro e; have : g = kp := Option.some.inj e; omega))
          exact ⟨_, rfl, ⟨nn', some ⟨g, 0, none⟩, cap', ps, rws, rfl, hps, hrws, rfl, fun i h h' => ⟨g, rfl, hwg, own_parts OW4 hps.symm i h, PtIs.mono (fun b hb => hb.1) nn' (PtIs.keep (fun k hk h2 => hg4.block k h2 (by intro e; have := Option.some.inj e; have := hk.1; omega)) nn' (PP.out i h h'))⟩⟩, h4, grown_trans hG hg4⟩
        | none =>
          rw [h41] at TC
          simp only at TC
          have hsu1 := hsu.out
          have ha := ER.out
          simp only [argl, h41] at ha
          by_cases h30 : c = 30 ∧ isMk (hd us en) [44] = true
          · rw [if_pos h30] at ha
            have hR : Hid (R = .inr (3, pos us en)) := ha
            clear ha ER
            obtain ⟨h30c, hm⟩ := h30
            have hci : (c : Int) = 30 := by omega
            go_wp2_with fail
            refine TC.mono ?_
            rintro e w3 ⟨rfl, h4, hg4⟩
            go_wp2_with fail
            refine (next_any kp us en _ h4).mono ?_
            rintro e w4 ⟨rfl, hb4⟩
            go_wp2_with fail
            refine (isMark_any (hd us en) [44] _).mono ?_
            rintro e w5 ⟨rfl, hb5⟩
            rw [hm]
            have h5 := (h4.below hb4).below hb5
            have hg5 := grown_trans hg4 (grown_trans (below_grown hb4 (some kp)) (below_grown hb5 (some kp)))
            clear h4 hg4 hb4 hb5
            go_wp2_with fail
            refine (refuse_any kp us en 3 _ h5).mono ?_
            rintro e w6 ⟨rfl, hb6⟩
            unfold stop
            go_wp2_with fail
            rw [hR.out]
            exact ⟨rfl, rfl, grown_trans hG (grown_trans hg5 (below_grown hb6 (some kp)))⟩
          · rw [if_neg h30] at ha
            by_cases h3 : c = 30
            · have hm : isMk (hd us en) [44] = false := by
                cases hq : isMk (hd us en) [44] with
                | false => rfl
                | true => exact absurd ⟨h3, hq⟩ h30
              have h44 : tk us [44] = none := by
                cases us with
                | nil => rfl
                | cons t r =>
                  have hm' : isMk t [44] = false := hm
                  simp only [tk, hm']
                  rfl
              rw [h44] at ha
              have hR : Hid (R = .inr (50, pos us en)) := ha
              clear ha ER
              have hci : (c : Int) = 30 := by omega
              go_wp2_with fail
              refine TC.mono ?_
              rintro e w3 ⟨rfl, h4, hg4⟩
              go_wp2_with fail
              refine (next_any kp us en _ h4).mono ?_
              rintro e w4 ⟨rfl, hb4⟩
              go_wp2_with fail
              refine (isMark_any (hd us en) [44] _).mono ?_
              rintro e w5 ⟨rfl, hb5⟩
              rw [hm]
              have h5 := (h4.below hb4).below hb5
              have hg5 := grown_trans hg4 (grown_trans (below_grown hb4 (some kp)) (below_grown hb5 (some kp)))
              clear h4 hg4 hb4 hb5
              go_wp2_with fail
              refine (take_any kp us en [44] _ h5 (by omega)).mono ?_
              rintro e w6 hc
              rw [h44] at hc
              obtain ⟨rfl, h6, hg6⟩ := hc
              go_wp2_with fail
              refine (must_false kp us en _ h6).mono ?_
              rintro e w7 ⟨rfl, hb7⟩
              unfold stop
              go_wp2_with fail
              rw [hR.out]
              exact ⟨rfl, rfl, grown_trans hG (grown_trans hg5 (grown_trans hg6 (below_grown hb7 (some kp))))⟩
            · cases h44 : tk us [44] with
              | none =>
                rw [h44] at ha
                have hR : Hid (R = .inr (50, pos us en)) := ha
                clear ha ER
                have hci : ¬ (c : Int) = 30 := by omega
                go_wp2_with fail
                refine TC.mono ?_
                rintro e w5 ⟨rfl, h5, hg5⟩
                go_wp2_with fail
                refine (take_any kp us en [44] _ h5 (by omega)).mono ?_
                rintro e w6 hc
                rw [h44] at hc
                obtain ⟨rfl, h6, hg6⟩ := hc
                go_wp2_with fail
                refine (must_false kp us en _ h6).mono ?_
                rintro e w7 ⟨rfl, hb7⟩
                unfold stop
                go_wp2_with fail
                rw [hR.out]
                exact ⟨rfl, rfl, grown_trans hG (grown_trans hg5 (grown_trans hg6 (below_grown hb7 (some kp))))⟩
              | some r =>
                rw [h44] at ha
                simp only at ha
                obtain ⟨hsr, hlr⟩ := tk_suf h44
                have hokr : ∀ t ∈ r, TokOk t := fun t ht => hok t (((hsr.trans hsu1).trans hsuf).subset ht)
                cases hs7 : sub r with
                | inr q =>
                  obtain ⟨c7, p7⟩ := q
                  rw [hs7] at ha
                  have hR : Hid (R = .inr (c7, p7)) := ha
                  clear ha ER
                  have hci : ¬ (c : Int) = 30 := by omega
                  go_wp2_with fail
                  refine TC.mono ?_
                  rintro e w5 ⟨rfl, h5, hg5⟩
                  go_wp2_with fail
                  refine (take_any kp us en [44] _ h5 (by omega)).mono ?_
                  rintro e w6 hc
                  rw [h44] at hc
                  obtain ⟨rfl, h6, hg6⟩ := hc
                  go_wp2_with fail
                  refine (must_true kp _).mono ?_
                  rintro e w6b ⟨rfl, rfl⟩
                  have hG6 := grown_trans (grown_trans hG hg5) hg6
                  have hE6 := (hEr.grown hg5 hk8).grown hg6 hk8
                  go_wp2_with fail
                  refine (HF r _ h6 (by omega) (by omega) hokr hE6).mono ?_
                  rintro e w7 hc
                  rw [hs7] at hc
                  simp only [PPost] at hc
                  obtain ⟨rfl, hg7⟩ := hc
                  unfold stop
                  go_wp2_with fail
                  rw [hR.out]
                  exact ⟨rfl, rfl, grown_trans hG6 hg7⟩
                | inl q =>
                  obtain ⟨row2, r2⟩ := q
                  rw [hs7] at ha
                  simp only at ha
                  have hs72 := hsub _ _ _ hs7
                  have hl2 := hs72.length_le
                  have hR : Hid (R = argl sub en (r2.length + 1) (c + 1) (rws ++ [row2]).flatten r2) := by
                    show _ = _
                    rw [ha, argl_fuel hsub en us.length (r2.length + 1) _ _ _ (by omega) (by omega)]
                    simp
                  clear ha ER
                  have hci : ¬ (c : Int) = 30 := by omega
                  go_wp2_with fail
                  refine TC.mono ?_
                  rintro e w5 ⟨rfl, h5, hg5⟩
                  go_wp2_with fail
                  refine (take_any kp us en [44] _ h5 (by omega)).mono ?_
                  rintro e w6 hc
                  rw [h44] at hc
                  obtain ⟨rfl, h6, hg6⟩ := hc
                  go_wp2_with fail
                  refine (must_true kp _).mono ?_
                  rintro e w6b ⟨rfl, rfl⟩
                  have hG6 := grown_trans (grown_trans hG hg5) hg6
                  have hE6 := (hEr.grown hg5 hk8).grown hg6 hk8
                  go_wp2_with fail
                  refine (HF r _ h6 (by omega) (by omega) hokr hE6).mono ?_
                  rintro e w7 hc
                  rw [hs7] at hc
                  simp only [PPost] at hc
                  obtain ⟨v, rfl, hP, h7, hg7⟩ := hc
                  obtain ⟨n7, x7, sl7, rfl, hp⟩ := hP
                  obtain ⟨av7, len7, cap7, rfl⟩ := hp.one
                  have hG7 := grown_trans hG6 hg7
                  have hE7 := hE6.grown hg7 hk8
                  have gg := grown_trans hg5 (grown_trans hg6 hg7)
                  have hgs := (OW.out.lt g rfl).2
                  have OW7 := OW.out.kept gg (Or.inr (by intro e; have : g = kp := Option.some.inj e; omega))
                  have hsz := gg.size
                  have hs57 := hg7.size
                  have hs56 := (grown_trans hg5 hg6).size
                  unfold ptV
                  go_wp2_with (first | ((with_reducible refine wpList_bs1 ?_ (.tmp 28) ?_ x7 av7 len7 cap7 ?_ ?_); rfl; rfl; rfl) | (at_builtin; refine wpList_append_keep _ rfl _ _ 76 rfl w.heap.size 78 i0 (.agg #[.int .i64 0, .int .i64 0, .int .i64 0, .int .i64 0, .string ⟨#[]⟩, .bool false, .int .i64 0, .int .i64 0, .string ⟨#[]⟩, .int .i64 0, .string ⟨#[]⟩, .int .i64 0, .int .i64 0, .bool false, .bool false, .string ⟨#[]⟩, .int .i64 0, .int .i64 0, .bool false, .bool false, .slice none 0 0]) 21 200 Tryz.underlying76 hi hz0 hz1 hz2 rfl (by decide) _ _ _ rfl (OW7.alloc _) ⟨w7.heap.size, 0, none⟩ 1 1 (pt21 x7 (.slice av7 len7 cap7)) rfl rfl (pt_new _ _ _) (pt_one _ _ rfl) (by unfold maxLen; omega) (by omega) (by simp; omega) ?_))
                  intro vg w9 hown9 hgrow hat hkeep
                  have hb8 := ball (Below.refl _ w7) (.cells (pt21 x7 (.slice av7 len7 cap7)).toArray 78)
                  obtain ⟨g', cap9, rfl, hwg9, hlt9⟩ := own_form (m := 0) hown9
                  have hat9 : g' = g ∨ g' = w7.heap.size + 1 := by
                    rcases hat with h | h
                    · left; exact Option.some.inj h
                    · right; have := Option.some.inj h; simpa using this
                  have hkg9 : kp < g' := by rcases hat9 with h | h <;> omega
                  have OW9 : Hid (w9.ownsRow w.heap.size 78 21 (.slice (some ⟨g', 0, none⟩) (c + 1) cap9) (c + 1) (ptRow (ps ++ [(x7, .slice av7 len7 cap7)]))) := by
                    show World.ownsRow _ _ _ _ _ _ _
                    rw [ptRow_app, ptRow_one]
                    exact hown9
                  have K9 : ∀ {m : Nat} {x : Wt.Nd} {sl : Value} {row : List Wt.Nd}, PtIs w7 (fun b => w.heap.size ≤ b ∧ b ≠ g) m x sl row → PtIs w9 (fun b => w.heap.size ≤ b ∧ b ≠ g') m x sl row := fun {m} {_} {_} {_} hq =>
                    PtIs.mono (G := fun b => (w.heap.size ≤ b ∧ b ≠ g) ∧ b ≠ g') (fun b hb => ⟨hb.1.1, hb.2⟩) m (PtIs.keep (fun k hk h2 => hgrow.block k h2 (by intro e; have : k = g := Option.some.inj e; exact hk.1.2 this)) m (PtIs.keep (fun k _ h2 => hb8.block k h2) m (PtIs.inside (fun b hb hl => ⟨hb, by rcases hat9 with h | h; exact h ▸ hb.2; omega⟩) m hq)))
                  have PP9 : Hid (∀ i (h : i < (ps ++ [(x7, Value.slice av7 len7 cap7)]).length) (h' : i < (rws ++ [row2]).length), PtIs w9 (fun b => w.heap.size ≤ b ∧ b ≠ g') (max nn' n7) ((ps ++ [(x7, Value.slice av7 len7 cap7)])[i]).1 ((ps ++ [(x7, Value.slice av7 len7 cap7)])[i]).2 ((rws ++ [row2])[i])) := by
                    intro i h h'
                    by_cases hi9 : i < ps.length
                    · have hi8 : i < rws.length := by omega
                      rw [List.getElem_append_left hi9, List.getElem_append_left hi8]
                      exact K9 ((PtIs.keep (fun k hk h2 => gg.block k h2 (by intro e; have := Option.some.inj e; have := hk.1; omega)) nn' (PP.out i hi9 hi8)).upto (Nat.le_max_left _ _))
                    · have hi8 : i = ps.length := by simp at h; omega
                      have e1 : (ps ++ [(x7, Value.slice av7 len7 cap7)])[i] = (x7, Value.slice av7 len7 cap7) := by subst hi8; simp
                      have e2 : (rws ++ [row2])[i] = row2 := by
                        have : i = rws.length := by omega
                        subst this
                        simp
                      rw [e1, e2]
                      exact K9 ((PtIs.mono (fun b hb => ⟨by have hb' : w6.heap.size ≤ b := hb; omega, by have hb' : w6.heap.size ≤ b := hb; omega⟩) n7 hp).upto (Nat.le_max_right _ _))
                  have S9 := (h7.below hb8).row hgrow (fun b e => by have : g = b := Option.some.inj e; omega)
                  have G9 : Hid (w.grownBy w9 (some kp)) := grown_mix (grown_trans hG7 (below_grown hb8 (some kp))) hgrow (fun b e => by have : g = b := Option.some.inj e; omega)
                  have E9 := (hE7.below hb8).row hgrow (fun b e => by have : g = b := Option.some.inj e; omega)
                  have hsu9 : Hid (r2 <:+ r1) := (hs72.trans hsr).trans hsu1
                  clear hgrow hown9 hat hkeep hb8 OW7 K9 hp PP OW h7 hE7 hG7 h6 hg6 hE6 hG6 h5 hg5 hg7 gg hS hG hEr TC
                  go_wp2_with fail
                  go_roundg r2.length
                  case rel => exact ⟨g', c + 1, cap9, max nn' n7, ps ++ [(x7, .slice av7 len7 cap7)], rws ++ [row2], r2, rfl, rfl, by simp; omega, by simp; omega, by omega, by omega, by omega, hkg9, hwg9, hsu9, hR, OW9, PP9, S9, G9, E9⟩
                  case measure => omega
set_option maxHeartbeats 8000000 in
set_option maxRecDepth 100000 in
theorem signed_lt (kp : Nat) (en : Int) (sub5 sub6 : List Wlx.TV → PR) (n : Nat) (HS : ∀ m, m < n → FnOk kp en 112 sub5 m) (HP : FnOk kp en 140 sub6 n) (ts : List Wlx.TV) (w : World) (h : PSt w kp ts en) (hn : ts.length ≤ n) (hts : ts.length ≤ 1024) (hok : ∀ t ∈ ts, TokOk t) (hE : Env w) (hk8 : 8 ≤ kp) :
    Calls Tryz.prog 112 #[.pointer (some ⟨kp, 0, none⟩)] w fun e w' => PPost kp en (psg sub5 sub6 ts) w e w' := by
  have hB0 := ball (Below.refl _ w) (.cells #[.int .i64 0, .int .i64 0, .int .i64 0, .int .i64 0, .string ⟨#[]⟩, .bool false, .int .i64 0, .int .i64 0, .string ⟨#[]⟩, .int .i64 0, .string ⟨#[]⟩, .int .i64 0, .int .i64 0, .bool false, .bool false, .string ⟨#[]⟩, .int .i64 0, .int .i64 0, .bool false, .bool false, .slice none 0 0] 78)
  have pZ : AtL (w.alloc (.cells #[.int .i64 0, .int .i64 0, .int .i64 0, .int .i64 0, .string ⟨#[]⟩, .bool false, .int .i64 0, .int .i64 0, .string ⟨#[]⟩, .int .i64 0, .string ⟨#[]⟩, .int .i64 0, .int .i64 0, .bool false, .bool false, .string ⟨#[]⟩, .int .i64 0, .int .i64 0, .bool false, .bool false, .slice none 0 0] 78)) w.heap.size (pt21 (bare 0) (.slice none 0 0)) := AtL.new0 w _ _
  have h0 := h.below hB0
  have hE0 := hE.below hB0
  have hkp := h.lt
  have T1 := takeOp_any kp ts en 5 _ h0 hts hE0.1
  unfold psg
  cases ht : tkOp 5 ts with
  | none =>
    simp only
    cases hs : sub6 ts with
    | inr q =>
      obtain ⟨c, p⟩ := q
      simp only [PPost]
      go_enter Tryz.func112, Tryz.ntmps112
      go_wp2_with fail
      generalize w.alloc (.cells #[.int .i64 0, .int .i64 0, .int .i64 0, .int .i64 0, .string ⟨#[]⟩, .bool false, .int .i64 0, .int .i64 0, .string ⟨#[]⟩, .int .i64 0, .string ⟨#[]⟩, .int .i64 0, .int .i64 0, .bool false, .bool false, .string ⟨#[]⟩, .int .i64 0, .int .i64 0, .bool false, .bool false, .slice none 0 0] 78) = wa at *
      refine T1.mono ?_
      rintro e w1 hc
      rw [ht] at hc
      simp only [TkPost] at hc
      obtain ⟨rfl, h1, hg1⟩ := hc
      have pZ1 := pZ.grown hg1 (by intro e; have := Option.some.inj e; omega)
      have hG1 := grown_trans (below_grown hB0 (some kp)) hg1
      have hE1 := hE0.grown hg1 hk8
      clear pZ h0 hB0 hE0 T1 hg1
      have hb1 := ball (Below.refl _ w1) (.cells #[.int .i64 0, .string ⟨#[]⟩, .int .i64 0] 131)
      go_wp2_with fail
      refine (HP ts _ (h1.below hb1) hn hts hok (hE1.below hb1)).mono ?_
      rintro e w3 hc
      rw [hs] at hc
      simp only [PPost] at hc
      obtain ⟨rfl, hg⟩ := hc
      unfold stop
      go_wp2
      exact ⟨rfl, rfl, grown_trans (grown_trans hG1 (below_grown hb1 (some kp))) hg⟩
    | inl q =>
      obtain ⟨row, r2⟩ := q
      simp only [PPost]
      go_enter Tryz.func112, Tryz.ntmps112
      go_wp2_with fail
      generalize w.alloc (.cells #[.int .i64 0, .int .i64 0, .int .i64 0, .int .i64 0, .string ⟨#[]⟩, .bool false, .int .i64 0, .int .i64 0, .string ⟨#[]⟩, .int .i64 0, .string ⟨#[]⟩, .int .i64 0, .int .i64 0, .bool false, .bool false, .string ⟨#[]⟩, .int .i64 0, .int .i64 0, .bool false, .bool false, .slice none 0 0] 78) = wa at *
      refine T1.mono ?_
      rintro e w1 hc
      rw [ht] at hc
      simp only [TkPost] at hc
      obtain ⟨rfl, h1, hg1⟩ := hc
      have pZ1 := pZ.grown hg1 (by intro e; have := Option.some.inj e; omega)
      have hG1 := grown_trans (below_grown hB0 (some kp)) hg1
      have hE1 := hE0.grown hg1 hk8
      clear pZ h0 hB0 hE0 T1 hg1
      have hb1 := ball (Below.refl _ w1) (.cells #[.int .i64 0, .string ⟨#[]⟩, .int .i64 0] 131)
      have hz1 := pZ1.lt
      go_wp2_with fail
      refine (HP ts _ (h1.below hb1) hn hts hok (hE1.below hb1)).mono ?_
      rintro e w3 hc
      rw [hs] at hc
      simp only [PPost] at hc
      obtain ⟨v, rfl, hP, h3, hg⟩ := hc
      have pZ3 := (AtL.below hb1 pZ1).grown hg (by intro e; have := Option.some.inj e; omega)
      have hG3 := grown_trans (grown_trans hG1 (below_grown hb1 (some kp))) hg
      simp only [World.size_alloc] at hP
      obtain ⟨nn, x, sl, rfl, hp⟩ := hP
      obtain ⟨av, len, cap, rfl⟩ := hp.one
      have hth : World.there w3 w.heap.size 0 (pt21 x (.slice av len cap)).toArray.size := pZ3.there
      clear pZ1 hG1 hE1 h1 hg hb1
      unfold ptV
      go_wp2_with ((with_reducible refine wpList_store_mid ?_ 78 (.tmp 2) (.tmp 17) ?_ (w.heap.size) 0 (pt21 x (.slice av len cap)).toArray ?_ ?_ ?_ ?_ ?_ ?_); rfl; rfl; rfl; rfl; exact hth; kernel_rfl; exact one21 _ _ rfl)
      have pZ9 : AtL (w3.setCells w.heap.size 0 (pt21 x (.slice av len cap))) w.heap.size (pt21 x (.slice av len cap)) := pZ3.setAll rfl
      refine bodyPost_ret (results_cell rfl _ _ w.heap.size (pt21 x (.slice av len cap)) _ rfl pZ9.range Tryz.underlying78 rfl (by kernel_rfl)) rfl ?_
      exact ⟨_, rfl, (Pt.far (show Pt w3 _ (ptV x (.slice av len cap)) row from ⟨nn, x, _, rfl, hp⟩) (by omega) 0 _).mono (by omega), h3.farAll hkp _ 0, grown_setAll hG3 (Nat.le_refl _) _ 0⟩
  | some q =>
    obtain ⟨⟨o, m, t⟩, r⟩ := q
    obtain ⟨hsuf, hlt⟩ := tkOp_suf ht
    have hokr : ∀ t ∈ r, TokOk t := fun t h => hok t (hsuf.subset h)
    simp only
    cases hs : sub5 r with
    | inr q =>
      obtain ⟨c, p⟩ := q
      simp only [PPost]
      go_enter Tryz.func112, Tryz.ntmps112
      go_wp2_with fail
      generalize w.alloc (.cells #[.int .i64 0, .int .i64 0, .int .i64 0, .int .i64 0, .string ⟨#[]⟩, .bool false, .int .i64 0, .int .i64 0, .string ⟨#[]⟩, .int .i64 0, .string ⟨#[]⟩, .int .i64 0, .int .i64 0, .bool false, .bool false, .string ⟨#[]⟩, .int .i64 0, .int .i64 0, .bool false, .bool false, .slice none 0 0] 78) = wa at *
      refine T1.mono ?_
      rintro e w1 hc
      rw [ht] at hc
      simp only [TkPost] at hc
      obtain ⟨rfl, h1, hg1⟩ := hc
      have pZ1 := pZ.grown hg1 (by intro e; have := Option.some.inj e; omega)
      have hG1 := grown_trans (below_grown hB0 (some kp)) hg1
      have hE1 := hE0.grown hg1 hk8
      clear pZ h0 hB0 hE0 T1 hg1
      go_upto_region 3 with fail
      have hb1 := ball (Below.refl _ w1) (.cells #[.int .i64 o, .string ⟨m.toArray⟩, .int .i64 t] 131)
      have pO := AtL.new0 w1 131 [.int .i64 o, .string ⟨m.toArray⟩, .int .i64 t]
      have pZ2 := AtL.below hb1 pZ1
      have h2 := h1.below hb1
      have hE2 := hE1.below hb1
      have hG2 := grown_trans hG1 (below_grown hb1 (some kp))
      have hko : kp < w1.heap.size := h1.lt
      have hzo := pZ1.lt
      clear pZ1 h1 hE1 hG1 hb1
      generalize w1.alloc (.cells #[.int .i64 o, .string ⟨m.toArray⟩, .int .i64 t] 131) = w2 at *
      generalize w1.heap.size = ko at *
      refine wp_region_held_drew (S := OpS ko 0 o ⟨m.toArray⟩ t) (by kernel_rfl) (OpS_mk (AtL.drew pO)) (fun hHeld => ?_)
      refine wpAnyH_take (i := 0) (oi := z22n0) (v := ?_) rfl (by kernel_rfl) (by kernel_rfl) (by kernel_rfl) (fun _ _ _ h => h) (Or.inl ⟨by rfl, ?_⟩) (by assumption) ?_
      rotate_left; (intro w hSw; (try dsimp only at hSw); go_simp; (try with_reducible rfl)); try simp only [Act.put, lA, lZ, lS]
      refine wpAnyH_take (i := 1) (oi := z22n1) (v := ?_) rfl (by kernel_rfl) (by kernel_rfl) (by kernel_rfl) (fun _ _ _ h => h) (Or.inl ⟨by rfl, ?_⟩) (by assumption) ?_
      rotate_left; (intro w hSw; (try dsimp only at hSw); go_simp; (try with_reducible rfl)); try simp only [Act.put, lA, lZ, lS]
      refine wpAnyH_ready (rs := [2]) (by kernel_rfl) (by simp) ?_
      refine AllReadyH.cons (o := z22n2) rfl (fun K hK => ?_) AllReadyH.nil
      go_simp
      have hbd : Below w2.heap.size w2 w2.drew := (Below.refl _ _).drew
      refine (HS r.length (by omega) r w2.drew (h2.below hbd) (Nat.le_refl _) (by omega) hokr (hE2.below hbd)).mono ?_
      rintro e w3 hc
      rw [hs] at hc
      simp only [PPost] at hc
      obtain ⟨rfl, hg⟩ := hc
      unfold stop
      go_wp2
      exact ⟨rfl, rfl, grown_trans (grown_trans hG2 (below_grown hbd (some kp))) hg⟩
    | inl q =>
      obtain ⟨row, r2⟩ := q
      simp only [PPost]
      go_enter Tryz.func112, Tryz.ntmps112
      go_wp2_with fail
      generalize w.alloc (.cells #[.int .i64 0, .int .i64 0, .int .i64 0, .int .i64 0, .string ⟨#[]⟩, .bool false, .int .i64 0, .int .i64 0, .string ⟨#[]⟩, .int .i64 0, .string ⟨#[]⟩, .int .i64 0, .int .i64 0, .bool false, .bool false, .string ⟨#[]⟩, .int .i64 0, .int .i64 0, .bool false, .bool false, .slice none 0 0] 78) = wa at *
      refine T1.mono ?_
      rintro e w1 hc
      rw [ht] at hc
      simp only [TkPost] at hc
      obtain ⟨rfl, h1, hg1⟩ := hc
      have pZ1 := pZ.grown hg1 (by intro e; have := Option.some.inj e; omega)
      have hG1 := grown_trans (below_grown hB0 (some kp)) hg1
      have hE1 := hE0.grown hg1 hk8
      clear pZ h0 hB0 hE0 T1 hg1
      go_upto_region 3 with fail
      have hb1 := ball (Below.refl _ w1) (.cells #[.int .i64 o, .string ⟨m.toArray⟩, .int .i64 t] 131)
      have pO := AtL.new0 w1 131 [.int .i64 o, .string ⟨m.toArray⟩, .int .i64 t]
      have pZ2 := AtL.below hb1 pZ1
      have h2 := h1.below hb1
      have hE2 := hE1.below hb1
      have hG2 := grown_trans hG1 (below_grown hb1 (some kp))
      have hko : kp < w1.heap.size := h1.lt
      have hzo := pZ1.lt
      clear pZ1 h1 hE1 hG1 hb1
      generalize w1.alloc (.cells #[.int .i64 o, .string ⟨m.toArray⟩, .int .i64 t] 131) = w2 at *
      generalize w1.heap.size = ko at *
      refine wp_region_held_drew (S := OpS ko 0 o ⟨m.toArray⟩ t) (by kernel_rfl) (OpS_mk (AtL.drew pO)) (fun hHeld => ?_)
      refine wpAnyH_take (i := 0) (oi := z22n0) (v := ?_) rfl (by kernel_rfl) (by kernel_rfl) (by kernel_rfl) (fun _ _ _ h => h) (Or.inl ⟨by rfl, ?_⟩) (by assumption) ?_
      rotate_left; (intro w hSw; (try dsimp only at hSw); go_simp; (try with_reducible rfl)); try simp only [Act.put, lA, lZ, lS]
      refine wpAnyH_take (i := 1) (oi := z22n1) (v := ?_) rfl (by kernel_rfl) (by kernel_rfl) (by kernel_rfl) (fun _ _ _ h => h) (Or.inl ⟨by rfl, ?_⟩) (by assumption) ?_
      rotate_left; (intro w hSw; (try dsimp only at hSw); go_simp; (try with_reducible rfl)); try simp only [Act.put, lA, lZ, lS]
      refine wpAnyH_ready (rs := [2]) (by kernel_rfl) (by simp) ?_
      refine AllReadyH.cons (o := z22n2) rfl (fun K hK => ?_) AllReadyH.nil
      go_simp
      have hbd : Below w2.heap.size w2 w2.drew := (Below.refl _ _).drew
      refine (HS r.length (by omega) r w2.drew (h2.below hbd) (Nat.le_refl _) (by omega) hokr (hE2.below hbd)).mono ?_
      rintro e w3 hc
      rw [hs] at hc
      simp only [PPost] at hc
      obtain ⟨v, rfl, hP, h3, hg⟩ := hc
      have pZ3 := (AtL.below hbd pZ2).grown hg (by intro e; have := Option.some.inj e; omega)
      have pO3 := (AtL.below hbd pO).grown hg (by intro e; have := Option.some.inj e; omega)
      have hG3 := grown_trans (grown_trans hG2 (below_grown hbd (some kp))) hg
      have hw2 : w2.drew.heap.size = w2.heap.size := rfl
      have hz2 := pZ2.lt
      have ho2 := pO.lt
      obtain ⟨nn, x, sl, rfl, hp⟩ := hP
      obtain ⟨av, len, cap, rfl⟩ := hp.one
      have hp3 := PtIs.mono (G' := fun b => w.heap.size + 1 ≤ b) (fun b hb => by have hb' : w2.drew.heap.size ≤ b := hb; omega) nn hp
      clear hp hg hbd
      unfold ptV
      go_wp2_with fail
      refine hK.out _ _ (OpS_mk pO3) (fun hHeld => ?_)
      clear hK K
      try simp only [Act.put, lA, lZ, lS]
      refine wpAnyH_ready (rs := [3]) (by kernel_rfl) (by simp) ?_
      refine AllReadyH.cons (o := { dst := some 14, op := .buildSlice 76 1 #[(0, .tmp 13)], type := 76, pos := "parse.go:136", after := #[⟨2, .data⟩], guard := none }) rfl (fun K hK => ?_) AllReadyH.nil
      refine wp_bs1 (.tmp 13) rfl x av len cap rfl ?_
      have hb4 := ball (Below.refl _ w3) (.cells (pt21 x (.slice av len cap)).toArray 78)
      have pB4 := AtL.new0 w3 78 (pt21 x (.slice av len cap))
      have hlo : w.heap.size + 1 ≤ w3.heap.size := by have := pZ3.lt; omega
      have hp4 := PtIs.keep (fun k _ h2 => hb4.block k h2) nn hp3
      have hun := PtIs.un (G := fun b => w.heap.size + 1 ≤ b) (z := opN (opKd t) o) hp4 hlo pB4.range
      have h4 := h3.below hb4
      have pZ4 := AtL.below hb4 pZ3
      have pO4 := AtL.below hb4 pO3
      have hG4 := grown_trans hG3 (below_grown hb4 (some kp))
      refine hK.out _ _ (OpS_mk pO4) (fun hHeld => ?_)
      clear hK K pZ3 pO3 h3 hG3 hp3 hp4 pB4 hb4
      try simp only [Act.put, lA, lZ, lS]
      refine wpAnyH_ready (rs := [4]) (by kernel_rfl) (by simp) ?_
      refine AllReadyH.cons (o := { dst := some 15, op := .call { callee := Callee.value (Operand.func 114), args := #[.tmp 11, .tmp 14], argTypes := #[131, 76] }, type := 78, pos := "parse.go:136", after := #[⟨0, .data⟩, ⟨3, .data⟩, ⟨2, .chain⟩], guard := none }) rfl (fun K hK => ?_) AllReadyH.nil
      go_simp
      refine (operation_any o ⟨m.toArray⟩ t (some ⟨w3.heap.size, 0, none⟩) 1 1 _).mono ?_
      rintro e w5 ⟨rfl, hb⟩
      have h5 := h4.below hb
      have pZ5 := AtL.below hb pZ4
      have pO5 := AtL.below hb pO4
      have hG5 := grown_trans hG4 (below_grown hb (some kp))
      have hun5 := PtIs.keep (fun k _ h2 => hb.block k h2) _ hun
      clear h4 pZ4 pO4 hG4 hun hb
      go_wp2_with fail
      refine hK.out _ _ (OpS_mk pO5) (fun hHeld => ?_)
      clear hK K
      try simp only [Act.put, lA, lZ, lS]
      refine wpAnyH_ready (rs := [5]) (by kernel_rfl) (by simp) ?_
      refine AllReadyH.cons (o := { dst := none, op := .store 78 (.tmp 2) (.tmp 15), type := 0, pos := "parse.go:136", after := #[⟨4, .data⟩, ⟨4, .chain⟩, ⟨0, .phase⟩, ⟨1, .phase⟩, ⟨2, .phase⟩, ⟨3, .phase⟩, ⟨4, .phase⟩], guard := none }) rfl (fun K hK => ?_) AllReadyH.nil
      unfold ptV
      refine wp_store_mid 78 (.tmp 2) (.tmp 15) rfl w.heap.size 0 (pt21 (opN (opKd t) o) (.slice (some ⟨w3.heap.size, 0, none⟩) 1 1)).toArray rfl rfl pZ5.there (by kernel_rfl) (one21 _ _ rfl) ?_
      have hne : w.heap.size ≠ ko := by omega
      have pZ6 : AtL (w5.setCells w.heap.size 0 (pt21 (opN (opKd t) o) (.slice (some ⟨w3.heap.size, 0, none⟩) 1 1))) w.heap.size (pt21 (opN (opKd t) o) (.slice (some ⟨w3.heap.size, 0, none⟩) 1 1)) := pZ5.setAll rfl
      refine hK.out _ _ (OpS_mk (pO5.farAll hne 0 _)) (fun hHeld => ?_)
      clear hK K
      try simp only [Act.put]
      refine wpAnyH_done (by kernel_rfl) ?_ _
      go_wp2_with fail
      refine bodyPost_ret (results_cell rfl _ _ w.heap.size (pt21 (opN (opKd t) o) (.slice (some ⟨w3.heap.size, 0, none⟩) 1 1)) _ rfl pZ6.range Tryz.underlying78 rfl (by kernel_rfl)) rfl ?_
      exact ⟨_, rfl, (Pt.far (show Pt w5 (w.heap.size + 1) (ptV (opN (opKd t) o) _) _ from ⟨_, _, _, rfl, hun5⟩) (Nat.lt_succ_self _) 0 _).mono (Nat.le_succ _), h5.farAll hkp _ 0, grown_setAll hG5 (Nat.le_refl _) _ 0⟩
end Go.Proofs.YthofehcchickeaaGreatDoor
