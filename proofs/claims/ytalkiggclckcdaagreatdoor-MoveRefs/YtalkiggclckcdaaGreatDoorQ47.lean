/- MLawRefs. -/
import Derived.Test.YtalkiggclckcdaaGreatDoorQ46
import Derived.Deep.MidRow
import Derived.Deep.RegionHeld3
namespace Go.Proofs.YtalkiggclckcdaaGreatDoor
open Go.RowKit Go.Shelf
set_option linter.unusedVariables false
theorem rng_below {W W' : World} (hb : Below W.heap.size W W') {b o : Nat} {cs : List Value} (h : W.rangeAt b o cs) : W'.rangeAt b o cs := fun j v hv => cell_below hb (h j v hv)
abbrev RfS (k13 k14 b1 b2 o1 o2 i : Nat) (q p : Wt.Nd) (kq : Int) (W : World) : Prop := W.rangeAt k13 0 (rf5 q.a) ∧ W.rangeAt k14 0 (rf5 p.a) ∧ W.cell? ⟨b2, o2 + i * 20, none⟩ = some (.int .i64 kq) ∧ W.rangeAt b2 (o2 + i * 20 + 15) (rf5 q.b) ∧ W.rangeAt b1 (o1 + i * 20 + 15) (rf5 p.b)
theorem RfS.below {k13 k14 b1 b2 o1 o2 i : Nat} {q p : Wt.Nd} {kq : Int} {W W' : World} (h : RfS k13 k14 b1 b2 o1 o2 i q p kq W) (hb : Below W.heap.size W W') : RfS k13 k14 b1 b2 o1 o2 i q p kq W' :=
  ⟨rng_below hb h.1, rng_below hb h.2.1, cell_below hb h.2.2.1, rng_below hb h.2.2.2.1, rng_below hb h.2.2.2.2⟩
theorem rng_a {W : World} {b o : Nat} {x : Wt.Nd} (h : W.rangeAt b o (nd20 x)) : W.rangeAt b (o + 10) (rf5 x.a) := fun j v hv => by
  have := h (10 + j) v (by
    match j, hv with
    | 0, hv => exact hv
    | 1, hv => exact hv
    | 2, hv => exact hv
    | 3, hv => exact hv
    | 4, hv => exact hv
    | j + 5, hv => simp [rf5] at hv)
  rw [Nat.add_assoc]; exact this
theorem rng_b {W : World} {b o : Nat} {x : Wt.Nd} (h : W.rangeAt b o (nd20 x)) : W.rangeAt b (o + 15) (rf5 x.b) := fun j v hv => by
  have := h (15 + j) v (by
    match j, hv with
    | 0, hv => exact hv
    | 1, hv => exact hv
    | 2, hv => exact hv
    | 3, hv => exact hv
    | 4, hv => exact hv
    | j + 5, hv => simp [rf5] at hv)
  rw [Nat.add_assoc]; exact this
theorem kept_2 {x y : Int} {n : Wt.Nd} (h : (mvN x y n).k = n.k) (h2 : n.k = 2) : okR x y n.a = true ∧ (mvN x y n).a = mvR x y n.a := by
  cases hq : okR x y n.a with
  | true => exact ⟨rfl, by unfold mvN; rw [if_pos h2, if_pos hq]⟩
  | false =>
    unfold mvN at h
    rw [if_pos h2, hq] at h
    simp [lostN] at h
    omega
theorem kept_3 {x y : Int} {n : Wt.Nd} (h : (mvN x y n).k = n.k) (h3 : n.k = 3) : (okR x y n.a = true ∧ (mvN x y n).a = mvR x y n.a) ∧ okR x y n.b = true ∧ (mvN x y n).b = mvR x y n.b := by
  have h2 : ¬ n.k = 2 := by omega
  cases hq : (okR x y n.a && okR x y n.b) with
  | true =>
    have hq' := hq
    rw [Bool.and_eq_true] at hq'
    have e : mvN x y n = ⟨n.k, n.v, n.op, n.nm, n.ar, mvR x y n.a, mvR x y n.b⟩ := by unfold mvN; rw [if_neg h2, if_pos h3, if_pos hq]
    rw [e]
    exact ⟨⟨hq'.1, rfl⟩, hq'.2, rfl⟩
  | false =>
    unfold mvN at h
    rw [if_neg h2, if_pos h3, hq] at h
    simp [lostN] at h
    omega
theorem lostEq (w : World) : (binOp .neq 37 (.agg (nd20 lostN).toArray) (.agg #[.int .i64 1, .int .i64 4, .int .i64 0, .int .i64 0, .string ⟨#[]⟩, .bool false, .int .i64 3, .int .i64 0, .string ⟨#[]⟩, .int .i64 0, .string ⟨#[]⟩, .int .i64 0, .int .i64 0, .bool false, .bool false, .string ⟨#[]⟩, .int .i64 0, .int .i64 0, .bool false, .bool false])).run Tryz.prog w = .ok (.bool false) w := by kernel_rfl
set_option maxRecDepth 100000 in
set_option maxHeartbeats 16000000 in
theorem mrefs_main (b : ByteArray) (x y : Int) (w : World) (hE : Env w) (hk8 : 8 ≤ w.heap.size) (hs : b.size ≤ 9223372036854775807) (hx : -9223372036854775808 ≤ x ∧ x ≤ 9223372036854775807) (hy : -9223372036854775808 ≤ y ∧ y ≤ 9223372036854775807) :
    Calls Tryz.prog 5 #[.string b, .int .i64 x, .int .i64 y] w fun e w' => e = .returned (.bool true) ∧ Below w.heap.size w w' := by
  have A := mable_any w hE hk8
  have S := fun w hE hk8 => parse_any b w hE hs hk8
  cases hr : prsR b.data.toList with
  | inr q =>
    obtain ⟨c0, p⟩ := q
    rw [hr] at S
    simp only [PaPost] at S
    have hc := prsR_code hr
    have hci : (c0 != 0) = true := by simp [hc]
    clear hr hs
    go_enter Tryz.func5, Tryz.ntmps5
    go_wp2_with fail
    refine A.mono ?_
    rintro e w1 ⟨rfl, hb1⟩
    go_wp2_with fail
    refine (S w1 (hE.below hb1) (Nat.le_trans hk8 hb1.size)).mono ?_
    rintro e w2 ⟨rfl, hb2⟩
    have hB2 := below_end hb1 hb2
    go_wp2
    go_ret
    exact ⟨rfl, hB2⟩
  | inl l =>
    rw [hr] at S
    simp only [PaPost] at S
    obtain ⟨hf, hc⟩ := prsR_row hr
    obtain ⟨h256, d0, hone, -⟩ := check_zero hc
    have hpos : 0 < l.length := by have := one_loc _ _ _ _ hone; omega
    have H256 : True → l.length ≤ 256 := fun _ => h256
    have HF : Hid (∀ n ∈ l, Wt.FitN n) := hf
    have HC : Hid (Wt.check l = 0) := hc
    have HA : Hid (∀ n ∈ l, Wt.right n = true) := check_all hc
    clear hr hone h256 hf hc hs
    go_enter Tryz.func5, Tryz.ntmps5
    go_wp2_with fail
    refine A.mono ?_
    rintro e w1 ⟨rfl, hb1⟩
    go_wp2_with fail
    refine (S w1 (hE.below hb1) (Nat.le_trans hk8 hb1.size)).mono ?_
    rintro e w2 ⟨⟨v, rfl, hown⟩, hb2⟩
    have hB2 := below_end hb1 hb2
    obtain ⟨av, cap, rfl, hrd⟩ := hown.form
    clear A S hown hb1 hb2
    go_wp2_with (at_builtin; refine wpList_copyN (by rfl) (.tmp 26) (.tmp 27) (by rfl) w2 (by rfl) av (l) cap (by rfl) hrd (fun h => by obtain ⟨_, _, e, _⟩ := hrd 0 hpos; rw [h] at e; cases e) (fun _ => by have := H256 trivial; (try simp only [List.length_map]); omega) ?_)
    intro vc w3 ownc hb3
    obtain ⟨avc, capc, rfl, hrc⟩ := ownc.form
    have hB3 := below_end hB2 hb3
    have hr3 := hrd.below hb3
    have SH := mshift_ok avc capc l x y w3 HF.out (hE.below hB3).1 hrc HC.out
    clear ownc hb3 hrd hB2 hrc
    go_wp2_with fail
    refine SH.mono ?_
    rintro e w4 ⟨⟨v4, rfl, own4⟩, hb4⟩
    obtain ⟨av4, cap4, rfl, hr4⟩ := own4.form
    have hB4 := below_end hB3 hb4
    have hrl := hr3.below hb4
    have HPM : 0 < (l.map (mvN x y)).length := by rw [List.length_map]; exact hpos
    rw [List.length_map]
    clear SH own4 hb4 hB3 hr3
    go_wp2_with (at_builtin; refine wpList_copyM (by rfl) (.tmp 44) (.tmp 45) (by rfl) w4 (by rfl) av4 (l.map (mvN x y)) l.length (List.length_map _).symm cap4 (by rfl) hr4 (fun h => by obtain ⟨_, _, e, _⟩ := hr4 0 HPM; rw [h] at e; cases e) (fun _ => by have := H256 trivial; (try simp only [List.length_map]); omega) ?_)
    intro vd w5 ownd hb5
    obtain ⟨avd, capd, rfl, hrdd⟩ := ownd.form
    have hB5 := below_end hB4 hb5
    have CK := check_any avd capd (l.map (mvN x y)) w5 (by have := H256 trivial; rw [List.length_map]; omega) (fun n hn => by obtain ⟨m, hm, rfl⟩ := List.mem_map.1 hn; exact fit_mv (HF.out m hm) _ _) (hE.below hB5).1 hrdd
    rw [check_mv HC.out x y, List.length_map] at CK
    rw [List.length_map]
    have hr45 := hr4.below hb5
    have hrl5 := hrl.below hb5
    clear ownd hb5 hrdd hr4 hrl hB4
    go_wp2_with fail
    refine CK.mono ?_
    rintro e w6 ⟨rfl, hb6⟩
    have hB := below_end hB5 hb6
    have HM : Hid (RdN w6 av4 (l.map (mvN x y))) := hr45.below hb6
    have HL : Hid (RdN w6 av l) := hrl5.below hb6
    clear CK hb6 hB5 hr45 hrl5 HPM
    go_upto_region 10 with fail
    go_loopg [12] (l.length) (fun gk vv wr => ∃ i : Nat, vv = .int .i64 i ∧ gk = l.length - i ∧ i ≤ l.length ∧ Hid (Below w6.heap.size w6 wr))
    case atStart => exact ⟨0, rfl, rfl, Nat.zero_le _, Below.refl _ _⟩
    case round =>
      obtain ⟨i, rfl, hg, hi, HB⟩ := hrel
      by_cases hlt : i < l.length
      · have hli : (i : Int) < (l.length : Int) := by omega
        have hi0 : (0 : Int) ≤ (i : Int) := by omega
        have hwi : IntKind.i64.wrap ((i : Int) + 1) = (i : Int) + 1 := by rw [IntKind.wrap_i64]; have := H256 trivial; omega
        obtain ⟨b1, o1, e1, c1⟩ := HM.out.below HB.out i (by rw [List.length_map]; exact hlt)
        obtain ⟨b2', o2, e2, c2⟩ := HL.out.below HB.out i hlt
        subst e1 e2
        rw [List.getElem_map] at c1
        obtain ⟨q, hq⟩ : ∃ q, l[i] = q := ⟨_, rfl⟩
        rw [hq] at c1 c2
        clear hq
        replace c1 := rng_below (Below.refl _ wr).drew c1
        replace c2 := rng_below (Below.refl _ wr).drew c2
        have HBD := (HB.out).drew
        clear HB
        obtain ⟨p, hp⟩ : ∃ p, mvN x y q = p := ⟨_, rfl⟩
        have HP : Hid (mvN x y q = p) := hp
        rw [hp] at c1
        clear hp
        have kd1 : wr.drew.cell? ⟨b1, o1 + i * 20, none⟩ = some (.int .i64 p.k) := c1 0 _ rfl
        have kd2 : wr.drew.cell? ⟨b2', o2 + i * 20, none⟩ = some (.int .i64 q.k) := c2 0 _ rfl
        obtain ⟨z1, hz1⟩ : ∃ z, p.k = z := ⟨_, rfl⟩
        obtain ⟨z2, hz2⟩ : ∃ z, q.k = z := ⟨_, rfl⟩
        rw [hz1] at kd1
        rw [hz2] at kd2
        have HZ1 : Hid (p.k = z1) := hz1
        have HZ2 : Hid (q.k = z2) := hz2
        clear hz1 hz2
        go_upto_region 12 with fail
        go_region_held3 (fun W => W.cell? ⟨b2', o2 + i * 20, none⟩ = some (.int .i64 z2) ∧ W.cell? ⟨b1, o1 + i * 20, none⟩ = some (.int .i64 z1)) (with_reducible first | exact ⟨kd2, kd1⟩ | assumption) (fail)
        clear kd1
        generalize wr.drew = wr at *
        by_cases hzz : z2 = z1
        · have hne : (z2 != z1) = false := by simp [hzz]
          have hkk : Hid ((mvN x y q).k = q.k) := by show _ = _; rw [HP.out, HZ1.out, HZ2.out]; exact hzz.symm
          clear hzz
          have RA1 := rng_below (Below.refl _ wr).drew (rng_a c2)
          have RA2 := rng_below (Below.refl _ wr).drew (rng_a c1)
          have HBD2 := HBD.drew
          go_upto_region 15 with fail
          go_cut [13, 14] (fun v13 v14 wx => ∃ k13 k14, v13 = .pointer (some ⟨k13, 0, none⟩) ∧ v14 = .pointer (some ⟨k14, 0, none⟩) ∧ AtL wx k13 (rf5 q.a) ∧ AtL wx k14 (rf5 p.a) ∧ Below wr.heap.size wr wx)
          case first =>
            have HBD : Below wr.heap.size wr wr.drew := (Below.refl _ _).drew
            refine wp_region_held_drew (S := fun W => W.rangeAt b2' (o2 + i * 20 + 10) (rf5 q.a) ∧ W.rangeAt b1 (o1 + i * 20 + 10) (rf5 p.a)) (by kernel_rfl) ⟨RA1, RA2⟩ (fun hHeld => ?_)
            generalize wr.drew = WD at *
            refine wpAnyH_take (i := 0) (oi := { dst := some 74, op := .move (.tmp 7), type := 23, pos := "outright.go:91", after := #[], guard := none }) (v := ?_) rfl (by kernel_rfl) (by kernel_rfl) (by kernel_rfl) (fun _ _ _ h => h) (Or.inl ⟨by rfl, ?_⟩) (by assumption) ?_
            rotate_left; (intro w hSw; (try dsimp only at hSw); go_simp; (try with_reducible rfl)); try simp only [Act.put, lA, lZ, lS]
            refine wpAnyH_take (i := 1) (oi := { dst := some 75, op := .move (.tmp 12), type := 3, pos := "outright.go:91", after := #[], guard := none }) (v := ?_) rfl (by kernel_rfl) (by kernel_rfl) (by kernel_rfl) (fun _ _ _ h => h) (Or.inl ⟨by rfl, ?_⟩) (by assumption) ?_
            rotate_left; (intro w hSw; (try dsimp only at hSw); go_simp; (try with_reducible rfl)); try simp only [Act.put, lA, lZ, lS]
            refine wpAnyH_take (i := 2) (oi := { dst := some 76, op := .indexAddr 23 (.tmp 74) (.tmp 75), type := 0, pos := "outright.go:91", after := #[⟨0, .data⟩, ⟨1, .data⟩], guard := none }) (v := ?_) rfl (by kernel_rfl) (by kernel_rfl) (by kernel_rfl) (fun _ _ _ h => h) (Or.inl ⟨by rfl, ?_⟩) (by assumption) ?_
            rotate_left; (intro w hSw; (try dsimp only at hSw); go_simp; (try with_reducible rfl)); try simp only [Act.put, lA, lZ, lS]
            refine wpAnyH_take (i := 3) (oi := { dst := some 77, op := .fieldAddr 37 (.tmp 76) 5, type := 0, pos := "outright.go:91", after := #[⟨2, .data⟩], guard := none }) (v := ?_) rfl (by kernel_rfl) (by kernel_rfl) (by kernel_rfl) (fun _ _ _ h => h) (Or.inl ⟨by rfl, ?_⟩) (by assumption) ?_
            rotate_left; (intro w hSw; (try dsimp only at hSw); go_simp; (try with_reducible rfl)); try simp only [Act.put, lA, lZ, lS]
            refine wpAnyH_take (i := 4) (oi := { dst := some 78, op := .load 35 (.tmp 77), type := 35, pos := "outright.go:91", after := #[⟨3, .data⟩], guard := none }) (v := .agg (rf5 q.a).toArray) rfl (by kernel_rfl) (by kernel_rfl) (by kernel_rfl) (fun _ _ _ h => h) (yieldsIf_load_mid (by rfl) 35 (.tmp 77) rfl b2' (o2 + i * 20 + 10) rfl (rf5 q.a) _ (fun _ h => h.1) Tryz.underlying35 rfl (by kernel_rfl)) (by assumption) ?_
            try simp only [Act.put, lA, lZ, lS]
            refine wpAnyH_take (i := 5) (oi := { dst := some 79, op := .move (.tmp 10), type := 23, pos := "outright.go:91", after := #[⟨12, .gcOnly .lateStores⟩], guard := none }) (v := ?_) rfl (by kernel_rfl) (by kernel_rfl) (by kernel_rfl) (fun _ _ _ h => h) (Or.inl ⟨by rfl, ?_⟩) (by assumption) ?_
            rotate_left; (intro w hSw; (try dsimp only at hSw); go_simp; (try with_reducible rfl)); try simp only [Act.put, lA, lZ, lS]
            refine wpAnyH_take (i := 6) (oi := { dst := some 80, op := .move (.tmp 12), type := 3, pos := "outright.go:91", after := #[⟨12, .gcOnly .lateStores⟩], guard := none }) (v := ?_) rfl (by kernel_rfl) (by kernel_rfl) (by kernel_rfl) (fun _ _ _ h => h) (Or.inl ⟨by rfl, ?_⟩) (by assumption) ?_
            rotate_left; (intro w hSw; (try dsimp only at hSw); go_simp; (try with_reducible rfl)); try simp only [Act.put, lA, lZ, lS]
            refine wpAnyH_take (i := 7) (oi := { dst := some 81, op := .indexAddr 23 (.tmp 79) (.tmp 80), type := 0, pos := "outright.go:91", after := #[⟨5, .data⟩, ⟨6, .data⟩, ⟨12, .gcOnly .lateStores⟩], guard := none }) (v := ?_) rfl (by kernel_rfl) (by kernel_rfl) (by kernel_rfl) (fun _ _ _ h => h) (Or.inl ⟨by rfl, ?_⟩) (by assumption) ?_
            rotate_left; (intro w hSw; (try dsimp only at hSw); go_simp; (try with_reducible rfl)); try simp only [Act.put, lA, lZ, lS]
            refine wpAnyH_take (i := 8) (oi := { dst := some 82, op := .fieldAddr 37 (.tmp 81) 5, type := 0, pos := "outright.go:91", after := #[⟨7, .data⟩, ⟨12, .gcOnly .lateStores⟩], guard := none }) (v := ?_) rfl (by kernel_rfl) (by kernel_rfl) (by kernel_rfl) (fun _ _ _ h => h) (Or.inl ⟨by rfl, ?_⟩) (by assumption) ?_
            rotate_left; (intro w hSw; (try dsimp only at hSw); go_simp; (try with_reducible rfl)); try simp only [Act.put, lA, lZ, lS]
            refine wpAnyH_take (i := 9) (oi := { dst := some 83, op := .load 35 (.tmp 82), type := 35, pos := "outright.go:91", after := #[⟨8, .data⟩, ⟨12, .gcOnly .lateStores⟩], guard := none }) (v := .agg (rf5 p.a).toArray) rfl (by kernel_rfl) (by kernel_rfl) (by kernel_rfl) (fun _ _ _ h => h) (yieldsIf_load_mid (by rfl) 35 (.tmp 82) rfl b1 (o1 + i * 20 + 10) rfl (rf5 p.a) _ (fun _ h => h.2) Tryz.underlying35 rfl (by kernel_rfl)) (by assumption) ?_
            try simp only [Act.put, lA, lZ, lS]
            refine wpAnyH_ready (rs := [10, 11]) (by kernel_rfl) (by simp) ?_
            refine AllReadyH.cons (o := { dst := some 13, op := .alloc 35, type := 0, pos := "outright.go:91", after := #[], guard := none }) rfl (fun K hK => ?_) (AllReadyH.cons (o := { dst := some 14, op := .alloc 35, type := 0, pos := "outright.go:91", after := #[], guard := none }) rfl (fun K hK => ?_) AllReadyH.nil)
            · have n0 := (AtL.new0 WD 35 [.string ⟨#[]⟩, .int .i64 0, .int .i64 0, .bool false, .bool false]).alloc (.cells #[.string ⟨#[]⟩, .int .i64 0, .int .i64 0, .bool false, .bool false] 35)
              have n1 := AtL.new1 WD (.cells #[.string ⟨#[]⟩, .int .i64 0, .int .i64 0, .bool false, .bool false] 35) 35 [.string ⟨#[]⟩, .int .i64 0, .int .i64 0, .bool false, .bool false]
              have bA := ball (Below.refl _ WD) (.cells #[.string ⟨#[]⟩, .int .i64 0, .int .i64 0, .bool false, .bool false] 35)
              have bB := ball bA (.cells #[.string ⟨#[]⟩, .int .i64 0, .int .i64 0, .bool false, .bool false] 35)
              have sA1 := rng_below bA RA1
              have sA2 := rng_below bA RA2
              have sB1 := rng_below bB RA1
              have sB2 := rng_below bB RA2
              go_simp
              refine hK.out _ _ ⟨sA1, sA2⟩ (fun hHeld => ?_)
              clear hK K
              try simp only [Act.put, lA, lZ, lS]
              refine wpAnyH_ready (rs := [11]) (by kernel_rfl) (by simp) ?_
              refine AllReadyH.cons (o := { dst := some 14, op := .alloc 35, type := 0, pos := "outright.go:91", after := #[], guard := none }) rfl (fun K hK => ?_) AllReadyH.nil
              go_simp
              refine hK.out _ _ ⟨sB1, sB2⟩ (fun hHeld => ?_)
              clear hK K
              try simp only [Act.put, lA, lZ, lS]
              generalize (WD.alloc (.cells #[.string ⟨#[]⟩, .int .i64 0, .int .i64 0, .bool false, .bool false] 35)).alloc (.cells #[.string ⟨#[]⟩, .int .i64 0, .int .i64 0, .bool false, .bool false] 35) = WB at *
              clear sA1 sA2 bA
              have m13 := n0.setAll (vs := rf5 q.a) rfl
              have m14 := n1.farAll (b := WD.heap.size) (by omega) 0 (rf5 q.a)
              have bC := bset bB (k := WD.heap.size) (by omega) (rf5 q.a) 0
              have sC1 := rng_below bC RA1
              have sC2 := rng_below bC RA2
              refine wpAnyH_ready (rs := [12]) (by kernel_rfl) (by simp) ?_
              refine AllReadyH.cons (o := { dst := none, op := .store 35 (.tmp 13) (.tmp 78), type := 0, pos := "outright.go:91", after := #[⟨10, .data⟩, ⟨4, .data⟩, ⟨0, .phase⟩, ⟨1, .phase⟩, ⟨2, .phase⟩, ⟨3, .phase⟩, ⟨4, .phase⟩, ⟨5, .textOnly .lateStores⟩, ⟨6, .textOnly .lateStores⟩, ⟨7, .textOnly .lateStores⟩, ⟨8, .textOnly .lateStores⟩, ⟨9, .textOnly .lateStores⟩, ⟨10, .phase⟩, ⟨11, .phase⟩], guard := none }) rfl (fun K hK => ?_) AllReadyH.nil
              refine wp_store_mid 35 (.tmp 13) (.tmp 78) rfl (WD.heap.size) 0 (rf5 q.a).toArray rfl rfl n0.there (by kernel_rfl) (one5 _) ?_
              generalize WB.setCells (WD.heap.size) 0 (rf5 q.a).toArray.toList = WC at *
              refine hK.out _ _ ⟨sC1, sC2⟩ (fun hHeld => ?_)
              clear hK K n0 n1 bB sB1 sB2
              try simp only [Act.put]
              have m15 := m14.setAll (vs := rf5 p.a) rfl
              have m16 := m13.farAll (b := WD.heap.size + 1) (by omega) 0 (rf5 p.a)
              have bD := bset bC (k := WD.heap.size + 1) (by omega) (rf5 p.a) 0
              have sD1 := rng_below bD RA1
              have sD2 := rng_below bD RA2
              refine wpAnyH_ready (rs := [13]) (by kernel_rfl) (by simp) ?_
              refine AllReadyH.cons (o := { dst := none, op := .store 35 (.tmp 14) (.tmp 83), type := 0, pos := "outright.go:91", after := #[⟨11, .data⟩, ⟨9, .data⟩, ⟨12, .chain⟩, ⟨0, .phase⟩, ⟨1, .phase⟩, ⟨2, .phase⟩, ⟨3, .phase⟩, ⟨4, .phase⟩, ⟨5, .phase⟩, ⟨6, .phase⟩, ⟨7, .phase⟩, ⟨8, .phase⟩, ⟨9, .phase⟩, ⟨10, .phase⟩, ⟨11, .phase⟩, ⟨12, .phase⟩], guard := none }) rfl (fun K hK => ?_) AllReadyH.nil
              refine wp_store_mid 35 (.tmp 14) (.tmp 83) rfl (WD.heap.size + 1) 0 (rf5 p.a).toArray rfl rfl m14.there (by kernel_rfl) (one5 _) ?_
              generalize WC.setCells (WD.heap.size + 1) 0 (rf5 p.a).toArray.toList = WT at *
              refine hK.out _ _ ⟨sD1, sD2⟩ (fun hHeld => ?_)
              clear hK K
              try simp only [Act.put]
              refine wpAnyH_done (by kernel_rfl) ?_ _
              go_wp2_with fail
              go_meet
              case rel => exact ⟨WD.heap.size, WD.heap.size + 1, rfl, rfl, m16, m15, below_end HBD bD⟩
            · have n0 := (AtL.new0 WD 35 [.string ⟨#[]⟩, .int .i64 0, .int .i64 0, .bool false, .bool false]).alloc (.cells #[.string ⟨#[]⟩, .int .i64 0, .int .i64 0, .bool false, .bool false] 35)
              have n1 := AtL.new1 WD (.cells #[.string ⟨#[]⟩, .int .i64 0, .int .i64 0, .bool false, .bool false] 35) 35 [.string ⟨#[]⟩, .int .i64 0, .int .i64 0, .bool false, .bool false]
              have bA := ball (Below.refl _ WD) (.cells #[.string ⟨#[]⟩, .int .i64 0, .int .i64 0, .bool false, .bool false] 35)
              have bB := ball bA (.cells #[.string ⟨#[]⟩, .int .i64 0, .int .i64 0, .bool false, .bool false] 35)
              have sA1 := rng_below bA RA1
              have sA2 := rng_below bA RA2
              have sB1 := rng_below bB RA1
              have sB2 := rng_below bB RA2
              go_simp
              refine hK.out _ _ ⟨sA1, sA2⟩ (fun hHeld => ?_)
              clear hK K
              try simp only [Act.put, lA, lZ, lS]
              refine wpAnyH_ready (rs := [10]) (by kernel_rfl) (by simp) ?_
              refine AllReadyH.cons (o := { dst := some 13, op := .alloc 35, type := 0, pos := "outright.go:91", after := #[], guard := none }) rfl (fun K hK => ?_) AllReadyH.nil
              go_simp
              refine hK.out _ _ ⟨sB1, sB2⟩ (fun hHeld => ?_)
              clear hK K
              try simp only [Act.put, lA, lZ, lS]
              generalize (WD.alloc (.cells #[.string ⟨#[]⟩, .int .i64 0, .int .i64 0, .bool false, .bool false] 35)).alloc (.cells #[.string ⟨#[]⟩, .int .i64 0, .int .i64 0, .bool false, .bool false] 35) = WB at *
              clear sA1 sA2 bA
              have m13 := n1.setAll (vs := rf5 q.a) rfl
              have m14 := n0.farAll (b := WD.heap.size + 1) (by omega) 0 (rf5 q.a)
              have bC := bset bB (k := WD.heap.size + 1) (by omega) (rf5 q.a) 0
              have sC1 := rng_below bC RA1
              have sC2 := rng_below bC RA2
              refine wpAnyH_ready (rs := [12]) (by kernel_rfl) (by simp) ?_
              refine AllReadyH.cons (o := { dst := none, op := .store 35 (.tmp 13) (.tmp 78), type := 0, pos := "outright.go:91", after := #[⟨10, .data⟩, ⟨4, .data⟩, ⟨0, .phase⟩, ⟨1, .phase⟩, ⟨2, .phase⟩, ⟨3, .phase⟩, ⟨4, .phase⟩, ⟨5, .textOnly .lateStores⟩, ⟨6, .textOnly .lateStores⟩, ⟨7, .textOnly .lateStores⟩, ⟨8, .textOnly .lateStores⟩, ⟨9, .textOnly .lateStores⟩, ⟨10, .phase⟩, ⟨11, .phase⟩], guard := none }) rfl (fun K hK => ?_) AllReadyH.nil
              refine wp_store_mid 35 (.tmp 13) (.tmp 78) rfl (WD.heap.size + 1) 0 (rf5 q.a).toArray rfl rfl n1.there (by kernel_rfl) (one5 _) ?_
              generalize WB.setCells (WD.heap.size + 1) 0 (rf5 q.a).toArray.toList = WC at *
              refine hK.out _ _ ⟨sC1, sC2⟩ (fun hHeld => ?_)
              clear hK K n1 n0 bB sB1 sB2
              try simp only [Act.put]
              have m15 := m14.setAll (vs := rf5 p.a) rfl
              have m16 := m13.farAll (b := WD.heap.size) (by omega) 0 (rf5 p.a)
              have bD := bset bC (k := WD.heap.size) (by omega) (rf5 p.a) 0
              have sD1 := rng_below bD RA1
              have sD2 := rng_below bD RA2
              refine wpAnyH_ready (rs := [13]) (by kernel_rfl) (by simp) ?_
              refine AllReadyH.cons (o := { dst := none, op := .store 35 (.tmp 14) (.tmp 83), type := 0, pos := "outright.go:91", after := #[⟨11, .data⟩, ⟨9, .data⟩, ⟨12, .chain⟩, ⟨0, .phase⟩, ⟨1, .phase⟩, ⟨2, .phase⟩, ⟨3, .phase⟩, ⟨4, .phase⟩, ⟨5, .phase⟩, ⟨6, .phase⟩, ⟨7, .phase⟩, ⟨8, .phase⟩, ⟨9, .phase⟩, ⟨10, .phase⟩, ⟨11, .phase⟩, ⟨12, .phase⟩], guard := none }) rfl (fun K hK => ?_) AllReadyH.nil
              refine wp_store_mid 35 (.tmp 14) (.tmp 83) rfl (WD.heap.size) 0 (rf5 p.a).toArray rfl rfl m14.there (by kernel_rfl) (one5 _) ?_
              generalize WC.setCells (WD.heap.size) 0 (rf5 p.a).toArray.toList = WT at *
              refine hK.out _ _ ⟨sD1, sD2⟩ (fun hHeld => ?_)
              clear hK K
              try simp only [Act.put]
              refine wpAnyH_done (by kernel_rfl) ?_ _
              go_wp2_with fail
              go_meet
              case rel => exact ⟨WD.heap.size + 1, WD.heap.size, rfl, rfl, m16, m15, below_end HBD bD⟩
          case rest =>
            obtain ⟨k13, k14, rfl, rfl, p13, p14, hbx⟩ := hcut
            have HBE := below_end HBD hbx
            have RS : ∀ kq, z2 = kq → RfS k13 k14 b1 b2' o1 o2 i q p kq wc := fun kq h => ⟨p13.range, p14.range, h ▸ cell_below hbx kd2, rng_below hbx (rng_b c2), rng_below hbx (rng_b c1)⟩
            have ke := cell_below hbx kd2
            generalize wc = WE at *
            clear RA1 RA2 HBD2 HBD hbx kd2 c1 c2
            by_cases h2 : z2 = 2
            · subst h2
              obtain ⟨ok1, ea⟩ := kept_2 hkk.out HZ2.out
              rw [HP.out] at ea
              have MVA := fun w => moved_any q.a x y hx hy ok1 w
              rw [← ea] at MVA
              replace RS := RS 2 rfl
              clear ok1 ea
              go_upto_region 17 with fail
              have RS0 : RfS k13 k14 b1 b2' o1 o2 i q p 2 WE.drew := RS.below (Below.refl _ WE).drew
              refine wp_region_held_drew (S := RfS k13 k14 b1 b2' o1 o2 i q p 2) (by kernel_rfl) RS0 (fun hHeld => ?_)
              have HBF := below_end HBE (Below.refl _ WE).drew
              generalize WE.drew = WF at *
              refine wpAnyH_take (i := 0) (oi := { dst := some 98, op := .load 35 (.tmp 13), type := 35, pos := "outright.go:93", after := #[], guard := none }) (v := .agg (rf5 q.a).toArray) rfl (by kernel_rfl) (by kernel_rfl) (by kernel_rfl) (fun _ _ _ h => h) (yieldsIf_load_mid (by rfl) 35 (.tmp 13) rfl k13 (0) rfl (rf5 q.a) _ (fun _ h => h.1) Tryz.underlying35 rfl (by kernel_rfl)) (by assumption) ?_
              try simp only [Act.put, lA, lZ, lS]
              refine wpAnyH_take (i := 1) (oi := { dst := some 99, op := .load 35 (.tmp 14), type := 35, pos := "outright.go:93", after := #[], guard := none }) (v := .agg (rf5 p.a).toArray) rfl (by kernel_rfl) (by kernel_rfl) (by kernel_rfl) (fun _ _ _ h => h) (yieldsIf_load_mid (by rfl) 35 (.tmp 14) rfl k14 (0) rfl (rf5 p.a) _ (fun _ h => h.2.1) Tryz.underlying35 rfl (by kernel_rfl)) (by assumption) ?_
              try simp only [Act.put, lA, lZ, lS]
              refine wpAnyH_take (i := 2) (oi := { dst := some 100, op := .move (.tmp 1), type := 3, pos := "outright.go:93", after := #[], guard := none }) (v := ?_) rfl (by kernel_rfl) (by kernel_rfl) (by kernel_rfl) (fun _ _ _ h => h) (Or.inl ⟨by rfl, ?_⟩) (by assumption) ?_
              rotate_left; (intro w hSw; (try dsimp only at hSw); go_simp; (try with_reducible rfl)); try simp only [Act.put, lA, lZ, lS]
              refine wpAnyH_take (i := 3) (oi := { dst := some 101, op := .move (.tmp 2), type := 3, pos := "outright.go:93", after := #[], guard := none }) (v := ?_) rfl (by kernel_rfl) (by kernel_rfl) (by kernel_rfl) (fun _ _ _ h => h) (Or.inl ⟨by rfl, ?_⟩) (by assumption) ?_
              rotate_left; (intro w hSw; (try dsimp only at hSw); go_simp; (try with_reducible rfl)); try simp only [Act.put, lA, lZ, lS]
              refine wpAnyH_ready (rs := [4]) (by kernel_rfl) (by simp) ?_
              refine AllReadyH.cons (o := { dst := some 102, op := .call { callee := Callee.value (Operand.func 13), args := #[.tmp 98, .tmp 99, .tmp 100, .tmp 101], argTypes := #[35, 35, 3, 3] }, type := 4, pos := "outright.go:93", after := #[⟨0, .data⟩, ⟨1, .data⟩, ⟨2, .data⟩, ⟨3, .data⟩], guard := none }) rfl (fun K hK => ?_) AllReadyH.nil
              go_simp
              refine (MVA WF).mono ?_
              rintro e wg ⟨rfl, hbg⟩
              have RS1 := RS0.below hbg
              have HBG := below_end HBF hbg
              clear RS0 HBF hbg
              go_wp2_with fail
              refine hK.out _ _ RS1 (fun hHeld => ?_)
              clear hK K
              try simp only [Act.put, lA, lZ, lS]
              refine wpAnyH_take (i := 5) (oi := { dst := some 103, op := .unOp UnOp.not 4 (.tmp 102), type := 4, pos := "outright.go:93", after := #[⟨4, .data⟩], guard := none }) (v := ?_) rfl (by kernel_rfl) (by kernel_rfl) (by kernel_rfl) (fun _ _ _ h => h) (Or.inl ⟨by rfl, ?_⟩) (by assumption) ?_
              rotate_left; (intro w hSw; (try dsimp only at hSw); go_simp; (try with_reducible rfl)); try simp only [Act.put, lA, lZ, lS]
              refine wpAnyH_take (i := 6) (oi := { dst := some 104, op := .move (.tmp 103), type := 4, pos := "outright.go:93", after := #[⟨5, .data⟩, ⟨4, .chain⟩], guard := none }) (v := ?_) rfl (by kernel_rfl) (by kernel_rfl) (by kernel_rfl) (fun _ _ _ h => h) (Or.inl ⟨by rfl, ?_⟩) (by assumption) ?_
              rotate_left; (intro w hSw; (try dsimp only at hSw); go_simp; (try with_reducible rfl)); try simp only [Act.put, lA, lZ, lS]
              refine wpAnyH_take (i := 7) (oi := { dst := some 105, op := .move (.tmp 7), type := 23, pos := "outright.go:93", after := #[⟨6, .guard⟩], guard := some (6, Bool.false) }) (v := ?_) rfl (by kernel_rfl) (by kernel_rfl) (by kernel_rfl) (fun _ _ _ h => h) (Or.inl ⟨by rfl, ?_⟩) (by assumption) ?_
              rotate_left; (intro w hSw; (try dsimp only at hSw); go_simp; (try with_reducible rfl)); try simp only [Act.put, lA, lZ, lS]
              refine wpAnyH_take (i := 8) (oi := { dst := some 106, op := .move (.tmp 12), type := 3, pos := "outright.go:93", after := #[⟨6, .guard⟩], guard := some (6, Bool.false) }) (v := ?_) rfl (by kernel_rfl) (by kernel_rfl) (by kernel_rfl) (fun _ _ _ h => h) (Or.inl ⟨by rfl, ?_⟩) (by assumption) ?_
              rotate_left; (intro w hSw; (try dsimp only at hSw); go_simp; (try with_reducible rfl)); try simp only [Act.put, lA, lZ, lS]
              refine wpAnyH_take (i := 9) (oi := { dst := some 107, op := .indexAddr 23 (.tmp 105) (.tmp 106), type := 0, pos := "outright.go:93", after := #[⟨7, .data⟩, ⟨8, .data⟩, ⟨6, .guard⟩], guard := some (6, Bool.false) }) (v := ?_) rfl (by kernel_rfl) (by kernel_rfl) (by kernel_rfl) (fun _ _ _ h => h) (Or.inl ⟨by rfl, ?_⟩) (by assumption) ?_
              rotate_left; (intro w hSw; (try dsimp only at hSw); go_simp; (try with_reducible rfl)); try simp only [Act.put, lA, lZ, lS]
              refine wpAnyH_take (i := 10) (oi := { dst := some 108, op := .fieldAddr 37 (.tmp 107) 0, type := 0, pos := "outright.go:93", after := #[⟨9, .data⟩, ⟨6, .guard⟩], guard := some (6, Bool.false) }) (v := ?_) rfl (by kernel_rfl) (by kernel_rfl) (by kernel_rfl) (fun _ _ _ h => h) (Or.inl ⟨by rfl, ?_⟩) (by assumption) ?_
              rotate_left; (intro w hSw; (try dsimp only at hSw); go_simp; (try with_reducible rfl)); try simp only [Act.put, lA, lZ, lS]
              refine wpAnyH_take (i := 11) (oi := { dst := some 109, op := .load 3 (.tmp 108), type := 3, pos := "outright.go:93", after := #[⟨10, .data⟩, ⟨6, .guard⟩], guard := some (6, Bool.false) }) (v := ?_) rfl (by kernel_rfl) (by kernel_rfl) (by kernel_rfl) (fun _ _ _ h => h) (Or.inl ⟨by rfl, ?_⟩) (by assumption) ?_
              rotate_left; (intro w hSw; (try dsimp only at hSw); go_simp; (try with_reducible rfl)); try simp only [Act.put, lA, lZ, lS]
              refine wpAnyH_take (i := 12) (oi := { dst := some 110, op := .binOp BinOp.eql 3 (.tmp 109) (Operand.const (Value.int IntKind.i64 3)) 3, type := 4, pos := "outright.go:93", after := #[⟨11, .data⟩, ⟨6, .guard⟩], guard := some (6, Bool.false) }) (v := ?_) rfl (by kernel_rfl) (by kernel_rfl) (by kernel_rfl) (fun _ _ _ h => h) (Or.inl ⟨by rfl, ?_⟩) (by assumption) ?_
              rotate_left; (intro w hSw; (try dsimp only at hSw); go_simp; (try with_reducible rfl)); try simp only [Act.put, lA, lZ, lS]
              refine wpAnyH_take (i := 13) (oi := { dst := some 111, op := .move (.tmp 110), type := 4, pos := "outright.go:93", after := #[⟨12, .data⟩, ⟨6, .chain⟩, ⟨6, .guard⟩], guard := some (6, Bool.false) }) (v := ?_) rfl (by kernel_rfl) (by kernel_rfl) (by kernel_rfl) (fun _ _ _ h => h) (Or.inl ⟨by rfl, ?_⟩) (by assumption) ?_
              rotate_left; (intro w hSw; (try dsimp only at hSw); go_simp; (try with_reducible rfl)); try simp only [Act.put, lA, lZ, lS]
              refine wpAnyH_take (i := 14) (oi := { dst := some 112, op := .move (.tmp 7), type := 23, pos := "outright.go:93", after := #[⟨13, .guard⟩], guard := some (13, Bool.true) }) (v := undef) rfl (by kernel_rfl) (by kernel_rfl) (by kernel_rfl) (fun _ _ _ h => h) (Or.inr ⟨by rfl, rfl⟩) (by assumption) ?_
              try simp only [Act.put, lA, lZ, lS]
              refine wpAnyH_take (i := 15) (oi := { dst := some 113, op := .move (.tmp 12), type := 3, pos := "outright.go:93", after := #[⟨13, .guard⟩], guard := some (13, Bool.true) }) (v := undef) rfl (by kernel_rfl) (by kernel_rfl) (by kernel_rfl) (fun _ _ _ h => h) (Or.inr ⟨by rfl, rfl⟩) (by assumption) ?_
              try simp only [Act.put, lA, lZ, lS]
              refine wpAnyH_take (i := 16) (oi := { dst := some 114, op := .indexAddr 23 (.tmp 112) (.tmp 113), type := 0, pos := "outright.go:93", after := #[⟨14, .data⟩, ⟨15, .data⟩, ⟨13, .guard⟩], guard := some (13, Bool.true) }) (v := undef) rfl (by kernel_rfl) (by kernel_rfl) (by kernel_rfl) (fun _ _ _ h => h) (Or.inr ⟨by rfl, rfl⟩) (by assumption) ?_
              try simp only [Act.put, lA, lZ, lS]
              refine wpAnyH_take (i := 17) (oi := { dst := some 115, op := .fieldAddr 37 (.tmp 114) 6, type := 0, pos := "outright.go:93", after := #[⟨16, .data⟩, ⟨13, .guard⟩], guard := some (13, Bool.true) }) (v := undef) rfl (by kernel_rfl) (by kernel_rfl) (by kernel_rfl) (fun _ _ _ h => h) (Or.inr ⟨by rfl, rfl⟩) (by assumption) ?_
              try simp only [Act.put, lA, lZ, lS]
              refine wpAnyH_take (i := 18) (oi := { dst := some 116, op := .load 35 (.tmp 115), type := 35, pos := "outright.go:93", after := #[⟨17, .data⟩, ⟨13, .guard⟩], guard := some (13, Bool.true) }) (v := undef) rfl (by kernel_rfl) (by kernel_rfl) (by kernel_rfl) (fun _ _ _ h => h) (Or.inr ⟨by rfl, rfl⟩) (by assumption) ?_
              try simp only [Act.put, lA, lZ, lS]
              refine wpAnyH_take (i := 19) (oi := { dst := some 117, op := .move (.tmp 10), type := 23, pos := "outright.go:93", after := #[⟨13, .guard⟩], guard := some (13, Bool.true) }) (v := undef) rfl (by kernel_rfl) (by kernel_rfl) (by kernel_rfl) (fun _ _ _ h => h) (Or.inr ⟨by rfl, rfl⟩) (by assumption) ?_
              try simp only [Act.put, lA, lZ, lS]
              refine wpAnyH_take (i := 20) (oi := { dst := some 118, op := .move (.tmp 12), type := 3, pos := "outright.go:93", after := #[⟨13, .guard⟩], guard := some (13, Bool.true) }) (v := undef) rfl (by kernel_rfl) (by kernel_rfl) (by kernel_rfl) (fun _ _ _ h => h) (Or.inr ⟨by rfl, rfl⟩) (by assumption) ?_
              try simp only [Act.put, lA, lZ, lS]
              refine wpAnyH_take (i := 21) (oi := { dst := some 119, op := .indexAddr 23 (.tmp 117) (.tmp 118), type := 0, pos := "outright.go:93", after := #[⟨19, .data⟩, ⟨20, .data⟩, ⟨13, .guard⟩], guard := some (13, Bool.true) }) (v := undef) rfl (by kernel_rfl) (by kernel_rfl) (by kernel_rfl) (fun _ _ _ h => h) (Or.inr ⟨by rfl, rfl⟩) (by assumption) ?_
              try simp only [Act.put, lA, lZ, lS]
              refine wpAnyH_take (i := 22) (oi := { dst := some 120, op := .fieldAddr 37 (.tmp 119) 6, type := 0, pos := "outright.go:93", after := #[⟨21, .data⟩, ⟨13, .guard⟩], guard := some (13, Bool.true) }) (v := undef) rfl (by kernel_rfl) (by kernel_rfl) (by kernel_rfl) (fun _ _ _ h => h) (Or.inr ⟨by rfl, rfl⟩) (by assumption) ?_
              try simp only [Act.put, lA, lZ, lS]
              refine wpAnyH_take (i := 23) (oi := { dst := some 121, op := .load 35 (.tmp 120), type := 35, pos := "outright.go:93", after := #[⟨22, .data⟩, ⟨13, .guard⟩], guard := some (13, Bool.true) }) (v := undef) rfl (by kernel_rfl) (by kernel_rfl) (by kernel_rfl) (fun _ _ _ h => h) (Or.inr ⟨by rfl, rfl⟩) (by assumption) ?_
              try simp only [Act.put, lA, lZ, lS]
              refine wpAnyH_take (i := 24) (oi := { dst := some 122, op := .move (.tmp 1), type := 3, pos := "outright.go:93", after := #[⟨13, .guard⟩], guard := some (13, Bool.true) }) (v := undef) rfl (by kernel_rfl) (by kernel_rfl) (by kernel_rfl) (fun _ _ _ h => h) (Or.inr ⟨by rfl, rfl⟩) (by assumption) ?_
              try simp only [Act.put, lA, lZ, lS]
              refine wpAnyH_take (i := 25) (oi := { dst := some 123, op := .move (.tmp 2), type := 3, pos := "outright.go:93", after := #[⟨13, .guard⟩], guard := some (13, Bool.true) }) (v := undef) rfl (by kernel_rfl) (by kernel_rfl) (by kernel_rfl) (fun _ _ _ h => h) (Or.inr ⟨by rfl, rfl⟩) (by assumption) ?_
              try simp only [Act.put, lA, lZ, lS]
              refine wpAnyH_take (i := 26) (oi := { dst := some 124, op := .call { callee := Callee.value (Operand.func 13), args := #[.tmp 116, .tmp 121, .tmp 122, .tmp 123], argTypes := #[35, 35, 3, 3] }, type := 4, pos := "outright.go:93", after := #[⟨18, .data⟩, ⟨23, .data⟩, ⟨24, .data⟩, ⟨25, .data⟩, ⟨13, .chain⟩, ⟨13, .guard⟩], guard := some (13, Bool.true) }) (v := undef) rfl (by kernel_rfl) (by kernel_rfl) (by kernel_rfl) (fun _ _ _ h => h) (Or.inr ⟨by rfl, rfl⟩) (by assumption) ?_
              try simp only [Act.put, lA, lZ, lS]
              refine wpAnyH_take (i := 27) (oi := { dst := some 125, op := .unOp UnOp.not 4 (.tmp 124), type := 4, pos := "outright.go:93", after := #[⟨26, .data⟩, ⟨13, .guard⟩], guard := some (13, Bool.true) }) (v := undef) rfl (by kernel_rfl) (by kernel_rfl) (by kernel_rfl) (fun _ _ _ h => h) (Or.inr ⟨by rfl, rfl⟩) (by assumption) ?_
              try simp only [Act.put, lA, lZ, lS]
              refine wpAnyH_take (i := 28) (oi := { dst := some 126, op := .pick (.tmp 111) (.tmp 125) (Operand.const (Value.bool Bool.false)), type := 4, pos := "outright.go:93", after := #[⟨13, .data⟩, ⟨27, .data⟩, ⟨6, .guard⟩], guard := some (6, Bool.false) }) (v := ?_) rfl (by kernel_rfl) (by kernel_rfl) (by kernel_rfl) (fun _ _ _ h => h) (Or.inl ⟨by rfl, ?_⟩) (by assumption) ?_
              rotate_left; (intro w hSw; (try dsimp only at hSw); go_simp; (try with_reducible rfl)); try simp only [Act.put, lA, lZ, lS]
              refine wpAnyH_take (i := 29) (oi := { dst := some 127, op := .pick (.tmp 104) (Operand.const (Value.bool Bool.true)) (.tmp 126), type := 4, pos := "outright.go:93", after := #[⟨6, .data⟩, ⟨28, .data⟩], guard := none }) (v := ?_) rfl (by kernel_rfl) (by kernel_rfl) (by kernel_rfl) (fun _ _ _ h => h) (Or.inl ⟨by rfl, ?_⟩) (by assumption) ?_
              rotate_left; (intro w hSw; (try dsimp only at hSw); go_simp; (try with_reducible rfl)); try simp only [Act.put, lA, lZ, lS]
              refine wpAnyH_done (by kernel_rfl) ?_ _
              have HBZ := HBG
              have HBN : Hid (Below w6.heap.size w6 wg) := HBZ
              clear hHeld HBZ HBG RS1 MVA p13 p14 RS ke
              go_wp2_with fail
              go_roundg (l.length - (i + 1))
              case rel => exact ⟨i + 1, by simp, rfl, by omega, HBN⟩
              case measure => omega
            by_cases h3 : z2 = 3
            · subst h3
              obtain ⟨⟨ok1, ea⟩, ok2, eb⟩ := kept_3 hkk.out HZ2.out
              rw [HP.out] at ea eb
              have MVA := fun w => moved_any q.a x y hx hy ok1 w
              have MVB := fun w => moved_any q.b x y hx hy ok2 w
              rw [← ea] at MVA
              rw [← eb] at MVB
              replace RS := RS 3 rfl
              clear ok1 ea ok2 eb
              go_upto_region 17 with fail
              have RS0 : RfS k13 k14 b1 b2' o1 o2 i q p 3 WE.drew := RS.below (Below.refl _ WE).drew
              refine wp_region_held_drew (S := RfS k13 k14 b1 b2' o1 o2 i q p 3) (by kernel_rfl) RS0 (fun hHeld => ?_)
              have HBF := below_end HBE (Below.refl _ WE).drew
              generalize WE.drew = WF at *
              refine wpAnyH_take (i := 0) (oi := { dst := some 98, op := .load 35 (.tmp 13), type := 35, pos := "outright.go:93", after := #[], guard := none }) (v := .agg (rf5 q.a).toArray) rfl (by kernel_rfl) (by kernel_rfl) (by kernel_rfl) (fun _ _ _ h => h) (yieldsIf_load_mid (by rfl) 35 (.tmp 13) rfl k13 (0) rfl (rf5 q.a) _ (fun _ h => h.1) Tryz.underlying35 rfl (by kernel_rfl)) (by assumption) ?_
              try simp only [Act.put, lA, lZ, lS]
              refine wpAnyH_take (i := 1) (oi := { dst := some 99, op := .load 35 (.tmp 14), type := 35, pos := "outright.go:93", after := #[], guard := none }) (v := .agg (rf5 p.a).toArray) rfl (by kernel_rfl) (by kernel_rfl) (by kernel_rfl) (fun _ _ _ h => h) (yieldsIf_load_mid (by rfl) 35 (.tmp 14) rfl k14 (0) rfl (rf5 p.a) _ (fun _ h => h.2.1) Tryz.underlying35 rfl (by kernel_rfl)) (by assumption) ?_
              try simp only [Act.put, lA, lZ, lS]
              refine wpAnyH_take (i := 2) (oi := { dst := some 100, op := .move (.tmp 1), type := 3, pos := "outright.go:93", after := #[], guard := none }) (v := ?_) rfl (by kernel_rfl) (by kernel_rfl) (by kernel_rfl) (fun _ _ _ h => h) (Or.inl ⟨by rfl, ?_⟩) (by assumption) ?_
              rotate_left; (intro w hSw; (try dsimp only at hSw); go_simp; (try with_reducible rfl)); try simp only [Act.put, lA, lZ, lS]
              refine wpAnyH_take (i := 3) (oi := { dst := some 101, op := .move (.tmp 2), type := 3, pos := "outright.go:93", after := #[], guard := none }) (v := ?_) rfl (by kernel_rfl) (by kernel_rfl) (by kernel_rfl) (fun _ _ _ h => h) (Or.inl ⟨by rfl, ?_⟩) (by assumption) ?_
              rotate_left; (intro w hSw; (try dsimp only at hSw); go_simp; (try with_reducible rfl)); try simp only [Act.put, lA, lZ, lS]
              refine wpAnyH_ready (rs := [4]) (by kernel_rfl) (by simp) ?_
              refine AllReadyH.cons (o := { dst := some 102, op := .call { callee := Callee.value (Operand.func 13), args := #[.tmp 98, .tmp 99, .tmp 100, .tmp 101], argTypes := #[35, 35, 3, 3] }, type := 4, pos := "outright.go:93", after := #[⟨0, .data⟩, ⟨1, .data⟩, ⟨2, .data⟩, ⟨3, .data⟩], guard := none }) rfl (fun K hK => ?_) AllReadyH.nil
              go_simp
              refine (MVA WF).mono ?_
              rintro e wg ⟨rfl, hbg⟩
              have RS1 := RS0.below hbg
              have HBG := below_end HBF hbg
              clear RS0 HBF hbg
              go_wp2_with fail
              refine hK.out _ _ RS1 (fun hHeld => ?_)
              clear hK K
              try simp only [Act.put, lA, lZ, lS]
              refine wpAnyH_take (i := 5) (oi := { dst := some 103, op := .unOp UnOp.not 4 (.tmp 102), type := 4, pos := "outright.go:93", after := #[⟨4, .data⟩], guard := none }) (v := ?_) rfl (by kernel_rfl) (by kernel_rfl) (by kernel_rfl) (fun _ _ _ h => h) (Or.inl ⟨by rfl, ?_⟩) (by assumption) ?_
              rotate_left; (intro w hSw; (try dsimp only at hSw); go_simp; (try with_reducible rfl)); try simp only [Act.put, lA, lZ, lS]
              refine wpAnyH_take (i := 6) (oi := { dst := some 104, op := .move (.tmp 103), type := 4, pos := "outright.go:93", after := #[⟨5, .data⟩, ⟨4, .chain⟩], guard := none }) (v := ?_) rfl (by kernel_rfl) (by kernel_rfl) (by kernel_rfl) (fun _ _ _ h => h) (Or.inl ⟨by rfl, ?_⟩) (by assumption) ?_
              rotate_left; (intro w hSw; (try dsimp only at hSw); go_simp; (try with_reducible rfl)); try simp only [Act.put, lA, lZ, lS]
              refine wpAnyH_take (i := 7) (oi := { dst := some 105, op := .move (.tmp 7), type := 23, pos := "outright.go:93", after := #[⟨6, .guard⟩], guard := some (6, Bool.false) }) (v := ?_) rfl (by kernel_rfl) (by kernel_rfl) (by kernel_rfl) (fun _ _ _ h => h) (Or.inl ⟨by rfl, ?_⟩) (by assumption) ?_
              rotate_left; (intro w hSw; (try dsimp only at hSw); go_simp; (try with_reducible rfl)); try simp only [Act.put, lA, lZ, lS]
              refine wpAnyH_take (i := 8) (oi := { dst := some 106, op := .move (.tmp 12), type := 3, pos := "outright.go:93", after := #[⟨6, .guard⟩], guard := some (6, Bool.false) }) (v := ?_) rfl (by kernel_rfl) (by kernel_rfl) (by kernel_rfl) (fun _ _ _ h => h) (Or.inl ⟨by rfl, ?_⟩) (by assumption) ?_
              rotate_left; (intro w hSw; (try dsimp only at hSw); go_simp; (try with_reducible rfl)); try simp only [Act.put, lA, lZ, lS]
              refine wpAnyH_take (i := 9) (oi := { dst := some 107, op := .indexAddr 23 (.tmp 105) (.tmp 106), type := 0, pos := "outright.go:93", after := #[⟨7, .data⟩, ⟨8, .data⟩, ⟨6, .guard⟩], guard := some (6, Bool.false) }) (v := ?_) rfl (by kernel_rfl) (by kernel_rfl) (by kernel_rfl) (fun _ _ _ h => h) (Or.inl ⟨by rfl, ?_⟩) (by assumption) ?_
              rotate_left; (intro w hSw; (try dsimp only at hSw); go_simp; (try with_reducible rfl)); try simp only [Act.put, lA, lZ, lS]
              refine wpAnyH_take (i := 10) (oi := { dst := some 108, op := .fieldAddr 37 (.tmp 107) 0, type := 0, pos := "outright.go:93", after := #[⟨9, .data⟩, ⟨6, .guard⟩], guard := some (6, Bool.false) }) (v := ?_) rfl (by kernel_rfl) (by kernel_rfl) (by kernel_rfl) (fun _ _ _ h => h) (Or.inl ⟨by rfl, ?_⟩) (by assumption) ?_
              rotate_left; (intro w hSw; (try dsimp only at hSw); go_simp; (try with_reducible rfl)); try simp only [Act.put, lA, lZ, lS]
              refine wpAnyH_take (i := 11) (oi := { dst := some 109, op := .load 3 (.tmp 108), type := 3, pos := "outright.go:93", after := #[⟨10, .data⟩, ⟨6, .guard⟩], guard := some (6, Bool.false) }) (v := ?_) rfl (by kernel_rfl) (by kernel_rfl) (by kernel_rfl) (fun _ _ _ h => h) (Or.inl ⟨by rfl, ?_⟩) (by assumption) ?_
              rotate_left; (intro w hSw; (try dsimp only at hSw); go_simp; (try with_reducible rfl)); try simp only [Act.put, lA, lZ, lS]
              refine wpAnyH_take (i := 12) (oi := { dst := some 110, op := .binOp BinOp.eql 3 (.tmp 109) (Operand.const (Value.int IntKind.i64 3)) 3, type := 4, pos := "outright.go:93", after := #[⟨11, .data⟩, ⟨6, .guard⟩], guard := some (6, Bool.false) }) (v := ?_) rfl (by kernel_rfl) (by kernel_rfl) (by kernel_rfl) (fun _ _ _ h => h) (Or.inl ⟨by rfl, ?_⟩) (by assumption) ?_
              rotate_left; (intro w hSw; (try dsimp only at hSw); go_simp; (try with_reducible rfl)); try simp only [Act.put, lA, lZ, lS]
              refine wpAnyH_take (i := 13) (oi := { dst := some 111, op := .move (.tmp 110), type := 4, pos := "outright.go:93", after := #[⟨12, .data⟩, ⟨6, .chain⟩, ⟨6, .guard⟩], guard := some (6, Bool.false) }) (v := ?_) rfl (by kernel_rfl) (by kernel_rfl) (by kernel_rfl) (fun _ _ _ h => h) (Or.inl ⟨by rfl, ?_⟩) (by assumption) ?_
              rotate_left; (intro w hSw; (try dsimp only at hSw); go_simp; (try with_reducible rfl)); try simp only [Act.put, lA, lZ, lS]
              refine wpAnyH_take (i := 14) (oi := { dst := some 112, op := .move (.tmp 7), type := 23, pos := "outright.go:93", after := #[⟨13, .guard⟩], guard := some (13, Bool.true) }) (v := ?_) rfl (by kernel_rfl) (by kernel_rfl) (by kernel_rfl) (fun _ _ _ h => h) (Or.inl ⟨by rfl, ?_⟩) (by assumption) ?_
              rotate_left; (intro w hSw; (try dsimp only at hSw); go_simp; (try with_reducible rfl)); try simp only [Act.put, lA, lZ, lS]
              refine wpAnyH_take (i := 15) (oi := { dst := some 113, op := .move (.tmp 12), type := 3, pos := "outright.go:93", after := #[⟨13, .guard⟩], guard := some (13, Bool.true) }) (v := ?_) rfl (by kernel_rfl) (by kernel_rfl) (by kernel_rfl) (fun _ _ _ h => h) (Or.inl ⟨by rfl, ?_⟩) (by assumption) ?_
              rotate_left; (intro w hSw; (try dsimp only at hSw); go_simp; (try with_reducible rfl)); try simp only [Act.put, lA, lZ, lS]
              refine wpAnyH_take (i := 16) (oi := { dst := some 114, op := .indexAddr 23 (.tmp 112) (.tmp 113), type := 0, pos := "outright.go:93", after := #[⟨14, .data⟩, ⟨15, .data⟩, ⟨13, .guard⟩], guard := some (13, Bool.true) }) (v := ?_) rfl (by kernel_rfl) (by kernel_rfl) (by kernel_rfl) (fun _ _ _ h => h) (Or.inl ⟨by rfl, ?_⟩) (by assumption) ?_
              rotate_left; (intro w hSw; (try dsimp only at hSw); go_simp; (try with_reducible rfl)); try simp only [Act.put, lA, lZ, lS]
              refine wpAnyH_take (i := 17) (oi := { dst := some 115, op := .fieldAddr 37 (.tmp 114) 6, type := 0, pos := "outright.go:93", after := #[⟨16, .data⟩, ⟨13, .guard⟩], guard := some (13, Bool.true) }) (v := ?_) rfl (by kernel_rfl) (by kernel_rfl) (by kernel_rfl) (fun _ _ _ h => h) (Or.inl ⟨by rfl, ?_⟩) (by assumption) ?_
              rotate_left; (intro w hSw; (try dsimp only at hSw); go_simp; (try with_reducible rfl)); try simp only [Act.put, lA, lZ, lS]
              refine wpAnyH_take (i := 18) (oi := { dst := some 116, op := .load 35 (.tmp 115), type := 35, pos := "outright.go:93", after := #[⟨17, .data⟩, ⟨13, .guard⟩], guard := some (13, Bool.true) }) (v := .agg (rf5 q.b).toArray) rfl (by kernel_rfl) (by kernel_rfl) (by kernel_rfl) (fun _ _ _ h => h) (yieldsIf_load_mid (by rfl) 35 (.tmp 115) rfl b2' (o2 + i * 20 + 15) rfl (rf5 q.b) _ (fun _ h => h.2.2.2.1) Tryz.underlying35 rfl (by kernel_rfl)) (by assumption) ?_
              try simp only [Act.put, lA, lZ, lS]
              refine wpAnyH_take (i := 19) (oi := { dst := some 117, op := .move (.tmp 10), type := 23, pos := "outright.go:93", after := #[⟨13, .guard⟩], guard := some (13, Bool.true) }) (v := ?_) rfl (by kernel_rfl) (by kernel_rfl) (by kernel_rfl) (fun _ _ _ h => h) (Or.inl ⟨by rfl, ?_⟩) (by assumption) ?_
              rotate_left; (intro w hSw; (try dsimp only at hSw); go_simp; (try with_reducible rfl)); try simp only [Act.put, lA, lZ, lS]
              refine wpAnyH_take (i := 20) (oi := { dst := some 118, op := .move (.tmp 12), type := 3, pos := "outright.go:93", after := #[⟨13, .guard⟩], guard := some (13, Bool.true) }) (v := ?_) rfl (by kernel_rfl) (by kernel_rfl) (by kernel_rfl) (fun _ _ _ h => h) (Or.inl ⟨by rfl, ?_⟩) (by assumption) ?_
              rotate_left; (intro w hSw; (try dsimp only at hSw); go_simp; (try with_reducible rfl)); try simp only [Act.put, lA, lZ, lS]
              refine wpAnyH_take (i := 21) (oi := { dst := some 119, op := .indexAddr 23 (.tmp 117) (.tmp 118), type := 0, pos := "outright.go:93", after := #[⟨19, .data⟩, ⟨20, .data⟩, ⟨13, .guard⟩], guard := some (13, Bool.true) }) (v := ?_) rfl (by kernel_rfl) (by kernel_rfl) (by kernel_rfl) (fun _ _ _ h => h) (Or.inl ⟨by rfl, ?_⟩) (by assumption) ?_
              rotate_left; (intro w hSw; (try dsimp only at hSw); go_simp; (try with_reducible rfl)); try simp only [Act.put, lA, lZ, lS]
              refine wpAnyH_take (i := 22) (oi := { dst := some 120, op := .fieldAddr 37 (.tmp 119) 6, type := 0, pos := "outright.go:93", after := #[⟨21, .data⟩, ⟨13, .guard⟩], guard := some (13, Bool.true) }) (v := ?_) rfl (by kernel_rfl) (by kernel_rfl) (by kernel_rfl) (fun _ _ _ h => h) (Or.inl ⟨by rfl, ?_⟩) (by assumption) ?_
              rotate_left; (intro w hSw; (try dsimp only at hSw); go_simp; (try with_reducible rfl)); try simp only [Act.put, lA, lZ, lS]
              refine wpAnyH_take (i := 23) (oi := { dst := some 121, op := .load 35 (.tmp 120), type := 35, pos := "outright.go:93", after := #[⟨22, .data⟩, ⟨13, .guard⟩], guard := some (13, Bool.true) }) (v := .agg (rf5 p.b).toArray) rfl (by kernel_rfl) (by kernel_rfl) (by kernel_rfl) (fun _ _ _ h => h) (yieldsIf_load_mid (by rfl) 35 (.tmp 120) rfl b1 (o1 + i * 20 + 15) rfl (rf5 p.b) _ (fun _ h => h.2.2.2.2) Tryz.underlying35 rfl (by kernel_rfl)) (by assumption) ?_
              try simp only [Act.put, lA, lZ, lS]
              refine wpAnyH_take (i := 24) (oi := { dst := some 122, op := .move (.tmp 1), type := 3, pos := "outright.go:93", after := #[⟨13, .guard⟩], guard := some (13, Bool.true) }) (v := ?_) rfl (by kernel_rfl) (by kernel_rfl) (by kernel_rfl) (fun _ _ _ h => h) (Or.inl ⟨by rfl, ?_⟩) (by assumption) ?_
              rotate_left; (intro w hSw; (try dsimp only at hSw); go_simp; (try with_reducible rfl)); try simp only [Act.put, lA, lZ, lS]
              refine wpAnyH_take (i := 25) (oi := { dst := some 123, op := .move (.tmp 2), type := 3, pos := "outright.go:93", after := #[⟨13, .guard⟩], guard := some (13, Bool.true) }) (v := ?_) rfl (by kernel_rfl) (by kernel_rfl) (by kernel_rfl) (fun _ _ _ h => h) (Or.inl ⟨by rfl, ?_⟩) (by assumption) ?_
              rotate_left; (intro w hSw; (try dsimp only at hSw); go_simp; (try with_reducible rfl)); try simp only [Act.put, lA, lZ, lS]
              refine wpAnyH_ready (rs := [26]) (by kernel_rfl) (by simp) ?_
              refine AllReadyH.cons (o := { dst := some 124, op := .call { callee := Callee.value (Operand.func 13), args := #[.tmp 116, .tmp 121, .tmp 122, .tmp 123], argTypes := #[35, 35, 3, 3] }, type := 4, pos := "outright.go:93", after := #[⟨18, .data⟩, ⟨23, .data⟩, ⟨24, .data⟩, ⟨25, .data⟩, ⟨13, .chain⟩, ⟨13, .guard⟩], guard := some (13, Bool.true) }) rfl (fun K hK => ?_) AllReadyH.nil
              go_simp
              refine (MVB wg).mono ?_
              rintro e wh ⟨rfl, hbh⟩
              have RS2 := RS1.below hbh
              have HBZ := below_end HBG hbh
              clear RS1 HBG hbh
              go_wp2_with fail
              refine hK.out _ _ RS2 (fun hHeld => ?_)
              clear hK K
              try simp only [Act.put, lA, lZ, lS]
              refine wpAnyH_take (i := 27) (oi := { dst := some 125, op := .unOp UnOp.not 4 (.tmp 124), type := 4, pos := "outright.go:93", after := #[⟨26, .data⟩, ⟨13, .guard⟩], guard := some (13, Bool.true) }) (v := ?_) rfl (by kernel_rfl) (by kernel_rfl) (by kernel_rfl) (fun _ _ _ h => h) (Or.inl ⟨by rfl, ?_⟩) (by assumption) ?_
              rotate_left; (intro w hSw; (try dsimp only at hSw); go_simp; (try with_reducible rfl)); try simp only [Act.put, lA, lZ, lS]
              refine wpAnyH_take (i := 28) (oi := { dst := some 126, op := .pick (.tmp 111) (.tmp 125) (Operand.const (Value.bool Bool.false)), type := 4, pos := "outright.go:93", after := #[⟨13, .data⟩, ⟨27, .data⟩, ⟨6, .guard⟩], guard := some (6, Bool.false) }) (v := ?_) rfl (by kernel_rfl) (by kernel_rfl) (by kernel_rfl) (fun _ _ _ h => h) (Or.inl ⟨by rfl, ?_⟩) (by assumption) ?_
              rotate_left; (intro w hSw; (try dsimp only at hSw); go_simp; (try with_reducible rfl)); try simp only [Act.put, lA, lZ, lS]
              refine wpAnyH_take (i := 29) (oi := { dst := some 127, op := .pick (.tmp 104) (Operand.const (Value.bool Bool.true)) (.tmp 126), type := 4, pos := "outright.go:93", after := #[⟨6, .data⟩, ⟨28, .data⟩], guard := none }) (v := ?_) rfl (by kernel_rfl) (by kernel_rfl) (by kernel_rfl) (fun _ _ _ h => h) (Or.inl ⟨by rfl, ?_⟩) (by assumption) ?_
              rotate_left; (intro w hSw; (try dsimp only at hSw); go_simp; (try with_reducible rfl)); try simp only [Act.put, lA, lZ, lS]
              refine wpAnyH_done (by kernel_rfl) ?_ _
              have HBN : Hid (Below w6.heap.size w6 wh) := HBZ
              clear hHeld HBZ RS2 MVA MVB p13 p14 RS ke
              go_wp2_with fail
              go_roundg (l.length - (i + 1))
              case rel => exact ⟨i + 1, by simp, rfl, by omega, HBN⟩
              case measure => omega
            · have n2 : (z2 == 2) = false := by simpa using h2
              have n3 : (z2 == 3) = false := by simpa using h3
              have HBN : Hid (Below w6.heap.size w6 WE) := HBE
              clear RS p13 p14
              go_wp2_with fail
              go_roundg (l.length - (i + 1))
              case rel => exact ⟨i + 1, by simp, rfl, by omega, HBN⟩
              case measure => omega
        · have hne : (z2 != z1) = true := by simpa using hzz
          have hl : p = lostN := by
            rcases mvN_k x y q with h | ⟨-, h⟩
            · exfalso; apply hzz; rw [← HZ1.out, ← HZ2.out, ← HP.out]; exact h.symm
            · rw [← HP.out]; exact h
          have HBN : Hid (Below w6.heap.size w6 wr) := HBD
          rw [hl] at c1
          have hEq := lostEq
          clear hzz hl HBD kd2 c2 HZ1 HZ2 HP
          go_wp2_with ((with_reducible refine wpList_load_mid (cs := nd20 lostN) ?_ 37 (.tmp 69) ?_ (b1) (o1 + i * 20) ?_ _ ?_ Tryz.underlying37 ?_ ?_ ?_); rfl; rfl; rfl; exact c1; rfl; kernel_rfl)
          go_roundg (l.length - (i + 1))
          case rel => exact ⟨i + 1, by simp, rfl, by omega, HBN⟩
          case measure => omega
      · have hli : ¬ (i : Int) < (l.length : Int) := by omega
        have hBr := below_end hB HB.out
        go_wp2
        go_ret
        exact ⟨rfl, hBr⟩
end Go.Proofs.YtalkiggclckcdaaGreatDoor
