/- TLawNeed. -/
import Derived.Test.YtifdemakjphfcaaGreatDoorQ44
import Derived.Deep.RegionHeld3
namespace Go.Proofs.YtifdemakjphfcaaGreatDoor
open Go.RowKit Go.Shelf
set_option linter.unusedVariables false
def TkA (W : World) (av : Option Addr) (ts : List Wlx.Tok) : Prop := ∀ i (h : i < ts.length), ∃ bb off, av = some ⟨bb, off, none⟩ ∧ W.cell? ⟨bb, off + i * 3, none⟩ = some (.int .i64 ((ts[i]).k : Int)) ∧ W.cell? ⟨bb, off + i * 3 + 1, none⟩ = some (.string ⟨(ts[i]).t.toArray⟩) ∧ W.cell? ⟨bb, off + i * 3 + 2, none⟩ = some (.int .i64 ((ts[i]).p : Int))
theorem TkA.below {W W' : World} {av : Option Addr} {ts : List Wlx.Tok} (h : TkA W av ts) (hb : Below W.heap.size W W') : TkA W' av ts := fun i hi => by
  obtain ⟨bb, off, e, h1, h2, h3⟩ := h i hi
  exact ⟨bb, off, e, cell_below hb h1, cell_below hb h2, cell_below hb h3⟩
theorem TkA.of {W : World} {v : Value} {ts : List Wlx.Tok} (h : ReadV W v (ts.map Wlx.tv)) : ∃ av cap, v = .slice av ts.length cap ∧ TkA W av ts := by
  obtain ⟨av, cap, rfl, h⟩ := h
  refine ⟨av, cap, by rw [List.length_map], fun i hi => ?_⟩
  obtain ⟨bb, off, e, -, h1, h2, h3⟩ := h i (by rw [List.length_map]; exact hi)
  simp only [List.getElem_map, Wlx.tv] at h1 h2 h3
  exact ⟨bb, off, e, h1, h2, h3⟩
def dp (ts : List Wlx.Tok) (a j : Nat) : Int := bal (((ts.drop a).take (j - a)).map Wlx.tv)
theorem dp_self (ts : List Wlx.Tok) (a : Nat) : dp ts a a = 0 := by unfold dp; rw [Nat.sub_self]; rfl
theorem dp_next {ts : List Wlx.Tok} {a j : Nat} (ha : a ≤ j) (hj : j < ts.length) : dp ts a (j + 1) = dp ts a j + bt (Wlx.tv ts[j]) := by
  unfold dp
  have e : j + 1 - a = (j - a) + 1 := by omega
  have e2 : (ts.drop a)[j - a]? = some ts[j] := by
    rw [List.getElem?_drop, show a + (j - a) = j by omega, List.getElem?_eq_getElem hj]
  rw [e, List.take_add_one, e2, List.map_append, bal_app]
  simp [bal]
theorem dp_end {ts : List Wlx.Tok} {a : Nat} : dp ts a ts.length = bal ((ts.drop a).map Wlx.tv) := by
  unfold dp
  rw [List.take_of_length_le (by rw [List.length_drop]; exact Nat.le_refl _)]
theorem bt_O {t : Wlx.Tok} (h : isO t = true) : bt (Wlx.tv t) = 1 := bt_open (by rw [isO_mk]; exact h)
theorem bt_S {t : Wlx.Tok} (h : isS t = true) : bt (Wlx.tv t) = -1 := bt_shut (by rw [isS_mk]; exact h)
theorem bt_N {t : Wlx.Tok} (h : isO t = false) (h2 : isS t = false) : bt (Wlx.tv t) = 0 := by
  unfold bt
  rw [isO_mk, isS_mk, h, h2]
  rfl
theorem ba_list (x : List UInt8) : (⟨x.toArray⟩ : ByteArray).toList = x := by rw [ByteArray.toList_eq]
theorem tok_three (q : Wlx.Tok) : ((q.k : Int) == 5) = false ∧ isO q = false ∧ isS q = false ∨ ((q.k : Int) == 5) = true ∧ ((⟨q.t.toArray⟩ : ByteArray).toList == [40]) = true ∧ ((⟨q.t.toArray⟩ : ByteArray).toList == [41]) = false ∧ isO q = true ∧ isS q = false ∨
    ((q.k : Int) == 5) = true ∧ ((⟨q.t.toArray⟩ : ByteArray).toList == [40]) = false ∧ ((⟨q.t.toArray⟩ : ByteArray).toList == [41]) = true ∧ isO q = false ∧ isS q = true ∨ ((q.k : Int) == 5) = true ∧ ((⟨q.t.toArray⟩ : ByteArray).toList == [40]) = false ∧ ((⟨q.t.toArray⟩ : ByteArray).toList == [41]) = false ∧ isO q = false ∧ isS q = false := by
  unfold isO isS
  rw [ba_list]
  have hk : ((q.k : Int) == 5) = (q.k == 5) := by rw [Bool.eq_iff_iff]; simp only [beq_iff_eq]; omega
  rw [hk]
  cases h5 : (q.k == 5) with
  | false => exact Or.inl ⟨rfl, rfl, rfl⟩
  | true =>
    cases h40 : (q.t == [40]) with
    | true =>
      have e : q.t = [40] := by simpa using h40
      have h41 : (q.t == [41]) = false := by rw [e]; rfl
      exact Or.inr (Or.inl ⟨rfl, rfl, h41, rfl, by rw [h41]; rfl⟩)
    | false =>
      cases h41 : (q.t == [41]) with
      | true => exact Or.inr (Or.inr (Or.inl ⟨rfl, rfl, rfl, rfl, rfl⟩))
      | false => exact Or.inr (Or.inr (Or.inr ⟨rfl, rfl, rfl, rfl, rfl⟩))
theorem isO_kt {t : Wlx.Tok} (h : isO t = true) : t.k = 5 ∧ t.t = [40] := by unfold isO at h; simpa using h
theorem isS_kt {t : Wlx.Tok} (h : isS t = true) : t.k = 5 ∧ t.t = [41] := by unfold isS at h; simpa using h
theorem wip_cat (s : ByteArray) (a b : Nat) (hab : a < b) (hb : b < s.size) : s.extract 0 a ++ ⟨#[32]⟩ ++ s.extract (a + 1) b ++ ⟨#[32]⟩ ++ s.extract (b + 1) s.size = ⟨(wiped s.data.toList a b).toArray⟩ := by
  apply ByteArray.ext
  simp only [ByteArray.data_append, ByteArray.data_extract]
  apply Array.ext'
  have hs : s.data.size = s.size := rfl
  have e1 : s.data.toList.drop (b + 1) = (s.data.toList.drop (b + 1)).take (s.size - (b + 1)) := by rw [List.take_of_length_le (by rw [List.length_drop]; exact Nat.le_refl _)]
  unfold wiped
  rw [e1]
  simp [List.extract]
theorem idx_tm (k : Int) (m : Nat) (hm : 0 < m) : (0 ≤ k.tmod (m : Int) → ∃ i : Nat, k.tmod (m : Int) = i ∧ i < m) ∧ (k.tmod (m : Int) < 0 → ∃ i : Nat, k.tmod (m : Int) + m = i ∧ i < m) := by
  have h1 := Int.tmod_lt_of_pos k (show (0 : Int) < m by omega)
  have h2 : -(m : Int) < k.tmod m := by
    have := Int.tmod_lt_of_pos (-k) (show (0 : Int) < m by omega)
    rw [Int.neg_tmod] at this; omega
  exact ⟨fun h => ⟨(k.tmod m).toNat, by omega, by omega⟩, fun h => ⟨(k.tmod m + m).toNat, by omega, by omega⟩⟩
set_option maxRecDepth 100000 in
set_option maxHeartbeats 32000000 in
theorem tneed_ok (L : List Wt.Nd) (av : Option Addr) (cap : Nat) (k : Int) (w : World) (hE : Env w) (hk8 : 8 ≤ w.heap.size) (hr : RdN w av L) (hf : ∀ x ∈ L, Wt.FitN x) (hc : Wt.check L = 0) (hs : (prnt L).length ≤ 1024) :
    Calls Tryz.prog 8 #[.slice av L.length cap, .int .i64 k] w fun e w' => e = .returned (.bool true) ∧ Below w.heap.size w w' := by
  have A := table_any w hE hk8
  obtain ⟨h256, d0, hone, -⟩ := check_zero hc
  have hpos : 0 < L.length := by have := one_loc _ _ _ _ hone; omega
  have H256 : True → L.length ≤ 256 := fun _ => h256
  have PR := fun av cap w hE hr hcap hk8 => print_any av cap L w (by omega) hf hE hr hcap hk8
  rw [hc] at PR
  obtain ⟨ts, hok, -⟩ := prnt_toks hc
  have HBL : Hid (∀ i, bal ((ts.drop i).map Wlx.tv) ≤ 0) := prnt_bl hc hs hok
  have HOK : Hid (Wlx.Ok 0 (prnt L) ts) := hok
  have hcnt := hok.count.1
  have HN : True → ts.length ≤ 1024 := fun _ => by omega
  obtain ⟨sB, hsB⟩ : ∃ sB : ByteArray, (⟨(prnt L).toArray⟩ : ByteArray) = sB := ⟨_, rfl⟩
  have HSL : Hid (sB.data.toList = prnt L) := by show _ = _; rw [← hsB]
  have HSZ : Hid (sB.size = (prnt L).length) := by show _ = _; rw [← hsB]; rfl
  have H1024 : True → (prnt L).length ≤ 1024 := fun _ => hs
  have SC := fun w hm => scan_any sB w hm (by rw [HSZ.out]; omega)
  have esc : scanAll sB.data.toList = Wlx.Res.ok ts := by unfold scanAll; rw [HSL.out, if_neg (by omega)]; exact hok.scan
  rw [esc] at SC
  rw [hsB] at PR
  have hli0 : ¬ (1024 : Int) < (sB.size : Int) := by have := HSZ.out; omega
  have HC : Hid (Wt.check L = 0) := hc
  have HR0 : Hid (RdN w av L) := hr
  obtain ⟨i0, hii, hz0, hz1, hz2⟩ := info_parts intInfo
  clear esc hsB hok hone h256 hcnt hs hc hf hr
  go_enter Tryz.func8, Tryz.ntmps8
  go_wp2_with fail
  refine A.mono ?_
  rintro e w1 ⟨rfl, hb1⟩
  have hr1 := HR0.out.below hb1
  go_wp2_with (at_builtin; refine wpList_copyN (by rfl) (.tmp 24) (.tmp 25) (by rfl) w1 (by rfl) av L cap (by rfl) hr1 (fun h => by obtain ⟨_, _, e, _⟩ := hr1 0 hpos; rw [h] at e; cases e) (fun _ => by have := H256 trivial; omega) ?_)
  intro v2 w2 own2 hb2
  obtain ⟨av2, cap2, rfl, hrd2⟩ := own2.form
  have hcap2 := own2.cap
  have hB2 := below_end hb1 hb2
  have P2 := PR av2 cap2 w2 (hE.below hB2) hrd2 hcap2 (Nat.le_trans hk8 hB2.size)
  clear own2 PR hrd2 hr1 hcap2
  go_wp2_with fail
  refine P2.mono ?_
  rintro e w3 ⟨rfl, hb3⟩
  have hB3 := below_end hB2 hb3
  clear P2 hb3 hb2 hB2 hb1
  go_wp2_with fail
  refine (SC w3 (hE.below hB3).2.2.1).mono ?_
  rintro e w6 ⟨⟨v3, rfl, hown3⟩, hb6⟩
  have hB6 := below_end hB3 hb6
  obtain ⟨avt, capt, rfl, hta⟩ := TkA.of (ReadV.own hown3)
  have HT : Hid (TkA w6 avt ts) := hta
  have HR : Hid (RdN w6 av L) := HR0.out.below hB6
  clear SC hown3 hb6 hB3 hta HR0
  go_upto_region 11 with fail
  go_loopg [10, 11] (ts.length) (fun gk v10 v11 wr => ∃ (i : Nat) (ks : List Nat), True ∧ v11 = .int .i64 i ∧ gk = ts.length - i ∧ i ≤ ts.length ∧ ks.length ≤ i ∧ Hid (OwnI wr w6.heap.size v10 ks) ∧ Hid (∀ o ∈ ks, ∃ h : o < ts.length, isO ts[o] = true) ∧ Hid (Below w6.heap.size w6 wr))
  case atStart => exact ⟨0, [], trivial, rfl, rfl, Nat.zero_le _, Nat.le_refl _, World.ownsRow_nil _ _ _ _, (fun o ho => by cases ho), Below.refl _ _⟩
  case round =>
    obtain ⟨i, ks, -, rfl, hg, hi, hks, HO, HK, HB⟩ := hrel
    by_cases hlt : i < ts.length
    · have hli : (i : Int) < (ts.length : Int) := by omega
      have hi0 : (0 : Int) ≤ (i : Int) := by omega
      have hwi : IntKind.i64.wrap ((i : Int) + 1) = (i : Int) + 1 := by rw [IntKind.wrap_i64]; have := HN trivial; omega
      obtain ⟨bb, off, e1, c0, c1, c2⟩ := HT.out.below HB.out i hlt
      obtain ⟨q, hq⟩ : ∃ q, ts[i] = q := ⟨_, rfl⟩
      have HQ : Hid (ts[i] = q) := hq
      rw [hq] at c0 c1 c2
      have h4 := tok_three q
      generalize (⟨q.t.toArray⟩ : ByteArray) = X at *
      generalize (q.k : Int) = kq at *
      clear hq c2
      rcases h4 with ⟨g5, -, -⟩ | ⟨g5, g40, g41, hqO, -⟩ | ⟨g5, g40, g41, -, -⟩ | ⟨g5, g40, g41, -, -⟩
      · subst e1
        clear HQ
        go_wp2_with fail
        go_roundg (ts.length - (i + 1))
        case rel => exact ⟨i + 1, ks, trivial, by simp, rfl, by omega, by omega, HO, HK, HB⟩
        case measure => omega
      · by_cases hiz : i = 0
        · have hz : ((i : Int) == 0) = true := by simp [hiz]
          clear hiz
          subst e1
          have own := HO.out
          have hsz := HB.out.size
          have news : ∀ jj u, [Value.int .i64 (i : Int)][jj]? = some u → (wr.alloc (.cells #[.int .i64 (i : Int)] 3)).cell? ((⟨wr.heap.size, 0, none⟩ : Addr).add jj) = some u := by
            intro jj u hj
            cases jj with
            | zero => simp at hj; subst hj; simp [Addr.add, go_sem]
            | succ jj => simp at hj
          have hic : (intC ks).length = ks.length := by simp [intC]
          go_wp2_with (at_builtin; refine wpList_append_own _ rfl (.tmp 78) (.tmp 80) 34 rfl w6.heap.size 3 i0 (.int .i64 0) 1 8 Tryz.underlying34 hii hz0 hz1 hz2 rfl (by decide) _ _ _ (by rfl) (World.ownsRow.alloc own _) ⟨wr.heap.size, 0, none⟩ 1 1 [.int .i64 (i : Int)] (by rfl) rfl news (by intro u hu; simp at hu; subst hu; rfl) (by unfold maxLen; have := HN trivial; omega) (by have := HN trivial; omega) (by simp; omega) ?_)
          intro v2 w7 own2 hgrow _
          have hB2 : Hid (Below w6.heap.size w6 w7) := (ball HB.out (.cells #[.int .i64 (i : Int)] 3)).grown hgrow (by simp only [World.size_alloc]; omega) (fun k hk => (own.lt k hk).1)
          have own2' : Hid (OwnI w7 w6.heap.size v2 (ks ++ [i])) := by
            show OwnI _ _ _ _
            unfold OwnI
            have e : intC (ks ++ [i]) = intC ks ++ [.int .i64 (i : Int)] := by simp [intC]
            rw [e, List.length_append]; exact own2
          have HK2 : Hid (∀ o ∈ ks ++ [i], ∃ h : o < ts.length, isO ts[o] = true) := by
            intro o ho
            rcases List.mem_append.1 ho with ho | ho
            · exact HK.out o ho
            · obtain rfl := List.mem_singleton.1 ho
              exact ⟨hlt, by rw [HQ.out]; exact hqO⟩
          clear own own2 hgrow HO HB HK news hic hsz
          go_wp2_with fail
          go_roundg (ts.length - (i + 1))
          case rel => exact ⟨i + 1, ks ++ [i], trivial, by simp, rfl, by omega, by rw [List.length_append, List.length_singleton]; omega, own2', HK2, hB2⟩
          case measure => omega
        · have hz : ((i : Int) == 0) = false := by simp [hiz]
          have hwm : IntKind.i64.wrap ((i : Int) - 1) = ((i - 1 : Nat) : Int) := by rw [IntKind.wrap_i64]; have := HN trivial; omega
          have hm0 : (0 : Int) ≤ ((i - 1 : Nat) : Int) := by omega
          have hml : ((i - 1 : Nat) : Int) < (ts.length : Int) := by omega
          obtain ⟨bb', off', e2, d0, -, -⟩ := HT.out.below HB.out (i - 1) (by omega)
          rw [e1] at e2
          simp only [Option.some.injEq, Addr.mk.injEq, and_true] at e2
          obtain ⟨rfl, rfl⟩ := e2
          generalize ((ts[i - 1]'(by omega)).k : Int) = kp at *
          generalize i - 1 = im at *
          subst e1
          by_cases hk3 : kp = 3
          · have h3 : (kp != 3) = false := by simp [hk3]
            clear hk3 HQ hqO
            go_wp2_with fail
            go_roundg (ts.length - (i + 1))
            case rel => exact ⟨i + 1, ks, trivial, by simp, rfl, by omega, by omega, HO, HK, HB⟩
            case measure => omega
          · have h3 : (kp != 3) = true := by simp [hk3]
            clear hk3
            have own := HO.out
            have hsz := HB.out.size
            have news : ∀ jj u, [Value.int .i64 (i : Int)][jj]? = some u → (wr.alloc (.cells #[.int .i64 (i : Int)] 3)).cell? ((⟨wr.heap.size, 0, none⟩ : Addr).add jj) = some u := by
              intro jj u hj
              cases jj with
              | zero => simp at hj; subst hj; simp [Addr.add, go_sem]
              | succ jj => simp at hj
            have hic : (intC ks).length = ks.length := by simp [intC]
            go_wp2_with (at_builtin; refine wpList_append_own _ rfl (.tmp 78) (.tmp 80) 34 rfl w6.heap.size 3 i0 (.int .i64 0) 1 8 Tryz.underlying34 hii hz0 hz1 hz2 rfl (by decide) _ _ _ (by rfl) (World.ownsRow.alloc own _) ⟨wr.heap.size, 0, none⟩ 1 1 [.int .i64 (i : Int)] (by rfl) rfl news (by intro u hu; simp at hu; subst hu; rfl) (by unfold maxLen; have := HN trivial; omega) (by have := HN trivial; omega) (by simp; omega) ?_)
            intro v2 w7 own2 hgrow _
            have hB2 : Hid (Below w6.heap.size w6 w7) := (ball HB.out (.cells #[.int .i64 (i : Int)] 3)).grown hgrow (by simp only [World.size_alloc]; omega) (fun k hk => (own.lt k hk).1)
            have own2' : Hid (OwnI w7 w6.heap.size v2 (ks ++ [i])) := by
              show OwnI _ _ _ _
              unfold OwnI
              have e : intC (ks ++ [i]) = intC ks ++ [.int .i64 (i : Int)] := by simp [intC]
              rw [e, List.length_append]; exact own2
            have HK2 : Hid (∀ o ∈ ks ++ [i], ∃ h : o < ts.length, isO ts[o] = true) := by
              intro o ho
              rcases List.mem_append.1 ho with ho | ho
              · exact HK.out o ho
              · obtain rfl := List.mem_singleton.1 ho
                exact ⟨hlt, by rw [HQ.out]; exact hqO⟩
            clear own own2 hgrow HO HB HK news hic hsz
            go_wp2_with fail
            go_roundg (ts.length - (i + 1))
            case rel => exact ⟨i + 1, ks ++ [i], trivial, by simp, rfl, by omega, by rw [List.length_append, List.length_singleton]; omega, own2', HK2, hB2⟩
            case measure => omega
      · subst e1
        clear HQ
        go_wp2_with fail
        go_roundg (ts.length - (i + 1))
        case rel => exact ⟨i + 1, ks, trivial, by simp, rfl, by omega, by omega, HO, HK, HB⟩
        case measure => omega
      · subst e1
        clear HQ
        go_wp2_with fail
        go_roundg (ts.length - (i + 1))
        case rel => exact ⟨i + 1, ks, trivial, by simp, rfl, by omega, by omega, HO, HK, HB⟩
        case measure => omega
    · have hli : ¬ (i : Int) < (ts.length : Int) := by omega
      obtain ⟨av7, cap7, rfl⟩ := HO.out.shape
      by_cases hk0 : ks.length = 0
      · have hz : ((ks.length : Int) == 0) = true := by simp [hk0]
        have hBr := below_end hB6 HB.out
        clear hk0
        go_wp2
        go_ret
        exact ⟨rfl, hBr⟩
      · have hz : ((ks.length : Int) == 0) = false := by simp [hk0]
        have hz' : ¬ (ks.length : Int) = 0 := by omega
        obtain ⟨g7, e7, c7⟩ := HO.out.at (by omega)
        subst e7
        have HMn : True → ks.length ≤ 1024 := fun _ => by have := HN trivial; omega
        obtain ⟨ix1, ix2⟩ := idx_tm k ks.length (by omega)
        by_cases htn : k.tmod (ks.length : Int) < 0
        · obtain ⟨x, hx, hxl⟩ := ix2 htn
          have hwx : IntKind.i64.wrap (k.tmod (ks.length : Int) + (ks.length : Int)) = (x : Int) := by rw [hx, IntKind.wrap_i64]; have := HMn trivial; omega
          clear ix1 ix2 hx
          have hx1 : (0 : Int) ≤ (x : Int) := by omega
          have hx2 : (x : Int) < (ks.length : Int) := by omega
          obtain ⟨o, ho⟩ : ∃ o, ks[x]? = some o := ⟨_, List.getElem?_eq_getElem hxl⟩
          obtain ⟨hol, hoO⟩ := HK.out o (List.mem_of_getElem? ho)
          have co := c7 x o ho
          have HB0 := HB
          clear HK HO ho c7
          go_upto_region 24 with fail
          go_loopg [14, 15, 16] (ts.length - o) (fun gk v14 v15 v16 wr2 => ∃ (j : Nat) (d : Int), v14 = .int .i64 (o : Int) ∧ v15 = .int .i64 d ∧ v16 = .int .i64 j ∧ gk = ts.length - j ∧ o ≤ j ∧ j ≤ ts.length ∧ Hid (dp ts o j = d) ∧ Hid (o < j → 1 ≤ d) ∧ (0 ≤ d ∧ d ≤ j) ∧ Hid (Below wr.heap.size wr wr2))
          case atStart => exact ⟨o, 0, rfl, rfl, rfl, rfl, Nat.le_refl _, by omega, dp_self ts o, (fun h => absurd h (Nat.lt_irrefl _)), ⟨by decide, by omega⟩, Below.refl _ _⟩
          case round =>
            obtain ⟨j, d, rfl, rfl, rfl, hg2, hoj, hjn, HD, HP, hd, HB2⟩ := hrel
            by_cases hjl : j < ts.length
            · have hli2 : (j : Int) < (ts.length : Int) := by omega
              have hj0 : (0 : Int) ≤ (j : Int) := by omega
              have hwj : IntKind.i64.wrap ((j : Int) + 1) = (j : Int) + 1 := by rw [IntKind.wrap_i64]; have := HN trivial; omega
              have HT2 := (HT.out.below HB0.out).below HB2.out
              obtain ⟨bb, off, e1, c0, c1, c2⟩ := HT2 j hjl
              have hnx := dp_next hoj hjl
              rw [HD.out] at hnx
              obtain ⟨q, hq⟩ : ∃ q, ts[j] = q := ⟨_, rfl⟩
              have HQ : Hid (ts[j] = q) := hq
              have hfst : j = o → isO q = true := fun e => by subst e; rw [← hq]; exact hoO
              rw [hq] at c0 c1 c2 hnx
              have h4 := tok_three q
              obtain ⟨X, hX⟩ : ∃ X : ByteArray, (⟨q.t.toArray⟩ : ByteArray) = X := ⟨_, rfl⟩
              rw [hX] at c1 h4
              obtain ⟨kq, hkq⟩ : ∃ z : Int, (q.k : Int) = z := ⟨_, rfl⟩
              rw [hkq] at c0 h4
              clear hq hX hkq
              rcases h4 with ⟨g5, hO, hS⟩ | ⟨g5, g40, g41, hO, hS⟩ | ⟨g5, g40, g41, hO, hS⟩ | ⟨g5, g40, g41, hO, hS⟩
              · rw [bt_N hO hS] at hnx
                have hjo : o < j := by rcases Nat.lt_or_ge o j with h | h; exact h; exact absurd (hfst (by omega)) (by rw [hO]; decide)
                have HD2 : Hid (dp ts o (j + 1) = d) := by show _ = _; omega
                have HP2 : Hid (o < j + 1 → 1 ≤ d) := fun _ => HP.out hjo
                subst e1
                clear HD HP hnx hfst HQ HT2 hO hS hjo
                go_wp2_with fail
                go_roundg (ts.length - (j + 1))
                case rel => exact ⟨j + 1, d, rfl, rfl, by simp, rfl, by omega, by omega, HD2, HP2, ⟨by omega, by omega⟩, HB2⟩
                case measure => omega
              · rw [bt_O hO] at hnx
                have HD2 : Hid (dp ts o (j + 1) = d + 1) := hnx
                have HP2 : Hid (o < j + 1 → 1 ≤ d + 1) := fun _ => by omega
                have hwd : IntKind.i64.wrap (d + 1) = d + 1 := by rw [IntKind.wrap_i64]; have := HN trivial; omega
                subst e1
                clear HD HP hnx hfst HQ HT2 hO hS
                go_wp2_with fail
                go_roundg (ts.length - (j + 1))
                case rel => exact ⟨j + 1, d + 1, rfl, rfl, by simp, rfl, by omega, by omega, HD2, HP2, ⟨by omega, by omega⟩, HB2⟩
                case measure => omega
              · rw [bt_S hS] at hnx
                have hjo : o < j := by rcases Nat.lt_or_ge o j with h | h; exact h; exact absurd (hfst (by omega)) (by rw [hO]; decide)
                have hd1 := HP.out hjo
                have hwd : IntKind.i64.wrap (d - 1) = d - 1 := by rw [IntKind.wrap_i64]; have := HN trivial; omega
                by_cases hdz : d = 1
                · have hz1 : ((d - 1) == 0) = true := by simp [hdz]
                  have hne : ((j : Int) == (o : Int)) = false := by simp; omega
                  have kO := isO_kt hoO
                  have kS := isS_kt hS
                  have hnd := needed HC.out HOK.out hol hjl hjo kO (by rw [HQ.out]; exact kS)
                  obtain ⟨hab, hbl, hno2⟩ := hnd
                  obtain ⟨bb', off', e2, -, -, d2⟩ := HT2 o hol
                  rw [e1] at e2
                  simp only [Option.some.injEq, Addr.mk.injEq, and_true] at e2
                  obtain ⟨rfl, rfl⟩ := e2
                  rw [HQ.out] at hab hbl hno2
                  obtain ⟨pa, hpa⟩ : ∃ p, (ts[o]).p = p := ⟨_, rfl⟩
                  obtain ⟨pb, hpb⟩ : ∃ p, q.p = p := ⟨_, rfl⟩
                  rw [hpa] at hab hno2 d2
                  rw [hpb] at hab hbl hno2 c2
                  subst e1
                  clear hdz HD HP hnx hfst HQ HT2 hO hS hpa hpb kO kS hd hd1 hjo co
                  have hBr := below_end (below_end hB6 HB0.out) HB2.out
                  have hrL := HR.out.below (below_end HB0.out HB2.out)
                  have kd1 := cell_below (Below.refl _ wr).drew d2
                  have kd2 := cell_below (Below.refl _ wr).drew c2
                  have hEr := hE.below hBr.drew
                  have hk8r := Nat.le_trans hk8 hBr.drew.size
                  have hrD := hrL.below (Below.refl _ wr).drew
                  have hBD := hBr.drew
                  have hcat := wip_cat sB pa pb hab (by rw [HSZ.out]; exact hbl)
                  rw [HSL.out] at hcat
                  obtain ⟨tx, htx⟩ : ∃ tx, wiped (prnt L) pa pb = tx := ⟨_, rfl⟩
                  have htl : True → tx.length ≤ 1024 := fun _ => by rw [← htx, wiped_len hab hbl]; exact H1024 trivial
                  rw [htx] at hcat hno2
                  have S := parse_any ⟨tx.toArray⟩ wr.drew hEr (by show tx.length ≤ _; have := htl trivial; omega) hk8r
                  have e0 : (⟨tx.toArray⟩ : ByteArray).data.toList = tx := by simp
                  rw [e0] at S
                  clear e0 htx hEr hk8r hrL hBr
                  have hsz : Hid (sB.size = (prnt L).length) := HSZ
                  have f0 : (0 : Int) ≤ (pa : Int) := by omega
                  have f1 : (pa : Int) ≤ (sB.size : Int) := by have := hsz.out; omega
                  have f2 : IntKind.i64.wrap ((pa : Int) + 1) = (pa : Int) + 1 := by rw [IntKind.wrap_i64]; have := hsz.out; have := H1024 trivial; omega
                  have f3 : (pa : Int) + 1 ≤ (pb : Int) := by omega
                  have tn1 : ((pa : Int) + 1).toNat = pa + 1 := by omega
                  have tn2 : ((pb : Int) + 1).toNat = pb + 1 := by omega
                  have f4 : (pb : Int) ≤ (sB.size : Int) := by have := hsz.out; omega
                  have f5 : IntKind.i64.wrap ((pb : Int) + 1) = (pb : Int) + 1 := by rw [IntKind.wrap_i64]; have := hsz.out; have := H1024 trivial; omega
                  have f6 : (pb : Int) + 1 ≤ (sB.size : Int) := by have := hsz.out; omega
                  have f7 : (0 : Int) ≤ (pa : Int) + 1 := by omega
                  have f8 : (0 : Int) ≤ (pb : Int) := by omega
                  have f9 : (0 : Int) ≤ (pb : Int) + 1 := by omega
                  obtain ⟨U1, hU1⟩ : ∃ U, sB.extract 0 pa = U := ⟨_, rfl⟩
                  obtain ⟨U2, hU2⟩ : ∃ U, sB.extract (pa + 1) pb = U := ⟨_, rfl⟩
                  obtain ⟨U3, hU3⟩ : ∃ U, sB.extract (pb + 1) sB.size = U := ⟨_, rfl⟩
                  have z1 : U1.size ≤ sB.size := by rw [← hU1, ByteArray.size_extract]; omega
                  have z2 : U2.size ≤ sB.size := by rw [← hU2, ByteArray.size_extract]; omega
                  have z3 : U3.size ≤ sB.size := by rw [← hU3, ByteArray.size_extract]; omega
                  rw [hU1, hU2, hU3] at hcat
                  have s1 : ¬ 9223372036854775807 < U1.size + 1 := by have := hsz.out; have := H1024 trivial; omega
                  have s2 : ¬ 9223372036854775807 < U1.size + 1 + U2.size := by have := hsz.out; have := H1024 trivial; omega
                  have s3 : ¬ 9223372036854775807 < U1.size + 1 + U2.size + 1 := by have := hsz.out; have := H1024 trivial; omega
                  have s4 : ¬ 9223372036854775807 < U1.size + 1 + U2.size + 1 + U3.size := by have := hsz.out; have := H1024 trivial; omega
                  clear z1 z2 z3 hab hbl c2 d2 hwj
                  go_upto_region 34 with fail
                  clear c0 c1 hli2 hwd g41 g40 g5
                  go_region_held3 (fun W => W.cell? ⟨bb, off + o * 3 + 2, none⟩ = some (.int .i64 (pa : Int)) ∧ W.cell? ⟨bb, off + j * 3 + 2, none⟩ = some (.int .i64 (pb : Int))) (with_reducible first | exact ⟨kd1, kd2⟩ | assumption) (fail)
                  cases hr : prsR tx with
                  | inr q2 =>
                    obtain ⟨c9, p9⟩ := q2
                    rw [hr] at S
                    simp only [PaPost] at S
                    have hc9 := prsR_code hr
                    have hci : (c9 != 0) = true := by simp [hc9]
                    clear hr hc9 hno2
                    go_wp2_with fail
                    refine S.mono ?_
                    rintro e w9 ⟨rfl, hb9⟩
                    have hB9 := below_end hBD hb9
                    go_wp2
                    go_ret
                    exact ⟨rfl, hB9⟩
                  | inl M =>
                    rw [hr] at S
                    simp only [PaPost] at S
                    have hne2 : Hid (L ≠ M) := fun e => hno2 (by rw [hr, e])
                    have hM := (check_zero (prsR_row hr).2).1
                    have HM9 : True → M.length ≤ 256 := fun _ => hM
                    clear hr hno2 hM
                    go_wp2_with fail
                    refine S.mono ?_
                    rintro e w9 ⟨⟨v9, rfl, own9⟩, hb9⟩
                    have hB9 := below_end hBD hb9
                    obtain ⟨av9, cap9, rfl, hr9⟩ := own9.form
                    have MM := nsame_ne av av9 cap cap9 L M w9 (hrD.below hb9) hr9 (by have := H256 trivial; omega) (by have := HM9 trivial; omega) hne2.out
                    clear own9 S
                    go_wp2_with fail
                    refine MM.mono ?_
                    rintro e w10 ⟨rfl, hb10⟩
                    have hB10 := below_end hB9 hb10
                    go_wp2
                    go_ret
                    exact ⟨by simp, hB10⟩
                · have hz1 : ((d - 1) == 0) = false := by simp; omega
                  have HD2 : Hid (dp ts o (j + 1) = d - 1) := by show _ = _; omega
                  have HP2 : Hid (o < j + 1 → 1 ≤ d - 1) := fun _ => by omega
                  subst e1
                  clear HD HP hnx hfst HQ HT2 hO hS hjo
                  go_wp2_with fail
                  go_roundg (ts.length - (j + 1))
                  case rel => exact ⟨j + 1, d - 1, rfl, rfl, by simp, rfl, by omega, by omega, HD2, HP2, ⟨by omega, by omega⟩, HB2⟩
                  case measure => omega
              · rw [bt_N hO hS] at hnx
                have hjo : o < j := by rcases Nat.lt_or_ge o j with h | h; exact h; exact absurd (hfst (by omega)) (by rw [hO]; decide)
                have HD2 : Hid (dp ts o (j + 1) = d) := by show _ = _; omega
                have HP2 : Hid (o < j + 1 → 1 ≤ d) := fun _ => HP.out hjo
                subst e1
                clear HD HP hnx hfst HQ HT2 hO hS hjo
                go_wp2_with fail
                go_roundg (ts.length - (j + 1))
                case rel => exact ⟨j + 1, d, rfl, rfl, by simp, rfl, by omega, by omega, HD2, HP2, ⟨by omega, by omega⟩, HB2⟩
                case measure => omega
            · exfalso
              have h1 := HP.out (by omega)
              have h2 := HBL.out o
              rw [← dp_end, show ts.length = j by omega, HD.out] at h2
              omega
        · obtain ⟨x, hx, hxl⟩ := ix1 (by omega)
          have hx0 : ¬ (x : Int) < 0 := by omega
          clear ix1 ix2 htn
          have hx1 : (0 : Int) ≤ (x : Int) := by omega
          have hx2 : (x : Int) < (ks.length : Int) := by omega
          obtain ⟨o, ho⟩ : ∃ o, ks[x]? = some o := ⟨_, List.getElem?_eq_getElem hxl⟩
          obtain ⟨hol, hoO⟩ := HK.out o (List.mem_of_getElem? ho)
          have co := c7 x o ho
          have HB0 := HB
          clear HK HO ho c7
          go_upto_region 24 with fail
          go_loopg [14, 15, 16] (ts.length - o) (fun gk v14 v15 v16 wr2 => ∃ (j : Nat) (d : Int), v14 = .int .i64 (o : Int) ∧ v15 = .int .i64 d ∧ v16 = .int .i64 j ∧ gk = ts.length - j ∧ o ≤ j ∧ j ≤ ts.length ∧ Hid (dp ts o j = d) ∧ Hid (o < j → 1 ≤ d) ∧ (0 ≤ d ∧ d ≤ j) ∧ Hid (Below wr.heap.size wr wr2))
          case atStart => exact ⟨o, 0, rfl, rfl, rfl, rfl, Nat.le_refl _, by omega, dp_self ts o, (fun h => absurd h (Nat.lt_irrefl _)), ⟨by decide, by omega⟩, Below.refl _ _⟩
          case round =>
            obtain ⟨j, d, rfl, rfl, rfl, hg2, hoj, hjn, HD, HP, hd, HB2⟩ := hrel
            by_cases hjl : j < ts.length
            · have hli2 : (j : Int) < (ts.length : Int) := by omega
              have hj0 : (0 : Int) ≤ (j : Int) := by omega
              have hwj : IntKind.i64.wrap ((j : Int) + 1) = (j : Int) + 1 := by rw [IntKind.wrap_i64]; have := HN trivial; omega
              have HT2 := (HT.out.below HB0.out).below HB2.out
              obtain ⟨bb, off, e1, c0, c1, c2⟩ := HT2 j hjl
              have hnx := dp_next hoj hjl
              rw [HD.out] at hnx
              obtain ⟨q, hq⟩ : ∃ q, ts[j] = q := ⟨_, rfl⟩
              have HQ : Hid (ts[j] = q) := hq
              have hfst : j = o → isO q = true := fun e => by subst e; rw [← hq]; exact hoO
              rw [hq] at c0 c1 c2 hnx
              have h4 := tok_three q
              obtain ⟨X, hX⟩ : ∃ X : ByteArray, (⟨q.t.toArray⟩ : ByteArray) = X := ⟨_, rfl⟩
              rw [hX] at c1 h4
              obtain ⟨kq, hkq⟩ : ∃ z : Int, (q.k : Int) = z := ⟨_, rfl⟩
              rw [hkq] at c0 h4
              clear hq hX hkq
              rcases h4 with ⟨g5, hO, hS⟩ | ⟨g5, g40, g41, hO, hS⟩ | ⟨g5, g40, g41, hO, hS⟩ | ⟨g5, g40, g41, hO, hS⟩
              · rw [bt_N hO hS] at hnx
                have hjo : o < j := by rcases Nat.lt_or_ge o j with h | h; exact h; exact absurd (hfst (by omega)) (by rw [hO]; decide)
                have HD2 : Hid (dp ts o (j + 1) = d) := by show _ = _; omega
                have HP2 : Hid (o < j + 1 → 1 ≤ d) := fun _ => HP.out hjo
                subst e1
                clear HD HP hnx hfst HQ HT2 hO hS hjo
                go_wp2_with fail
                go_roundg (ts.length - (j + 1))
                case rel => exact ⟨j + 1, d, rfl, rfl, by simp, rfl, by omega, by omega, HD2, HP2, ⟨by omega, by omega⟩, HB2⟩
                case measure => omega
              · rw [bt_O hO] at hnx
                have HD2 : Hid (dp ts o (j + 1) = d + 1) := hnx
                have HP2 : Hid (o < j + 1 → 1 ≤ d + 1) := fun _ => by omega
                have hwd : IntKind.i64.wrap (d + 1) = d + 1 := by rw [IntKind.wrap_i64]; have := HN trivial; omega
                subst e1
                clear HD HP hnx hfst HQ HT2 hO hS
                go_wp2_with fail
                go_roundg (ts.length - (j + 1))
                case rel => exact ⟨j + 1, d + 1, rfl, rfl, by simp, rfl, by omega, by omega, HD2, HP2, ⟨by omega, by omega⟩, HB2⟩
                case measure => omega
              · rw [bt_S hS] at hnx
                have hjo : o < j := by rcases Nat.lt_or_ge o j with h | h; exact h; exact absurd (hfst (by omega)) (by rw [hO]; decide)
                have hd1 := HP.out hjo
                have hwd : IntKind.i64.wrap (d - 1) = d - 1 := by rw [IntKind.wrap_i64]; have := HN trivial; omega
                by_cases hdz : d = 1
                · have hz1 : ((d - 1) == 0) = true := by simp [hdz]
                  have hne : ((j : Int) == (o : Int)) = false := by simp; omega
                  have kO := isO_kt hoO
                  have kS := isS_kt hS
                  have hnd := needed HC.out HOK.out hol hjl hjo kO (by rw [HQ.out]; exact kS)
                  obtain ⟨hab, hbl, hno2⟩ := hnd
                  obtain ⟨bb', off', e2, -, -, d2⟩ := HT2 o hol
                  rw [e1] at e2
                  simp only [Option.some.injEq, Addr.mk.injEq, and_true] at e2
                  obtain ⟨rfl, rfl⟩ := e2
                  rw [HQ.out] at hab hbl hno2
                  obtain ⟨pa, hpa⟩ : ∃ p, (ts[o]).p = p := ⟨_, rfl⟩
                  obtain ⟨pb, hpb⟩ : ∃ p, q.p = p := ⟨_, rfl⟩
                  rw [hpa] at hab hno2 d2
                  rw [hpb] at hab hbl hno2 c2
                  subst e1
                  clear hdz HD HP hnx hfst HQ HT2 hO hS hpa hpb kO kS hd hd1 hjo co
                  have hBr := below_end (below_end hB6 HB0.out) HB2.out
                  have hrL := HR.out.below (below_end HB0.out HB2.out)
                  have kd1 := cell_below (Below.refl _ wr).drew d2
                  have kd2 := cell_below (Below.refl _ wr).drew c2
                  have hEr := hE.below hBr.drew
                  have hk8r := Nat.le_trans hk8 hBr.drew.size
                  have hrD := hrL.below (Below.refl _ wr).drew
                  have hBD := hBr.drew
                  have hcat := wip_cat sB pa pb hab (by rw [HSZ.out]; exact hbl)
                  rw [HSL.out] at hcat
                  obtain ⟨tx, htx⟩ : ∃ tx, wiped (prnt L) pa pb = tx := ⟨_, rfl⟩
                  have htl : True → tx.length ≤ 1024 := fun _ => by rw [← htx, wiped_len hab hbl]; exact H1024 trivial
                  rw [htx] at hcat hno2
                  have S := parse_any ⟨tx.toArray⟩ wr.drew hEr (by show tx.length ≤ _; have := htl trivial; omega) hk8r
                  have e0 : (⟨tx.toArray⟩ : ByteArray).data.toList = tx := by simp
                  rw [e0] at S
                  clear e0 htx hEr hk8r hrL hBr
                  have hsz : Hid (sB.size = (prnt L).length) := HSZ
                  have f0 : (0 : Int) ≤ (pa : Int) := by omega
                  have f1 : (pa : Int) ≤ (sB.size : Int) := by have := hsz.out; omega
                  have f2 : IntKind.i64.wrap ((pa : Int) + 1) = (pa : Int) + 1 := by rw [IntKind.wrap_i64]; have := hsz.out; have := H1024 trivial; omega
                  have f3 : (pa : Int) + 1 ≤ (pb : Int) := by omega
                  have tn1 : ((pa : Int) + 1).toNat = pa + 1 := by omega
                  have tn2 : ((pb : Int) + 1).toNat = pb + 1 := by omega
                  have f4 : (pb : Int) ≤ (sB.size : Int) := by have := hsz.out; omega
                  have f5 : IntKind.i64.wrap ((pb : Int) + 1) = (pb : Int) + 1 := by rw [IntKind.wrap_i64]; have := hsz.out; have := H1024 trivial; omega
                  have f6 : (pb : Int) + 1 ≤ (sB.size : Int) := by have := hsz.out; omega
                  have f7 : (0 : Int) ≤ (pa : Int) + 1 := by omega
                  have f8 : (0 : Int) ≤ (pb : Int) := by omega
                  have f9 : (0 : Int) ≤ (pb : Int) + 1 := by omega
                  obtain ⟨U1, hU1⟩ : ∃ U, sB.extract 0 pa = U := ⟨_, rfl⟩
                  obtain ⟨U2, hU2⟩ : ∃ U, sB.extract (pa + 1) pb = U := ⟨_, rfl⟩
                  obtain ⟨U3, hU3⟩ : ∃ U, sB.extract (pb + 1) sB.size = U := ⟨_, rfl⟩
                  have z1 : U1.size ≤ sB.size := by rw [← hU1, ByteArray.size_extract]; omega
                  have z2 : U2.size ≤ sB.size := by rw [← hU2, ByteArray.size_extract]; omega
                  have z3 : U3.size ≤ sB.size := by rw [← hU3, ByteArray.size_extract]; omega
                  rw [hU1, hU2, hU3] at hcat
                  have s1 : ¬ 9223372036854775807 < U1.size + 1 := by have := hsz.out; have := H1024 trivial; omega
                  have s2 : ¬ 9223372036854775807 < U1.size + 1 + U2.size := by have := hsz.out; have := H1024 trivial; omega
                  have s3 : ¬ 9223372036854775807 < U1.size + 1 + U2.size + 1 := by have := hsz.out; have := H1024 trivial; omega
                  have s4 : ¬ 9223372036854775807 < U1.size + 1 + U2.size + 1 + U3.size := by have := hsz.out; have := H1024 trivial; omega
                  clear z1 z2 z3 hab hbl c2 d2 hwj
                  go_upto_region 34 with fail
                  clear c0 c1 hli2 hwd g41 g40 g5
                  go_region_held3 (fun W => W.cell? ⟨bb, off + o * 3 + 2, none⟩ = some (.int .i64 (pa : Int)) ∧ W.cell? ⟨bb, off + j * 3 + 2, none⟩ = some (.int .i64 (pb : Int))) (with_reducible first | exact ⟨kd1, kd2⟩ | assumption) (fail)
                  cases hr : prsR tx with
                  | inr q2 =>
                    obtain ⟨c9, p9⟩ := q2
                    rw [hr] at S
                    simp only [PaPost] at S
                    have hc9 := prsR_code hr
                    have hci : (c9 != 0) = true := by simp [hc9]
                    clear hr hc9 hno2
                    go_wp2_with fail
                    refine S.mono ?_
                    rintro e w9 ⟨rfl, hb9⟩
                    have hB9 := below_end hBD hb9
                    go_wp2
                    go_ret
                    exact ⟨rfl, hB9⟩
                  | inl M =>
                    rw [hr] at S
                    simp only [PaPost] at S
                    have hne2 : Hid (L ≠ M) := fun e => hno2 (by rw [hr, e])
                    have hM := (check_zero (prsR_row hr).2).1
                    have HM9 : True → M.length ≤ 256 := fun _ => hM
                    clear hr hno2 hM
                    go_wp2_with fail
                    refine S.mono ?_
                    rintro e w9 ⟨⟨v9, rfl, own9⟩, hb9⟩
                    have hB9 := below_end hBD hb9
                    obtain ⟨av9, cap9, rfl, hr9⟩ := own9.form
                    have MM := nsame_ne av av9 cap cap9 L M w9 (hrD.below hb9) hr9 (by have := H256 trivial; omega) (by have := HM9 trivial; omega) hne2.out
                    clear own9 S
                    go_wp2_with fail
                    refine MM.mono ?_
                    rintro e w10 ⟨rfl, hb10⟩
                    have hB10 := below_end hB9 hb10
                    go_wp2
                    go_ret
                    exact ⟨by simp, hB10⟩
                · have hz1 : ((d - 1) == 0) = false := by simp; omega
                  have HD2 : Hid (dp ts o (j + 1) = d - 1) := by show _ = _; omega
                  have HP2 : Hid (o < j + 1 → 1 ≤ d - 1) := fun _ => by omega
                  subst e1
                  clear HD HP hnx hfst HQ HT2 hO hS hjo
                  go_wp2_with fail
                  go_roundg (ts.length - (j + 1))
                  case rel => exact ⟨j + 1, d - 1, rfl, rfl, by simp, rfl, by omega, by omega, HD2, HP2, ⟨by omega, by omega⟩, HB2⟩
                  case measure => omega
              · rw [bt_N hO hS] at hnx
                have hjo : o < j := by rcases Nat.lt_or_ge o j with h | h; exact h; exact absurd (hfst (by omega)) (by rw [hO]; decide)
                have HD2 : Hid (dp ts o (j + 1) = d) := by show _ = _; omega
                have HP2 : Hid (o < j + 1 → 1 ≤ d) := fun _ => HP.out hjo
                subst e1
                clear HD HP hnx hfst HQ HT2 hO hS hjo
                go_wp2_with fail
                go_roundg (ts.length - (j + 1))
                case rel => exact ⟨j + 1, d, rfl, rfl, by simp, rfl, by omega, by omega, HD2, HP2, ⟨by omega, by omega⟩, HB2⟩
                case measure => omega
            · exfalso
              have h1 := HP.out (by omega)
              have h2 := HBL.out o
              rw [← dp_end, show ts.length = j by omega, HD.out] at h2
              omega
end Go.Proofs.YtifdemakjphfcaaGreatDoor
