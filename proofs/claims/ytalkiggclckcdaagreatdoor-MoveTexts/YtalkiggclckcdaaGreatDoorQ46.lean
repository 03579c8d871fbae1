/- TPrint, TRtD, TAblP, MCopyP, MWalkE, MWalkF, MLawTexts. -/
import Derived.Test.YtalkiggclckcdaaGreatDoorQ45
namespace Go.Proofs.YtalkiggclckcdaaGreatDoor
open Go.RowKit Go.Shelf
set_option linter.unusedVariables false
theorem dd_pos (n : Nat) : 0 < (Lib.decDigits n).length := by
  rw [Lib.decDigits]
  split
  · simp
  · simp
theorem txt_pos (N : Int) (D : Nat) : 0 < (Wnum.txt N D).length := by
  unfold Wnum.txt
  rw [List.length_append]
  split
  · simp only [List.length_append, List.length_cons]; omega
  split
  · have := dd_pos (N.natAbs / D); omega
  · simp only [List.length_append, List.length_cons]; omega
theorem litT_pos {v : Wt.Vl} (h : Wt.vlOk v = true) : 0 < (litT v).length := by
  unfold litT
  split
  · exact txt_pos _ _
  split
  · simp
  split
  · split <;> decide
  rename_i h1 h2 h3
  unfold Wt.vlOk at h
  split at h
  · cases h
  unfold Wv.right at h
  rw [if_neg (by assumption), if_neg h1, if_neg h2, if_neg h3] at h
  split at h
  · simp only [Bool.and_eq_true, decide_eq_true_eq, Wv.flt] at h
    have hf := h.1.1.1.1
    obtain ⟨g, hg⟩ : ∃ g : Nat, v.f = g := ⟨v.f.toNat, by omega⟩
    rw [hg, Int.toNat_natCast]
    have : g = 1 ∨ g = 2 ∨ g = 3 ∨ g = 4 ∨ g = 5 ∨ g = 6 ∨ g = 7 ∨ g = 8 := by omega
    rcases this with rfl | rfl | rfl | rfl | rfl | rfl | rfl | rfl <;> decide
  · cases h
theorem celT_pos (a : Wt.Rf) : 0 < (celT a).length := by
  have : 0 < (cw a).length := by
    unfold cw
    have := dd_pos (a.r + 1).toNat
    simp only [List.length_append]; omega
  unfold celT
  split
  · exact this
  · simp only [List.length_append, List.length_cons]; omega
theorem mrk_pos {x : Wt.Nd} {o : Int × List UInt8 × Int} (h : Wt.opOf x.op = some o) : 0 < (mrk x).length := by
  unfold mrk
  rw [h]
  have := List.mem_of_find?_eq_some h
  simp only [Wt.opsT, List.mem_cons, List.not_mem_nil, or_false] at this
  rcases this with rfl | rfl | rfl | rfl | rfl | rfl | rfl | rfl | rfl | rfl | rfl | rfl | rfl | rfl | rfl <;> decide
theorem pr_pos {f : Nat} {l : List Wt.Nd} {s d : Nat} (h : Wt.one f l = some (s, d)) (least : Int) : 0 < (pr f least l).1.length := by
  cases f with
  | zero => simp [Wt.one] at h
  | succ f =>
    cases l with
    | nil => simp [Wt.one] at h
    | cons x r =>
      obtain ⟨hx, a, b, hm, rfl, rfl⟩ := one_unf h
      have hK := right_knd hx
      have : 0 < (prN (pr f) x r).1.length := by
        unfold prN
        rcases knd_tgh hK with ⟨h7, -, hk⟩ | ⟨h56, hp, o, ho⟩ | ⟨h04, hp, o, ho⟩
        · rw [if_pos h7]
          unfold prS
          rcases hK with ⟨h, h1, e⟩ | ⟨h, h1, e⟩ | ⟨h, h1, h2, h3, e⟩ | ⟨h, h2, -⟩ | ⟨h, h2, -⟩ | ⟨h, h1, h2, h3, e⟩
          · rw [if_pos h]; exact litT_pos h1
          · rw [if_neg (by omega), if_pos h]; exact celT_pos _
          · rw [if_neg (by omega), if_neg (by omega), if_pos h]; simp only [List.length_append, List.length_cons]; omega
          · omega
          · omega
          · rw [if_neg (by omega), if_neg (by omega), if_neg (by omega)]; simp only [List.length_append, List.length_cons]; omega
        · have := mrk_pos ho
          rw [if_neg (by omega)]
          split
          · simp only [List.length_append]; omega
          split
          · simp only [List.length_append]; omega
          · simp only [List.length_append]; omega
        · have := mrk_pos ho
          rw [if_neg (by omega), if_neg (by omega), if_neg (by omega)]
          simp only [List.length_append]; omega
      simp only [pr]
      split
      · exact this
      · simp
def prnt (L : List Wt.Nd) : List UInt8 := if Wt.check L = 0 then (pr (L.length + 1) 0 L).1 else []
set_option maxRecDepth 100000 in
set_option maxHeartbeats 4000000 in
theorem print_any (av : Option Addr) (cap : Nat) (L : List Wt.Nd) (w : World) (hL : L.length ≤ 9223372036854775807) (hF : ∀ x ∈ L, Wt.FitN x) (hE : Env w) (hr : RdN w av L) (hcap : L.length ≤ cap) (hk8 : 8 ≤ w.heap.size) :
    Calls Tryz.prog 15 #[.slice av L.length cap] w fun e w' => e = .returned (.tuple #[.string ⟨(prnt L).toArray⟩, .int .i64 (Wt.check L)]) ∧ Below w.heap.size w w' := by
  have CK := check_any av cap L w hL hF hE.1 hr
  unfold prnt
  by_cases hc : Wt.check L = 0
  · rw [if_pos hc]
    rw [hc] at CK ⊢
    obtain ⟨h256, d, hone, hd⟩ := check_zero hc
    have hpos := pr_pos hone 0
    have hlen := (pr_ok _ _ _ _ hone 0).2
    have PP := fun kw => part_any kw (L.length + 1) 0 L
    clear hc
    generalize (pr (L.length + 1) 0 L).1 = tx at *
    go_enter Tryz.func15, Tryz.ntmps15
    go_wp2_with fail
    refine CK.mono ?_
    rintro e w1 ⟨rfl, hb⟩
    have hE1 := hE.below hb
    have hr1 := hr.below hb
    have hs1 := hb.size
    have hB2 := ball hb (.cells #[.pointer none, .slice none 0 0, .slice av L.length cap] 79)
    have hS2 : WSt (w1.alloc (.cells #[.pointer none, .slice none 0 0, .slice av L.length cap] 79)) w1.heap.size [] L := by
      refine ⟨av, cap, hcap, Or.inl ⟨Nat.le_refl _, .slice none 0 0, heap_alloc_new w1 _, World.ownsRow_nil _ _ _ _, by simp [Value.ownBlock]⟩, fun i hi => ?_⟩
      obtain ⟨bb, off, e, hx⟩ := hr1 i hi
      have hlt : bb < w1.heap.size := World.block_lt_of_cell? _ _ (hx 0 _ rfl)
      exact ⟨bb, off, e, hlt, fun j v hv => cell_below (ball (Below.refl _ w1) _) (hx j v hv)⟩
    have hE2 := hE.below hB2
    go_wp2_with fail
    refine (PP w1.heap.size [] _ L.length d hF hone hS2 hE2 (by omega) (by simp only [List.length_nil]; omega)).mono ?_
    rintro e w3 ⟨rfl, hS3, hF3⟩
    obtain ⟨av', cap', -, hI, -⟩ := hS3
    rw [List.nil_append] at hI
    have ST := wstr_any _ _ _ _ w3 hI (fun e => by rw [e] at hpos; simp at hpos)
    have hB3 : Below w.heap.size w w3 := hB2.trans (hF3.1.mono hs1)
    go_wp2_with fail
    refine ST.mono ?_
    rintro e w4 ⟨rfl, hb4⟩
    go_wp2
    go_ret2
    exact ⟨rfl, hB3.trans (hb4.mono hs1)⟩
  · rw [if_neg hc]
    generalize Wt.check L = ck at *
    have hci : (ck != 0) = true := by simp [hc]
    go_enter Tryz.func15, Tryz.ntmps15
    go_wp2_with fail
    refine CK.mono ?_
    rintro e w1 ⟨rfl, hb⟩
    go_wp2
    go_ret2
    exact ⟨rfl, hb⟩
theorem prnt_read {L : List Wt.Nd} (hc : Wt.check L = 0) (hl : (prnt L).length ≤ 1024) : prsR (prnt L) = .inl L := by
  obtain ⟨h256, d, hone, hd⟩ := check_zero hc
  have hp : prnt L = (pr (L.length + 1) 0 L).1 := by unfold prnt; rw [if_pos hc]
  obtain ⟨T, t1, t2, t3, t4⟩ := pr_rt _ _ _ _ hone 0 (by omega)
  rw [List.take_length] at t4
  rw [show (((0 : Nat)) : Int) = 0 from rfl, ← hp] at t1
  obtain ⟨ts, o1, o2⟩ := t1 0 [] [] Wlx.Aft.nil (Wlx.Ok.nil _)
  rw [List.append_nil, List.append_nil] at o1
  have hrep : Rep (ts.map Wlx.tv) T := by
    unfold Rep
    rw [← o2, List.map_map, List.map_map]
    rfl
  have hlv := par_form t4 (en := ((prnt L).length : Int)) (f := 10 * (ts.map Wlx.tv).length + 9) (tl := []) hrep (fun c q e => by cases e) (fun j => rfl) (by rw [hrep.len]; omega)
  rw [List.append_nil] at hlv
  rw [prsR_of hl o1 hlv, if_pos hc]
def abR : Wt.Rf := ⟨⟨#[]⟩, 0, 0, false, false⟩
theorem dd_1 : Lib.decDigits 1 = [49] := by rw [Lib.decDigits_one (by decide)]; rfl
theorem cw_A1 : cw abR = [65, 49] := by
  unfold cw
  show fx false ++ Wpl.colS 0 ++ fx false ++ Lib.decDigits 1 = _
  rw [dd_1]; decide
def t1 : Wlx.TV := ⟨1, [49], 0⟩
def t2 : Wlx.TV := ⟨5, [43], 1⟩
def t3 : Wlx.TV := ⟨3, [65, 49], 2⟩
theorem more_not {sub : List Wlx.TV → PR} {k : Int} {n : Nat} {row : List Wt.Nd} {ts : List Wlx.TV} (h : tkOp k ts = none) : more sub k n row ts = .inl (row, ts) := by cases n with
  | zero => rfl
  | succ n => simp only [more, h]
theorem up {en : Int} {f k : Nat} {ts r : List Wlx.TV} {row : List Wt.Nd} (hk : k < 5) (h : lv en f (k + 1) ts = .inl (row, r)) (hn : tkOp k r = none) : lv en (f + 1) k ts = .inl (row, r) := by
  rw [lv_bt _ _ _ hk]; unfold pbt; rw [h]; exact more_not hn
def cont (u : List UInt8) : List UInt8 × Int := if 1023 < u.length then ([], 2) else (61 :: u, 0)
def cpF (x y : Int) (r : List Wt.Nd ⊕ (Int × Int)) : List UInt8 × Int := match r with
  | .inr (c, _) => ([], c)
  | .inl row => cont (prnt (row.map (mvN x y)))
def cpR (x y : Int) (l : List UInt8) : List UInt8 × Int := if l.head? = some 61 then cpF x y (prsR l.tail) else (l, 0)
theorem prnt_len {L : List Wt.Nd} (hc : Wt.check L = 0) : (prnt L).length ≤ 256000 := by
  obtain ⟨h256, d, hone, hd⟩ := check_zero hc
  have h := (pr_ok _ _ _ _ hone 0).2
  unfold prnt
  rw [if_pos hc]
  omega
def cA (r : Int) : Wt.Nd := ⟨2, Wt.v0, 0, ⟨#[]⟩, 0, ⟨⟨#[]⟩, r, 0, false, false⟩, Wt.r0⟩
theorem dd_2 : Lib.decDigits 2 = [50] := by rw [Lib.decDigits_one (by decide)]; rfl
theorem cw_A2 : cw ⟨⟨#[]⟩, 1, 0, false, false⟩ = [65, 50] := by
  unfold cw
  show fx false ++ Wpl.colS 0 ++ fx false ++ Lib.decDigits 2 = _
  rw [dd_2]; decide
theorem chk_A (r : Int) (h : r = 0 ∨ r = 1) : Wt.check [cA r] = 0 := by
  rcases h with rfl | rfl <;> decide +kernel
theorem prnt_A (r : Int) (h : r = 0 ∨ r = 1) : prnt [cA r] = cw ⟨⟨#[]⟩, r, 0, false, false⟩ := by
  unfold prnt
  rw [if_pos (chk_A r h)]
  rfl
theorem prs_A1 : prsR [65, 49] = .inl [cA 0] := by
  have h : prnt [cA 0] = [65, 49] := by rw [prnt_A 0 (Or.inl rfl)]; exact cw_A1
  have := prnt_read (chk_A 0 (Or.inl rfl)) (by rw [h]; decide)
  rw [h] at this
  exact this
theorem cpR_eq (x y : Int) (t : List UInt8) : cpR x y (61 :: t) = cpF x y (prsR t) := if_pos (show (61 :: t).head? = some 61 from rfl)
theorem cp_able : cpR 1 0 [61, 65, 49] = ([61, 65, 50], 0) := by
  rw [cpR_eq, prs_A1]
  have e : [cA 0].map (mvN 1 0) = [cA 1] := by
    show [mvN 1 0 (cA 0)] = [cA 1]
    have : mvN 1 0 (cA 0) = cA 1 := (eqN_iff _ _).1 (by decide +kernel)
    rw [this]
  unfold cpF
  simp only [e]
  unfold cont
  rw [prnt_A 1 (Or.inr rfl), cw_A2, if_neg (by decide)]
theorem cp_zero {l : List Wt.Nd} (h : Wt.check l = 0) : cpF 0 0 (.inl l) = cont (prnt l) := by
  unfold cpF
  simp only
  rw [mvL_zero h]
theorem cp_again {l : List Wt.Nd} (h : Wt.check l = 0) (hl : (prnt l).length ≤ 1023) : cpR 0 0 (61 :: prnt l) = (61 :: prnt l, 0) := by
  rw [cpR_eq, prnt_read h (by omega), cp_zero h]
  unfold cont
  rw [if_neg (by omega)]
theorem ownN_cap {w : World} {B n cap : Nat} {av : Option Addr} {row : List Wt.Nd} (h : OwnN w B (.slice av n cap) row) : row.length ≤ cap := by
  rcases h.2 with ⟨e, h0⟩ | ⟨g, cap', cur, e, hg, hc, h1, _⟩
  · omega
  · simp only [Value.slice.injEq] at e
    omega
theorem cute_no (s : ByteArray) (w : World) (hx : ¬ s.data.toList.head? = some 61) :
    Calls Tryz.prog 23 #[.string s, .string ⟨#[61]⟩] w fun e w' => e = .returned (.tuple #[.string s, .bool false]) ∧ w = w' := by
  by_cases h0 : 0 < s.size
  · have h1 : (1 : Int) ≤ (s.size : Int) := by omega
    have hx1 : ((s.extract 0 1).toList == [61]) = false := by
      rw [beq_eq_false_iff_ne]
      intro e
      apply hx
      rw [ByteArray.toList_eq, ByteArray.data_extract, Array.toList_extract] at e
      cases hq : s.data.toList with
      | nil => rw [hq] at e; simp at e
      | cons c t => rw [hq] at e; simp [List.extract] at e; rw [e]; rfl
    clear hx
    go_enter Tryz.func23, Tryz.ntmps23
    go_wp2
    go_ret2
    exact ⟨rfl, rfl⟩
  · have h1 : ¬ (1 : Int) ≤ (s.size : Int) := by omega
    clear hx
    go_enter Tryz.func23, Tryz.ntmps23
    go_wp2
    go_ret2
    exact ⟨rfl, rfl⟩
theorem cute_yes (t : List UInt8) (w : World) (ht : t.length ≤ 9223372036854775806) :
    Calls Tryz.prog 23 #[.string ⟨(61 :: t).toArray⟩, .string ⟨#[61]⟩] w fun e w' => e = .returned (.tuple #[.string ⟨t.toArray⟩, .bool true]) ∧ w = w' := by
  obtain ⟨s, hs⟩ : ∃ s : ByteArray, s = ⟨(61 :: t).toArray⟩ := ⟨_, rfl⟩
  have h0 : s.size = t.length + 1 := by rw [hs]; rfl
  have hx1 : ((s.extract 0 1).toList == [61]) = true := by rw [hs]; simp [ByteArray.toList_eq, ByteArray.data_extract, List.extract]
  have hx2 : s.extract 1 s.size = ⟨t.toArray⟩ := by
    rw [h0, hs]
    apply ByteArray.ext
    rw [ByteArray.data_extract]
    apply Array.ext'
    simp [List.extract]
  have h1 : (1 : Int) ≤ (s.size : Int) := by omega
  rw [← hs]
  clear hs h0
  go_enter Tryz.func23, Tryz.ntmps23
  go_wp2
  go_ret2
  exact ⟨rfl, rfl⟩
theorem cat_eq (u : List UInt8) : (⟨#[61]⟩ : ByteArray) ++ ⟨u.toArray⟩ = ⟨(61 :: u).toArray⟩ := by
  apply ByteArray.ext
  rw [ByteArray.data_append]
  apply Array.ext'
  simp
theorem cont_any (u : List UInt8) (w : World) (hu : True → u.length ≤ 1000000) :
    Calls Tryz.prog 24 #[.string ⟨u.toArray⟩] w fun e w' => e = .returned (.tuple #[.string ⟨(cont u).1.toArray⟩, .int .i64 (cont u).2]) ∧ w = w' := by
  have hc := cat_eq u
  have hl : ¬ 9223372036854775807 < 1 + u.length := by have := hu trivial; omega
  unfold cont
  by_cases h : 1023 < u.length
  · rw [if_pos h]
    have hi : (1024 : Int) < (u.length : Int) + 1 := by omega
    clear hu h
    go_enter Tryz.func24, Tryz.ntmps24
    go_wp2
    go_ret2
    exact ⟨rfl, rfl⟩
  · rw [if_neg h]
    have hi : ¬ (1024 : Int) < (u.length : Int) + 1 := by omega
    clear hu h
    go_enter Tryz.func24, Tryz.ntmps24
    go_wp2
    go_ret2
    exact ⟨rfl, rfl⟩
set_option maxRecDepth 100000 in
set_option maxHeartbeats 4000000 in
theorem copy_any (b : ByteArray) (x y : Int) (w : World) (hE : Env w) (hk8 : 8 ≤ w.heap.size) (hs : b.size ≤ 9223372036854775807) :
    Calls Tryz.prog 14 #[.string b, .int .i64 x, .int .i64 y] w fun e w' => e = .returned (.tuple #[.string ⟨(cpR x y b.data.toList).1.toArray⟩, .int .i64 (cpR x y b.data.toList).2]) ∧ Below w.heap.size w w' := by
  by_cases hh : b.data.toList.head? = some 61
  · obtain ⟨t, ht⟩ : ∃ t, b.data.toList = 61 :: t := by
      cases hq : b.data.toList with
      | nil => rw [hq] at hh; cases hh
      | cons c t => rw [hq] at hh; obtain rfl := Option.some.inj hh; exact ⟨t, rfl⟩
    have hb : b = ⟨(61 :: t).toArray⟩ := by
      have : b = ⟨b.data.toList.toArray⟩ := by rw [Array.toArray_toList]
      rw [this, ht]
    have htl : t.length ≤ 9223372036854775806 := by
      have : b.size = t.length + 1 := by rw [hb]; rfl
      omega
    have CU := fun w => cute_yes t w htl
    have S := fun w hE hk8 => parse_any ⟨t.toArray⟩ w hE (by show t.length ≤ _; omega) hk8
    have e0 : (⟨t.toArray⟩ : ByteArray).data.toList = t := by simp
    rw [e0] at S
    rw [ht, cpR_eq, hb]
    clear hb ht hh hs e0 htl
    cases hr : prsR t with
    | inr q =>
      obtain ⟨c, p⟩ := q
      rw [hr] at S
      simp only [PaPost] at S
      have hc := prsR_code hr
      have hci : (c != 0) = true := by simp [hc]
      have e : cpF x y (.inr (c, p)) = ([], c) := rfl
      rw [e]
      clear hr e
      go_enter Tryz.func14, Tryz.ntmps14
      go_wp2_with fail
      refine (CU w).mono ?_
      rintro e w1 ⟨rfl, rfl⟩
      go_wp2_with fail
      refine (S w hE hk8).mono ?_
      rintro e w2 ⟨rfl, hb2⟩
      go_wp2
      go_ret2
      exact ⟨rfl, hb2⟩
    | inl row =>
      rw [hr] at S
      simp only [PaPost] at S
      obtain ⟨hf, hc⟩ := prsR_row hr
      have hc2 := check_mv hc x y
      have hpl := prnt_len hc2
      have hf2 : ∀ n ∈ row.map (mvN x y), Wt.FitN n := by
        intro n hn
        obtain ⟨m, hm, rfl⟩ := List.mem_map.1 hn
        exact fit_mv (hf m hm) x y
      have h256 := (check_zero hc).1
      have e : cpF x y (.inl row) = cont (prnt (row.map (mvN x y))) := rfl
      rw [e]
      have SH := fun av cap w hO hr => mshift_ok av cap row x y w hf hO hr hc
      have PR := fun av cap w hE hr hcap hk8 => print_any av cap (row.map (mvN x y)) w (by rw [List.length_map]; omega) hf2 hE hr hcap hk8
      rw [hc2] at PR
      obtain ⟨m, hm⟩ : ∃ m, row.map (mvN x y) = m := ⟨_, rfl⟩
      rw [hm] at SH PR hpl ⊢
      generalize prnt m = u at *
      have CT := fun w => cont_any u w (fun _ => by omega)
      generalize cont u = q at *
      clear hr e hf hc hc2 hf2 hpl h256 hm
      go_enter Tryz.func14, Tryz.ntmps14
      go_wp2_with fail
      refine (CU w).mono ?_
      rintro e w1 ⟨rfl, rfl⟩
      go_wp2_with fail
      refine (S w hE hk8).mono ?_
      rintro e w2 ⟨⟨v, rfl, hown⟩, hb2⟩
      obtain ⟨av, cap, rfl, hrd⟩ := hown.form
      clear S CU hown
      go_wp2_with fail
      refine (SH av cap w2 (hE.below hb2).1 hrd).mono ?_
      rintro e w3 ⟨⟨v, rfl, hown⟩, hb3⟩
      have hB3 := below_end hb2 hb3
      obtain ⟨av3, cap3, rfl, hrd3⟩ := hown.form
      have hcap := ownN_cap hown
      clear SH hrd hb3 hown
      go_wp2_with fail
      refine (PR av3 cap3 w3 (hE.below hB3) hrd3 hcap (Nat.le_trans hk8 hB3.size)).mono ?_
      rintro e w4 ⟨rfl, hb4⟩
      have hB4 := below_end hB3 hb4
      clear PR hrd3 hcap
      go_wp2_with fail
      refine (CT w4).mono ?_
      rintro e w5 ⟨rfl, rfl⟩
      go_wp2
      go_ret2
      exact ⟨rfl, hB4⟩
  · have CU := fun w => cute_no b w hh
    have e : cpR x y b.data.toList = (b.data.toList, 0) := if_neg hh
    have e2 : (⟨b.data.toList.toArray⟩ : ByteArray) = b := by rw [Array.toArray_toList]
    rw [e]
    simp only
    rw [e2]
    clear e e2 hh
    go_enter Tryz.func14, Tryz.ntmps14
    go_wp2_with fail
    refine (CU w).mono ?_
    rintro e w1 ⟨rfl, rfl⟩
    go_wp2
    go_ret2
    exact ⟨rfl, Below.refl _ _⟩
set_option maxRecDepth 100000 in
theorem mable_any (w : World) (hE : Env w) (hk8 : 8 ≤ w.heap.size) : Calls Tryz.prog 8 #[] w fun e w' => e = .returned (.bool true) ∧ Below w.heap.size w w' := by
  have C := copy_any ⟨#[61, 65, 49]⟩ 1 0 w hE hk8 (by decide)
  have e0 : (⟨#[61, 65, 49]⟩ : ByteArray).data.toList = [61, 65, 49] := rfl
  rw [e0, cp_able] at C
  clear e0
  go_enter Tryz.func8, Tryz.ntmps8
  go_wp2_with fail
  refine C.mono ?_
  rintro e w1 ⟨rfl, hb⟩
  go_wp2
  go_ret
  exact ⟨by simp, hb⟩
theorem cpR_no {x y : Int} {b : ByteArray} (h : ¬ b.data.toList.head? = some 61) : cpR x y b.data.toList = (b.data.toList, 0) := if_neg h
theorem back_arr (b : ByteArray) : (⟨b.data.toList.toArray⟩ : ByteArray) = b := by rw [Array.toArray_toList]
set_option maxRecDepth 100000 in
set_option maxHeartbeats 4000000 in
theorem mtexts_no (b : ByteArray) (w : World) (hE : Env w) (hk8 : 8 ≤ w.heap.size) (hs : b.size ≤ 9223372036854775807) (hh : ¬ b.data.toList.head? = some 61) :
    Calls Tryz.prog 6 #[.string b] w fun e w' => e = .returned (.bool true) ∧ Below w.heap.size w w' := by
  have A := mable_any w hE hk8
  have C1 := fun w hE hk8 => copy_any b 0 0 w hE hk8 hs
  have C2 := fun w hE hk8 => copy_any b 7 (-3) w hE hk8 hs
  rw [cpR_no hh] at C1 C2
  simp only [back_arr] at C1 C2
  by_cases h0 : b.size = 0
  · have h0i : (b.size : Int) = 0 := by omega
    clear hh h0 hs
    go_enter Tryz.func6, Tryz.ntmps6
    go_wp2_with fail
    refine A.mono ?_
    rintro e w1 ⟨rfl, hb1⟩
    go_wp2_with fail
    refine (C1 w1 (hE.below hb1) (Nat.le_trans hk8 hb1.size)).mono ?_
    rintro e w2 ⟨rfl, hb2⟩
    have hB2 := below_end hb1 hb2
    go_wp2_with fail
    refine (C2 w2 (hE.below hB2) (Nat.le_trans hk8 hB2.size)).mono ?_
    rintro e w3 ⟨rfl, hb3⟩
    have hB3 := below_end hB2 hb3
    go_wp2
    go_ret
    exact ⟨by simp, hB3⟩
  · have h0i : ¬ (b.size : Int) = 0 := by omega
    have hp : 0 < b.size := by omega
    have hn : ¬ ((b[0]'hp).toNat : Int) = 61 := by
      intro e
      apply hh
      have e1 : (b[0]'hp) = 61 := UInt8.toNat_inj.1 (by show (b[0]'hp).toNat = 61; omega)
      have e2 : b.data.toList.head? = some (b[0]'hp) := by
        rw [List.head?_eq_getElem?, List.getElem?_eq_getElem (show 0 < b.data.toList.length from hp)]
        rfl
      rw [e2, e1]
    have h0n : (0 : Int) < (b.size : Int) := by omega
    have h0b : ((b.size : Int) == 0) = false := beq_false_of_ne h0i
    have hnb : (((b[0]'hp).toNat : Int) != 61) = true := by simpa using hn
    clear hh h0 hs hn
    go_enter Tryz.func6, Tryz.ntmps6
    go_wp2_with fail
    refine A.mono ?_
    rintro e w1 ⟨rfl, hb1⟩
    go_wp2_with fail
    refine (C1 w1 (hE.below hb1) (Nat.le_trans hk8 hb1.size)).mono ?_
    rintro e w2 ⟨rfl, hb2⟩
    have hB2 := below_end hb1 hb2
    go_wp2_with fail
    refine (C2 w2 (hE.below hB2) (Nat.le_trans hk8 hB2.size)).mono ?_
    rintro e w3 ⟨rfl, hb3⟩
    have hB3 := below_end hB2 hb3
    go_wp2
    go_ret
    exact ⟨by simp, hB3⟩
set_option maxRecDepth 100000 in
set_option maxHeartbeats 8000000 in
theorem mtexts_eq (t : List UInt8) (w : World) (hE : Env w) (hk8 : 8 ≤ w.heap.size) (hs : t.length ≤ 9223372036854775806) :
    Calls Tryz.prog 6 #[.string ⟨(61 :: t).toArray⟩] w fun e w' => e = .returned (.bool true) ∧ Below w.heap.size w w' := by
  have A := mable_any w hE hk8
  have C1 := fun w hE hk8 => copy_any ⟨(61 :: t).toArray⟩ 0 0 w hE hk8 (by show (61 :: t).length ≤ _; simp; omega)
  have S := fun w hE hk8 => parse_any ⟨t.toArray⟩ w hE (by show t.length ≤ _; omega) hk8
  have e0 : (⟨t.toArray⟩ : ByteArray).data.toList = t := by simp
  have e1 : (⟨(61 :: t).toArray⟩ : ByteArray).data.toList = 61 :: t := by simp
  rw [e0] at S
  rw [e1, cpR_eq] at C1
  clear e0 e1
  obtain ⟨b, hb⟩ : ∃ b : ByteArray, b = ⟨(61 :: t).toArray⟩ := ⟨_, rfl⟩
  have hsz : b.size = t.length + 1 := by rw [hb]; rfl
  have hp : 0 < b.size := by omega
  have h0i : ¬ (b.size : Int) = 0 := by omega
  have h0n : (0 : Int) < (b.size : Int) := by omega
  have h0m : (1 : Int) ≤ (b.size : Int) := by omega
  have hn : ((b[0]'hp).toNat : Int) = 61 := by
    subst hb
    rfl
  have h0b : ((b.size : Int) == 0) = false := beq_false_of_ne h0i
  have hnb : (((b[0]'hp).toNat : Int) != 61) = false := by simpa using hn
  have hx : b.extract 1 b.size = ⟨t.toArray⟩ := by
    rw [hsz, hb]
    apply ByteArray.ext
    rw [ByteArray.data_extract]
    apply Array.ext'
    simp [List.extract]
  rw [← hb] at C1 ⊢
  clear hb hn
  cases hr : prsR t with
  | inr q =>
    obtain ⟨c, p⟩ := q
    rw [hr] at S C1
    simp only [PaPost, cpF] at S C1
    have hc := prsR_code hr
    have hci : (c != 0) = true := by simp [hc]
    clear hr hsz hs
    go_enter Tryz.func6, Tryz.ntmps6
    go_wp2_with fail
    refine A.mono ?_
    rintro e w1 ⟨rfl, hb1⟩
    go_wp2_with fail
    refine (C1 w1 (hE.below hb1) (Nat.le_trans hk8 hb1.size)).mono ?_
    rintro e w2 ⟨rfl, hb2⟩
    have hB2 := below_end hb1 hb2
    go_wp2_with fail
    refine (S w2 (hE.below hB2) (Nat.le_trans hk8 hB2.size)).mono ?_
    rintro e w3 ⟨rfl, hb3⟩
    have hB3 := below_end hB2 hb3
    go_wp2
    go_ret
    exact ⟨by simp, hB3⟩
  | inl l =>
    rw [hr] at S C1
    obtain ⟨hf, hc⟩ := prsR_row hr
    rw [cp_zero hc] at C1
    simp only [PaPost] at S
    have h256 := (check_zero hc).1
    have PR := fun av cap w hE hr hcap hk8 => print_any av cap l w (by omega) hf hE hr hcap hk8
    rw [hc] at PR
    have hpl := prnt_len hc
    by_cases hlong : 1023 < (prnt l).length
    · have e : cont (prnt l) = ([], 2) := if_pos hlong
      rw [e] at C1
      generalize prnt l = u at *
      have hli : (1023 : Int) < (u.length : Int) := by omega
      clear hr e hf hc h256 hpl hlong hsz hs
      go_enter Tryz.func6, Tryz.ntmps6
      go_wp2_with fail
      refine A.mono ?_
      rintro e w1 ⟨rfl, hb1⟩
      go_wp2_with fail
      refine (C1 w1 (hE.below hb1) (Nat.le_trans hk8 hb1.size)).mono ?_
      rintro e w2 ⟨rfl, hb2⟩
      have hB2 := below_end hb1 hb2
      go_wp2_with fail
      refine (S w2 (hE.below hB2) (Nat.le_trans hk8 hB2.size)).mono ?_
      rintro e w3 ⟨⟨v, rfl, hown⟩, hb3⟩
      have hB3 := below_end hB2 hb3
      obtain ⟨av, cap, rfl, hrd⟩ := hown.form
      have hcap := ownN_cap hown
      clear hown
      go_wp2_with fail
      refine (PR av cap w3 (hE.below hB3) hrd hcap (Nat.le_trans hk8 hB3.size)).mono ?_
      rintro e w4 ⟨rfl, hb4⟩
      have hB4 := below_end hB3 hb4
      go_wp2
      go_ret
      exact ⟨by simp, hB4⟩
    · have e : cont (prnt l) = (61 :: prnt l, 0) := if_neg hlong
      rw [e] at C1
      have C3 := fun w hE hk8 => copy_any ⟨(61 :: prnt l).toArray⟩ 0 0 w hE hk8 (by show (61 :: prnt l).length ≤ _; simp; omega)
      have e2 : (⟨(61 :: prnt l).toArray⟩ : ByteArray).data.toList = 61 :: prnt l := by simp
      rw [e2, cp_again hc (by omega)] at C3
      simp only at C1 C3
      have hcat := cat_eq (prnt l)
      generalize prnt l = u at *
      have hli : ¬ (1023 : Int) < (u.length : Int) := by omega
      have hl : ¬ 9223372036854775807 < 1 + u.length := by omega
      have HW : Hid (∃ q : ByteArray, (⟨(61 :: u).toArray⟩ : ByteArray) = q) := ⟨_, rfl⟩
      obtain ⟨q, hq⟩ := HW.out
      rw [hq] at C1 C3 hcat
      clear hr e e2 hf hc h256 hpl hlong hq hsz hs HW
      go_enter Tryz.func6, Tryz.ntmps6
      go_wp2_with fail
      refine A.mono ?_
      rintro e w1 ⟨rfl, hb1⟩
      go_wp2_with fail
      refine (C1 w1 (hE.below hb1) (Nat.le_trans hk8 hb1.size)).mono ?_
      rintro e w2 ⟨rfl, hb2⟩
      have hB2 := below_end hb1 hb2
      go_wp2_with fail
      refine (S w2 (hE.below hB2) (Nat.le_trans hk8 hB2.size)).mono ?_
      rintro e w3 ⟨⟨v, rfl, hown⟩, hb3⟩
      have hB3 := below_end hB2 hb3
      obtain ⟨av, cap, rfl, hrd⟩ := hown.form
      have hcap := ownN_cap hown
      clear hown
      go_wp2_with fail
      refine (PR av cap w3 (hE.below hB3) hrd hcap (Nat.le_trans hk8 hB3.size)).mono ?_
      rintro e w4 ⟨rfl, hb4⟩
      have hB4 := below_end hB3 hb4
      go_wp2_with fail
      refine (C3 w4 (hE.below hB4) (Nat.le_trans hk8 hB4.size)).mono ?_
      rintro e w5 ⟨rfl, hb5⟩
      have hB5 := below_end hB4 hb5
      go_wp2
      go_ret
      exact ⟨by simp, hB5⟩
theorem mtexts_main (b : ByteArray) (w : World) (hE : Env w) (hk8 : 8 ≤ w.heap.size) (hs : b.size ≤ 9223372036854775807) :
    Calls Tryz.prog 6 #[.string b] w fun e w' => e = .returned (.bool true) ∧ Below w.heap.size w w' := by
  by_cases hh : b.data.toList.head? = some 61
  · obtain ⟨t, ht⟩ : ∃ t, b.data.toList = 61 :: t := by
      cases hq : b.data.toList with
      | nil => rw [hq] at hh; cases hh
      | cons c t => rw [hq] at hh; obtain rfl := Option.some.inj hh; exact ⟨t, rfl⟩
    have hb : b = ⟨(61 :: t).toArray⟩ := by have := back_arr b; rw [ht] at this; exact this.symm
    have htl : b.size = t.length + 1 := by rw [hb]; rfl
    rw [hb]
    exact mtexts_eq t w hE hk8 (by omega)
  · exact mtexts_no b w hE hk8 hs hh
end Go.Proofs.YtalkiggclckcdaaGreatDoor
