/- MPlain, TCopy, TPrint, TRtD, TAblP, MCopyP, MWalkE, MWalkF, MLawTwice, MWalkG. -/
import Derived.Test.YtalkiggclckcdaaGreatDoorQ45
import Derived.Laws.AppendOwn
import Derived.Laws.AppendOwnNone
import Derived.BigFrame
import Derived.Deep.RegionHeld3
namespace Go.Proofs.YtalkiggclckcdaaGreatDoor
open Go.RowKit
set_option linter.unusedVariables false
theorem mvN_k (x y : Int) (n : Wt.Nd) : (mvN x y n).k = n.k ∨ ((n.k = 2 ∨ n.k = 3) ∧ mvN x y n = lostN) := by
  unfold mvN
  split
  · rename_i h
    split
    · exact Or.inl rfl
    · exact Or.inr ⟨Or.inl h, rfl⟩
  · split
    · rename_i h
      split
      · exact Or.inl rfl
      · exact Or.inr ⟨Or.inr h, rfl⟩
    · exact Or.inl rfl
open Go.RowKit Go.Shelf
theorem wp_copyN {o : Oper} {a : Act} {K : Act → World → Prop} {Q : Exit → Act → World → Prop} (s x : Operand) (ho : o.op = .call { callee := .builtin .append, args := #[s, x], argTypes := #[23, 23] })
    (w : World) (hs : a.eval s = .slice (some ⟨w.heap.size, 0, none⟩) 0 0) (av : Option Addr) (L : List Wt.Nd) (cap : Nat) (hx : a.eval x = .slice av L.length cap) (hr : RdN w av L) (hno : av = none → L.length = 0 ∧ cap = 0) (hl : True → L.length ≤ 799644820177)
    (h : ∀ v' w', OwnN w' w.heap.size v' L → Below w.heap.size w w' → K (a.put o.dst v') w') : o.wp Tryz.prog a (w.alloc (.cells #[] 37)) K Q := by
  obtain ⟨i0, hi0, hz0, hz1, hz2⟩ := info_parts nodeInfo
  have hl := hl trivial
  have hBa := ball (Below.refl _ w) (.cells #[] 37)
  have hown : (w.alloc (.cells #[] 37)).ownsRow w.heap.size 37 20 (.slice (some ⟨w.heap.size, 0, none⟩) 0 0) 0 [] := ⟨rfl, .inr ⟨w.heap.size, 0, #[], rfl, Nat.le_refl _, heap_alloc_new w _, Nat.le_refl _, by unfold maxLen; omega, rfl, rfl⟩⟩
  cases av with
  | some ad =>
    refine wp_append_own _ s x 23 ho w.heap.size 37 i0 _ 20 176 Tryz.underlying23 hi0 hz0 hz1 hz2 rfl (by decide) _ 0 [] hs hown ad L.length cap (ndRow L) hx (ndRow_length L) ((hr.below hBa).flat ad rfl) (ndRow_all L) (by unfold maxLen; omega) (by omega) (by simp only [World.size_alloc]; omega) ?_
    intro v' w' own hg _
    rw [Nat.zero_add, List.nil_append] at own
    refine h v' w' own (hBa.grown hg (by simp only [World.size_alloc]; omega) (fun k e => by simp [Value.ownBlock] at e; omega))
  | none =>
    obtain ⟨h0, rfl⟩ := hno rfl
    have hL : L = [] := List.eq_nil_of_length_eq_zero h0
    subst hL
    have hrun := run_append_owned_none (P := Tryz.prog) (w := w.alloc (.cells #[] 37)) w.heap.size 23 o.type 37 i0 20 Tryz.underlying23 hi0 _ 0 [] hown
    have hx : a.eval x = .slice none 0 0 := hx
    unfold Oper.wp
    simp only [execOp, ho, resolve, invoke, builtin, Sem.run_bind, Sem.run_pure, Result.andThen_ok, List.map_toArray, List.map_cons, List.map_nil, hs, hx, hrun]
    exact h _ _ hown hBa
theorem wpList_copyN {ops : Array Oper} {rest : List Oper} {o : Oper} {a : Act} {Q : Exit → Act → World → Prop} (hw : Region.wanted o (yielded ops a.tmps) = true) (s x : Operand) (ho : o.op = .call { callee := .builtin .append, args := #[s, x], argTypes := #[23, 23] })
    (w : World) (hs : a.eval s = .slice (some ⟨w.heap.size, 0, none⟩) 0 0) (av : Option Addr) (L : List Wt.Nd) (cap : Nat) (hx : a.eval x = .slice av L.length cap) (hr : RdN w av L) (hno : av = none → L.length = 0 ∧ cap = 0) (hl : True → L.length ≤ 799644820177)
    (h : ∀ v' w', OwnN w' w.heap.size v' L → Below w.heap.size w w' → wpList Tryz.prog ops Q rest (a.put o.dst v') w') : wpList Tryz.prog ops Q (o :: rest) a (w.alloc (.cells #[] 37)) :=
  BigFrame.wpList_want hw fun _ hK => wp_copyN s x ho w hs av L cap hx hr hno hl fun v' w' h1 h2 => hK _ _ (h v' w' h1 h2)
theorem dd_pos (n : Nat) : 0 < (Lib.decDigits n).length := by
  rw [Lib.decDigits]
  split
  · simp
  · simp
theorem txt_pos (N : Int) (D : Nat) : 0 < (Wnum.txt N D).length := by
  unfold Wnum.txt
  rw [List.length_append]
  split
  · simp only [List.length_append, List.length_cons]; omega
  split
  · have := dd_pos (N.natAbs / D); omega
  · simp only [List.length_append, List.length_cons]; omega
theorem litT_pos {v : Wt.Vl} (h : Wt.vlOk v = true) : 0 < (litT v).length := by
  unfold litT
  split
  · exact txt_pos _ _
  split
  · simp
  split
  · split <;> decide
  rename_i h1 h2 h3
  unfold Wt.vlOk at h
  split at h
  · cases h
  unfold Wv.right at h
  rw [if_neg (by assumption), if_neg h1, if_neg h2, if_neg h3] at h
  split at h
  · simp only [Bool.and_eq_true, decide_eq_true_eq, Wv.flt] at h
    have hf := h.1.1.1.1
    obtain ⟨g, hg⟩ : ∃ g : Nat, v.f = g := ⟨v.f.toNat, by omega⟩
    rw [hg, Int.toNat_natCast]
    have : g = 1 ∨ g = 2 ∨ g = 3 ∨ g = 4 ∨ g = 5 ∨ g = 6 ∨ g = 7 ∨ g = 8 := by omega
    rcases this with rfl | rfl | rfl | rfl | rfl | rfl | rfl | rfl <;> decide
  · cases h
theorem celT_pos (a : Wt.Rf) : 0 < (celT a).length := by
  have : 0 < (cw a).length := by
    unfold cw
    have := dd_pos (a.r + 1).toNat
    simp only [List.length_append]; omega
  unfold celT
  split
  · exact this
  · simp only [List.length_append, List.length_cons]; omega
theorem mrk_pos {x : Wt.Nd} {o : Int × List UInt8 × Int} (h : Wt.opOf x.op = some o) : 0 < (mrk x).length := by
  unfold mrk
  rw [h]
  have := List.mem_of_find?_eq_some h
  simp only [Wt.opsT, List.mem_cons, List.not_mem_nil, or_false] at this
  rcases this with rfl | rfl | rfl | rfl | rfl | rfl | rfl | rfl | rfl | rfl | rfl | rfl | rfl | rfl | rfl <;> decide
theorem pr_pos {f : Nat} {l : List Wt.Nd} {s d : Nat} (h : Wt.one f l = some (s, d)) (least : Int) : 0 < (pr f least l).1.length := by
  cases f with
  | zero => simp [Wt.one] at h
  | succ f =>
    cases l with
    | nil => simp [Wt.one] at h
    | cons x r =>
      obtain ⟨hx, a, b, hm, rfl, rfl⟩ := one_unf h
      have hK := right_knd hx
      have : 0 < (prN (pr f) x r).1.length := by
        unfold prN
        rcases knd_tgh hK with ⟨h7, -, hk⟩ | ⟨h56, hp, o, ho⟩ | ⟨h04, hp, o, ho⟩
        · rw [if_pos h7]
          unfold prS
          rcases hK with ⟨h, h1, e⟩ | ⟨h, h1, e⟩ | ⟨h, h1, h2, h3, e⟩ | ⟨h, h2, -⟩ | ⟨h, h2, -⟩ | ⟨h, h1, h2, h3, e⟩
          · rw [if_pos h]; exact litT_pos h1
          · rw [if_neg (by omega), if_pos h]; exact celT_pos _
          · rw [if_neg (by omega), if_neg (by omega), if_pos h]; simp only [List.length_append, List.length_cons]; omega
          · omega
          · omega
          · rw [if_neg (by omega), if_neg (by omega), if_neg (by omega)]; simp only [List.length_append, List.length_cons]; omega
        · have := mrk_pos ho
          rw [if_neg (by omega)]
          split
          · simp only [List.length_append]; omega
          split
          · simp only [List.length_append]; omega
          · simp only [List.length_append]; omega
        · have := mrk_pos ho
          rw [if_neg (by omega), if_neg (by omega), if_neg (by omega)]
          simp only [List.length_append]; omega
      simp only [pr]
      split
      · exact this
      · simp
def prnt (L : List Wt.Nd) : List UInt8 := if Wt.check L = 0 then (pr (L.length + 1) 0 L).1 else []
set_option maxRecDepth 100000 in
set_option maxHeartbeats 4000000 in
theorem print_any (av : Option Addr) (cap : Nat) (L : List Wt.Nd) (w : World) (hL : L.length ≤ 9223372036854775807) (hF : ∀ x ∈ L, Wt.FitN x) (hE : Env w) (hr : RdN w av L) (hcap : L.length ≤ cap) (hk8 : 8 ≤ w.heap.size) :
    Calls Tryz.prog 15 #[.slice av L.length cap] w fun e w' => e = .returned (.tuple #[.string ⟨(prnt L).toArray⟩, .int .i64 (Wt.check L)]) ∧ Below w.heap.size w w' := by
  have CK := check_any av cap L w hL hF hE.1 hr
  unfold prnt
  by_cases hc : Wt.check L = 0
  · rw [if_pos hc]
    rw [hc] at CK ⊢
    obtain ⟨h256, d, hone, hd⟩ := check_zero hc
    have hpos := pr_pos hone 0
    have hlen := (pr_ok _ _ _ _ hone 0).2
    have PP := fun kw => part_any kw (L.length + 1) 0 L
    clear hc
    generalize (pr (L.length + 1) 0 L).1 = tx at *
    go_enter Tryz.func15, Tryz.ntmps15
    go_wp2_with fail
    refine CK.mono ?_
    rintro e w1 ⟨rfl, hb⟩
    have hE1 := hE.below hb
    have hr1 := hr.below hb
    have hs1 := hb.size
    have hB2 := ball hb (.cells #[.pointer none, .slice none 0 0, .slice av L.length cap] 79)
    have hS2 : WSt (w1.alloc (.cells #[.pointer none, .slice none 0 0, .slice av L.length cap] 79)) w1.heap.size [] L := by
      refine ⟨av, cap, hcap, Or.inl ⟨Nat.le_refl _, .slice none 0 0, heap_alloc_new w1 _, World.ownsRow_nil _ _ _ _, by simp [Value.ownBlock]⟩, fun i hi => ?_⟩
      obtain ⟨bb, off, e, hx⟩ := hr1 i hi
      have hlt : bb < w1.heap.size := World.block_lt_of_cell? _ _ (hx 0 _ rfl)
      exact ⟨bb, off, e, hlt, fun j v hv => cell_below (ball (Below.refl _ w1) _) (hx j v hv)⟩
    have hE2 := hE.below hB2
    go_wp2_with fail
    refine (PP w1.heap.size [] _ L.length d hF hone hS2 hE2 (by omega) (by simp only [List.length_nil]; omega)).mono ?_
    rintro e w3 ⟨rfl, hS3, hF3⟩
    obtain ⟨av', cap', -, hI, -⟩ := hS3
    rw [List.nil_append] at hI
    have ST := wstr_any _ _ _ _ w3 hI (fun e => by rw [e] at hpos; simp at hpos)
    have hB3 : Below w.heap.size w w3 := hB2.trans (hF3.1.mono hs1)
    go_wp2_with fail
    refine ST.mono ?_
    rintro e w4 ⟨rfl, hb4⟩
    go_wp2
    go_ret2
    exact ⟨rfl, hB3.trans (hb4.mono hs1)⟩
  · rw [if_neg hc]
    generalize Wt.check L = ck at *
    have hci : (ck != 0) = true := by simp [hc]
    go_enter Tryz.func15, Tryz.ntmps15
    go_wp2_with fail
    refine CK.mono ?_
    rintro e w1 ⟨rfl, hb⟩
    go_wp2
    go_ret2
    exact ⟨rfl, hb⟩
theorem prnt_read {L : List Wt.Nd} (hc : Wt.check L = 0) (hl : (prnt L).length ≤ 1024) : prsR (prnt L) = .inl L := by
  obtain ⟨h256, d, hone, hd⟩ := check_zero hc
  have hp : prnt L = (pr (L.length + 1) 0 L).1 := by unfold prnt; rw [if_pos hc]
  obtain ⟨T, t1, t2, t3, t4⟩ := pr_rt _ _ _ _ hone 0 (by omega)
  rw [List.take_length] at t4
  rw [show (((0 : Nat)) : Int) = 0 from rfl, ← hp] at t1
  obtain ⟨ts, o1, o2⟩ := t1 0 [] [] Wlx.Aft.nil (Wlx.Ok.nil _)
  rw [List.append_nil, List.append_nil] at o1
  have hrep : Rep (ts.map Wlx.tv) T := by
    unfold Rep
    rw [← o2, List.map_map, List.map_map]
    rfl
  have hlv := par_form t4 (en := ((prnt L).length : Int)) (f := 10 * (ts.map Wlx.tv).length + 9) (tl := []) hrep (fun c q e => by cases e) (fun j => rfl) (by rw [hrep.len]; omega)
  rw [List.append_nil] at hlv
  rw [prsR_of hl o1 hlv, if_pos hc]
def abR : Wt.Rf := ⟨⟨#[]⟩, 0, 0, false, false⟩
theorem dd_1 : Lib.decDigits 1 = [49] := by rw [Lib.decDigits_one (by decide)]; rfl
theorem cw_A1 : cw abR = [65, 49] := by
  unfold cw
  show fx false ++ Wpl.colS 0 ++ fx false ++ Lib.decDigits 1 = _
  rw [dd_1]; decide
def t1 : Wlx.TV := ⟨1, [49], 0⟩
def t2 : Wlx.TV := ⟨5, [43], 1⟩
def t3 : Wlx.TV := ⟨3, [65, 49], 2⟩
theorem more_not {sub : List Wlx.TV → PR} {k : Int} {n : Nat} {row : List Wt.Nd} {ts : List Wlx.TV} (h : tkOp k ts = none) : more sub k n row ts = .inl (row, ts) := by cases n with
  | zero => rfl
  | succ n => simp only [more, h]
theorem up {en : Int} {f k : Nat} {ts r : List Wlx.TV} {row : List Wt.Nd} (hk : k < 5) (h : lv en f (k + 1) ts = .inl (row, r)) (hn : tkOp k r = none) : lv en (f + 1) k ts = .inl (row, r) := by
  rw [lv_bt _ _ _ hk]; unfold pbt; rw [h]; exact more_not hn
def cont (u : List UInt8) : List UInt8 × Int := if 1023 < u.length then ([], 2) else (61 :: u, 0)
def cpF (x y : Int) (r : List Wt.Nd ⊕ (Int × Int)) : List UInt8 × Int := match r with
  | .inr (c, _) => ([], c)
  | .inl row => cont (prnt (row.map (mvN x y)))
def cpR (x y : Int) (l : List UInt8) : List UInt8 × Int := if l.head? = some 61 then cpF x y (prsR l.tail) else (l, 0)
theorem prnt_len {L : List Wt.Nd} (hc : Wt.check L = 0) : (prnt L).length ≤ 256000 := by
  obtain ⟨h256, d, hone, hd⟩ := check_zero hc
  have h := (pr_ok _ _ _ _ hone 0).2
  unfold prnt
  rw [if_pos hc]
  omega
def cA (r : Int) : Wt.Nd := ⟨2, Wt.v0, 0, ⟨#[]⟩, 0, ⟨⟨#[]⟩, r, 0, false, false⟩, Wt.r0⟩
theorem dd_2 : Lib.decDigits 2 = [50] := by rw [Lib.decDigits_one (by decide)]; rfl
theorem cw_A2 : cw ⟨⟨#[]⟩, 1, 0, false, false⟩ = [65, 50] := by
  unfold cw
  show fx false ++ Wpl.colS 0 ++ fx false ++ Lib.decDigits 2 = _
  rw [dd_2]; decide
theorem chk_A (r : Int) (h : r = 0 ∨ r = 1) : Wt.check [cA r] = 0 := by
  rcases h with rfl | rfl <;> decide +kernel
theorem prnt_A (r : Int) (h : r = 0 ∨ r = 1) : prnt [cA r] = cw ⟨⟨#[]⟩, r, 0, false, false⟩ := by
  unfold prnt
  rw [if_pos (chk_A r h)]
  rfl
theorem prs_A1 : prsR [65, 49] = .inl [cA 0] := by
  have h : prnt [cA 0] = [65, 49] := by rw [prnt_A 0 (Or.inl rfl)]; exact cw_A1
  have := prnt_read (chk_A 0 (Or.inl rfl)) (by rw [h]; decide)
  rw [h] at this
  exact this
theorem cpR_eq (x y : Int) (t : List UInt8) : cpR x y (61 :: t) = cpF x y (prsR t) := if_pos (show (61 :: t).head? = some 61 from rfl)
theorem cp_able : cpR 1 0 [61, 65, 49] = ([61, 65, 50], 0) := by
  rw [cpR_eq, prs_A1]
  have e : [cA 0].map (mvN 1 0) = [cA 1] := by
    show [mvN 1 0 (cA 0)] = [cA 1]
    have : mvN 1 0 (cA 0) = cA 1 := (eqN_iff _ _).1 (by decide +kernel)
    rw [this]
  unfold cpF
  simp only [e]
  unfold cont
  rw [prnt_A 1 (Or.inr rfl), cw_A2, if_neg (by decide)]
theorem ownN_cap {w : World} {B n cap : Nat} {av : Option Addr} {row : List Wt.Nd} (h : OwnN w B (.slice av n cap) row) : row.length ≤ cap := by
  rcases h.2 with ⟨e, h0⟩ | ⟨g, cap', cur, e, hg, hc, h1, _⟩
  · omega
  · simp only [Value.slice.injEq] at e
    omega
theorem cute_no (s : ByteArray) (w : World) (hx : ¬ s.data.toList.head? = some 61) :
    Calls Tryz.prog 23 #[.string s, .string ⟨#[61]⟩] w fun e w' => e = .returned (.tuple #[.string s, .bool false]) ∧ w = w' := by
  by_cases h0 : 0 < s.size
  · have h1 : (1 : Int) ≤ (s.size : Int) := by omega
    have hx1 : ((s.extract 0 1).toList == [61]) = false := by
      rw [beq_eq_false_iff_ne]
      intro e
      apply hx
      rw [ByteArray.toList_eq, ByteArray.data_extract, Array.toList_extract] at e
      cases hq : s.data.toList with
      | nil => rw [hq] at e; simp at e
      | cons c t => rw [hq] at e; simp [List.extract] at e; rw [e]; rfl
    clear hx
    go_enter Tryz.func23, Tryz.ntmps23
    go_wp2
    go_ret2
    exact ⟨rfl, rfl⟩
  · have h1 : ¬ (1 : Int) ≤ (s.size : Int) := by omega
    clear hx
    go_enter Tryz.func23, Tryz.ntmps23
    go_wp2
    go_ret2
    exact ⟨rfl, rfl⟩
theorem cute_yes (t : List UInt8) (w : World) (ht : t.length ≤ 9223372036854775806) :
    Calls Tryz.prog 23 #[.string ⟨(61 :: t).toArray⟩, .string ⟨#[61]⟩] w fun e w' => e = .returned (.tuple #[.string ⟨t.toArray⟩, .bool true]) ∧ w = w' := by
  obtain ⟨s, hs⟩ : ∃ s : ByteArray, s = ⟨(61 :: t).toArray⟩ := ⟨_, rfl⟩
  have h0 : s.size = t.length + 1 := by rw [hs]; rfl
  have hx1 : ((s.extract 0 1).toList == [61]) = true := by rw [hs]; simp [ByteArray.toList_eq, ByteArray.data_extract, List.extract]
  have hx2 : s.extract 1 s.size = ⟨t.toArray⟩ := by
    rw [h0, hs]
    apply ByteArray.ext
    rw [ByteArray.data_extract]
    apply Array.ext'
    simp [List.extract]
  have h1 : (1 : Int) ≤ (s.size : Int) := by omega
  rw [← hs]
  clear hs h0
  go_enter Tryz.func23, Tryz.ntmps23
  go_wp2
  go_ret2
  exact ⟨rfl, rfl⟩
theorem cat_eq (u : List UInt8) : (⟨#[61]⟩ : ByteArray) ++ ⟨u.toArray⟩ = ⟨(61 :: u).toArray⟩ := by
  apply ByteArray.ext
  rw [ByteArray.data_append]
  apply Array.ext'
  simp
theorem cont_any (u : List UInt8) (w : World) (hu : True → u.length ≤ 1000000) :
    Calls Tryz.prog 24 #[.string ⟨u.toArray⟩] w fun e w' => e = .returned (.tuple #[.string ⟨(cont u).1.toArray⟩, .int .i64 (cont u).2]) ∧ w = w' := by
  have hc := cat_eq u
  have hl : ¬ 9223372036854775807 < 1 + u.length := by have := hu trivial; omega
  unfold cont
  by_cases h : 1023 < u.length
  · rw [if_pos h]
    have hi : (1024 : Int) < (u.length : Int) + 1 := by omega
    clear hu h
    go_enter Tryz.func24, Tryz.ntmps24
    go_wp2
    go_ret2
    exact ⟨rfl, rfl⟩
  · rw [if_neg h]
    have hi : ¬ (1024 : Int) < (u.length : Int) + 1 := by omega
    clear hu h
    go_enter Tryz.func24, Tryz.ntmps24
    go_wp2
    go_ret2
    exact ⟨rfl, rfl⟩
set_option maxRecDepth 100000 in
set_option maxHeartbeats 4000000 in
theorem copy_any (b : ByteArray) (x y : Int) (w : World) (hE : Env w) (hk8 : 8 ≤ w.heap.size) (hs : b.size ≤ 9223372036854775807) :
    Calls Tryz.prog 14 #[.string b, .int .i64 x, .int .i64 y] w fun e w' => e = .returned (.tuple #[.string ⟨(cpR x y b.data.toList).1.toArray⟩, .int .i64 (cpR x y b.data.toList).2]) ∧ Below w.heap.size w w' := by
  by_cases hh : b.data.toList.head? = some 61
  · obtain ⟨t, ht⟩ : ∃ t, b.data.toList = 61 :: t := by
      cases hq : b.data.toList with
      | nil => rw [hq] at hh; cases hh
      | cons c t => rw [hq] at hh; obtain rfl := Option.some.inj hh; exact ⟨t, rfl⟩
    have hb : b = ⟨(61 :: t).toArray⟩ := by
      have : b = ⟨b.data.toList.toArray⟩ := by rw [Array.toArray_toList]
      rw [this, ht]
    have htl : t.length ≤ 9223372036854775806 := by
      have : b.size = t.length + 1 := by rw [hb]; rfl
      omega
    have CU := fun w => cute_yes t w htl
    have S := fun w hE hk8 => parse_any ⟨t.toArray⟩ w hE (by show t.length ≤ _; omega) hk8
    have e0 : (⟨t.toArray⟩ : ByteArray).data.toList = t := by simp
    rw [e0] at S
    rw [ht, cpR_eq, hb]
    clear hb ht hh hs e0 htl
    cases hr : prsR t with
    | inr q =>
      obtain ⟨c, p⟩ := q
      rw [hr] at S
      simp only [PaPost] at S
      have hc := prsR_code hr
      have hci : (c != 0) = true := by simp [hc]
      have e : cpF x y (.inr (c, p)) = ([], c) := rfl
      rw [e]
      clear hr e
      go_enter Tryz.func14, Tryz.ntmps14
      go_wp2_with fail
      refine (CU w).mono ?_
      rintro e w1 ⟨rfl, rfl⟩
      go_wp2_with fail
      refine (S w hE hk8).mono ?_
      rintro e w2 ⟨rfl, hb2⟩
      go_wp2
      go_ret2
      exact ⟨rfl, hb2⟩
    | inl row =>
      rw [hr] at S
      simp only [PaPost] at S
      obtain ⟨hf, hc⟩ := prsR_row hr
      have hc2 := check_mv hc x y
      have hpl := prnt_len hc2
      have hf2 : ∀ n ∈ row.map (mvN x y), Wt.FitN n := by
        intro n hn
        obtain ⟨m, hm, rfl⟩ := List.mem_map.1 hn
        exact fit_mv (hf m hm) x y
      have h256 := (check_zero hc).1
      have e : cpF x y (.inl row) = cont (prnt (row.map (mvN x y))) := rfl
      rw [e]
      have SH := fun av cap w hO hr => mshift_ok av cap row x y w hf hO hr hc
      have PR := fun av cap w hE hr hcap hk8 => print_any av cap (row.map (mvN x y)) w (by rw [List.length_map]; omega) hf2 hE hr hcap hk8
      rw [hc2] at PR
      obtain ⟨m, hm⟩ : ∃ m, row.map (mvN x y) = m := ⟨_, rfl⟩
      rw [hm] at SH PR hpl ⊢
      generalize prnt m = u at *
      have CT := fun w => cont_any u w (fun _ => by omega)
      generalize cont u = q at *
      clear hr e hf hc hc2 hf2 hpl h256 hm
      go_enter Tryz.func14, Tryz.ntmps14
      go_wp2_with fail
      refine (CU w).mono ?_
      rintro e w1 ⟨rfl, rfl⟩
      go_wp2_with fail
      refine (S w hE hk8).mono ?_
      rintro e w2 ⟨⟨v, rfl, hown⟩, hb2⟩
      obtain ⟨av, cap, rfl, hrd⟩ := hown.form
      clear S CU hown
      go_wp2_with fail
      refine (SH av cap w2 (hE.below hb2).1 hrd).mono ?_
      rintro e w3 ⟨⟨v, rfl, hown⟩, hb3⟩
      have hB3 := below_end hb2 hb3
      obtain ⟨av3, cap3, rfl, hrd3⟩ := hown.form
      have hcap := ownN_cap hown
      clear SH hrd hb3 hown
      go_wp2_with fail
      refine (PR av3 cap3 w3 (hE.below hB3) hrd3 hcap (Nat.le_trans hk8 hB3.size)).mono ?_
      rintro e w4 ⟨rfl, hb4⟩
      have hB4 := below_end hB3 hb4
      clear PR hrd3 hcap
      go_wp2_with fail
      refine (CT w4).mono ?_
      rintro e w5 ⟨rfl, rfl⟩
      go_wp2
      go_ret2
      exact ⟨rfl, hB4⟩
  · have CU := fun w => cute_no b w hh
    have e : cpR x y b.data.toList = (b.data.toList, 0) := if_neg hh
    have e2 : (⟨b.data.toList.toArray⟩ : ByteArray) = b := by rw [Array.toArray_toList]
    rw [e]
    simp only
    rw [e2]
    clear e e2 hh
    go_enter Tryz.func14, Tryz.ntmps14
    go_wp2_with fail
    refine (CU w).mono ?_
    rintro e w1 ⟨rfl, rfl⟩
    go_wp2
    go_ret2
    exact ⟨rfl, Below.refl _ _⟩
set_option maxRecDepth 100000 in
theorem mable_any (w : World) (hE : Env w) (hk8 : 8 ≤ w.heap.size) : Calls Tryz.prog 8 #[] w fun e w' => e = .returned (.bool true) ∧ Below w.heap.size w w' := by
  have C := copy_any ⟨#[61, 65, 49]⟩ 1 0 w hE hk8 (by decide)
  have e0 : (⟨#[61, 65, 49]⟩ : ByteArray).data.toList = [61, 65, 49] := rfl
  rw [e0, cp_able] at C
  clear e0
  go_enter Tryz.func8, Tryz.ntmps8
  go_wp2_with fail
  refine C.mono ?_
  rintro e w1 ⟨rfl, hb⟩
  go_wp2
  go_ret
  exact ⟨by simp, hb⟩
theorem wpList_copyM {ops : Array Oper} {rest : List Oper} {o : Oper} {a : Act} {Q : Exit → Act → World → Prop} (hw : Region.wanted o (yielded ops a.tmps) = true) (s x : Operand) (ho : o.op = .call { callee := .builtin .append, args := #[s, x], argTypes := #[23, 23] })
    (w : World) (hs : a.eval s = .slice (some ⟨w.heap.size, 0, none⟩) 0 0) (av : Option Addr) (L : List Wt.Nd) (n : Nat) (hn : n = L.length) (cap : Nat) (hx : a.eval x = .slice av n cap) (hr : RdN w av L) (hno : av = none → L.length = 0 ∧ cap = 0) (hl : True → L.length ≤ 799644820177)
    (h : ∀ v' w', OwnN w' w.heap.size v' L → Below w.heap.size w w' → wpList Tryz.prog ops Q rest (a.put o.dst v') w') : wpList Tryz.prog ops Q (o :: rest) a (w.alloc (.cells #[] 37)) := by
  subst hn
  exact wpList_copyN hw s x ho w hs av L cap hx hr hno hl h
set_option maxHeartbeats 2000000 in
theorem moved_ff (s : ByteArray) (r c r' c' x y : Int) (h1 : IntKind.i64.wrap (r' - r) = x) (h2 : IntKind.i64.wrap (c' - c) = y) (w : World) :
    Calls Tryz.prog 13 #[.agg #[.string s, .int .i64 r, .int .i64 c, .bool false, .bool false], .agg #[.string s, .int .i64 r', .int .i64 c', .bool false, .bool false], .int .i64 x, .int .i64 y] w fun e w' => e = .returned (.bool true) ∧ Below w.heap.size w w' := by
  have pA := (AtL.new0 w 35 [.string s, .int .i64 r, .int .i64 c, .bool false, .bool false]).alloc (.cells #[.string s, .int .i64 r', .int .i64 c', .bool false, .bool false] 35)
  have pB := AtL.new1 w (.cells #[.string s, .int .i64 r, .int .i64 c, .bool false, .bool false] 35) 35 [.string s, .int .i64 r', .int .i64 c', .bool false, .bool false]
  have hB := ball (ball (Below.refl _ w) (.cells #[.string s, .int .i64 r, .int .i64 c, .bool false, .bool false] 35)) (.cells #[.string s, .int .i64 r', .int .i64 c', .bool false, .bool false] 35)
  go_enter Tryz.func13, Tryz.ntmps13
  go_upto_region 1 with fail
  generalize (w.alloc (.cells #[.string s, .int .i64 r, .int .i64 c, .bool false, .bool false] 35)).alloc (.cells #[.string s, .int .i64 r', .int .i64 c', .bool false, .bool false] 35) = W at *
  obtain ⟨a0, a1, a2, a3, a4, f0, f1, f2, f3, f4⟩ := pA.five
  obtain ⟨b0, b1, b2, b3, b4, g0, g1, g2, g3, g4⟩ := pB.five
  go_wp2
  go_ret
  exact ⟨by simp, hB⟩
set_option maxHeartbeats 2000000 in
theorem moved_ft (s : ByteArray) (r c r' c' x y : Int) (h1 : IntKind.i64.wrap (r' - r) = x) (w : World) :
    Calls Tryz.prog 13 #[.agg #[.string s, .int .i64 r, .int .i64 c, .bool false, .bool true], .agg #[.string s, .int .i64 r', .int .i64 c, .bool false, .bool true], .int .i64 x, .int .i64 y] w fun e w' => e = .returned (.bool true) ∧ Below w.heap.size w w' := by
  have pA := (AtL.new0 w 35 [.string s, .int .i64 r, .int .i64 c, .bool false, .bool true]).alloc (.cells #[.string s, .int .i64 r', .int .i64 c, .bool false, .bool true] 35)
  have pB := AtL.new1 w (.cells #[.string s, .int .i64 r, .int .i64 c, .bool false, .bool true] 35) 35 [.string s, .int .i64 r', .int .i64 c, .bool false, .bool true]
  have hB := ball (ball (Below.refl _ w) (.cells #[.string s, .int .i64 r, .int .i64 c, .bool false, .bool true] 35)) (.cells #[.string s, .int .i64 r', .int .i64 c, .bool false, .bool true] 35)
  go_enter Tryz.func13, Tryz.ntmps13
  go_upto_region 1 with fail
  generalize (w.alloc (.cells #[.string s, .int .i64 r, .int .i64 c, .bool false, .bool true] 35)).alloc (.cells #[.string s, .int .i64 r', .int .i64 c, .bool false, .bool true] 35) = W at *
  obtain ⟨a0, a1, a2, a3, a4, f0, f1, f2, f3, f4⟩ := pA.five
  obtain ⟨b0, b1, b2, b3, b4, g0, g1, g2, g3, g4⟩ := pB.five
  go_wp2
  go_ret
  exact ⟨by simp, hB⟩
set_option maxHeartbeats 2000000 in
theorem moved_tf (s : ByteArray) (r c r' c' x y : Int) (h2 : IntKind.i64.wrap (c' - c) = y) (w : World) :
    Calls Tryz.prog 13 #[.agg #[.string s, .int .i64 r, .int .i64 c, .bool true, .bool false], .agg #[.string s, .int .i64 r, .int .i64 c', .bool true, .bool false], .int .i64 x, .int .i64 y] w fun e w' => e = .returned (.bool true) ∧ Below w.heap.size w w' := by
  have pA := (AtL.new0 w 35 [.string s, .int .i64 r, .int .i64 c, .bool true, .bool false]).alloc (.cells #[.string s, .int .i64 r, .int .i64 c', .bool true, .bool false] 35)
  have pB := AtL.new1 w (.cells #[.string s, .int .i64 r, .int .i64 c, .bool true, .bool false] 35) 35 [.string s, .int .i64 r, .int .i64 c', .bool true, .bool false]
  have hB := ball (ball (Below.refl _ w) (.cells #[.string s, .int .i64 r, .int .i64 c, .bool true, .bool false] 35)) (.cells #[.string s, .int .i64 r, .int .i64 c', .bool true, .bool false] 35)
  go_enter Tryz.func13, Tryz.ntmps13
  go_upto_region 1 with fail
  generalize (w.alloc (.cells #[.string s, .int .i64 r, .int .i64 c, .bool true, .bool false] 35)).alloc (.cells #[.string s, .int .i64 r, .int .i64 c', .bool true, .bool false] 35) = W at *
  obtain ⟨a0, a1, a2, a3, a4, f0, f1, f2, f3, f4⟩ := pA.five
  obtain ⟨b0, b1, b2, b3, b4, g0, g1, g2, g3, g4⟩ := pB.five
  go_wp2
  go_ret
  exact ⟨by simp, hB⟩
set_option maxHeartbeats 2000000 in
theorem moved_tt (s : ByteArray) (r c r' c' x y : Int) (w : World) :
    Calls Tryz.prog 13 #[.agg #[.string s, .int .i64 r, .int .i64 c, .bool true, .bool true], .agg #[.string s, .int .i64 r, .int .i64 c, .bool true, .bool true], .int .i64 x, .int .i64 y] w fun e w' => e = .returned (.bool true) ∧ Below w.heap.size w w' := by
  have pA := (AtL.new0 w 35 [.string s, .int .i64 r, .int .i64 c, .bool true, .bool true]).alloc (.cells #[.string s, .int .i64 r, .int .i64 c, .bool true, .bool true] 35)
  have pB := AtL.new1 w (.cells #[.string s, .int .i64 r, .int .i64 c, .bool true, .bool true] 35) 35 [.string s, .int .i64 r, .int .i64 c, .bool true, .bool true]
  have hB := ball (ball (Below.refl _ w) (.cells #[.string s, .int .i64 r, .int .i64 c, .bool true, .bool true] 35)) (.cells #[.string s, .int .i64 r, .int .i64 c, .bool true, .bool true] 35)
  go_enter Tryz.func13, Tryz.ntmps13
  go_upto_region 1 with fail
  generalize (w.alloc (.cells #[.string s, .int .i64 r, .int .i64 c, .bool true, .bool true] 35)).alloc (.cells #[.string s, .int .i64 r, .int .i64 c, .bool true, .bool true] 35) = W at *
  obtain ⟨a0, a1, a2, a3, a4, f0, f1, f2, f3, f4⟩ := pA.five
  obtain ⟨b0, b1, b2, b3, b4, g0, g1, g2, g3, g4⟩ := pB.five
  go_wp2
  go_ret
  exact ⟨by simp, hB⟩
theorem moved_any (a : Wt.Rf) (x y : Int) (hx : -9223372036854775808 ≤ x ∧ x ≤ 9223372036854775807) (hy : -9223372036854775808 ≤ y ∧ y ≤ 9223372036854775807) (hk : okR x y a = true) (w : World) :
    Calls Tryz.prog 13 #[.agg (rf5 a).toArray, .agg (rf5 (mvR x y a)).toArray, .int .i64 x, .int .i64 y] w fun e w' => e = .returned (.bool true) ∧ Below w.heap.size w w' := by
  rw [mvR_ok hk]
  have h := okR_iff.1 hk
  obtain ⟨s, r, c, fr, fc⟩ := a
  cases fr <;> cases fc <;> simp only [mvX] at h ⊢
  · exact moved_ff s r c (r + x) (c + y) x y (by rw [IntKind.wrap_i64]; simp at h; omega) (by rw [IntKind.wrap_i64]; simp at h; omega) w
  · have e : c + 0 = c := by omega
    simp only [rf5, if_true, e]
    exact moved_ft s r c (r + x) 0 x y (by rw [IntKind.wrap_i64]; simp at h; omega) w
  · have e : r + 0 = r := by omega
    simp only [rf5, if_true, e]
    exact moved_tf s r c 0 (c + y) x y (by rw [IntKind.wrap_i64]; simp at h; omega) w
  · have e : r + 0 = r := by omega
    have e2 : c + 0 = c := by omega
    simp only [rf5, if_true, e, e2]
    exact moved_tt s r c 0 0 x y w
end Go.Proofs.YtalkiggclckcdaaGreatDoor
