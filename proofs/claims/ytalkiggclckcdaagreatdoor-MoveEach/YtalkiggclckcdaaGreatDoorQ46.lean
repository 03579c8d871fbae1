/- PSlice, TPrint, TRtD, TAblP, MCopyP, MWalkE, MWalkF, PAppend, MWalkH. -/
import Derived.Test.YtalkiggclckcdaaGreatDoorQ45
import Derived.Deep.Slices
import Derived.Lib.SmallJoins
import Derived.SizedLaws
import Derived.Carry
import Derived.OwnWalk
import Derived.Laws.AppendOwnNone
import Derived.Laws.OwnMore
import Derived.Deep.LoopGhost
namespace Go.Proofs.YtalkiggclckcdaaGreatDoor
open Go.ChangeShapes Go.WideShapes Go.Deep
section
variable {H : Type} {enc : TypeId × Value → H} {P : Program} {w : World} {base : Nat} {spare : Nat → Bool} {held : Bool}
theorem open_rows {t e : TypeId} {fs : Array Field} {fuel : Nat} {cs : List Value} {x : DataW H × List MemPlace} (k : Nat) (ht : P.underlying t = some (.slice e)) (he : P.underlying e = some (.struct fs)) (ck : P.cellsOf e = k)
    (hf : ∀ c, c < k → ∃ f, fs[c]? = some f ∧ f.offset = c ∧ P.cellsOf f.type = 1 ∧ P.underlying f.type = some (.int .i64)) (h : DataW.trod enc P w base spare held fuel t cs = some x) :
    (cs = [.slice none 0 0] ∧ x = (.nil, [])) ∨
    ∃ (a : Addr) (len cap m : Nat) (D : Nat → DataW H) (G : Nat → Nat → Int), cs = [.slice (some a) len cap] ∧ len ≤ cap ∧ cap ≤ maxLen ∧ m = (if spare a.block then cap else len) ∧
      x.1 = .slice ((List.range len).map D) ((List.range (m - len)).map fun j => D (len + j)) ∧
      ∀ i c, i < m → c < k → w.cell? (a.add (i * k + c)) = some (.int .i64 (G i c)) ∧ (Lit.int .i64 (G i c)).wf = true := by
  rcases open_slice ht h with h0 | ⟨a, len, cap, m, n, D, Pl, rfl, hb, hl, hm, hmm, rfl, hx⟩
  · exact Or.inl h0
  right
  have each : ∀ i, i < m → ∃ g : Nat → Int, ∀ c, c < k → w.cell? (a.add (i * k + c)) = some (.int .i64 (g c)) ∧ (Lit.int .i64 (g c)).wf = true := by
    intro i hi
    obtain ⟨cs', h1, h2⟩ := hx i hi
    rw [ck] at h1
    obtain ⟨_, hlen, hcell⟩ := World.cells?_some h1
    obtain ⟨xs, q, _, _, _, hxl, hg⟩ := DataW.trod_struct he h2
    refine choose_lt (p := fun c v => w.cell? (a.add (i * k + c)) = some (.int .i64 v) ∧ (Lit.int .i64 v).wf = true) fun c hc => ?_
    obtain ⟨f, f1, f2, f3, f4⟩ := hf c hc
    have g1 := hg c f f1
    rw [f2, f3] at g1
    have hc' : c < cs'.length := by omega
    rw [List.drop_eq_getElem_cons hc', List.take_succ_cons, List.take_zero] at g1
    have hxc : c < xs.length := by rw [hxl]; exact (Array.getElem?_eq_some_iff.1 f1).1
    rw [List.getElem?_eq_getElem hxc] at g1
    obtain ⟨v, e1, _, e3⟩ := DataW.trod_int f4 g1
    simp only [List.cons.injEq, and_true] at e1
    have e2 := hcell c (by omega)
    rw [add_add] at e2
    refine ⟨v, ?_, e3⟩
    rw [e2, List.getElem?_eq_getElem hc', e1]
  obtain ⟨G, hG⟩ := choose_lt each
  exact ⟨a, len, cap, m, D, G, rfl, hl, hm, hmm, rfl, fun i c hi hc => hG i hi c hc⟩
theorem rows_arg {W : World} {r : Reach} {b0 : Nat} {t e : TypeId} {fs : Array Field} {v : Value} {d : DataW H} {p : List MemPlace} (k : Nat) (hk : 0 < k) (ht : P.underlying t = some (.slice e)) (he : P.underlying e = some (.struct fs)) (ck : P.cellsOf e = k)
    (hf : ∀ c, c < k → ∃ f, fs[c]? = some f ∧ f.offset = c ∧ P.cellsOf f.type = 1 ∧ P.underlying f.type = some (.int .i64)) (hv : Value.okWide P W r b0 t v) (h : DataW.Trod enc P W 0 (fun _ => true) true t v d p) :
    ∃ (av : Option Addr) (len cap : Nat) (G : Nat → Nat → Int), v = .slice av len cap ∧ (d = .nil ∧ av = none ∧ len = 0 ∧ cap = 0 ∨ ∃ el sp a, d = .slice el sp ∧ el.length + sp.length = cap ∧ len ≤ cap ∧ av = some a) ∧
      ∀ i, i < len → ∃ bb off, av = some ⟨bb, off, none⟩ ∧ bb < W.heap.size ∧ ∀ c, c < k → W.cell? ⟨bb, off + i * k + c, none⟩ = some (.int .i64 (G i c)) ∧ (Lit.int .i64 (G i c)).wf = true := by
  obtain ⟨a0, len, cap, rfl⟩ := okWide_slice ht hv
  obtain ⟨fuel, hg⟩ := h
  rcases open_rows k ht he ck hf hg with ⟨hcs, hx⟩ | ⟨a, len', cap', m, D, G, hcs, hl, hm, hmm, hx, hall⟩
  · simp [Value.cells] at hcs
    obtain ⟨rfl, rfl, rfl⟩ := hcs
    simp only [Prod.mk.injEq] at hx
    exact ⟨none, 0, 0, fun _ _ => 0, rfl, Or.inl ⟨hx.1, rfl, rfl, rfl⟩, fun i hi => absurd hi (Nat.not_lt_zero _)⟩
  · simp [Value.cells] at hcs
    obtain ⟨rfl, rfl, rfl⟩ := hcs
    simp only [if_true] at hmm
    subst hmm
    refine ⟨some a, len, m, G, rfl, Or.inr ⟨_, _, a, hx, by simp; omega, hl, rfl⟩, fun i hi => ?_⟩
    have c00 := (hall i 0 (by omega) hk).1
    have sp : (a.add (i * k + 0)).spot = none := World.cell?_spot c00
    have hlt : (a.add (i * k + 0)).block < W.heap.size := World.block_lt_of_cell? W _ c00
    obtain ⟨b, off, spot⟩ := a
    have hsp : spot = none ∧ b < W.heap.size := by
      unfold Addr.add at sp hlt
      by_cases h0 : i * k + 0 = 0
      · rw [if_pos h0] at sp hlt; exact ⟨sp, hlt⟩
      · have h1 := (hall 0 0 (by omega) hk).1
        have s1 : ((⟨b, off, spot⟩ : Addr).add (0 * k + 0)).spot = none := World.cell?_spot h1
        have l1 : ((⟨b, off, spot⟩ : Addr).add (0 * k + 0)).block < W.heap.size := World.block_lt_of_cell? W _ h1
        rw [Nat.zero_mul] at s1 l1
        exact ⟨s1, l1⟩
    obtain ⟨rfl, hbw⟩ := hsp
    refine ⟨b, off, rfl, hbw, fun c hc => ?_⟩
    have q := hall i c (by omega) hc
    rw [add_plain] at q
    rw [Nat.add_assoc]
    exact q
end
open Go.RowKit Go.Shelf
theorem dd_pos (n : Nat) : 0 < (Lib.decDigits n).length := by
  rw [Lib.decDigits]
  split
  · simp
  · simp
theorem txt_pos (N : Int) (D : Nat) : 0 < (Wnum.txt N D).length := by
  unfold Wnum.txt
  rw [List.length_append]
  split
  · simp only [List.length_append, List.length_cons]; omega
  split
  · have := dd_pos (N.natAbs / D); omega
  · simp only [List.length_append, List.length_cons]; omega
theorem litT_pos {v : Wt.Vl} (h : Wt.vlOk v = true) : 0 < (litT v).length := by
  unfold litT
  split
  · exact txt_pos _ _
  split
  · simp
  split
  · split <;> decide
  rename_i h1 h2 h3
  unfold Wt.vlOk at h
  split at h
  · cases h
  unfold Wv.right at h
  rw [if_neg (by assumption), if_neg h1, if_neg h2, if_neg h3] at h
  split at h
  · simp only [Bool.and_eq_true, decide_eq_true_eq, Wv.flt] at h
    have hf := h.1.1.1.1
    obtain ⟨g, hg⟩ : ∃ g : Nat, v.f = g := ⟨v.f.toNat, by omega⟩
    rw [hg, Int.toNat_natCast]
    have : g = 1 ∨ g = 2 ∨ g = 3 ∨ g = 4 ∨ g = 5 ∨ g = 6 ∨ g = 7 ∨ g = 8 := by omega
    rcases this with rfl | rfl | rfl | rfl | rfl | rfl | rfl | rfl <;> decide
  · cases h
theorem celT_pos (a : Wt.Rf) : 0 < (celT a).length := by
  have : 0 < (cw a).length := by
    unfold cw
    have := dd_pos (a.r + 1).toNat
    simp only [List.length_append]; omega
  unfold celT
  split
  · exact this
  · simp only [List.length_append, List.length_cons]; omega
theorem mrk_pos {x : Wt.Nd} {o : Int × List UInt8 × Int} (h : Wt.opOf x.op = some o) : 0 < (mrk x).length := by
  unfold mrk
  rw [h]
  have := List.mem_of_find?_eq_some h
  simp only [Wt.opsT, List.mem_cons, List.not_mem_nil, or_false] at this
  rcases this with rfl | rfl | rfl | rfl | rfl | rfl | rfl | rfl | rfl | rfl | rfl | rfl | rfl | rfl | rfl <;> decide
theorem pr_pos {f : Nat} {l : List Wt.Nd} {s d : Nat} (h : Wt.one f l = some (s, d)) (least : Int) : 0 < (pr f least l).1.length := by
  cases f with
  | zero => simp [Wt.one] at h
  | succ f =>
    cases l with
    | nil => simp [Wt.one] at h
    | cons x r =>
      obtain ⟨hx, a, b, hm, rfl, rfl⟩ := one_unf h
      have hK := right_knd hx
      have : 0 < (prN (pr f) x r).1.length := by
        unfold prN
        rcases knd_tgh hK with ⟨h7, -, hk⟩ | ⟨h56, hp, o, ho⟩ | ⟨h04, hp, o, ho⟩
        · rw [if_pos h7]
          unfold prS
          rcases hK with ⟨h, h1, e⟩ | ⟨h, h1, e⟩ | ⟨h, h1, h2, h3, e⟩ | ⟨h, h2, -⟩ | ⟨h, h2, -⟩ | ⟨h, h1, h2, h3, e⟩
          · rw [if_pos h]; exact litT_pos h1
          · rw [if_neg (by omega), if_pos h]; exact celT_pos _
          · rw [if_neg (by omega), if_neg (by omega), if_pos h]; simp only [List.length_append, List.length_cons]; omega
          · omega
          · omega
          · rw [if_neg (by omega), if_neg (by omega), if_neg (by omega)]; simp only [List.length_append, List.length_cons]; omega
        · have := mrk_pos ho
          rw [if_neg (by omega)]
          split
          · simp only [List.length_append]; omega
          split
          · simp only [List.length_append]; omega
          · simp only [List.length_append]; omega
        · have := mrk_pos ho
          rw [if_neg (by omega), if_neg (by omega), if_neg (by omega)]
          simp only [List.length_append]; omega
      simp only [pr]
      split
      · exact this
      · simp
def prnt (L : List Wt.Nd) : List UInt8 := if Wt.check L = 0 then (pr (L.length + 1) 0 L).1 else []
set_option maxRecDepth 100000 in
set_option maxHeartbeats 4000000 in
theorem print_any (av : Option Addr) (cap : Nat) (L : List Wt.Nd) (w : World) (hL : L.length ≤ 9223372036854775807) (hF : ∀ x ∈ L, Wt.FitN x) (hE : Env w) (hr : RdN w av L) (hcap : L.length ≤ cap) (hk8 : 8 ≤ w.heap.size) :
    Calls Tryz.prog 15 #[.slice av L.length cap] w fun e w' => e = .returned (.tuple #[.string ⟨(prnt L).toArray⟩, .int .i64 (Wt.check L)]) ∧ Below w.heap.size w w' := by
  have CK := check_any av cap L w hL hF hE.1 hr
  unfold prnt
  by_cases hc : Wt.check L = 0
  · rw [if_pos hc]
    rw [hc] at CK ⊢
    obtain ⟨h256, d, hone, hd⟩ := check_zero hc
    have hpos := pr_pos hone 0
    have hlen := (pr_ok _ _ _ _ hone 0).2
    have PP := fun kw => part_any kw (L.length + 1) 0 L
    clear hc
    generalize (pr (L.length + 1) 0 L).1 = tx at *
    go_enter Tryz.func15, Tryz.ntmps15
    go_wp2_with fail
    refine CK.mono ?_
    rintro e w1 ⟨rfl, hb⟩
    have hE1 := hE.below hb
    have hr1 := hr.below hb
    have hs1 := hb.size
    have hB2 := ball hb (.cells #[.pointer none, .slice none 0 0, .slice av L.length cap] 79)
    have hS2 : WSt (w1.alloc (.cells #[.pointer none, .slice none 0 0, .slice av L.length cap] 79)) w1.heap.size [] L := by
      refine ⟨av, cap, hcap, Or.inl ⟨Nat.le_refl _, .slice none 0 0, heap_alloc_new w1 _, World.ownsRow_nil _ _ _ _, by simp [Value.ownBlock]⟩, fun i hi => ?_⟩
      obtain ⟨bb, off, e, hx⟩ := hr1 i hi
      have hlt : bb < w1.heap.size := World.block_lt_of_cell? _ _ (hx 0 _ rfl)
      exact ⟨bb, off, e, hlt, fun j v hv => cell_below (ball (Below.refl _ w1) _) (hx j v hv)⟩
    have hE2 := hE.below hB2
    go_wp2_with fail
    refine (PP w1.heap.size [] _ L.length d hF hone hS2 hE2 (by omega) (by simp only [List.length_nil]; omega)).mono ?_
    rintro e w3 ⟨rfl, hS3, hF3⟩
    obtain ⟨av', cap', -, hI, -⟩ := hS3
    rw [List.nil_append] at hI
    have ST := wstr_any _ _ _ _ w3 hI (fun e => by rw [e] at hpos; simp at hpos)
    have hB3 : Below w.heap.size w w3 := hB2.trans (hF3.1.mono hs1)
    go_wp2_with fail
    refine ST.mono ?_
    rintro e w4 ⟨rfl, hb4⟩
    go_wp2
    go_ret2
    exact ⟨rfl, hB3.trans (hb4.mono hs1)⟩
  · rw [if_neg hc]
    generalize Wt.check L = ck at *
    have hci : (ck != 0) = true := by simp [hc]
    go_enter Tryz.func15, Tryz.ntmps15
    go_wp2_with fail
    refine CK.mono ?_
    rintro e w1 ⟨rfl, hb⟩
    go_wp2
    go_ret2
    exact ⟨rfl, hb⟩
theorem prnt_read {L : List Wt.Nd} (hc : Wt.check L = 0) (hl : (prnt L).length ≤ 1024) : prsR (prnt L) = .inl L := by
  obtain ⟨h256, d, hone, hd⟩ := check_zero hc
  have hp : prnt L = (pr (L.length + 1) 0 L).1 := by unfold prnt; rw [if_pos hc]
  obtain ⟨T, t1, t2, t3, t4⟩ := pr_rt _ _ _ _ hone 0 (by omega)
  rw [List.take_length] at t4
  rw [show (((0 : Nat)) : Int) = 0 from rfl, ← hp] at t1
  obtain ⟨ts, o1, o2⟩ := t1 0 [] [] Wlx.Aft.nil (Wlx.Ok.nil _)
  rw [List.append_nil, List.append_nil] at o1
  have hrep : Rep (ts.map Wlx.tv) T := by
    unfold Rep
    rw [← o2, List.map_map, List.map_map]
    rfl
  have hlv := par_form t4 (en := ((prnt L).length : Int)) (f := 10 * (ts.map Wlx.tv).length + 9) (tl := []) hrep (fun c q e => by cases e) (fun j => rfl) (by rw [hrep.len]; omega)
  rw [List.append_nil] at hlv
  rw [prsR_of hl o1 hlv, if_pos hc]
def abR : Wt.Rf := ⟨⟨#[]⟩, 0, 0, false, false⟩
theorem dd_1 : Lib.decDigits 1 = [49] := by rw [Lib.decDigits_one (by decide)]; rfl
theorem cw_A1 : cw abR = [65, 49] := by
  unfold cw
  show fx false ++ Wpl.colS 0 ++ fx false ++ Lib.decDigits 1 = _
  rw [dd_1]; decide
def t1 : Wlx.TV := ⟨1, [49], 0⟩
def t2 : Wlx.TV := ⟨5, [43], 1⟩
def t3 : Wlx.TV := ⟨3, [65, 49], 2⟩
theorem more_not {sub : List Wlx.TV → PR} {k : Int} {n : Nat} {row : List Wt.Nd} {ts : List Wlx.TV} (h : tkOp k ts = none) : more sub k n row ts = .inl (row, ts) := by cases n with
  | zero => rfl
  | succ n => simp only [more, h]
theorem up {en : Int} {f k : Nat} {ts r : List Wlx.TV} {row : List Wt.Nd} (hk : k < 5) (h : lv en f (k + 1) ts = .inl (row, r)) (hn : tkOp k r = none) : lv en (f + 1) k ts = .inl (row, r) := by
  rw [lv_bt _ _ _ hk]; unfold pbt; rw [h]; exact more_not hn
def cont (u : List UInt8) : List UInt8 × Int := if 1023 < u.length then ([], 2) else (61 :: u, 0)
def cpF (x y : Int) (r : List Wt.Nd ⊕ (Int × Int)) : List UInt8 × Int := match r with
  | .inr (c, _) => ([], c)
  | .inl row => cont (prnt (row.map (mvN x y)))
def cpR (x y : Int) (l : List UInt8) : List UInt8 × Int := if l.head? = some 61 then cpF x y (prsR l.tail) else (l, 0)
theorem prnt_len {L : List Wt.Nd} (hc : Wt.check L = 0) : (prnt L).length ≤ 256000 := by
  obtain ⟨h256, d, hone, hd⟩ := check_zero hc
  have h := (pr_ok _ _ _ _ hone 0).2
  unfold prnt
  rw [if_pos hc]
  omega
def cA (r : Int) : Wt.Nd := ⟨2, Wt.v0, 0, ⟨#[]⟩, 0, ⟨⟨#[]⟩, r, 0, false, false⟩, Wt.r0⟩
theorem dd_2 : Lib.decDigits 2 = [50] := by rw [Lib.decDigits_one (by decide)]; rfl
theorem cw_A2 : cw ⟨⟨#[]⟩, 1, 0, false, false⟩ = [65, 50] := by
  unfold cw
  show fx false ++ Wpl.colS 0 ++ fx false ++ Lib.decDigits 2 = _
  rw [dd_2]; decide
theorem chk_A (r : Int) (h : r = 0 ∨ r = 1) : Wt.check [cA r] = 0 := by
  rcases h with rfl | rfl <;> decide +kernel
theorem prnt_A (r : Int) (h : r = 0 ∨ r = 1) : prnt [cA r] = cw ⟨⟨#[]⟩, r, 0, false, false⟩ := by
  unfold prnt
  rw [if_pos (chk_A r h)]
  rfl
theorem prs_A1 : prsR [65, 49] = .inl [cA 0] := by
  have h : prnt [cA 0] = [65, 49] := by rw [prnt_A 0 (Or.inl rfl)]; exact cw_A1
  have := prnt_read (chk_A 0 (Or.inl rfl)) (by rw [h]; decide)
  rw [h] at this
  exact this
theorem cpR_eq (x y : Int) (t : List UInt8) : cpR x y (61 :: t) = cpF x y (prsR t) := if_pos (show (61 :: t).head? = some 61 from rfl)
theorem cp_able : cpR 1 0 [61, 65, 49] = ([61, 65, 50], 0) := by
  rw [cpR_eq, prs_A1]
  have e : [cA 0].map (mvN 1 0) = [cA 1] := by
    show [mvN 1 0 (cA 0)] = [cA 1]
    have : mvN 1 0 (cA 0) = cA 1 := (eqN_iff _ _).1 (by decide +kernel)
    rw [this]
  unfold cpF
  simp only [e]
  unfold cont
  rw [prnt_A 1 (Or.inr rfl), cw_A2, if_neg (by decide)]
theorem ownN_cap {w : World} {B n cap : Nat} {av : Option Addr} {row : List Wt.Nd} (h : OwnN w B (.slice av n cap) row) : row.length ≤ cap := by
  rcases h.2 with ⟨e, h0⟩ | ⟨g, cap', cur, e, hg, hc, h1, _⟩
  · omega
  · simp only [Value.slice.injEq] at e
    omega
theorem cute_no (s : ByteArray) (w : World) (hx : ¬ s.data.toList.head? = some 61) :
    Calls Tryz.prog 23 #[.string s, .string ⟨#[61]⟩] w fun e w' => e = .returned (.tuple #[.string s, .bool false]) ∧ w = w' := by
  by_cases h0 : 0 < s.size
  · have h1 : (1 : Int) ≤ (s.size : Int) := by omega
    have hx1 : ((s.extract 0 1).toList == [61]) = false := by
      rw [beq_eq_false_iff_ne]
      intro e
      apply hx
      rw [ByteArray.toList_eq, ByteArray.data_extract, Array.toList_extract] at e
      cases hq : s.data.toList with
      | nil => rw [hq] at e; simp at e
      | cons c t => rw [hq] at e; simp [List.extract] at e; rw [e]; rfl
    clear hx
    go_enter Tryz.func23, Tryz.ntmps23
    go_wp2
    go_ret2
    exact ⟨rfl, rfl⟩
  · have h1 : ¬ (1 : Int) ≤ (s.size : Int) := by omega
    clear hx
    go_enter Tryz.func23, Tryz.ntmps23
    go_wp2
    go_ret2
    exact ⟨rfl, rfl⟩
theorem cute_yes (t : List UInt8) (w : World) (ht : t.length ≤ 9223372036854775806) :
    Calls Tryz.prog 23 #[.string ⟨(61 :: t).toArray⟩, .string ⟨#[61]⟩] w fun e w' => e = .returned (.tuple #[.string ⟨t.toArray⟩, .bool true]) ∧ w = w' := by
  obtain ⟨s, hs⟩ : ∃ s : ByteArray, s = ⟨(61 :: t).toArray⟩ := ⟨_, rfl⟩
  have h0 : s.size = t.length + 1 := by rw [hs]; rfl
  have hx1 : ((s.extract 0 1).toList == [61]) = true := by rw [hs]; simp [ByteArray.toList_eq, ByteArray.data_extract, List.extract]
  have hx2 : s.extract 1 s.size = ⟨t.toArray⟩ := by
    rw [h0, hs]
    apply ByteArray.ext
    rw [ByteArray.data_extract]
    apply Array.ext'
    simp [List.extract]
  have h1 : (1 : Int) ≤ (s.size : Int) := by omega
  rw [← hs]
  clear hs h0
  go_enter Tryz.func23, Tryz.ntmps23
  go_wp2
  go_ret2
  exact ⟨rfl, rfl⟩
theorem cat_eq (u : List UInt8) : (⟨#[61]⟩ : ByteArray) ++ ⟨u.toArray⟩ = ⟨(61 :: u).toArray⟩ := by
  apply ByteArray.ext
  rw [ByteArray.data_append]
  apply Array.ext'
  simp
theorem cont_any (u : List UInt8) (w : World) (hu : True → u.length ≤ 1000000) :
    Calls Tryz.prog 24 #[.string ⟨u.toArray⟩] w fun e w' => e = .returned (.tuple #[.string ⟨(cont u).1.toArray⟩, .int .i64 (cont u).2]) ∧ w = w' := by
  have hc := cat_eq u
  have hl : ¬ 9223372036854775807 < 1 + u.length := by have := hu trivial; omega
  unfold cont
  by_cases h : 1023 < u.length
  · rw [if_pos h]
    have hi : (1024 : Int) < (u.length : Int) + 1 := by omega
    clear hu h
    go_enter Tryz.func24, Tryz.ntmps24
    go_wp2
    go_ret2
    exact ⟨rfl, rfl⟩
  · rw [if_neg h]
    have hi : ¬ (1024 : Int) < (u.length : Int) + 1 := by omega
    clear hu h
    go_enter Tryz.func24, Tryz.ntmps24
    go_wp2
    go_ret2
    exact ⟨rfl, rfl⟩
set_option maxRecDepth 100000 in
set_option maxHeartbeats 4000000 in
theorem copy_any (b : ByteArray) (x y : Int) (w : World) (hE : Env w) (hk8 : 8 ≤ w.heap.size) (hs : b.size ≤ 9223372036854775807) :
    Calls Tryz.prog 14 #[.string b, .int .i64 x, .int .i64 y] w fun e w' => e = .returned (.tuple #[.string ⟨(cpR x y b.data.toList).1.toArray⟩, .int .i64 (cpR x y b.data.toList).2]) ∧ Below w.heap.size w w' := by
  by_cases hh : b.data.toList.head? = some 61
  · obtain ⟨t, ht⟩ : ∃ t, b.data.toList = 61 :: t := by
      cases hq : b.data.toList with
      | nil => rw [hq] at hh; cases hh
      | cons c t => rw [hq] at hh; obtain rfl := Option.some.inj hh; exact ⟨t, rfl⟩
    have hb : b = ⟨(61 :: t).toArray⟩ := by
      have : b = ⟨b.data.toList.toArray⟩ := by rw [Array.toArray_toList]
      rw [this, ht]
    have htl : t.length ≤ 9223372036854775806 := by
      have : b.size = t.length + 1 := by rw [hb]; rfl
      omega
    have CU := fun w => cute_yes t w htl
    have S := fun w hE hk8 => parse_any ⟨t.toArray⟩ w hE (by show t.length ≤ _; omega) hk8
    have e0 : (⟨t.toArray⟩ : ByteArray).data.toList = t := by simp
    rw [e0] at S
    rw [ht, cpR_eq, hb]
    clear hb ht hh hs e0 htl
    cases hr : prsR t with
    | inr q =>
      obtain ⟨c, p⟩ := q
      rw [hr] at S
      simp only [PaPost] at S
      have hc := prsR_code hr
      have hci : (c != 0) = true := by simp [hc]
      have e : cpF x y (.inr (c, p)) = ([], c) := rfl
      rw [e]
      clear hr e
      go_enter Tryz.func14, Tryz.ntmps14
      go_wp2_with fail
      refine (CU w).mono ?_
      rintro e w1 ⟨rfl, rfl⟩
      go_wp2_with fail
      refine (S w hE hk8).mono ?_
      rintro e w2 ⟨rfl, hb2⟩
      go_wp2
      go_ret2
      exact ⟨rfl, hb2⟩
    | inl row =>
      rw [hr] at S
      simp only [PaPost] at S
      obtain ⟨hf, hc⟩ := prsR_row hr
      have hc2 := check_mv hc x y
      have hpl := prnt_len hc2
      have hf2 : ∀ n ∈ row.map (mvN x y), Wt.FitN n := by
        intro n hn
        obtain ⟨m, hm, rfl⟩ := List.mem_map.1 hn
        exact fit_mv (hf m hm) x y
      have h256 := (check_zero hc).1
      have e : cpF x y (.inl row) = cont (prnt (row.map (mvN x y))) := rfl
      rw [e]
      have SH := fun av cap w hO hr => mshift_ok av cap row x y w hf hO hr hc
      have PR := fun av cap w hE hr hcap hk8 => print_any av cap (row.map (mvN x y)) w (by rw [List.length_map]; omega) hf2 hE hr hcap hk8
      rw [hc2] at PR
      obtain ⟨m, hm⟩ : ∃ m, row.map (mvN x y) = m := ⟨_, rfl⟩
      rw [hm] at SH PR hpl ⊢
      generalize prnt m = u at *
      have CT := fun w => cont_any u w (fun _ => by omega)
      generalize cont u = q at *
      clear hr e hf hc hc2 hf2 hpl h256 hm
      go_enter Tryz.func14, Tryz.ntmps14
      go_wp2_with fail
      refine (CU w).mono ?_
      rintro e w1 ⟨rfl, rfl⟩
      go_wp2_with fail
      refine (S w hE hk8).mono ?_
      rintro e w2 ⟨⟨v, rfl, hown⟩, hb2⟩
      obtain ⟨av, cap, rfl, hrd⟩ := hown.form
      clear S CU hown
      go_wp2_with fail
      refine (SH av cap w2 (hE.below hb2).1 hrd).mono ?_
      rintro e w3 ⟨⟨v, rfl, hown⟩, hb3⟩
      have hB3 := below_end hb2 hb3
      obtain ⟨av3, cap3, rfl, hrd3⟩ := hown.form
      have hcap := ownN_cap hown
      clear SH hrd hb3 hown
      go_wp2_with fail
      refine (PR av3 cap3 w3 (hE.below hB3) hrd3 hcap (Nat.le_trans hk8 hB3.size)).mono ?_
      rintro e w4 ⟨rfl, hb4⟩
      have hB4 := below_end hB3 hb4
      clear PR hrd3 hcap
      go_wp2_with fail
      refine (CT w4).mono ?_
      rintro e w5 ⟨rfl, rfl⟩
      go_wp2
      go_ret2
      exact ⟨rfl, hB4⟩
  · have CU := fun w => cute_no b w hh
    have e : cpR x y b.data.toList = (b.data.toList, 0) := if_neg hh
    have e2 : (⟨b.data.toList.toArray⟩ : ByteArray) = b := by rw [Array.toArray_toList]
    rw [e]
    simp only
    rw [e2]
    clear e e2 hh
    go_enter Tryz.func14, Tryz.ntmps14
    go_wp2_with fail
    refine (CU w).mono ?_
    rintro e w1 ⟨rfl, rfl⟩
    go_wp2
    go_ret2
    exact ⟨rfl, Below.refl _ _⟩
set_option maxRecDepth 100000 in
theorem mable_any (w : World) (hE : Env w) (hk8 : 8 ≤ w.heap.size) : Calls Tryz.prog 8 #[] w fun e w' => e = .returned (.bool true) ∧ Below w.heap.size w w' := by
  have C := copy_any ⟨#[61, 65, 49]⟩ 1 0 w hE hk8 (by decide)
  have e0 : (⟨#[61, 65, 49]⟩ : ByteArray).data.toList = [61, 65, 49] := rfl
  rw [e0, cp_able] at C
  clear e0
  go_enter Tryz.func8, Tryz.ntmps8
  go_wp2_with fail
  refine C.mono ?_
  rintro e w1 ⟨rfl, hb⟩
  go_wp2
  go_ret
  exact ⟨by simp, hb⟩
open Go.RowKit
def comp (c : Wpl.Cl) (k : Nat) : Int := if k = 0 then c.s else if k = 1 then c.r else c.c
def rowC (F : Nat → Wpl.Cl) (n : Nat) : List Value := (List.range (n * 3)).map fun j => .int .i64 (comp (F (j / 3)) (j % 3))
theorem rowC_length (F : Nat → Wpl.Cl) (n : Nat) : (rowC F n).length = n * 3 := by unfold rowC; simp
theorem rowC_get {F : Nat → Wpl.Cl} {n j : Nat} (hj : j < n * 3) : (rowC F n)[j]? = some (.int .i64 (comp (F (j / 3)) (j % 3))) := by
  unfold rowC
  rw [List.getElem?_map, List.getElem?_range hj]
  rfl
theorem rowC_one {F : Nat → Wpl.Cl} {n : Nat} : ∀ u ∈ rowC F n, u.oneCell' = true := by
  intro u hu
  unfold rowC at hu
  obtain ⟨j, _, rfl⟩ := List.mem_map.1 hu
  rfl
def CelV (w : World) (av : Option Addr) (n : Nat) (F : Nat → Wpl.Cl) : Prop := ∀ j, j < n → ∃ bb off, av = some ⟨bb, off, none⟩ ∧ w.cell? ⟨bb, off + j * 3, none⟩ = some (.int .i64 (F j).s) ∧ w.cell? ⟨bb, off + j * 3 + 1, none⟩ = some (.int .i64 (F j).r) ∧ w.cell? ⟨bb, off + j * 3 + 2, none⟩ = some (.int .i64 (F j).c)
theorem CelV.below {w w' : World} {av : Option Addr} {n : Nat} {F : Nat → Wpl.Cl} (h : CelV w av n F) (hb : Below w.heap.size w w') : CelV w' av n F := fun j hj => by
  obtain ⟨bb, off, e, h1, h2, h3⟩ := h j hj
  exact ⟨bb, off, e, cell_below hb h1, cell_below hb h2, cell_below hb h3⟩
def rgt (c : Wpl.Cl) : Bool := Wpl.rightC c.s c.r c.c
def allR (F : Nat → Wpl.Cl) (n : Nat) : Bool := (List.range n).all fun i => rgt (F i)
theorem allR_iff {F : Nat → Wpl.Cl} {n : Nat} : allR F n = true ↔ ∀ j, j < n → rgt (F j) = true := by simp [allR]
set_option maxRecDepth 100000 in
set_option maxHeartbeats 4000000 in
theorem allr_any (av : Option Addr) (n cap : Nat) (F : Nat → Wpl.Cl) (w : World) (hv : CelV w av n F) (hn : True → n ≤ 1000000) :
    Calls Tryz.prog 28 #[.slice av n cap] w fun e w' => e = .returned (.bool (allR F n)) ∧ Below w.heap.size w w' := by
  have HV : Hid (CelV w av n F) := hv
  clear hv
  go_enter Tryz.func28, Tryz.ntmps28
  go_wp2_with fail
  go_loopg [7] n (fun gk v wr => ∃ i : Nat, v = .int .i64 i ∧ gk = n - i ∧ i ≤ n ∧ Hid (∀ j, j < i → rgt (F j) = true) ∧ Hid (Below w.heap.size w wr))
  case atStart => exact ⟨0, rfl, rfl, Nat.zero_le _, fun _ h => absurd h (Nat.not_lt_zero _), Below.refl _ _⟩
  case round =>
    obtain ⟨i, rfl, hg, hi, HK, HB⟩ := hrel
    by_cases hlt : i < n
    · have hli : (i : Int) < (n : Int) := by omega
      have hi0 : (0 : Int) ≤ (i : Int) := by omega
      have hwi : IntKind.i64.wrap ((i : Int) + 1) = (i : Int) + 1 := by rw [IntKind.wrap_i64]; have := hn trivial; omega
      obtain ⟨bb, off, rfl, c0, c1, c2⟩ := HV.out.below HB.out i hlt
      have R := fun w => x3_right_any (F i).s (F i).r (F i).c w
      obtain ⟨q, hq⟩ : ∃ q, Wpl.rightC (F i).s (F i).r (F i).c = q := ⟨_, rfl⟩
      rw [hq] at R
      have HQ : Hid (rgt (F i) = q) := hq
      generalize (F i).s = s at *
      generalize (F i).r = r at *
      generalize (F i).c = c at *
      have hB1 := ball HB.out (.cells #[.int .i64 s, .int .i64 r, .int .i64 c] 47)
      clear hq
      go_wp2_with fail
      refine (R _).mono ?_
      rintro e w1 ⟨rfl, hb1⟩
      have hB2 : Hid (Below w.heap.size w w1) := below_end hB1 hb1
      clear R c0 c1 c2 hb1 hB1 HB
      cases q with
      | false =>
        have e : allR F n = false := by
          rw [Bool.eq_false_iff]
          intro h
          have := allR_iff.1 h i hlt
          rw [HQ.out] at this
          cases this
        go_wp2
        go_ret
        exact ⟨by rw [e]; rfl, hB2.out⟩
      | true =>
        have HK2 : Hid (∀ j, j < i + 1 → rgt (F j) = true) := by
          intro j hj
          by_cases hji : j < i
          · exact HK.out j hji
          · have : j = i := by omega
            subst this
            exact HQ.out
        clear HK HQ
        go_wp2_with fail
        go_roundg (n - (i + 1))
        case rel => exact ⟨i + 1, by simp, rfl, by omega, HK2, hB2⟩
        case measure => omega
    · have hli : ¬ (i : Int) < (n : Int) := by omega
      have e : Hid (allR F n = true) := allR_iff.2 (fun j hj => HK.out j (by omega))
      have hBB := HB.out
      clear HK HB
      go_wp2
      go_ret
      exact ⟨by rw [e.out]; rfl, hBB⟩
end Go.Proofs.YtalkiggclckcdaaGreatDoor
