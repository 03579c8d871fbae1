/- Queues: Cells. -/
import Derived.Test.YtpbjmhcpaeillaaQSort
import Derived.Test.YtpbjmhcpaeillaaQCells
namespace Go.Proofs.Ytpbjmhcpaeillaa
open Go.RowKit
set_option linter.unusedVariables false

/-- Entries are read there. -/
def RdW (w : World) (av : Option Addr) (l : List Wq.Wr) : Prop := 0 < l.length → ∃ g, av = some ⟨g, 0, none⟩ ∧ ∀ j u, (flatW l)[j]? = some u → w.cell? ⟨g, j, none⟩ = some u
theorem RdW.below {w w' : World} {av : Option Addr} {l : List Wq.Wr} (h : RdW w av l) (hb : Below w.heap.size w w') : RdW w' av l := fun h0 => by
  obtain ⟨g, e, hr⟩ := h h0
  exact ⟨g, e, fun j u hu => cell_below hb (hr j u hu)⟩
/-- What sorted answers. -/
def SorP (l : List Wq.Wr) (n : Nat) (w : World) (en : Ending) (w' : World) : Prop := (∃ av cap, en = .returned (.slice av n cap) ∧ RdW w' av (Wq.srt l)) ∧ Below w.heap.size w w'
set_option maxRecDepth 100000 in
theorem sorted_any (hb mb B : Nat) (rv : Value) (l : List Wq.Wr) (F : List (Wpl.Cl × Int)) (n : Nat) (w : World) (h : HQ w hb mb B rv l F) (hn : l.length = n) (hN : True → n ≤ 1000000000) :
    Calls Try.prog 37 #[.pointer (some ⟨hb, 0, none⟩)] w (SorP l n w) := by
  have CL := clone_any rv l B w h.own (fun _ => by rw [hn]; exact hN trivial)
  obtain ⟨c0, _, _, _⟩ := h.hd.two
  have HN : Hid (l.length = n) := hn
  clear h hn
  go_enter Try.func37, Try.ntmps37
  go_wp2_with fail
  refine CL.mono ?_
  rintro en w1 ⟨⟨v, rfl, hv⟩, hb1⟩
  rw [HN.out] at hv
  clear CL c0
  rcases hv.2 with ⟨e, h0⟩ | ⟨g, cap, cur, e, hbg, hg, h1, h2, h3, h4⟩
  · subst e
    have HE : Hid (SorP l n w (.returned (.slice none 0 0)) w1) := ⟨⟨none, 0, by rw [h0], fun z => by rw [Wq.srt_len, HN.out] at z; omega⟩, hb1⟩
    have SF := fun W => AnyF.slices_SortFunc_none srtQ none 0 (.func (.func 50) #[] #[]) W
    change ∀ W, Calls Try.prog 49 _ _ _ at SF
    clear hv h0 hb1
    go_wp2_with fail
    refine (SF _).mono ?_
    rintro en w2 ⟨rfl, rfl⟩
    go_wp2
    go_ret
    exact HE.out
  · subst e
    have SF := sortF_any g n cap w.heap.size l w1 hv HN.out hN
    have HG : Hid (w.heap.size ≤ g) := hbg
    have HB1 : Hid (Below w.heap.size w w1) := hb1
    clear hv hbg hg h1 h2 h3 h4 hb1
    go_wp2_with fail
    refine SF.mono ?_
    rintro en w2 ⟨rfl, hc, hgr⟩
    have HE : Hid (SorP l n w (.returned (.slice (some ⟨g, 0, none⟩) n cap)) w2) := ⟨⟨some ⟨g, 0, none⟩, cap, rfl, fun _ => ⟨g, rfl, hc⟩⟩, HB1.out.grown hgr HB1.out.size (fun k e => by
      have : some g = some k := e
      simp at this
      have := HG.out
      omega)⟩
    clear SF hc hgr
    go_wp2
    go_ret
    exact HE.out
/-- A row of cells, as memory has it. -/
def flatX : List Wpl.Cl → List Value
  | [] => []
  | x :: r => clQ x ++ flatX r
theorem flatX_len : ∀ A : List Wpl.Cl, (flatX A).length = A.length * 3
  | [] => rfl
  | x :: r => by simp [flatX, flatX_len r, clQ]; omega
theorem flatX_app : ∀ (A C : List Wpl.Cl), flatX (A ++ C) = flatX A ++ flatX C
  | [], C => rfl
  | x :: r, C => by simp [flatX, flatX_app r C]
theorem flatX_gt : ∀ (A : List Wpl.Cl) (i : Nat) (h : i < A.length) (c : Nat), c < 3 → (flatX A)[i * 3 + c]? = (clQ (A[i]))[c]?
  | [], i, h, c, hc => absurd h (Nat.not_lt_zero _)
  | x :: r, 0, h, c, hc => by
    show (clQ x ++ flatX r)[0 * 3 + c]? = _
    rw [Nat.zero_mul, Nat.zero_add, List.getElem?_append_left (by simpa [clQ] using hc)]
    rfl
  | x :: r, i + 1, h, c, hc => by
    show (clQ x ++ flatX r)[(i + 1) * 3 + c]? = _
    rw [List.getElem?_append_right (by simp [clQ]; omega), show (i + 1) * 3 + c - (clQ x).length = i * 3 + c from by simp [clQ]; omega, flatX_gt r i (by simpa using h) c hc]
    rfl
theorem oneXl (x : Wpl.Cl) : ∀ u ∈ clQ x, u.oneCell' = true := fun u h => by
  simp [clQ] at h
  rcases h with h | h | h <;> (subst h; rfl)
theorem oneX : ∀ (l : List Wpl.Cl), ∀ u ∈ flatX l, u.oneCell' = true
  | [], u, hu => by cases hu
  | y :: r, u, hu => by
    rcases List.mem_append.1 hu with q | q
    · exact oneXl y u q
    · exact oneX r u q
theorem clInfo : (Try.prog.info? 33).map (fun i => (i.zero, i.size, i.bytes)) = some (some (.agg #[.int .i64 0, .int .i64 0, .int .i64 0]), 3, 24) := by kernel_rfl
theorem undCls : Try.prog.underlying 44 = some (.slice 33) := by kernel_rfl
/-- A row of cells is laid behind another one. -/
theorem wpList_apX {ops : Array Oper} {rest : List Oper} {o : Oper} {a : Act} {Q : Exit → Act → World → Prop} (hgd : o.guard = none) (sl x : Operand) (ho : o.op = .call { callee := .builtin .append, args := #[sl, x], argTypes := #[44, 44] })
    (w : World) (B : Nat) (hB : B ≤ w.heap.size) (v : Value) (n : Nat) (xs : List Value) (hs : a.eval sl = v) (hown : w.ownsRow B 33 3 v n xs) (k off m c : Nat) (l : List Wpl.Cl) (hm : l.length = m) (hx : a.eval x = .slice (some ⟨k, off, none⟩) m c) (hat : ∀ j u, (flatX l)[j]? = some u → w.cell? ⟨k, off + j, none⟩ = some u) (hn : n + m ≤ 2000000000)
    (h : ∀ v' w', w'.ownsRow B 33 3 v' (n + m) (xs ++ flatX l) → w.grownBy w' v.ownBlock → (v'.ownBlock = v.ownBlock ∨ v'.ownBlock = some w.heap.size) → wpList Try.prog ops Q rest (a.put o.dst v') w') : wpList Try.prog ops Q (o :: rest) a w := by
  refine wpList_plain hgd fun K hK => ?_
  obtain ⟨i0, hi0, hz0, hz1, hz2⟩ := info_partsQ clInfo
  obtain ⟨v', w', hr, h2, h3, _, h5⟩ := run_append_own_at (P := Try.prog) w B 44 o.type 33 i0 _ 3 24 undCls hi0 hz0 hz1 hz2 rfl (by decide) v n xs hown ⟨k, off, none⟩ m c (flatX l) (by rw [flatX_len, hm]) (fun j z hj => by
      have := hat j z hj
      rw [show (⟨k, off, none⟩ : Addr).add j = ⟨k, off + j, none⟩ from by
        simp [Addr.add]
        try (intro h0; omega)]
      exact this) (oneX l) (by unfold maxLen; omega) (by omega) hB
  unfold Oper.wp execOp
  simp only [ho, resolve, invoke, builtin, Sem.run_bind, Sem.run_pure, Result.andThen_ok, List.map_toArray, List.map_cons, List.map_nil, hs, hx, hr]
  exact hK _ _ (h v' w' h2 h3 h5)
theorem own_mono {w : World} {base base' : Nat} {e : TypeId} {size : Nat} {v : Value} {n : Nat} {xs : List Value} (h : w.ownsRow base e size v n xs) (hb : base' ≤ base) : w.ownsRow base' e size v n xs :=
  ⟨h.1, h.2.imp id fun ⟨g, cap, cur, h1, h2, h3⟩ => ⟨g, cap, cur, h1, Nat.le_trans hb h2, h3⟩⟩
/-- What Cells answers: a row of its own. -/
def CelP (C : List Wpl.Cl) (w : World) (en : Ending) (w' : World) : Prop := (∃ v, en = .returned v ∧ w'.ownsRow w.heap.size 33 3 v C.length (flatX C)) ∧ Below w.heap.size w w'
theorem flatW_at {l : List Wq.Wr} {i : Nat} {a : Wq.Wr} (h : l[i]? = some a) (c : Nat) (hc : c < 5) : (flatW l)[i * 5 + c]? = (wrV a)[c]? := by
  obtain ⟨hlt, e⟩ := List.getElem?_eq_some_iff.1 h
  rw [flatW_gt l i hlt c hc, e]
set_option maxRecDepth 100000 in
set_option maxHeartbeats 4000000 in
theorem qcells_any (qb hb mb B : Nat) (rv : Value) (l : List Wq.Wr) (F : List (Wpl.Cl × Int)) (av : Option Addr) (m cap : Nat) (A : List Wpl.Ar) (n : Nat) (w : World) (h : QQ w qb hb mb B rv l F av m cap A) (hn : l.length = n) (hN : True → n ≤ 1000000000) :
    Calls Try.prog 19 #[.pointer (some ⟨qb, 0, none⟩)] w (CelP ((Wq.srt l).map clW) w) := by
  have SO := sorted_any hb mb B rv l F n w h.h.q hn hN
  obtain ⟨c0, _, _, _⟩ := h.hd.two
  obtain ⟨ls, hls⟩ : ∃ ls, Wq.srt l = ls := ⟨_, rfl⟩
  have HL : Hid (ls.length = n) := by show _ = _; rw [← hls, Wq.srt_len]; exact hn
  have SO' : Calls Try.prog 37 #[.pointer (some ⟨hb, 0, none⟩)] w fun en w' => (∃ av cap, en = .returned (.slice av n cap) ∧ RdW w' av ls) ∧ Below w.heap.size w w' := by
    rw [← hls]
    exact SO
  rw [hls]
  clear h hls SO hn
  go_enter Try.func19, Try.ntmps19
  go_wp2_with fail
  refine SO'.mono ?_
  rintro en w1 ⟨⟨sv, scap, rfl, hr⟩, hb1⟩
  have HR : Hid (RdW w1 sv ls ∧ Below w.heap.size w w1) := ⟨hr, hb1⟩
  clear SO' c0 hr hb1
  go_upto_region 3 with fail
  go_loopg [3, 12] n (fun gk y x wr => ∃ (i : Nat) (u : Value), u = y ∧ x = .int .i64 (i : Int) ∧ gk = n - i ∧ Hid (i ≤ n) ∧ Hid (wr.ownsRow w1.heap.size 33 3 u i (flatX ((ls.take i).map clW))) ∧ Hid (Below w1.heap.size w1 wr))
  case atStart => exact ⟨0, _, rfl, rfl, rfl, Nat.zero_le _, ⟨rfl, Or.inl ⟨rfl, rfl⟩⟩, Below.refl _ _⟩
  case round =>
    obtain ⟨i, u, rfl, rfl, hg, HI, HO, HB⟩ := hrel
    generalize hw9 : wr = W at *
    clear hw9
    by_cases hlt : i < n
    · have hii : (i : Int) < (n : Int) := by omega
      have hiz : (0 : Int) ≤ (i : Int) := by omega
      have hwi : IntKind.i64.wrap ((i : Int) + 1) = (i : Int) + 1 := by have := hN trivial; rw [IntKind.wrap_i64]; omega
      obtain ⟨a, ha⟩ : ∃ a, ls[i]? = some a := ⟨ls[i]'(by rw [HL.out]; exact hlt), List.getElem?_eq_getElem _⟩
      obtain ⟨g, eg, hc⟩ := (HR.out.1.below HB.out) (by rw [HL.out]; omega)
      subst eg
      have r0 : W.cell? ⟨g, i * 5, none⟩ = some (.int .i64 a.s) := hc _ _ (flatW_at ha 0 (by omega))
      have r1 : W.cell? ⟨g, i * 5 + 1, none⟩ = some (.int .i64 a.r) := hc _ _ (flatW_at ha 1 (by omega))
      have r2 : W.cell? ⟨g, i * 5 + 2, none⟩ = some (.int .i64 a.c) := hc _ _ (flatW_at ha 2 (by omega))
      have r3 : W.cell? ⟨g, i * 5 + 3, none⟩ = some (.int .i64 a.ln) := hc _ _ (flatW_at ha 3 (by omega))
      have r4 : W.cell? ⟨g, i * 5 + 4, none⟩ = some (.int .i64 a.lv) := hc _ _ (flatW_at ha 4 (by omega))
      have HT : Hid (flatX ((ls.take (i + 1)).map clW) = flatX ((ls.take i).map clW) ++ flatX [clW a]) := by
        show _ = _
        rw [List.take_add_one, ha, List.map_append, flatX_app]
        rfl
      have hb0 := ball (Below.refl _ W) (.cells #[.int .i64 a.s, .int .i64 a.r, .int .i64 a.c, .int .i64 a.ln, .int .i64 a.lv] 58)
      have q0 := AtL.new0 W 58 [.int .i64 a.s, .int .i64 a.r, .int .i64 a.c, .int .i64 a.ln, .int .i64 a.lv]
      have HO0 : Hid ((W.alloc (.cells #[.int .i64 a.s, .int .i64 a.r, .int .i64 a.c, .int .i64 a.ln, .int .i64 a.lv] 58)).ownsRow w1.heap.size 33 3 u i (flatX ((ls.take i).map clW))) := own_fr (Fr.of_below [] hb0) HO.out (by simp)
      have HB0 : Hid (Below w1.heap.size w1 (W.alloc (.cells #[.int .i64 a.s, .int .i64 a.r, .int .i64 a.c, .int .i64 a.ln, .int .i64 a.lv] 58))) := below_end HB.out hb0
      clear ha hc hb0
      go_upto_region 5 with fail
      clear r0 r1 r2 r3 r4 HO HB
      generalize W.alloc (.cells #[.int .i64 a.s, .int .i64 a.r, .int .i64 a.c, .int .i64 a.ln, .int .i64 a.lv] 58) = W0 at *
      generalize heb : W.heap.size = eb at *
      clear heb
      obtain ⟨d0, d1, d2, d3, d4, _⟩ := AtL.five q0
      have hb2 := ball (Below.refl _ W0) (.cells #[.int .i64 a.s, .int .i64 a.r, .int .i64 a.c] 33)
      have q2 := AtL.new0 W0 33 [.int .i64 a.s, .int .i64 a.r, .int .i64 a.c]
      have o2 : (W0.alloc (.cells #[.int .i64 a.s, .int .i64 a.r, .int .i64 a.c] 33)).ownsRow w1.heap.size 33 3 u i (flatX ((ls.take i).map clW)) := own_fr (Fr.of_below [] hb2) HO0.out (by simp)
      have HB2 : Hid (Below w1.heap.size w1 (W0.alloc (.cells #[.int .i64 a.s, .int .i64 a.r, .int .i64 a.c] 33))) := below_end HB0.out hb2
      have hs2 := HB2.out.size
      have HC2 : Hid (∀ j v, (flatX [clW a])[j]? = some v → (W0.alloc (.cells #[.int .i64 a.s, .int .i64 a.r, .int .i64 a.c] 33)).cell? ⟨W0.heap.size, 0 + j, none⟩ = some v) := fun j v hv => by rw [Nat.zero_add]; exact q2.2.1 j v hv
      clear q0 hb2 q2 HO0 HB0
      go_wp2_with (at_builtin; refine wpList_apX rfl (.tmp 16) (.tmp 19) rfl (W0.alloc (.cells #[.int .i64 a.s, .int .i64 a.r, .int .i64 a.c] 33)) w1.heap.size hs2 u i _ rfl o2 W0.heap.size 0 1 1 [clW a] rfl rfl HC2.out (by have := hN trivial; omega) ?_; intro v3 w3 o3 hg3 _)
      have HO3 : Hid (w3.ownsRow w1.heap.size 33 3 v3 (i + 1) (flatX ((ls.take (i + 1)).map clW))) := by show World.ownsRow _ _ _ _ _ _ _; rw [HT.out]; exact o3
      have HB3 : Hid (Below w1.heap.size w1 w3) := HB2.out.grown hg3 HB2.out.size (fun k e => (own_blk o2 e).1)
      clear o2 o3 hg3 HB2 HC2 hs2 d0 d1 d2 d3 d4
      go_wp2_with fail
      go_roundg (n - (i + 1))
      case rel => exact ⟨i + 1, v3, rfl, by simp, rfl, hlt, HO3, HB3⟩
      case measure => omega
    · have hii : ¬ (i : Int) < (n : Int) := by omega
      have HE : Hid (CelP (ls.map clW) w (.returned u) W) := by
        have hi : i = n := by have := HI.out; omega
        have o := HO.out
        rw [hi, List.take_of_length_le (by rw [HL.out]; exact Nat.le_refl _)] at o
        refine ⟨⟨u, rfl, ?_⟩, below_end HR.out.2 HB.out⟩
        rw [List.length_map, HL.out]
        exact own_mono o HR.out.2.size
      clear HO HB HR HI
      go_wp2
      go_ret
      exact HE.out
end Go.Proofs.Ytpbjmhcpaeillaa
