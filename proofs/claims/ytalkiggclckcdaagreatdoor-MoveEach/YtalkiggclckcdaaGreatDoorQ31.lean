/- TParA, TFit. -/
import Derived.Test.YtalkiggclckcdaaGreatDoorQ30
import Derived.Defers
import Derived.Recover
namespace Go.Proofs.YtalkiggclckcdaaGreatDoor
open Go.RowKit Go.Shelf
set_option linter.unusedVariables false
theorem assert_hit (v : Value) (w : World) : (Instr.typeAssert (.iface 57 v) 20 57 true).run Tryz.prog w = .ok (.tuple #[v, .bool true]) w := by kernel_rfl
theorem assert_nil (w : World) : (Instr.typeAssert .nilIface 20 57 true).run Tryz.prog w = .ok (.tuple #[.agg #[.int .i64 0, .int .i64 0], .bool false]) w := by kernel_rfl
set_option maxRecDepth 100000 in
set_option maxHeartbeats 4000000 in
theorem catch_panics (a b c : Nat) (cd at' : Int) (x y z : Value) (older : List PanicEntry) (w : World) (ha : AtL w a [x]) (hb : AtL w b [y]) (hc : AtL w c [z]) (hab : a ≠ b) (hac : a ≠ c) (hbc : b ≠ c) :
    CallsD Tryz.prog 18 #[.pointer (some ⟨a, 0, none⟩), .pointer (some ⟨b, 0, none⟩), .pointer (some ⟨c, 0, none⟩)] (.panicking ({ v := .iface 57 (.agg #[.int .i64 cd, .int .i64 at']), recovered := false } :: older)) w fun e u' w' =>
      e = .returned (.tuple #[]) ∧ u' = .panicking ({ v := .iface 57 (.agg #[.int .i64 cd, .int .i64 at']), recovered := true } :: older) ∧ AtL w' a [.slice none 0 0] ∧ AtL w' b [.int .i64 cd] ∧ AtL w' c [.int .i64 at'] ∧ ∀ lo, lo ≤ a → lo ≤ b → lo ≤ c → Below lo w w' := by
  have la := ha.1
  have lb := hb.1
  have lc := hc.1
  have na : a ≠ w.heap.size := by omega
  have nb : b ≠ w.heap.size := by omega
  have nc : c ≠ w.heap.size := by omega
  have hW : ∃ W, W = w.alloc (.cells #[.int .i64 cd, .int .i64 at'] 57) := ⟨_, rfl⟩
  obtain ⟨W, hW⟩ := hW
  have pR : AtL W w.heap.size [.int .i64 cd, .int .i64 at'] := by
    rw [hW]; exact AtL.new0 w 57 [.int .i64 cd, .int .i64 at']
  have pa : AtL W a [x] := by rw [hW]; exact ha.alloc _
  have pb : AtL W b [y] := by rw [hW]; exact hb.alloc _
  have pc : AtL W c [z] := by rw [hW]; exact hc.alloc _
  have hB : Below w.heap.size w W := by rw [hW]; exact ball (Below.refl _ w) _
  refine callsD_of_wpS Tryz.func18 rfl fun c₀ cs hu => ?_
  apply wpS_seq
  apply wpS_region
  simp [wpOpsS, go_sem, recoverD, hu, Tryz.ntmps18, Exit.thenS, assert_hit, Array.replicate, List.replicate]
  rw [← hW]
  apply wpS_seq
  apply wpS_region
  simp [wpOpsS, go_sem, Exit.thenS]
  refine wpS_cond (t := true) (by simp [Act.eval]) ?_
  simp only [if_true]
  refine wpS_of_wp ?_
  clear hW
  obtain ⟨r0, r1, q0, q1⟩ := pR.two
  have a0 := pa.2.1 0 _ rfl
  have b0 := pb.2.1 0 _ rfl
  have c0 := pc.2.1 0 _ rfl
  have fa := pa.2.2 0 (by simp)
  have fb := pb.2.2 0 (by simp)
  have fc := pc.2.2 0 (by simp)
  go_region
  have E : AtL (((W.setCell ⟨a, 0, none⟩ (Value.slice none 0 0)).setCell ⟨b, 0, none⟩ (Value.int IntKind.i64 cd)).setCell ⟨c, 0, none⟩ (Value.int IntKind.i64 at')).drew a [.slice none 0 0] ∧ AtL (((W.setCell ⟨a, 0, none⟩ (Value.slice none 0 0)).setCell ⟨b, 0, none⟩ (Value.int IntKind.i64 cd)).setCell ⟨c, 0, none⟩ (Value.int IntKind.i64 at')).drew b [.int .i64 cd] ∧ AtL (((W.setCell ⟨a, 0, none⟩ (Value.slice none 0 0)).setCell ⟨b, 0, none⟩ (Value.int IntKind.i64 cd)).setCell ⟨c, 0, none⟩ (Value.int IntKind.i64 at')).drew c [.int .i64 at'] ∧ ∀ lo, lo ≤ a → lo ≤ b → lo ≤ c → Below lo w (((W.setCell ⟨a, 0, none⟩ (Value.slice none 0 0)).setCell ⟨b, 0, none⟩ (Value.int IntKind.i64 cd)).setCell ⟨c, 0, none⟩ (Value.int IntKind.i64 at')).drew := by
    refine ⟨(((pa.set 0 _).far (Ne.symm hab) 0 _).far (Ne.symm hac) 0 _).drew, (((pb.far hab 0 _).set 0 _).far (Ne.symm hbc) 0 _).drew, (((pc.far hac 0 _).far hbc 0 _).set 0 _).drew, fun lo l1 l2 l3 => ?_⟩
    exact ((((hB.mono (by omega)).setCell (p := ⟨a, 0, none⟩) l1 _).setCell (p := ⟨b, 0, none⟩) l2 _).setCell (p := ⟨c, 0, none⟩) l3 _).drew
  simpa [bodyPostS, results, Tryz.results18] using E
set_option maxRecDepth 100000 in
set_option maxHeartbeats 4000000 in
theorem catch_idles (a b c : Nat) (w : World) :
    CallsD Tryz.prog 18 #[.pointer (some ⟨a, 0, none⟩), .pointer (some ⟨b, 0, none⟩), .pointer (some ⟨c, 0, none⟩)] .returning w fun e u' w' => e = .returned (.tuple #[]) ∧ u' = .returning ∧ Below w.heap.size w w' := by
  refine callsD_of_wpS Tryz.func18 rfl fun c₀ cs hu => ?_
  apply wpS_seq
  apply wpS_region
  simp [wpOpsS, go_sem, recoverD, hu, Tryz.ntmps18, Exit.thenS, assert_nil, Array.replicate, List.replicate]
  apply wpS_seq
  apply wpS_region
  simp [wpOpsS, go_sem, Exit.thenS]
  refine wpS_cond (t := false) (by simp [Act.eval]) ?_
  simp only [Bool.false_eq_true, if_false]
  refine wpS_of_wp (wp_skip ?_)
  have hB := ball (Below.refl _ w) (.cells #[.int .i64 0, .int .i64 0] 57)
  cases c₀
  simp_all [bodyPostS, results, Tryz.results18]
theorem fit_v0 : Wt.FitV Wt.v0 := ⟨by decide, by decide, by decide⟩
theorem e0 : (⟨#[]⟩ : ByteArray).size ≤ 9223372036854775807 := by decide
theorem fit_op (k o : Int) : Wt.FitN (opN k o) := ⟨fit_v0, e0, e0, e0⟩
theorem fit_call {nm : List UInt8} (c : Nat) (h : nm.length ≤ 1024) : Wt.FitN (callN ⟨nm.toArray⟩ c) := ⟨fit_v0, by show nm.length ≤ _; omega, e0, e0⟩
theorem fit_leaf {v : Wt.Vl} (h : Wt.FitV v) : Wt.FitN (leafN v) := ⟨h, e0, e0, e0⟩
theorem fit_lit {t : Wlx.TV} (ht : TokOk t) {v : Wt.Vl} (h : litV t = some v) : Wt.FitV v := by
  unfold litV at h
  split at h
  · split at h
    · rw [← Option.some.inj h]
      generalize Wnum.oN (Wnum.rdO ⟨t.t.toArray⟩) = a
      generalize Wnum.oD (Wnum.rdO ⟨t.t.toArray⟩) = b
      obtain ⟨n1, n2⟩ := Wnum.cN_bd a b
      obtain ⟨n3, n4⟩ := Wnum.cD_bd a b
      refine ⟨?_, ?_, e0⟩
      · show _ ≤ Wnum.cN a b ∧ Wnum.cN a b ≤ _
        omega
      · show _ ≤ Wnum.cD a b ∧ Wnum.cD a b ≤ _
        omega
    · cases h
  split at h
  · split at h
    · rw [← Option.some.inj h]
      unfold vText
      split
      · split
        · exact ⟨⟨by decide, by decide⟩, ⟨by decide, by decide⟩, e0⟩
        · exact ⟨⟨by simp, by simp⟩, ⟨by simp, by simp⟩, by show t.t.length ≤ _; omega⟩
      · exact ⟨⟨by decide, by decide⟩, ⟨by decide, by decide⟩, e0⟩
    · cases h
  split at h
  · rw [← Option.some.inj h]
    exact ⟨⟨by simp, by simp⟩, ⟨by simp, by simp⟩, e0⟩
  · cases h
theorem rw1_s {l : List UInt8} {a : Wt.Rf} (h : rw1 l = some a) : a.s = ⟨#[]⟩ := by
  unfold rw1 at h
  split at h
  · split at h
    · rw [← Option.some.inj h]; rfl
    · cases h
  · cases h
theorem pc_fit {ts : List Wlx.TV} {en : Int} {a : Wt.Rf} {r : List Wlx.TV} (h : pc ts en = .inl (a, r)) : a.s = ⟨#[]⟩ ∧ r.length < ts.length := by
  have hr := pc_rest h
  unfold pc at h
  split at h
  · rename_i hk
    split at h
    · cases h
    split at h
    · cases h
    split at h
    · rename_i a' ha
      simp only [Sum.inl.injEq, Prod.mk.injEq] at h
      refine ⟨by rw [← h.1]; exact rw1_s ha, ?_⟩
      cases ts with
      | nil => exact absurd hk (by rw [hd_nil]; decide)
      | cons t q => rw [hr]; simp
    · cases h
  · cases h
def Fits (n : Nat) (row : List Wt.Nd) (r : List Wlx.TV) : Prop := (∀ x ∈ row, Wt.FitN x) ∧ row.length + r.length ≤ n
theorem pl_fit {ts : List Wlx.TV} {en : Int} (hok : ∀ t ∈ ts, TokOk t) {row : List Wt.Nd} {r : List Wlx.TV} (h : pl ts en = .inl (row, r)) : Fits ts.length row r := by
  unfold pl at h
  split at h
  · rename_i v hv
    simp only [Sum.inl.injEq, Prod.mk.injEq] at h
    obtain ⟨q, hq⟩ := litV_cons hv
    refine ⟨?_, ?_⟩
    · rw [← h.1]; intro x hx; rw [List.mem_singleton.1 hx]; exact fit_leaf (fit_lit (tokOk_hd en hok) hv)
    · rw [← h.1, ← h.2]; rw [hq]; simp; omega
  · cases h
theorem fit_cell (k : Int) {s : ByteArray} (hs : s.size ≤ 1024) (a b : Wt.Rf) (hb : b.s = ⟨#[]⟩) : Wt.FitN ⟨k, Wt.v0, 0, ⟨#[]⟩, 0, ⟨s, a.r, a.c, a.fr, a.fc⟩, b⟩ := ⟨fit_v0, e0, by show s.size ≤ _; omega, by show b.s.size ≤ _; rw [hb]; exact e0⟩
theorem pcs_fit {s : ByteArray} (hs : s.size ≤ 1024) {ts : List Wlx.TV} {en : Int} {row : List Wt.Nd} {r : List Wlx.TV} (h : pcs s ts en = .inl (row, r)) : Fits ts.length row r := by
  unfold pcs at h
  cases h1 : pc ts en with
  | inr e => rw [h1] at h; cases h
  | inl q =>
    obtain ⟨a, r1⟩ := q
    rw [h1] at h
    simp only at h
    have f1 := pc_fit h1
    cases h2 : tk r1 [58] with
    | none =>
      rw [h2] at h; simp only [Sum.inl.injEq, Prod.mk.injEq] at h
      rw [← h.1, ← h.2]
      exact ⟨fun x hx => by rw [List.mem_singleton.1 hx]; exact fit_cell 2 hs a Wt.r0 rfl, by simp; omega⟩
    | some r2 =>
      rw [h2] at h
      simp only at h
      have s2 := (tk_suf h2).2
      cases h3 : pc r2 en with
      | inr e => rw [h3] at h; cases h
      | inl q =>
        obtain ⟨b, r3⟩ := q
        rw [h3] at h
        simp only [Sum.inl.injEq, Prod.mk.injEq] at h
        have f3 := pc_fit h3
        rw [← h.1, ← h.2]
        exact ⟨fun x hx => by rw [List.mem_singleton.1 hx]; exact fit_cell 3 hs a b f3.1, by simp; omega⟩
theorem ok_suf {ts r : List Wlx.TV} (hok : ∀ t ∈ ts, TokOk t) (h : r <:+ ts) : ∀ t ∈ r, TokOk t := fun t ht => hok t (h.subset ht)
theorem more_fit {sub : List Wlx.TV → PR} (hsub : ∀ ts row r, sub ts = .inl (row, r) → r <:+ ts) (hfit : ∀ ts row r, (∀ t ∈ ts, TokOk t) → sub ts = .inl (row, r) → Fits ts.length row r) (k : Int) : ∀ (n : Nat) (row : List Wt.Nd) (ts : List Wlx.TV) (row' : List Wt.Nd) (r : List Wlx.TV), (∀ t ∈ ts, TokOk t) → (∀ x ∈ row, Wt.FitN x) → more sub k n row ts = .inl (row', r) → Fits (row.length + ts.length) row' r := by
  intro n
  induction n with
  | zero => intro row ts row' r hok hf h; simp only [more, Sum.inl.injEq, Prod.mk.injEq] at h; rw [← h.2, ← h.1]; exact ⟨hf, Nat.le_refl _⟩
  | succ n ih =>
    intro row ts row' r hok hf h
    simp only [more] at h
    cases h1 : tkOp k ts with
    | none => rw [h1] at h; simp only [Sum.inl.injEq, Prod.mk.injEq] at h; rw [← h.2, ← h.1]; exact ⟨hf, Nat.le_refl _⟩
    | some q =>
      obtain ⟨o, r1⟩ := q
      rw [h1] at h
      simp only at h
      have s1 := tkOp_suf h1
      cases h2 : sub r1 with
      | inr e => rw [h2] at h; cases h
      | inl q =>
        obtain ⟨row2, r2⟩ := q
        rw [h2] at h
        simp only at h
        have f2 := hfit _ _ _ (ok_suf hok s1.1) h2
        have s2 := hsub _ _ _ h2
        have := ih _ _ _ _ (ok_suf hok (s2.trans s1.1)) (by
          intro x hx
          rcases List.mem_cons.1 hx with rfl | hx
          · exact fit_op _ _
          rcases List.mem_append.1 hx with hx | hx
          · exact hf x hx
          · exact f2.1 x hx) h
        refine ⟨this.1, Nat.le_trans this.2 ?_⟩
        have := f2.2
        simp only [List.length_cons, List.length_append]; omega
theorem argl_fit {sub : List Wlx.TV → PR} (hsub : ∀ ts row r, sub ts = .inl (row, r) → r <:+ ts) (hfit : ∀ ts row r, (∀ t ∈ ts, TokOk t) → sub ts = .inl (row, r) → Fits ts.length row r) (en : Int) : ∀ (n c : Nat) (rows : List Wt.Nd) (ts : List Wlx.TV) (c' : Nat) (rows' : List Wt.Nd) (r : List Wlx.TV), (∀ t ∈ ts, TokOk t) → (∀ x ∈ rows, Wt.FitN x) → argl sub en n c rows ts = .inl (c', rows', r) → (∀ x ∈ rows', Wt.FitN x) ∧ rows'.length + r.length < rows.length + ts.length := by
  intro n
  induction n with
  | zero => intro c rows ts c' rows' r _ _ h; cases h
  | succ n ih =>
    intro c rows ts c' rows' r hok hf h
    simp only [argl] at h
    cases h1 : tk ts [41] with
    | some q => rw [h1] at h; simp only [Sum.inl.injEq, Prod.mk.injEq] at h; have := (tk_suf h1).2; rw [← h.2.2, ← h.2.1]; exact ⟨hf, by omega⟩
    | none =>
      rw [h1] at h
      simp only at h
      split at h
      · cases h
      · cases h2 : tk ts [44] with
        | none => rw [h2] at h; cases h
        | some r1 =>
          rw [h2] at h
          simp only at h
          have s1 := tk_suf h2
          cases h3 : sub r1 with
          | inr e => rw [h3] at h; cases h
          | inl q =>
            obtain ⟨row, r2⟩ := q
            rw [h3] at h
            simp only at h
            have f2 := hfit _ _ _ (ok_suf hok s1.1) h3
            have s2 := hsub _ _ _ h3
            have := ih _ _ _ _ _ _ (ok_suf hok (s2.trans s1.1)) (by
              intro x hx
              rcases List.mem_append.1 hx with hx | hx
              · exact hf x hx
              · exact f2.1 x hx) h
            have f3 := f2.2
            refine ⟨this.1, Nat.lt_of_lt_of_le this.2 ?_⟩
            simp only [List.length_append]; omega
theorem pargs_fit {sub : List Wlx.TV → PR} (hsub : ∀ ts row r, sub ts = .inl (row, r) → r <:+ ts) (hfit : ∀ ts row r, (∀ t ∈ ts, TokOk t) → sub ts = .inl (row, r) → Fits ts.length row r) (en : Int) (nm : List UInt8) (hnm : nm.length ≤ 1024) (ts : List Wlx.TV) (row : List Wt.Nd) (r : List Wlx.TV) (hok : ∀ t ∈ ts, TokOk t) (h : pargs sub en nm ts = .inl (row, r)) : Fits ts.length row r := by
  unfold pargs at h
  cases h1 : tk ts [41] with
  | some q =>
    rw [h1] at h; simp only [Sum.inl.injEq, Prod.mk.injEq] at h; have := (tk_suf h1).2; rw [← h.2, ← h.1]
    exact ⟨fun x hx => by rw [List.mem_singleton.1 hx]; exact fit_call 0 hnm, by simp; omega⟩
  | none =>
    rw [h1] at h
    simp only at h
    cases h2 : sub ts with
    | inr e => rw [h2] at h; cases h
    | inl q =>
      obtain ⟨row1, r1⟩ := q
      rw [h2] at h
      simp only at h
      have f2 := hfit _ _ _ hok h2
      have s2 := hsub _ _ _ h2
      cases h3 : argl sub en (r1.length + 1) 1 row1 r1 with
      | inr e => rw [h3] at h; cases h
      | inl q =>
        obtain ⟨c, rows, r2⟩ := q
        rw [h3] at h
        simp only [Sum.inl.injEq, Prod.mk.injEq] at h
        have f3 := argl_fit hsub hfit en _ _ _ _ _ _ _ (ok_suf hok s2) f2.1 h3
        rw [← h.2, ← h.1]
        refine ⟨?_, ?_⟩
        · intro x hx
          rcases List.mem_cons.1 hx with rfl | hx
          · exact fit_call c hnm
          · exact f3.1 x hx
        · have := f3.2
          have := f2.2
          simp only [List.length_cons]
          omega
theorem pword_fit {sub : List Wlx.TV → PR} (hsub : ∀ ts row r, sub ts = .inl (row, r) → r <:+ ts) (hfit : ∀ ts row r, (∀ t ∈ ts, TokOk t) → sub ts = .inl (row, r) → Fits ts.length row r) (en : Int) (ts : List Wlx.TV) (row : List Wt.Nd) (r : List Wlx.TV) (hok : ∀ t ∈ ts, TokOk t) (h3 : (hd ts en).k = 3) (h : pword sub en ts = .inl (row, r)) : Fits ts.length row r := by
  have hl := (tokOk_hd en hok).1
  have hne : 0 < ts.length := by
    cases ts with
    | nil => exact absurd h3 (by rw [hd_nil]; decide)
    | cons t q => simp
  have hdr : ∀ k, (ts.drop k).length ≤ ts.length := fun k => by rw [List.length_drop]; omega
  have hb : ByteArray.size ⟨(hd ts en).t.toArray⟩ ≤ 1024 := hl
  unfold pword at h
  split at h
  · split at h
    · have := pargs_fit hsub hfit en _ hl _ _ _ (ok_suf hok (List.drop_suffix 2 ts)) h
      exact ⟨this.1, Nat.le_trans this.2 (hdr 2)⟩
    · cases h
  split at h
  · split at h
    · have := pcs_fit hb h
      exact ⟨this.1, Nat.le_trans this.2 (hdr 2)⟩
    · cases h
  split at h
  · simp only [Sum.inl.injEq, Prod.mk.injEq] at h; rw [← h.2, ← h.1]
    exact ⟨fun x hx => by rw [List.mem_singleton.1 hx]; exact fit_leaf ⟨by decide, by decide, by decide⟩, by simp; omega⟩
  split at h
  · simp only [Sum.inl.injEq, Prod.mk.injEq] at h; rw [← h.2, ← h.1]
    exact ⟨fun x hx => by rw [List.mem_singleton.1 hx]; exact fit_leaf ⟨by decide, by decide, by decide⟩, by simp; omega⟩
  · exact pcs_fit (by decide) h
theorem pbrack_fit {sub : List Wlx.TV → PR}  (hfit : ∀ ts row r, (∀ t ∈ ts, TokOk t) → sub ts = .inl (row, r) → Fits ts.length row r) (en : Int) (ts : List Wlx.TV) (row : List Wt.Nd) (r : List Wlx.TV) (hok : ∀ t ∈ ts, TokOk t) (h : pbrack sub en ts = .inl (row, r)) : Fits ts.length row r := by
  unfold pbrack at h
  cases h1 : tk ts [40] with
  | none => rw [h1] at h; cases h
  | some r1 =>
    rw [h1] at h
    simp only at h
    have s1 := tk_suf h1
    cases h2 : sub r1 with
    | inr e => rw [h2] at h; cases h
    | inl q =>
      obtain ⟨row2, r2⟩ := q
      rw [h2] at h
      simp only at h
      have f2 := hfit _ _ _ (ok_suf hok s1.1) h2
      cases h3 : tk r2 [41] with
      | none => rw [h3] at h; cases h
      | some r3 =>
        rw [h3] at h
        simp only [Sum.inl.injEq, Prod.mk.injEq] at h
        have s3 := tk_suf h3
        have := f2.2
        rw [← h.2, ← h.1]
        exact ⟨f2.1, by omega⟩
theorem pct_fit : ∀ (n : Nat) (row : List Wt.Nd) (ts : List Wlx.TV) (row' : List Wt.Nd) (r : List Wlx.TV), (∀ x ∈ row, Wt.FitN x) → pct n row ts = .inl (row', r) → Fits (row.length + ts.length) row' r := by
  intro n
  induction n with
  | zero => intro row ts row' r hf h; simp only [pct, Sum.inl.injEq, Prod.mk.injEq] at h; rw [← h.2, ← h.1]; exact ⟨hf, Nat.le_refl _⟩
  | succ n ih =>
    intro row ts row' r hf h
    simp only [pct] at h
    cases h1 : tkOp 6 ts with
    | none => rw [h1] at h; simp only [Sum.inl.injEq, Prod.mk.injEq] at h; rw [← h.2, ← h.1]; exact ⟨hf, Nat.le_refl _⟩
    | some q =>
      obtain ⟨o, r1⟩ := q
      rw [h1] at h
      simp only at h
      have s1 := tkOp_suf h1
      have := ih _ _ _ _ (fun x hx => by
        rcases List.mem_cons.1 hx with rfl | hx
        · exact fit_op _ _
        · exact hf x hx) h
      refine ⟨this.1, Nat.le_trans this.2 ?_⟩
      simp only [List.length_cons]; omega
theorem lv_fit (en : Int) : ∀ (f k : Nat) (ts : List Wlx.TV) (row : List Wt.Nd) (r : List Wlx.TV), (∀ t ∈ ts, TokOk t) → lv en f k ts = .inl (row, r) → Fits ts.length row r := by
  intro f
  induction f with
  | zero => intro k ts row r _ h; cases h
  | succ f ih =>
    intro k ts row r hok h
    simp only [lv] at h
    split at h
    · cases h1 : lv en f (k + 1) ts with
      | inr e => rw [h1] at h; cases h
      | inl q =>
        obtain ⟨row1, r1⟩ := q
        rw [h1] at h
        simp only at h
        have f1 := ih _ _ _ _ hok h1
        have := more_fit (lv_suf en f (k + 1)) (ih (k + 1)) _ _ _ _ _ _ (ok_suf hok (lv_suf en _ _ _ _ _ h1)) f1.1 h
        exact ⟨this.1, Nat.le_trans this.2 f1.2⟩
    split at h
    · cases h1 : tkOp 5 ts with
      | none => rw [h1] at h; exact ih _ _ _ _ hok h
      | some q =>
        obtain ⟨o, r1⟩ := q
        rw [h1] at h
        simp only at h
        have s1 := tkOp_suf h1
        cases h2 : lv en f 5 r1 with
        | inr e => rw [h2] at h; cases h
        | inl q =>
          obtain ⟨row2, r2⟩ := q
          rw [h2] at h
          simp only [Sum.inl.injEq, Prod.mk.injEq] at h
          have f2 := ih _ _ _ _ (ok_suf hok s1.1) h2
          rw [← h.2, ← h.1]
          refine ⟨fun x hx => ?_, ?_⟩
          · rcases List.mem_cons.1 hx with rfl | hx
            · exact fit_op _ _
            · exact f2.1 x hx
          · have := f2.2
            simp only [List.length_cons]; omega
    split at h
    · cases h1 : lv en f 7 ts with
      | inr e => rw [h1] at h; cases h
      | inl q =>
        obtain ⟨row1, r1⟩ := q
        rw [h1] at h
        simp only at h
        have f1 := ih _ _ _ _ hok h1
        have := pct_fit _ _ _ _ _ f1.1 h
        exact ⟨this.1, Nat.le_trans this.2 f1.2⟩
    split at h
    · rename_i h3
      exact pword_fit (lv_suf en f 0) (ih 0) _ _ _ _ hok h3 h
    split at h
    · exact pbrack_fit (ih 0) _ _ _ _ hok h
    · exact pl_fit hok h
end Go.Proofs.YtalkiggclckcdaaGreatDoor
