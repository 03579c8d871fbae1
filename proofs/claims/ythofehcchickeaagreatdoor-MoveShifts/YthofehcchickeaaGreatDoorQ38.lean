/- NPlainF, TRtA, TBrkP. -/
import Derived.Test.YthofehcchickeaaGreatDoorQ37
namespace Wpl
theorem dig_toNat {q : Nat} (h : q ≤ 9) : (UInt8.ofNat (48 + q)).toNat = 48 + q := by
  rw [UInt8.toNat_ofNat']
  exact Nat.mod_eq_of_lt (by omega)
theorem let_toNat {q : Nat} (h : q ≤ 25) : (UInt8.ofNat (65 + q)).toNat = 65 + q := by
  rw [UInt8.toNat_ofNat']
  exact Nat.mod_eq_of_lt (by omega)
theorem dd_le {u : Nat} (h : u < 10) : Go.Lib.decDigits u = [UInt8.ofNat (48 + u)] := by
  unfold Go.Lib.decDigits
  rw [dif_pos h]
theorem dd_gt {u : Nat} (h : ¬ u < 10) : Go.Lib.decDigits u = Go.Lib.decDigits (u / 10) ++ [UInt8.ofNat (48 + u % 10)] := by
  conv => lhs; unfold Go.Lib.decDigits
  rw [dif_neg h]
theorem dd_is (u : Nat) : allG (Go.Lib.decDigits u) = true ∧ fv 0 (Go.Lib.decDigits u) = u ∧ (1 ≤ u → ∃ d t, Go.Lib.decDigits u = d :: t ∧ d.toNat ≠ 48) := by
  induction u using Nat.strongRecOn with
  | _ u ih =>
    by_cases h : u < 10
    · rw [dd_le h]
      have hd := dig_toNat (q := u) (by omega)
      refine ⟨?_, ?_, fun h1 => ⟨_, _, rfl, by rw [hd]; omega⟩⟩
      · simp only [allG, List.all_cons, List.all_nil, Bool.and_true, isG, hd]
        simp; omega
      · unfold fv
        simp only [List.foldl_cons, List.foldl_nil, hd]
        omega
    · obtain ⟨i1, i2, i3⟩ := ih (u / 10) (by omega)
      rw [dd_gt h]
      have hd := dig_toNat (q := u % 10) (by omega)
      refine ⟨?_, ?_, fun _ => ?_⟩
      · simp only [allG, List.all_append, List.all_cons, List.all_nil, Bool.and_true, Bool.and_eq_true]
        refine ⟨i1, ?_⟩
        simp only [isG, hd]
        simp; omega
      · rw [fv_snoc, i2, hd]
        omega
      · obtain ⟨d, t, e1, e2⟩ := i3 (by omega)
        exact ⟨d, t ++ [UInt8.ofNat (48 + u % 10)], by rw [e1]; rfl, e2⟩
theorem dg_dd {u : Nat} (h1 : 1 ≤ u) (h2 : u ≤ 65536) : dgOk (Go.Lib.decDigits u) = true ∧ (rr (Go.Lib.decDigits u)).1 = u ∧ noL (Go.Lib.decDigits u) = true := by
  obtain ⟨a, b, c⟩ := dd_is u
  obtain ⟨d, t, e, hd⟩ := c h1
  rw [e] at a b ⊢
  have hne : d ≠ 48 := fun x => hd (by rw [x]; rfl)
  have ha := a
  simp only [allG, List.all_cons, Bool.and_eq_true] at ha
  have hg := ha.1
  simp only [isG, decide_eq_true_eq] at hg
  have hlen : t.length < 5 := by
    have := fv_ge t (0 * 10 + (d.toNat - 48))
    rw [fv_cons] at b
    apply Classical.byContradiction
    intro hn
    have h4 : 1 * 10 ^ 5 ≤ (0 * 10 + (d.toNat - 48)) * 10 ^ t.length := Nat.mul_le_mul (by omega) (Nat.pow_le_pow_right (by omega) (by omega))
    omega
  obtain ⟨g1, g2, _⟩ := dg_in hne a hlen
  refine ⟨by rw [g1, b]; simpa using h2, by rw [g2, b], ?_⟩
  simp [noL, isL]; omega
theorem letter_is {q : Nat} (h : q ≤ 25) : isL (UInt8.ofNat (65 + q)) = true ∧ vl (UInt8.ofNat (65 + q)) = q + 1 := by
  have e := let_toNat h
  constructor
  · simp only [isL, e]; simp; omega
  · unfold vl; rw [e]; omega
theorem txt_reads {r c : Int} (r0 : 0 ≤ r) (r1 : r < 65536) (c0 : 0 ≤ c) (c1 : c < 256) : rdOk (txtC r c) = true ∧ rdR (txtC r c) = r ∧ rdC (txtC r c) = c := by
  obtain ⟨g1, g2, g3⟩ := dg_dd (u := (r + 1).toNat) (by omega) (by omega)
  have hc : colS c = colT c.toNat := by unfold colS; rw [inB_iff.2 ⟨c0, c1⟩]; rfl
  have key : rdOk (txtC r c) = true ∧ rc 0 (txtC r c) = (c.toNat + 1, Go.Lib.decDigits (r + 1).toNat) := by
    unfold txtC
    rw [hc]
    unfold colT
    by_cases h : c.toNat < 26
    · rw [if_pos h]
      obtain ⟨l1, l2⟩ := letter_is (q := c.toNat) (by omega)
      obtain ⟨k1, k2⟩ := rd_one l1 g3
      rw [List.cons_append, List.nil_append]
      exact ⟨by rw [k1, g1], by rw [k2, l2]⟩
    · rw [if_neg h]
      obtain ⟨l1, l2⟩ := letter_is (q := c.toNat / 26 - 1) (by omega)
      obtain ⟨m1, m2⟩ := letter_is (q := c.toNat % 26) (by omega)
      obtain ⟨k1, k2⟩ := rd_two l1 m1 g3
      rw [List.cons_append, List.cons_append, List.nil_append]
      refine ⟨?_, ?_⟩
      · rw [k1, g1, l2, m2, decide_eq_true (by omega)]
        rfl
      · rw [k2, l2, m2]
        congr 1
        omega
  obtain ⟨k1, k2⟩ := key
  refine ⟨k1, ?_, ?_⟩
  · unfold rdR; rw [k1, k2]; simp only [if_true, g2]; omega
  · unfold rdC; rw [k1, k2]; simp only [if_true]; omega
end Wpl
namespace Go.Proofs.YthofehcchickeaaGreatDoor
open Go.RowKit Go.Shelf
set_option linter.unusedVariables false
theorem isG_dig (c : UInt8) : Wpl.isG c = Wlx.dig c := by
  unfold Wpl.isG Wlx.dig
  by_cases h1 : 48 ≤ c.toNat <;> by_cases h2 : c.toNat ≤ 57 <;> simp [h1, h2] <;> omega
theorem dig_no36 {c : UInt8} (h : Wlx.dig c = true) : ¬ c = 36 := fun e => by rw [e] at h; exact absurd h (by decide)
theorem dd_dig (u : Nat) : ∀ c ∈ Lib.decDigits u, Wlx.dig c = true := by
  intro c hc
  have := (Wpl.dd_is u).1
  unfold Wpl.allG at this
  rw [List.all_eq_true] at this
  rw [← isG_dig]; exact this c hc
theorem dd_ne (u : Nat) : Lib.decDigits u ≠ [] := (Wnum.dd_facts u).2.2
theorem colT_cap : ∀ n : Fin 256, (∀ c ∈ Wpl.colT n.val, Wlx.cap c = true) ∧ Wpl.colT n.val ≠ [] := by decide +kernel
theorem colS_cap {c : Int} (h0 : 0 ≤ c) (h1 : c < 256) : (∀ x ∈ Wpl.colS c, Wlx.cap x = true) ∧ Wpl.colS c ≠ [] := by
  have hc : Wpl.colS c = Wpl.colT c.toNat := by unfold Wpl.colS; rw [Wpl.inB_iff.2 ⟨h0, h1⟩]; rfl
  rw [hc]
  exact colT_cap ⟨c.toNat, by omega⟩
theorem cap_no36 {c : UInt8} (h : Wlx.cap c = true) : ¬ c = 36 := fun e => by rw [e] at h; exact absurd h (by decide)
theorem cap_wrd {c : UInt8} (h : Wlx.cap c = true) : Wlx.wrd c = true := by unfold Wlx.wrd; rw [h]; rfl
theorem dig_wrd {c : UInt8} (h : Wlx.dig c = true) : Wlx.wrd c = true := by unfold Wlx.wrd; rw [h]; simp
theorem cap_dig : ∀ c : UInt8, Wlx.cap c = true → Wlx.dig c = false := by
  intro c
  have key : ∀ n : Fin 256, Wlx.cap (UInt8.ofNat n) = true → Wlx.dig (UInt8.ofNat n) = false := by decide +kernel
  have := key ⟨c.toNat, c.toNat_lt⟩
  simpa using this
theorem ltr_dig : ∀ c : UInt8, Wt.ltr c = true → Wlx.dig c = false ∧ Wlx.wrd c = true := by
  intro c
  have key : ∀ n : Fin 256, Wt.ltr (UInt8.ofNat n) = true → Wlx.dig (UInt8.ofNat n) = false ∧ Wlx.wrd (UInt8.ofNat n) = true := by decide +kernel
  have := key ⟨c.toNat, c.toNat_lt⟩
  simpa using this
theorem undol_id {l : List UInt8} (h : ∀ c ∈ l, ¬ c = 36) : undol l = l := by
  unfold undol
  rw [List.filter_eq_self]
  intro c hc
  simp [h c hc]
theorem undol_app (l m : List UInt8) : undol (l ++ m) = undol l ++ undol m := by unfold undol; rw [List.filter_append]
theorem undol_fx (b : Bool) : undol (fx b) = [] := by cases b <;> rfl
theorem any_no36 {l : List UInt8} (h : ∀ c ∈ l, ¬ c = 36) : l.any (fun c => c == 36) = false := by
  rw [List.any_eq_false]
  intro c hc
  simp [h c hc]
theorem rf_in {a : Wt.Rf} (h : Wt.rfOk a = true) : (0 ≤ a.r ∧ a.r < 65536 ∧ 0 ≤ a.c ∧ a.c < 256) ∧ (a.s = ⟨#[]⟩ ∨ Wt.shNm a.s = true) := by
  unfold Wt.rfOk Wt.inR at h
  simp only [Bool.and_eq_true, Bool.or_eq_true, decide_eq_true_eq] at h
  exact ⟨⟨h.1.1.1, h.1.1.2, h.1.2.1, h.1.2.2⟩, h.2⟩
theorem rw1_cw {a : Wt.Rf} (h : 0 ≤ a.r ∧ a.r < 65536 ∧ 0 ≤ a.c ∧ a.c < 256) : rw1 (cw a) = some ⟨⟨#[]⟩, a.r, a.c, a.fr, a.fc⟩ := by
  obtain ⟨h0, h1, h2, h3⟩ := h
  obtain ⟨k1, k2⟩ := colS_cap h2 h3
  have c36 : ∀ x ∈ Wpl.colS a.c, ¬ x = 36 := fun x hx => cap_no36 (k1 x hx)
  have d36 : ∀ x ∈ Lib.decDigits (a.r + 1).toNat, ¬ x = 36 := fun x hx => dig_no36 (dd_dig _ x hx)
  have hu : undol (cw a) = Wpl.txtC a.r a.c := by
    unfold cw Wpl.txtC
    rw [undol_app, undol_app, undol_app, undol_fx, undol_fx, undol_id c36, undol_id d36]
    simp
  obtain ⟨t1, t2, t3⟩ := Wpl.txt_reads h0 h1 h2 h3
  have hdol : dol (cw a) = a.fc := by
    unfold cw
    cases a.fc with
    | true => rfl
    | false =>
      cases hc : Wpl.colS a.c with
      | nil => exact absurd hc k2
      | cons x y =>
        have : ¬ x = 36 := c36 x (by rw [hc]; simp)
        simp [fx, dol, this]
  have hany : (if dol (cw a) then (cw a).drop 1 else cw a).any (fun c => c == 36) = a.fr := by
    rw [hdol]
    have e : (if a.fc = true then (cw a).drop 1 else cw a) = Wpl.colS a.c ++ fx a.fr ++ Lib.decDigits (a.r + 1).toNat := by
      unfold cw
      cases a.fc with
      | true => rfl
      | false => rfl
    rw [e, List.any_append, List.any_append, any_no36 c36, any_no36 d36]
    cases a.fr <;> rfl
  have hrf : rfOf (cw a) = ⟨⟨#[]⟩, a.r, a.c, a.fr, a.fc⟩ := by
    unfold rfOf
    rw [hany, hdol, hu, t2, t3]
  unfold rw1
  rw [hu, if_pos t1, hrf, if_pos (show cw ⟨⟨#[]⟩, a.r, a.c, a.fr, a.fc⟩ = cw a from rfl)]
theorem fx_wrd (b : Bool) : ∀ x ∈ fx b, Wlx.wrd x = true := by cases b <;> decide
theorem cw_wrd {a : Wt.Rf} (h : 0 ≤ a.r ∧ a.r < 65536 ∧ 0 ≤ a.c ∧ a.c < 256) : (∀ x ∈ cw a, Wlx.wrd x = true) ∧ (∃ c t, cw a = c :: t ∧ Wlx.dig c = false) ∧ ∃ x ∈ cw a, Wlx.dig x = true := by
  obtain ⟨h0, h1, h2, h3⟩ := h
  obtain ⟨k1, k2⟩ := colS_cap h2 h3
  refine ⟨?_, ?_, ?_⟩
  · intro x hx
    unfold cw at hx
    simp only [List.mem_append] at hx
    rcases hx with ((hx | hx) | hx) | hx
    · exact fx_wrd _ x hx
    · exact cap_wrd (k1 x hx)
    · exact fx_wrd _ x hx
    · exact dig_wrd (dd_dig _ x hx)
  · unfold cw
    cases a.fc with
    | true => exact ⟨36, _, rfl, by decide⟩
    | false =>
      cases hc : Wpl.colS a.c with
      | nil => exact absurd hc k2
      | cons x y => exact ⟨x, _, rfl, cap_dig x (k1 x (by rw [hc]; simp))⟩
  · cases hd : Lib.decDigits (a.r + 1).toNat with
    | nil => exact absurd hd (dd_ne _)
    | cons x y =>
      refine ⟨x, ?_, dd_dig (a.r + 1).toNat x (by rw [hd]; simp)⟩
      unfold cw
      rw [hd]
      simp
theorem cw_not {a : Wt.Rf} (h : 0 ≤ a.r ∧ a.r < 65536 ∧ 0 ≤ a.c ∧ a.c < 256) : ¬ cw a = [84, 82, 85, 69] ∧ ¬ cw a = [70, 65, 76, 83, 69] := by
  obtain ⟨x, hx, hd⟩ := (cw_wrd h).2.2
  refine ⟨fun e => ?_, fun e => ?_⟩
  · rw [e] at hx
    have g : ∀ x ∈ [84, 82, 85, 69], Wlx.dig x = false := by decide
    rw [g x hx] at hd; cases hd
  · rw [e] at hx
    have g : ∀ x ∈ [70, 65, 76, 83, 69], Wlx.dig x = false := by decide
    rw [g x hx] at hd; cases hd
theorem wrd_prt {l : List UInt8} (h : ∀ x ∈ l, Wlx.wrd x = true) : ∀ x ∈ l, Wlx.prt x = true := fun x hx => (Wlx.prt_wrd x).1 (h x hx)
theorem Wr_word {l : List UInt8} (hw : ∀ x ∈ l, Wlx.wrd x = true) (hd : ∃ c t, l = c :: t ∧ Wlx.dig c = false) : Wlx.Wr l [(3, l)] ∧ Wlx.Hdk l := by
  obtain ⟨c, t, rfl, hd⟩ := hd
  refine ⟨?_, c, t, rfl, fun e => ?_, fun e => ?_⟩
  · have := Wlx.Wr.one (k := 3) (u := c :: t) (fun r hr => Wlx.at_word hw hd hr) (wrd_prt hw)
    rw [Wlx.said_other (by decide)] at this
    exact this
  · rw [e] at hw; exact absurd (hw 61 (by simp)) (by decide)
  · rw [e] at hw; exact absurd (hw 62 (by simp)) (by decide)
theorem nm_word {p : UInt8 → Bool} (hp : ∀ c, p c = true → Wlx.wrd c = true ∧ Wlx.dig c = false) {l : List UInt8} (h : Wt.isNm p l = true) : (∀ x ∈ l, Wlx.wrd x = true) ∧ ∃ c t, l = c :: t ∧ Wlx.dig c = false := by
  unfold Wt.isNm at h
  simp only [Bool.and_eq_true, decide_eq_true_eq, List.all_eq_true, Bool.or_eq_true] at h
  refine ⟨fun x hx => ?_, ?_⟩
  · rcases h.2 x hx with h | h
    · exact (hp x h).1
    · exact dig_wrd h
  · cases l with
    | nil => simp at h
    | cons c t => exact ⟨c, t, rfl, (hp c h.1.2).2⟩
theorem sh_word {s : ByteArray} (h : Wt.shNm s = true) : (∀ x ∈ s.data.toList, Wlx.wrd x = true) ∧ ∃ c t, s.data.toList = c :: t ∧ Wlx.dig c = false :=
  nm_word (fun c hc => ⟨(ltr_dig c hc).2, (ltr_dig c hc).1⟩) h
theorem fn_word {s : ByteArray} (h : Wt.fnNm s = true) : (∀ x ∈ s.data.toList, Wlx.wrd x = true) ∧ ∃ c t, s.data.toList = c :: t ∧ Wlx.dig c = false :=
  nm_word (fun c hc => ⟨cap_wrd hc, cap_dig c hc⟩) h
def tvT (q : Nat × List UInt8) : Int × List UInt8 := ((q.1 : Int), q.2)
def Rep (us : List Wlx.TV) (T : List (Nat × List UInt8)) : Prop := us.map kt = T.map tvT
theorem Rep.nil {us : List Wlx.TV} (h : Rep us []) : us = [] := by
  cases us with
  | nil => rfl
  | cons u q => simp [Rep] at h
theorem Rep.cons {us : List Wlx.TV} {k : Nat} {t : List UInt8} {T : List (Nat × List UInt8)} (h : Rep us ((k, t) :: T)) : ∃ p q, us = ⟨(k : Int), t, p⟩ :: q ∧ Rep q T := by
  cases us with
  | nil => simp [Rep] at h
  | cons u q =>
    simp only [Rep, List.map_cons, List.cons.injEq, kt, tvT, Prod.mk.injEq] at h
    obtain ⟨uk, ut, up⟩ := u
    simp only at h
    exact ⟨up, q, by rw [h.1.1, h.1.2], h.2⟩
theorem Rep.app {us : List Wlx.TV} {T S : List (Nat × List UInt8)} (h : Rep us (T ++ S)) : ∃ a b, us = a ++ b ∧ Rep a T ∧ Rep b S := by
  unfold Rep at *
  rw [List.map_append] at h
  obtain ⟨a, b, e, h1, h2⟩ := List.map_eq_append_iff.1 h
  exact ⟨a, b, e, h1, h2⟩
theorem Rep.len {us : List Wlx.TV} {T : List (Nat × List UInt8)} (h : Rep us T) : us.length = T.length := by
  have := congrArg List.length h
  simpa using this
def Fol (tl : List Wlx.TV) : Prop := ∀ c q, tl = c :: q → isMk c [40] = false ∧ isMk c [33] = false ∧ isMk c [58] = false
def NoSg (T : List (Nat × List UInt8)) : Prop := ∃ k t q, T = (k, t) :: q ∧ (¬ k = 5 ∨ t = [40])
def Par7 (T : List (Nat × List UInt8)) (row : List Wt.Nd) : Prop := NoSg T ∧ ∀ (en : Int) (f : Nat) (us tl : List Wlx.TV), Rep us T → Fol tl → 10 * T.length + 2 ≤ f → lv en f 7 (us ++ tl) = .inl (row, tl)
theorem fol_no {u : Wlx.TV} {tl : List Wlx.TV} (h : Fol tl) : fol (u :: tl) [40] = false ∧ fol (u :: tl) [33] = false := by
  cases tl with
  | nil => exact ⟨rfl, rfl⟩
  | cons c q => exact ⟨(h c q rfl).1, (h c q rfl).2.1⟩
theorem tk_no {tl : List Wlx.TV} (h : Fol tl) : tk tl [58] = none := by
  cases tl with
  | nil => rfl
  | cons c q => simp only [tk]; rw [(h c q rfl).2.2]; rfl
theorem par_lit {k : Nat} {t : List UInt8} {v : Wt.Vl} (h3 : ¬ k = 3) (h5 : ¬ k = 5) (h : ∀ p, litV ⟨(k : Int), t, p⟩ = some v) : Par7 [(k, t)] [leafN v] := by
  refine ⟨⟨k, t, [], rfl, Or.inl h5⟩, fun en f us tl hr hf hl => ?_⟩
  obtain ⟨p, q, rfl, hq⟩ := hr.cons
  rw [hq.nil]
  obtain ⟨f, rfl⟩ : ∃ g, f = g + 1 := ⟨f - 1, by omega⟩
  rw [lv_si]
  unfold psi
  rw [List.cons_append, List.nil_append, if_neg (by show ¬ (k : Int) = 3; omega), if_neg (by show ¬ (k : Int) = 5; omega)]
  unfold pl
  show (match litV ⟨(k : Int), t, p⟩ with | some v => _ | none => _) = _
  rw [h p]
  rfl
theorem par_truth (b : Bool) : Par7 [(3, if b then [84, 82, 85, 69] else [70, 65, 76, 83, 69])] [leafN (vTruth b)] := by
  refine ⟨⟨_, _, [], rfl, Or.inl (by decide)⟩, fun en f us tl hr hf hl => ?_⟩
  obtain ⟨p, q, rfl, hq⟩ := hr.cons
  rw [hq.nil]
  obtain ⟨f, rfl⟩ : ∃ g, f = g + 1 := ⟨f - 1, by omega⟩
  rw [lv_si]
  unfold psi
  rw [List.cons_append, List.nil_append, if_pos (by rfl)]
  unfold pword
  rw [(fol_no hf).1, (fol_no hf).2]
  cases b
  · rfl
  · rfl
theorem allD_dig {l : List UInt8} (h : Wnum.allD l) : ∀ c ∈ l, Wlx.dig c = true := by
  intro c hc
  have := h c hc
  unfold Wlx.dig
  rw [decide_eq_true (by omega), decide_eq_true (by omega)]; rfl
theorem dig_hdk {l : List UInt8} (h0 : l ≠ []) (h : ∀ c ∈ l, Wlx.dig c = true) (r : List UInt8) : Wlx.Hdk (l ++ r) := by
  cases l with
  | nil => exact absurd rfl h0
  | cons c t =>
    refine ⟨c, t ++ r, rfl, fun e => ?_, fun e => ?_⟩
    · have := h c (by simp); rw [e] at this; exact absurd this (by decide)
    · have := h c (by simp); rw [e] at this; exact absurd this (by decide)
theorem dig_prt {l : List UInt8} (h : ∀ c ∈ l, Wlx.dig c = true) : ∀ c ∈ l, Wlx.prt c = true := fun c hc => (Wlx.prt_wrd c).2.1 (h c hc)
theorem wr_val {v : Wt.Vl} (h : Wt.vlOk v = true) : ∃ T, Wlx.Wr (litT v) T ∧ Wlx.Hdk (litT v) ∧ Par7 T [leafN v] := by
  obtain ⟨k, n, d, t, b, f⟩ := v
  have hk : k = 1 ∨ k = 2 ∨ k = 3 ∨ k = 4 := by
    by_cases h0 : k = 0
    · simp [Wt.vlOk, h0] at h
    by_cases h1 : k = 1
    · exact Or.inl h1
    simp only [Wt.vlOk, if_neg h0, if_neg h1, Wv.right] at h
    repeat' split at h
    all_goals first | omega | cases h
  rcases hk with rfl | rfl | rfl | rfl
  · simp [Wt.vlOk, Wv.right] at h
    obtain ⟨⟨⟨⟨⟨hr, rfl⟩, rfl⟩, rfl⟩, hn⟩, hd⟩ := h
    have hb := hr
    unfold Wnum.rightB at hb
    simp only [decide_eq_true_eq] at hb
    obtain ⟨b1, b2, b3, b4, b5⟩ := hb
    have hN : Wnum.cN n d = n := by unfold Wnum.cN; rw [if_pos hr]
    have hD : Wnum.cD n d = d := by unfold Wnum.cD; rw [if_pos hr]
    have hlt : litT ⟨1, n, d, ⟨#[]⟩, false, 0⟩ = Wnum.txt n d.toNat := by unfold litT; rw [if_pos rfl]; simp only [hN, hD]
    rw [hlt]
    obtain ⟨D, rfl⟩ : ∃ D : Nat, d = D := ⟨d.toNat, by omega⟩
    rw [Int.toNat_natCast]
    have hsg : Wnum.sgnT n = [] := by unfold Wnum.sgnT; rw [if_neg (by omega)]
    have hdv : 1000000 % D = 0 := by
      have h1 : ((1000000 % D : Nat) : Int) = ((1000000 : Nat) : Int) % (D : Int) := Int.natCast_emod _ _
      have h2 : ((1000000 : Nat) : Int) % (D : Int) = 0 := hd
      rw [h2] at h1
      exact Int.natCast_eq_zero.1 h1
    have key : Wlx.Wr (Wnum.txt n D) [(1, Wnum.txt n D)] ∧ Wlx.Hdk (Wnum.txt n D) := by
      by_cases hz : n.natAbs % D = 0
      · rw [Wnum.txt_whole hdv hz, hsg, List.nil_append]
        have g := dd_dig (n.natAbs / D)
        refine ⟨?_, by have := dig_hdk (dd_ne _) g []; rw [List.append_nil] at this; exact this⟩
        have := Wlx.Wr.one (k := 1) (fun r hr => Wlx.at_whole (dd_ne _) g hr) (dig_prt g)
        rw [Wlx.said_other (by decide)] at this
        exact this
      · rw [Wnum.txt_point hdv hz, hsg, List.nil_append]
        have g := dd_dig (n.natAbs / D)
        have hlt : n.natAbs % D < D := Nat.mod_lt _ (by omega)
        have g2 := allD_dig (Wnum.decs_facts (d := D) (by omega) 6 (n.natAbs % D) hlt (Wnum.ends_six hdv)).1
        have g0 : Wnum.decs D 6 (n.natAbs % D) ≠ [] := List.length_pos_iff.1 (Wnum.decs_some hz)
        refine ⟨?_, dig_hdk (dd_ne _) g _⟩
        have := Wlx.Wr.one (k := 1) (fun r hr => Wlx.at_point (dd_ne _) g0 g g2 hr) (fun c hc => by
          rcases List.mem_append.1 hc with hc | hc
          · exact dig_prt g c hc
          · rcases List.mem_cons.1 hc with rfl | hc
            · decide
            · exact dig_prt g2 c hc)
        rw [Wlx.said_other (by decide)] at this
        exact this
    refine ⟨_, key.1, key.2, par_lit (by decide) (by decide) (fun p => ?_)⟩
    unfold litV
    rw [if_pos (by rfl)]
    simp only
    rw [Wnum.txt_reads b1 b2 (by omega) (by omega) b5]
    obtain ⟨q1, q2⟩ := Wnum.divInt_parts (n := n) (d := (D : Int)) b3 b5
    have hq : Wnum.okQ (Rat.divInt n (D : Int)) = true := by
      unfold Wnum.okQ
      rw [decide_eq_true_eq, q1]
      exact ⟨b1, b2, by omega⟩
    simp only [Wnum.oB, Wnum.oN, Wnum.oD, hq, if_true, q1, q2, vNum, hN, hD]
  · simp [Wt.vlOk, Wv.right] at h
    obtain ⟨⟨⟨⟨⟨h1, h2⟩, rfl⟩, rfl⟩, rfl⟩, rfl⟩ := h
    have hlt : litT ⟨2, 0, 0, t, false, 0⟩ = 34 :: (Wlx.dbl t.data.toList ++ [34]) := rfl
    rw [hlt]
    have hp : ∀ c ∈ t.data.toList, Wlx.prt c = true := by
      unfold Wv.prts at h2
      rw [List.all_eq_true] at h2
      exact h2
    refine ⟨[(2, t.data.toList)], ?_, ⟨34, _, rfl, by decide, by decide⟩, par_lit (by decide) (by decide) (fun p => ?_)⟩
    · have := Wlx.Wr.one (k := 2) (fun r hr => Wlx.at_text t.data.toList hr) (Wlx.dbl_prt hp)
      rw [Wlx.said_text] at this
      exact this
    · unfold litV
      rw [if_neg (by show ¬ (2 : Int) = 1; decide), if_pos (by rfl)]
      simp only
      rw [if_pos (by exact h1)]
      have e : (⟨t.data.toList.toArray⟩ : ByteArray) = t := by rw [Array.toArray_toList]
      rw [e]
      unfold vText
      rw [if_pos h2, if_neg (by omega)]
  · simp [Wt.vlOk, Wv.right] at h
    obtain ⟨⟨⟨rfl, rfl⟩, rfl⟩, rfl⟩ := h
    have hlt : litT ⟨3, 0, 0, ⟨#[]⟩, b, 0⟩ = if b then [84, 82, 85, 69] else [70, 65, 76, 83, 69] := rfl
    rw [hlt]
    have := Wr_word (l := if b then [84, 82, 85, 69] else [70, 65, 76, 83, 69]) (by cases b <;> decide) (by cases b <;> exact ⟨_, _, rfl, by decide⟩)
    exact ⟨_, this.1, this.2, par_truth b⟩
  · simp [Wt.vlOk, Wv.right, Wv.flt] at h
    obtain ⟨⟨⟨⟨⟨h1, h2⟩, rfl⟩, rfl⟩, rfl⟩, rfl⟩ := h
    have hlt : litT ⟨4, 0, 0, ⟨#[]⟩, false, f⟩ = fNames.getD f.toNat [] := rfl
    rw [hlt]
    obtain ⟨i, rfl⟩ : ∃ i : Nat, f = i := ⟨f.toNat, by omega⟩
    rw [Int.toNat_natCast]
    have key : ∀ i : Fin 9, 1 ≤ i.val → fNames.getD i.val [] ∈ Wlx.faults ∧ (fi (fNames.getD i.val []) 0 fNames) = i.val := by decide
    obtain ⟨m1, m2⟩ := key ⟨i, by omega⟩ (by show 1 ≤ i; omega)
    simp only at m1 m2
    have hh : ∀ u ∈ Wlx.faults, Wlx.Hdk u ∧ ∀ c ∈ u, Wlx.prt c = true := by
      intro u hu
      refine ⟨?_, Wlx.runP_mem u (Wlx.fault_prt u hu)⟩
      have g : ∀ u ∈ Wlx.faults, u.head? = some 35 := by decide
      have := g u hu
      cases u with
      | nil => cases this
      | cons c t => obtain rfl := Option.some.inj this; exact ⟨35, t, rfl, by decide, by decide⟩
    refine ⟨[(4, fNames.getD i [])], ?_, (hh _ m1).1, par_lit (by decide) (by decide) (fun p => ?_)⟩
    · have := Wlx.Wr.one (k := 4) (fun r hr => Wlx.at_fault (r := r) m1) (hh _ m1).2
      rw [Wlx.said_other (by decide)] at this
      exact this
    · unfold litV
      rw [if_neg (by show ¬ (4 : Int) = 1; decide), if_neg (by show ¬ (4 : Int) = 2; decide), if_pos (by rfl)]
      simp only [m2]
def cTok (a : Wt.Rf) : List (Nat × List UInt8) := if a.s = ⟨#[]⟩ then [(3, cw a)] else [(3, a.s.data.toList), (5, [33]), (3, cw a)]
theorem wr_cw {a : Wt.Rf} (h : Wt.rfOk a = true) : Wlx.Wr (cw a) [(3, cw a)] ∧ Wlx.Hdk (cw a) :=
  Wr_word (cw_wrd (rf_in h).1).1 (cw_wrd (rf_in h).1).2.1
theorem wr_cel {a : Wt.Rf} (h : Wt.rfOk a = true) : Wlx.Wr (celT a) (cTok a) ∧ Wlx.Hdk (celT a) := by
  unfold celT cTok
  by_cases hs : a.s = ⟨#[]⟩
  · rw [if_pos hs, if_pos hs]
    exact wr_cw h
  · rw [if_neg hs, if_neg hs]
    have hn := (rf_in h).2.resolve_left hs
    obtain ⟨n1, n2⟩ := sh_word hn
    obtain ⟨m1, m2⟩ := Wr_word n1 n2
    have h3 := Wlx.Wr.mark (m := [33]) (by decide) (wr_cw h).2 (wr_cw h).1
    refine ⟨m1.app h3 (by simp) (Wlx.Aft.cons (by decide)), ?_⟩
    obtain ⟨c, t, e, q⟩ := m2
    exact ⟨c, _, by rw [e]; rfl, q⟩
theorem pc_word {a : Wt.Rf} (h : Wt.rfOk a = true) (en p : Int) {tl : List Wlx.TV} (hx : ∀ u : Wlx.TV, fol (u :: tl) [40] = false ∧ fol (u :: tl) [33] = false) : pc (⟨3, cw a, p⟩ :: tl) en = .inl (⟨⟨#[]⟩, a.r, a.c, a.fr, a.fc⟩, tl) := by
  unfold pc
  rw [if_pos (by rfl), (hx _).1, (hx _).2]
  show (match rw1 (cw a) with | some a => _ | none => _) = _
  rw [rw1_cw (rf_in h).1]
  rfl
theorem fol_mark {m : List UInt8} (h1 : ¬ m = [40]) (h2 : ¬ m = [33]) (p : Int) (r : List Wlx.TV) (u : Wlx.TV) : fol (u :: ⟨5, m, p⟩ :: r) [40] = false ∧ fol (u :: ⟨5, m, p⟩ :: r) [33] = false := by
  refine ⟨?_, ?_⟩
  · show isMk ⟨5, m, p⟩ [40] = false
    unfold isMk; simp [h1]
  · show isMk ⟨5, m, p⟩ [33] = false
    unfold isMk; simp [h2]
theorem pword_cel {sub : List Wlx.TV → PR} {a : Wt.Rf} (h : Wt.rfOk a = true) (en : Int) {us tl : List Wlx.TV} (hr : Rep us (cTok a)) (hx : ∀ u : Wlx.TV, fol (u :: tl) [40] = false ∧ fol (u :: tl) [33] = false) :
    (hd (us ++ tl) en).k = 3 ∧ pword sub en (us ++ tl) = (match tk tl [58] with
      | none => .inl ([⟨2, Wt.v0, 0, ⟨#[]⟩, 0, a, Wt.r0⟩], tl)
      | some r2 => match pc r2 en with
        | .inr e => .inr e
        | .inl (b, r3) => .inl ([⟨3, Wt.v0, 0, ⟨#[]⟩, 0, a, b⟩], r3)) := by
  obtain ⟨hin, hsh⟩ := rf_in h
  unfold cTok at hr
  by_cases hs : a.s = ⟨#[]⟩
  · rw [if_pos hs] at hr
    obtain ⟨p, q, rfl, hq⟩ := hr.cons
    rw [hq.nil, List.cons_append, List.nil_append]
    refine ⟨rfl, ?_⟩
    unfold pword
    rw [(hx _).1, (hx _).2]
    show (if (cw a) = [84, 82, 85, 69] then _ else if (cw a) = [70, 65, 76, 83, 69] then _ else pcs _ _ _) = _
    rw [if_neg (cw_not hin).1, if_neg (cw_not hin).2]
    unfold pcs
    rw [show ((3 : Nat) : Int) = 3 from rfl, pc_word h en p hx]
    simp only
    have ea : a = ⟨⟨#[]⟩, a.r, a.c, a.fr, a.fc⟩ := by
      obtain ⟨s, r, c, fr, fc⟩ := a
      simp only at hs
      rw [hs]
    rw [← ea]
    cases tk tl [58] with
    | none => rfl
    | some r2 => cases hp : pc r2 en <;> simp only [hp]
  · rw [if_neg hs] at hr
    obtain ⟨p1, q1, rfl, hq1⟩ := hr.cons
    obtain ⟨p2, q2, rfl, hq2⟩ := hq1.cons
    obtain ⟨p3, q3, rfl, hq3⟩ := hq2.cons
    rw [hq3.nil]
    refine ⟨rfl, ?_⟩
    rw [List.cons_append, List.cons_append, List.cons_append, List.nil_append]
    unfold pword
    rw [show fol (⟨((3 : Nat) : Int), a.s.data.toList, p1⟩ :: ⟨((5 : Nat) : Int), [33], p2⟩ :: ⟨((3 : Nat) : Int), cw a, p3⟩ :: tl) [40] = false from rfl, show fol (⟨((3 : Nat) : Int), a.s.data.toList, p1⟩ :: ⟨((5 : Nat) : Int), [33], p2⟩ :: ⟨((3 : Nat) : Int), cw a, p3⟩ :: tl) [33] = true from rfl]
    have e : (⟨(hd (⟨((3 : Nat) : Int), a.s.data.toList, p1⟩ :: ⟨((5 : Nat) : Int), [33], p2⟩ :: ⟨((3 : Nat) : Int), cw a, p3⟩ :: tl) en).t.toArray⟩ : ByteArray) = a.s := by
      show (⟨a.s.data.toList.toArray⟩ : ByteArray) = a.s
      rw [Array.toArray_toList]
    rw [e, if_neg (by decide), if_pos rfl, if_pos (hsh.resolve_left hs)]
    show pcs a.s (⟨((3 : Nat) : Int), cw a, p3⟩ :: tl) en = _
    unfold pcs
    rw [show ((3 : Nat) : Int) = 3 from rfl, pc_word h en p3 hx]
    simp only
    cases tk tl [58] with
    | none => rfl
    | some r2 => cases hp : pc r2 en <;> simp only [hp]
theorem par_cel {a : Wt.Rf} (h : Wt.rfOk a = true) : Par7 (cTok a) [⟨2, Wt.v0, 0, ⟨#[]⟩, 0, a, Wt.r0⟩] := by
  refine ⟨?_, fun en f us tl hr hf hl => ?_⟩
  · unfold cTok
    split
    · exact ⟨_, _, _, rfl, Or.inl (by decide)⟩
    · exact ⟨_, _, _, rfl, Or.inl (by decide)⟩
  · obtain ⟨f, rfl⟩ : ∃ g, f = g + 1 := ⟨f - 1, by omega⟩
    obtain ⟨h3, e⟩ := pword_cel (sub := lv en f 0) h en hr (fun u => fol_no hf)
    rw [lv_si]
    unfold psi
    rw [if_pos h3, e, tk_no hf]
theorem par_area {a b : Wt.Rf} (h : Wt.rfOk a = true) (hb : Wt.rfOk b = true) (hs : b.s = ⟨#[]⟩) : Par7 (cTok a ++ (5, [58]) :: cTok b) [⟨3, Wt.v0, 0, ⟨#[]⟩, 0, a, b⟩] := by
  refine ⟨?_, fun en f us tl hr hf hl => ?_⟩
  · unfold cTok
    split
    · exact ⟨_, _, _, rfl, Or.inl (by decide)⟩
    · exact ⟨_, _, _, rfl, Or.inl (by decide)⟩
  · obtain ⟨f, rfl⟩ : ∃ g, f = g + 1 := ⟨f - 1, by omega⟩
    obtain ⟨u1, u2, rfl, r1, r2⟩ := hr.app
    obtain ⟨p, q, rfl, hq⟩ := r2.cons
    unfold cTok at hq
    rw [if_pos hs] at hq
    obtain ⟨p3, q3, rfl, hq3⟩ := hq.cons
    rw [hq3.nil, List.append_assoc, List.cons_append, List.cons_append, List.nil_append]
    obtain ⟨h3, e⟩ := pword_cel (sub := lv en f 0) (tl := ⟨((5 : Nat) : Int), [58], p⟩ :: ⟨((3 : Nat) : Int), cw b, p3⟩ :: tl) h en r1 (fun u => fol_mark (by decide) (by decide) p _ u)
    rw [lv_si]
    unfold psi
    rw [if_pos h3, e]
    rw [show tk (⟨((5 : Nat) : Int), [58], p⟩ :: ⟨((3 : Nat) : Int), cw b, p3⟩ :: tl) [58] = some (⟨((3 : Nat) : Int), cw b, p3⟩ :: tl) from rfl]
    simp only
    rw [show ((3 : Nat) : Int) = 3 from rfl, pc_word hb en p3 (fun u => fol_no hf)]
    simp only
    have ea : b = ⟨⟨#[]⟩, b.r, b.c, b.fr, b.fc⟩ := by
      obtain ⟨s, r, c, fr, fc⟩ := b
      simp only at hs
      rw [hs]
    rw [← ea]
theorem wr_area {a b : Wt.Rf} (h : Wt.rfOk a = true) (hb : Wt.rfOk b = true) : Wlx.Wr (celT a ++ 58 :: celT b) (cTok a ++ (5, [58]) :: cTok b) ∧ Wlx.Hdk (celT a ++ 58 :: celT b) := by
  obtain ⟨m1, m2⟩ := wr_cel h
  obtain ⟨n1, n2⟩ := wr_cel hb
  have h3 := Wlx.Wr.mark (m := [58]) (by decide) n2 n1
  refine ⟨m1.app h3 (by simp) (Wlx.Aft.cons (by decide)), ?_⟩
  obtain ⟨c, t, e, q⟩ := m2
  exact ⟨c, _, by rw [e]; rfl, q⟩
theorem prsR_of {l : List UInt8} {row : List Wt.Nd} (hl : l.length ≤ 1024) {ts : List Wlx.Tok} (hok : Wlx.Ok 0 l ts) (h : lv (l.length : Int) (10 * (ts.map Wlx.tv).length + 9) 0 (ts.map Wlx.tv) = .inl (row, [])) : prsR l = if Wt.check row = 0 then .inl row else .inr (Wt.check row, 0) := by
  unfold prsR scanAll
  rw [if_neg (by omega), hok.scan]
  show prsT _ _ = _
  unfold prsT pall
  rw [h]
end Go.Proofs.YthofehcchickeaaGreatDoor
