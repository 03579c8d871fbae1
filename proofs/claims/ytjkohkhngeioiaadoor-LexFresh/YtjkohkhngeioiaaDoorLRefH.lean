/- The reference's one: marks, and what is no token. -/
import Derived.Test.YtjkohkhngeioiaaDoorLRefG
namespace Wlx
def singles : List UInt8 := [43, 45, 42, 47, 94, 38, 37, 40, 41, 44, 58, 33, 61, 60, 62]
theorem marks_is : marks = [60, 62] :: [60, 61] :: [62, 61] :: singles.map (fun x => [x]) := rfl
theorem nameSz_singles (c : UInt8) (t : List UInt8) : ∀ ss : List UInt8, nameSz (c :: t) (ss.map (fun x => [x])) = if c ∈ ss then 1 else 0
  | [] => by simp [nameSz]
  | x :: r => by
    rw [List.map_cons, nameSz_cons, nameSz_singles c t r]
    have hb : begins [x] (c :: t) = decide (x = c) := by show (decide (x = c) && begins [] t) = _; simp [begins]
    rw [hb]
    by_cases h : x = c
    · subst h; simp
    · have h2 : ¬ c = x := fun e => h e.symm
      simp [h, h2]
theorem nameSz_marks (c : UInt8) (t : List UInt8) : nameSz (c :: t) marks = if begins [60, 62] (c :: t) || begins [60, 61] (c :: t) || begins [62, 61] (c :: t) then 2 else if c ∈ singles then 1 else 0 := by
  rw [marks_is, nameSz_cons, nameSz_cons, nameSz_cons, nameSz_singles]
  cases begins [60, 62] (c :: t) <;> cases begins [60, 61] (c :: t) <;> cases begins [62, 61] (c :: t) <;> simp
theorem single_mk : ∀ c ∈ singles, mk c = true := by decide
end Wlx
namespace Go.Proofs.YtjkohkhngeioiaaDoor
open Go.Shelf Go.RowKit
set_option linter.unusedVariables false

theorem hit_other {c : UInt8} {t : List UInt8} (h1 : Wlx.wrd c = false) (h2 : ¬ c = 34) (h3 : ¬ c = 35) (h : Wlx.nameSz (c :: t) Wlx.marks = 0) : Wlx.hit (c :: t) = 6 := by
  refine Wlx.hit_none fun j a b => ?_
  have : j = 1 ∨ j = 2 ∨ j = 3 ∨ j = 4 ∨ j = 5 := by omega
  rcases this with rfl | rfl | rfl | rfl | rfl
  · have : ¬ 0 < Wlx.numSz (c :: t) := fun h => by have := (Wlx.cls c).2.1 (Wlx.numSz_pos.1 h); rw [h1] at this; cases this
    rw [Wlx.sz1]; omega
  · have : ¬ 0 < Wlx.txtSz (c :: t) := fun h => h2 (Wlx.txtSz_pos h)
    rw [Wlx.sz2]; omega
  · have : ¬ 0 < Wlx.runP Wlx.wrd (c :: t) := fun h => by have := Wlx.wrdSz_pos.1 h; rw [h1] at this; cases this
    rw [Wlx.sz3]; omega
  · have : ¬ 0 < Wlx.nameSz (c :: t) Wlx.faults := fun h => h3 (Wlx.faultSz_pos h)
    rw [Wlx.sz4]; omega
  · exact h

set_option maxRecDepth 100000 in
set_option maxHeartbeats 3200000 in
theorem one_mark (b : ByteArray) (q : Nat) (c : UInt8) (t : List UInt8) (w : World) (hs : b.size ≤ 1024) (hq : q < b.size) (hd : b.data.toList.drop q = c :: t) (hw : Wlx.wrd c = false) (h34 : ¬ c = 34) (h35 : ¬ c = 35) (h32 : ¬ c = 32) : Calls Tryd.prog 23 #[.string b, .int .i64 q] w fun e w' => OnePost q (c :: t) e ∧ Below w.heap.size w w' := by
  obtain ⟨_, hbq⟩ := byte_of (x := []) (y := t) (c := c) hd
  have hbq : b[q] = c := hbq
  have eb : (((b[q]).toNat : Nat) : Int) = ((c.toNat : Nat) : Int) := by rw [hbq]
  have cb := byte_bd c
  have D0 := fun w => rdigit_any c w
  have L0 := fun w => rletter_any c w
  have hw2 := hw
  rw [Wlx.wrd_iff] at hw2
  simp only [Bool.or_eq_false_iff] at hw2
  have hlx : (Wlx.cap c || Wlx.low c) = false := by rw [hw2.1.1.1, hw2.1.1.2]; rfl
  rw [hlx] at L0
  rw [hw2.2] at D0
  have e36 : (((c.toNat : Nat) : Int) == 36) = false := beq_eq_false_iff_ne.2 (of_decide_eq_false hw2.1.2)
  have ne : ∀ d : UInt8, ¬ c = d → (((c.toNat : Nat) : Int) == ((d.toNat : Nat) : Int)) = false := fun d h => by
    refine beq_eq_false_iff_ne.2 (fun e => h ?_)
    have : c.toNat = d.toNat := by omega
    exact UInt8.toNat_inj.1 this
  have e34 : (((c.toNat : Nat) : Int) == 34) = false := ne 34 h34
  have e35 : (((c.toNat : Nat) : Int) == 35) = false := ne 35 h35
  have hqi : (q : Int) < (b.size : Int) := by omega
  have hsz := size_of (by omega : q ≤ b.size) hd
  simp only [List.length_cons] at hsz
  have B1 := fun w => rbegins_any b ⟨#[60, 62]⟩ q w (by omega) hs (by decide)
  have B2 := fun w => rbegins_any b ⟨#[60, 61]⟩ q w (by omega) hs (by decide)
  have B3 := fun w => rbegins_any b ⟨#[62, 61]⟩ q w (by omega) hs (by decide)
  have l1 : (⟨#[60, 62]⟩ : ByteArray).data.toList = [60, 62] := rfl
  have l2 : (⟨#[60, 61]⟩ : ByteArray).data.toList = [60, 61] := rfl
  have l3 : (⟨#[62, 61]⟩ : ByteArray).data.toList = [62, 61] := rfl
  rw [l1, hd] at B1
  rw [l2, hd] at B2
  rw [l3, hd] at B3
  have hM := Wlx.nameSz_marks c t
  have plain : ∀ n, 0 < n → Wlx.nameSz (c :: t) Wlx.marks = n → n ≤ t.length + 1 → ∀ e, e = .returned (.tuple #[.agg #[.int .i64 5, .string (b.extract q (q + n)), .int .i64 q], .int .i64 ((q + n : Nat) : Int), .int .i64 0, .int .i64 0]) → OnePost q (c :: t) e := by
    intro n h0 h1 _ e he
    have hmk : Wlx.mk c = true := Wlx.markSz_pos (by rw [h1]; exact h0)
    have hh : Wlx.hit (c :: t) = 5 := Wlx.hit_of (Or.inr (Or.inr (Or.inr (Or.inr ⟨rfl, hmk⟩)))) (by rw [Wlx.sz5, h1]; exact h0)
    refine post_plain h32 hh (by omega) (by omega) h1 (s := b.extract q (q + n)) ?_ he
    rw [Lib.extract_data, hd, Nat.add_sub_cancel_left]
  have two : ∀ p : List UInt8, p.length = 2 → Wlx.begins p (c :: t) = true → q + 2 ≤ b.size := fun p h1 h2 => by
    have := Wlx.begins_length p (c :: t) h2
    simp only [List.length_cons] at this
    omega
  cases hb1 : Wlx.begins [60, 62] (c :: t) with
  | true =>
    rw [hb1] at B1 hM
    have hm : Wlx.nameSz (c :: t) Wlx.marks = 2 := by rw [hM]; rfl
    have h2 := two _ rfl hb1
    have HF2 : Hid (∀ e, e = .returned (.tuple #[.agg #[.int .i64 5, .string (b.extract q (q + 2)), .int .i64 q], .int .i64 ((q + 2 : Nat) : Int), .int .i64 0, .int .i64 0]) → OnePost q (c :: t) e) := plain 2 (by omega) hm (by omega)
    have k1 : (q : Int) ≤ (q : Int) + 2 := by omega
    have k2 : (q : Int) + 2 ≤ (b.size : Int) := by omega
    clear plain two hM hm hb1 hbq hd hw hw2 hlx ne B2 B3 l1 l2 l3 h34 h35 h32
    go_enter Tryd.func23, Tryd.ntmps23
    go_wp2_with fail
    refine (D0 _).mono ?_
    rintro e w1 ⟨rfl, rfl⟩
    go_wp2_with fail
    refine (L0 _).mono ?_
    rintro e w1 ⟨rfl, rfl⟩
    go_wp2_with fail
    refine (B1 _).mono ?_
    rintro e w1 ⟨rfl, rfl⟩
    go_wp2
    refine bodyPost_ret (v := .tuple #[.agg #[.int .i64 5, .string (b.extract q (q + 2)), .int .i64 q], .int .i64 ((q : Int) + 2), .int .i64 0, .int .i64 0]) (by simp [results, Tryd.results23, go_sem]) rfl ⟨HF2.out _ (by simp), ?_⟩
    exact ((Below.refl _ w).alloc (Nat.le_refl _) _).alloc (by simp) _
  | false =>
    rw [hb1] at B1 hM
    cases hb2 : Wlx.begins [60, 61] (c :: t) with
    | true =>
      rw [hb2] at B2 hM
      have hm : Wlx.nameSz (c :: t) Wlx.marks = 2 := by rw [hM]; rfl
      have h2 := two _ rfl hb2
      have HF2 : Hid (∀ e, e = .returned (.tuple #[.agg #[.int .i64 5, .string (b.extract q (q + 2)), .int .i64 q], .int .i64 ((q + 2 : Nat) : Int), .int .i64 0, .int .i64 0]) → OnePost q (c :: t) e) := plain 2 (by omega) hm (by omega)
      have k1 : (q : Int) ≤ (q : Int) + 2 := by omega
      have k2 : (q : Int) + 2 ≤ (b.size : Int) := by omega
      clear plain two hM hm hb1 hb2 hbq hd hw hw2 hlx ne B3 l1 l2 l3 h34 h35 h32
      go_enter Tryd.func23, Tryd.ntmps23
      go_wp2_with fail
      refine (D0 _).mono ?_
      rintro e w1 ⟨rfl, rfl⟩
      go_wp2_with fail
      refine (L0 _).mono ?_
      rintro e w1 ⟨rfl, rfl⟩
      go_wp2_with fail
      refine (B1 _).mono ?_
      rintro e w1 ⟨rfl, rfl⟩
      go_wp2_with fail
      refine (B2 _).mono ?_
      rintro e w1 ⟨rfl, rfl⟩
      go_wp2
      refine bodyPost_ret (v := .tuple #[.agg #[.int .i64 5, .string (b.extract q (q + 2)), .int .i64 q], .int .i64 ((q : Int) + 2), .int .i64 0, .int .i64 0]) (by simp [results, Tryd.results23, go_sem]) rfl ⟨HF2.out _ (by simp), ?_⟩
      exact ((Below.refl _ w).alloc (Nat.le_refl _) _).alloc (by simp) _
    | false =>
      rw [hb2] at B2 hM
      cases hb3 : Wlx.begins [62, 61] (c :: t) with
      | true =>
        rw [hb3] at B3 hM
        have hm : Wlx.nameSz (c :: t) Wlx.marks = 2 := by rw [hM]; rfl
        have h2 := two _ rfl hb3
        have HF2 : Hid (∀ e, e = .returned (.tuple #[.agg #[.int .i64 5, .string (b.extract q (q + 2)), .int .i64 q], .int .i64 ((q + 2 : Nat) : Int), .int .i64 0, .int .i64 0]) → OnePost q (c :: t) e) := plain 2 (by omega) hm (by omega)
        have k1 : (q : Int) ≤ (q : Int) + 2 := by omega
        have k2 : (q : Int) + 2 ≤ (b.size : Int) := by omega
        clear plain two hM hm hb1 hb2 hb3 hbq hd hw hw2 hlx ne l1 l2 l3 h34 h35 h32
        go_enter Tryd.func23, Tryd.ntmps23
        go_wp2_with fail
        refine (D0 _).mono ?_
        rintro e w1 ⟨rfl, rfl⟩
        go_wp2_with fail
        refine (L0 _).mono ?_
        rintro e w1 ⟨rfl, rfl⟩
        go_wp2_with fail
        refine (B1 _).mono ?_
        rintro e w1 ⟨rfl, rfl⟩
        go_wp2_with fail
        refine (B2 _).mono ?_
        rintro e w1 ⟨rfl, rfl⟩
        go_wp2_with fail
        refine (B3 _).mono ?_
        rintro e w1 ⟨rfl, rfl⟩
        go_wp2
        refine bodyPost_ret (v := .tuple #[.agg #[.int .i64 5, .string (b.extract q (q + 2)), .int .i64 q], .int .i64 ((q : Int) + 2), .int .i64 0, .int .i64 0]) (by simp [results, Tryd.results23, go_sem]) rfl ⟨HF2.out _ (by simp), ?_⟩
        exact ((Below.refl _ w).alloc (Nat.le_refl _) _).alloc (by simp) _
      | false =>
        rw [hb3] at B3 hM
        have hM2 : Wlx.nameSz (c :: t) Wlx.marks = if c ∈ Wlx.singles then 1 else 0 := by rw [hM]; rfl
        have HF1 : Hid (c ∈ Wlx.singles → ∀ e, e = .returned (.tuple #[.agg #[.int .i64 5, .string (b.extract q (q + 1)), .int .i64 q], .int .i64 ((q + 1 : Nat) : Int), .int .i64 0, .int .i64 0]) → OnePost q (c :: t) e) := fun h => plain 1 (by omega) (by rw [hM2, if_pos h]) (by omega)
        have HF0 : Hid (¬ c ∈ Wlx.singles → OnePost q (c :: t) (.returned (.tuple #[.agg #[.int .i64 0, .string ⟨#[]⟩, .int .i64 q], .int .i64 0, .int .i64 40, .int .i64 q]))) := fun h => Or.inl ⟨hit_other hw h34 h35 (by rw [hM2, if_neg h]), 0, ⟨#[]⟩, by rw [if_neg (by simp; exact h34)]; rfl⟩
        have k1 : (q : Int) ≤ (q : Int) + 1 := by omega
        have k2 : (q : Int) + 1 ≤ (b.size : Int) := by omega
        have NE : Hid (∀ d : UInt8, ¬ c = d → (((c.toNat : Nat) : Int) == ((d.toNat : Nat) : Int)) = false) := ne
        clear plain two hM hM2 hb1 hb2 hb3 hbq hd hw hw2 hlx ne l1 l2 l3 h34 h35 h32
        go_enter Tryd.func23, Tryd.ntmps23
        go_wp2_with fail
        refine (D0 _).mono ?_
        rintro e w1 ⟨rfl, rfl⟩
        go_wp2_with fail
        refine (L0 _).mono ?_
        rintro e w1 ⟨rfl, rfl⟩
        go_wp2_with fail
        refine (B1 _).mono ?_
        rintro e w1 ⟨rfl, rfl⟩
        go_wp2_with fail
        refine (B2 _).mono ?_
        rintro e w1 ⟨rfl, rfl⟩
        go_wp2_with fail
        refine (B3 _).mono ?_
        rintro e w1 ⟨rfl, rfl⟩
        go_wp2_with fail
        have p4 : AtL ((w.alloc (.cells #[.int .i64 0, .string ⟨#[]⟩, .int .i64 0] 31)).alloc (.cells #[.int .i64 0, .string ⟨#[]⟩, .int .i64 q] 31)) w.heap.size [.int .i64 0, .string ⟨#[]⟩, .int .i64 0] := (AtL.new0 w 31 [.int .i64 0, .string ⟨#[]⟩, .int .i64 0]).alloc _
        have p9 : AtL ((w.alloc (.cells #[.int .i64 0, .string ⟨#[]⟩, .int .i64 0] 31)).alloc (.cells #[.int .i64 0, .string ⟨#[]⟩, .int .i64 q] 31)) (w.heap.size + 1) [.int .i64 0, .string ⟨#[]⟩, .int .i64 q] := AtL.new1 w _ 31 [.int .i64 0, .string ⟨#[]⟩, .int .i64 q]
        have hB : Below w.heap.size w ((w.alloc (.cells #[.int .i64 0, .string ⟨#[]⟩, .int .i64 0] 31)).alloc (.cells #[.int .i64 0, .string ⟨#[]⟩, .int .i64 q] 31)) := ((Below.refl _ w).alloc (Nat.le_refl _) _).alloc (by simp) _
        generalize ((w.alloc (.cells #[.int .i64 0, .string ⟨#[]⟩, .int .i64 0] 31)).alloc (.cells #[.int .i64 0, .string ⟨#[]⟩, .int .i64 q] 31)) = W1 at *
        have hMl : (⟨#[43, 45, 42, 47, 94, 38, 37, 40, 41, 44, 58, 33, 61, 60, 62]⟩ : ByteArray).data.toList = Wlx.singles := rfl
        have hMs : (⟨#[43, 45, 42, 47, 94, 38, 37, 40, 41, 44, 58, 33, 61, 60, 62]⟩ : ByteArray).size = 15 := rfl
        generalize (⟨#[43, 45, 42, 47, 94, 38, 37, 40, 41, 44, 58, 33, 61, 60, 62]⟩ : ByteArray) = MS at *
        have HMl : Hid (MS.data.toList = Wlx.singles) := hMl
        clear hMl
        have HFa0 : Hid (FaS w.heap.size 0 q W1) := ⟨p4, p9⟩
        clear p4 p9 B1 B2 B3 D0 L0
        go_loopg [18] 15 (fun gk x wr => ∃ (i : Nat) (kk : Int), x = .int .i64 i ∧ gk = 15 - i ∧ i ≤ 15 ∧ Hid (kk = if c ∈ Wlx.singles.take i then 5 else 0) ∧ Hid (FaS w.heap.size kk q wr) ∧ Below w.heap.size w wr)
        case atStart => exact ⟨0, 0, rfl, rfl, by omega, (rfl : (0 : Int) = if c ∈ Wlx.singles.take 0 then 5 else 0), HFa0, hB⟩
        case round =>
          clear HFa0 hB
          obtain ⟨i, kk, rfl, hg, hi15, HK, HFa, hB⟩ := hrel
          obtain ⟨p4, p9⟩ := HFa.out
          have ksz := hB.size
          by_cases hlt : i < 15
          · have hli : (i : Int) < 15 := by omega
            have hil : i < MS.size := by omega
            have hil2 : i < Wlx.singles.length := hlt
            have hx : MS[i] = Wlx.singles[i]'hlt := by
              have e1 : MS.data.toList[i]? = some MS[i] := List.getElem?_eq_getElem (by exact hil)
              rw [HMl.out, List.getElem?_eq_getElem hil2] at e1
              exact (Option.some.inj e1).symm
            have etk : Wlx.singles.take (i + 1) = Wlx.singles.take i ++ [Wlx.singles[i]'hlt] := List.take_succ_eq_append_getElem hil2
            obtain ⟨x, hxx⟩ : ∃ x, Wlx.singles[i]'hlt = x := ⟨_, rfl⟩
            rw [hxx] at hx etk
            have ebx : (((MS[i]).toNat : Nat) : Int) = ((x.toNat : Nat) : Int) := by rw [hx]
            obtain ⟨c0, c1, c2, c3, c4, c5⟩ := p9.three
            by_cases hcx : c = x
            · have HK2 : Hid ((5 : Int) = if c ∈ Wlx.singles.take (i + 1) then 5 else 0) := by
                show _ = _
                rw [etk, if_pos (by rw [hcx]; simp)]
              have HFa2 : Hid (FaS w.heap.size 5 q (wr.setCell ⟨w.heap.size + 1, 0, none⟩ (.int .i64 5))) := ⟨p4.far (by omega) _ _, p9.set 0 (.int .i64 5)⟩
              have hB2 : Below w.heap.size w (wr.setCell ⟨w.heap.size + 1, 0, none⟩ (.int .i64 5)) := hB.setCell (p := ⟨w.heap.size + 1, 0, none⟩) (by show w.heap.size ≤ w.heap.size + 1; omega) _
              have eq1 : (((c.toNat : Nat) : Int) == ((x.toNat : Nat) : Int)) = true := by rw [hcx]; simp
              clear HK HFa hB hx hxx etk hcx p4 p9
              go_wp2_with fail
              go_roundg (15 - (i + 1))
              case rel => exact ⟨i + 1, 5, by simp, rfl, by omega, HK2, HFa2, hB2⟩
              case measure => omega
            · have HK2 : Hid (kk = if c ∈ Wlx.singles.take (i + 1) then 5 else 0) := by
                show _ = _
                rw [HK.out, etk]
                by_cases h : c ∈ Wlx.singles.take i
                · rw [if_pos h, if_pos (by simp [h])]
                · rw [if_neg h, if_neg (by simp [h, hcx])]
              have eq1 := NE.out x hcx
              clear HK hx hxx etk hcx p4 p9
              go_wp2_with fail
              go_roundg (15 - (i + 1))
              case rel => exact ⟨i + 1, kk, by simp, rfl, by omega, HK2, HFa, hB⟩
              case measure => omega
          · obtain rfl : i = 15 := by omega
            obtain ⟨a0, a1, a2, a3, a4, a5⟩ := p4.three
            obtain ⟨c0, c1, c2, c3, c4, c5⟩ := p9.three
            generalize hk4 : w.heap.size = k4 at *
            have hn1 : ¬ (k4 = k4 + 1) := by omega
            have hK := HK.out
            have eT : Wlx.singles.take 15 = Wlx.singles := rfl
            rw [eT] at hK
            by_cases hcs : c ∈ Wlx.singles
            · rw [if_pos hcs] at hK
              subst hK
              have HP : Hid (∀ e, e = .returned (.tuple #[.agg #[.int .i64 5, .string (b.extract q (q + 1)), .int .i64 q], .int .i64 ((q + 1 : Nat) : Int), .int .i64 0, .int .i64 0]) → OnePost q (c :: t) e) := HF1.out hcs
              clear HK HF1 HF0 HFa p4 p9 eT hcs NE
              go_wp2
              refine bodyPost_ret (v := .tuple #[.agg #[.int .i64 5, .string (b.extract q (q + 1)), .int .i64 q], .int .i64 ((q : Int) + 1), .int .i64 0, .int .i64 0]) (by simp [results, Tryd.results23, go_sem, *]) rfl ⟨HP.out _ (by simp), ?_⟩
              rw [hk4]
              exact put3_below (k := k4) (hB.setCell (p := ⟨k4 + 1, 1, none⟩) (by show k4 ≤ k4 + 1; omega) _) (Nat.le_refl _) _ _ _
            · rw [if_neg hcs] at hK
              subst hK
              have HP : Hid (OnePost q (c :: t) (.returned (.tuple #[.agg #[.int .i64 0, .string ⟨#[]⟩, .int .i64 q], .int .i64 0, .int .i64 40, .int .i64 q]))) := HF0.out hcs
              clear HK HF1 HF0 HFa p4 p9 eT hcs NE
              go_wp2
              refine bodyPost_ret (v := .tuple #[.agg #[.int .i64 0, .string ⟨#[]⟩, .int .i64 q], .int .i64 0, .int .i64 40, .int .i64 q]) (by simp [results, Tryd.results23, go_sem, *]) rfl ⟨HP.out, ?_⟩
              rw [hk4]
              exact put3_below (k := k4) hB (Nat.le_refl _) _ _ _
end Go.Proofs.YtjkohkhngeioiaaDoor
