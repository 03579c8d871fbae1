/- LexBack, walked. -/
import Derived.Test.YtjkohkhngeioiaaDoorLAble
import Derived.Test.YtjkohkhngeioiaaDoorLSame
import Derived.Test.YtjkohkhngeioiaaDoorLPlainF
namespace Wlx
theorem wv_tv (t : Tok) : wv (tv t) = writ t.k t.t := by
  unfold wv tv writ
  by_cases h : t.k = 2
  · rw [if_pos (by simp [h]), if_pos h]
  · rw [if_neg (by simp; omega), if_neg h]
theorem joinF_tv (ts : List Tok) : ∀ f, joinF f (ts.map tv) = joinT f ts := by
  induction ts with
  | nil => intro f; rfl
  | cons t r ih =>
    intro f
    show (if f then [] else [32]) ++ wv (tv t) ++ joinF false (r.map tv) = _
    rw [wv_tv, ih]; rfl
theorem wgt_tv {n : Nat} (ts : List Tok) (h : ∀ t ∈ ts, t.t.length ≤ n) : wgt (ts.map tv) ≤ ts.length * (n + 1) := by
  induction ts with
  | nil => exact Nat.zero_le _
  | cons t r ih =>
    have h1 := ih (fun x hx => h x (by simp [hx]))
    have h2 := h t (by simp)
    rw [List.map_cons, wgt_cons, List.length_cons, Nat.add_mul, Nat.one_mul]
    show t.t.length + 1 + _ ≤ _
    omega
end Wlx
namespace Go.Proofs.YtjkohkhngeioiaaDoor
open Go.Shelf Go.RowKit
set_option linter.unusedVariables false

/-- What is known of what is scanned. -/
theorem scanAll_cases (l : List UInt8) : (∃ ts, scanAll l = Wlx.Res.ok ts ∧ Wlx.Ok 0 l ts ∧ l.length ≤ 1024) ∨ (∃ c p, scanAll l = Wlx.Res.err c p ∧ (c = 2 ∧ p = 0 ∧ 1024 < l.length ∨ l.length ≤ 1024 ∧ Wlx.Er 0 l c p)) := by
  unfold scanAll
  by_cases h : 1024 < l.length
  · rw [if_pos h]; exact Or.inr ⟨2, 0, rfl, Or.inl ⟨rfl, rfl, h⟩⟩
  · rw [if_neg h]
    rcases Wlx.scan_cases 0 l with ⟨ts, h1, h2⟩ | ⟨c, q, h1, h2⟩
    · exact Or.inl ⟨ts, h1, h2, by omega⟩
    · exact Or.inr ⟨c, q, h1, Or.inr ⟨by omega, h2⟩⟩
theorem scanAll_ok {l : List UInt8} {ts : List Wlx.Tok} (h : Wlx.Ok 0 l ts) (hl : ¬ 1024 < l.length) : scanAll l = Wlx.Res.ok ts := by
  unfold scanAll; rw [if_neg hl]; exact h.scan
theorem undbl_length (l : List UInt8) : (Wlx.undbl l).length ≤ l.length := by
  fun_induction Wlx.undbl l with
  | case1 => exact Nat.le_refl _
  | case2 => exact Nat.le_refl _
  | case3 c d t hcd ih => simp only [List.length_cons]; omega
  | case4 c d t hcd ih => simp only [List.length_cons] at *; omega
theorem ok_wgt {p : Nat} {l : List UInt8} {ts : List Wlx.Tok} (h : Wlx.Ok p l ts) : Wlx.wgt (ts.map Wlx.tv) ≤ 2 * l.length := by
  induction h using Wlx.Ok.ind with
  | nil p => exact Nat.zero_le _
  | blank h ih => simp only [List.length_cons]; omega
  | @tok p k u r ts ha hp h ih =>
    have h0 := ha.pos
    rw [List.map_cons, Wlx.wgt_cons, List.length_append]
    have h1 : (Wlx.said k u).length ≤ u.length := by
      unfold Wlx.said
      split
      · have := undbl_length ((u.drop 1).take (u.length - 2))
        rw [List.length_take, List.length_drop] at this
        omega
      · exact Nat.le_refl _
    show (Wlx.said k u).length + 1 + _ ≤ _
    omega

set_option maxHeartbeats 1600000 in
theorem back_main (b : ByteArray) (w : World) (hm : MaxAt w) (hs : b.size ≤ 9223372036854775807) : Calls Tryd.prog 6 #[.string b] w fun e w' => e = .returned (.bool true) ∧ Below w.heap.size w w' := by
  have A := able_any w hm
  have S := fun w hm => scan_any b w hm hs
  rcases scanAll_cases b.data.toList with ⟨ts, e, hok, hl⟩ | ⟨c, p, e, hc⟩
  · rw [e] at S
    obtain ⟨ts', hok', hmap⟩ := hok.back 0 true
    obtain ⟨x, hx⟩ : ∃ x, Wlx.joinT true ts = x := ⟨_, rfl⟩
    rw [hx] at hok'
    have hw := ok_wgt hok
    have hxl : x.length ≤ 3 * 2048 := by
      rw [← hx, ← Wlx.joinF_tv]
      have := Wlx.joinF_length (ts.map Wlx.tv) true
      omega
    have T := fun w v hr hm => text_any v (ts.map Wlx.tv) w hr hm (by omega)
    have ex : Wlx.textV (ts.map Wlx.tv) = x := by rw [← hx]; exact Wlx.joinF_tv ts true
    rw [ex] at T
    have S2 := fun w hm => scan_any ⟨x.toArray⟩ w hm (by show x.length ≤ _; omega)
    have e2 : (⟨x.toArray⟩ : ByteArray).data.toList = x := rfl
    rw [e2] at S2
    have hlen := congrArg List.length hmap
    simp only [List.length_map] at hlen
    have HM : Hid (∀ i (h1 : i < (ts.map Wlx.tv).length) (h2 : i < (ts'.map Wlx.tv).length), ((ts.map Wlx.tv)[i]).k = ((ts'.map Wlx.tv)[i]).k ∧ ((ts.map Wlx.tv)[i]).t = ((ts'.map Wlx.tv)[i]).t) := by
      intro i h1 h2
      rw [List.length_map] at h1 h2
      have g := congrArg (fun l => l[i]?) hmap
      simp only [List.getElem?_map, List.getElem?_eq_getElem h1, List.getElem?_eq_getElem h2, Option.map_some, Option.some.injEq, Prod.mk.injEq] at g
      simp only [List.getElem_map, Wlx.tv]
      exact ⟨by rw [g.1], g.2.symm⟩
    have hts := hok.count.1
    clear hmap e hx ex e2 hok hw
    by_cases hx2 : 1024 < x.length
    · have ee : scanAll x = Wlx.Res.err 2 0 := by unfold scanAll; rw [if_pos hx2]
      rw [ee] at S2
      have hxi : (1024 : Int) < (x.length : Int) := by omega
      clear ee hok' HM
      go_enter Tryd.func6, Tryd.ntmps6
      go_wp2_with fail
      refine A.mono ?_
      rintro e w1 ⟨rfl, hb1⟩
      have hm1 := MaxAt.below hm hb1
      go_wp2_with fail
      refine (S _ hm1).mono ?_
      rintro e w2 ⟨⟨v, rfl, hown⟩, hb2⟩
      have hm2 := MaxAt.below hm1 hb2
      have hr := ReadV.own hown
      go_wp2_with fail
      refine (T _ _ hr hm2).mono ?_
      rintro e w3 ⟨rfl, hb3⟩
      have hm3 := MaxAt.below hm2 hb3
      go_wp2_with fail
      refine (S2 _ hm3).mono ?_
      rintro e w4 ⟨rfl, hb4⟩
      have hB : Below w.heap.size w w4 := hb1.trans ((hb2.trans ((hb3.trans (hb4.mono hb3.size)).mono hb2.size)).mono hb1.size)
      clear hr hown
      go_wp2
      go_ret
      exact ⟨rfl, hB⟩
    · have ee : scanAll x = Wlx.Res.ok ts' := scanAll_ok hok' hx2
      rw [ee] at S2
      have hxi : ¬ (1024 : Int) < (x.length : Int) := by omega
      clear ee hok'
      go_enter Tryd.func6, Tryd.ntmps6
      go_wp2_with fail
      refine A.mono ?_
      rintro e w1 ⟨rfl, hb1⟩
      have hm1 := MaxAt.below hm hb1
      go_wp2_with fail
      refine (S _ hm1).mono ?_
      rintro e w2 ⟨⟨v, rfl, hown⟩, hb2⟩
      have hm2 := MaxAt.below hm1 hb2
      have hr := ReadV.own hown
      go_wp2_with fail
      refine (T _ _ hr hm2).mono ?_
      rintro e w3 ⟨rfl, hb3⟩
      have hm3 := MaxAt.below hm2 hb3
      have hr3 := hr.below (Nat.le_refl _) hb3
      go_wp2_with fail
      refine (S2 _ hm3).mono ?_
      rintro e w4 ⟨⟨v2, rfl, hown2⟩, hb4⟩
      have hr4 := hr3.below (Nat.le_refl _) hb4
      have hq4 := ReadV.own hown2
      have hB : Below w.heap.size w w4 := hb1.trans ((hb2.trans ((hb3.trans (hb4.mono hb3.size)).mono hb2.size)).mono hb1.size)
      clear hr hown hown2 hr3
      go_wp2_with fail
      refine (alike_true _ _ _ _ _ hr4 hq4 (by simp only [List.length_map]; exact hlen) (by simp only [List.length_map]; omega) HM.out).mono ?_
      rintro e w5 ⟨rfl, hb5⟩
      go_wp2
      go_ret
      exact ⟨rfl, hB.trans (hb5.mono hB.size)⟩
  · rw [e] at S
    have hc0 : ((c : Int) != 0) = true := by
      have : ¬ c = 0 := by
        rcases hc with ⟨rfl, _⟩ | ⟨_, h⟩
        · omega
        · have := h.cut.2.2.1; omega
      simp; omega
    clear e hc
    go_enter Tryd.func6, Tryd.ntmps6
    go_wp2_with fail
    refine A.mono ?_
    rintro e w1 ⟨rfl, hb1⟩
    have hm1 := MaxAt.below hm hb1
    go_wp2_with fail
    refine (S _ hm1).mono ?_
    rintro e w2 ⟨rfl, hb2⟩
    go_wp2
    go_ret
    exact ⟨rfl, hb1.trans (hb2.mono hb1.size)⟩
end Go.Proofs.YtjkohkhngeioiaaDoor
