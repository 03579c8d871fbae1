/- LexTexts, walked. -/
import Derived.Test.YtjkohkhngeioiaaDoorLAppend
import Derived.Test.YtjkohkhngeioiaaDoorLRefT
import Derived.Test.YtjkohkhngeioiaaDoorLAble
import Derived.Test.YtjkohkhngeioiaaDoorLSame
namespace Wlx
def ps (ts : List TV) : Nat := (ts.map fun t => t.t.length).sum
theorem ps_snoc (ts : List TV) (t : TV) : ps (ts ++ [t]) = ps ts + t.t.length := by simp [ps]
theorem wgt_ps (ts : List TV) : wgt ts = ts.length + ps ts := by
  induction ts with
  | nil => rfl
  | cons t r ih =>
    rw [wgt_cons, ih]
    simp only [List.length_cons, ps, List.map_cons, List.sum_cons]
    omega
end Wlx
namespace Go.Proofs.YtjkohkhngeioiaaDoor
open Go.Shelf Go.RowKit
set_option linter.unusedVariables false

set_option maxHeartbeats 800000 in
theorem weight_any (v : Value) (ts : List Wlx.TV) (w : World) (hr : ReadV w v ts) (hl : ts.length ≤ 140737488355328) (ht : ∀ i (h : i < ts.length), (ts[i]).t.length ≤ 140737488355328) :
    Calls Tryd.prog 13 #[v] w fun e w' => (∃ n : Nat, e = .returned (.int .i64 n) ∧ (262144 < n ∨ n = Wlx.wgt ts)) ∧ w = w' := by
  obtain ⟨av, cap, rfl, hr⟩ := hr
  have HC : Hid (∀ i (h : i < ts.length), ∃ bb off, av = some ⟨bb, off, none⟩ ∧ bb < w.heap.size ∧
    w.cell? ⟨bb, off + i * 3, none⟩ = some (.int .i64 (ts[i]).k) ∧ w.cell? ⟨bb, off + i * 3 + 1, none⟩ = some (.string ⟨(ts[i]).t.toArray⟩) ∧ w.cell? ⟨bb, off + i * 3 + 2, none⟩ = some (.int .i64 (ts[i]).p)) := hr
  have HT : Hid (∀ i (h : i < ts.length), (ts[i]).t.length ≤ 140737488355328) := ht
  clear hr ht
  go_enter Tryd.func13, Tryd.ntmps13
  go_wp2_with fail
  go_loopg [3, 4] (ts.length) (fun gk y x wr => ∃ i n : Nat, x = .int .i64 i ∧ y = .int .i64 n ∧ gk = ts.length - i ∧ i ≤ ts.length ∧ n ≤ 281474976972800 ∧ Hid (n = ts.length + Wlx.ps (ts.take i)) ∧ wr = w)
  case atStart => exact ⟨0, ts.length, rfl, rfl, rfl, Nat.zero_le _, by omega, (rfl : ts.length = ts.length + Wlx.ps (ts.take 0)), rfl⟩
  case round =>
    obtain ⟨i, n, rfl, rfl, hg, hi, hn, HN, rfl⟩ := hrel
    by_cases hlt : i < ts.length
    · have hli : (i : Int) < (ts.length : Int) := by omega
      by_cases hm : n ≤ 262144
      · have hmi : (n : Int) ≤ 262144 := by omega
        obtain ⟨bb, off, rfl, hbb, c0, c1, c2⟩ := HC.out i hlt
        have htl := HT.out i hlt
        have etk : ts.take (i + 1) = ts.take i ++ [ts[i]] := List.take_succ_eq_append_getElem hlt
        obtain ⟨x, hx⟩ : ∃ x, ts[i] = x := ⟨_, rfl⟩
        rw [hx] at c1 htl etk
        have HN2 : Hid (n + x.t.length = ts.length + Wlx.ps (ts.take (i + 1))) := by
          show _ = _
          rw [etk, Wlx.ps_snoc, HN.out]; omega
        obtain ⟨S, hS⟩ : ∃ S : ByteArray, (⟨x.t.toArray⟩ : ByteArray) = S := ⟨_, rfl⟩
        have hSs : S.size = x.t.length := by rw [← hS]; rfl
        rw [← hSs] at HN2 htl
        rw [hS] at c1
        clear hx etk c0 c2 HN hS hSs
        go_wp2_with fail
        go_roundg (ts.length - (i + 1))
        case rel => exact ⟨i + 1, n + S.size, by simp, by simp, rfl, hlt, by omega, HN2, by first | trivial | rfl⟩
        case measure => omega
      · have hmi : ¬ (n : Int) ≤ 262144 := by omega
        go_wp2
        go_ret
        exact ⟨⟨n, rfl, Or.inl (by omega)⟩, by first | trivial | rfl⟩
    · have hli : ¬ (i : Int) < (ts.length : Int) := by omega
      have HW : Hid (n = Wlx.wgt ts) := by
        show _ = _
        rw [HN.out, Wlx.wgt_ps, List.take_of_length_le (by omega)]
      clear HN
      go_wp2
      go_ret
      exact ⟨⟨n, rfl, Or.inr HW.out⟩, by first | trivial | rfl⟩

def two : List Wlx.TV := [⟨0, [], 77⟩, ⟨0, [], 78⟩]
theorem own_empty (w : World) : (w.alloc (.cells #[] 31)).ownsRow w.heap.size 31 3 (.slice (some ⟨w.heap.size, 0, none⟩) 0 0) 0 [] :=
  World.ownsRow_lit w #[] 0 (Nat.le_refl _) (Nat.zero_le _) rfl
theorem cell_six_new (w : World) (a b c d e f : Value) (t : TypeId) : ∀ j u, [a, b, c, d, e, f][j]? = some u → (w.alloc (.cells #[a, b, c, d, e, f] t)).cell? ((⟨w.heap.size, 0, none⟩ : Addr).add j) = some u := by
  intro j u hj
  match j, hj with
  | 0, hj => simp at hj; subst hj; simp [Addr.add]
  | 1, hj => simp at hj; subst hj; simp [Addr.add]
  | 2, hj => simp at hj; subst hj; simp [Addr.add]
  | 3, hj => simp at hj; subst hj; simp [Addr.add]
  | 4, hj => simp at hj; subst hj; simp [Addr.add]
  | 5, hj => simp at hj; subst hj; simp [Addr.add]
  | j + 6, hj => simp at hj

set_option maxRecDepth 100000 in
set_option maxHeartbeats 1600000 in
theorem texts_main (av : Option Addr) (len cap : Nat) (ts : List Wlx.TV) (w : World) (hm : MaxAt w) (hr : ReadV w (.slice av len cap) ts) (hno : av = none → len = 0 ∧ cap = 0) (hl : ts.length ≤ 140737488355328) (ht : ∀ i (h : i < ts.length), (ts[i]).t.length ≤ 140737488355328) :
    Calls Tryd.prog 4 #[.slice av len cap] w fun e w' => e = .returned (.bool true) ∧ Below w.heap.size w w' := by
  have hlen : len = ts.length := by
    obtain ⟨_, _, e, _⟩ := hr
    simp only [Value.slice.injEq] at e
    exact e.2.1
  subst hlen
  have WE := weight_any _ ts w hr hl ht
  obtain ⟨i0, hi, hz0, hz1, hz2⟩ := info_parts tokInfo
  have hflat := hr.flat
  have hflat1 : ∀ ad, av = some ad → ∀ j u, (rowV ts)[j]? = some u → (w.alloc (.cells #[] 31)).cell? (ad.add j) = some u := (hr.below (Nat.le_refl _) ((Below.refl _ w).alloc (Nat.le_refl _) _)).flat
  have HR : Hid (ReadV w (.slice av ts.length cap) ts) := hr
  have HF : Hid (∀ ad, av = some ad → ∀ j u, (rowV ts)[j]? = some u → (w.alloc (.cells #[] 31)).cell? (ad.add j) = some u) := hflat1
  have HNO : Hid (av = none → ts.length = 0 ∧ cap = 0) := hno
  clear hr ht hflat hflat1 hno
  go_enter Tryd.func4, Tryd.ntmps4
  go_wp2_with fail
  refine WE.mono ?_
  rintro e w1 ⟨⟨n, rfl, hn⟩, rfl⟩
  by_cases hbig : 262144 < n
  · have hbi : (262144 : Int) < (n : Int) := by omega
    go_wp2
    go_ret
    exact ⟨rfl, Below.refl _ _⟩
  · have hbi : ¬ (262144 : Int) < (n : Int) := by omega
    have hw : Wlx.wgt ts ≤ 262144 := by omega
    have hls : ts.length ≤ 262144 := by have := Wlx.wgt_ps ts; omega
    clear hn hbig WE
    go_wp2_with (at_builtin; refine wpList_append_full rfl _ _ 22 rfl w.heap.size 31 i0 (.agg #[.int .i64 0, .string ⟨#[]⟩, .int .i64 0]) 3 32 Tryd.underlying22 hi hz0 hz1 hz2 rfl (by decide) _ _ _ rfl (by intro h; cases h) (own_empty w) av ts.length cap (rowV ts) rfl HNO.out (rowV_length ts) HF.out (rowV_one ts) (by unfold maxLen; omega) (by omega) (by simp) ?_)
    intro v1 w2 own1 hne1 hgrow1
    have hb2 : Below w.heap.size w w2 := ((Below.refl _ w).alloc (Nat.le_refl _) _).grown hgrow1 (by simp) (fun k hk => by simp [Value.ownBlock] at hk; omega)
    have s2 := hb2.size
    have own1l := own1.lt
    clear hgrow1 HF
    go_wp2_with (at_builtin; refine wpList_append_own _ rfl _ _ 22 rfl w.heap.size 31 i0 (.agg #[.int .i64 0, .string ⟨#[]⟩, .int .i64 0]) 3 32 Tryd.underlying22 hi hz0 hz1 hz2 rfl (by decide) _ _ _ rfl (own1.alloc _) ⟨w2.heap.size, 0, none⟩ 2 2 [.int .i64 0, .string ⟨#[]⟩, .int .i64 77, .int .i64 0, .string ⟨#[]⟩, .int .i64 78] rfl rfl (cell_six_new _ _ _ _ _ _ _ _) (by intro u hu; simp at hu; rcases hu with rfl | rfl | rfl | rfl | rfl | rfl <;> rfl) (by unfold maxLen; omega) (by omega) (by simp; omega) ?_)
    intro v3 w3 own3 hgrow3 _
    have own3 : w3.ownsRow w.heap.size 31 3 v3 (ts.length + 2) (rowV (ts ++ two)) := by rw [rowV_app]; exact own3
    have hb3 : Below w.heap.size w w3 := (hb2.alloc s2 _).grown hgrow3 (by simp; omega) (fun k hk => (own1l k hk).1)
    have hex : ∃ g cap3, v3 = .slice (some ⟨g, 0, none⟩) (ts.length + 2) cap3 ∧ ts.length + 2 ≤ cap3 ∧ cap3 ≤ maxLen := by
      rcases own3.2 with ⟨_, h0⟩ | ⟨g, cap3, cur, e, _, _, h1, h2, _⟩
      · omega
      · exact ⟨g, cap3, e, h1, h2⟩
    obtain ⟨g, cap3, hv3, hc3, hc4⟩ := hex
    rw [hv3] at own3 ⊢
    have glt := (own3.lt g rfl).2
    have c77 : w3.cell? ⟨g, ts.length * 3 + 2, none⟩ = some (.int .i64 77) := by
      rw [World.ownsRow.cellAt own3 _ (by omega), (rowV_get (ts ++ two) ts.length (by simp [two])).2.2]
      simp [two]
    have c78 : w3.cell? ⟨g, (ts.length + 1) * 3 + 2, none⟩ = some (.int .i64 78) := by
      rw [World.ownsRow.cellAt own3 _ (by omega), (rowV_get (ts ++ two) (ts.length + 1) (by simp [two])).2.2]
      simp [two]
    have HL : Hid (ReadV w3 (.slice (some ⟨g, 0, none⟩) ts.length cap3) ts) := own_reads own3 rfl
    have HR3 : Hid (ReadV w3 (.slice av ts.length cap) ts) := HR.out.below (Nat.le_refl _) hb3
    have hm3 := MaxAt.below hm hb3
    unfold maxLen at hc4
    have k1 : (ts.length : Int) ≤ (cap3 : Int) := by omega
    clear own1 own1l hgrow3 own3 hv3 hne1 HR HNO hb2 s2
    go_wp2_with fail
    refine (text_any _ ts _ HL.out hm3 (by omega)).mono ?_
    rintro e w4 ⟨rfl, hb4⟩
    have hm4 := MaxAt.below hm3 hb4
    go_wp2_with fail
    refine (able_any _ hm4).mono ?_
    rintro e w5 ⟨rfl, hb5⟩
    have hb35 : Below w3.heap.size w3 w5 := hb4.trans (hb5.mono hb4.size)
    go_wp2_with fail
    refine (rtext_any _ ts _ (HR3.out.below (Nat.le_refl _) hb35) (by omega)).mono ?_
    rintro e w6 ⟨rfl, hb6⟩
    have hb36 : Below w3.heap.size w3 w6 := hb35.trans (hb6.mono hb35.size)
    go_wp2_with fail
    refine (same_true _ _ ts ts _ (HL.out.below (Nat.le_refl _) hb36) (HR3.out.below (Nat.le_refl _) hb36) rfl (by omega) (fun i h1 h2 => rfl)).mono ?_
    rintro e w7 ⟨rfl, hb7⟩
    have hb37 : Below w3.heap.size w3 w7 := hb36.trans (hb7.mono hb36.size)
    have c77 := (hb37.cell (p := ⟨g, ts.length * 3 + 2, none⟩) glt).trans c77
    have c78 := (hb37.cell (p := ⟨g, (ts.length + 1) * 3 + 2, none⟩) glt).trans c78
    clear HL HR3
    go_wp2
    go_ret
    exact ⟨rfl, hb3.trans (hb37.mono hb3.size)⟩
end Go.Proofs.YtjkohkhngeioiaaDoor
