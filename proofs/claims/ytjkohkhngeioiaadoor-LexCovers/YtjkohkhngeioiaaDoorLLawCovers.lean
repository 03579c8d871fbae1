/- LexCovers, walked. -/
import Derived.Test.YtjkohkhngeioiaaDoorLLawBack
import Derived.Laws.BitsLemmas
namespace Go.Proofs.YtjkohkhngeioiaaDoor
open Go.Shelf Go.RowKit
set_option linter.unusedVariables false

/-- A byte of what stands from a place on. -/
theorem byte_at {b : ByteArray} {e : Nat} {x : List UInt8} (hd : b.data.toList.drop e = x) (j : Nat) (h1 : e ≤ j) (h2 : j < b.size) (c : UInt8) (hc : x[j - e]? = some c) : b[j] = c := by
  rw [← hd, List.getElem?_drop, show e + (j - e) = j by omega] at hc
  have e1 : b.data.toList[j]? = some b[j] := List.getElem?_eq_getElem (by exact h2)
  exact Option.some.inj (e1.symm.trans hc)
theorem blank_at {b : ByteArray} {e bl : Nat} {y : List UInt8} (hd : b.data.toList.drop e = List.replicate bl 32 ++ y) (j : Nat) (h1 : e ≤ j) (h2 : j < b.size) (h3 : j < e + bl) : b[j] = 32 :=
  byte_at hd j h1 h2 32 (by rw [List.getElem?_append_left (by simp; omega), List.getElem?_replicate, if_pos (by omega)])

theorem cut_any (b : ByteArray) (q : Nat) (w : World) (hm : MaxAt w) (hq : q ≤ b.size) (hs : b.size ≤ 1024) (hc : (∃ ts, Wlx.Ok 0 (b.data.toList.take q) ts) ∨ ∃ q', Wlx.Er 0 (b.data.toList.take q) 41 q') : Calls Tryd.prog 17 #[.string b, .int .i64 q] w fun e w' => e = .returned (.bool true) ∧ Below w.heap.size w w' := by
  have q0 : (0 : Int) ≤ (q : Int) := by omega
  have q1 : (q : Int) ≤ (b.size : Int) := by omega
  have S := scan_any (b.extract 0 q) w hm (by rw [ByteArray.size_extract]; omega)
  have ee : (b.extract 0 q).data.toList = b.data.toList.take q := by rw [Lib.extract_data]; simp
  rw [ee] at S
  have hlen : ¬ 1024 < (b.data.toList.take q).length := by
    rw [List.length_take]
    have : b.data.toList.length = b.size := rfl
    omega
  rcases hc with ⟨ts, h⟩ | ⟨q', h⟩
  · rw [scanAll_ok h hlen] at S
    clear ee hlen h
    go_enter Tryd.func17, Tryd.ntmps17
    go_wp2_with fail
    refine S.mono ?_
    rintro e w1 ⟨⟨v, rfl, -⟩, hb⟩
    go_wp2
    go_ret
    exact ⟨rfl, hb⟩
  · have es : scanAll (b.data.toList.take q) = Wlx.Res.err 41 q' := by unfold scanAll; rw [if_neg hlen]; exact h
    rw [es] at S
    clear ee hlen h es
    go_enter Tryd.func17, Tryd.ntmps17
    go_wp2_with fail
    refine S.mono ?_
    rintro e w1 ⟨rfl, hb⟩
    go_wp2
    go_ret
    exact ⟨rfl, hb⟩

set_option maxRecDepth 100000 in
set_option maxHeartbeats 1600000 in
/-- Where it is refused. -/
theorem covers_err (b : ByteArray) (w : World) (hm : MaxAt w) (hs : b.size ≤ 9223372036854775807) (c p : Nat) (e : scanAll b.data.toList = Wlx.Res.err c p) (hc : c = 2 ∧ p = 0 ∧ 1024 < b.data.toList.length ∨ b.data.toList.length ≤ 1024 ∧ Wlx.Er 0 b.data.toList c p) : Calls Tryd.prog 8 #[.string b] w fun e w' => e = .returned (.bool true) ∧ Below w.heap.size w w' := by
  have A := able_any w hm
  have S := fun w hm => scan_any b w hm hs
  rw [e] at S
  clear e
  have hbl : b.data.toList.length = b.size := rfl
  rw [hbl] at hc
  clear hbl
  have hp0 : (0 : Int) ≤ (p : Int) := by omega
  by_cases h40 : c = 40
  · subst h40
    rcases hc with ⟨h, _⟩ | ⟨hl, hE⟩
    · omega
    · obtain ⟨_, c2, _, c4⟩ := hE.cut
      have hplt : p < b.size := by
        have : b.data.toList.length = b.size := rfl
        omega
      have c4 := c4 rfl
      rw [Nat.sub_zero] at c4
      have hpi : (p : Int) < (b.size : Int) := by omega
      have hpi2 : (p : Int) ≤ (b.size : Int) := by omega
      have CU := fun w hm => cut_any b p w hm (by omega) hl c4
      clear hE c2 c4
      by_cases hp : p = 0
      · subst hp
        go_enter Tryd.func8, Tryd.ntmps8
        go_wp2_with fail
        refine A.mono ?_
        rintro e w1 ⟨rfl, hb1⟩
        have hm1 := MaxAt.below hm hb1
        go_wp2_with fail
        refine (S _ hm1).mono ?_
        rintro e w2 ⟨rfl, hb2⟩
        go_wp2
        go_ret
        exact ⟨rfl, hb1.trans (hb2.mono hb1.size)⟩
      · have hpz : ((p : Int) == 0) = false := beq_eq_false_iff_ne.2 (by omega)
        go_enter Tryd.func8, Tryd.ntmps8
        go_wp2_with fail
        refine A.mono ?_
        rintro e w1 ⟨rfl, hb1⟩
        have hm1 := MaxAt.below hm hb1
        go_wp2_with fail
        refine (S _ hm1).mono ?_
        rintro e w2 ⟨rfl, hb2⟩
        have hm2 := MaxAt.below hm1 hb2
        go_wp2_with fail
        refine (CU _ hm2).mono ?_
        rintro e w3 ⟨rfl, hb3⟩
        go_wp2
        go_ret
        exact ⟨rfl, hb1.trans ((hb2.trans (hb3.mono hb2.size)).mono hb1.size)⟩
  · have hc0 : ((c : Int) != 0) = true := by
      have : ¬ c = 0 := by
        rcases hc with ⟨rfl, _⟩ | ⟨_, h⟩
        · omega
        · have := h.cut.2.2.1; omega
      simp; omega
    have hc40 : ((c : Int) != 40) = true := by simp; omega
    have hpi2 : (p : Int) ≤ (b.size : Int) := by
      rcases hc with ⟨_, rfl, _⟩ | ⟨_, h⟩
      · omega
      · have h1 := h.cut.2.1
        have : b.data.toList.length = b.size := rfl
        omega
    clear hc h40
    go_enter Tryd.func8, Tryd.ntmps8
    go_wp2_with fail
    refine A.mono ?_
    rintro e w1 ⟨rfl, hb1⟩
    have hm1 := MaxAt.below hm hb1
    go_wp2_with fail
    refine (S _ hm1).mono ?_
    rintro e w2 ⟨rfl, hb2⟩
    go_wp2
    go_ret
    exact ⟨rfl, hb1.trans (hb2.mono hb1.size)⟩
end Go.Proofs.YtjkohkhngeioiaaDoor
