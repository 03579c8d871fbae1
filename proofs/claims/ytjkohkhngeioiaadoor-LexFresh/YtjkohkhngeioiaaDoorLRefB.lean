/- The reference's text. -/
import Derived.Test.YtjkohkhngeioiaaDoorLRefA
import Derived.Test.YtjkohkhngeioiaaDoorLBytes
import Derived.Test.YtjkohkhngeioiaaDoorLPlainF
namespace Wlx
/-- The first byte that may not be, among x, which stands behind place q. -/
def badV (q : Nat) (x : List UInt8) : Int := if runP prt x < x.length then ((q + 1 + runP prt x : Nat) : Int) else -1
theorem badV_nil (q : Nat) : badV q [] = -1 := rfl
theorem badV_neg {q : Nat} {x : List UInt8} : badV q x < 0 ↔ ¬ runP prt x < x.length := by
  unfold badV
  by_cases h : runP prt x < x.length
  · rw [if_pos h]; omega
  · rw [if_neg h]; omega
theorem badV_good {q : Nat} {x : List UInt8} {c : UInt8} (hc : prt c = true) : badV q (x ++ [c]) = badV q x := by
  unfold badV
  rw [runP_app, List.length_append]
  have hl := runP_le prt x
  by_cases h : runP prt x < x.length
  · rw [if_pos h, if_pos h, if_pos (by simp only [List.length_cons, List.length_nil]; omega)]
  · rw [if_neg h, if_neg h, runP_pos hc]
    rw [if_neg (by simp [runP])]
theorem badV_bad {q : Nat} {x : List UInt8} {c : UInt8} (hc : prt c = false) (h : badV q x < 0) : badV q (x ++ [c]) = ((q + 1 + x.length : Nat) : Int) := by
  have h := badV_neg.1 h
  unfold badV
  rw [runP_app, List.length_append, if_neg h, runP_neg hc, if_pos (by simp)]
  rfl
theorem badV_old {q : Nat} {x : List UInt8} {c : UInt8} (h : ¬ badV q x < 0) : badV q (x ++ [c]) = badV q x := by
  have h : runP prt x < x.length := by
    by_cases hh : runP prt x < x.length
    · exact hh
    · exact absurd (badV_neg.2 hh) h
  unfold badV
  rw [runP_app, List.length_append, if_pos h, if_pos h, if_pos (by omega)]
end Wlx
namespace Go.Proofs.YtjkohkhngeioiaaDoor
open Go.Shelf Go.RowKit
set_option linter.unusedVariables false

theorem byte_of {b : ByteArray} {e : Nat} {x : List UInt8} {c : UInt8} {y : List UInt8} (hd : b.data.toList.drop e = x ++ c :: y) : ∃ h : e + x.length < b.size, b[e + x.length] = c := by
  have hlen : e + x.length < b.size := by
    have := congrArg List.length hd
    simp only [List.length_drop, List.length_append, List.length_cons] at this
    have e2 : b.data.toList.length = b.size := rfl
    omega
  refine ⟨hlen, ?_⟩
  have e1 : b.data.toList[e + x.length]? = some b[e + x.length] := List.getElem?_eq_getElem (by exact hlen)
  rw [← List.getElem?_drop, hd, List.getElem?_append_right (Nat.le_refl _), Nat.sub_self] at e1
  exact (Option.some.inj e1).symm
theorem size_of {b : ByteArray} {e : Nat} {x : List UInt8} (he : e ≤ b.size) (hd : b.data.toList.drop e = x) : e + x.length = b.size := by
  have := congrArg List.length hd
  simp only [List.length_drop] at this
  have e2 : b.data.toList.length = b.size := rfl
  omega

/-- What the reference's text answers. -/
def TextPost (q : Nat) (l : List UInt8) (e : Ending) : Prop :=
  (Wlx.txtSz l = 0 ∧ e = .returned (.tuple #[.string ⟨#[]⟩, .int .i64 0, .int .i64 41, .int .i64 q])) ∨
  (0 < Wlx.txtSz l ∧ Wlx.runP Wlx.prt (l.take (Wlx.txtSz l)) < Wlx.txtSz l ∧ e = .returned (.tuple #[.string ⟨#[]⟩, .int .i64 0, .int .i64 40, .int .i64 ((q + Wlx.runP Wlx.prt (l.take (Wlx.txtSz l)) : Nat) : Int)])) ∨
  (0 < Wlx.txtSz l ∧ ¬ Wlx.runP Wlx.prt (l.take (Wlx.txtSz l)) < Wlx.txtSz l ∧ e = .returned (.tuple #[.string ⟨(Wlx.said 2 (l.take (Wlx.txtSz l))).toArray⟩, .int .i64 ((q + Wlx.txtSz l : Nat) : Int), .int .i64 0, .int .i64 0]))
/-- A text's end. -/
theorem text_end {q : Nat} {x y acc : List UInt8} {e : Ending} (hu : ∀ z, Wlx.undbl (x ++ z) = acc ++ Wlx.undbl z) (hq : Wlx.quo true 1 (x ++ 34 :: y) = x.length + 2)
    (h : (Wlx.badV q x < 0 ∧ e = .returned (.tuple #[.string ⟨acc.toArray⟩, .int .i64 ((q + 1 + x.length + 1 : Nat) : Int), .int .i64 0, .int .i64 0])) ∨ (¬ Wlx.badV q x < 0 ∧ e = .returned (.tuple #[.string ⟨#[]⟩, .int .i64 0, .int .i64 40, .int .i64 (Wlx.badV q x)]))) :
    TextPost q (34 :: (x ++ 34 :: y)) e := by
  have hs : Wlx.txtSz (34 :: (x ++ 34 :: y)) = x.length + 2 := hq
  have ht : (34 :: (x ++ 34 :: y)).take (x.length + 2) = 34 :: (x ++ [34]) := by
    rw [List.take_succ_cons, List.take_append, List.take_of_length_le (by omega)]
    have : x.length + 1 - x.length = 1 := by omega
    rw [this]; rfl
  have hr : Wlx.runP Wlx.prt (34 :: (x ++ [34])) = if Wlx.runP Wlx.prt x < x.length then 1 + Wlx.runP Wlx.prt x else x.length + 2 := by
    rw [Wlx.runP_pos (by decide), Wlx.runP_app]
    split
    · omega
    · rw [Wlx.runP_pos (by decide)]; show x.length + (0 + 1) + 1 = _; omega
  unfold TextPost
  rw [hs, ht, hr]
  right
  have hle := Wlx.runP_le Wlx.prt x
  rcases h with ⟨hb, rfl⟩ | ⟨hb, rfl⟩
  · right
    have hb := Wlx.badV_neg.1 hb
    rw [if_neg hb]
    have hsd : Wlx.said 2 (34 :: (x ++ [34])) = acc := by
      unfold Wlx.said
      rw [if_pos rfl]
      have : (((34 :: (x ++ [34])) : List UInt8).drop 1).take ((34 :: (x ++ [34])).length - 2) = x := by
        have e1 : (34 :: (x ++ [34])).length - 2 = x.length := by simp
        rw [e1]; exact List.take_left
      rw [this]
      have := hu []
      rw [List.append_nil] at this
      rw [this]
      show acc ++ [] = acc
      rw [List.append_nil]
    refine ⟨by omega, by omega, ?_⟩
    rw [hsd]
    exact congrArg (fun z => Ending.returned (.tuple #[.string ⟨acc.toArray⟩, .int .i64 z, .int .i64 0, .int .i64 0])) (by omega)
  · left
    have hb2 : Wlx.runP Wlx.prt x < x.length := by
      by_cases hh : Wlx.runP Wlx.prt x < x.length
      · exact hh
      · exact absurd (Wlx.badV_neg.2 hh) hb
    rw [if_pos hb2]
    refine ⟨by omega, by omega, ?_⟩
    have : Wlx.badV q x = ((q + (1 + Wlx.runP Wlx.prt x) : Nat) : Int) := by unfold Wlx.badV; rw [if_pos hb2]; omega
    rw [this]
end Go.Proofs.YtjkohkhngeioiaaDoor
