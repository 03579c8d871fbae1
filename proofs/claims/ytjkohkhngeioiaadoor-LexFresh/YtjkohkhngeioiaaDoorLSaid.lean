/- said, refusal, written; the Builder's calls. -/
import Derived.Test.YtjkohkhngeioiaaDoorLRep
import Derived.Test.YtjkohkhngeioiaaDoorLPlainB
namespace Go.Proofs.YtjkohkhngeioiaaDoor
open Go.Shelf Go.RowKit
set_option linter.unusedVariables false

theorem said_text (b : ByteArray) (w : World) (hm : MaxAt w) (h2 : 2 ≤ b.size) (hs : b.size ≤ 1048576) : Calls Tryd.prog 21 #[.int .i64 2, .string b] w fun e w' => e = .returned (.string ⟨(Wlx.said 2 b.data.toList).toArray⟩) ∧ Below w.heap.size w w' := by
  have c1 : (1 : Int) ≤ (b.size : Int) - 1 := by omega
  have c2 : (b.size : Int) - 1 ≤ (b.size : Int) := by omega
  have E : Hid (Wlx.undbl (b.extract 1 (b.size - 1)).data.toList = Wlx.said 2 b.data.toList) := by
    show _ = _
    rw [Lib.extract_data]
    have : b.data.toList.length = b.size := rfl
    unfold Wlx.said
    rw [if_pos rfl, this, show b.size - 1 - 1 = b.size - 2 by omega]
  have R := fun w hm => replace_two (b.extract 1 (b.size - 1)) w hm (by rw [ByteArray.size_extract]; omega)
  rw [E.out] at R
  clear E
  generalize Wlx.said 2 b.data.toList = q at *
  have e1 : ((b.size : Int) - 1).toNat = b.size - 1 := by omega
  go_enter Tryd.func21, Tryd.ntmps21
  go_wp2_with fail
  refine (R _ hm).mono ?_
  rintro e w1 ⟨rfl, hb⟩
  go_wp2
  go_ret
  exact ⟨rfl, hb⟩
theorem said_other (k : Nat) (b : ByteArray) (w : World) (h : ¬ k = 2) : Calls Tryd.prog 21 #[.int .i64 k, .string b] w fun e w' => e = .returned (.string ⟨(Wlx.said k b.data.toList).toArray⟩) ∧ Below w.heap.size w w' := by
  have hk : ((k : Int) != 2) = true := by simp; omega
  have E : Hid ((⟨(Wlx.said k b.data.toList).toArray⟩ : ByteArray) = b) := by
    show _ = _; unfold Wlx.said; rw [if_neg h]
  clear h
  rw [E.out]
  go_enter Tryd.func21, Tryd.ntmps21
  go_wp2
  go_ret
  exact ⟨rfl, Below.refl _ _⟩
theorem said_any (k : Nat) (b : ByteArray) (w : World) (hm : MaxAt w) (h2 : k = 2 → 2 ≤ b.size) (hs : b.size ≤ 1048576) : Calls Tryd.prog 21 #[.int .i64 k, .string b] w fun e w' => e = .returned (.string ⟨(Wlx.said k b.data.toList).toArray⟩) ∧ Below w.heap.size w w' := by
  by_cases h : k = 2
  · subst h; exact said_text b w hm (h2 rfl) hs
  · exact said_other k b w h
theorem refusal_any (b : ByteArray) (w : World) (hs : b.size ≤ 9223372036854775807) : Calls Tryd.prog 22 #[.string b] w fun e w' => e = .returned (.int .i64 (if Wlx.begins [34] b.data.toList then 41 else 40)) ∧ w = w' := by
  have HP := hasPrefix_any b ⟨#[34]⟩ w hs
  have e0 : (⟨#[34]⟩ : ByteArray).data.toList = [34] := rfl
  rw [e0] at HP
  cases hb : Wlx.begins [34] b.data.toList with
  | true =>
    rw [hb] at HP
    clear hb
    go_enter Tryd.func22, Tryd.ntmps22
    go_wp2_with fail
    refine HP.mono ?_
    rintro e w1 ⟨rfl, rfl⟩
    go_wp2
    go_ret
    exact ⟨rfl, rfl⟩
  | false =>
    rw [hb] at HP
    clear hb
    go_enter Tryd.func22, Tryd.ntmps22
    go_wp2_with fail
    refine HP.mono ?_
    rintro e w1 ⟨rfl, rfl⟩
    go_wp2
    go_ret
    exact ⟨rfl, rfl⟩

theorem wstring (B b : Nat) (l : List UInt8) (s : ByteArray) (w : World) (h : Lib.IsBuilder 47 5 B b (Lib.byteCells l) w) (hlen : l.length + s.size ≤ 140737488355328) (hBw : B ≤ w.heap.size) :
    Calls Tryd.prog 24 #[.pointer (some ⟨b, 0, none⟩), .string s] w fun e w' => e = .returned (.tuple #[.int .i64 s.size, .nilIface]) ∧ Lib.IsBuilder 47 5 B b (Lib.byteCells (l ++ s.data.toList)) w' ∧ Below B w w' := by
  refine (Any.Builder_WriteString { lays155 with } extra155 B b (Lib.byteCells l) s w h (by rw [Lib.byteCells_length]; exact hlen) hBw).mono ?_
  rintro e w' ⟨rfl, h1, h2⟩
  rw [Lib.strCells_eq, ← Lib.byteCells_append] at h1
  exact ⟨rfl, Or.inr h1, h2⟩
theorem bstring (B b : Nat) (l : List UInt8) (w : World) (h : Lib.IsBuilder 47 5 B b (Lib.byteCells l) w) (hBw : B ≤ w.heap.size) :
    Calls Tryd.prog 26 #[.pointer (some ⟨b, 0, none⟩)] w fun e w' => e = .returned (.string ⟨l.toArray⟩) ∧ Below B w w' := Any.Builder_String_any { lays155 with } extra155 B b l w h hBw
end Go.Proofs.YtjkohkhngeioiaaDoor
