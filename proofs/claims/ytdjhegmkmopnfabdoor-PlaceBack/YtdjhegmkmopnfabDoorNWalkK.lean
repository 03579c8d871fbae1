/- The contracts of strings.Cut at a colon, and of ReadArea. -/
import Derived.Test.YtdjhegmkmopnfabDoorNWalkE
import Derived.Test.YtdjhegmkmopnfabDoorNPlainE
import Derived.Shelf.Strings.Search1
import Derived.Ground.NamesProg
namespace Go.Proofs.YtdjhegmkmopnfabDoor
open Go.RowKit Go.Shelf
set_option linter.unusedVariables false

def laysIndexByte_ren : Go.Shelf.Ren := ⟨fun | 217 => 48 | 266 => 57 | n => n, fun | 9 => 9 | 5 => 5 | 3 => 3 | n => n, fun | n => n⟩
theorem laysIndexByte : Go.Proofs.Lays.n217 Tryd.prog laysIndexByte_ren := {
  mixed := by kernel_rfl
  f217 := Tryd.func48.trans (congrArg some (by kernel_rfl))
  f266 := Tryd.func57.trans (congrArg some (by kernel_rfl))
  t3 := Tryd.underlying3
  a3 := Tryd.isAgg3
  z3 := Tryd.sizeOf3
  v3 := Tryd.zeroValue3
  t5 := Tryd.underlying5
  a5 := Tryd.isAgg5
  z5 := Tryd.sizeOf5
  v5 := Tryd.zeroValue5
  t9 := Tryd.underlying9
  a9 := Tryd.isAgg9
  z9 := Tryd.sizeOf9
  v9 := Tryd.zeroValue9 }

theorem indexByte_any (s : ByteArray) (w : World) :
    Calls Tryd.prog 48 #[.string s, .int .u8 58] w fun e w' => e = .returned (.int .i64 (Lib.indexByte s.data.toList 58)) ∧ w = w' :=
  (Any.stringslite_IndexByte laysIndexByte s 58 w).mono fun e w' ⟨he, hw⟩ => ⟨he, hw.symm⟩

set_option maxRecDepth 100000 in
theorem sindex_any (l : List UInt8) (w : World) :
    Calls Tryd.prog 43 #[.string ⟨l.toArray⟩, .string ⟨#[58]⟩] w fun e w' => e = .returned (.int .i64 (Lib.indexByte l 58)) ∧ w = w' := by
  have I := fun w => indexByte_any ⟨l.toArray⟩ w
  rw [show (⟨l.toArray⟩ : ByteArray).data.toList = l from rfl] at I
  have e0 : ((((⟨#[58]⟩ : ByteArray)[0]).toNat : Nat) : Int) = 58 := rfl
  cases h : ([58] == l) with
  | true =>
    obtain rfl : [58] = l := by simpa using h
    have E : Hid (Lib.indexByte [58] 58 = 0) := (rfl : Lib.indexByte [58] 58 = 0)
    go_enter Tryd.func43, Tryd.ntmps43
    go_wp2
    go_ret
    exact ⟨by rw [E.out]; rfl, rfl⟩
  | false =>
    go_enter Tryd.func43, Tryd.ntmps43
    go_wp2_with fail
    refine (I _).mono ?_
    rintro e w1 ⟨rfl, rfl⟩
    go_wp2
    go_ret
    exact ⟨rfl, rfl⟩

set_option maxHeartbeats 800000 in
theorem cut_some (l p q : List UInt8) (w : World) (hl : l.length ≤ 9223372036854775000) (h : Wpl.spl l = some (p, q)) :
    Calls Tryd.prog 32 #[.string ⟨l.toArray⟩, .string ⟨#[58]⟩] w fun e w' => e = .returned (.tuple #[.string ⟨p.toArray⟩, .string ⟨q.toArray⟩, .bool true]) ∧ Below w.heap.size w w' := by
  obtain ⟨h1, h2⟩ := Wpl.spl_some h
  have I := fun w => sindex_any l w
  have x1 : ByteArray.extract ⟨l.toArray⟩ 0 p.length = ⟨p.toArray⟩ := by rw [h1]; exact Wpl.ext_pre p q
  have x2 : ByteArray.extract ⟨l.toArray⟩ (p.length + 1) l.length = ⟨q.toArray⟩ := by rw [h1]; exact Wpl.ext_suf p q
  have hi : Lib.indexByte l 58 = (p.length : Int) := by rw [h1]; exact Wpl.index_app p q h2
  have hlen : p.length + 1 ≤ l.length := by rw [h1]; simp
  have k1 : (p.length : Int) ≤ (l.length : Int) := by omega
  have k2 : (p.length : Int) + 1 ≤ (l.length : Int) := by omega
  have k3 : (0 : Int) ≤ (p.length : Int) := by omega
  have hw : IntKind.i64.wrap ((p.length : Int) + 1) = (p.length : Int) + 1 := IntWalk.i64_in _ (by omega)
  rw [hi] at I
  clear h h1 h2 hi
  have C : ∀ w, Calls Tryd.prog 39 #[.string ⟨l.toArray⟩, .string ⟨#[58]⟩] w fun e w' => e = .returned (.tuple #[.string ⟨p.toArray⟩, .string ⟨q.toArray⟩, .bool true]) ∧ Below w.heap.size w w' := by
    intro w
    go_enter Tryd.func39, Tryd.ntmps39
    go_wp2_with fail
    refine (I _).mono ?_
    rintro e w1 ⟨rfl, rfl⟩
    go_wp2_with fail
    go_region
    all_goals
      go_wp2
      go_ret3
      exact ⟨rfl, by with_reducible repeat (first | exact Below.refl _ _ | refine x3_below_drewN ?_ _ | refine Below.setCell ?_ (by first | (simp; done) | (simp; omega) | omega) _ | refine Below.drew ?_ | refine x3_below_end ?_ (by assumption) | refine x3_ball ?_ _)⟩
  go_enter Tryd.func32, Tryd.ntmps32
  go_wp2_with fail
  refine (C _).mono ?_
  rintro e w1 ⟨rfl, hb⟩
  go_wp2
  go_ret3
  exact ⟨rfl, hb⟩
theorem cut_none (l : List UInt8) (w : World) (hl : l.length ≤ 9223372036854775000) (h : Wpl.spl l = none) :
    Calls Tryd.prog 32 #[.string ⟨l.toArray⟩, .string ⟨#[58]⟩] w fun e w' => e = .returned (.tuple #[.string ⟨l.toArray⟩, .string ⟨#[]⟩, .bool false]) ∧ Below w.heap.size w w' := by
  have I := fun w => sindex_any l w
  rw [Wpl.index_not l (Wpl.spl_none h)] at I
  have C : ∀ w, Calls Tryd.prog 39 #[.string ⟨l.toArray⟩, .string ⟨#[58]⟩] w fun e w' => e = .returned (.tuple #[.string ⟨l.toArray⟩, .string ⟨#[]⟩, .bool false]) ∧ Below w.heap.size w w' := by
    intro w
    go_enter Tryd.func39, Tryd.ntmps39
    go_wp2_with fail
    refine (I _).mono ?_
    rintro e w1 ⟨rfl, rfl⟩
    go_wp2
    go_ret3
    exact ⟨rfl, by with_reducible repeat (first | exact Below.refl _ _ | refine x3_below_drewN ?_ _ | refine Below.setCell ?_ (by first | (simp; done) | (simp; omega) | omega) _ | refine Below.drew ?_ | refine x3_below_end ?_ (by assumption) | refine x3_ball ?_ _)⟩
  go_enter Tryd.func32, Tryd.ntmps32
  go_wp2_with fail
  refine (C _).mono ?_
  rintro e w1 ⟨rfl, hb⟩
  go_wp2
  go_ret3
  exact ⟨rfl, hb⟩
end Go.Proofs.YtdjhegmkmopnfabDoor
