/- strings.ReplaceAll off the shelf; said, written, refusal. -/
import Derived.Test.YtjkohkhngeioiaaDoorLSize
import Derived.Shelf.Strings.Replace
import Derived.Shelf.LaysM
import Derived.Ground.NamesProg
namespace Go.Proofs.YtjkohkhngeioiaaDoor
open Go.Shelf Go.RowKit
set_option linter.unusedVariables false

def lays155_ren : Go.Shelf.Ren := ⟨fun | 155 => 32 | 154 => 42 | 138 => 45 | 165 => 46 | 143 => 47 | 166 => 24 | 197 => 48 | 169 => 26 | 195 => 49 | 218 => 50 | 240 => 40 | 241 => 51 | 219 => 52 | 260 => 53 | 276 => 44 | 277 => 54 | 217 => 55 | 225 => 56 | 224 => 57 | 267 => 58 | 266 => 59 | 314 => 60 | n => n, fun | 9 => 9 | 3 => 3 | 4 => 4 | 72 => 47 | 0 => 0 | 76 => 50 | 105 => 72 | 21 => 21 | 5 => 5 | 70 => 44 | 20 => 20 | 37 => 45 | 75 => 49 | 127 => 66 | 164 => 68 | 46 => 77 | 119 => 78 | 139 => 81 | 138 => 80 | 146 => 83 | 51 => 82 | 80 => 53 | n => n, fun | 1 => 0 | 3 => 1 | 4 => 2 | n => n⟩
theorem lays155 : Go.Proofs.LaysM.n155 Tryd.prog lays155_ren := {
  mixed := by kernel_rfl
  f138 := Tryd.func45.trans (congrArg some (by kernel_rfl))
  f143 := Tryd.func47.trans (congrArg some (by kernel_rfl))
  f154 := Tryd.func42.trans (congrArg some (by kernel_rfl))
  f155 := Tryd.func32.trans (congrArg some (by kernel_rfl))
  f165 := Tryd.func46.trans (congrArg some (by kernel_rfl))
  f166 := Tryd.func24.trans (congrArg some (by kernel_rfl))
  f169 := Tryd.func26.trans (congrArg some (by kernel_rfl))
  f195 := Tryd.func49.trans (congrArg some (by kernel_rfl))
  f197 := Tryd.func48.trans (congrArg some (by kernel_rfl))
  f217 := Tryd.func55.trans (congrArg some (by kernel_rfl))
  f218 := Tryd.func50.trans (congrArg some (by kernel_rfl))
  f219 := Tryd.func52.trans (congrArg some (by kernel_rfl))
  f224 := Tryd.func57.trans (congrArg some (by kernel_rfl))
  f225 := Tryd.func56.trans (congrArg some (by kernel_rfl))
  f240 := Tryd.func40.trans (congrArg some (by kernel_rfl))
  f241 := Tryd.func51.trans (congrArg some (by kernel_rfl))
  f260 := Tryd.func53.trans (congrArg some (by kernel_rfl))
  f266 := Tryd.func59.trans (congrArg some (by kernel_rfl))
  f267 := Tryd.func58.trans (congrArg some (by kernel_rfl))
  f276 := Tryd.func44.trans (congrArg some (by kernel_rfl))
  f277 := Tryd.func54.trans (congrArg some (by kernel_rfl))
  f314 := Tryd.func60.trans (congrArg some (by kernel_rfl))
  t0 := Tryd.underlying0
  a0 := Tryd.isAgg0
  z0 := Tryd.sizeOf0
  v0 := Tryd.zeroValue0
  t3 := Tryd.underlying3
  a3 := Tryd.isAgg3
  z3 := Tryd.sizeOf3
  v3 := Tryd.zeroValue3
  t4 := Tryd.underlying4
  a4 := Tryd.isAgg4
  z4 := Tryd.sizeOf4
  v4 := Tryd.zeroValue4
  t5 := Tryd.underlying5
  a5 := Tryd.isAgg5
  z5 := Tryd.sizeOf5
  v5 := Tryd.zeroValue5
  t9 := Tryd.underlying9
  a9 := Tryd.isAgg9
  z9 := Tryd.sizeOf9
  v9 := Tryd.zeroValue9
  t20 := Tryd.underlying20
  a20 := Tryd.isAgg20
  z20 := Tryd.sizeOf20
  v20 := Tryd.zeroValue20
  t21 := Tryd.underlying21
  a21 := Tryd.isAgg21
  z21 := Tryd.sizeOf21
  v21 := Tryd.zeroValue21
  t37 := Tryd.underlying45
  a37 := Tryd.isAgg45
  z37 := Tryd.sizeOf45
  v37 := Tryd.zeroValue45
  t46 := Tryd.underlying77
  a46 := Tryd.isAgg77
  z46 := Tryd.sizeOf77
  v46 := Tryd.zeroValue77
  t51 := Tryd.underlying82
  a51 := Tryd.isAgg82
  z51 := Tryd.sizeOf82
  v51 := Tryd.zeroValue82
  t70 := Tryd.underlying44
  a70 := Tryd.isAgg44
  z70 := Tryd.sizeOf44
  v70 := Tryd.zeroValue44
  t72 := Tryd.underlying47
  a72 := Tryd.isAgg47
  z72 := Tryd.sizeOf47
  v72 := Tryd.zeroValue47
  t75 := Tryd.underlying49
  a75 := Tryd.isAgg49
  z75 := Tryd.sizeOf49
  v75 := Tryd.zeroValue49
  t76 := Tryd.underlying50
  a76 := Tryd.isAgg50
  z76 := Tryd.sizeOf50
  v76 := Tryd.zeroValue50
  t105 := Tryd.underlying72
  a105 := Tryd.isAgg72
  z105 := Tryd.sizeOf72
  v105 := Tryd.zeroValue72
  t119 := Tryd.underlying78
  a119 := Tryd.isAgg78
  z119 := Tryd.sizeOf78
  t127 := Tryd.underlying66
  a127 := Tryd.isAgg66
  z127 := Tryd.sizeOf66
  v127 := Tryd.zeroValue66
  t138 := Tryd.underlying80
  a138 := Tryd.isAgg80
  z138 := Tryd.sizeOf80
  v138 := Tryd.zeroValue80
  t139 := Tryd.underlying81
  a139 := Tryd.isAgg81
  z139 := Tryd.sizeOf81
  v139 := Tryd.zeroValue81
  t146 := Tryd.underlying83
  a146 := Tryd.isAgg83
  z146 := Tryd.sizeOf83
  v146 := Tryd.zeroValue83
  t164 := Tryd.underlying68
  a164 := Tryd.isAgg68
  z164 := Tryd.sizeOf68
  v164 := Tryd.zeroValue68
  g1 := by kernel_rfl
  g3 := by kernel_rfl
  g4 := by kernel_rfl
  t80 := Tryd.underlying53
  a80 := Tryd.isAgg53
  z80 := Tryd.sizeOf53
  v80 := Tryd.zeroValue53
  i0 := by kernel_rfl
  i3 := by kernel_rfl
  i4 := by kernel_rfl
  i5 := by kernel_rfl
  i9 := by kernel_rfl
  i20 := by kernel_rfl
  i21 := by kernel_rfl
  i37 := by kernel_rfl
  i46 := by kernel_rfl
  i51 := by kernel_rfl
  i70 := by kernel_rfl
  i72 := by kernel_rfl
  i75 := by kernel_rfl
  i76 := by kernel_rfl
  i80 := by kernel_rfl
  i105 := by kernel_rfl
  i127 := by kernel_rfl
  i138 := by kernel_rfl
  i139 := by kernel_rfl
  i146 := by kernel_rfl
  i164 := by kernel_rfl
  m1 := by kernel_rfl
  s1_3 := fun w h => Go.Proofs.cell_of_shapedOpen_int (zero := #[.int .i64 0]) (t := 3) h (of_decide_eq_true (by kernel_rfl)) (by kernel_rfl) rfl (by kernel_rfl) (by kernel_rfl) Tryd.underlying3
  m3 := by kernel_rfl
  m4 := by kernel_rfl }

theorem extra155 : Builder.Extra Tryd.prog lays155_ren := {
  sizeBuilder := by kernel_rfl
  liesBuilder := by kernel_rfl
  t5 := Tryd.underlying5
  a5 := Tryd.isAgg5
  z5 := Tryd.sizeOf5
  v5 := Tryd.zeroValue5
  infoByte := by kernel_rfl
  cellsByte := by kernel_rfl
  sizeByte := by kernel_rfl
  neB5 := by decide }

/-- The search's own limit holds some number. -/
def MaxAt (w : World) : Prop := ∃ m : Int, w.cell? ⟨lays155_ren.g 1, 0, none⟩ = some (.int .i64 m)
theorem MaxAt.below {w w' : World} (h : MaxAt w) (hb : Below w.heap.size w w') : MaxAt w' := by
  obtain ⟨m, hm⟩ := h
  exact ⟨m, (hb.cell (p := ⟨lays155_ren.g 1, 0, none⟩) (World.block_lt_of_cell? _ _ hm)).trans hm⟩
theorem MaxAt.shaped {w : World} (h : w.ShapedOpen Tryd.prog) : MaxAt w := lays155.s1_3 w h

/-- All instances of old that do not overlap, replaced. -/
def rep (old new l : List UInt8) : List UInt8 := Lib.replaceK old new (Lib.count l old) l
theorem rep_hit {old new l : List UInt8} (h0 : old ≠ []) (h : old.isPrefixOf l = true) : rep old new l = new ++ rep old new (l.drop old.length) := by
  have hi : Lib.index l old = ((0 : Nat) : Int) := by
    cases l with
    | nil => cases old with | nil => exact absurd rfl h0 | cons a b => simp at h
    | cons b t => unfold Lib.index; rw [if_pos h]; rfl
  have hc := Lib.count_hit h0 hi
  unfold rep
  rw [hc, Nat.add_comm, Lib.replaceK_hit _ _ _ _ 0 hi, Nat.zero_add]
  rfl
theorem rep_miss {old new t : List UInt8} {c : UInt8} (h0 : old ≠ []) (h : old.isPrefixOf (c :: t) = false) : rep old new (c :: t) = c :: rep old new t := by
  have hi : Lib.index (c :: t) old = if Lib.index t old == -1 then -1 else Lib.index t old + 1 := by
    conv => lhs; unfold Lib.index
    rw [if_neg (by rw [h]; decide)]
  unfold rep
  by_cases hm : Lib.index t old = -1
  · rw [hm, if_pos (by decide)] at hi
    rw [Lib.count_miss hi, Lib.count_miss hm]
    rfl
  · have hge := Lib.index_ge t old
    obtain ⟨i, hii⟩ : ∃ i : Nat, Lib.index t old = i := ⟨(Lib.index t old).toNat, by omega⟩
    rw [hii, if_neg (by first | (simp; done) | (simp; omega))] at hi
    have hi2 : Lib.index (c :: t) old = ((i + 1 : Nat) : Int) := by rw [hi]; omega
    have e1 := Lib.count_hit h0 hi2
    have e2 := Lib.count_hit h0 hii
    have e3 : (c :: t).drop (i + 1 + old.length) = t.drop (i + old.length) := by rw [show i + 1 + old.length = (i + old.length) + 1 by omega]; rfl
    rw [e3] at e1
    rw [e1, e2, Nat.add_comm, Lib.replaceK_hit _ _ _ _ (i + 1) hi2, Lib.replaceK_hit _ _ _ _ i hii, e3]
    rfl
theorem rep_nil {old new : List UInt8} (h0 : old ≠ []) : rep old new [] = [] := by
  unfold rep
  rw [Lib.count_miss (by cases old with | nil => exact absurd rfl h0 | cons a b => rfl)]
  rfl
theorem all_rep {old new l : List UInt8} (h : (old == new) = false) : Lib.replaceAll l old new = rep old new l := by
  unfold Lib.replaceAll Lib.replace rep Lib.replaceNum
  rw [if_neg (by rw [h]; decide), if_pos (Or.inl (by decide))]
theorem rep_undbl : ∀ (n : Nat) (l : List UInt8), l.length ≤ n → rep [34, 34] [34] l = Wlx.undbl l := by
  intro n
  induction n with
  | zero => intro l hl; obtain rfl := List.eq_nil_of_length_eq_zero (Nat.le_zero.1 hl); exact rep_nil (by decide)
  | succ n ih =>
    intro l hl
    match l, hl with
    | [], _ => exact rep_nil (by decide)
    | [c], _ => rw [rep_miss (by decide) (by simp [List.isPrefixOf]), rep_nil (by decide)]; rfl
    | c :: d :: t, hl =>
      simp only [List.length_cons] at hl
      have e : Wlx.undbl (c :: d :: t) = if c = 34 ∧ d = 34 then 34 :: Wlx.undbl t else c :: Wlx.undbl (d :: t) := by conv => lhs; unfold Wlx.undbl
      rw [e]
      by_cases h : c = 34 ∧ d = 34
      · obtain ⟨rfl, rfl⟩ := h
        rw [rep_hit (by decide) (by simp [List.isPrefixOf]), if_pos ⟨rfl, rfl⟩]
        show 34 :: rep [34, 34] [34] t = _
        rw [ih t (by omega)]
      · rw [rep_miss (by decide) (by simp [List.isPrefixOf]; intro h1 h2; exact h ⟨h1.symm, h2.symm⟩), if_neg h, ih (d :: t) (by simp only [List.length_cons]; omega)]
theorem rep_dbl (l : List UInt8) : rep [34] [34, 34] l = Wlx.dbl l := by
  induction l with
  | nil => exact rep_nil (by decide)
  | cons c t ih =>
    have e : Wlx.dbl (c :: t) = if c = 34 then 34 :: 34 :: Wlx.dbl t else c :: Wlx.dbl t := rfl
    rw [e]
    by_cases h : c = 34
    · subst h
      rw [rep_hit (by decide) (by simp [List.isPrefixOf]), if_pos rfl]
      show 34 :: 34 :: rep [34] [34, 34] t = _
      rw [ih]
    · rw [rep_miss (by decide) (by simp [List.isPrefixOf]; exact fun e => h e.symm), if_neg h, ih]

theorem count_le_size (s old : ByteArray) (h : 1 ≤ old.size) : Lib.countB s old ≤ s.size := by
  have := Lib.countB_mul_le old h s.size s (Nat.le_refl _)
  have h2 : Lib.countB s old * 1 ≤ Lib.countB s old * old.size := Nat.mul_le_mul_left _ h
  omega
theorem replace_two (b : ByteArray) (w : World) (hm : MaxAt w) (hs : b.size ≤ 1048576) : Calls Tryd.prog 32 #[.string b, .string ⟨#[34, 34]⟩, .string ⟨#[34]⟩] w fun e w' => e = .returned (.string ⟨(Wlx.undbl b.data.toList).toArray⟩) ∧ Below w.heap.size w w' := by
  obtain ⟨m, hm⟩ := hm
  have c := count_le_size b ⟨#[34, 34]⟩ (by decide)
  have h := Any.strings_ReplaceAll { lays155 with } extra155 b ⟨#[34, 34]⟩ ⟨#[34]⟩ m w (by omega) hm (by decide) (by show b.size + _ * 1 ≤ _; omega)
  rw [all_rep (by decide), rep_undbl _ _ (Nat.le_refl _)] at h
  exact h
theorem replace_one (b : ByteArray) (w : World) (hm : MaxAt w) (hs : b.size ≤ 1048576) : Calls Tryd.prog 32 #[.string b, .string ⟨#[34]⟩, .string ⟨#[34, 34]⟩] w fun e w' => e = .returned (.string ⟨(Wlx.dbl b.data.toList).toArray⟩) ∧ Below w.heap.size w w' := by
  obtain ⟨m, hm⟩ := hm
  have c := count_le_size b ⟨#[34]⟩ (by decide)
  have h := Any.strings_ReplaceAll { lays155 with } extra155 b ⟨#[34]⟩ ⟨#[34, 34]⟩ m w (by omega) hm (by decide) (by show b.size + _ * 2 ≤ _; omega)
  rw [all_rep (by decide), rep_dbl] at h
  exact h
end Go.Proofs.YtjkohkhngeioiaaDoor
