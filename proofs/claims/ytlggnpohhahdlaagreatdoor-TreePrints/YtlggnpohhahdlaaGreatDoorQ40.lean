/- TRefI, TRefJ, TRefK, MKit. -/
import Derived.Test.YtlggnpohhahdlaaGreatDoorQ39
import Derived.Deep.LoopGhost
import Derived.Deep.RegionHeld3
namespace Go.Proofs.YtlggnpohhahdlaaGreatDoor
open Go.RowKit Go.Shelf
set_option linter.unusedVariables false
def sgO : List Value := [.int .i64 1, .int .i64 2, .int .i64 3, .int .i64 11, .int .i64 12, .int .i64 13, .int .i64 14, .int .i64 15, .int .i64 16, .int .i64 21, .int .i64 22, .int .i64 23, .int .i64 24, .int .i64 25, .int .i64 26]
def sgW : List Value := [.string ⟨#[45]⟩, .string ⟨#[43]⟩, .string ⟨#[37]⟩, .string ⟨#[43]⟩, .string ⟨#[45]⟩, .string ⟨#[42]⟩, .string ⟨#[47]⟩, .string ⟨#[94]⟩, .string ⟨#[38]⟩, .string ⟨#[61]⟩, .string ⟨#[60, 62]⟩, .string ⟨#[60]⟩, .string ⟨#[60, 61]⟩, .string ⟨#[62]⟩, .string ⟨#[62, 61]⟩]
def SgAt (o : Int) (m : ByteArray) (j : Nat) : Prop := j < 15 ∧ sgO[j]? = some (.int .i64 o) ∧ sgW[j]? = some (.string m) ∧ ∀ i, i < j → ∃ q : Int, sgO[i]? = some (.int .i64 q) ∧ (q == o) = false
theorem sgLt0 : ∀ i, i < 0 → ∃ q : Int, sgO[i]? = some (.int .i64 q) ∧ (q == 1) = false
  | _, h => absurd h (Nat.not_lt_zero _)
theorem sgLt1 : ∀ i, i < 1 → ∃ q : Int, sgO[i]? = some (.int .i64 q) ∧ (q == 2) = false
  | 0, _ => ⟨1, rfl, by decide⟩
  | n + 1, h => absurd h (by omega)
theorem sgLt2 : ∀ i, i < 2 → ∃ q : Int, sgO[i]? = some (.int .i64 q) ∧ (q == 3) = false
  | 0, _ => ⟨1, rfl, by decide⟩
  | 1, _ => ⟨2, rfl, by decide⟩
  | n + 2, h => absurd h (by omega)
theorem sgLt3 : ∀ i, i < 3 → ∃ q : Int, sgO[i]? = some (.int .i64 q) ∧ (q == 11) = false
  | 0, _ => ⟨1, rfl, by decide⟩
  | 1, _ => ⟨2, rfl, by decide⟩
  | 2, _ => ⟨3, rfl, by decide⟩
  | n + 3, h => absurd h (by omega)
theorem sgLt4 : ∀ i, i < 4 → ∃ q : Int, sgO[i]? = some (.int .i64 q) ∧ (q == 12) = false
  | 0, _ => ⟨1, rfl, by decide⟩
  | 1, _ => ⟨2, rfl, by decide⟩
  | 2, _ => ⟨3, rfl, by decide⟩
  | 3, _ => ⟨11, rfl, by decide⟩
  | n + 4, h => absurd h (by omega)
theorem sgLt5 : ∀ i, i < 5 → ∃ q : Int, sgO[i]? = some (.int .i64 q) ∧ (q == 13) = false
  | 0, _ => ⟨1, rfl, by decide⟩
  | 1, _ => ⟨2, rfl, by decide⟩
  | 2, _ => ⟨3, rfl, by decide⟩
  | 3, _ => ⟨11, rfl, by decide⟩
  | 4, _ => ⟨12, rfl, by decide⟩
  | n + 5, h => absurd h (by omega)
theorem sgLt6 : ∀ i, i < 6 → ∃ q : Int, sgO[i]? = some (.int .i64 q) ∧ (q == 14) = false
  | 0, _ => ⟨1, rfl, by decide⟩
  | 1, _ => ⟨2, rfl, by decide⟩
  | 2, _ => ⟨3, rfl, by decide⟩
  | 3, _ => ⟨11, rfl, by decide⟩
  | 4, _ => ⟨12, rfl, by decide⟩
  | 5, _ => ⟨13, rfl, by decide⟩
  | n + 6, h => absurd h (by omega)
theorem sgLt7 : ∀ i, i < 7 → ∃ q : Int, sgO[i]? = some (.int .i64 q) ∧ (q == 15) = false
  | 0, _ => ⟨1, rfl, by decide⟩
  | 1, _ => ⟨2, rfl, by decide⟩
  | 2, _ => ⟨3, rfl, by decide⟩
  | 3, _ => ⟨11, rfl, by decide⟩
  | 4, _ => ⟨12, rfl, by decide⟩
  | 5, _ => ⟨13, rfl, by decide⟩
  | 6, _ => ⟨14, rfl, by decide⟩
  | n + 7, h => absurd h (by omega)
theorem sgLt8 : ∀ i, i < 8 → ∃ q : Int, sgO[i]? = some (.int .i64 q) ∧ (q == 16) = false
  | 0, _ => ⟨1, rfl, by decide⟩
  | 1, _ => ⟨2, rfl, by decide⟩
  | 2, _ => ⟨3, rfl, by decide⟩
  | 3, _ => ⟨11, rfl, by decide⟩
  | 4, _ => ⟨12, rfl, by decide⟩
  | 5, _ => ⟨13, rfl, by decide⟩
  | 6, _ => ⟨14, rfl, by decide⟩
  | 7, _ => ⟨15, rfl, by decide⟩
  | n + 8, h => absurd h (by omega)
theorem sgLt9 : ∀ i, i < 9 → ∃ q : Int, sgO[i]? = some (.int .i64 q) ∧ (q == 21) = false
  | 0, _ => ⟨1, rfl, by decide⟩
  | 1, _ => ⟨2, rfl, by decide⟩
  | 2, _ => ⟨3, rfl, by decide⟩
  | 3, _ => ⟨11, rfl, by decide⟩
  | 4, _ => ⟨12, rfl, by decide⟩
  | 5, _ => ⟨13, rfl, by decide⟩
  | 6, _ => ⟨14, rfl, by decide⟩
  | 7, _ => ⟨15, rfl, by decide⟩
  | 8, _ => ⟨16, rfl, by decide⟩
  | n + 9, h => absurd h (by omega)
theorem sgLt10 : ∀ i, i < 10 → ∃ q : Int, sgO[i]? = some (.int .i64 q) ∧ (q == 22) = false
  | 0, _ => ⟨1, rfl, by decide⟩
  | 1, _ => ⟨2, rfl, by decide⟩
  | 2, _ => ⟨3, rfl, by decide⟩
  | 3, _ => ⟨11, rfl, by decide⟩
  | 4, _ => ⟨12, rfl, by decide⟩
  | 5, _ => ⟨13, rfl, by decide⟩
  | 6, _ => ⟨14, rfl, by decide⟩
  | 7, _ => ⟨15, rfl, by decide⟩
  | 8, _ => ⟨16, rfl, by decide⟩
  | 9, _ => ⟨21, rfl, by decide⟩
  | n + 10, h => absurd h (by omega)
theorem sgLt11 : ∀ i, i < 11 → ∃ q : Int, sgO[i]? = some (.int .i64 q) ∧ (q == 23) = false
  | 0, _ => ⟨1, rfl, by decide⟩
  | 1, _ => ⟨2, rfl, by decide⟩
  | 2, _ => ⟨3, rfl, by decide⟩
  | 3, _ => ⟨11, rfl, by decide⟩
  | 4, _ => ⟨12, rfl, by decide⟩
  | 5, _ => ⟨13, rfl, by decide⟩
  | 6, _ => ⟨14, rfl, by decide⟩
  | 7, _ => ⟨15, rfl, by decide⟩
  | 8, _ => ⟨16, rfl, by decide⟩
  | 9, _ => ⟨21, rfl, by decide⟩
  | 10, _ => ⟨22, rfl, by decide⟩
  | n + 11, h => absurd h (by omega)
theorem sgLt12 : ∀ i, i < 12 → ∃ q : Int, sgO[i]? = some (.int .i64 q) ∧ (q == 24) = false
  | 0, _ => ⟨1, rfl, by decide⟩
  | 1, _ => ⟨2, rfl, by decide⟩
  | 2, _ => ⟨3, rfl, by decide⟩
  | 3, _ => ⟨11, rfl, by decide⟩
  | 4, _ => ⟨12, rfl, by decide⟩
  | 5, _ => ⟨13, rfl, by decide⟩
  | 6, _ => ⟨14, rfl, by decide⟩
  | 7, _ => ⟨15, rfl, by decide⟩
  | 8, _ => ⟨16, rfl, by decide⟩
  | 9, _ => ⟨21, rfl, by decide⟩
  | 10, _ => ⟨22, rfl, by decide⟩
  | 11, _ => ⟨23, rfl, by decide⟩
  | n + 12, h => absurd h (by omega)
theorem sgLt13 : ∀ i, i < 13 → ∃ q : Int, sgO[i]? = some (.int .i64 q) ∧ (q == 25) = false
  | 0, _ => ⟨1, rfl, by decide⟩
  | 1, _ => ⟨2, rfl, by decide⟩
  | 2, _ => ⟨3, rfl, by decide⟩
  | 3, _ => ⟨11, rfl, by decide⟩
  | 4, _ => ⟨12, rfl, by decide⟩
  | 5, _ => ⟨13, rfl, by decide⟩
  | 6, _ => ⟨14, rfl, by decide⟩
  | 7, _ => ⟨15, rfl, by decide⟩
  | 8, _ => ⟨16, rfl, by decide⟩
  | 9, _ => ⟨21, rfl, by decide⟩
  | 10, _ => ⟨22, rfl, by decide⟩
  | 11, _ => ⟨23, rfl, by decide⟩
  | 12, _ => ⟨24, rfl, by decide⟩
  | n + 13, h => absurd h (by omega)
theorem sgLt14 : ∀ i, i < 14 → ∃ q : Int, sgO[i]? = some (.int .i64 q) ∧ (q == 26) = false
  | 0, _ => ⟨1, rfl, by decide⟩
  | 1, _ => ⟨2, rfl, by decide⟩
  | 2, _ => ⟨3, rfl, by decide⟩
  | 3, _ => ⟨11, rfl, by decide⟩
  | 4, _ => ⟨12, rfl, by decide⟩
  | 5, _ => ⟨13, rfl, by decide⟩
  | 6, _ => ⟨14, rfl, by decide⟩
  | 7, _ => ⟨15, rfl, by decide⟩
  | 8, _ => ⟨16, rfl, by decide⟩
  | 9, _ => ⟨21, rfl, by decide⟩
  | 10, _ => ⟨22, rfl, by decide⟩
  | 11, _ => ⟨23, rfl, by decide⟩
  | 12, _ => ⟨24, rfl, by decide⟩
  | 13, _ => ⟨25, rfl, by decide⟩
  | n + 14, h => absurd h (by omega)
theorem sg_find {x : Wt.Nd} (h : Wt.right x = true) (hk : x.k = 4 ∨ x.k = 5) : ∃ j, SgAt x.op ⟨(mrk x).toArray⟩ j := by
  rcases right_ops h with ⟨h4, h5, -⟩ | ⟨-, ho⟩ | ⟨-, ho⟩
  · omega
  · rcases ho with ho | ho | ho
    · exact ⟨0, by decide, by rw [ho]; rfl, by unfold mrk; rw [ho]; rfl, by rw [ho]; exact sgLt0⟩
    · exact ⟨1, by decide, by rw [ho]; rfl, by unfold mrk; rw [ho]; rfl, by rw [ho]; exact sgLt1⟩
    · exact ⟨2, by decide, by rw [ho]; rfl, by unfold mrk; rw [ho]; rfl, by rw [ho]; exact sgLt2⟩
  · rcases ho with ho | ho | ho | ho | ho | ho | ho | ho | ho | ho | ho | ho
    · exact ⟨3, by decide, by rw [ho]; rfl, by unfold mrk; rw [ho]; rfl, by rw [ho]; exact sgLt3⟩
    · exact ⟨4, by decide, by rw [ho]; rfl, by unfold mrk; rw [ho]; rfl, by rw [ho]; exact sgLt4⟩
    · exact ⟨5, by decide, by rw [ho]; rfl, by unfold mrk; rw [ho]; rfl, by rw [ho]; exact sgLt5⟩
    · exact ⟨6, by decide, by rw [ho]; rfl, by unfold mrk; rw [ho]; rfl, by rw [ho]; exact sgLt6⟩
    · exact ⟨7, by decide, by rw [ho]; rfl, by unfold mrk; rw [ho]; rfl, by rw [ho]; exact sgLt7⟩
    · exact ⟨8, by decide, by rw [ho]; rfl, by unfold mrk; rw [ho]; rfl, by rw [ho]; exact sgLt8⟩
    · exact ⟨9, by decide, by rw [ho]; rfl, by unfold mrk; rw [ho]; rfl, by rw [ho]; exact sgLt9⟩
    · exact ⟨10, by decide, by rw [ho]; rfl, by unfold mrk; rw [ho]; rfl, by rw [ho]; exact sgLt10⟩
    · exact ⟨11, by decide, by rw [ho]; rfl, by unfold mrk; rw [ho]; rfl, by rw [ho]; exact sgLt11⟩
    · exact ⟨12, by decide, by rw [ho]; rfl, by unfold mrk; rw [ho]; rfl, by rw [ho]; exact sgLt12⟩
    · exact ⟨13, by decide, by rw [ho]; rfl, by unfold mrk; rw [ho]; rfl, by rw [ho]; exact sgLt13⟩
    · exact ⟨14, by decide, by rw [ho]; rfl, by unfold mrk; rw [ho]; rfl, by rw [ho]; exact sgLt14⟩
set_option maxRecDepth 100000 in
set_option maxHeartbeats 3200000 in
theorem rsign_any (o : Int) (m : ByteArray) (j : Nat) (hj : SgAt o m j) (w : World) : Calls Tryz.prog 51 #[.int .i64 o] w fun e w' => e = .returned (.string m) ∧ Below w.heap.size w w' := by
  obtain ⟨hj15, ho, hm, hlt⟩ := hj
  have pO : AtL ((w.alloc (.cells #[.int .i64 1, .int .i64 2, .int .i64 3, .int .i64 11, .int .i64 12, .int .i64 13, .int .i64 14, .int .i64 15, .int .i64 16, .int .i64 21, .int .i64 22, .int .i64 23, .int .i64 24, .int .i64 25, .int .i64 26] 3)).alloc (.cells #[.string ⟨#[45]⟩, .string ⟨#[43]⟩, .string ⟨#[37]⟩, .string ⟨#[43]⟩, .string ⟨#[45]⟩, .string ⟨#[42]⟩, .string ⟨#[47]⟩, .string ⟨#[94]⟩, .string ⟨#[38]⟩, .string ⟨#[61]⟩, .string ⟨#[60, 62]⟩, .string ⟨#[60]⟩, .string ⟨#[60, 61]⟩, .string ⟨#[62]⟩, .string ⟨#[62, 61]⟩] 9)) w.heap.size sgO := (AtL.new0 w _ _).alloc _
  have pW : AtL ((w.alloc (.cells #[.int .i64 1, .int .i64 2, .int .i64 3, .int .i64 11, .int .i64 12, .int .i64 13, .int .i64 14, .int .i64 15, .int .i64 16, .int .i64 21, .int .i64 22, .int .i64 23, .int .i64 24, .int .i64 25, .int .i64 26] 3)).alloc (.cells #[.string ⟨#[45]⟩, .string ⟨#[43]⟩, .string ⟨#[37]⟩, .string ⟨#[43]⟩, .string ⟨#[45]⟩, .string ⟨#[42]⟩, .string ⟨#[47]⟩, .string ⟨#[94]⟩, .string ⟨#[38]⟩, .string ⟨#[61]⟩, .string ⟨#[60, 62]⟩, .string ⟨#[60]⟩, .string ⟨#[60, 61]⟩, .string ⟨#[62]⟩, .string ⟨#[62, 61]⟩] 9)) (w.heap.size + 1) sgW := AtL.new1 w _ _ _
  have hB := ball (ball (Below.refl _ w) (.cells #[.int .i64 1, .int .i64 2, .int .i64 3, .int .i64 11, .int .i64 12, .int .i64 13, .int .i64 14, .int .i64 15, .int .i64 16, .int .i64 21, .int .i64 22, .int .i64 23, .int .i64 24, .int .i64 25, .int .i64 26] 3)) (.cells #[.string ⟨#[45]⟩, .string ⟨#[43]⟩, .string ⟨#[37]⟩, .string ⟨#[43]⟩, .string ⟨#[45]⟩, .string ⟨#[42]⟩, .string ⟨#[47]⟩, .string ⟨#[94]⟩, .string ⟨#[38]⟩, .string ⟨#[61]⟩, .string ⟨#[60, 62]⟩, .string ⟨#[60]⟩, .string ⟨#[60, 61]⟩, .string ⟨#[62]⟩, .string ⟨#[62, 61]⟩] 9)
  have cO := pO.2.1
  have cW := pW.2.1
  clear pO pW
  go_enter Tryz.func51, Tryz.ntmps51
  go_upto_region 3 with fail
  generalize (w.alloc (.cells #[.int .i64 1, .int .i64 2, .int .i64 3, .int .i64 11, .int .i64 12, .int .i64 13, .int .i64 14, .int .i64 15, .int .i64 16, .int .i64 21, .int .i64 22, .int .i64 23, .int .i64 24, .int .i64 25, .int .i64 26] 3)).alloc (.cells #[.string ⟨#[45]⟩, .string ⟨#[43]⟩, .string ⟨#[37]⟩, .string ⟨#[43]⟩, .string ⟨#[45]⟩, .string ⟨#[42]⟩, .string ⟨#[47]⟩, .string ⟨#[94]⟩, .string ⟨#[38]⟩, .string ⟨#[61]⟩, .string ⟨#[60, 62]⟩, .string ⟨#[60]⟩, .string ⟨#[60, 61]⟩, .string ⟨#[62]⟩, .string ⟨#[62, 61]⟩] 9) = W0 at *
  have HO : Hid (∀ i v, sgO[i]? = some v → W0.cell? ⟨w.heap.size, i, none⟩ = some v) := cO
  have HW : Hid (∀ i v, sgW[i]? = some v → W0.cell? ⟨w.heap.size + 1, i, none⟩ = some v) := cW
  have HLT : Hid (∀ i, i < j → ∃ q : Int, sgO[i]? = some (.int .i64 q) ∧ (q == o) = false) := hlt
  clear cO cW hlt
  go_wp2_with fail
  go_loopg [5] j (fun gk x wr => ∃ i : Nat, x = .int .i64 i ∧ gk = j - i ∧ i ≤ j ∧ wr = W0)
  case atStart => exact ⟨0, rfl, rfl, Nat.zero_le _, rfl⟩
  case round =>
    obtain ⟨i, rfl, hg, hi, rfl⟩ := hrel
    have hi15 : (i : Int) < 15 := by omega
    by_cases hij : i < j
    · obtain ⟨q, hq1, hq2⟩ := HLT.out i hij
      have c0 := HO.out i _ hq1
      go_wp2_with fail
      go_roundg (j - (i + 1))
      case rel => exact ⟨i + 1, by simp, rfl, hij, rfl⟩
      case measure => omega
    · obtain rfl : i = j := by omega
      have c0 := HO.out i _ ho
      have c1 := HW.out i _ hm
      go_wp2
      go_ret
      exact ⟨rfl, hB⟩
theorem ba_mk (u : ByteArray) : u = ⟨u.data.toList.toArray⟩ := by cases u; simp
theorem ba_tail (l : List UInt8) (c : UInt8) : (⟨(c :: l).toArray⟩ : ByteArray).extract 1 (⟨(c :: l).toArray⟩ : ByteArray).size = ⟨l.toArray⟩ := by
  apply ByteArray.ext
  apply Array.ext'
  simp [ByteArray.data_extract, ByteArray.size]
theorem ba_cat (a b : List UInt8) : (⟨a.toArray⟩ : ByteArray) ++ ⟨b.toArray⟩ = ⟨(a ++ b).toArray⟩ := by
  apply ByteArray.ext
  simp
theorem colS_zero : Wpl.colS 0 = [65] := by decide
theorem nameS_row {r : Int} (h0 : 0 ≤ r) (h1 : r < 65536) : Wpl.nameS 0 r 0 = 65 :: Lib.decDigits (r + 1).toNat := by
  unfold Wpl.nameS
  have : Wpl.rightC 0 r 0 = true := by rw [Wpl.rightC_iff]; omega
  rw [if_pos this, colS_zero]
  rfl
theorem colS_len (c : Int) : (Wpl.colS c).length ≤ 2 := by
  unfold Wpl.colS
  split
  · unfold Wpl.colT; split <;> simp
  · simp
set_option maxRecDepth 100000 in
set_option maxHeartbeats 3200000 in
theorem rcelw_any (a : Wt.Rf) (w : World) (h0 : 0 ≤ a.r) (h1 : a.r < 65536) : Calls Tryz.prog 49 #[.agg (rf5 a).toArray] w fun e w' => e = .returned (.string ⟨(cw a).toArray⟩) ∧ Below w.heap.size w w' := by
  obtain ⟨s, r, c, fr, fc⟩ := a
  simp only at h0 h1
  unfold cw
  simp only
  show Calls _ _ #[.agg #[.string s, .int .i64 r, .int .i64 c, .bool fr, .bool fc]] _ _
  have C := fun w => rcol_any c w
  have M := fun w => rname_any 0 r 0 w
  rw [nameS_row h0 h1] at M
  have cl := colS_len c
  have dl : (Lib.decDigits (r + 1).toNat).length ≤ 40 := by
    have := cw_len ⟨s, r, c, fr, fc⟩ h0 h1
    unfold cw at this
    simp only [List.length_append] at this
    omega
  generalize Wpl.colS c = lc at *
  generalize Lib.decDigits (r + 1).toNat = ld at *
  obtain ⟨u, hu⟩ : ∃ u : ByteArray, (⟨lc.toArray⟩ : ByteArray) = u := ⟨_, rfl⟩
  obtain ⟨v, hv⟩ : ∃ v : ByteArray, (⟨(65 :: ld).toArray⟩ : ByteArray) = v := ⟨_, rfl⟩
  have us : (u.size : Int) ≤ 2 := by rw [← hu]; show ((lc.toArray.size : Nat) : Int) ≤ 2; simp; omega
  have vs : (v.size : Int) ≤ 41 := by rw [← hv]; show (((65 :: ld).toArray.size : Nat) : Int) ≤ 41; simp; omega
  have vs1 : (1 : Int) ≤ (v.size : Int) := by rw [← hv]; show (1 : Int) ≤ (((65 :: ld).toArray.size : Nat) : Int); simp; omega
  have HV : Hid (v.extract 1 v.size = ⟨ld.toArray⟩) := by show _ = _; rw [← hv]; exact ba_tail ld 65
  have HU : Hid (u = ⟨lc.toArray⟩) := hu.symm
  rw [hu] at C
  rw [hv] at M
  clear hu hv cl dl h0 h1
  have pA : AtL (w.alloc (.cells #[.string s, .int .i64 r, .int .i64 c, .bool fr, .bool fc] 43)) w.heap.size [.string s, .int .i64 r, .int .i64 c, .bool fr, .bool fc] := AtL.new0 w _ _
  have hB := ball (Below.refl _ w) (.cells #[.string s, .int .i64 r, .int .i64 c, .bool fr, .bool fc] 43)
  go_enter Tryz.func49, Tryz.ntmps49
  go_upto_region 1 with fail
  generalize w.alloc (.cells #[.string s, .int .i64 r, .int .i64 c, .bool fr, .bool fc] 43) = W0 at *
  obtain ⟨c0, c1, c2, c3, c4⟩ := pA.f5
  go_wp2_with fail
  refine (C _).mono ?_
  rintro e w1 ⟨rfl, hb⟩
  have pA1 := AtL.below hb pA
  have hB1 := below_end hB hb
  clear c0 c1 c2 c3 c4 C hb pA hB
  obtain ⟨c0, c1, c2, c3, c4⟩ := pA1.f5
  cases fc
  all_goals
    go_wp2_with fail
    refine (M _).mono ?_
    rintro e w2 ⟨rfl, hb⟩
    have pA2 := AtL.below hb pA1
    have hB2 := below_end hB1 hb
    clear c0 c1 c2 c3 c4 M hb pA1 hB1
    obtain ⟨c0, c1, c2, c3, c4⟩ := pA2.f5
    cases fr
    all_goals
      go_wp2
      go_ret
      refine ⟨?_, hB2⟩
      rw [HV.out, HU.out]
      first
        | exact congrArg (fun x => Ending.returned (Value.string x)) (by rw [ba_cat]; simp [fx])
        | exact congrArg (fun x => Ending.returned (Value.string x)) (by rw [show (⟨#[36]⟩ : ByteArray) = ⟨[36].toArray⟩ from rfl]; simp only [ba_cat]; simp [fx])
theorem rtruth_any (b : Bool) (w : World) : Calls Tryz.prog 76 #[.bool b] w fun e w' => e = .returned (.string ⟨(if b then [84, 82, 85, 69] else [70, 65, 76, 83, 69] : List UInt8).toArray⟩) ∧ w = w' := by
  cases b
  all_goals
    go_enter Tryz.func76, Tryz.ntmps76
    go_wp2
    go_ret
    exact ⟨rfl, rfl⟩
set_option maxHeartbeats 1600000 in
theorem r2of_any (k n d : Int) (t : ByteArray) (b : Bool) (f : Int) (w : World) (hr : Wv.right k n d t b f = true) (C : ∀ w, Calls Tryz.prog 101 #[.agg #[.int .i64 k, .int .i64 n, .int .i64 d, .string t, .bool b, .int .i64 f]] w fun e w' => e = .returned (.bool (Wv.right k n d t b f)) ∧ Below w.heap.size w w') :
    Calls Tryz.prog 74 #[.agg #[.int .i64 k, .int .i64 n, .int .i64 d, .string t, .bool b, .int .i64 f]] w fun e w' => e = .returned (.agg #[.int .i64 k, .int .i64 n, .int .i64 d, .string t, .bool b, .int .i64 f]) ∧ Below w.heap.size w w' := by
  rw [hr] at C
  have pA := (AtL.new0 w 41 [.int .i64 k, .int .i64 n, .int .i64 d, .string t, .bool b, .int .i64 f]).alloc (.cells #[.int .i64 0, .int .i64 0, .int .i64 0, .string ⟨#[]⟩, .bool false, .int .i64 0] 41)
  have pR := AtL.new1 w (.cells #[.int .i64 k, .int .i64 n, .int .i64 d, .string t, .bool b, .int .i64 f] 41) 41 [.int .i64 0, .int .i64 0, .int .i64 0, .string ⟨#[]⟩, .bool false, .int .i64 0]
  have hB := ball (ball (Below.refl _ w) (.cells #[.int .i64 k, .int .i64 n, .int .i64 d, .string t, .bool b, .int .i64 f] 41)) (.cells #[.int .i64 0, .int .i64 0, .int .i64 0, .string ⟨#[]⟩, .bool false, .int .i64 0] 41)
  go_enter Tryz.func74, Tryz.ntmps74
  go_upto_region 1 with fail
  generalize (w.alloc (.cells #[.int .i64 k, .int .i64 n, .int .i64 d, .string t, .bool b, .int .i64 f] 41)).alloc (.cells #[.int .i64 0, .int .i64 0, .int .i64 0, .string ⟨#[]⟩, .bool false, .int .i64 0] 41) = W0 at *
  obtain ⟨c0, c1, c2, c3, c4, c5⟩ := pA.f6
  go_wp2_with fail
  refine (C _).mono ?_
  rintro e w1 ⟨rfl, hb⟩
  have qA := (AtL.below hb pA).range
  have qR := AtL.below hb pR
  have hB1 := below_end hB hb
  have tR : w1.there (w.heap.size + 1) 0 (#[.int .i64 k, .int .i64 n, .int .i64 d, .string t, .bool b, .int .i64 f] : Array Value).size := qR.there
  clear c0 c1 c2 c3 c4 c5 pA pR hB hb C
  have one6 : (#[.int .i64 k, .int .i64 n, .int .i64 d, .string t, .bool b, .int .i64 f] : Array Value).all (·.oneCell') = true := by simp [Value.oneCell']
  go_wp2_with (first
    | ((with_reducible refine wpList_load_mid (cs := [.int .i64 k, .int .i64 n, .int .i64 d, .string t, .bool b, .int .i64 f]) ?_ 41 (.tmp 1) ?_ w.heap.size 0 ?_ _ ?_ Tryz.underlying41 ?_ ?_ ?_); rfl; rfl; rfl; exact qA; rfl; kernel_rfl)
    | ((with_reducible refine wpList_store_mid ?_ 41 (.tmp 2) (.tmp 7) ?_ (w.heap.size + 1) 0 #[.int .i64 k, .int .i64 n, .int .i64 d, .string t, .bool b, .int .i64 f] ?_ ?_ ?_ ?_ ?_ ?_); rfl; rfl; rfl; rfl; exact tR; kernel_rfl; exact one6))
  have rR2 := AtL.setAll qR (vs := [.int .i64 k, .int .i64 n, .int .i64 d, .string t, .bool b, .int .i64 f]) rfl
  refine bodyPost_ret (v := .agg [.int .i64 k, .int .i64 n, .int .i64 d, .string t, .bool b, .int .i64 f].toArray) (results_cell (by rfl) _ _ (w.heap.size + 1) [.int .i64 k, .int .i64 n, .int .i64 d, .string t, .bool b, .int .i64 f] _ (by rfl) rR2.range Tryz.underlying41 rfl (by kernel_rfl)) rfl ⟨rfl, ?_⟩
  exact bset hB1 (by omega) _ _
set_option maxHeartbeats 1600000 in
theorem r2show_1 (n d : Int) (t : ByteArray) (b : Bool) (f : Int) (w : World) (hr : Wv.right 1 n d t b f = true) (h1 : -9223372036854775808 ≤ n) (h2 : n ≤ 9223372036854775807) (h3 : -9223372036854775808 ≤ d) (h4 : d ≤ 9223372036854775807) (C : ∀ w, Calls Tryz.prog 101 #[.agg #[.int .i64 1, .int .i64 n, .int .i64 d, .string t, .bool b, .int .i64 f]] w fun e w' => e = .returned (.bool (Wv.right 1 n d t b f)) ∧ Below w.heap.size w w') :
    Calls Tryz.prog 48 #[.agg #[.int .i64 1, .int .i64 n, .int .i64 d, .string t, .bool b, .int .i64 f]] w fun e w' => e = .returned (.string ⟨(Wnum.txt (Wnum.cN n d) (Wnum.cD n d).toNat).toArray⟩) ∧ Below w.heap.size w w' := by
  have O := fun w => r2of_any 1 n d t b f w hr C
  have X := fun w => rtext_any n d w h1 h2 h3 h4
  generalize Wnum.txt (Wnum.cN n d) (Wnum.cD n d).toNat = lt at *
  have pA := AtL.new0 w 41 [.int .i64 1, .int .i64 n, .int .i64 d, .string t, .bool b, .int .i64 f]
  have hB := ball (Below.refl _ w) (.cells #[.int .i64 1, .int .i64 n, .int .i64 d, .string t, .bool b, .int .i64 f] 41)
  clear hr C
  go_enter Tryz.func48, Tryz.ntmps48
  go_upto_region 1 with fail
  generalize w.alloc (.cells #[.int .i64 1, .int .i64 n, .int .i64 d, .string t, .bool b, .int .i64 f] 41) = W0 at *
  have rA := pA.range
  go_wp2_with ((with_reducible refine wpList_load_mid (cs := [.int .i64 1, .int .i64 n, .int .i64 d, .string t, .bool b, .int .i64 f]) ?_ 41 (.tmp 1) ?_ w.heap.size 0 ?_ _ ?_ Tryz.underlying41 ?_ ?_ ?_); rfl; rfl; rfl; exact rA; rfl; kernel_rfl)
  refine (O _).mono ?_
  rintro e w1 ⟨rfl, hb⟩
  have qA := AtL.below hb pA
  have hB1 := below_end hB hb
  have tA : w1.there w.heap.size 0 (#[.int .i64 1, .int .i64 n, .int .i64 d, .string t, .bool b, .int .i64 f] : Array Value).size := qA.there
  have one6 : (#[.int .i64 1, .int .i64 n, .int .i64 d, .string t, .bool b, .int .i64 f] : Array Value).all (·.oneCell') = true := by simp [Value.oneCell']
  have sA := AtL.setAll qA (vs := [.int .i64 1, .int .i64 n, .int .i64 d, .string t, .bool b, .int .i64 f]) rfl
  have hB2 := bset hB1 (Nat.le_refl _) [.int .i64 1, .int .i64 n, .int .i64 d, .string t, .bool b, .int .i64 f] 0
  clear pA hB rA O hb qA hB1
  go_upto_region 2 with ((with_reducible refine wpList_store_mid ?_ 41 (.tmp 1) (.tmp 6) ?_ w.heap.size 0 #[.int .i64 1, .int .i64 n, .int .i64 d, .string t, .bool b, .int .i64 f] ?_ ?_ ?_ ?_ ?_ ?_); rfl; rfl; rfl; rfl; exact tA; kernel_rfl; exact one6)
  generalize w1.setCells w.heap.size 0 (#[.int .i64 1, .int .i64 n, .int .i64 d, .string t, .bool b, .int .i64 f] : Array Value).toList = W2 at *
  obtain ⟨c0, c1, c2, c3, c4, c5⟩ := sA.f6
  clear tA one6
  go_wp2_with fail
  refine (X _).mono ?_
  rintro e w3 ⟨rfl, hb⟩
  have hB3 := below_end hB2 hb
  go_wp2
  go_ret
  exact ⟨rfl, hB3⟩
set_option maxHeartbeats 1600000 in
theorem r2show_3 (n d : Int) (t : ByteArray) (b : Bool) (f : Int) (w : World) (hr : Wv.right 3 n d t b f = true) (C : ∀ w, Calls Tryz.prog 101 #[.agg #[.int .i64 3, .int .i64 n, .int .i64 d, .string t, .bool b, .int .i64 f]] w fun e w' => e = .returned (.bool (Wv.right 3 n d t b f)) ∧ Below w.heap.size w w') :
    Calls Tryz.prog 48 #[.agg #[.int .i64 3, .int .i64 n, .int .i64 d, .string t, .bool b, .int .i64 f]] w fun e w' => e = .returned (.string ⟨(if b then [84, 82, 85, 69] else [70, 65, 76, 83, 69] : List UInt8).toArray⟩) ∧ Below w.heap.size w w' := by
  have O := fun w => r2of_any 3 n d t b f w hr C
  have X := fun w => rtruth_any b w
  generalize (if b then [84, 82, 85, 69] else [70, 65, 76, 83, 69] : List UInt8) = lt at *
  have pA := AtL.new0 w 41 [.int .i64 3, .int .i64 n, .int .i64 d, .string t, .bool b, .int .i64 f]
  have hB := ball (Below.refl _ w) (.cells #[.int .i64 3, .int .i64 n, .int .i64 d, .string t, .bool b, .int .i64 f] 41)
  clear hr C
  go_enter Tryz.func48, Tryz.ntmps48
  go_upto_region 1 with fail
  generalize w.alloc (.cells #[.int .i64 3, .int .i64 n, .int .i64 d, .string t, .bool b, .int .i64 f] 41) = W0 at *
  have rA := pA.range
  go_wp2_with ((with_reducible refine wpList_load_mid (cs := [.int .i64 3, .int .i64 n, .int .i64 d, .string t, .bool b, .int .i64 f]) ?_ 41 (.tmp 1) ?_ w.heap.size 0 ?_ _ ?_ Tryz.underlying41 ?_ ?_ ?_); rfl; rfl; rfl; exact rA; rfl; kernel_rfl)
  refine (O _).mono ?_
  rintro e w1 ⟨rfl, hb⟩
  have qA := AtL.below hb pA
  have hB1 := below_end hB hb
  have tA : w1.there w.heap.size 0 (#[.int .i64 3, .int .i64 n, .int .i64 d, .string t, .bool b, .int .i64 f] : Array Value).size := qA.there
  have one6 : (#[.int .i64 3, .int .i64 n, .int .i64 d, .string t, .bool b, .int .i64 f] : Array Value).all (·.oneCell') = true := by simp [Value.oneCell']
  have sA := AtL.setAll qA (vs := [.int .i64 3, .int .i64 n, .int .i64 d, .string t, .bool b, .int .i64 f]) rfl
  have hB2 := bset hB1 (Nat.le_refl _) [.int .i64 3, .int .i64 n, .int .i64 d, .string t, .bool b, .int .i64 f] 0
  clear pA hB rA O hb qA hB1
  go_upto_region 2 with ((with_reducible refine wpList_store_mid ?_ 41 (.tmp 1) (.tmp 6) ?_ w.heap.size 0 #[.int .i64 3, .int .i64 n, .int .i64 d, .string t, .bool b, .int .i64 f] ?_ ?_ ?_ ?_ ?_ ?_); rfl; rfl; rfl; rfl; exact tA; kernel_rfl; exact one6)
  generalize w1.setCells w.heap.size 0 (#[.int .i64 3, .int .i64 n, .int .i64 d, .string t, .bool b, .int .i64 f] : Array Value).toList = W2 at *
  obtain ⟨c0, c1, c2, c3, c4, c5⟩ := sA.f6
  clear tA one6
  go_wp2_with fail
  refine (X _).mono ?_
  rintro e w3 ⟨rfl, rfl⟩
  go_wp2
  go_ret
  exact ⟨rfl, hB2⟩
theorem rnames_any (w : World) : Calls Tryz.prog 77 #[] w fun e w' => e = .returned (.slice (some ⟨w.heap.size, 0, none⟩) 9 9) ∧ AtL w' w.heap.size fltR ∧ Below w.heap.size w w' := by
  go_enter Tryz.func77, Tryz.ntmps77
  go_wp2
  go_ret
  exact ⟨rfl, AtL.new0 w _ _, ball (Below.refl _ w) _⟩
set_option maxHeartbeats 1600000 in
theorem r2show_4 (n d : Int) (t : ByteArray) (b : Bool) (f : Int) (w : World) (hr : Wv.right 4 n d t b f = true) (hf1 : 1 ≤ f) (hf8 : f ≤ 8) (C : ∀ w, Calls Tryz.prog 101 #[.agg #[.int .i64 4, .int .i64 n, .int .i64 d, .string t, .bool b, .int .i64 f]] w fun e w' => e = .returned (.bool (Wv.right 4 n d t b f)) ∧ Below w.heap.size w w') :
    Calls Tryz.prog 48 #[.agg #[.int .i64 4, .int .i64 n, .int .i64 d, .string t, .bool b, .int .i64 f]] w fun e w' => e = .returned (.string ⟨(fNames.getD f.toNat []).toArray⟩) ∧ Below w.heap.size w w' := by
  have O := fun w => r2of_any 4 n d t b f w hr C
  have X := fun w => rnames_any w
  have hfn : fltR[f.toNat]? = some (.string ⟨(fNames.getD f.toNat []).toArray⟩) := by
    unfold fltR
    rw [List.getElem?_map, List.getD_eq_getElem?_getD, List.getElem?_eq_getElem (by show f.toNat < 9; omega)]
    rfl
  generalize fNames.getD f.toNat [] = q at *
  have pA := AtL.new0 w 41 [.int .i64 4, .int .i64 n, .int .i64 d, .string t, .bool b, .int .i64 f]
  have hB := ball (Below.refl _ w) (.cells #[.int .i64 4, .int .i64 n, .int .i64 d, .string t, .bool b, .int .i64 f] 41)
  clear hr C
  go_enter Tryz.func48, Tryz.ntmps48
  go_upto_region 1 with fail
  generalize w.alloc (.cells #[.int .i64 4, .int .i64 n, .int .i64 d, .string t, .bool b, .int .i64 f] 41) = W0 at *
  have rA := pA.range
  go_wp2_with ((with_reducible refine wpList_load_mid (cs := [.int .i64 4, .int .i64 n, .int .i64 d, .string t, .bool b, .int .i64 f]) ?_ 41 (.tmp 1) ?_ w.heap.size 0 ?_ _ ?_ Tryz.underlying41 ?_ ?_ ?_); rfl; rfl; rfl; exact rA; rfl; kernel_rfl)
  refine (O _).mono ?_
  rintro e w1 ⟨rfl, hb⟩
  have qA := AtL.below hb pA
  have hB1 := below_end hB hb
  have tA : w1.there w.heap.size 0 (#[.int .i64 4, .int .i64 n, .int .i64 d, .string t, .bool b, .int .i64 f] : Array Value).size := qA.there
  have one6 : (#[.int .i64 4, .int .i64 n, .int .i64 d, .string t, .bool b, .int .i64 f] : Array Value).all (·.oneCell') = true := by simp [Value.oneCell']
  have sA := AtL.setAll qA (vs := [.int .i64 4, .int .i64 n, .int .i64 d, .string t, .bool b, .int .i64 f]) rfl
  have hB2 := bset hB1 (Nat.le_refl _) [.int .i64 4, .int .i64 n, .int .i64 d, .string t, .bool b, .int .i64 f] 0
  clear pA hB rA O hb qA hB1
  go_upto_region 2 with ((with_reducible refine wpList_store_mid ?_ 41 (.tmp 1) (.tmp 6) ?_ w.heap.size 0 #[.int .i64 4, .int .i64 n, .int .i64 d, .string t, .bool b, .int .i64 f] ?_ ?_ ?_ ?_ ?_ ?_); rfl; rfl; rfl; rfl; exact tA; kernel_rfl; exact one6)
  generalize w1.setCells w.heap.size 0 (#[.int .i64 4, .int .i64 n, .int .i64 d, .string t, .bool b, .int .i64 f] : Array Value).toList = W2 at *
  obtain ⟨c0, c1, c2, c3, c4, c5⟩ := sA.f6
  clear tA one6
  go_wp2_with fail
  refine (X _).mono ?_
  rintro e w3 ⟨rfl, pF, hb⟩
  have hB3 := below_end hB2 hb
  have qf := pF.2.1 f.toNat _ hfn
  obtain ⟨c0, c1, c2, c3, c4, c5⟩ := (AtL.below hb sA).f6
  go_wp2
  go_ret
  exact ⟨rfl, hB3⟩
def TX (av : Option Addr) (cap : Nat) (L : List Wt.Nd) (f : Nat) : Prop := ∀ (p s d : Nat) (w : World), Wt.one f (L.drop p) = some (s, d) → RdN w av L →
  Calls Tryz.prog 29 #[.slice av L.length cap, .int .i64 p] w fun e w' => e = .returned (.string ⟨(pr f 0 (L.drop p)).1.toArray⟩) ∧ Below w.heap.size w w'
def PX (av : Option Addr) (cap : Nat) (L : List Wt.Nd) (f : Nat) : Prop := ∀ (p s d : Nat) (least : Int) (w : World), Wt.one f (L.drop p) = some (s, d) → 0 ≤ least → least ≤ 7 → RdN w av L →
  Calls Tryz.prog 50 #[.slice av L.length cap, .int .i64 p, .int .i64 (least + 1)] w fun e w' => e = .returned (.string ⟨(pr f least (L.drop p)).1.toArray⟩) ∧ Below w.heap.size w w'
theorem one_lt {f p : Nat} {L : List Wt.Nd} {s d : Nat} (h : Wt.one f (L.drop p) = some (s, d)) : p < L.length := by
  by_cases hp : p < L.length
  · exact hp
  · rw [List.drop_eq_nil_of_le (by omega)] at h
    cases f <;> cases h
theorem tgh_pos {x : Wt.Nd} (h : Wt.right x = true) : 0 ≤ tgh x ∧ tgh x ≤ 7 := by
  rcases knd_tgh (right_knd h) with ⟨h7, -⟩ | ⟨h56, -⟩ | ⟨h05, -⟩ <;> omega
theorem pr_least {f p : Nat} {L : List Wt.Nd} {s d : Nat} (h : Wt.one f (L.drop p) = some (s, d)) (hp : p < L.length) (hx : Wt.right L[p] = true) (least : Int) : (pr f least (L.drop p)).1 = if least ≤ tgh L[p] then (pr f 0 (L.drop p)).1 else 40 :: (pr f 0 (L.drop p)).1 ++ [41] := by
  have hd := List.drop_eq_getElem_cons hp
  rw [hd] at h ⊢
  cases f with
  | zero => cases h
  | succ f =>
    simp only [pr]
    rw [if_pos (tgh_pos hx).1]
    split <;> rfl
theorem pr_len {f : Nat} {l : List Wt.Nd} {s d : Nat} (h : Wt.one f l = some (s, d)) (least : Int) (hl : l.length ≤ 256) : (pr f least l).1.length ≤ 256000 := by
  have h1 := (pr_ok f l s d h least).2
  have h2 := one_le _ _ _ _ h
  omega
set_option maxRecDepth 100000 in
set_option maxHeartbeats 1600000 in
theorem rpart_any (av : Option Addr) (cap : Nat) (L : List Wt.Nd) (hc : Wt.check L = 0) (f : Nat) (T : TX av cap L f) : PX av cap L f := by
  intro p s d least w h h0 h7 hr
  have hp := one_lt h
  have hx := check_right hc p hp
  obtain ⟨bb, off, rfl, -⟩ := hr p hp
  have HR : Hid (RdN w (some ⟨bb, off, none⟩) L) := hr
  have TT := fun w hr => T p s d w h hr
  have E := pr_least h hp hx least
  have hlen := pr_len h 0 (by have := (check_zero hc).1; rw [List.length_drop]; omega)
  have B := fun w => rbinds_any L[p] w hx
  have hRX := fun (w : World) (hr : RdN w (some ⟨bb, off, none⟩) L) => hr.at p hp
  generalize (pr f 0 (L.drop p)).1 = lt at *
  rw [E]
  generalize L[p] = x at *
  obtain ⟨u, hu⟩ : ∃ u : ByteArray, (⟨lt.toArray⟩ : ByteArray) = u := ⟨_, rfl⟩
  have us : (u.size : Int) ≤ 256000 := by rw [← hu]; show ((lt.toArray.size : Nat) : Int) ≤ 256000; simp; omega
  have HU : Hid (⟨lt.toArray⟩ = u) := hu
  rw [hu] at TT
  have T0 := TT w hr
  clear T TT hr h E hu hlen hc
  have hpi : (p : Int) < (L.length : Int) := by omega
  by_cases hl : least ≤ tgh x
  · have hli : ¬ tgh x + 1 < least + 1 := by omega
    rw [if_pos hl, HU.out]
    go_enter Tryz.func50, Tryz.ntmps50
    go_wp2_with fail
    refine T0.mono ?_
    rintro e w1 ⟨rfl, hb⟩
    have hx1 := hRX w1 (HR.out.below hb)
    go_wp2_with ((with_reducible refine wpList_load_mid (cs := nd20 x) ?_ 45 (.tmp 13) ?_ (bb) (off + p * 20) ?_ _ ?_ Tryz.underlying45 ?_ ?_ ?_); rfl; rfl; rfl; exact hx1; rfl; kernel_rfl)
    refine (B _).mono ?_
    rintro e w2 ⟨rfl, hb2⟩
    have hB := below_end hb hb2
    go_wp2
    go_ret
    exact ⟨rfl, hB⟩
  · have hli : tgh x + 1 < least + 1 := by omega
    rw [if_neg hl]
    go_enter Tryz.func50, Tryz.ntmps50
    go_wp2_with fail
    refine T0.mono ?_
    rintro e w1 ⟨rfl, hb⟩
    have hx1 := hRX w1 (HR.out.below hb)
    go_wp2_with ((with_reducible refine wpList_load_mid (cs := nd20 x) ?_ 45 (.tmp 13) ?_ (bb) (off + p * 20) ?_ _ ?_ Tryz.underlying45 ?_ ?_ ?_); rfl; rfl; rfl; exact hx1; rfl; kernel_rfl)
    refine (B _).mono ?_
    rintro e w2 ⟨rfl, hb2⟩
    have hB := below_end hb hb2
    go_wp2
    go_ret
    refine ⟨congrArg (fun x => Ending.returned (Value.string x)) ?_, hB⟩
    rw [← HU.out, show (⟨#[40]⟩ : ByteArray) = ⟨[40].toArray⟩ from rfl, show (⟨#[41]⟩ : ByteArray) = ⟨[41].toArray⟩ from rfl, ba_cat, ba_cat]
    rfl
theorem AtL.sub {W : World} {k : Nat} {us : List Value} (h : AtL W k us) (o : Nat) (vs : List Value) (hv : ∀ j v, vs[j]? = some v → us[o + j]? = some v) : W.rangeAt k o vs := fun j v hj => h.2.1 (o + j) v (hv j v hj)
theorem nd_a {W : World} {k : Nat} {x : Wt.Nd} (h : AtL W k (nd20 x)) : W.rangeAt k 10 (rf5 x.a) := h.sub 10 _ (fun j v hv => by
  match j, hv with
  | 0, hv => exact hv
  | 1, hv => exact hv
  | 2, hv => exact hv
  | 3, hv => exact hv
  | 4, hv => exact hv
  | j + 5, hv => simp [rf5] at hv)
theorem nd_b {W : World} {k : Nat} {x : Wt.Nd} (h : AtL W k (nd20 x)) : W.rangeAt k 15 (rf5 x.b) := h.sub 15 _ (fun j v hv => by
  match j, hv with
  | 0, hv => exact hv
  | 1, hv => exact hv
  | 2, hv => exact hv
  | 3, hv => exact hv
  | 4, hv => exact hv
  | j + 5, hv => simp [rf5] at hv)
end Go.Proofs.YtlggnpohhahdlaaGreatDoor
