/- Rows of bytes that a call makes; the reference's Quote. -/
import Derived.Test.YtjkohkhngeioiaaDoorLText
import Derived.Laws.IdiomStrings
import Derived.Lib.AppendStr
import Derived.Laws.BytesArg
import Derived.OwnWalk
import Derived.Laws.OwnMore
namespace Go.Proofs.YtjkohkhngeioiaaDoor
open Go.Shelf Go.RowKit
set_option linter.unusedVariables false

/-- Bytes that a call has made. -/
abbrev OwnB (w : World) (base : Nat) (v : Value) (l : List UInt8) : Prop := w.ownsRow base 5 1 v l.length (Lib.byteCells l)
theorem byteInfo : (Tryd.prog.info? 5).map (fun i => (i.zero, i.size, i.bytes)) = some (some (.int .u8 0), 1, 1) := by kernel_rfl
theorem ownB_below {B : Nat} {v : Value} {l : List UInt8} {w w' : World} (h : OwnB w B v l) (hb : Below w.heap.size w w') : OwnB w' B v l :=
  h.kept (row := none) ⟨hb.os, hb.tape, hb.output, hb.size, fun k hk _ => hb.block k hk⟩ (by cases v.ownBlock <;> simp)
theorem ownB_snoc {w : World} {B : Nat} {v : Value} {l : List UInt8} {c : UInt8} {n : Nat} (h : w.ownsRow B 5 1 v (l.length + 1) (Lib.byteCells l ++ [.int .u8 ((c.toNat : Nat) : Int)])) : OwnB w B v (l ++ [c]) := by
  show w.ownsRow B 5 1 v (l ++ [c]).length (Lib.byteCells (l ++ [c]))
  rw [List.length_append, Lib.byteCells_append]
  exact h
/-- A row of bytes as a text. -/
theorem ownB_text {w : World} {B : Nat} {v : Value} {l : List UInt8} (h : OwnB w B v l) : (convert 45 9 v).run Tryd.prog w = .ok (.string ⟨l.toArray⟩) w := by
  rcases h.2 with ⟨rfl, hn⟩ | ⟨g, cap, cur, rfl, _⟩
  · obtain rfl := List.eq_nil_of_length_eq_zero hn
    exact run_convert_bytes_nil (P := Tryd.prog) w 45 5 Tryd.underlying45 Tryd.underlying5 0 0 9 Tryd.underlying9
  · exact run_convert_bytes_back (P := Tryd.prog) w 45 9 5 ⟨g, 0, none⟩ cap l Tryd.underlying45 Tryd.underlying5 Tryd.underlying9 (fun j hj => by
      have := h.cells (g := g) rfl j (.int .u8 ((l[j]).toNat : Nat)) (by simp [Lib.byteCells, hj])
      exact this)
theorem cell_one_new (w : World) (a : Value) (t : TypeId) : ∀ j u, [a][j]? = some u → (w.alloc (.cells #[a] t)).cell? ((⟨w.heap.size, 0, none⟩ : Addr).add j) = some u := by
  intro j u hj
  match j, hj with
  | 0, hj => simp at hj; subst hj; simp [Addr.add]
  | j + 1, hj => simp at hj
theorem grown_below {w W w' : World} {B : Nat} {v : Value} {n : Nat} {xs : List Value} {o : Obj} (hb : Below B w W) (hB : B ≤ W.heap.size) (hown : W.ownsRow B 5 1 v n xs) (hg : (W.alloc o).grownBy w' v.ownBlock) : Below B w w' :=
  (hb.alloc hB o).grown hg (by simp; omega) (fun k hk => (hown.lt k hk).1)

set_option maxHeartbeats 1600000 in
theorem quote_any (b : ByteArray) (w : World) (hs : b.size ≤ 1048576) : Calls Tryd.prog 27 #[.string b] w fun e w' => e = .returned (.string ⟨(34 :: (Wlx.dbl b.data.toList ++ [34])).toArray⟩) ∧ Below w.heap.size w w' := by
  obtain ⟨i0, hi, hz0, hz1, hz2⟩ := info_parts byteInfo
  have hbl : Hid (b.data.toList.length = b.size) := (rfl : b.data.toList.length = b.size)
  have own0 : OwnB w w.heap.size (.slice none 0 0) [] := World.ownsRow_nil _ _ _ _
  go_enter Tryd.func27, Tryd.ntmps27
  go_wp2_with (at_builtin; refine wpList_append_own _ rfl _ _ 45 rfl w.heap.size 5 i0 (.int .u8 0) 1 1 Tryd.underlying45 hi hz0 hz1 hz2 rfl (by decide) _ _ _ rfl (own0.alloc _) ⟨w.heap.size, 0, none⟩ 1 1 [.int .u8 34] rfl rfl (cell_one_new _ _ _) (by intro u hu; simp at hu; subst hu; rfl) (by unfold maxLen; simp) (by simp) (by simp) ?_)
  intro v1 w1 hown1 hgrow1 _
  have hb1 := grown_below (Below.refl _ w) (Nat.le_refl _) own0 hgrow1
  have own1 : OwnB w1 w.heap.size v1 ([] ++ [34]) := ownB_snoc (n := 0) hown1
  have HO1 : Hid (OwnB w1 w.heap.size v1 (34 :: Wlx.dbl (b.data.toList.take 0))) := own1
  clear hown1 hgrow1 own1 own0
  go_wp2_with fail
  go_loopg [3, 4] (b.size) (fun gk x y wr => ∃ i : Nat, y = .int .i64 i ∧ gk = b.size - i ∧ i ≤ b.size ∧ Hid (OwnB wr w.heap.size x (34 :: Wlx.dbl (b.data.toList.take i))) ∧ Below w.heap.size w wr)
  case atStart => exact ⟨0, rfl, rfl, Nat.zero_le _, HO1, hb1⟩
  case round =>
    clear HO1 hb1
    obtain ⟨i, rfl, hg, hi1, HO, hb⟩ := hrel
    have sw := hb.size
    by_cases hlt : i < b.size
    · have hli : (i : Int) < (b.size : Int) := by omega
      have hil : i < b.data.toList.length := hlt
      have etk : b.data.toList.take (i + 1) = b.data.toList.take i ++ [b[i]] := List.take_succ_eq_append_getElem hil
      have hdl : (Wlx.dbl (b.data.toList.take i)).length ≤ 2097152 := by
        have := Wlx.dbl_length (b.data.toList.take i)
        rw [List.length_take] at this
        have := hbl.out
        omega
      obtain ⟨d, hd⟩ : ∃ d, Wlx.dbl (b.data.toList.take i) = d := ⟨_, rfl⟩
      have own := HO.out
      rw [hd] at own hdl
      obtain ⟨c, hc⟩ : ∃ c, b[i] = c := ⟨_, rfl⟩
      by_cases h34 : c = 34
      · have HD : Hid (Wlx.dbl (b.data.toList.take (i + 1)) = d ++ [34] ++ [34]) := by
          show _ = _
          rw [etk, Wlx.dbl_app, hd, hc, h34]; simp [Wlx.dbl]
        have eb : (((b[i]).toNat : Nat) : Int) = 34 := by rw [hc, h34]; rfl
        clear HO hd etk hc h34
        go_wp2_with (at_builtin; refine wpList_append_own _ rfl _ _ 45 rfl w.heap.size 5 i0 (.int .u8 0) 1 1 Tryd.underlying45 hi hz0 hz1 hz2 rfl (by decide) _ _ _ rfl (own.alloc _) ⟨wr.heap.size, 0, none⟩ 1 1 [.int .u8 34] rfl rfl (cell_one_new _ _ _) (by intro u hu; simp at hu; subst hu; rfl) (by unfold maxLen; simp; omega) (by simp; omega) (by simp; omega) ?_)
        intro v2 w2 hown2 hgrow2 _
        have hb2 := grown_below hb sw own hgrow2
        have own2 : OwnB w2 w.heap.size v2 (34 :: d ++ [34]) := ownB_snoc (n := 0) hown2
        have sw2 := hb2.size
        clear hown2 hgrow2 own
        have hl2 : (34 :: d ++ [34]).length ≤ 2097160 := by simp; omega
        obtain ⟨e2, he2⟩ : ∃ e2, 34 :: d ++ [34] = e2 := ⟨_, rfl⟩
        rw [he2] at own2 hl2
        have HD2 : Hid (34 :: Wlx.dbl (b.data.toList.take (i + 1)) = e2 ++ [34]) := by show _ = _; rw [HD.out, ← he2]; simp
        clear he2 HD
        go_wp2_with (at_builtin; refine wpList_append_own _ rfl _ _ 45 rfl w.heap.size 5 i0 (.int .u8 0) 1 1 Tryd.underlying45 hi hz0 hz1 hz2 rfl (by decide) _ _ _ rfl (own2.alloc _) ⟨w2.heap.size, 0, none⟩ 1 1 [.int .u8 34] rfl rfl (cell_one_new _ _ _) (by intro u hu; simp at hu; subst hu; rfl) (by unfold maxLen; simp; omega) (by simp; omega) (by simp; omega) ?_)
        intro v3 w3 hown3 hgrow3 _
        have hb3 := grown_below hb2 sw2 own2 hgrow3
        have HO3 : Hid (OwnB w3 w.heap.size v3 (34 :: Wlx.dbl (b.data.toList.take (i + 1)))) := by
          show OwnB _ _ _ _
          rw [HD2.out]; exact ownB_snoc (n := 0) hown3
        clear hown3 hgrow3 own2
        go_wp2_with fail
        go_roundg (b.size - (i + 1))
        case rel => exact ⟨i + 1, by simp, rfl, hlt, HO3, hb3⟩
        case measure => omega
      · have HD2 : Hid (34 :: Wlx.dbl (b.data.toList.take (i + 1)) = (34 :: d) ++ [c]) := by
          show _ = _
          have : Wlx.dbl [c] = [c] := by
            show (if c = 34 then 34 :: 34 :: Wlx.dbl [] else c :: Wlx.dbl []) = _
            rw [if_neg h34]; rfl
          rw [etk, Wlx.dbl_app, hd, hc, this]; rfl
        have eb0 : (((b[i]).toNat : Nat) : Int) = ((c.toNat : Nat) : Int) := by rw [hc]
        have eb : (((c.toNat : Nat) : Int) == 34) = false := by
          refine beq_eq_false_iff_ne.2 (fun e => h34 ?_)
          have : c.toNat = 34 := by omega
          exact UInt8.toNat_inj.1 this
        clear HO hd etk hc h34
        go_wp2_with (at_builtin; refine wpList_append_own _ rfl _ _ 45 rfl w.heap.size 5 i0 (.int .u8 0) 1 1 Tryd.underlying45 hi hz0 hz1 hz2 rfl (by decide) _ _ _ rfl (own.alloc _) ⟨wr.heap.size, 0, none⟩ 1 1 [.int .u8 ((c.toNat : Nat) : Int)] rfl rfl (cell_one_new _ _ _) (by intro u hu; simp at hu; subst hu; rfl) (by unfold maxLen; simp; omega) (by simp; omega) (by simp; omega) ?_)
        intro v3 w3 hown3 hgrow3 _
        have hb3 := grown_below hb sw own hgrow3
        have HO3 : Hid (OwnB w3 w.heap.size v3 (34 :: Wlx.dbl (b.data.toList.take (i + 1)))) := by
          show OwnB _ _ _ _
          rw [HD2.out]; exact ownB_snoc (n := 0) hown3
        clear hown3 hgrow3 own
        go_wp2_with fail
        go_roundg (b.size - (i + 1))
        case rel => exact ⟨i + 1, by simp, rfl, hlt, HO3, hb3⟩
        case measure => omega
    · have hli : ¬ (i : Int) < (b.size : Int) := by omega
      have own := HO.out
      rw [List.take_of_length_le (by have := hbl.out; omega)] at own
      have hdl : (Wlx.dbl b.data.toList).length ≤ 2097152 := by
        have := Wlx.dbl_length b.data.toList
        have := hbl.out
        omega
      obtain ⟨d, hd⟩ : ∃ d, Wlx.dbl b.data.toList = d := ⟨_, rfl⟩
      have HD : Hid (Wlx.dbl b.data.toList = d) := hd
      rw [hd] at own hdl
      clear HO hd
      go_wp2_with (at_builtin; refine wpList_append_own _ rfl _ _ 45 rfl w.heap.size 5 i0 (.int .u8 0) 1 1 Tryd.underlying45 hi hz0 hz1 hz2 rfl (by decide) _ _ _ rfl (own.alloc _) ⟨wr.heap.size, 0, none⟩ 1 1 [.int .u8 34] rfl rfl (cell_one_new _ _ _) (by intro u hu; simp at hu; subst hu; rfl) (by unfold maxLen; simp; omega) (by simp; omega) (by simp; omega) ?_)
      intro v2 w2 hown2 hgrow2 _
      have hb2 := grown_below hb sw own hgrow2
      have own2 : OwnB w2 w.heap.size v2 (34 :: d ++ [34]) := ownB_snoc (n := 0) hown2
      have hcv := ownB_text own2
      clear hown2 hgrow2 own own2
      go_wp2
      go_ret
      exact ⟨by rw [HD.out]; rfl, hb2⟩
end Go.Proofs.YtjkohkhngeioiaaDoor
