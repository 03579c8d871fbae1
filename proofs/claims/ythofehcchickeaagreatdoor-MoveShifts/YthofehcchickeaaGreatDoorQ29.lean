/- MWalkD, TRefA, TRefB. -/
import Derived.Test.YthofehcchickeaaGreatDoorQ28
import Derived.Deep.LoopGhost
namespace Go.Proofs.YthofehcchickeaaGreatDoor
open Go.RowKit Go.Shelf
set_option linter.unusedVariables false
set_option maxRecDepth 100000 in
set_option maxHeartbeats 4000000 in
theorem mshift_not (av : Option Addr) (cap : Nat) (L : List Wt.Nd) (x y : Int) (w : World) (hL : L.length ≤ 9223372036854775807) (hF : ∀ n ∈ L, Wt.FitN n) (hO : OpsAt w) (hr : RdN w av L) (hc : ¬ Wt.check L = 0) :
    Calls Tryz.prog 6 #[.slice av L.length cap, .int .i64 x, .int .i64 y] w fun e w' => e = .returned (.tuple #[.slice none 0 0, .int .i64 (Wt.check L)]) ∧ Below w.heap.size w w' := by
  have CK := check_any av cap L w hL hF hO hr
  generalize Wt.check L = c at *
  have hci : (c != 0) = true := by simp [hc]
  go_enter Tryz.func6, Tryz.ntmps6
  go_wp2_with fail
  refine CK.mono ?_
  rintro e w1 ⟨rfl, hb⟩
  go_wp2
  go_ret2
  exact ⟨rfl, hb⟩
theorem get_mid {A R : List Wt.Nd} {q : Wt.Nd} (i : Nat) (hi : i = A.length) (h : i < (A ++ q :: R).length) : (A ++ q :: R)[i] = q := by subst hi; simp
def mvI (x y : Int) (L : List Wt.Nd) (i : Nat) : List Wt.Nd := (L.take i).map (mvN x y) ++ L.drop i
theorem mvI_len (x y : Int) (L : List Wt.Nd) (i : Nat) : (mvI x y L i).length = L.length := by unfold mvI; simp; omega
set_option maxRecDepth 100000 in
set_option maxHeartbeats 8000000 in
theorem mshift_ok (av : Option Addr) (cap : Nat) (L : List Wt.Nd) (x y : Int) (w : World) (hF : ∀ n ∈ L, Wt.FitN n) (hO : OpsAt w) (hr : RdN w av L) (hc : Wt.check L = 0) :
    Calls Tryz.prog 6 #[.slice av L.length cap, .int .i64 x, .int .i64 y] w fun e w' => (∃ v, e = .returned (.tuple #[v, .int .i64 0]) ∧ OwnN w' w.heap.size v (L.map (mvN x y))) ∧ Below w.heap.size w w' := by
  obtain ⟨h256, d, hone, -⟩ := check_zero hc
  have hpos : 0 < L.length := by have := one_loc _ _ _ _ hone; omega
  have CK := check_any av cap L w (by omega) hF hO hr
  rw [hc] at CK
  have HR : Hid (RdN w av L) := hr
  have HF : Hid (∀ n ∈ L, Wt.FitN n) := hF
  have H256 : True → L.length ≤ 256 := fun _ => h256
  obtain ⟨i0, hi0, hz0, hz1, hz2⟩ := info_parts nodeInfo
  clear hone hc hF hr h256
  go_enter Tryz.func6, Tryz.ntmps6
  go_wp2_with fail
  refine CK.mono ?_
  rintro e w1 ⟨rfl, hb1⟩
  have hr1 : Hid (RdN w1 av L) := HR.out.below hb1
  clear CK HR
  go_wp2_with (refine wpList_make_full w1 rfl (.tmp 19) (.tmp 19) 22 rfl w1.heap.size 30 i0 _ 20 Tryz.underlying22 hi0 hz0 hz1 .i64 .i64 _ _ L.length rfl rfl rfl rfl (by rw [hz2]; have := H256 trivial; omega) (by have := H256 trivial; unfold maxLen; omega) (Nat.le_refl _) ?_)
  intro w2 own2 hg2
  obtain ⟨cur, hcur, hcs⟩ : ∃ cur, w2.heap[w1.heap.size]? = some (.cells cur 30 (0, 0)) ∧ cur.size = L.length * 20 := by
    rcases own2.2 with ⟨e, _⟩ | ⟨g, cap', cur, e, _, hg, _, _, hs, _⟩
    · cases e
    · simp only [Value.slice.injEq, Option.some.injEq, Addr.mk.injEq] at e
      obtain ⟨⟨rfl, -, -⟩, -, rfl⟩ := e
      exact ⟨cur, hg, hs⟩
  have hb2 : Below w1.heap.size w1 w2 := ⟨hg2.os, hg2.tape, hg2.output, hg2.size, fun k hk => hg2.block k hk (by simp)⟩
  have hr2 : RdN w2 av L := hr1.out.below hb2
  have hB2 := below_end hb1 hb2
  have hs1 := hb1.size
  clear own2 hg2 hr1 hb2 hi0 hz0 hz1 hz2 i0
  obtain ⟨bb, off, rfl, -⟩ := hr2 0 hpos
  have hrun := run_copyN w2 3 w1.heap.size L.length ⟨bb, off, none⟩ cap cur 30 (ndRow L) hcur (ndRow_length L) (hr2.flat _ rfl) (by rw [ndRow_length]; exact hcs) (ndRow_all L)
  have own3 : OwnN (w2.setRow w1.heap.size (ndRow L).toArray) w.heap.size (.slice (some ⟨w1.heap.size, 0, none⟩) L.length L.length) L := own_row hcur hs1 (by have := H256 trivial; unfold maxLen; omega)
  have hB3 : Below w.heap.size w (w2.setRow w1.heap.size (ndRow L).toArray) := row_below hB2 hs1 _
  go_upto_region 6 with fail
  generalize w2.setRow w1.heap.size (ndRow L).toArray = w3 at *
  have hlt3 : w1.heap.size < w3.heap.size := (World.ownsRow.lt own3 w1.heap.size rfl).2
  clear hr2 hcur hcs hB2 hrun cur
  generalize w1.heap.size = g at *
  have hown : Hid (OwnN (w3.alloc (.cells #[.int .i64 x, .int .i64 y] 50)) w.heap.size (.slice (some ⟨g, 0, none⟩) L.length L.length) (mvI x y L 0)) := OwnN.below own3 (ball (Below.refl _ _) _)
  have hway : AtL (w3.alloc (.cells #[.int .i64 x, .int .i64 y] 50)) w3.heap.size [.int .i64 x, .int .i64 y] := AtL.new0 _ _ _
  have hBl := ball hB3 (.cells #[.int .i64 x, .int .i64 y] 50)
  have hk3 : w.heap.size ≤ w3.heap.size := hB3.size
  clear own3 hB3
  go_upto_region 8 with fail
  generalize w3.alloc (.cells #[.int .i64 x, .int .i64 y] 50) = W at *
  generalize w3.heap.size = kw at *
  go_loopg [29] (L.length) (fun gk v wr => ∃ i : Nat, v = .int .i64 i ∧ gk = L.length - i ∧ i ≤ L.length ∧ Hid (OwnN wr w.heap.size (.slice (some ⟨g, 0, none⟩) L.length L.length) (mvI x y L i)) ∧ AtL wr kw [.int .i64 x, .int .i64 y] ∧ Below w.heap.size w wr)
  case atStart => exact ⟨0, rfl, by omega, Nat.zero_le _, hown, hway, hBl⟩
  case round =>
    clear hown hway hBl
    obtain ⟨i, rfl, hg, hi, HO, pW, hB⟩ := hrel
    by_cases hlt : i < L.length
    · have hli : (i : Int) < (L.length : Int) := by omega
      have hi0 : (0 : Int) ≤ (i : Int) := by omega
      have hwi : IntKind.i64.wrap ((i : Int) + 1) = (i : Int) + 1 := by rw [IntKind.wrap_i64]; have := H256 trivial; omega
      have hil : i < L.length := by omega
      have own := HO.out
      obtain ⟨q, hq⟩ : ∃ q, L[i] = q := ⟨_, rfl⟩
      have hsp : mvI x y L i = (L.take i).map (mvN x y) ++ q :: L.drop (i + 1) := by unfold mvI; rw [List.drop_eq_getElem_cons hil, hq]
      have hnx : mvI x y L (i + 1) = (L.take i).map (mvN x y) ++ mvN x y q :: L.drop (i + 1) := by
        unfold mvI
        rw [List.take_add_one, List.getElem?_eq_getElem hil, hq]
        simp
      have HNX : Hid (mvI x y L (i + 1) = (L.take i).map (mvN x y) ++ mvN x y q :: L.drop (i + 1)) := hnx
      rw [hsp] at own
      have hlen : L.length = ((L.take i).map (mvN x y) ++ q :: L.drop (i + 1)).length := by rw [← hsp, mvI_len]
      have hla : i = ((L.take i).map (mvN x y)).length := by simp; omega
      obtain ⟨c1, t1⟩ := own.at hlen i (by omega)
      have hqq := get_mid (A := (L.take i).map (mvN x y)) (R := L.drop (i + 1)) (q := q) i hla (by omega)
      rw [hqq] at c1
      have HOWN : Hid (OwnN wr w.heap.size (.slice (some ⟨g, 0, none⟩) L.length L.length) ((L.take i).map (mvN x y) ++ q :: L.drop (i + 1))) := own
      have HLEN : Hid (L.length = ((L.take i).map (mvN x y) ++ q :: L.drop (i + 1)).length) := hlen
      have HLA : Hid (i = ((L.take i).map (mvN x y)).length) := hla
      have hgw : g < wr.heap.size := (World.ownsRow.lt own g rfl).2
      have sT : (wr.alloc (.cells #[.int .i64 0, .int .i64 0, .int .i64 0, .int .i64 0, .string ⟨#[]⟩, .bool false, .int .i64 0, .int .i64 0, .string ⟨#[]⟩, .int .i64 0, .string ⟨#[]⟩, .int .i64 0, .int .i64 0, .bool false, .bool false, .string ⟨#[]⟩, .int .i64 0, .int .i64 0, .bool false, .bool false] 30)).there wr.heap.size 0 (nd20 q).toArray.size := (AtL.new0 wr 30 [.int .i64 0, .int .i64 0, .int .i64 0, .int .i64 0, .string ⟨#[]⟩, .bool false, .int .i64 0, .int .i64 0, .string ⟨#[]⟩, .int .i64 0, .string ⟨#[]⟩, .int .i64 0, .int .i64 0, .bool false, .bool false, .string ⟨#[]⟩, .int .i64 0, .int .i64 0, .bool false, .bool false]).there
      clear HO hsp hnx hlen hla own hqq hq t1
      go_upto_region 10 with (first | ((with_reducible refine wpList_load_mid (cs := nd20 q) ?_ 30 (.tmp 32) ?_ (g) (i * 20) ?_ _ ?_ Tryz.underlying30 ?_ ?_ ?_); rfl; rfl; rfl; exact c1; rfl; kernel_rfl) | ((with_reducible refine wpList_store_mid ?_ 30 (.tmp 12) (.tmp 33) ?_ (wr.heap.size) 0 (nd20 q).toArray ?_ ?_ ?_ ?_ ?_ ?_); rfl; rfl; rfl; rfl; exact sT; kernel_rfl; exact one20 _))
      have pN := (AtL.new0 wr 30 [.int .i64 0, .int .i64 0, .int .i64 0, .int .i64 0, .string ⟨#[]⟩, .bool false, .int .i64 0, .int .i64 0, .string ⟨#[]⟩, .int .i64 0, .string ⟨#[]⟩, .int .i64 0, .int .i64 0, .bool false, .bool false, .string ⟨#[]⟩, .int .i64 0, .int .i64 0, .bool false, .bool false]).setAll (vs := nd20 q) rfl
      have pW1 := (pW.alloc (.cells #[.int .i64 0, .int .i64 0, .int .i64 0, .int .i64 0, .string ⟨#[]⟩, .bool false, .int .i64 0, .int .i64 0, .string ⟨#[]⟩, .int .i64 0, .string ⟨#[]⟩, .int .i64 0, .int .i64 0, .bool false, .bool false, .string ⟨#[]⟩, .int .i64 0, .int .i64 0, .bool false, .bool false] 30)).farAll (b := wr.heap.size) (by have := pW.lt; omega) 0 (nd20 q)
      have hB1 := bset (ball hB (.cells #[.int .i64 0, .int .i64 0, .int .i64 0, .int .i64 0, .string ⟨#[]⟩, .bool false, .int .i64 0, .int .i64 0, .string ⟨#[]⟩, .int .i64 0, .string ⟨#[]⟩, .int .i64 0, .int .i64 0, .bool false, .bool false, .string ⟨#[]⟩, .int .i64 0, .int .i64 0, .bool false, .bool false] 30)) (k := wr.heap.size) (by have := hB.size; omega) (nd20 q) 0
      have HO1 : Hid (OwnN ((wr.alloc (.cells #[.int .i64 0, .int .i64 0, .int .i64 0, .int .i64 0, .string ⟨#[]⟩, .bool false, .int .i64 0, .int .i64 0, .string ⟨#[]⟩, .int .i64 0, .string ⟨#[]⟩, .int .i64 0, .int .i64 0, .bool false, .bool false, .string ⟨#[]⟩, .int .i64 0, .int .i64 0, .bool false, .bool false] 30)).setCells wr.heap.size 0 (nd20 q)) w.heap.size (.slice (some ⟨g, 0, none⟩) L.length L.length) ((L.take i).map (mvN x y) ++ q :: L.drop (i + 1))) := HOWN.out.below (bset (ball (Below.refl _ wr) _) (Nat.le_refl _) _ _)
      generalize (wr.alloc (.cells #[.int .i64 0, .int .i64 0, .int .i64 0, .int .i64 0, .string ⟨#[]⟩, .bool false, .int .i64 0, .int .i64 0, .string ⟨#[]⟩, .int .i64 0, .string ⟨#[]⟩, .int .i64 0, .int .i64 0, .bool false, .bool false, .string ⟨#[]⟩, .int .i64 0, .int .i64 0, .bool false, .bool false] 30)).setCells wr.heap.size 0 (nd20 q).toArray.toList = W1 at *
      generalize wr.heap.size = kn at *
      clear HOWN c1 sT pW hB
      obtain ⟨b0, b1, k0, k1⟩ := AtL.two pW1
      have rN := AtL.range pN
      have C := wnode_any x y q W1
      go_wp2_with ((with_reducible refine wpList_load_mid (cs := nd20 q) ?_ 30 (.tmp 12) ?_ (kn) 0 ?_ _ ?_ Tryz.underlying30 ?_ ?_ ?_); rfl; rfl; rfl; exact rN; rfl; kernel_rfl)
      refine C.mono ?_
      rintro e w4 ⟨rfl, hb4⟩
      have HO4 := HO1.out.below hb4
      have pW4 := AtL.below hb4 pW1
      have hB4 := below_end hB1 hb4
      obtain ⟨c4, t4⟩ := HO4.at HLEN.out i (by have := HLEN.out; omega)
      have u4 : w4.there g (i * 20) (nd20 (mvN x y q)).toArray.size := t4
      have HO5 : Hid (OwnN (w4.setCells g (i * 20) (nd20 (mvN x y q))) w.heap.size (.slice (some ⟨g, 0, none⟩) L.length L.length) (mvI x y L (i + 1))) := by
        show OwnN _ _ _ _
        rw [HNX.out]
        exact HO4.put HLEN.out i HLA.out (mvN x y q)
      have hwg : kw ≠ g := by omega
      have pW5 := pW4.farAll (b := g) (Ne.symm hwg) (i * 20) (nd20 (mvN x y q))
      have hB5 := bset hB4 (k := g) (by omega) (nd20 (mvN x y q)) (i * 20)
      clear HO4 HO1 pW4 hB4 c4 t4 C hb4 b0 b1 k0 k1 rN pN pW1 hB1
      go_wp2_with ((with_reducible refine wpList_store_mid ?_ 30 (.tmp 39) (.tmp 38) ?_ (g) (i * 20) (nd20 (mvN x y q)).toArray ?_ ?_ ?_ ?_ ?_ ?_); rfl; rfl; rfl; rfl; exact u4; kernel_rfl; exact one20 _)
      go_roundg (L.length - (i + 1))
      case rel => exact ⟨i + 1, by simp, rfl, by omega, HO5, pW5, hB5⟩
      case measure => omega
    · have hli : ¬ (i : Int) < (L.length : Int) := by omega
      have hin : Hid (i = L.length) := by show _ = _; omega
      have own := HO.out
      have e : mvI x y L i = L.map (mvN x y) := by unfold mvI; have := hin.out; rw [List.take_of_length_le (by omega), List.drop_eq_nil_of_le (by omega), List.append_nil]
      rw [e] at own
      have HOWN : Hid (OwnN wr w.heap.size (.slice (some ⟨g, 0, none⟩) L.length L.length) (L.map (mvN x y))) := own
      clear own e HO
      go_wp2
      go_ret2
      exact ⟨⟨_, rfl, HOWN.out⟩, hB⟩
open Go.RowKit
theorem r2plain_any (b : ByteArray) (w : World) (hs : b.size ≤ 9223372036854775807) : Calls Tryz.prog 135 #[.string b] w fun e w' => e = .returned (.bool (Wv.prts b.data.toList)) ∧ w = w' := by
  obtain ⟨R, hR⟩ : ∃ R, Wv.prts b.data.toList = R := ⟨_, rfl⟩
  have E0 : Hid (R = Wv.prts (b.data.toList.drop 0)) := hR.symm
  rw [hR]
  clear hR
  go_enter Tryz.func135, Tryz.ntmps135
  go_wp2_with fail
  go_loopg [3] (b.size) (fun gk x wr => ∃ j : Nat, x = .int .i64 j ∧ gk = b.size - j ∧ j ≤ b.size ∧ Hid (R = Wv.prts (b.data.toList.drop j)) ∧ wr = w)
  case atStart => exact ⟨0, rfl, rfl, Nat.zero_le _, E0, rfl⟩
  case round =>
    obtain ⟨j, rfl, hg, hj, HR, rfl⟩ := hrel
    by_cases hlt : j < b.size
    · have hli : (j : Int) < (b.size : Int) := by omega
      have hd := drop_at b j hlt
      have hp := prt_nat (b[j])
      by_cases c1 : ((b[j]).toNat : Int) < 32
      · have E : Hid (R = false) := by show _ = _; rw [HR.out, hd, Wv.prts_cons, hp, decide_eq_false (by omega)]; rfl
        clear HR hd hp
        go_wp2
        go_ret
        exact ⟨by rw [E.out]; rfl, rfl⟩
      · by_cases c2 : (126 : Int) < ((b[j]).toNat : Int)
        · have E : Hid (R = false) := by show _ = _; rw [HR.out, hd, Wv.prts_cons, hp, decide_eq_false (p := ((b[j]).toNat : Int) ≤ 126) (by omega)]; simp
          clear HR hd hp
          go_wp2
          go_ret
          exact ⟨by rw [E.out]; rfl, rfl⟩
        · have E : Hid (R = Wv.prts (b.data.toList.drop (j + 1))) := by show _ = _; rw [HR.out, hd, Wv.prts_cons, hp, decide_eq_true (by omega), decide_eq_true (by omega)]; rfl
          clear HR hd hp
          go_wp2_with fail
          go_roundg (b.size - (j + 1))
          case rel => exact ⟨j + 1, by simp, rfl, hlt, E, by first | trivial | rfl⟩
          case measure => omega
    · have hli : ¬ (j : Int) < (b.size : Int) := by omega
      have E : Hid (R = true) := by show _ = _; rw [HR.out, drop_end b j hlt]; rfl
      clear HR
      go_wp2
      go_ret
      exact ⟨by rw [E.out]; rfl, rfl⟩
theorem r2right_0 (n d : Int) (t : ByteArray) (b : Bool) (f : Int) (w : World) :
    Calls Tryz.prog 109 #[.agg #[.int .i64 0, .int .i64 n, .int .i64 d, .string t, .bool b, .int .i64 f]] w fun e w' => e = .returned (.bool (Wv.right 0 n d t b f)) ∧ Below w.heap.size w w' := by
  rw [← eqV_0]
  have hq := eqV_run 0 n d t b f 0 0 0 ⟨#[]⟩ false 0
  generalize eqV 0 n d t b f 0 0 0 ⟨#[]⟩ false 0 = R at *
  go_enter Tryz.func109, Tryz.ntmps109
  go_wp2
  go_ret
  exact ⟨rfl, by with_reducible repeat (first | exact Below.refl _ _ | refine below_drewN ?_ _ | refine Below.setCell ?_ (by first | (simp; done) | (simp; omega) | omega) _ | refine Below.drew ?_ | refine below_end ?_ (by assumption) | refine ball ?_ _)⟩
theorem r2right_1 (n d : Int) (t : ByteArray) (b : Bool) (f : Int) (w : World) (h1 : -9223372036854775808 ≤ n) (h2 : n ≤ 9223372036854775807) (h3 : -9223372036854775808 ≤ d) (h4 : d ≤ 9223372036854775807) :
    Calls Tryz.prog 109 #[.agg #[.int .i64 1, .int .i64 n, .int .i64 d, .string t, .bool b, .int .i64 f]] w fun e w' => e = .returned (.bool (Wv.right 1 n d t b f)) ∧ Below w.heap.size w w' := by
  rw [← eqV_1]
  have C := fun w => rright_any n d w h1 h2 h3 h4
  have hq := eqV_run 1 n d t b f 1 n d ⟨#[]⟩ false 0
  generalize eqV 1 n d t b f 1 n d ⟨#[]⟩ false 0 = R at *
  generalize Wnum.rightB n d = q at *
  have pA : AtL (w.alloc (.cells #[.int .i64 1, .int .i64 n, .int .i64 d, .string t, .bool b, .int .i64 f] 26)) w.heap.size [.int .i64 1, .int .i64 n, .int .i64 d, .string t, .bool b, .int .i64 f] := AtL.new0 w _ _
  cases q
  all_goals
    go_enter Tryz.func109, Tryz.ntmps109
    go_wp2_with fail
    refine (C _).mono ?_
    rintro e w1 ⟨rfl, hb⟩
    have pA1 := AtL.below hb pA
    obtain ⟨a0, a1, a2, a3, a4, a5⟩ := pA1.f6
    have hB1 := below_end (ball (Below.refl _ w) _) hb
    go_wp2
    go_ret
    exact ⟨by simp, hB1⟩
theorem r2right_2 (n d : Int) (t : ByteArray) (b : Bool) (f : Int) (w : World) (hs : t.size ≤ 9223372036854775807) :
    Calls Tryz.prog 109 #[.agg #[.int .i64 2, .int .i64 n, .int .i64 d, .string t, .bool b, .int .i64 f]] w fun e w' => e = .returned (.bool (Wv.right 2 n d t b f)) ∧ Below w.heap.size w w' := by
  rw [← eqV_2]
  have C := fun w => r2plain_any t w hs
  have hq := eqV_run 2 n d t b f 2 0 0 t false 0
  generalize eqV 2 n d t b f 2 0 0 t false 0 = R at *
  generalize Wv.prts t.data.toList = q at *
  by_cases hl : t.size ≤ 256
  · have hli : (t.size : Int) ≤ 256 := by omega
    rw [decide_eq_true hl]
    cases q
    all_goals
      go_enter Tryz.func109, Tryz.ntmps109
      go_wp2_with fail
      refine (C _).mono ?_
      rintro e w1 ⟨rfl, rfl⟩
      go_wp2
      go_ret
      exact ⟨by simp, by with_reducible repeat (first | exact Below.refl _ _ | refine below_drewN ?_ _ | refine Below.setCell ?_ (by first | (simp; done) | (simp; omega) | omega) _ | refine Below.drew ?_ | refine below_end ?_ (by assumption) | refine ball ?_ _)⟩
  · have hli : ¬ (t.size : Int) ≤ 256 := by omega
    rw [decide_eq_false hl]
    cases q
    all_goals
      go_enter Tryz.func109, Tryz.ntmps109
      go_wp2_with fail
      refine (C _).mono ?_
      rintro e w1 ⟨rfl, rfl⟩
      go_wp2
      go_ret
      exact ⟨by simp, by with_reducible repeat (first | exact Below.refl _ _ | refine below_drewN ?_ _ | refine Below.setCell ?_ (by first | (simp; done) | (simp; omega) | omega) _ | refine Below.drew ?_ | refine below_end ?_ (by assumption) | refine ball ?_ _)⟩
theorem r2right_3 (n d : Int) (t : ByteArray) (b : Bool) (f : Int) (w : World) :
    Calls Tryz.prog 109 #[.agg #[.int .i64 3, .int .i64 n, .int .i64 d, .string t, .bool b, .int .i64 f]] w fun e w' => e = .returned (.bool (Wv.right 3 n d t b f)) ∧ Below w.heap.size w w' := by
  rw [← eqV_3]
  have hq := eqV_run 3 n d t b f 3 0 0 ⟨#[]⟩ b 0
  generalize eqV 3 n d t b f 3 0 0 ⟨#[]⟩ b 0 = R at *
  go_enter Tryz.func109, Tryz.ntmps109
  go_wp2
  go_ret
  exact ⟨rfl, by with_reducible repeat (first | exact Below.refl _ _ | refine below_drewN ?_ _ | refine Below.setCell ?_ (by first | (simp; done) | (simp; omega) | omega) _ | refine Below.drew ?_ | refine below_end ?_ (by assumption) | refine ball ?_ _)⟩
theorem r2right_4 (n d : Int) (t : ByteArray) (b : Bool) (f : Int) (w : World) :
    Calls Tryz.prog 109 #[.agg #[.int .i64 4, .int .i64 n, .int .i64 d, .string t, .bool b, .int .i64 f]] w fun e w' => e = .returned (.bool (Wv.right 4 n d t b f)) ∧ Below w.heap.size w w' := by
  rw [← eqV_4]
  have hq := eqV_run 4 n d t b f 4 0 0 ⟨#[]⟩ false f
  generalize eqV 4 n d t b f 4 0 0 ⟨#[]⟩ false f = R at *
  unfold Wv.flt
  by_cases h1 : 1 ≤ f
  · by_cases h8 : f ≤ 8
    · rw [decide_eq_true h1, decide_eq_true h8]
      go_enter Tryz.func109, Tryz.ntmps109
      go_wp2
      go_ret
      exact ⟨by simp, by with_reducible repeat (first | exact Below.refl _ _ | refine below_drewN ?_ _ | refine Below.setCell ?_ (by first | (simp; done) | (simp; omega) | omega) _ | refine Below.drew ?_ | refine below_end ?_ (by assumption) | refine ball ?_ _)⟩
    · rw [decide_eq_true h1, decide_eq_false h8]
      go_enter Tryz.func109, Tryz.ntmps109
      go_wp2
      go_ret
      exact ⟨by simp, by with_reducible repeat (first | exact Below.refl _ _ | refine below_drewN ?_ _ | refine Below.setCell ?_ (by first | (simp; done) | (simp; omega) | omega) _ | refine Below.drew ?_ | refine below_end ?_ (by assumption) | refine ball ?_ _)⟩
  · rw [decide_eq_false h1]
    go_enter Tryz.func109, Tryz.ntmps109
    go_wp2
    go_ret
    exact ⟨by simp, by with_reducible repeat (first | exact Below.refl _ _ | refine below_drewN ?_ _ | refine Below.setCell ?_ (by first | (simp; done) | (simp; omega) | omega) _ | refine Below.drew ?_ | refine below_end ?_ (by assumption) | refine ball ?_ _)⟩
theorem r2right_n (k n d : Int) (t : ByteArray) (b : Bool) (f : Int) (w : World) (hk : k < 0 ∨ 4 < k) :
    Calls Tryz.prog 109 #[.agg #[.int .i64 k, .int .i64 n, .int .i64 d, .string t, .bool b, .int .i64 f]] w fun e w' => e = .returned (.bool (Wv.right k n d t b f)) ∧ Below w.heap.size w w' := by
  have E : Hid (Wv.right k n d t b f = false) := by
    show _ = _
    unfold Wv.right
    rw [if_neg (by omega), if_neg (by omega), if_neg (by omega), if_neg (by omega), if_neg (by omega)]
  rw [E.out]
  clear E
  have k0 : (k == 0) = false := by rw [beq_eq_false_iff_ne]; omega
  have k1 : (k == 1) = false := by rw [beq_eq_false_iff_ne]; omega
  have k2 : (k == 2) = false := by rw [beq_eq_false_iff_ne]; omega
  have k3 : (k == 3) = false := by rw [beq_eq_false_iff_ne]; omega
  have k4 : (k == 4) = false := by rw [beq_eq_false_iff_ne]; omega
  clear hk
  go_enter Tryz.func109, Tryz.ntmps109
  go_wp2
  go_ret
  exact ⟨rfl, by with_reducible repeat (first | exact Below.refl _ _ | refine below_drewN ?_ _ | refine Below.setCell ?_ (by first | (simp; done) | (simp; omega) | omega) _ | refine Below.drew ?_ | refine below_end ?_ (by assumption) | refine ball ?_ _)⟩
theorem r2right_any (v : Wt.Vl) (w : World) (hf : Wt.FitV v) :
    Calls Tryz.prog 109 #[.agg #[.int .i64 v.k, .int .i64 v.n, .int .i64 v.d, .string v.t, .bool v.b, .int .i64 v.f]] w fun e w' => e = .returned (.bool (Wv.right v.k v.n v.d v.t v.b v.f)) ∧ Below w.heap.size w w' := by
  obtain ⟨k, n, d, t, b, f⟩ := v
  obtain ⟨⟨h1, h2⟩, ⟨h3, h4⟩, hs⟩ := hf
  simp only at *
  by_cases k0 : k = 0
  · subst k0; exact r2right_0 n d t b f w
  by_cases k1 : k = 1
  · subst k1; exact r2right_1 n d t b f w h1 h2 h3 h4
  by_cases k2 : k = 2
  · subst k2; exact r2right_2 n d t b f w hs
  by_cases k3 : k = 3
  · subst k3; exact r2right_3 n d t b f w
  by_cases k4 : k = 4
  · subst k4; exact r2right_4 n d t b f w
  exact r2right_n k n d t b f w (by omega)
def latB (small : Bool) (c : UInt8) : Bool := Wlx.cap c || (small && Wlx.low c)
theorem latB_fn : latB false = Wlx.cap := by funext c; simp [latB]
theorem latB_sh : latB true = Wt.ltr := by funext c; simp [latB, Wt.ltr]
def latR (small : Bool) (j : Nat) (l : List UInt8) : Bool := (decide (0 < j) || latB small (l.headD 0) || l.isEmpty) && l.all (fun c => latB small c || Wlx.dig c)
theorem latR_succ (small : Bool) (j : Nat) (l : List UInt8) : latR small (j + 1) l = l.all (fun c => latB small c || Wlx.dig c) := by simp [latR]
theorem isNm_latR (small : Bool) (l : List UInt8) (h0 : 1 ≤ l.length) (h1 : l.length ≤ 16) : Wt.isNm (latB small) l = latR small 0 l := by
  unfold Wt.isNm latR
  cases l with
  | nil => simp at h0
  | cons c r => rw [decide_eq_true h0, decide_eq_true h1]; simp
theorem latR_cons (small : Bool) (j : Nat) (c : UInt8) (r : List UInt8) : latR small j (c :: r) = ((latB small c || (decide (0 < j) && Wlx.dig c)) && latR small (j + 1) r) := by
  rw [latR_succ]
  unfold latR
  simp only [List.headD_cons, List.isEmpty_cons, List.all_cons, Bool.or_false]
  cases decide (0 < j) <;> cases latB small c <;> cases Wlx.dig c <;> simp
set_option maxRecDepth 100000 in
set_option maxHeartbeats 3200000 in
theorem latin_any (small : Bool) (b : ByteArray) (w : World) (hs : b.size ≤ 9223372036854775807) :
    Calls Tryz.prog 79 #[.string b, .bool small] w fun e w' => e = .returned (.bool (Wt.isNm (latB small) b.data.toList)) ∧ w = w' := by
  have hl : b.data.toList.length = b.size := rfl
  by_cases h1 : (b.size : Int) < 1
  · have E : Hid (Wt.isNm (latB small) b.data.toList = false) := by
      show _ = _
      unfold Wt.isNm
      rw [hl, decide_eq_false (by omega)]; simp
    rw [E.out]
    clear E
    go_enter Tryz.func79, Tryz.ntmps79
    go_wp2
    go_ret
    exact ⟨rfl, rfl⟩
  by_cases h16 : (16 : Int) < (b.size : Int)
  · have E : Hid (Wt.isNm (latB small) b.data.toList = false) := by
      show _ = _
      unfold Wt.isNm
      rw [hl, decide_eq_false (p := b.size ≤ 16) (by omega)]; simp
    rw [E.out]
    clear E
    go_enter Tryz.func79, Tryz.ntmps79
    go_wp2
    go_ret
    exact ⟨rfl, rfl⟩
  obtain ⟨R, hR⟩ : ∃ R, Wt.isNm (latB small) b.data.toList = R := ⟨_, rfl⟩
  have E0 : Hid (R = latR small 0 (b.data.toList.drop 0)) := by
    show _ = _
    rw [← hR, List.drop_zero]
    exact isNm_latR small _ (by omega) (by omega)
  rw [hR]
  clear hR
  go_enter Tryz.func79, Tryz.ntmps79
  go_wp2_with fail
  go_loopg [5] (b.size) (fun gk x wr => ∃ j : Nat, x = .int .i64 j ∧ gk = b.size - j ∧ j ≤ b.size ∧ Hid (R = latR small j (b.data.toList.drop j)) ∧ wr = w)
  case atStart => exact ⟨0, rfl, rfl, Nat.zero_le _, E0, rfl⟩
  case round =>
    clear E0
    obtain ⟨j, rfl, hg, hj, HR, rfl⟩ := hrel
    by_cases hlt : j < b.size
    · have hli : (j : Int) < (b.size : Int) := by omega
      have hd := drop_at b j hlt
      have HR2 : Hid (R = ((latB small (b[j]) || (decide (0 < j) && Wlx.dig (b[j]))) && latR small (j + 1) (b.data.toList.drop (j + 1)))) := by show _ = _; rw [HR.out, hd, latR_cons]
      clear HR hd
      obtain ⟨T, hT⟩ : ∃ T, latR small (j + 1) (b.data.toList.drop (j + 1)) = T := ⟨_, rfl⟩
      have HT : Hid (T = latR small (j + 1) (b.data.toList.drop (j + 1))) := hT.symm
      rw [hT] at HR2
      clear hT
      unfold latB Wlx.cap Wlx.low Wlx.dig at HR2
      by_cases a1 : 65 ≤ ((b[j]).toNat : Int) <;> by_cases a2 : ((b[j]).toNat : Int) ≤ 90 <;> by_cases a3 : 97 ≤ ((b[j]).toNat : Int) <;> by_cases a4 : ((b[j]).toNat : Int) ≤ 122 <;> by_cases a5 : 48 ≤ ((b[j]).toNat : Int) <;> by_cases a6 : ((b[j]).toNat : Int) ≤ 57
      any_goals (exfalso; omega)
      all_goals by_cases j0 : (0 : Int) < (j : Int)
      all_goals have j0' : decide (0 < j) = decide ((0 : Int) < (j : Int)) := by rw [decide_eq_decide]; omega
      all_goals rw [j0'] at HR2
      all_goals clear j0'
      all_goals cases small
      all_goals first
        | (have E : Hid (R = false) := by (show _ = _; rw [HR2.out]; simp only [a1, a2, a3, a4, a5, a6, j0, decide_true, decide_false, Bool.true_and, Bool.false_and, Bool.and_true, Bool.and_false, Bool.or_false, Bool.or_true])
           clear HR2 HT
           go_wp2
           go_ret
           exact ⟨by rw [E.out]; rfl, rfl⟩)
        | (have E : Hid (R = T) := by (show _ = _; rw [HR2.out]; simp only [a1, a2, a3, a4, a5, a6, j0, decide_true, decide_false, Bool.true_and, Bool.and_true, Bool.and_false, Bool.or_false, Bool.or_true])
           clear HR2
           go_wp2_with fail
           go_roundg (b.size - (j + 1))
           case rel => exact ⟨j + 1, by simp, rfl, hlt, E.out.trans HT.out, by first | trivial | rfl⟩
           case measure => omega)
    · have hli : ¬ (j : Int) < (b.size : Int) := by omega
      have E : Hid (R = true) := by
        show _ = _
        rw [HR.out, drop_end b j hlt]; simp [latR]
      clear HR
      go_wp2
      go_ret
      exact ⟨by rw [E.out]; rfl, rfl⟩
theorem fnNm_any (b : ByteArray) (w : World) (hs : b.size ≤ 9223372036854775807) : Calls Tryz.prog 79 #[.string b, .bool false] w fun e w' => e = .returned (.bool (Wt.fnNm b)) ∧ w = w' := by
  have h := latin_any false b w hs
  rw [latB_fn] at h
  exact h
theorem shNm_any (b : ByteArray) (w : World) (hs : b.size ≤ 9223372036854775807) : Calls Tryz.prog 79 #[.string b, .bool true] w fun e w' => e = .returned (.bool (Wt.shNm b)) ∧ w = w' := by
  have h := latin_any true b w hs
  rw [latB_sh] at h
  exact h
theorem rbin_any (o : Int) (w : World) : Calls Tryz.prog 78 #[.int .i64 o] w fun e w' => e = .returned (.bool (Wt.isBin o)) ∧ w = w' := by
  unfold Wt.isBin
  by_cases a1 : 11 ≤ o <;> by_cases a2 : o ≤ 16 <;> by_cases a3 : 21 ≤ o <;> by_cases a4 : o ≤ 26
  any_goals (exfalso; omega)
  all_goals
    go_enter Tryz.func78, Tryz.ntmps78
    go_wp2
    go_ret
    exact ⟨ret_bool (by simp [a1, a2, a3, a4]), rfl⟩
set_option maxHeartbeats 1600000 in
theorem rrf_any (a : Wt.Rf) (w : World) (hs : a.s.size ≤ 9223372036854775807) : Calls Tryz.prog 77 #[.agg #[.string a.s, .int .i64 a.r, .int .i64 a.c, .bool a.fr, .bool a.fc]] w fun e w' => e = .returned (.bool (Wt.rfOk a)) ∧ Below w.heap.size w w' := by
  obtain ⟨s, r, c, fr, fc⟩ := a
  unfold Wt.rfOk Wt.inR
  simp only at hs ⊢
  have C := fun w => shNm_any s w hs
  by_cases r0 : r < 0
  · have r0' : ¬ 0 ≤ r := by omega
    rw [decide_eq_false r0']
    go_enter Tryz.func77, Tryz.ntmps77
    go_wp2
    go_ret
    exact ⟨ret_bool (by simp), by with_reducible repeat (first | exact Below.refl _ _ | refine below_drewN ?_ _ | refine Below.setCell ?_ (by first | (simp; done) | (simp; omega) | omega) _ | refine Below.drew ?_ | refine below_end ?_ (by assumption) | refine ball ?_ _)⟩
  by_cases r1 : 65536 ≤ r
  · rw [decide_eq_false (p := r < 65536) (by omega)]
    go_enter Tryz.func77, Tryz.ntmps77
    go_wp2
    go_ret
    exact ⟨ret_bool (by simp), by with_reducible repeat (first | exact Below.refl _ _ | refine below_drewN ?_ _ | refine Below.setCell ?_ (by first | (simp; done) | (simp; omega) | omega) _ | refine Below.drew ?_ | refine below_end ?_ (by assumption) | refine ball ?_ _)⟩
  by_cases c0 : c < 0
  · rw [decide_eq_false (p := 0 ≤ c) (by omega)]
    go_enter Tryz.func77, Tryz.ntmps77
    go_wp2
    go_ret
    exact ⟨ret_bool (by simp), by with_reducible repeat (first | exact Below.refl _ _ | refine below_drewN ?_ _ | refine Below.setCell ?_ (by first | (simp; done) | (simp; omega) | omega) _ | refine Below.drew ?_ | refine below_end ?_ (by assumption) | refine ball ?_ _)⟩
  by_cases c1 : 256 ≤ c
  · rw [decide_eq_false (p := c < 256) (by omega)]
    go_enter Tryz.func77, Tryz.ntmps77
    go_wp2
    go_ret
    exact ⟨ret_bool (by simp), by with_reducible repeat (first | exact Below.refl _ _ | refine below_drewN ?_ _ | refine Below.setCell ?_ (by first | (simp; done) | (simp; omega) | omega) _ | refine Below.drew ?_ | refine below_end ?_ (by assumption) | refine ball ?_ _)⟩
  rw [decide_eq_true (p := 0 ≤ r) (by omega), decide_eq_true (p := r < 65536) (by omega), decide_eq_true (p := 0 ≤ c) (by omega), decide_eq_true (p := c < 256) (by omega)]
  by_cases h0 : s = ⟨#[]⟩
  · subst h0
    go_enter Tryz.func77, Tryz.ntmps77
    go_wp2
    go_ret
    exact ⟨rfl, by with_reducible repeat (first | exact Below.refl _ _ | refine below_drewN ?_ _ | refine Below.setCell ?_ (by first | (simp; done) | (simp; omega) | omega) _ | refine Below.drew ?_ | refine below_end ?_ (by assumption) | refine ball ?_ _)⟩
  · have hE := empty_of h0
    rw [decide_eq_false h0]
    generalize Wt.shNm s = q at *
    go_enter Tryz.func77, Tryz.ntmps77
    go_wp2_with fail
    refine (C _).mono ?_
    rintro e w2 ⟨rfl, rfl⟩
    go_wp2
    go_ret
    exact ⟨by simp, by with_reducible repeat (first | exact Below.refl _ _ | refine below_drewN ?_ _ | refine Below.setCell ?_ (by first | (simp; done) | (simp; omega) | omega) _ | refine Below.drew ?_ | refine below_end ?_ (by assumption) | refine ball ?_ _)⟩
set_option maxHeartbeats 1600000 in
theorem rlit_any (v : Wt.Vl) (w : World) (hf : Wt.FitV v) : Calls Tryz.prog 76 #[.agg #[.int .i64 v.k, .int .i64 v.n, .int .i64 v.d, .string v.t, .bool v.b, .int .i64 v.f]] w fun e w' => e = .returned (.bool (Wt.vlOk v)) ∧ Below w.heap.size w w' := by
  have C := fun w => r2right_any v w hf
  obtain ⟨k, n, d, t, b, f⟩ := v
  obtain ⟨⟨h1, h2⟩, ⟨h3, h4⟩, hs⟩ := hf
  unfold Wt.vlOk
  simp only at h1 h2 h3 h4 hs C ⊢
  by_cases e0 : k = 0
  · subst e0
    rw [if_pos rfl]
    generalize Wv.right 0 n d t b f = q at *
    cases q
    all_goals
      go_enter Tryz.func76, Tryz.ntmps76
      go_wp2_with fail
      refine (C _).mono ?_
      rintro e w1 ⟨rfl, hb⟩
      have hB := below_end (ball (Below.refl _ w) _) hb
      obtain ⟨c0, c1, c2, c3, c4, c5⟩ := (AtL.below hb (AtL.new0 w _ [.int .i64 0, .int .i64 n, .int .i64 d, .string t, .bool b, .int .i64 f])).f6
      go_wp2
      go_ret
      exact ⟨rfl, hB⟩
  rw [if_neg e0]
  by_cases e1 : k = 1
  · subst e1
    rw [if_pos rfl]
    have hr : Wv.right 1 n d t b f = true → 1 ≤ d := by
      unfold Wv.right
      rw [if_neg (by decide), if_pos rfl]
      intro h
      simp only [Bool.and_eq_true] at h
      have := h.1.1.1
      unfold Wnum.rightB at this
      have := of_decide_eq_true this
      omega
    generalize Wv.right 1 n d t b f = q at *
    cases q
    · go_enter Tryz.func76, Tryz.ntmps76
      go_wp2_with fail
      refine (C _).mono ?_
      rintro e w1 ⟨rfl, hb⟩
      have hB := below_end (ball (Below.refl _ w) _) hb
      obtain ⟨c0, c1, c2, c3, c4, c5⟩ := (AtL.below hb (AtL.new0 w _ [.int .i64 1, .int .i64 n, .int .i64 d, .string t, .bool b, .int .i64 f])).f6
      go_wp2
      go_ret
      exact ⟨rfl, hB⟩
    have hd := hr rfl
    clear hr
    by_cases hn : 0 ≤ n
    · have hd0 : ¬ d = 0 := by omega
      have hdm : ¬ d = -1 := by omega
      rw [decide_eq_true hn]
      go_enter Tryz.func76, Tryz.ntmps76
      go_wp2_with fail
      refine (C _).mono ?_
      rintro e w1 ⟨rfl, hb⟩
      have hB := below_end (ball (Below.refl _ w) _) hb
      obtain ⟨c0, c1, c2, c3, c4, c5⟩ := (AtL.below hb (AtL.new0 w _ [.int .i64 1, .int .i64 n, .int .i64 d, .string t, .bool b, .int .i64 f])).f6
      go_wp2
      go_ret
      refine ⟨ret_bool ?_, hB⟩
      rw [Bool.eq_iff_iff]
      simp
    · rw [decide_eq_false hn]
      go_enter Tryz.func76, Tryz.ntmps76
      go_wp2_with fail
      refine (C _).mono ?_
      rintro e w1 ⟨rfl, hb⟩
      have hB := below_end (ball (Below.refl _ w) _) hb
      obtain ⟨c0, c1, c2, c3, c4, c5⟩ := (AtL.below hb (AtL.new0 w _ [.int .i64 1, .int .i64 n, .int .i64 d, .string t, .bool b, .int .i64 f])).f6
      go_wp2
      go_ret
      exact ⟨ret_bool (by simp), hB⟩
  rw [if_neg e1]
  generalize Wv.right k n d t b f = q at *
  have e0' : (k == 0) = false := by simp [e0]
  have e1' : (k != 1) = true := by simp [e1]
  cases q
  all_goals
    go_enter Tryz.func76, Tryz.ntmps76
    go_wp2_with fail
    refine (C _).mono ?_
    rintro e w1 ⟨rfl, hb⟩
    have hB := below_end (ball (Below.refl _ w) _) hb
    obtain ⟨c0, c1, c2, c3, c4, c5⟩ := (AtL.below hb (AtL.new0 w _ [.int .i64 k, .int .i64 n, .int .i64 d, .string t, .bool b, .int .i64 f])).f6
    go_wp2
    go_ret
    exact ⟨rfl, hB⟩
end Go.Proofs.YthofehcchickeaaGreatDoor
