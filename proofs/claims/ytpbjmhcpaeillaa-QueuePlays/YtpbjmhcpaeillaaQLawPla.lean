/- QueuePlays: any steps: all that is told behind each. -/

import Derived.Test.YtpbjmhcpaeillaaQPlK
import Derived.Test.YtpbjmhcpaeillaaQLawLas
namespace Go.Proofs.Ytpbjmhcpaeillaa
open Go.RowKit
set_option linter.unusedVariables false

set_option maxRecDepth 100000 in
set_option maxHeartbeats 32000000 in
theorem law_plays (T : List Ac) (av : Option Addr) (tn cap : Nat) (w : World) (h : RdS w av T) (hn : T.length = tn) (hB : True → tn ≤ 1000000000000000) (hA : True → ∀ a ∈ T, a.A.length ≤ 1000000000000000) :
    Calls Try.prog 3 #[.slice av tn cap] w fun en w' => en = .returned (.bool true) ∧ Below w.heap.size w w' := by
  have AB := able_any w
  have HS0 : Hid (RdS w av T ∧ T.length = tn) := ⟨h, hn⟩
  clear h hn
  go_enter Try.func3, Try.ntmps3
  go_wp2_with fail
  refine AB.mono ?_
  rintro en w1 ⟨rfl, hb1⟩
  have HB1 : Hid (Below w.heap.size w w1) := hb1
  have MU := much_any T av tn cap w1 (HS0.out.1.below hb1) HS0.out.2 hB hA
  clear AB hb1 hB hA
  go_wp2_with fail
  refine MU.mono ?_
  rintro en w1' ⟨⟨q, rfl, hq⟩, hw⟩
  obtain rfl : w1 = w1' := hw.symm
  have HT : Hid (q = false → tot T ≤ 400) := hq
  clear MU hq
  cases q with
  | true =>
    go_wp2
    go_ret
    exact ⟨rfl, HB1.out⟩
  | false =>
    have HT4 : Hid (tot T ≤ 400) := HT.out rfl
    clear HT
    have HTT : Hid (tn ≤ 400 ∧ ∀ a ∈ T, a.A.length ≤ 400) := by
      have h1 := HT4.out
      have h2 := HS0.out.2
      unfold tot at h1
      refine ⟨by omega, fun a ha => ?_⟩
      obtain ⟨j, hj, ej⟩ := List.getElem_of_mem ha
      have h3 := sum_take T (List.getElem?_eq_getElem hj)
      have h4 := tot_take T (j + 1)
      unfold tot at h4
      rw [ej] at h3
      omega
    have NW := nn_new w1
    obtain ⟨qb, hqb⟩ : ∃ qb, w1.heap.size + 2 = qb := ⟨_, rfl⟩
    rw [hqb] at NW
    clear HT4 hqb
    go_wp2_with fail
    refine NW.mono ?_
    rintro en w2 ⟨rfl, ⟨Sq0, hq2⟩, hb2⟩
    have ba := ball (Below.refl _ w2) (.cells #[.slice none 0 0, .slice none 0 0] 31)
    have p3 := AtL.new0 w2 31 [.slice none 0 0, .slice none 0 0]
    have HQ3 : Hid (Qn w1.heap.size (w2.alloc (.cells #[.slice none 0 0, .slice none 0 0] 31)) qb (([] : List (Wpl.Cl × Int)).map (wrR [])) [] Sq0 []) := hq2.below ba
    have HB3 : Hid (Below w1.heap.size w1 (w2.alloc (.cells #[.slice none 0 0, .slice none 0 0] 31))) := below_end hb2 ba
    have HD3 : Hid (Dn w1.heap.size (w2.alloc (.cells #[.slice none 0 0, .slice none 0 0] 31)) w2.heap.size [] [] [w2.heap.size]) := ⟨.slice none 0 0, .slice none 0 0, rfl, ⟨p3, ⟨rfl, Or.inl ⟨rfl, rfl⟩⟩, ⟨rfl, Or.inl ⟨rfl, rfl⟩⟩, (fun g e => by cases e), (fun g e => by cases e), (fun g e => by cases e)⟩, Nat.le_trans hb2.size ba.size, hb2.size⟩
    have HS3 : Hid (∀ k ∈ [w2.heap.size], k ∉ Sq0 ∧ k ∉ ([] : List Nat)) := fun k hk => by
      simp only [List.mem_singleton] at hk
      subst hk
      exact ⟨fun hm => by have := hq2.lt _ hm; omega, by simp⟩
    clear NW hq2 hb2 ba p3
    go_upto_region 8 with fail
    generalize w2.alloc (.cells #[.slice none 0 0, .slice none 0 0] 31) = W3 at *
    generalize hdb : w2.heap.size = db at *
    clear hdb
    go_loopg [5] tn (fun gk x wr => ∃ (i : Nat) (R : List (Wpl.Cl × Int)) (A : List Wpl.Ar) (Sq Uq Sd : List Nat), x = .int .i64 (i : Int) ∧ gk = tn - i ∧ Hid (i ≤ tn ∧ R.length ≤ i ∧ A.length ≤ 400) ∧ Hid (Qn w1.heap.size wr qb (R.map (wrR A)) A Sq Uq) ∧ Hid (Dn w1.heap.size wr db R A Sd) ∧ Hid (∀ k ∈ Sd, k ∉ Sq ∧ k ∉ Uq) ∧ Hid (Below w1.heap.size w1 wr))
    case atStart => exact ⟨0, [], [], Sq0, [], [db], rfl, rfl, ⟨Nat.zero_le _, Nat.le_refl _, by simp⟩, HQ3, HD3, HS3, HB3⟩
    case round =>
      clear HQ3 HD3 HS3 HB3
      obtain ⟨i, R, A, Sq, Uq, Sd, rfl, hg, HZ0, HQ0, HD0, HS, HB0⟩ := hrel
      generalize hw9 : wr = W at *
      clear hw9
      by_cases hlt : i < tn
      · have hii : (i : Int) < (tn : Int) := by omega
        have hiz : (0 : Int) ≤ (i : Int) := by omega
        have hwi : IntKind.i64.wrap ((i : Int) + 1) = (i : Int) + 1 := by have := HTT.out.1; rw [IntKind.wrap_i64]; omega
        have HZ : Hid (R.length ≤ i ∧ A.length ≤ 400) := HZ0.out.2
        have HND : Hid (((R.map (wrR A)).map clW).Nodup) := HQ0.out.nd
        obtain ⟨a, ha⟩ : ∃ a, T[i]? = some a := ⟨T[i]'(by rw [HS0.out.2]; exact hlt), List.getElem?_eq_getElem _⟩
        have HMA : Hid (a.A.length ≤ 400) := HTT.out.2 a (List.mem_of_getElem? ha)
        obtain ⟨bb, off, e, rv, m, cap', hr1, hra, hm, hz⟩ := (HS0.out.1.below HB1.out) i a ha
        have HRA : Hid (RdQ w1 rv a.A ∧ a.A.length = m ∧ (rv = none → m = 0 ∧ cap' = 0)) := ⟨hra, hm, hz⟩
        have hr : W.rangeAt bb (off + i * 6) [.int .i64 a.k, .int .i64 a.x.s, .int .i64 a.x.r, .int .i64 a.x.c, .int .i64 a.n, .slice rv m cap'] := fun j v hj => cell_below HB0.out (hr1 j v hj)
        clear hr1
        have k0 : W.cell? ⟨bb, off + i * 6, none⟩ = some (.int .i64 a.k) := hr 0 _ rfl
        have k1 : W.cell? ⟨bb, off + i * 6 + 1, none⟩ = some (.int .i64 a.x.s) := hr 1 _ rfl
        have k2 : W.cell? ⟨bb, off + i * 6 + 2, none⟩ = some (.int .i64 a.x.r) := hr 2 _ rfl
        have k3 : W.cell? ⟨bb, off + i * 6 + 3, none⟩ = some (.int .i64 a.x.c) := hr 3 _ rfl
        have k4 : W.cell? ⟨bb, off + i * 6 + 4, none⟩ = some (.int .i64 a.n) := hr 4 _ rfl
        have k5 : W.cell? ⟨bb, off + i * 6 + 5, none⟩ = some (.slice rv m cap') := hr 5 _ rfl
        subst e
        have ba := ball (Below.refl _ W) (.cells #[.int .i64 a.k, .int .i64 a.x.s, .int .i64 a.x.r, .int .i64 a.x.c, .int .i64 a.n, .slice rv m cap'] 35)
        have q6 := AtL.new0 W 35 [.int .i64 a.k, .int .i64 a.x.s, .int .i64 a.x.r, .int .i64 a.x.c, .int .i64 a.n, .slice rv m cap']
        have HQ6 : Hid (Qn w1.heap.size (W.alloc (.cells #[.int .i64 a.k, .int .i64 a.x.s, .int .i64 a.x.r, .int .i64 a.x.c, .int .i64 a.n, .slice rv m cap'] 35)) qb (R.map (wrR A)) A Sq Uq) := HQ0.out.below ba
        have HD6 : Hid (Dn w1.heap.size (W.alloc (.cells #[.int .i64 a.k, .int .i64 a.x.s, .int .i64 a.x.r, .int .i64 a.x.c, .int .i64 a.n, .slice rv m cap'] 35)) db R A Sd) := HD0.out.below ba
        have HB6 : Hid (Below w1.heap.size w1 (W.alloc (.cells #[.int .i64 a.k, .int .i64 a.x.s, .int .i64 a.x.r, .int .i64 a.x.c, .int .i64 a.n, .slice rv m cap'] 35))) := below_end HB0.out ba
        have HP6 : Hid (AtL (W.alloc (.cells #[.int .i64 a.k, .int .i64 a.x.s, .int .i64 a.x.r, .int .i64 a.x.c, .int .i64 a.n, .slice rv m cap'] 35)) W.heap.size [.int .i64 a.k, .int .i64 a.x.s, .int .i64 a.x.r, .int .i64 a.x.c, .int .i64 a.n, .slice rv m cap'] ∧ W.heap.size ∉ Sq ∧ W.heap.size ∉ Sd) := ⟨q6, fun hm => by have := HQ0.out.lt _ hm; omega, fun hm => by have := (HD0.out.lt _ hm).2; omega⟩
        clear ha hr hra hm hz ba q6 HQ0 HD0 HB0 HZ0
        go_upto_region 11 with fail
        clear k0 k1 k2 k3 k4 k5
        generalize W.alloc (.cells #[.int .i64 a.k, .int .i64 a.x.s, .int .i64 a.x.r, .int .i64 a.x.c, .int .i64 a.n, .slice rv m cap'] 35) = W6 at *
        generalize hp6 : W.heap.size = p6 at *
        clear hp6
        have g0 := HP6.out.1.2.1 0 _ rfl
        by_cases hk1 : a.k = 1
        · go_upto_region 13 with fail
          clear g0
          have PU := n2_put HQ6.out a.x a.n (fun _ => by have := HZ.out; have := HTT.out; rw [List.length_map]; omega) (fun _ => by have := HZ.out; omega)
          have g1 := HP6.out.1.2.1 1 _ rfl
          have g2 := HP6.out.1.2.1 2 _ rfl
          have g3 := HP6.out.1.2.1 3 _ rfl
          have g4 := HP6.out.1.2.1 4 _ rfl
          go_wp2_with fail
          refine PU.mono ?_
          rintro en w7 ⟨rfl, S7, hq7, fr7, hs7⟩
          have HQ7 : Hid (Qn w1.heap.size w7 qb (⟨a.x.s, a.x.r, a.x.c, lnQ A a.x, a.n⟩ :: offW a.x (R.map (wrR A))) A S7 Uq) := hq7
          have HD7 : Hid (Dn w1.heap.size w7 db R A Sd) := HD6.out.kept fr7 (fun k hk => (HS.out k hk).1)
          have HS7 : Hid (∀ k ∈ Sd, k ∉ S7 ∧ k ∉ Uq) := fun k hk => ⟨fun hm => by
            rcases hs7 k hm with q | q
            · exact (HS.out k hk).1 q
            · have := (HD6.out.lt k hk).2
              omega, (HS.out k hk).2⟩
          have HP7 : Hid (AtL w7 p6 [.int .i64 a.k, .int .i64 a.x.s, .int .i64 a.x.r, .int .i64 a.x.c, .int .i64 a.n, .slice rv m cap'] ∧ p6 ∉ S7 ∧ p6 ∉ Sd) := ⟨HP6.out.1.fr fr7 HP6.out.2.1, fun hm => by
            rcases hs7 p6 hm with q | q
            · exact HP6.out.2.1 q
            · have := HP6.out.1.1
              omega, HP6.out.2.2⟩
          have HB7 : Hid (Below w1.heap.size w1 w7) := Below.of_fr HB6.out fr7 HQ6.out.ge HB6.out.size
          clear PU hq7 fr7 hs7 HQ6 HD6 HP6 HB6 HS g1 g2 g3 g4
          have DU := rput_any HD7.out a.x a.n (fun _ => by have := HZ.out; have := HTT.out; omega)
          have g1 := HP7.out.1.2.1 1 _ rfl
          have g2 := HP7.out.1.2.1 2 _ rfl
          have g3 := HP7.out.1.2.1 3 _ rfl
          have g4 := HP7.out.1.2.1 4 _ rfl
          go_wp2_with fail
          refine DU.mono ?_
          rintro en w9 ⟨R9, hR9, rfl, Sd9, hd9, fr9, hs9⟩
          have HR9 : Hid (((⟨a.x.s, a.x.r, a.x.c, lnQ A a.x, a.n⟩ : Wq.Wr) :: offW a.x (R.map (wrR A))).Perm (R9.map (wrR A)) ∧ R9.length ≤ R.length + 1) := put_rel HND.out hR9
          have HQ9 : Hid (Qn w1.heap.size w9 qb (R9.map (wrR A)) A S7 Uq) := (HQ7.out.perm HR9.out.1).kept fr9 (fun k hk hm => by
            rcases hk with q | q
            · exact (HS7.out k hm).1 q
            · exact (HS7.out k hm).2 q)
          have HD9 : Hid (Dn w1.heap.size w9 db R9 A Sd9) := hd9
          have HS9 : Hid (∀ k ∈ Sd9, k ∉ S7 ∧ k ∉ Uq) := fun k hk => by
            rcases hs9 k hk with q | q
            · exact HS7.out k q
            · exact ⟨fun hm => by have := HQ7.out.lt k hm; omega, fun hm => by have := HQ7.out.ult k hm; omega⟩
          have HP9 : Hid (AtL w9 p6 [.int .i64 a.k, .int .i64 a.x.s, .int .i64 a.x.r, .int .i64 a.x.c, .int .i64 a.n, .slice rv m cap']) := HP7.out.1.fr fr9 HP7.out.2.2
          have HP9 : Hid (AtL w9 p6 [.int .i64 a.k, .int .i64 a.x.s, .int .i64 a.x.r, .int .i64 a.x.c, .int .i64 a.n, .slice rv m cap'] ∧ True) := ⟨HP9.out, trivial⟩
          have HB9 : Hid (Below w1.heap.size w1 w9) := Below.of_fr HB7.out fr9 (fun k hk => (HD7.out.lt k hk).1) HB7.out.size
          have HZ9 : Hid (R9.length ≤ i + 1 ∧ A.length ≤ 400) := ⟨by have := HZ.out; have := HR9.out.2; omega, HZ.out.2⟩
          clear DU hR9 hd9 fr9 hs9 HQ7 HD7 HS7 HP7 HB7 HR9 g1 g2 g3 g4
          go_upto_region 30 with fail
          obtain ⟨v1, v2, eS9, hdq9, _, _⟩ := HD9.out
          obtain ⟨a1, c1, a2, c2, e1, e2, hdr9⟩ := hdq9.dr
          have LK := looks_any a.x HQ9.out hdr9 rfl (fun _ => by have := HZ9.out; have := HTT.out; omega) (fun _ => by have := HZ9.out; omega)
          clear eS9 hdq9 e1 e2 hdr9
          have g1 := HP9.out.1.2.1 1 _ rfl
          have g2 := HP9.out.1.2.1 2 _ rfl
          have g3 := HP9.out.1.2.1 3 _ rfl
          go_wp2_with fail
          refine LK.mono ?_
          rintro en w10 ⟨rfl, hb10⟩
          have HQ10 : Hid (Qn w1.heap.size w10 qb (R9.map (wrR A)) A S7 Uq) := HQ9.out.below hb10
          have HD10 : Hid (Dn w1.heap.size w10 db R9 A Sd9) := HD9.out.below hb10
          have HB10 : Hid (Below w1.heap.size w1 w10) := below_end HB9.out hb10
          clear LK hb10 HQ9 HD9 HB9 HP9 g1 g2 g3
          go_wp2_with fail
          go_roundg (tn - (i + 1))
          case rel => exact ⟨i + 1, R9, A, S7, Uq, Sd9, by simp, rfl, ⟨hlt, HZ9.out.1, HZ9.out.2⟩, HQ10, HD10, HS9, HB10⟩
          case measure => omega

        · by_cases hk2 : a.k = 2
          · go_upto_region 16 with fail
            clear g0
            have hb1 := (Below.refl W6.heap.size W6).drew
            have q1 := AtL.below hb1 HP6.out.1
            refine wp_region_held_drew (S := fun W => W.cell? ⟨p6, 1, none⟩ = some (.int .i64 a.x.s) ∧ W.cell? ⟨p6, 2, none⟩ = some (.int .i64 a.x.r) ∧ W.cell? ⟨p6, 3, none⟩ = some (.int .i64 a.x.c)) (by kernel_rfl) ⟨q1.2.1 1 _ rfl, q1.2.1 2 _ rfl, q1.2.1 3 _ rfl⟩ (fun hHeld => ?_)
            replace HQ6 := HQ6.out.below hb1
            replace HD6 := HD6.out.below hb1
            replace HB6 := below_end HB6.out hb1
            have HP6n : Hid (AtL W6.drew p6 [.int .i64 a.k, .int .i64 a.x.s, .int .i64 a.x.r, .int .i64 a.x.c, .int .i64 a.n, .slice rv m cap'] ∧ p6 ∉ Sq ∧ p6 ∉ Sd) := ⟨q1, HP6.out.2⟩
            have HQ6n : Hid (Qn w1.heap.size W6.drew qb (R.map (wrR A)) A Sq Uq) := HQ6
            have HD6n : Hid (Dn w1.heap.size W6.drew db R A Sd) := HD6
            have HB6n : Hid (Below w1.heap.size w1 W6.drew) := HB6
            clear hb1 q1 HQ6 HD6 HB6 HP6
            generalize W6.drew = W5 at *
            refine wpAnyH_take (i := 0) (oi := { dst := Option.some 44, op := Op.move (Operand.tmp 3), type := 25, pos := "law.go:79", after := #[], guard := Option.none }) (v := ?_) rfl (by kernel_rfl) (by kernel_rfl) (by kernel_rfl) (fun _ _ _ h => h) (Or.inl ⟨by rfl, ?_⟩) (by assumption) ?_
            rotate_left
            · intro w hSw
              (try dsimp only at hSw)
              go_simp
              try with_reducible rfl
            try simp only [Act.put, List.setIfInBounds_toArray, List.set_cons_zero, List.set_cons_succ]
            refine wpAnyH_take (i := 1) (oi := { dst := Option.some 45, op := Op.fieldAddr 35 (Operand.tmp 6) 1, type := 0, pos := "law.go:79", after := #[], guard := Option.none }) (v := ?_) rfl (by kernel_rfl) (by kernel_rfl) (by kernel_rfl) (fun _ _ _ h => h) (Or.inl ⟨by rfl, ?_⟩) (by assumption) ?_
            rotate_left
            · intro w hSw
              (try dsimp only at hSw)
              go_simp
              try with_reducible rfl
            try simp only [Act.put, List.setIfInBounds_toArray, List.set_cons_zero, List.set_cons_succ]
            refine wpAnyH_take (i := 2) (oi := { dst := Option.some 46, op := Op.load 33 (Operand.tmp 45), type := 33, pos := "law.go:79", after := #[{ on := 1, ground := Ground.data }], guard := Option.none }) (v := ?_) rfl (by kernel_rfl) (by kernel_rfl) (by kernel_rfl) (fun _ _ _ h => h) (Or.inl ⟨by rfl, ?_⟩) (by assumption) ?_
            rotate_left
            · intro w hSw
              (try dsimp only at hSw)
              go_simp
              try with_reducible rfl
            try simp only [Act.put, List.setIfInBounds_toArray, List.set_cons_zero, List.set_cons_succ]
            refine wpAnyH_take (i := 4) (oi := { dst := Option.some 48, op := Op.move (Operand.tmp 4), type := 27, pos := "law.go:79", after := #[], guard := Option.none }) (v := ?_) rfl (by kernel_rfl) (by kernel_rfl) (by kernel_rfl) (fun _ _ _ h => h) (Or.inl ⟨by rfl, ?_⟩) (by assumption) ?_
            rotate_left
            · intro w hSw
              (try dsimp only at hSw)
              go_simp
              try with_reducible rfl
            try simp only [Act.put, List.setIfInBounds_toArray, List.set_cons_zero, List.set_cons_succ]
            refine wpAnyH_take (i := 5) (oi := { dst := Option.some 49, op := Op.fieldAddr 35 (Operand.tmp 6) 1, type := 0, pos := "law.go:79", after := #[], guard := Option.none }) (v := ?_) rfl (by kernel_rfl) (by kernel_rfl) (by kernel_rfl) (fun _ _ _ h => h) (Or.inl ⟨by rfl, ?_⟩) (by assumption) ?_
            rotate_left
            · intro w hSw
              (try dsimp only at hSw)
              go_simp
              try with_reducible rfl
            try simp only [Act.put, List.setIfInBounds_toArray, List.set_cons_zero, List.set_cons_succ]
            refine wpAnyH_take (i := 6) (oi := { dst := Option.some 50, op := Op.load 33 (Operand.tmp 49), type := 33, pos := "law.go:79", after := #[{ on := 5, ground := Ground.data }], guard := Option.none }) (v := ?_) rfl (by kernel_rfl) (by kernel_rfl) (by kernel_rfl) (fun _ _ _ h => h) (Or.inl ⟨by rfl, ?_⟩) (by assumption) ?_
            rotate_left
            · intro w hSw
              (try dsimp only at hSw)
              go_simp
              try with_reducible rfl
            try simp only [Act.put, List.setIfInBounds_toArray, List.set_cons_zero, List.set_cons_succ]
            refine wpAnyH_ready (rs := [3]) (by kernel_rfl) (by simp) ?_
            refine AllReadyH.cons (o := { dst := Option.some 47, op := Op.call { callee := Callee.value (Operand.func 13), args := #[Operand.tmp 44, Operand.tmp 46], argTypes := #[25, 33] }, type := 4, pos := "law.go:79", after := #[{ on := 0, ground := Ground.data }, { on := 2, ground := Ground.data }], guard := Option.none }) rfl (fun K hK => ?_) AllReadyH.nil
            have PU := n2_drop HQ6n.out a.x (fun _ => by have := HZ.out; have := HTT.out; rw [List.length_map]; omega)
            go_simp
            refine PU.mono ?_
            rintro en w7 ⟨rfl, S7, hq7, fr7, hs7⟩
            have HQ7 : Hid (Qn w1.heap.size w7 qb (offW a.x (R.map (wrR A))) A S7 Uq) := hq7
            have HD7 : Hid (Dn w1.heap.size w7 db R A Sd) := HD6n.out.kept fr7 (fun k hk => (HS.out k hk).1)
            have HS7 : Hid (∀ k ∈ Sd, k ∉ S7 ∧ k ∉ Uq) := fun k hk => ⟨fun hm => by
              rcases hs7 k hm with q | q
              · exact (HS.out k hk).1 q
              · have := (HD6n.out.lt k hk).2
                omega, (HS.out k hk).2⟩
            have HP7 : Hid (AtL w7 p6 [.int .i64 a.k, .int .i64 a.x.s, .int .i64 a.x.r, .int .i64 a.x.c, .int .i64 a.n, .slice rv m cap'] ∧ p6 ∉ S7 ∧ p6 ∉ Sd) := ⟨HP6n.out.1.fr fr7 HP6n.out.2.1, fun hm => by
              rcases hs7 p6 hm with q | q
              · exact HP6n.out.2.1 q
              · have := HP6n.out.1.1
                omega, HP6n.out.2.2⟩
            have HB7 : Hid (Below w1.heap.size w1 w7) := Below.of_fr HB6n.out fr7 HQ6n.out.ge HB6n.out.size
            clear PU hq7 fr7 hs7 HQ6n HD6n HP6n HB6n HS
            go_wp2_with fail
            refine hK.out _ _ ⟨HP7.out.1.2.1 1 _ rfl, HP7.out.1.2.1 2 _ rfl, HP7.out.1.2.1 3 _ rfl⟩ (fun hHeld => ?_)
            clear hK K
            try simp only [Act.put, List.setIfInBounds_toArray, List.set_cons_zero, List.set_cons_succ]
            refine wpAnyH_ready (rs := [7]) (by kernel_rfl) (by simp) ?_
            refine AllReadyH.cons (o := { dst := Option.some 51, op := Op.call { callee := Callee.value (Operand.func 14), args := #[Operand.tmp 48, Operand.tmp 50], argTypes := #[27, 33] }, type := 4, pos := "law.go:79", after := #[{ on := 4, ground := Ground.data }, { on := 6, ground := Ground.data }, { on := 3, ground := Ground.chain }], guard := Option.none }) rfl (fun K hK => ?_) AllReadyH.nil
            have DU := rdrop_any HD7.out a.x (fun _ => by have := HZ.out; have := HTT.out; omega)
            go_simp
            refine DU.mono ?_
            intro en w9 hd9
            have HX9 : Hid (∃ R9 Sd9, en = .returned (.bool (hasW a.x (R.map (wrR A)))) ∧ offW a.x (R.map (wrR A)) = R9.map (wrR A) ∧ R9.length ≤ R.length ∧ Dn w1.heap.size w9 db R9 A Sd9 ∧ Fr Sd w7 w9 ∧ ∀ k ∈ Sd9, k ∈ Sd ∨ w7.heap.size ≤ k) := by
              rcases hd9 with ⟨hno, e, Sd9, h1, h2, h3⟩ | ⟨j, p, hp, ex, e, Sd9, h1, h2, h3⟩
              · have h4 := drop_no (A := A) hno
                exact ⟨R, Sd9, by rw [h4.2]; exact e, h4.1, Nat.le_refl _, h1, h2, h3⟩
              · have h4 := drop_yes HND.out hp ex
                exact ⟨_, Sd9, by rw [h4.2.1]; exact e, h4.1, h4.2.2, h1, h2, h3⟩
            clear hd9
            obtain ⟨R9, Sd9, rfl, eR9, hl9, hd9, fr9, hs9⟩ := HX9.out
            have HQ9 : Hid (Qn w1.heap.size w9 qb (R9.map (wrR A)) A S7 Uq) := by
              have h1 := HQ7.out
              rw [eR9] at h1
              exact h1.kept fr9 (fun k hk hm => by
                rcases hk with q | q
                · exact (HS7.out k hm).1 q
                · exact (HS7.out k hm).2 q)
            have HD9 : Hid (Dn w1.heap.size w9 db R9 A Sd9) := hd9
            have HS9 : Hid (∀ k ∈ Sd9, k ∉ S7 ∧ k ∉ Uq) := fun k hk => by
              rcases hs9 k hk with q | q
              · exact HS7.out k q
              · exact ⟨fun hm => by have := HQ7.out.lt k hm; omega, fun hm => by have := HQ7.out.ult k hm; omega⟩
            have HP9 : Hid (AtL w9 p6 [.int .i64 a.k, .int .i64 a.x.s, .int .i64 a.x.r, .int .i64 a.x.c, .int .i64 a.n, .slice rv m cap'] ∧ True) := ⟨HP7.out.1.fr fr9 HP7.out.2.2, trivial⟩
            have HB9 : Hid (Below w1.heap.size w1 w9) := Below.of_fr HB7.out fr9 (fun k hk => (HD7.out.lt k hk).1) HB7.out.size
            have HZ9 : Hid (R9.length ≤ i + 1 ∧ A.length ≤ 400) := ⟨by have := HZ.out; omega, HZ.out.2⟩
            clear DU HX9 eR9 hl9 hd9 fr9 hs9 HQ7 HD7 HS7 HP7 HB7
            generalize hasW a.x (R.map (wrR A)) = hw at *
            go_wp2_with fail
            refine hK.out _ _ ⟨HP9.out.1.2.1 1 _ rfl, HP9.out.1.2.1 2 _ rfl, HP9.out.1.2.1 3 _ rfl⟩ (fun hHeld => ?_)
            clear hK K
            try simp only [Act.put, List.setIfInBounds_toArray, List.set_cons_zero, List.set_cons_succ]
            refine wpAnyH_take (i := 8) (oi := { dst := Option.some 52, op := Op.binOp BinOp.neq 4 (Operand.tmp 47) (Operand.tmp 51) 4, type := 4, pos := "law.go:79", after := #[{ on := 3, ground := Ground.data }, { on := 7, ground := Ground.data }], guard := Option.none }) (v := ?_) rfl (by kernel_rfl) (by kernel_rfl) (by kernel_rfl) (fun _ _ _ h => h) (Or.inl ⟨by rfl, ?_⟩) (by assumption) ?_
            rotate_left
            · intro w hSw
              (try dsimp only at hSw)
              go_simp
              try with_reducible rfl
            try simp only [Act.put, List.setIfInBounds_toArray, List.set_cons_zero, List.set_cons_succ]
            refine wpAnyH_done (by kernel_rfl) ?_ _
            clear hHeld
            go_upto_region 30 with fail
            obtain ⟨v1, v2, eS9, hdq9, _, _⟩ := HD9.out
            obtain ⟨a1, c1, a2, c2, e1, e2, hdr9⟩ := hdq9.dr
            have LK := looks_any a.x HQ9.out hdr9 rfl (fun _ => by have := HZ9.out; have := HTT.out; omega) (fun _ => by have := HZ9.out; omega)
            clear eS9 hdq9 e1 e2 hdr9
            have g1 := HP9.out.1.2.1 1 _ rfl
            have g2 := HP9.out.1.2.1 2 _ rfl
            have g3 := HP9.out.1.2.1 3 _ rfl
            go_wp2_with fail
            refine LK.mono ?_
            rintro en w10 ⟨rfl, hb10⟩
            have HQ10 : Hid (Qn w1.heap.size w10 qb (R9.map (wrR A)) A S7 Uq) := HQ9.out.below hb10
            have HD10 : Hid (Dn w1.heap.size w10 db R9 A Sd9) := HD9.out.below hb10
            have HB10 : Hid (Below w1.heap.size w1 w10) := below_end HB9.out hb10
            clear LK hb10 HQ9 HD9 HB9 HP9 g1 g2 g3
            go_wp2_with fail
            go_roundg (tn - (i + 1))
            case rel => exact ⟨i + 1, R9, A, S7, Uq, Sd9, by simp, rfl, ⟨hlt, HZ9.out.1, HZ9.out.2⟩, HQ10, HD10, HS9, HB10⟩
            case measure => omega

          · by_cases hk3 : a.k = 3
            · go_upto_region 19 with fail
              clear g0
              have ba := ball (Below.refl _ W6) (.cells #[] 39)
              have oE := own_emp W6 39 5
              have hs0 : W6.heap.size ≤ (W6.alloc (.cells #[] 39)).heap.size := ba.size
              have HBA : Hid (Below W6.heap.size W6 (W6.alloc (.cells #[] 39))) := ba
              have HRC : Hid (RdQ (W6.alloc (.cells #[] 39)) rv a.A) := (HRA.out.1.below HB6.out).below ba
              have g5 := (AtL.below ba HP6.out.1).2.1 5 _ rfl
              clear ba
              go_upto_region 20 with (first | (at_builtin; refine wpList_copA rfl (.tmp 55) (.tmp 57) rfl (W6.alloc (.cells #[] 39)) W6.heap.size hs0 (.slice (some ⟨W6.heap.size, 0, none⟩) 0 0) (by rfl) oE rv m cap' a.A HRA.out.2.1 (by rfl) HRC.out HRA.out.2.2 (by have := HMA.out; have := HRA.out.2.1; omega) ?_; intro v7 w7 o7 hg7; have b7 : Below W6.heap.size W6 w7 := HBA.out.grown hg7 HBA.out.size (fun k e => by have : some W6.heap.size = some k := e; simp at this; omega); have b8 := ball (Below.refl _ w7) (.cells #[.int .i64 (-77), .int .i64 0, .int .i64 0, .int .i64 0, .int .i64 0] 39); have o8 := own_fr (Fr.of_below [] b8) o7 (by simp); have s8 := Nat.le_trans b7.size b8.size) | (at_builtin; refine wpList_apA rfl (.tmp 58) (.tmp 60) rfl (w7.alloc (.cells #[.int .i64 (-77), .int .i64 0, .int .i64 0, .int .i64 0, .int .i64 0] 39)) W6.heap.size s8 v7 m (flatA a.A) (by rfl) o8 w7.heap.size 0 1 1 [⟨-77, 0, 0, 0, 0⟩] rfl (by rfl) (fun j u hu => by rw [Nat.zero_add]; exact (AtL.new0 w7 39 [.int .i64 (-77), .int .i64 0, .int .i64 0, .int .i64 0, .int .i64 0]).2.1 j u (by simpa [flatA, arQ] using hu)) (by have := HMA.out; have := HRA.out.2.1; omega) ?_; intro v9 w9 o9 hg9))
              obtain ⟨m1, hm1⟩ : ∃ m1, m + 1 = m1 := ⟨_, rfl⟩
              have HM1 : Hid (m + 1 = m1 ∧ m ≤ 400) := ⟨hm1, by have := HMA.out; have := HRA.out.2.1; omega⟩
              obtain ⟨B6, hB6⟩ : ∃ B6, W6.heap.size = B6 := ⟨_, rfl⟩
              have HBK9 : Hid (Below W6.heap.size W6 w9) := (below_end b7 b8).grown hg9 s8 (fun k e => (own_blk o7 e).1)
              rw [← flatA_app] at o9
              obtain ⟨ra9, rc9, e9, hc9, hr9⟩ := own_open o9
              obtain ⟨g, eg, _⟩ := hr9 (by omega)
              rw [eg, hm1] at e9
              rw [hm1] at o9 hc9
              subst e9
              have HBG : Hid (W6.heap.size ≤ g ∧ g < w9.heap.size) := own_blk o9 rfl
              have HO9 : Hid (w9.ownsRow B6 39 5 (.slice (some ⟨g, 0, none⟩) m1 rc9) m1 (flatA (a.A ++ [⟨-77, 0, 0, 0, 0⟩]))) := by rw [← hB6]; exact o9
              have HB9 : Hid (Below w1.heap.size w1 w9) := below_end HB6.out HBK9.out
              have HQ9 : Hid (Qn w1.heap.size w9 qb (R.map (wrR A)) A Sq Uq) := HQ6.out.below HBK9.out
              have HD9 : Hid (Dn w1.heap.size w9 db R A Sd) := HD6.out.below HBK9.out
              have HP9 : Hid (AtL w9 p6 [.int .i64 a.k, .int .i64 a.x.s, .int .i64 a.x.r, .int .i64 a.x.c, .int .i64 a.n, .slice rv m cap'] ∧ p6 ∉ Sq ∧ p6 ∉ Sd) := ⟨AtL.below HBK9.out HP6.out.1, HP6.out.2⟩
              have HGN : Hid (g ∉ Sq ∧ g ∉ Sd ∧ g ≠ p6 ∧ w1.heap.size ≤ g) := ⟨fun hm => by have := HQ6.out.lt _ hm; have := HBG.out; omega, fun hm => by have := (HD6.out.lt _ hm).2; have := HBG.out; omega, fun e => by have := HP6.out.1.1; have := HBG.out; omega, Nat.le_trans HB6.out.size HBG.out.1⟩
              have hmc : m ≤ rc9 := by omega
              clear o7 hg7 b7 b8 o8 s8 o9 hg9 hr9 eg hc9 oE hs0 HBA HRC g5 HQ6 HD6 HP6 HB6 hm1 hB6 HBK9
              have SE := nn_see HQ9.out (some ⟨g, 0, none⟩) m rc9 a.A (fun _ => by have := HZ.out; have := HTT.out; rw [List.length_map]; omega) (RdQ.of_own HO9.out).pre HRA.out.2.1 (fun e => by cases e) (fun p e => by cases e; rfl) (fun _ => by have := HM1.out; omega)
              have g5 := HP9.out.1.2.1 5 _ rfl
              go_wp2_with (refine wpList_slHA rfl (.tmp 63) (.tmp 66) rfl g m1 rc9 m (by rfl) (by rfl) hmc ?_)
              refine SE.mono ?_
              rintro en w10 ⟨rfl, U9, hq10, fr10, hu10⟩
              have HQ10 : Hid (Qn w1.heap.size w10 qb (R.map (wrR a.A)) a.A Sq U9) := by
                rw [see_rel] at hq10
                exact hq10
              have HD10 : Hid (Dn w1.heap.size w10 db R A Sd) := HD9.out.kept fr10 (fun k hk => (HS.out k hk).1)
              have HO10 : Hid (w10.ownsRow B6 39 5 (.slice (some ⟨g, 0, none⟩) m1 rc9) m1 (flatA (a.A ++ [⟨-77, 0, 0, 0, 0⟩]))) := own_fr fr10 HO9.out (fun k e => by
                have : some g = some k := e
                simp at this
                subst this
                exact HGN.out.1)
              have HP10 : Hid (AtL w10 p6 [.int .i64 a.k, .int .i64 a.x.s, .int .i64 a.x.r, .int .i64 a.x.c, .int .i64 a.n, .slice rv m cap'] ∧ p6 ∉ Sd) := ⟨HP9.out.1.fr fr10 HP9.out.2.1, HP9.out.2.2⟩
              have HB10 : Hid (Below w1.heap.size w1 w10) := Below.of_fr HB9.out fr10 HQ9.out.ge HB9.out.size
              have HGU : Hid (g ∉ U9 ∧ g < w10.heap.size ∧ (∀ k ∈ Sd, k ∉ Sq ∧ k ∉ U9)) := ⟨fun hm => by have := hu10 _ hm; have := HBG.out; omega, by have := fr10.size; have := HBG.out; omega, fun k hk => ⟨(HS.out k hk).1, fun hm => by have := hu10 _ hm; have := (HD9.out.lt _ hk).2; omega⟩⟩
              clear SE hq10 fr10 hu10 HQ9 HD9 HO9 HP9 HB9 HS HBG g5 hmc
              have DU := rsee_any HD10.out rv m cap' a.A (HRA.out.1.below HB10.out) HRA.out.2.1 HRA.out.2.2 (fun _ => by have := HM1.out; omega)
              have g5 := HP10.out.1.2.1 5 _ rfl
              go_wp2_with fail
              refine DU.mono ?_
              rintro en w11 ⟨rfl, Sd9, hd11, fr11, hs11⟩
              have HD11 : Hid (Dn w1.heap.size w11 db R a.A Sd9) := hd11
              have HQ11 : Hid (Qn w1.heap.size w11 qb (R.map (wrR a.A)) a.A Sq U9) := HQ10.out.kept fr11 (fun k hk hm => by
                rcases hk with q | q
                · exact (HGU.out.2.2 k hm).1 q
                · exact (HGU.out.2.2 k hm).2 q)
              have HO11 : Hid (w11.ownsRow B6 39 5 (.slice (some ⟨g, 0, none⟩) m1 rc9) m1 (flatA (a.A ++ [⟨-77, 0, 0, 0, 0⟩]))) := own_fr fr11 HO10.out (fun k e => by
                have : some g = some k := e
                simp at this
                subst this
                exact HGN.out.2.1)
              have HP11 : Hid (AtL w11 p6 [.int .i64 a.k, .int .i64 a.x.s, .int .i64 a.x.r, .int .i64 a.x.c, .int .i64 a.n, .slice rv m cap']) := HP10.out.1.fr fr11 HP10.out.2
              have HB11 : Hid (Below w1.heap.size w1 w11) := Below.of_fr HB10.out fr11 (fun k hk => (HD10.out.lt k hk).1) HB10.out.size
              have HS9 : Hid (∀ k ∈ Sd9, k ∉ Sq ∧ k ∉ U9) := fun k hk => by
                rcases hs11 k hk with q | q
                · exact HGU.out.2.2 k q
                · exact ⟨fun hm => by have := HQ10.out.lt k hm; omega, fun hm => by have := HQ10.out.ult k hm; omega⟩
              have HGA : Hid (g ≠ p6 ∧ (∀ k, (k ∈ Sq ∨ k ∈ U9) → k ∉ [g]) ∧ ∀ k ∈ Sd9, k ∉ [g]) := by
                refine ⟨HGN.out.2.2.1, fun k hk hm => ?_, fun k hk hm => ?_⟩
                · simp only [List.mem_singleton] at hm
                  subst hm
                  rcases hk with q | q
                  · exact HGN.out.1 q
                  · exact HGU.out.1 q
                · simp only [List.mem_singleton] at hm
                  subst hm
                  rcases hs11 _ hk with q | q
                  · exact HGN.out.2.1 q
                  · have := HGU.out.2.1
                    omega
              have HGB : Hid (w1.heap.size ≤ g) := HGN.out.2.2.2
              clear DU hd11 fr11 hs11 HQ10 HD10 HO10 HP10 HB10 HGU HGN g5
              go_upto_region 23 with fail
              go_loopg [8] m (fun gk x wr => ∃ (k : Nat) (D : List Wpl.Ar), x = .int .i64 (k : Int) ∧ gk = m - k ∧ Hid (k ≤ m ∧ D.length = m1 ∧ (∀ u, k ≤ u → u < m → D[u]? = a.A[u]?) ∧ D[m]? = some ⟨-77, 0, 0, 0, 0⟩) ∧ Hid (wr.ownsRow B6 39 5 (.slice (some ⟨g, 0, none⟩) m1 rc9) m1 (flatA D)) ∧ Hid (Qn w1.heap.size wr qb (R.map (wrR a.A)) a.A Sq U9) ∧ Hid (Dn w1.heap.size wr db R a.A Sd9) ∧ Hid (AtL wr p6 [.int .i64 a.k, .int .i64 a.x.s, .int .i64 a.x.r, .int .i64 a.x.c, .int .i64 a.n, .slice rv m cap']) ∧ Hid (Below w1.heap.size w1 wr))
              case atStart =>
                refine ⟨0, a.A ++ [⟨-77, 0, 0, 0, 0⟩], rfl, rfl, ⟨Nat.zero_le _, ?_, fun u _ hu => ?_, ?_⟩, HO11, HQ11, HD11, HP11, HB11⟩
                · have := HM1.out
                  have := HRA.out.2.1
                  simp
                  omega
                · rw [List.getElem?_append_left (by have := HRA.out.2.1; omega)]
                · rw [List.getElem?_append_right (by have := HRA.out.2.1; omega), HRA.out.2.1]
                  simp
              case round =>
                clear HQ11 HD11 HO11 HP11 HB11
                obtain ⟨k, D, rfl, hg2, HK, HO, HQ, HD, HP, HBB⟩ := hrel
                generalize hw9 : wr = W8 at *
                clear hw9
                by_cases hlt2 : k < m
                · have hk1 : (k : Int) < (m : Int) := by omega
                  have hk2 : (k : Int) < (m1 : Int) := by have := HM1.out; omega
                  have hkz : (0 : Int) ≤ (k : Int) := by omega
                  have hwk : IntKind.i64.wrap ((k : Int) + 1) = (k : Int) + 1 := by have := HM1.out; rw [IntKind.wrap_i64]; omega
                  obtain ⟨y, hy⟩ : ∃ y, a.A[k]? = some y := ⟨a.A[k]'(by rw [HRA.out.2.1]; exact hlt2), List.getElem?_eq_getElem _⟩
                  have hD := (HK.out.2.2.1 k (Nat.le_refl _) hlt2).trans hy
                  obtain ⟨b2, o2, e2, j5⟩ := (RdQ.of_own HO.out).at5 hD
                  cases e2
                  obtain ⟨bb, off, e, k5⟩ := (HRA.out.1.below HBB.out).at5 hy
                  have g5 := HP.out.2.1 5 _ rfl
                  simp only [Nat.zero_add] at j5
                  subst e
                  clear hy hD
                  go_upto_region 25 with fail
                  have hb1 := (Below.refl W8.heap.size W8).drew
                  refine wp_region_held_drew (S := fun W => Five5 W g (k * 5) y ∧ Five5 W bb (off + k * 5) y ∧ W.cell? ⟨p6, 5, none⟩ = some (.slice (some ⟨bb, off, none⟩) m cap')) (by kernel_rfl) ⟨j5.below hb1, k5.below hb1, cell_below hb1 g5⟩ (fun hHeld => ?_)
                  have HO2 : Hid (W8.drew.ownsRow B6 39 5 (.slice (some ⟨g, 0, none⟩) m1 rc9) m1 (flatA D)) := own_fr (Fr.of_below [] hb1) HO.out (by simp)
                  have HQ2 : Hid (Qn w1.heap.size W8.drew qb (R.map (wrR a.A)) a.A Sq U9) := HQ.out.below hb1
                  have HD2 : Hid (Dn w1.heap.size W8.drew db R a.A Sd9) := HD.out.below hb1
                  have HP2 : Hid (AtL W8.drew p6 [.int .i64 a.k, .int .i64 a.x.s, .int .i64 a.x.r, .int .i64 a.x.c, .int .i64 a.n, .slice (some ⟨bb, off, none⟩) m cap']) := AtL.below hb1 HP.out
                  have HB2 : Hid (Below w1.heap.size w1 W8.drew) := below_end HBB.out hb1
                  clear hb1 j5 k5 g5 HO HQ HD HP HBB
                  generalize W8.drew = W7 at *
                  refine wpAnyH_take (i := 0) (oi := { dst := Option.some 80, op := Op.move (Operand.tmp 7), type := 29, pos := "law.go:87", after := #[], guard := Option.none }) (v := ?_) rfl (by kernel_rfl) (by kernel_rfl) (by kernel_rfl) (fun _ _ _ h => h) (Or.inl ⟨by rfl, ?_⟩) (by assumption) ?_
                  rotate_left
                  · intro w hSw
                    (try dsimp only at hSw)
                    go_simp
                    try with_reducible rfl
                  try simp only [Act.put, List.setIfInBounds_toArray, List.set_cons_zero, List.set_cons_succ]
                  refine wpAnyH_take (i := 1) (oi := { dst := Option.some 81, op := Op.move (Operand.tmp 8), type := 3, pos := "law.go:87", after := #[], guard := Option.none }) (v := ?_) rfl (by kernel_rfl) (by kernel_rfl) (by kernel_rfl) (fun _ _ _ h => h) (Or.inl ⟨by rfl, ?_⟩) (by assumption) ?_
                  rotate_left
                  · intro w hSw
                    (try dsimp only at hSw)
                    go_simp
                    try with_reducible rfl
                  try simp only [Act.put, List.setIfInBounds_toArray, List.set_cons_zero, List.set_cons_succ]
                  refine wpAnyH_take (i := 2) (oi := { dst := Option.some 82, op := Op.indexAddr 29 (Operand.tmp 80) (Operand.tmp 81), type := 0, pos := "law.go:87", after := #[{ on := 0, ground := Ground.data }, { on := 1, ground := Ground.data }], guard := Option.none }) (v := ?_) rfl (by kernel_rfl) (by kernel_rfl) (by kernel_rfl) (fun _ _ _ h => h) (Or.inl ⟨by rfl, ?_⟩) (by assumption) ?_
                  rotate_left
                  · intro w hSw
                    (try dsimp only at hSw)
                    go_simp
                    try with_reducible rfl
                  try simp only [Act.put, List.setIfInBounds_toArray, List.set_cons_zero, List.set_cons_succ]
                  refine wpAnyH_take (i := 3) (oi := { dst := Option.some 83, op := Op.load 39 (Operand.tmp 82), type := 39, pos := "law.go:87", after := #[{ on := 2, ground := Ground.data }], guard := Option.none }) (v := ?_) rfl (by kernel_rfl) (by kernel_rfl) (by kernel_rfl) (fun _ _ _ h => h) (Or.inl ⟨by rfl, ?_⟩) (by assumption) ?_
                  rotate_left
                  · intro w hSw
                    (try dsimp only at hSw)
                    go_simp
                    try with_reducible rfl
                  try simp only [Act.put, List.setIfInBounds_toArray, List.set_cons_zero, List.set_cons_succ]
                  refine wpAnyH_take (i := 4) (oi := { dst := Option.some 84, op := Op.fieldAddr 35 (Operand.tmp 6) 3, type := 0, pos := "law.go:87", after := #[], guard := Option.none }) (v := ?_) rfl (by kernel_rfl) (by kernel_rfl) (by kernel_rfl) (fun _ _ _ h => h) (Or.inl ⟨by rfl, ?_⟩) (by assumption) ?_
                  rotate_left
                  · intro w hSw
                    (try dsimp only at hSw)
                    go_simp
                    try with_reducible rfl
                  try simp only [Act.put, List.setIfInBounds_toArray, List.set_cons_zero, List.set_cons_succ]
                  refine wpAnyH_take (i := 5) (oi := { dst := Option.some 85, op := Op.load 29 (Operand.tmp 84), type := 29, pos := "law.go:87", after := #[{ on := 4, ground := Ground.data }], guard := Option.none }) (v := ?_) rfl (by kernel_rfl) (by kernel_rfl) (by kernel_rfl) (fun _ _ _ h => h) (Or.inl ⟨by rfl, ?_⟩) (by assumption) ?_
                  rotate_left
                  · intro w hSw
                    (try dsimp only at hSw)
                    go_simp
                    try with_reducible rfl
                  try simp only [Act.put, List.setIfInBounds_toArray, List.set_cons_zero, List.set_cons_succ]
                  refine wpAnyH_take (i := 6) (oi := { dst := Option.some 86, op := Op.move (Operand.tmp 8), type := 3, pos := "law.go:87", after := #[], guard := Option.none }) (v := ?_) rfl (by kernel_rfl) (by kernel_rfl) (by kernel_rfl) (fun _ _ _ h => h) (Or.inl ⟨by rfl, ?_⟩) (by assumption) ?_
                  rotate_left
                  · intro w hSw
                    (try dsimp only at hSw)
                    go_simp
                    try with_reducible rfl
                  try simp only [Act.put, List.setIfInBounds_toArray, List.set_cons_zero, List.set_cons_succ]
                  refine wpAnyH_take (i := 7) (oi := { dst := Option.some 87, op := Op.indexAddr 29 (Operand.tmp 85) (Operand.tmp 86), type := 0, pos := "law.go:87", after := #[{ on := 5, ground := Ground.data }, { on := 6, ground := Ground.data }], guard := Option.none }) (v := ?_) rfl (by kernel_rfl) (by kernel_rfl) (by kernel_rfl) (fun _ _ _ h => h) (Or.inl ⟨by rfl, ?_⟩) (by assumption) ?_
                  rotate_left
                  · intro w hSw
                    (try dsimp only at hSw)
                    go_simp
                    try with_reducible rfl
                  try simp only [Act.put, List.setIfInBounds_toArray, List.set_cons_zero, List.set_cons_succ]
                  refine wpAnyH_take (i := 8) (oi := { dst := Option.some 88, op := Op.load 39 (Operand.tmp 87), type := 39, pos := "law.go:87", after := #[{ on := 7, ground := Ground.data }], guard := Option.none }) (v := ?_) rfl (by kernel_rfl) (by kernel_rfl) (by kernel_rfl) (fun _ _ _ h => h) (Or.inl ⟨by rfl, ?_⟩) (by assumption) ?_
                  rotate_left
                  · intro w hSw
                    (try dsimp only at hSw)
                    go_simp
                    try with_reducible rfl
                  try simp only [Act.put, List.setIfInBounds_toArray, List.set_cons_zero, List.set_cons_succ]
                  refine wpAnyH_take (i := 9) (oi := { dst := Option.some 89, op := Op.binOp BinOp.neq 39 (Operand.tmp 83) (Operand.tmp 88) 39, type := 4, pos := "law.go:87", after := #[{ on := 3, ground := Ground.data }, { on := 8, ground := Ground.data }], guard := Option.none }) (v := .bool false) rfl (by kernel_rfl) (by kernel_rfl) (by kernel_rfl) (fun _ _ _ h => h) (Or.inl ⟨by rfl, ?_⟩) (by assumption) ?_
                  · intro w hSw
                    first | (go_simp; done) | (go_simp; simp [go_sem]; done) | (simp [go_sem, execOp, neqAr_run]; done)
                  try simp only [Act.put, List.setIfInBounds_toArray, List.set_cons_zero, List.set_cons_succ]
                  refine wpAnyH_done (by kernel_rfl) ?_ _
                  clear hHeld
                  have th := own_thereA HO2.out (i := k) (by have := HM1.out; omega)
                  have HO3 : Hid ((W7.setCells g (k * 5) (arQ ⟨-78, 0, 0, 0, 0⟩)).ownsRow B6 39 5 (.slice (some ⟨g, 0, none⟩) m1 rc9) m1 (flatA (D.set k ⟨-78, 0, 0, 0, 0⟩))) := own_putA HO2.out HK.out.2.1 (by have := HM1.out; omega) _
                  have fr3 : Fr [g] W7 (W7.setCells g (k * 5) (arQ ⟨-78, 0, 0, 0, 0⟩)) := setCells_fr W7 g _ _
                  have HQ3 : Hid (Qn w1.heap.size (W7.setCells g (k * 5) (arQ ⟨-78, 0, 0, 0, 0⟩)) qb (R.map (wrR a.A)) a.A Sq U9) := HQ2.out.kept fr3 HGA.out.2.1
                  have HD3 : Hid (Dn w1.heap.size (W7.setCells g (k * 5) (arQ ⟨-78, 0, 0, 0, 0⟩)) db R a.A Sd9) := HD2.out.kept fr3 HGA.out.2.2
                  have HP3 : Hid (AtL (W7.setCells g (k * 5) (arQ ⟨-78, 0, 0, 0, 0⟩)) p6 [.int .i64 a.k, .int .i64 a.x.s, .int .i64 a.x.r, .int .i64 a.x.c, .int .i64 a.n, .slice (some ⟨bb, off, none⟩) m cap']) := HP2.out.fr fr3 (by simp only [List.mem_singleton]; exact fun e => HGA.out.1 e.symm)
                  have HB3 : Hid (Below w1.heap.size w1 (W7.setCells g (k * 5) (arQ ⟨-78, 0, 0, 0, 0⟩))) := Below.of_fr HB2.out fr3 (by simpa using HGB.out) HB2.out.size
                  have HK3 : Hid (k + 1 ≤ m ∧ (D.set k ⟨-78, 0, 0, 0, 0⟩).length = m1 ∧ (∀ u, k + 1 ≤ u → u < m → (D.set k ⟨-78, 0, 0, 0, 0⟩)[u]? = a.A[u]?) ∧ (D.set k ⟨-78, 0, 0, 0, 0⟩)[m]? = some ⟨-77, 0, 0, 0, 0⟩) := ⟨hlt2, by rw [List.length_set]; exact HK.out.2.1, fun u h1 h2 => by rw [List.getElem?_set_ne (by omega)]; exact HK.out.2.2.1 u (by omega) h2, by rw [List.getElem?_set_ne (by omega)]; exact HK.out.2.2.2⟩
                  clear fr3 HK HO2 HQ2 HD2 HP2 HB2
                  go_upto_region 27 with fail
                  go_wp2_with ((with_reducible refine wpList_store_mid ?_ 39 (.tmp 93) (.tmp 92) ?_ g (k * 5) (arQ ⟨-78, 0, 0, 0, 0⟩).toArray ?_ ?_ ?_ ?_ ?_ ?_); rfl; rfl; rfl; rfl; exact th; kernel_rfl; exact oneA5 _)
                  go_roundg (m - (k + 1))
                  case rel => exact ⟨k + 1, D.set k ⟨-78, 0, 0, 0, 0⟩, by simp, rfl, HK3, HO3, HQ3, HD3, HP3, HB3⟩
                  case measure => omega

                · have hk1 : ¬ (k : Int) < (m : Int) := by omega
                  have hmm : (m : Int) < (m1 : Int) := by have := HM1.out; omega
                  have hmz : (0 : Int) ≤ (m : Int) := by omega
                  obtain ⟨b2, o2, e2, j5⟩ := (RdQ.of_own HO.out).at5 HK.out.2.2.2
                  cases e2
                  simp only [Nat.zero_add] at j5
                  obtain ⟨⟨j0, _⟩, _⟩ := j5
                  have g5 := HP.out.2.1 5 _ rfl
                  have HQ9 : Hid (Qn w1.heap.size W8 qb (R.map (wrR a.A)) a.A Sq U9) := HQ
                  have HD9 : Hid (Dn w1.heap.size W8 db R a.A Sd9) := HD
                  have HP9 : Hid (AtL W8 p6 [.int .i64 a.k, .int .i64 a.x.s, .int .i64 a.x.r, .int .i64 a.x.c, .int .i64 a.n, .slice rv m cap'] ∧ True) := ⟨HP.out, trivial⟩
                  have HB9 : Hid (Below w1.heap.size w1 W8) := HBB
                  have HZ9 : Hid (R.length ≤ i + 1 ∧ a.A.length ≤ 400) := ⟨by have := HZ.out; omega, HMA.out⟩
                  clear HQ HD HP HBB HO HK hlt2
                  go_upto_region 30 with fail
                  clear j0 g5
                  obtain ⟨v1, v2, eS9, hdq9, _, _⟩ := HD9.out
                  obtain ⟨a1, c1, a2, c2, e1, e2, hdr9⟩ := hdq9.dr
                  have LK := looks_any a.x HQ9.out hdr9 rfl (fun _ => by have := HZ9.out; have := HTT.out; omega) (fun _ => by have := HZ9.out; omega)
                  clear eS9 hdq9 e1 e2 hdr9
                  have g1 := HP9.out.1.2.1 1 _ rfl
                  have g2 := HP9.out.1.2.1 2 _ rfl
                  have g3 := HP9.out.1.2.1 3 _ rfl
                  go_wp2_with fail
                  refine LK.mono ?_
                  rintro en w10 ⟨rfl, hb10⟩
                  have HQ10 : Hid (Qn w1.heap.size w10 qb (R.map (wrR a.A)) a.A Sq U9) := HQ9.out.below hb10
                  have HD10 : Hid (Dn w1.heap.size w10 db R a.A Sd9) := HD9.out.below hb10
                  have HB10 : Hid (Below w1.heap.size w1 w10) := below_end HB9.out hb10
                  clear LK hb10 HQ9 HD9 HB9 HP9 g1 g2 g3
                  go_wp2_with fail
                  go_roundg (tn - (i + 1))
                  case rel => exact ⟨i + 1, R, a.A, Sq, U9, Sd9, by simp, rfl, ⟨hlt, HZ9.out.1, HZ9.out.2⟩, HQ10, HD10, HS9, HB10⟩
                  case measure => omega



            · go_upto_region 30 with fail
              clear g0
              have HQ9 : Hid (Qn w1.heap.size W6 qb (R.map (wrR A)) A Sq Uq) := HQ6
              have HD9 : Hid (Dn w1.heap.size W6 db R A Sd) := HD6
              have HS9 : Hid (∀ k ∈ Sd, k ∉ Sq ∧ k ∉ Uq) := HS
              have HP9 : Hid (AtL W6 p6 [.int .i64 a.k, .int .i64 a.x.s, .int .i64 a.x.r, .int .i64 a.x.c, .int .i64 a.n, .slice rv m cap'] ∧ True) := ⟨HP6.out.1, trivial⟩
              have HB9 : Hid (Below w1.heap.size w1 W6) := HB6
              have HZ9 : Hid (R.length ≤ i + 1 ∧ A.length ≤ 400) := ⟨by have := HZ.out; omega, HZ.out.2⟩
              clear HQ6 HD6 HP6 HB6 HS
              obtain ⟨v1, v2, eS9, hdq9, _, _⟩ := HD9.out
              obtain ⟨a1, c1, a2, c2, e1, e2, hdr9⟩ := hdq9.dr
              have LK := looks_any a.x HQ9.out hdr9 rfl (fun _ => by have := HZ9.out; have := HTT.out; omega) (fun _ => by have := HZ9.out; omega)
              clear eS9 hdq9 e1 e2 hdr9
              have g1 := HP9.out.1.2.1 1 _ rfl
              have g2 := HP9.out.1.2.1 2 _ rfl
              have g3 := HP9.out.1.2.1 3 _ rfl
              go_wp2_with fail
              refine LK.mono ?_
              rintro en w10 ⟨rfl, hb10⟩
              have HQ10 : Hid (Qn w1.heap.size w10 qb (R.map (wrR A)) A Sq Uq) := HQ9.out.below hb10
              have HD10 : Hid (Dn w1.heap.size w10 db R A Sd) := HD9.out.below hb10
              have HB10 : Hid (Below w1.heap.size w1 w10) := below_end HB9.out hb10
              clear LK hb10 HQ9 HD9 HB9 HP9 g1 g2 g3
              go_wp2_with fail
              go_roundg (tn - (i + 1))
              case rel => exact ⟨i + 1, R, A, Sq, Uq, Sd, by simp, rfl, ⟨hlt, HZ9.out.1, HZ9.out.2⟩, HQ10, HD10, HS9, HB10⟩
              case measure => omega

      · have hii : ¬ (i : Int) < (tn : Int) := by omega
        have HE : Hid (Below w.heap.size w W) := below_end HB1.out HB0.out
        clear HQ0 HD0 HB0 HS
        go_wp2
        go_ret
        exact ⟨rfl, HE.out⟩
end Go.Proofs.Ytpbjmhcpaeillaa
