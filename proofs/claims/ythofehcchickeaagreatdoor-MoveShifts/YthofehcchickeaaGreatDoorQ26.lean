/- MWalkC. -/
import Derived.Test.YthofehcchickeaaGreatDoorQ25
import Derived.Deep.RegionHeld3
import Derived.Deep.MidRow
namespace Go.Proofs.YthofehcchickeaaGreatDoor
abbrev z25n0 : Oper := { dst := some 38, op := .load 28 (.tmp 6), type := 28, pos := "move.go:71", after := #[], guard := none }
abbrev z25n1 : Oper := { dst := some 39, op := .load 28 (.tmp 8), type := 28, pos := "move.go:71", after := #[⟨7, .gcOnly .lateStores⟩], guard := none }
abbrev z25n2 : Oper := { dst := some 40, op := .move (.tmp 7), type := 4, pos := "move.go:71", after := #[], guard := none }
abbrev z25n3 : Oper := { dst := some 41, op := .move (.tmp 40), type := 4, pos := "move.go:71", after := #[⟨2, .data⟩], guard := none }
abbrev z25n4 : Oper := { dst := some 42, op := .move (.tmp 9), type := 4, pos := "move.go:71", after := #[⟨3, .guard⟩, ⟨9, .gcOnly .lateStores⟩], guard := some (3, Bool.true) }
abbrev z25n5 : Oper := { dst := some 43, op := .pick (.tmp 41) (.tmp 42) (Operand.const (Value.bool Bool.false)), type := 4, pos := "move.go:71", after := #[⟨3, .data⟩, ⟨4, .data⟩, ⟨9, .gcOnly .lateStores⟩], guard := none }
abbrev z25n6 : Oper := { dst := some 44, op := .fieldAddr 30 (.tmp 3) 5, type := 0, pos := "move.go:71", after := #[⟨0, .phase⟩, ⟨1, .textOnly .lateStores⟩, ⟨2, .textOnly .lateStores⟩, ⟨3, .textOnly .lateStores⟩, ⟨4, .textOnly .lateStores⟩, ⟨5, .textOnly .lateStores⟩], guard := none }
abbrev z25n7 : Oper := { dst := none, op := .store 28 (.tmp 44) (.tmp 38), type := 0, pos := "move.go:71", after := #[⟨6, .data⟩, ⟨0, .data⟩, ⟨3, .chain⟩, ⟨0, .phase⟩, ⟨1, .textOnly .lateStores⟩, ⟨2, .textOnly .lateStores⟩, ⟨3, .textOnly .lateStores⟩, ⟨4, .textOnly .lateStores⟩, ⟨5, .textOnly .lateStores⟩], guard := none }
abbrev z25n8 : Oper := { dst := some 45, op := .fieldAddr 30 (.tmp 3) 6, type := 0, pos := "move.go:71", after := #[⟨0, .phase⟩, ⟨1, .phase⟩, ⟨2, .textOnly .lateStores⟩, ⟨3, .textOnly .lateStores⟩, ⟨4, .textOnly .lateStores⟩, ⟨5, .textOnly .lateStores⟩, ⟨6, .phase⟩, ⟨7, .phase⟩], guard := none }
abbrev z25n9 : Oper := { dst := none, op := .store 28 (.tmp 45) (.tmp 39), type := 0, pos := "move.go:71", after := #[⟨8, .data⟩, ⟨1, .data⟩, ⟨7, .chain⟩, ⟨0, .phase⟩, ⟨1, .phase⟩, ⟨2, .textOnly .lateStores⟩, ⟨3, .textOnly .lateStores⟩, ⟨4, .textOnly .lateStores⟩, ⟨5, .textOnly .lateStores⟩, ⟨6, .phase⟩, ⟨7, .phase⟩], guard := none }
abbrev z25n10 : Oper := { dst := some 5, op := .assign (.tmp 43), type := 4, pos := "move.go:71", after := #[⟨5, .data⟩, ⟨9, .chain⟩, ⟨0, .phase⟩, ⟨1, .phase⟩, ⟨2, .phase⟩, ⟨3, .phase⟩, ⟨4, .phase⟩, ⟨5, .phase⟩, ⟨6, .phase⟩, ⟨7, .phase⟩, ⟨8, .phase⟩, ⟨9, .phase⟩], guard := none }
open Go.RowKit Go.Shelf
set_option linter.unusedVariables false
set_option maxHeartbeats 4000000 in
set_option maxRecDepth 100000 in
theorem wnode_3tt (x y : Int) (n : Wt.Nd) (h3 : n.k = 3) (hq : okR x y n.a = true) (hq2 : okR x y n.b = true) (w : World) : Calls Tryz.prog 15 #[.agg #[.int .i64 x, .int .i64 y], .agg (nd20 n).toArray] w fun e w' => e = .returned (.agg (nd20 (mvN x y n)).toArray) ∧ Below w.heap.size w w' := by
  have C1 := fun w => wref_any x y n.a w
  have C2 := fun w => wref_any x y n.b w
  have hm : Hid (mvN x y n = ⟨n.k, n.v, n.op, n.nm, n.ar, mvR x y n.a, mvR x y n.b⟩) := by show _ = _; unfold mvN; rw [if_neg (by omega), if_pos h3, hq, hq2]; rfl
  rw [hm.out]
  rw [hq] at C1
  rw [hq2] at C2
  clear hm hq hq2
  obtain ⟨n2, hn2⟩ : ∃ n2 : Wt.Nd, (⟨n.k, n.v, n.op, n.nm, n.ar, mvR x y n.a, mvR x y n.b⟩ : Wt.Nd) = n2 := ⟨_, rfl⟩
  rw [hn2]
  have Hn2 : Hid ((⟨n.k, n.v, n.op, n.nm, n.ar, mvR x y n.a, mvR x y n.b⟩ : Wt.Nd) = n2) := hn2
  clear hn2
  generalize mvR x y n.a = a' at *
  generalize mvR x y n.b = b' at *
  have pB := ((AtL.new0 w 50 [.int .i64 x, .int .i64 y]).alloc (.cells (nd20 n).toArray 30)).alloc (.cells zC 30)
  have pN := (AtL.new1 w (.cells #[.int .i64 x, .int .i64 y] 50) 30 (nd20 n)).alloc (.cells zC 30)
  have pR : AtL (((w.alloc (.cells #[.int .i64 x, .int .i64 y] 50)).alloc (.cells (nd20 n).toArray 30)).alloc (.cells zC 30)) (w.heap.size + 2) (nd20 zeroN) := AtL.new _ _ (by simp) _
  have hB := ball (ball (ball (Below.refl _ w) (.cells #[.int .i64 x, .int .i64 y] 50)) (.cells (nd20 n).toArray 30)) (.cells zC 30)
  go_enter Tryz.func15, Tryz.ntmps15
  go_upto_region 1 with fail
  generalize (((w.alloc (.cells #[.int .i64 x, .int .i64 y] 50)).alloc (.cells (nd20 n).toArray 30)).alloc (.cells zC 30)) = W at *
  obtain ⟨b0, b1, k0, k1⟩ := pB.two
  have n0 : W.cell? ⟨w.heap.size + 1, 0, none⟩ = some (.int .i64 n.k) := pN.2.1 0 _ rfl
  have rA := nd_a pN
  rw [h3] at n0
  go_wp2_with ((with_reducible refine wpList_load_mid (cs := rf5 n.a) ?_ 28 (.tmp 26) ?_ (w.heap.size + 1) 10 ?_ _ ?_ Tryz.underlying28 ?_ ?_ ?_); rfl; rfl; rfl; exact rA; rfl; kernel_rfl)
  refine (C1 _).mono ?_
  rintro e w1 ⟨rfl, hb⟩
  have qW := AtL.below hb pB
  have qN := AtL.below hb pN
  have qR := AtL.below hb pR
  have qB := below_end hB hb
  clear hb pN pR hB pB b0 b1 k0 k1 n0 rA C1
  have q6 := (AtL.new0 w1 28 [.string ⟨#[]⟩, .int .i64 0, .int .i64 0, .bool false, .bool false]).setAll (vs := rf5 a') rfl
  have sT : (w1.alloc (.cells #[.string ⟨#[]⟩, .int .i64 0, .int .i64 0, .bool false, .bool false] 28)).there w1.heap.size 0 (rf5 a').toArray.size := (AtL.new0 w1 28 [.string ⟨#[]⟩, .int .i64 0, .int .i64 0, .bool false, .bool false]).there
  have lt1 := qR.lt
  have sW := (qW.alloc (.cells #[.string ⟨#[]⟩, .int .i64 0, .int .i64 0, .bool false, .bool false] 28)).farAll (b := w1.heap.size) (by omega) 0 (rf5 a')
  have sN := (qN.alloc (.cells #[.string ⟨#[]⟩, .int .i64 0, .int .i64 0, .bool false, .bool false] 28)).farAll (b := w1.heap.size) (by omega) 0 (rf5 a')
  have sR := (qR.alloc (.cells #[.string ⟨#[]⟩, .int .i64 0, .int .i64 0, .bool false, .bool false] 28)).farAll (b := w1.heap.size) (by omega) 0 (rf5 a')
  have sB := bset (ball qB (.cells #[.string ⟨#[]⟩, .int .i64 0, .int .i64 0, .bool false, .bool false] 28)) (k := w1.heap.size) (by omega) (rf5 a') 0
  go_upto_region 7 with ((with_reducible refine wpList_store_mid ?_ 28 (.tmp 6) (.tmp 29) ?_ (w1.heap.size) 0 (rf5 a').toArray ?_ ?_ ?_ ?_ ?_ ?_); rfl; rfl; rfl; rfl; exact sT; kernel_rfl; exact one5 _)
  generalize (w1.alloc (.cells #[.string ⟨#[]⟩, .int .i64 0, .int .i64 0, .bool false, .bool false] 28)).setCells w1.heap.size 0 (rf5 a').toArray.toList = W1 at *
  have lt6 := q6.lt
  have hk6 : w.heap.size + 2 < w1.heap.size := lt1
  generalize w1.heap.size = k6 at *
  clear qW qN qR qB sT lt1
  obtain ⟨b0, b1, k0, k1⟩ := sW.two
  have rA := nd_b sN
  go_wp2_with ((with_reducible refine wpList_load_mid (cs := rf5 n.b) ?_ 28 (.tmp 33) ?_ (w.heap.size + 1) 15 ?_ _ ?_ Tryz.underlying28 ?_ ?_ ?_); rfl; rfl; rfl; exact rA; rfl; kernel_rfl)
  refine (C2 _).mono ?_
  rintro e w2 ⟨rfl, hb⟩
  have qN := AtL.below hb sN
  have qR := AtL.below hb sR
  have q66 := AtL.below hb q6
  have qB := below_end sB hb
  have sz2 := hb.size
  clear hb sN sR sB sW b0 b1 k0 k1 rA C2 q6
  have q8 := (AtL.new0 w2 28 [.string ⟨#[]⟩, .int .i64 0, .int .i64 0, .bool false, .bool false]).setAll (vs := rf5 b') rfl
  have sT : (w2.alloc (.cells #[.string ⟨#[]⟩, .int .i64 0, .int .i64 0, .bool false, .bool false] 28)).there w2.heap.size 0 (rf5 b').toArray.size := (AtL.new0 w2 28 [.string ⟨#[]⟩, .int .i64 0, .int .i64 0, .bool false, .bool false]).there
  have s6 := (q66.alloc (.cells #[.string ⟨#[]⟩, .int .i64 0, .int .i64 0, .bool false, .bool false] 28)).farAll (b := w2.heap.size) (by omega) 0 (rf5 b')
  have sN := (qN.alloc (.cells #[.string ⟨#[]⟩, .int .i64 0, .int .i64 0, .bool false, .bool false] 28)).farAll (b := w2.heap.size) (by omega) 0 (rf5 b')
  have sR := (qR.alloc (.cells #[.string ⟨#[]⟩, .int .i64 0, .int .i64 0, .bool false, .bool false] 28)).farAll (b := w2.heap.size) (by omega) 0 (rf5 b')
  have sB := bset (ball qB (.cells #[.string ⟨#[]⟩, .int .i64 0, .int .i64 0, .bool false, .bool false] 28)) (k := w2.heap.size) (by omega) (rf5 b') 0
  have hk8 : k6 < w2.heap.size := by omega
  go_upto_region 8 with ((with_reducible refine wpList_store_mid ?_ 28 (.tmp 8) (.tmp 36) ?_ (w2.heap.size) 0 (rf5 b').toArray ?_ ?_ ?_ ?_ ?_ ?_); rfl; rfl; rfl; rfl; exact sT; kernel_rfl; exact one5 _)
  generalize (w2.alloc (.cells #[.string ⟨#[]⟩, .int .i64 0, .int .i64 0, .bool false, .bool false] 28)).setCells w2.heap.size 0 (rf5 b').toArray.toList = W2 at *
  generalize w2.heap.size = k8 at *
  clear qN qR qB sT q66 lt6 sz2
  replace q8 := AtL.drew q8
  replace s6 := AtL.drew s6
  replace sN := AtL.drew sN
  replace sR := AtL.drew sR
  replace sB := sB.drew
  refine wp_region_held_drew (S := fun W => W.rangeAt k6 0 (rf5 a') ∧ W.rangeAt k8 0 (rf5 b')) (by kernel_rfl) ⟨s6.range, q8.range⟩ (fun hHeld => ?_)
  generalize W2.drew = WD at *
  refine wpAnyH_take (i := 0) (oi := z25n0) (v := .agg (rf5 a').toArray) rfl (by kernel_rfl) (by kernel_rfl) (by kernel_rfl) (fun _ _ _ h => h) (yieldsIf_load_mid (by rfl) 28 (.tmp 6) rfl k6 0 rfl (rf5 a') _ (fun _ h => h.1) Tryz.underlying28 rfl (by kernel_rfl)) (by assumption) ?_
  try simp only [Act.put, lA, lZ, lS]
  refine wpAnyH_take (i := 1) (oi := z25n1) (v := .agg (rf5 b').toArray) rfl (by kernel_rfl) (by kernel_rfl) (by kernel_rfl) (fun _ _ _ h => h) (yieldsIf_load_mid (by rfl) 28 (.tmp 8) rfl k8 0 rfl (rf5 b') _ (fun _ h => h.2) Tryz.underlying28 rfl (by kernel_rfl)) (by assumption) ?_
  try simp only [Act.put, lA, lZ, lS]
  refine tkQ 2 z25n2 ?_; try simp only [Act.put, lA, lZ, lS]
  refine tkQ 3 z25n3 ?_; try simp only [Act.put, lA, lZ, lS]
  refine tkQ 4 z25n4 ?_; try simp only [Act.put, lA, lZ, lS]
  refine tkQ 5 z25n5 ?_; try simp only [Act.put, lA, lZ, lS]
  refine tkQ 6 z25n6 ?_; try simp only [Act.put, lA, lZ, lS]
  refine wpAnyH_ready (rs := [7]) (by kernel_rfl) (by simp) ?_
  refine AllReadyH.cons (o := z25n7) rfl (fun K hK => ?_) AllReadyH.nil
  refine wp_store_mid 28 (.tmp 44) (.tmp 38) rfl (w.heap.size + 1) 10 (rf5 a').toArray rfl rfl (sN.thereSub 10 5 (by show 10 + 5 ≤ 20; omega)) (by kernel_rfl) (one5 _) ?_
  have tN := nd_setA sN a'
  have t6 := s6.farAll (b := w.heap.size + 1) (by omega) 10 (rf5 a')
  have t8 := q8.farAll (b := w.heap.size + 1) (by omega) 10 (rf5 a')
  have tR := sR.farAll (b := w.heap.size + 1) (by omega) 10 (rf5 a')
  have tB := bset sB (k := w.heap.size + 1) (by omega) (rf5 a') 10
  refine hK.out _ _ ⟨t6.range, t8.range⟩ (fun hHeld => ?_)
  clear hK K sN s6 q8 sR sB
  generalize WD.setCells (w.heap.size + 1) 10 (rf5 a').toArray.toList = WE at *
  try simp only [Act.put]
  refine tkQ 8 z25n8 ?_; try simp only [Act.put, lA, lZ, lS]
  refine wpAnyH_ready (rs := [9]) (by kernel_rfl) (by simp) ?_
  refine AllReadyH.cons (o := z25n9) rfl (fun K hK => ?_) AllReadyH.nil
  refine wp_store_mid 28 (.tmp 45) (.tmp 39) rfl (w.heap.size + 1) 15 (rf5 b').toArray rfl rfl (tN.thereSub 15 5 (by show 15 + 5 ≤ 20; omega)) (by kernel_rfl) (one5 _) ?_
  have uN := nd_setB tN b'
  have u6 := t6.farAll (b := w.heap.size + 1) (by omega) 15 (rf5 b')
  have u8 := t8.farAll (b := w.heap.size + 1) (by omega) 15 (rf5 b')
  have uR := tR.farAll (b := w.heap.size + 1) (by omega) 15 (rf5 b')
  have uB := bset tB (k := w.heap.size + 1) (by omega) (rf5 b') 15
  refine hK.out _ _ ⟨u6.range, u8.range⟩ (fun hHeld => ?_)
  clear hK K tN t6 t8 tR tB
  generalize WE.setCells (w.heap.size + 1) 15 (rf5 b').toArray.toList = WF at *
  try simp only [Act.put]
  refine wpAnyH_ready (rs := [10]) (by kernel_rfl) (by simp) ?_
  refine AllReadyH.cons (o := z25n10) rfl (fun K hK => ?_) AllReadyH.nil
  go_simp
  refine hK.out _ _ ⟨u6.range, u8.range⟩ (fun hHeld => ?_)
  clear hK K u6 u8
  try simp only [Act.put, lA, lZ, lS]
  refine wpAnyH_done (by kernel_rfl) ?_ _
  simp only at uN
  rw [Hn2.out] at uN
  have rN : WF.rangeAt (w.heap.size + 1) 0 (nd20 n2) := uN.range
  have rT : WF.there (w.heap.size + 2) 0 (nd20 n2).toArray.size := uR.there
  go_wp2_with (first | ((with_reducible refine wpList_load_mid (cs := nd20 n2) ?_ 30 (.tmp 3) ?_ (w.heap.size + 1) 0 ?_ _ ?_ Tryz.underlying30 ?_ ?_ ?_); rfl; rfl; rfl; exact rN; rfl; kernel_rfl) | ((with_reducible refine wpList_store_mid ?_ 30 (.tmp 4) (.tmp 50) ?_ (w.heap.size + 2) 0 (nd20 n2).toArray ?_ ?_ ?_ ?_ ?_ ?_); rfl; rfl; rfl; rfl; exact rT; kernel_rfl; exact one20 _))
  have rR2 := AtL.setAll uR (vs := nd20 n2) rfl
  refine bodyPost_ret (v := .agg (nd20 n2).toArray) (results_cell (by rfl) _ _ (w.heap.size + 2) (nd20 n2) _ (by rfl) rR2.range Tryz.underlying30 rfl (by kernel_rfl)) rfl ⟨rfl, ?_⟩
  exact bset uB (by omega) _ _
set_option maxHeartbeats 4000000 in
set_option maxRecDepth 100000 in
theorem wnode_3tf (x y : Int) (n : Wt.Nd) (h3 : n.k = 3) (hq : okR x y n.a = true) (hq2 : okR x y n.b = false) (w : World) : Calls Tryz.prog 15 #[.agg #[.int .i64 x, .int .i64 y], .agg (nd20 n).toArray] w fun e w' => e = .returned (.agg (nd20 (mvN x y n)).toArray) ∧ Below w.heap.size w w' := by
  have C1 := fun w => wref_any x y n.a w
  have C2 := fun w => wref_any x y n.b w
  have hm : Hid (mvN x y n = lostN) := by show _ = _; unfold mvN; rw [if_neg (by omega), if_pos h3, hq, hq2]; rfl
  rw [hm.out]
  rw [hq] at C1
  rw [hq2] at C2
  clear hm hq hq2
  generalize mvR x y n.a = a' at *
  generalize mvR x y n.b = b' at *
  have pB := ((AtL.new0 w 50 [.int .i64 x, .int .i64 y]).alloc (.cells (nd20 n).toArray 30)).alloc (.cells zC 30)
  have pN := (AtL.new1 w (.cells #[.int .i64 x, .int .i64 y] 50) 30 (nd20 n)).alloc (.cells zC 30)
  have pR : AtL (((w.alloc (.cells #[.int .i64 x, .int .i64 y] 50)).alloc (.cells (nd20 n).toArray 30)).alloc (.cells zC 30)) (w.heap.size + 2) (nd20 zeroN) := AtL.new _ _ (by simp) _
  have hB := ball (ball (ball (Below.refl _ w) (.cells #[.int .i64 x, .int .i64 y] 50)) (.cells (nd20 n).toArray 30)) (.cells zC 30)
  go_enter Tryz.func15, Tryz.ntmps15
  go_upto_region 1 with fail
  generalize (((w.alloc (.cells #[.int .i64 x, .int .i64 y] 50)).alloc (.cells (nd20 n).toArray 30)).alloc (.cells zC 30)) = W at *
  obtain ⟨b0, b1, k0, k1⟩ := pB.two
  have n0 : W.cell? ⟨w.heap.size + 1, 0, none⟩ = some (.int .i64 n.k) := pN.2.1 0 _ rfl
  have rA := nd_a pN
  rw [h3] at n0
  go_wp2_with ((with_reducible refine wpList_load_mid (cs := rf5 n.a) ?_ 28 (.tmp 26) ?_ (w.heap.size + 1) 10 ?_ _ ?_ Tryz.underlying28 ?_ ?_ ?_); rfl; rfl; rfl; exact rA; rfl; kernel_rfl)
  refine (C1 _).mono ?_
  rintro e w1 ⟨rfl, hb⟩
  have qW := AtL.below hb pB
  have qN := AtL.below hb pN
  have qR := AtL.below hb pR
  have qB := below_end hB hb
  clear hb pN pR hB pB b0 b1 k0 k1 n0 rA C1
  have q6 := (AtL.new0 w1 28 [.string ⟨#[]⟩, .int .i64 0, .int .i64 0, .bool false, .bool false]).setAll (vs := rf5 a') rfl
  have sT : (w1.alloc (.cells #[.string ⟨#[]⟩, .int .i64 0, .int .i64 0, .bool false, .bool false] 28)).there w1.heap.size 0 (rf5 a').toArray.size := (AtL.new0 w1 28 [.string ⟨#[]⟩, .int .i64 0, .int .i64 0, .bool false, .bool false]).there
  have lt1 := qR.lt
  have sW := (qW.alloc (.cells #[.string ⟨#[]⟩, .int .i64 0, .int .i64 0, .bool false, .bool false] 28)).farAll (b := w1.heap.size) (by omega) 0 (rf5 a')
  have sN := (qN.alloc (.cells #[.string ⟨#[]⟩, .int .i64 0, .int .i64 0, .bool false, .bool false] 28)).farAll (b := w1.heap.size) (by omega) 0 (rf5 a')
  have sR := (qR.alloc (.cells #[.string ⟨#[]⟩, .int .i64 0, .int .i64 0, .bool false, .bool false] 28)).farAll (b := w1.heap.size) (by omega) 0 (rf5 a')
  have sB := bset (ball qB (.cells #[.string ⟨#[]⟩, .int .i64 0, .int .i64 0, .bool false, .bool false] 28)) (k := w1.heap.size) (by omega) (rf5 a') 0
  go_upto_region 7 with ((with_reducible refine wpList_store_mid ?_ 28 (.tmp 6) (.tmp 29) ?_ (w1.heap.size) 0 (rf5 a').toArray ?_ ?_ ?_ ?_ ?_ ?_); rfl; rfl; rfl; rfl; exact sT; kernel_rfl; exact one5 _)
  generalize (w1.alloc (.cells #[.string ⟨#[]⟩, .int .i64 0, .int .i64 0, .bool false, .bool false] 28)).setCells w1.heap.size 0 (rf5 a').toArray.toList = W1 at *
  have lt6 := q6.lt
  have hk6 : w.heap.size + 2 < w1.heap.size := lt1
  generalize w1.heap.size = k6 at *
  clear qW qN qR qB sT lt1
  obtain ⟨b0, b1, k0, k1⟩ := sW.two
  have rA := nd_b sN
  go_wp2_with ((with_reducible refine wpList_load_mid (cs := rf5 n.b) ?_ 28 (.tmp 33) ?_ (w.heap.size + 1) 15 ?_ _ ?_ Tryz.underlying28 ?_ ?_ ?_); rfl; rfl; rfl; exact rA; rfl; kernel_rfl)
  refine (C2 _).mono ?_
  rintro e w2 ⟨rfl, hb⟩
  have qN := AtL.below hb sN
  have qR := AtL.below hb sR
  have q66 := AtL.below hb q6
  have qB := below_end sB hb
  have sz2 := hb.size
  clear hb sN sR sB sW b0 b1 k0 k1 rA C2 q6
  have q8 := (AtL.new0 w2 28 [.string ⟨#[]⟩, .int .i64 0, .int .i64 0, .bool false, .bool false]).setAll (vs := rf5 b') rfl
  have sT : (w2.alloc (.cells #[.string ⟨#[]⟩, .int .i64 0, .int .i64 0, .bool false, .bool false] 28)).there w2.heap.size 0 (rf5 b').toArray.size := (AtL.new0 w2 28 [.string ⟨#[]⟩, .int .i64 0, .int .i64 0, .bool false, .bool false]).there
  have s6 := (q66.alloc (.cells #[.string ⟨#[]⟩, .int .i64 0, .int .i64 0, .bool false, .bool false] 28)).farAll (b := w2.heap.size) (by omega) 0 (rf5 b')
  have sN := (qN.alloc (.cells #[.string ⟨#[]⟩, .int .i64 0, .int .i64 0, .bool false, .bool false] 28)).farAll (b := w2.heap.size) (by omega) 0 (rf5 b')
  have sR := (qR.alloc (.cells #[.string ⟨#[]⟩, .int .i64 0, .int .i64 0, .bool false, .bool false] 28)).farAll (b := w2.heap.size) (by omega) 0 (rf5 b')
  have sB := bset (ball qB (.cells #[.string ⟨#[]⟩, .int .i64 0, .int .i64 0, .bool false, .bool false] 28)) (k := w2.heap.size) (by omega) (rf5 b') 0
  have hk8 : k6 < w2.heap.size := by omega
  go_upto_region 8 with ((with_reducible refine wpList_store_mid ?_ 28 (.tmp 8) (.tmp 36) ?_ (w2.heap.size) 0 (rf5 b').toArray ?_ ?_ ?_ ?_ ?_ ?_); rfl; rfl; rfl; rfl; exact sT; kernel_rfl; exact one5 _)
  generalize (w2.alloc (.cells #[.string ⟨#[]⟩, .int .i64 0, .int .i64 0, .bool false, .bool false] 28)).setCells w2.heap.size 0 (rf5 b').toArray.toList = W2 at *
  generalize w2.heap.size = k8 at *
  clear qN qR qB sT q66 lt6 sz2
  replace q8 := AtL.drew q8
  replace s6 := AtL.drew s6
  replace sN := AtL.drew sN
  replace sR := AtL.drew sR
  replace sB := sB.drew
  refine wp_region_held_drew (S := fun W => W.rangeAt k6 0 (rf5 a') ∧ W.rangeAt k8 0 (rf5 b')) (by kernel_rfl) ⟨s6.range, q8.range⟩ (fun hHeld => ?_)
  generalize W2.drew = WD at *
  refine wpAnyH_take (i := 0) (oi := z25n0) (v := .agg (rf5 a').toArray) rfl (by kernel_rfl) (by kernel_rfl) (by kernel_rfl) (fun _ _ _ h => h) (yieldsIf_load_mid (by rfl) 28 (.tmp 6) rfl k6 0 rfl (rf5 a') _ (fun _ h => h.1) Tryz.underlying28 rfl (by kernel_rfl)) (by assumption) ?_
  try simp only [Act.put, lA, lZ, lS]
  refine wpAnyH_take (i := 1) (oi := z25n1) (v := .agg (rf5 b').toArray) rfl (by kernel_rfl) (by kernel_rfl) (by kernel_rfl) (fun _ _ _ h => h) (yieldsIf_load_mid (by rfl) 28 (.tmp 8) rfl k8 0 rfl (rf5 b') _ (fun _ h => h.2) Tryz.underlying28 rfl (by kernel_rfl)) (by assumption) ?_
  try simp only [Act.put, lA, lZ, lS]
  refine tkQ 2 z25n2 ?_; try simp only [Act.put, lA, lZ, lS]
  refine tkQ 3 z25n3 ?_; try simp only [Act.put, lA, lZ, lS]
  refine tkQ 4 z25n4 ?_; try simp only [Act.put, lA, lZ, lS]
  refine tkQ 5 z25n5 ?_; try simp only [Act.put, lA, lZ, lS]
  refine tkQ 6 z25n6 ?_; try simp only [Act.put, lA, lZ, lS]
  refine wpAnyH_ready (rs := [7]) (by kernel_rfl) (by simp) ?_
  refine AllReadyH.cons (o := z25n7) rfl (fun K hK => ?_) AllReadyH.nil
  refine wp_store_mid 28 (.tmp 44) (.tmp 38) rfl (w.heap.size + 1) 10 (rf5 a').toArray rfl rfl (sN.thereSub 10 5 (by show 10 + 5 ≤ 20; omega)) (by kernel_rfl) (one5 _) ?_
  have tN := nd_setA sN a'
  have t6 := s6.farAll (b := w.heap.size + 1) (by omega) 10 (rf5 a')
  have t8 := q8.farAll (b := w.heap.size + 1) (by omega) 10 (rf5 a')
  have tR := sR.farAll (b := w.heap.size + 1) (by omega) 10 (rf5 a')
  have tB := bset sB (k := w.heap.size + 1) (by omega) (rf5 a') 10
  refine hK.out _ _ ⟨t6.range, t8.range⟩ (fun hHeld => ?_)
  clear hK K sN s6 q8 sR sB
  generalize WD.setCells (w.heap.size + 1) 10 (rf5 a').toArray.toList = WE at *
  try simp only [Act.put]
  refine tkQ 8 z25n8 ?_; try simp only [Act.put, lA, lZ, lS]
  refine wpAnyH_ready (rs := [9]) (by kernel_rfl) (by simp) ?_
  refine AllReadyH.cons (o := z25n9) rfl (fun K hK => ?_) AllReadyH.nil
  refine wp_store_mid 28 (.tmp 45) (.tmp 39) rfl (w.heap.size + 1) 15 (rf5 b').toArray rfl rfl (tN.thereSub 15 5 (by show 15 + 5 ≤ 20; omega)) (by kernel_rfl) (one5 _) ?_
  have uN := nd_setB tN b'
  have u6 := t6.farAll (b := w.heap.size + 1) (by omega) 15 (rf5 b')
  have u8 := t8.farAll (b := w.heap.size + 1) (by omega) 15 (rf5 b')
  have uR := tR.farAll (b := w.heap.size + 1) (by omega) 15 (rf5 b')
  have uB := bset tB (k := w.heap.size + 1) (by omega) (rf5 b') 15
  refine hK.out _ _ ⟨u6.range, u8.range⟩ (fun hHeld => ?_)
  clear hK K tN t6 t8 tR tB
  generalize WE.setCells (w.heap.size + 1) 15 (rf5 b').toArray.toList = WF at *
  try simp only [Act.put]
  refine wpAnyH_ready (rs := [10]) (by kernel_rfl) (by simp) ?_
  refine AllReadyH.cons (o := z25n10) rfl (fun K hK => ?_) AllReadyH.nil
  go_simp
  refine hK.out _ _ ⟨u6.range, u8.range⟩ (fun hHeld => ?_)
  clear hK K u6 u8
  try simp only [Act.put, lA, lZ, lS]
  refine wpAnyH_done (by kernel_rfl) ?_ _
  have VF := fun w => vFault_any 3 w
  have ev : vlV (vFault 3) = .agg #[.int .i64 4, .int .i64 0, .int .i64 0, .string ⟨#[]⟩, .bool false, .int .i64 3] := rfl
  rw [ev] at VF
  clear ev
  go_wp2_with fail
  refine (VF _).mono ?_
  rintro e w9 ⟨rfl, hb9⟩
  have rR := AtL.below hb9 uR
  have rB := below_end uB hb9
  have rT : w9.there (w.heap.size + 2) 0 (nd20 lostN).toArray.size := rR.there
  go_wp2_with ((with_reducible refine wpList_store_mid ?_ 30 (.tmp 4) (.tmp 49) ?_ (w.heap.size + 2) 0 (nd20 lostN).toArray ?_ ?_ ?_ ?_ ?_ ?_); rfl; rfl; rfl; rfl; exact rT; kernel_rfl; exact one20 _)
  have rR2 := AtL.setAll rR (vs := nd20 lostN) rfl
  refine bodyPost_ret (v := .agg (nd20 lostN).toArray) (results_cell (by rfl) _ _ (w.heap.size + 2) (nd20 lostN) _ (by rfl) rR2.range Tryz.underlying30 rfl (by kernel_rfl)) rfl ⟨rfl, ?_⟩
  exact bset rB (by omega) _ _
set_option maxHeartbeats 4000000 in
set_option maxRecDepth 100000 in
theorem wnode_3f (x y : Int) (n : Wt.Nd) (h3 : n.k = 3) (hq : okR x y n.a = false) (w : World) : Calls Tryz.prog 15 #[.agg #[.int .i64 x, .int .i64 y], .agg (nd20 n).toArray] w fun e w' => e = .returned (.agg (nd20 (mvN x y n)).toArray) ∧ Below w.heap.size w w' := by
  have C1 := fun w => wref_any x y n.a w
  have C2 := fun w => wref_any x y n.b w
  have hm : Hid (mvN x y n = lostN) := by show _ = _; unfold mvN; rw [if_neg (by omega), if_pos h3, hq]; rfl
  rw [hm.out]
  rw [hq] at C1
  generalize okR x y n.b = q2 at *
  clear hm hq
  generalize mvR x y n.a = a' at *
  generalize mvR x y n.b = b' at *
  have pB := ((AtL.new0 w 50 [.int .i64 x, .int .i64 y]).alloc (.cells (nd20 n).toArray 30)).alloc (.cells zC 30)
  have pN := (AtL.new1 w (.cells #[.int .i64 x, .int .i64 y] 50) 30 (nd20 n)).alloc (.cells zC 30)
  have pR : AtL (((w.alloc (.cells #[.int .i64 x, .int .i64 y] 50)).alloc (.cells (nd20 n).toArray 30)).alloc (.cells zC 30)) (w.heap.size + 2) (nd20 zeroN) := AtL.new _ _ (by simp) _
  have hB := ball (ball (ball (Below.refl _ w) (.cells #[.int .i64 x, .int .i64 y] 50)) (.cells (nd20 n).toArray 30)) (.cells zC 30)
  go_enter Tryz.func15, Tryz.ntmps15
  go_upto_region 1 with fail
  generalize (((w.alloc (.cells #[.int .i64 x, .int .i64 y] 50)).alloc (.cells (nd20 n).toArray 30)).alloc (.cells zC 30)) = W at *
  obtain ⟨b0, b1, k0, k1⟩ := pB.two
  have n0 : W.cell? ⟨w.heap.size + 1, 0, none⟩ = some (.int .i64 n.k) := pN.2.1 0 _ rfl
  have rA := nd_a pN
  rw [h3] at n0
  go_wp2_with ((with_reducible refine wpList_load_mid (cs := rf5 n.a) ?_ 28 (.tmp 26) ?_ (w.heap.size + 1) 10 ?_ _ ?_ Tryz.underlying28 ?_ ?_ ?_); rfl; rfl; rfl; exact rA; rfl; kernel_rfl)
  refine (C1 _).mono ?_
  rintro e w1 ⟨rfl, hb⟩
  have qW := AtL.below hb pB
  have qN := AtL.below hb pN
  have qR := AtL.below hb pR
  have qB := below_end hB hb
  clear hb pN pR hB pB b0 b1 k0 k1 n0 rA C1
  have q6 := (AtL.new0 w1 28 [.string ⟨#[]⟩, .int .i64 0, .int .i64 0, .bool false, .bool false]).setAll (vs := rf5 a') rfl
  have sT : (w1.alloc (.cells #[.string ⟨#[]⟩, .int .i64 0, .int .i64 0, .bool false, .bool false] 28)).there w1.heap.size 0 (rf5 a').toArray.size := (AtL.new0 w1 28 [.string ⟨#[]⟩, .int .i64 0, .int .i64 0, .bool false, .bool false]).there
  have lt1 := qR.lt
  have sW := (qW.alloc (.cells #[.string ⟨#[]⟩, .int .i64 0, .int .i64 0, .bool false, .bool false] 28)).farAll (b := w1.heap.size) (by omega) 0 (rf5 a')
  have sN := (qN.alloc (.cells #[.string ⟨#[]⟩, .int .i64 0, .int .i64 0, .bool false, .bool false] 28)).farAll (b := w1.heap.size) (by omega) 0 (rf5 a')
  have sR := (qR.alloc (.cells #[.string ⟨#[]⟩, .int .i64 0, .int .i64 0, .bool false, .bool false] 28)).farAll (b := w1.heap.size) (by omega) 0 (rf5 a')
  have sB := bset (ball qB (.cells #[.string ⟨#[]⟩, .int .i64 0, .int .i64 0, .bool false, .bool false] 28)) (k := w1.heap.size) (by omega) (rf5 a') 0
  go_upto_region 7 with ((with_reducible refine wpList_store_mid ?_ 28 (.tmp 6) (.tmp 29) ?_ (w1.heap.size) 0 (rf5 a').toArray ?_ ?_ ?_ ?_ ?_ ?_); rfl; rfl; rfl; rfl; exact sT; kernel_rfl; exact one5 _)
  generalize (w1.alloc (.cells #[.string ⟨#[]⟩, .int .i64 0, .int .i64 0, .bool false, .bool false] 28)).setCells w1.heap.size 0 (rf5 a').toArray.toList = W1 at *
  have lt6 := q6.lt
  have hk6 : w.heap.size + 2 < w1.heap.size := lt1
  generalize w1.heap.size = k6 at *
  clear qW qN qR qB sT lt1
  obtain ⟨b0, b1, k0, k1⟩ := sW.two
  have rA := nd_b sN
  go_wp2_with ((with_reducible refine wpList_load_mid (cs := rf5 n.b) ?_ 28 (.tmp 33) ?_ (w.heap.size + 1) 15 ?_ _ ?_ Tryz.underlying28 ?_ ?_ ?_); rfl; rfl; rfl; exact rA; rfl; kernel_rfl)
  refine (C2 _).mono ?_
  rintro e w2 ⟨rfl, hb⟩
  have qN := AtL.below hb sN
  have qR := AtL.below hb sR
  have q66 := AtL.below hb q6
  have qB := below_end sB hb
  have sz2 := hb.size
  clear hb sN sR sB sW b0 b1 k0 k1 rA C2 q6
  have q8 := (AtL.new0 w2 28 [.string ⟨#[]⟩, .int .i64 0, .int .i64 0, .bool false, .bool false]).setAll (vs := rf5 b') rfl
  have sT : (w2.alloc (.cells #[.string ⟨#[]⟩, .int .i64 0, .int .i64 0, .bool false, .bool false] 28)).there w2.heap.size 0 (rf5 b').toArray.size := (AtL.new0 w2 28 [.string ⟨#[]⟩, .int .i64 0, .int .i64 0, .bool false, .bool false]).there
  have s6 := (q66.alloc (.cells #[.string ⟨#[]⟩, .int .i64 0, .int .i64 0, .bool false, .bool false] 28)).farAll (b := w2.heap.size) (by omega) 0 (rf5 b')
  have sN := (qN.alloc (.cells #[.string ⟨#[]⟩, .int .i64 0, .int .i64 0, .bool false, .bool false] 28)).farAll (b := w2.heap.size) (by omega) 0 (rf5 b')
  have sR := (qR.alloc (.cells #[.string ⟨#[]⟩, .int .i64 0, .int .i64 0, .bool false, .bool false] 28)).farAll (b := w2.heap.size) (by omega) 0 (rf5 b')
  have sB := bset (ball qB (.cells #[.string ⟨#[]⟩, .int .i64 0, .int .i64 0, .bool false, .bool false] 28)) (k := w2.heap.size) (by omega) (rf5 b') 0
  have hk8 : k6 < w2.heap.size := by omega
  go_upto_region 8 with ((with_reducible refine wpList_store_mid ?_ 28 (.tmp 8) (.tmp 36) ?_ (w2.heap.size) 0 (rf5 b').toArray ?_ ?_ ?_ ?_ ?_ ?_); rfl; rfl; rfl; rfl; exact sT; kernel_rfl; exact one5 _)
  generalize (w2.alloc (.cells #[.string ⟨#[]⟩, .int .i64 0, .int .i64 0, .bool false, .bool false] 28)).setCells w2.heap.size 0 (rf5 b').toArray.toList = W2 at *
  generalize w2.heap.size = k8 at *
  clear qN qR qB sT q66 lt6 sz2
  replace q8 := AtL.drew q8
  replace s6 := AtL.drew s6
  replace sN := AtL.drew sN
  replace sR := AtL.drew sR
  replace sB := sB.drew
  refine wp_region_held_drew (S := fun W => W.rangeAt k6 0 (rf5 a') ∧ W.rangeAt k8 0 (rf5 b')) (by kernel_rfl) ⟨s6.range, q8.range⟩ (fun hHeld => ?_)
  generalize W2.drew = WD at *
  refine wpAnyH_take (i := 0) (oi := z25n0) (v := .agg (rf5 a').toArray) rfl (by kernel_rfl) (by kernel_rfl) (by kernel_rfl) (fun _ _ _ h => h) (yieldsIf_load_mid (by rfl) 28 (.tmp 6) rfl k6 0 rfl (rf5 a') _ (fun _ h => h.1) Tryz.underlying28 rfl (by kernel_rfl)) (by assumption) ?_
  try simp only [Act.put, lA, lZ, lS]
  refine wpAnyH_take (i := 1) (oi := z25n1) (v := .agg (rf5 b').toArray) rfl (by kernel_rfl) (by kernel_rfl) (by kernel_rfl) (fun _ _ _ h => h) (yieldsIf_load_mid (by rfl) 28 (.tmp 8) rfl k8 0 rfl (rf5 b') _ (fun _ h => h.2) Tryz.underlying28 rfl (by kernel_rfl)) (by assumption) ?_
  try simp only [Act.put, lA, lZ, lS]
  refine tkQ 2 z25n2 ?_; try simp only [Act.put, lA, lZ, lS]
  refine tkQ 3 z25n3 ?_; try simp only [Act.put, lA, lZ, lS]
  refine tnQ 4 z25n4 ?_; try simp only [Act.put, lA, lZ, lS]
  refine tkQ 5 z25n5 ?_; try simp only [Act.put, lA, lZ, lS]
  refine tkQ 6 z25n6 ?_; try simp only [Act.put, lA, lZ, lS]
  refine wpAnyH_ready (rs := [7]) (by kernel_rfl) (by simp) ?_
  refine AllReadyH.cons (o := z25n7) rfl (fun K hK => ?_) AllReadyH.nil
  refine wp_store_mid 28 (.tmp 44) (.tmp 38) rfl (w.heap.size + 1) 10 (rf5 a').toArray rfl rfl (sN.thereSub 10 5 (by show 10 + 5 ≤ 20; omega)) (by kernel_rfl) (one5 _) ?_
  have tN := nd_setA sN a'
  have t6 := s6.farAll (b := w.heap.size + 1) (by omega) 10 (rf5 a')
  have t8 := q8.farAll (b := w.heap.size + 1) (by omega) 10 (rf5 a')
  have tR := sR.farAll (b := w.heap.size + 1) (by omega) 10 (rf5 a')
  have tB := bset sB (k := w.heap.size + 1) (by omega) (rf5 a') 10
  refine hK.out _ _ ⟨t6.range, t8.range⟩ (fun hHeld => ?_)
  clear hK K sN s6 q8 sR sB
  generalize WD.setCells (w.heap.size + 1) 10 (rf5 a').toArray.toList = WE at *
  try simp only [Act.put]
  refine tkQ 8 z25n8 ?_; try simp only [Act.put, lA, lZ, lS]
  refine wpAnyH_ready (rs := [9]) (by kernel_rfl) (by simp) ?_
  refine AllReadyH.cons (o := z25n9) rfl (fun K hK => ?_) AllReadyH.nil
  refine wp_store_mid 28 (.tmp 45) (.tmp 39) rfl (w.heap.size + 1) 15 (rf5 b').toArray rfl rfl (tN.thereSub 15 5 (by show 15 + 5 ≤ 20; omega)) (by kernel_rfl) (one5 _) ?_
  have uN := nd_setB tN b'
  have u6 := t6.farAll (b := w.heap.size + 1) (by omega) 15 (rf5 b')
  have u8 := t8.farAll (b := w.heap.size + 1) (by omega) 15 (rf5 b')
  have uR := tR.farAll (b := w.heap.size + 1) (by omega) 15 (rf5 b')
  have uB := bset tB (k := w.heap.size + 1) (by omega) (rf5 b') 15
  refine hK.out _ _ ⟨u6.range, u8.range⟩ (fun hHeld => ?_)
  clear hK K tN t6 t8 tR tB
  generalize WE.setCells (w.heap.size + 1) 15 (rf5 b').toArray.toList = WF at *
  try simp only [Act.put]
  refine wpAnyH_ready (rs := [10]) (by kernel_rfl) (by simp) ?_
  refine AllReadyH.cons (o := z25n10) rfl (fun K hK => ?_) AllReadyH.nil
  go_simp
  refine hK.out _ _ ⟨u6.range, u8.range⟩ (fun hHeld => ?_)
  clear hK K u6 u8
  try simp only [Act.put, lA, lZ, lS]
  refine wpAnyH_done (by kernel_rfl) ?_ _
  have VF := fun w => vFault_any 3 w
  have ev : vlV (vFault 3) = .agg #[.int .i64 4, .int .i64 0, .int .i64 0, .string ⟨#[]⟩, .bool false, .int .i64 3] := rfl
  rw [ev] at VF
  clear ev
  go_wp2_with fail
  refine (VF _).mono ?_
  rintro e w9 ⟨rfl, hb9⟩
  have rR := AtL.below hb9 uR
  have rB := below_end uB hb9
  have rT : w9.there (w.heap.size + 2) 0 (nd20 lostN).toArray.size := rR.there
  go_wp2_with ((with_reducible refine wpList_store_mid ?_ 30 (.tmp 4) (.tmp 49) ?_ (w.heap.size + 2) 0 (nd20 lostN).toArray ?_ ?_ ?_ ?_ ?_ ?_); rfl; rfl; rfl; rfl; exact rT; kernel_rfl; exact one20 _)
  have rR2 := AtL.setAll rR (vs := nd20 lostN) rfl
  refine bodyPost_ret (v := .agg (nd20 lostN).toArray) (results_cell (by rfl) _ _ (w.heap.size + 2) (nd20 lostN) _ (by rfl) rR2.range Tryz.underlying30 rfl (by kernel_rfl)) rfl ⟨rfl, ?_⟩
  exact bset rB (by omega) _ _
theorem wnode_any (x y : Int) (n : Wt.Nd) (w : World) : Calls Tryz.prog 15 #[.agg #[.int .i64 x, .int .i64 y], .agg (nd20 n).toArray] w fun e w' => e = .returned (.agg (nd20 (mvN x y n)).toArray) ∧ Below w.heap.size w w' := by
  by_cases h2 : n.k = 2
  · cases hq : okR x y n.a with
    | true => exact wnode_2t x y n h2 hq w
    | false => exact wnode_2f x y n h2 hq w
  by_cases h3 : n.k = 3
  · cases hq : okR x y n.a with
    | true =>
      cases hq2 : okR x y n.b with
      | true => exact wnode_3tt x y n h3 hq hq2 w
      | false => exact wnode_3tf x y n h3 hq hq2 w
    | false => exact wnode_3f x y n h3 hq w
  exact wnode_o x y n h2 h3 w
end Go.Proofs.YthofehcchickeaaGreatDoor
