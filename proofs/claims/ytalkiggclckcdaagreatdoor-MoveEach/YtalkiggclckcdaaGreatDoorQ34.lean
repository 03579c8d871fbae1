/- MWalkD, TParC, TExt, PlainV, TPr. -/
import Derived.Test.YtalkiggclckcdaaGreatDoorQ33
import Derived.Deep.LoopGhost
import Derived.Lib.ItoaNum
namespace Go.Proofs.YtalkiggclckcdaaGreatDoor
open Go.RowKit Go.Shelf
set_option linter.unusedVariables false
theorem get_mid {A R : List Wt.Nd} {q : Wt.Nd} (i : Nat) (hi : i = A.length) (h : i < (A ++ q :: R).length) : (A ++ q :: R)[i] = q := by subst hi; simp
def mvI (x y : Int) (L : List Wt.Nd) (i : Nat) : List Wt.Nd := (L.take i).map (mvN x y) ++ L.drop i
theorem mvI_len (x y : Int) (L : List Wt.Nd) (i : Nat) : (mvI x y L i).length = L.length := by unfold mvI; simp; omega
set_option maxRecDepth 100000 in
set_option maxHeartbeats 8000000 in
theorem mshift_ok (av : Option Addr) (cap : Nat) (L : List Wt.Nd) (x y : Int) (w : World) (hF : ∀ n ∈ L, Wt.FitN n) (hO : OpsAt w) (hr : RdN w av L) (hc : Wt.check L = 0) :
    Calls Tryz.prog 10 #[.slice av L.length cap, .int .i64 x, .int .i64 y] w fun e w' => (∃ v, e = .returned (.tuple #[v, .int .i64 0]) ∧ OwnN w' w.heap.size v (L.map (mvN x y))) ∧ Below w.heap.size w w' := by
  obtain ⟨h256, d, hone, -⟩ := check_zero hc
  have hpos : 0 < L.length := by have := one_loc _ _ _ _ hone; omega
  have CK := check_any av cap L w (by omega) hF hO hr
  rw [hc] at CK
  have HR : Hid (RdN w av L) := hr
  have HF : Hid (∀ n ∈ L, Wt.FitN n) := hF
  have H256 : True → L.length ≤ 256 := fun _ => h256
  obtain ⟨i0, hi0, hz0, hz1, hz2⟩ := info_parts nodeInfo
  clear hone hc hF hr h256
  go_enter Tryz.func10, Tryz.ntmps10
  go_wp2_with fail
  refine CK.mono ?_
  rintro e w1 ⟨rfl, hb1⟩
  have hr1 : Hid (RdN w1 av L) := HR.out.below hb1
  clear CK HR
  go_wp2_with (refine wpList_make_full w1 rfl (.tmp 19) (.tmp 19) 23 rfl w1.heap.size 37 i0 _ 20 Tryz.underlying23 hi0 hz0 hz1 .i64 .i64 _ _ L.length rfl rfl rfl rfl (by rw [hz2]; have := H256 trivial; omega) (by have := H256 trivial; unfold maxLen; omega) (Nat.le_refl _) ?_)
  intro w2 own2 hg2
  obtain ⟨cur, hcur, hcs⟩ : ∃ cur, w2.heap[w1.heap.size]? = some (.cells cur 37 (0, 0)) ∧ cur.size = L.length * 20 := by
    rcases own2.2 with ⟨e, _⟩ | ⟨g, cap', cur, e, _, hg, _, _, hs, _⟩
    · cases e
    · simp only [Value.slice.injEq, Option.some.injEq, Addr.mk.injEq] at e
      obtain ⟨⟨rfl, -, -⟩, -, rfl⟩ := e
      exact ⟨cur, hg, hs⟩
  have hb2 : Below w1.heap.size w1 w2 := ⟨hg2.os, hg2.tape, hg2.output, hg2.size, fun k hk => hg2.block k hk (by simp)⟩
  have hr2 : RdN w2 av L := hr1.out.below hb2
  have hB2 := below_end hb1 hb2
  have hs1 := hb1.size
  clear own2 hg2 hr1 hb2 hi0 hz0 hz1 hz2 i0
  obtain ⟨bb, off, rfl, -⟩ := hr2 0 hpos
  have hrun := run_copyN w2 3 w1.heap.size L.length ⟨bb, off, none⟩ cap cur 37 (ndRow L) hcur (ndRow_length L) (hr2.flat _ rfl) (by rw [ndRow_length]; exact hcs) (ndRow_all L)
  have own3 : OwnN (w2.setRow w1.heap.size (ndRow L).toArray) w.heap.size (.slice (some ⟨w1.heap.size, 0, none⟩) L.length L.length) L := own_row hcur hs1 (by have := H256 trivial; unfold maxLen; omega)
  have hB3 : Below w.heap.size w (w2.setRow w1.heap.size (ndRow L).toArray) := row_below hB2 hs1 _
  go_upto_region 6 with fail
  generalize w2.setRow w1.heap.size (ndRow L).toArray = w3 at *
  have hlt3 : w1.heap.size < w3.heap.size := (World.ownsRow.lt own3 w1.heap.size rfl).2
  clear hr2 hcur hcs hB2 hrun cur
  generalize w1.heap.size = g at *
  have hown : Hid (OwnN (w3.alloc (.cells #[.int .i64 x, .int .i64 y] 67)) w.heap.size (.slice (some ⟨g, 0, none⟩) L.length L.length) (mvI x y L 0)) := OwnN.below own3 (ball (Below.refl _ _) _)
  have hway : AtL (w3.alloc (.cells #[.int .i64 x, .int .i64 y] 67)) w3.heap.size [.int .i64 x, .int .i64 y] := AtL.new0 _ _ _
  have hBl := ball hB3 (.cells #[.int .i64 x, .int .i64 y] 67)
  have hk3 : w.heap.size ≤ w3.heap.size := hB3.size
  clear own3 hB3
  go_upto_region 8 with fail
  generalize w3.alloc (.cells #[.int .i64 x, .int .i64 y] 67) = W at *
  generalize w3.heap.size = kw at *
  go_loopg [29] (L.length) (fun gk v wr => ∃ i : Nat, v = .int .i64 i ∧ gk = L.length - i ∧ i ≤ L.length ∧ Hid (OwnN wr w.heap.size (.slice (some ⟨g, 0, none⟩) L.length L.length) (mvI x y L i)) ∧ AtL wr kw [.int .i64 x, .int .i64 y] ∧ Below w.heap.size w wr)
  case atStart => exact ⟨0, rfl, by omega, Nat.zero_le _, hown, hway, hBl⟩
  case round =>
    clear hown hway hBl
    obtain ⟨i, rfl, hg, hi, HO, pW, hB⟩ := hrel
    by_cases hlt : i < L.length
    · have hli : (i : Int) < (L.length : Int) := by omega
      have hi0 : (0 : Int) ≤ (i : Int) := by omega
      have hwi : IntKind.i64.wrap ((i : Int) + 1) = (i : Int) + 1 := by rw [IntKind.wrap_i64]; have := H256 trivial; omega
      have hil : i < L.length := by omega
      have own := HO.out
      obtain ⟨q, hq⟩ : ∃ q, L[i] = q := ⟨_, rfl⟩
      have hsp : mvI x y L i = (L.take i).map (mvN x y) ++ q :: L.drop (i + 1) := by unfold mvI; rw [List.drop_eq_getElem_cons hil, hq]
      have hnx : mvI x y L (i + 1) = (L.take i).map (mvN x y) ++ mvN x y q :: L.drop (i + 1) := by
        unfold mvI
        rw [List.take_add_one, List.getElem?_eq_getElem hil, hq]
        simp
      have HNX : Hid (mvI x y L (i + 1) = (L.take i).map (mvN x y) ++ mvN x y q :: L.drop (i + 1)) := hnx
      rw [hsp] at own
      have hlen : L.length = ((L.take i).map (mvN x y) ++ q :: L.drop (i + 1)).length := by rw [← hsp, mvI_len]
      have hla : i = ((L.take i).map (mvN x y)).length := by simp; omega
      obtain ⟨c1, t1⟩ := own.at hlen i (by omega)
      have hqq := get_mid (A := (L.take i).map (mvN x y)) (R := L.drop (i + 1)) (q := q) i hla (by omega)
      rw [hqq] at c1
      have HOWN : Hid (OwnN wr w.heap.size (.slice (some ⟨g, 0, none⟩) L.length L.length) ((L.take i).map (mvN x y) ++ q :: L.drop (i + 1))) := own
      have HLEN : Hid (L.length = ((L.take i).map (mvN x y) ++ q :: L.drop (i + 1)).length) := hlen
      have HLA : Hid (i = ((L.take i).map (mvN x y)).length) := hla
      have hgw : g < wr.heap.size := (World.ownsRow.lt own g rfl).2
      have sT : (wr.alloc (.cells #[.int .i64 0, .int .i64 0, .int .i64 0, .int .i64 0, .string ⟨#[]⟩, .bool false, .int .i64 0, .int .i64 0, .string ⟨#[]⟩, .int .i64 0, .string ⟨#[]⟩, .int .i64 0, .int .i64 0, .bool false, .bool false, .string ⟨#[]⟩, .int .i64 0, .int .i64 0, .bool false, .bool false] 37)).there wr.heap.size 0 (nd20 q).toArray.size := (AtL.new0 wr 37 [.int .i64 0, .int .i64 0, .int .i64 0, .int .i64 0, .string ⟨#[]⟩, .bool false, .int .i64 0, .int .i64 0, .string ⟨#[]⟩, .int .i64 0, .string ⟨#[]⟩, .int .i64 0, .int .i64 0, .bool false, .bool false, .string ⟨#[]⟩, .int .i64 0, .int .i64 0, .bool false, .bool false]).there
      clear HO hsp hnx hlen hla own hqq hq t1
      go_upto_region 10 with (first | ((with_reducible refine wpList_load_mid (cs := nd20 q) ?_ 37 (.tmp 32) ?_ (g) (i * 20) ?_ _ ?_ Tryz.underlying37 ?_ ?_ ?_); rfl; rfl; rfl; exact c1; rfl; kernel_rfl) | ((with_reducible refine wpList_store_mid ?_ 37 (.tmp 12) (.tmp 33) ?_ (wr.heap.size) 0 (nd20 q).toArray ?_ ?_ ?_ ?_ ?_ ?_); rfl; rfl; rfl; rfl; exact sT; kernel_rfl; exact one20 _))
      have pN := (AtL.new0 wr 37 [.int .i64 0, .int .i64 0, .int .i64 0, .int .i64 0, .string ⟨#[]⟩, .bool false, .int .i64 0, .int .i64 0, .string ⟨#[]⟩, .int .i64 0, .string ⟨#[]⟩, .int .i64 0, .int .i64 0, .bool false, .bool false, .string ⟨#[]⟩, .int .i64 0, .int .i64 0, .bool false, .bool false]).setAll (vs := nd20 q) rfl
      have pW1 := (pW.alloc (.cells #[.int .i64 0, .int .i64 0, .int .i64 0, .int .i64 0, .string ⟨#[]⟩, .bool false, .int .i64 0, .int .i64 0, .string ⟨#[]⟩, .int .i64 0, .string ⟨#[]⟩, .int .i64 0, .int .i64 0, .bool false, .bool false, .string ⟨#[]⟩, .int .i64 0, .int .i64 0, .bool false, .bool false] 37)).farAll (b := wr.heap.size) (by have := pW.lt; omega) 0 (nd20 q)
      have hB1 := bset (ball hB (.cells #[.int .i64 0, .int .i64 0, .int .i64 0, .int .i64 0, .string ⟨#[]⟩, .bool false, .int .i64 0, .int .i64 0, .string ⟨#[]⟩, .int .i64 0, .string ⟨#[]⟩, .int .i64 0, .int .i64 0, .bool false, .bool false, .string ⟨#[]⟩, .int .i64 0, .int .i64 0, .bool false, .bool false] 37)) (k := wr.heap.size) (by have := hB.size; omega) (nd20 q) 0
      have HO1 : Hid (OwnN ((wr.alloc (.cells #[.int .i64 0, .int .i64 0, .int .i64 0, .int .i64 0, .string ⟨#[]⟩, .bool false, .int .i64 0, .int .i64 0, .string ⟨#[]⟩, .int .i64 0, .string ⟨#[]⟩, .int .i64 0, .int .i64 0, .bool false, .bool false, .string ⟨#[]⟩, .int .i64 0, .int .i64 0, .bool false, .bool false] 37)).setCells wr.heap.size 0 (nd20 q)) w.heap.size (.slice (some ⟨g, 0, none⟩) L.length L.length) ((L.take i).map (mvN x y) ++ q :: L.drop (i + 1))) := HOWN.out.below (bset (ball (Below.refl _ wr) _) (Nat.le_refl _) _ _)
      generalize (wr.alloc (.cells #[.int .i64 0, .int .i64 0, .int .i64 0, .int .i64 0, .string ⟨#[]⟩, .bool false, .int .i64 0, .int .i64 0, .string ⟨#[]⟩, .int .i64 0, .string ⟨#[]⟩, .int .i64 0, .int .i64 0, .bool false, .bool false, .string ⟨#[]⟩, .int .i64 0, .int .i64 0, .bool false, .bool false] 37)).setCells wr.heap.size 0 (nd20 q).toArray.toList = W1 at *
      generalize wr.heap.size = kn at *
      clear HOWN c1 sT pW hB
      obtain ⟨b0, b1, k0, k1⟩ := AtL.two pW1
      have rN := AtL.range pN
      have C := wnode_any x y q W1
      go_wp2_with ((with_reducible refine wpList_load_mid (cs := nd20 q) ?_ 37 (.tmp 12) ?_ (kn) 0 ?_ _ ?_ Tryz.underlying37 ?_ ?_ ?_); rfl; rfl; rfl; exact rN; rfl; kernel_rfl)
      refine C.mono ?_
      rintro e w4 ⟨rfl, hb4⟩
      have HO4 := HO1.out.below hb4
      have pW4 := AtL.below hb4 pW1
      have hB4 := below_end hB1 hb4
      obtain ⟨c4, t4⟩ := HO4.at HLEN.out i (by have := HLEN.out; omega)
      have u4 : w4.there g (i * 20) (nd20 (mvN x y q)).toArray.size := t4
      have HO5 : Hid (OwnN (w4.setCells g (i * 20) (nd20 (mvN x y q))) w.heap.size (.slice (some ⟨g, 0, none⟩) L.length L.length) (mvI x y L (i + 1))) := by
        show OwnN _ _ _ _
        rw [HNX.out]
        exact HO4.put HLEN.out i HLA.out (mvN x y q)
      have hwg : kw ≠ g := by omega
      have pW5 := pW4.farAll (b := g) (Ne.symm hwg) (i * 20) (nd20 (mvN x y q))
      have hB5 := bset hB4 (k := g) (by omega) (nd20 (mvN x y q)) (i * 20)
      clear HO4 HO1 pW4 hB4 c4 t4 C hb4 b0 b1 k0 k1 rN pN pW1 hB1
      go_wp2_with ((with_reducible refine wpList_store_mid ?_ 37 (.tmp 39) (.tmp 38) ?_ (g) (i * 20) (nd20 (mvN x y q)).toArray ?_ ?_ ?_ ?_ ?_ ?_); rfl; rfl; rfl; rfl; exact u4; kernel_rfl; exact one20 _)
      go_roundg (L.length - (i + 1))
      case rel => exact ⟨i + 1, by simp, rfl, by omega, HO5, pW5, hB5⟩
      case measure => omega
    · have hli : ¬ (i : Int) < (L.length : Int) := by omega
      have hin : Hid (i = L.length) := by show _ = _; omega
      have own := HO.out
      have e : mvI x y L i = L.map (mvN x y) := by unfold mvI; have := hin.out; rw [List.take_of_length_le (by omega), List.drop_eq_nil_of_le (by omega), List.append_nil]
      rw [e] at own
      have HOWN : Hid (OwnN wr w.heap.size (.slice (some ⟨g, 0, none⟩) L.length L.length) (L.map (mvN x y))) := own
      clear own e HO
      go_wp2
      go_ret2
      exact ⟨⟨_, rfl, HOWN.out⟩, hB⟩
theorem pl_code {ts : List Wlx.TV} {en c p : Int} (h : pl ts en = .inr (c, p)) : c ≠ 0 := by
  unfold pl at h
  split at h
  · cases h
  · simp only [Sum.inr.injEq, Prod.mk.injEq] at h; omega
theorem pc_code {ts : List Wlx.TV} {en c p : Int} (h : pc ts en = .inr (c, p)) : c ≠ 0 := by
  unfold pc at h
  repeat' split at h
  all_goals first | (simp only [Sum.inr.injEq, Prod.mk.injEq] at h; omega) | cases h
theorem pcs_code {s : ByteArray} {ts : List Wlx.TV} {en c p : Int} (h : pcs s ts en = .inr (c, p)) : c ≠ 0 := by
  unfold pcs at h
  cases h1 : pc ts en with
  | inr e => rw [h1] at h; simp only [Sum.inr.injEq] at h; rw [h] at h1; exact pc_code h1
  | inl q =>
    obtain ⟨a, r1⟩ := q
    rw [h1] at h
    simp only at h
    cases h2 : tk r1 [58] with
    | none => rw [h2] at h; cases h
    | some r2 =>
      rw [h2] at h
      simp only at h
      cases h3 : pc r2 en with
      | inr e => rw [h3] at h; simp only [Sum.inr.injEq] at h; rw [h] at h3; exact pc_code h3
      | inl q => rw [h3] at h; cases h
theorem more_code {sub : List Wlx.TV → PR} {N : Nat} (hsub : ∀ ts row r, sub ts = .inl (row, r) → r <:+ ts) (hcode : ∀ ts c p, ts.length ≤ N → sub ts = .inr (c, p) → c ≠ 0) (k : Int) : ∀ (n : Nat) (row : List Wt.Nd) (ts : List Wlx.TV) (c p : Int), ts.length ≤ N → more sub k n row ts = .inr (c, p) → c ≠ 0 := by
  intro n
  induction n with
  | zero => intro row ts c p hN h; cases h
  | succ n ih =>
    intro row ts c p hN h
    simp only [more] at h
    cases h1 : tkOp k ts with
    | none => rw [h1] at h; cases h
    | some q =>
      obtain ⟨o, r1⟩ := q
      rw [h1] at h
      simp only at h
      have s1 := (tkOp_suf h1).2
      cases h2 : sub r1 with
      | inr e => rw [h2] at h; simp only [Sum.inr.injEq] at h; rw [h] at h2; exact hcode _ _ _ (by omega) h2
      | inl q =>
        obtain ⟨row2, r2⟩ := q
        rw [h2] at h
        simp only at h
        have := (hsub _ _ _ h2).length_le
        exact ih _ _ _ _ (by omega) h
theorem argl_code {sub : List Wlx.TV → PR} {N : Nat} (hsub : ∀ ts row r, sub ts = .inl (row, r) → r <:+ ts) (hcode : ∀ ts c p, ts.length ≤ N → sub ts = .inr (c, p) → c ≠ 0) (en : Int) : ∀ (n c0 : Nat) (rows : List Wt.Nd) (ts : List Wlx.TV) (c p : Int), ts.length ≤ N → argl sub en n c0 rows ts = .inr (c, p) → c ≠ 0 := by
  intro n
  induction n with
  | zero => intro c0 rows ts c p hN h; simp only [argl, Sum.inr.injEq, Prod.mk.injEq] at h; omega
  | succ n ih =>
    intro c0 rows ts c p hN h
    simp only [argl] at h
    cases h1 : tk ts [41] with
    | some q => rw [h1] at h; cases h
    | none =>
      rw [h1] at h
      simp only at h
      split at h
      · simp only [Sum.inr.injEq, Prod.mk.injEq] at h; omega
      · cases h2 : tk ts [44] with
        | none => rw [h2] at h; simp only [Sum.inr.injEq, Prod.mk.injEq] at h; omega
        | some r1 =>
          rw [h2] at h
          simp only at h
          have s1 := (tk_suf h2).2
          cases h3 : sub r1 with
          | inr e => rw [h3] at h; simp only [Sum.inr.injEq] at h; rw [h] at h3; exact hcode _ _ _ (by omega) h3
          | inl q =>
            obtain ⟨row, r2⟩ := q
            rw [h3] at h
            simp only at h
            have := (hsub _ _ _ h3).length_le
            exact ih _ _ _ _ _ (by omega) h
theorem pargs_code {sub : List Wlx.TV → PR} {N : Nat} (hsub : ∀ ts row r, sub ts = .inl (row, r) → r <:+ ts) (hcode : ∀ ts c p, ts.length ≤ N → sub ts = .inr (c, p) → c ≠ 0) (en : Int) (nm : List UInt8) (ts : List Wlx.TV) (c p : Int) (hN : ts.length ≤ N) (h : pargs sub en nm ts = .inr (c, p)) : c ≠ 0 := by
  unfold pargs at h
  cases h1 : tk ts [41] with
  | some q => rw [h1] at h; cases h
  | none =>
    rw [h1] at h
    simp only at h
    cases h2 : sub ts with
    | inr e => rw [h2] at h; simp only [Sum.inr.injEq] at h; rw [h] at h2; exact hcode _ _ _ hN h2
    | inl q =>
      obtain ⟨row1, r1⟩ := q
      rw [h2] at h
      simp only at h
      have := (hsub _ _ _ h2).length_le
      cases h3 : argl sub en (r1.length + 1) 1 row1 r1 with
      | inr e => rw [h3] at h; simp only [Sum.inr.injEq] at h; rw [h] at h3; exact argl_code hsub hcode en _ _ _ _ _ _ (by omega) h3
      | inl q => rw [h3] at h; cases h
theorem pword_code {sub : List Wlx.TV → PR} {N : Nat} (hsub : ∀ ts row r, sub ts = .inl (row, r) → r <:+ ts) (hcode : ∀ ts c p, ts.length ≤ N → sub ts = .inr (c, p) → c ≠ 0) (en : Int) (ts : List Wlx.TV) (c p : Int) (hN : ts.length ≤ N + 2) (h : pword sub en ts = .inr (c, p)) : c ≠ 0 := by
  unfold pword at h
  split at h
  · split at h
    · exact pargs_code hsub hcode en _ _ _ _ (by rw [List.length_drop]; omega) h
    · simp only [Sum.inr.injEq, Prod.mk.injEq] at h; omega
  split at h
  · split at h
    · exact pcs_code h
    · simp only [Sum.inr.injEq, Prod.mk.injEq] at h; omega
  split at h
  · cases h
  split at h
  · cases h
  · exact pcs_code h
theorem pbrack_code {sub : List Wlx.TV → PR} {N : Nat}  (hcode : ∀ ts c p, ts.length ≤ N → sub ts = .inr (c, p) → c ≠ 0) (en : Int) (ts : List Wlx.TV) (c p : Int) (hN : ts.length ≤ N + 1) (h : pbrack sub en ts = .inr (c, p)) : c ≠ 0 := by
  unfold pbrack at h
  cases h1 : tk ts [40] with
  | none => rw [h1] at h; simp only [Sum.inr.injEq, Prod.mk.injEq] at h; omega
  | some r1 =>
    rw [h1] at h
    simp only at h
    have s1 := (tk_suf h1).2
    cases h2 : sub r1 with
    | inr e => rw [h2] at h; simp only [Sum.inr.injEq] at h; rw [h] at h2; exact hcode _ _ _ (by omega) h2
    | inl q =>
      obtain ⟨row2, r2⟩ := q
      rw [h2] at h
      simp only at h
      cases h3 : tk r2 [41] with
      | none => rw [h3] at h; simp only [Sum.inr.injEq, Prod.mk.injEq] at h; omega
      | some r3 => rw [h3] at h; cases h
theorem pct_code : ∀ (n : Nat) (row : List Wt.Nd) (ts : List Wlx.TV) (c p : Int), pct n row ts = .inr (c, p) → False := by
  intro n
  induction n with
  | zero => intro row ts c p h; cases h
  | succ n ih =>
    intro row ts c p h
    simp only [pct] at h
    cases h1 : tkOp 6 ts with
    | none => rw [h1] at h; cases h
    | some q => obtain ⟨o, r1⟩ := q; rw [h1] at h; simp only at h; exact ih _ _ _ _ h
theorem lv_code (en : Int) : ∀ (f k : Nat) (ts : List Wlx.TV) (c p : Int), k ≤ 7 → (if k < 5 then 10 * ts.length + 9 - k else if k = 5 then 10 * ts.length + 4 else if k = 6 then 10 * ts.length + 3 else 10 * ts.length + 2) ≤ f → lv en f k ts = .inr (c, p) → c ≠ 0 := by
  intro f
  induction f with
  | zero => intro k ts c p hk hf h; repeat' split at hf
            all_goals omega
  | succ f ih =>
    intro k ts c p hk hf h
    by_cases h5 : k < 5
    · rw [if_pos h5] at hf
      rw [lv_bt _ _ _ h5] at h
      unfold pbt at h
      have hs : ∀ us c p, us.length ≤ ts.length → lv en f (k + 1) us = .inr (c, p) → c ≠ 0 := by
        intro us c p hu hh
        refine ih (k + 1) us c p (by omega) ?_ hh
        split
        · omega
        · rw [if_pos (by omega)]; omega
      cases h1 : lv en f (k + 1) ts with
      | inr e => rw [h1] at h; simp only [Sum.inr.injEq] at h; rw [h] at h1; exact hs _ _ _ (Nat.le_refl _) h1
      | inl q =>
        obtain ⟨row1, r1⟩ := q
        rw [h1] at h
        simp only at h
        have := (lv_suf en _ _ _ _ _ h1).length_le
        exact more_code (N := ts.length) (lv_suf en f (k + 1)) hs _ _ _ _ _ _ (by omega) h
    rw [if_neg h5] at hf
    by_cases e5 : k = 5
    · subst e5
      rw [if_pos rfl] at hf
      rw [lv_sg] at h
      unfold psg at h
      cases h1 : tkOp 5 ts with
      | none => rw [h1] at h; exact ih 6 ts c p (by omega) (by simp; omega) h
      | some q =>
        obtain ⟨o, r1⟩ := q
        rw [h1] at h
        simp only at h
        have s1 := (tkOp_suf h1).2
        cases h2 : lv en f 5 r1 with
        | inr e => rw [h2] at h; simp only [Sum.inr.injEq] at h; rw [h] at h2; exact ih 5 r1 c p (by omega) (by simp; omega) h2
        | inl q => rw [h2] at h; cases h
    rw [if_neg e5] at hf
    by_cases e6 : k = 6
    · subst e6
      rw [if_pos rfl] at hf
      rw [lv_pc] at h
      unfold ppc at h
      cases h1 : lv en f 7 ts with
      | inr e => rw [h1] at h; simp only [Sum.inr.injEq] at h; rw [h] at h1; exact ih 7 ts c p (by omega) (by simp; omega) h1
      | inl q => obtain ⟨row1, r1⟩ := q; rw [h1] at h; simp only at h; exact (pct_code _ _ _ _ _ h).elim
    rw [if_neg e6] at hf
    obtain rfl : k = 7 := by omega
    rw [lv_si] at h
    unfold psi at h
    split at h
    · rename_i h3
      cases ts with
      | nil => exact absurd h3 (by rw [hd_nil]; decide)
      | cons t q =>
        simp only [List.length_cons] at hf
        refine pword_code (N := q.length) (lv_suf en f 0) (fun us c p hu hh => ih 0 us c p (by omega) (by simp; omega) hh) en _ _ _ (by simp only [List.length_cons]; omega) h
    split at h
    · cases ts with
      | nil => rename_i h3; exact absurd h3 (by rw [hd_nil]; decide)
      | cons t q =>
        simp only [List.length_cons] at hf
        refine pbrack_code (N := q.length) (fun us c p hu hh => ih 0 us c p (by omega) (by simp; omega) hh) en _ _ _ (by simp only [List.length_cons]; omega) h
    · exact pl_code h
theorem prsR_code {l : List UInt8} {c p : Int} (h : prsR l = .inr (c, p)) : c ≠ 0 := by
  unfold prsR at h
  cases hr : scanAll l with
  | inr q =>
    obtain ⟨c', p'⟩ := q
    rw [hr] at h
    simp only [Sum.inr.injEq, Prod.mk.injEq] at h
    have := scan_code hr
    omega
  | inl ts =>
    rw [hr] at h
    simp only at h
    unfold prsT at h
    cases hp : pall (lv (l.length : Int) (10 * (ts.map Wlx.tv).length + 9) 0) (l.length : Int) (ts.map Wlx.tv) with
    | inr q =>
      rw [hp] at h
      simp only [Sum.inr.injEq] at h
      subst h
      unfold pall at hp
      split at hp
      · rename_i e he
        simp only [Sum.inr.injEq] at hp
        subst hp
        exact lv_code _ _ 0 _ _ _ (by omega) (by simp) he
      · cases hp
      · simp only [Sum.inr.injEq, Prod.mk.injEq] at hp; omega
    | inl q =>
      obtain ⟨row, rr⟩ := q
      rw [hp] at h
      simp only at h
      split at h
      · cases h
      · rename_i hc
        simp only [Sum.inr.injEq, Prod.mk.injEq] at h
        omega
theorem prsR_row {l : List UInt8} {row : List Wt.Nd} (h : prsR l = .inl row) : (∀ x ∈ row, Wt.FitN x) ∧ Wt.check row = 0 := by
  unfold prsR at h
  cases hr : scanAll l with
  | inr q =>
    obtain ⟨c', p'⟩ := q
    rw [hr] at h; cases h
  | inl ts =>
    rw [hr] at h
    simp only at h
    have hok : ∀ t ∈ ts.map Wlx.tv, TokOk t := by
      unfold scanAll at hr
      split at hr
      · cases hr
      · exact (scan_ok _ 0 l (Nat.le_refl _) (by omega) ts hr).2
    unfold prsT at h
    cases hp : pall (lv (l.length : Int) (10 * (ts.map Wlx.tv).length + 9) 0) (l.length : Int) (ts.map Wlx.tv) with
    | inr q => rw [hp] at h; cases h
    | inl q =>
      obtain ⟨row', rr⟩ := q
      rw [hp] at h
      simp only at h
      split at h
      · rename_i hc
        simp only [Sum.inl.injEq] at h
        subst h
        refine ⟨?_, hc⟩
        unfold pall at hp
        split at hp
        · cases hp
        · rename_i row'' he
          simp only [Sum.inl.injEq, Prod.mk.injEq] at hp
          rw [← hp.1]
          exact (lv_fit _ _ _ _ _ _ hok he).1
        · cases hp
      · cases h
def kt (t : Wlx.TV) : Int × List UInt8 := (t.k, t.t)
def Same (us ts : List Wlx.TV) : Prop := us.map kt = ts.map kt
def Cl (tl : List Wlx.TV) : Prop := tl = [] ∨ ∃ c q, tl = c :: q ∧ c.k = 5 ∧ (c.t = [41] ∨ c.t = [44])
theorem Same.len {us ts : List Wlx.TV} (h : Same us ts) : us.length = ts.length := by
  have := congrArg List.length h
  simpa using this
theorem Same.cons {us : List Wlx.TV} {t : Wlx.TV} {r : List Wlx.TV} (h : Same us (t :: r)) : ∃ u q, us = u :: q ∧ u.k = t.k ∧ u.t = t.t ∧ Same q r := by
  cases us with
  | nil => simp [Same] at h
  | cons u q =>
    simp only [Same, List.map_cons, List.cons.injEq, kt, Prod.mk.injEq] at h
    exact ⟨u, q, rfl, h.1.1, h.1.2, h.2⟩
theorem Same.nil {us : List Wlx.TV} (h : Same us []) : us = [] := by
  cases us with
  | nil => rfl
  | cons u q => simp [Same] at h
theorem Same.drop {us ts : List Wlx.TV} (h : Same us ts) (n : Nat) : Same (us.drop n) (ts.drop n) := by
  unfold Same at *
  rw [List.map_drop, List.map_drop, h]
theorem opAs_41 (k : Int) : Wt.opAs [41] k = none := by
  unfold Wt.opAs
  rw [List.find?_eq_none]
  intro x hx
  simp only [Wt.opsT, List.mem_cons, List.not_mem_nil, or_false] at hx
  rcases hx with rfl | rfl | rfl | rfl | rfl | rfl | rfl | rfl | rfl | rfl | rfl | rfl | rfl | rfl | rfl <;> simp
theorem opAs_44 (k : Int) : Wt.opAs [44] k = none := by
  unfold Wt.opAs
  rw [List.find?_eq_none]
  intro x hx
  simp only [Wt.opsT, List.mem_cons, List.not_mem_nil, or_false] at hx
  rcases hx with rfl | rfl | rfl | rfl | rfl | rfl | rfl | rfl | rfl | rfl | rfl | rfl | rfl | rfl | rfl <;> simp
theorem more_not' {sub : List Wlx.TV → PR} {k : Int} {n : Nat} {row : List Wt.Nd} {ts : List Wlx.TV} (h : tkOp k ts = none) : more sub k n row ts = .inl (row, ts) := by
  cases n with
  | zero => rfl
  | succ n => simp only [more, h]
end Go.Proofs.YtalkiggclckcdaaGreatDoor
namespace Go.Proofs.YtalkiggclckcdaaGreatDoor.Wnum
def decs (d : Nat) : Nat → Nat → List UInt8
  | 0, _ => []
  | k + 1, r => if r = 0 then [] else UInt8.ofNat (48 + r * 10 / d) :: decs d k (r * 10 % d)
def fu (d : Nat) : Nat → Nat → Nat
  | 0, _ => 0
  | k + 1, r => if r = 0 then 0 else fu d k (r * 10 % d) + 1
theorem decs_zero (d k : Nat) : decs d k 0 = [] := by cases k <;> rfl
theorem decs_more {d k r : Nat} (h : r ≠ 0) : decs d (k + 1) r = UInt8.ofNat (48 + r * 10 / d) :: decs d k (r * 10 % d) := if_neg h
theorem fu_zero (d k : Nat) : fu d k 0 = 0 := by cases k <;> rfl
theorem fu_more {d k r : Nat} (h : r ≠ 0) : fu d (k + 1) r = fu d k (r * 10 % d) + 1 := if_neg h
theorem ends_step {d k r : Nat} (h : r * 10 ^ (k + 1) % d = 0) : r * 10 % d * 10 ^ k % d = 0 := by
  rw [Nat.mod_mul_mod, Nat.mul_assoc, ← Nat.pow_succ']
  exact h
theorem ends_zero {d r : Nat} (hr : r < d) (h : r * 10 ^ 0 % d = 0) : r = 0 := by
  rw [Nat.pow_zero, Nat.mul_one, Nat.mod_eq_of_lt hr] at h
  exact h
theorem fu_stable {d : Nat} (hd : 0 < d) : ∀ k r, r < d → r * 10 ^ k % d = 0 → fu d (k + 1) r = fu d k r := by
  intro k
  induction k with
  | zero => intro r hr h; rw [ends_zero hr h]; rfl
  | succ k ih =>
    intro r hr h
    by_cases h0 : r = 0
    · rw [h0, fu_zero, fu_zero]
    · rw [fu_more h0, ih _ (Nat.mod_lt _ hd) (ends_step h)]
      exact (fu_more h0).symm
theorem fu_less {d k r : Nat} (hd : 0 < d) (hr : r < d) (h0 : r ≠ 0) (hk : k + 1 ≤ 6) (h : r * 10 ^ (k + 1) % d = 0) : fu d 6 (r * 10 % d) < fu d 6 r := by
  have up : ∀ j m x, x < d → x * 10 ^ m % d = 0 → fu d (m + j) x = fu d m x := by
    intro j
    induction j with
    | zero => intro m x _ _; rfl
    | succ j ih =>
      intro m x hx hm
      rw [show m + (j + 1) = (m + j) + 1 by omega, fu_stable hd (m + j) x hx (by rw [Nat.pow_add, ← Nat.mul_assoc, Nat.mul_mod, hm, Nat.zero_mul, Nat.zero_mod]), ih m x hx hm]
  have e1 := up (6 - (k + 1)) (k + 1) r hr h
  have e2 := up (6 - k) k (r * 10 % d) (Nat.mod_lt _ hd) (ends_step h)
  rw [show k + 1 + (6 - (k + 1)) = 6 by omega] at e1
  rw [show k + (6 - k) = 6 by omega] at e2
  rw [e1, e2, fu_more h0]
  omega
def sgnT (N : Int) : List UInt8 := if N < 0 then [45] else []
def txt (N : Int) (D : Nat) : List UInt8 :=
  sgnT N ++ (if 1000000 % D ≠ 0 then Lib.decDigits N.natAbs ++ 47 :: Lib.decDigits D else if N.natAbs % D = 0 then Lib.decDigits (N.natAbs / D) else Lib.decDigits (N.natAbs / D) ++ 46 :: decs D 6 (N.natAbs % D))
theorem txt_frac {N : Int} {D : Nat} (h : 1000000 % D ≠ 0) : txt N D = sgnT N ++ (Lib.decDigits N.natAbs ++ 47 :: Lib.decDigits D) := by unfold txt; rw [if_pos h]
theorem txt_whole {N : Int} {D : Nat} (h : 1000000 % D = 0) (h' : N.natAbs % D = 0) : txt N D = sgnT N ++ Lib.decDigits (N.natAbs / D) := by unfold txt; rw [if_neg (by omega), if_pos h']
theorem txt_point {N : Int} {D : Nat} (h : 1000000 % D = 0) (h' : N.natAbs % D ≠ 0) : txt N D = sgnT N ++ (Lib.decDigits (N.natAbs / D) ++ 46 :: decs D 6 (N.natAbs % D)) := by unfold txt; rw [if_neg (by omega), if_neg h']
theorem itoa_sgn (N : Int) : Lib.itoa N = sgnT N ++ Lib.decDigits N.natAbs := by
  unfold Lib.itoa sgnT
  by_cases h : N < 0
  · rw [if_pos h, if_pos h]; rfl
  · rw [if_neg h, if_neg h, show N.toNat = N.natAbs by omega]; rfl
theorem ends_six {d r : Nat} (h : 1000000 % d = 0) : r * 10 ^ 6 % d = 0 := by
  rw [show (10 : Nat) ^ 6 = 1000000 by decide, Nat.mul_mod, h, Nat.mul_zero, Nat.zero_mod]
theorem decs_length (d : Nat) : ∀ k r, (decs d k r).length ≤ k := by
  intro k
  induction k with
  | zero => intro r; exact Nat.le_refl _
  | succ k ih =>
    intro r
    by_cases h : r = 0
    · rw [h, decs_zero]; exact Nat.zero_le _
    · rw [decs_more h, List.length_cons]; have := ih (r * 10 % d); omega
end Go.Proofs.YtalkiggclckcdaaGreatDoor.Wnum
namespace Go.Proofs.YtalkiggclckcdaaGreatDoor
open Go.RowKit Go.Shelf
set_option linter.unusedVariables false
def tgh (x : Wt.Nd) : Int := match Wt.opOf x.op with | some o => o.2.2 | none => 7
def mrk (x : Wt.Nd) : List UInt8 := match Wt.opOf x.op with | some o => o.2.1 | none => []
def litT (v : Wt.Vl) : List UInt8 :=
  if v.k = 1 then Wnum.txt (Wnum.cN v.n v.d) (Wnum.cD v.n v.d).toNat
  else if v.k = 2 then 34 :: (Wlx.dbl v.t.data.toList ++ [34])
  else if v.k = 3 then (if v.b then [84, 82, 85, 69] else [70, 65, 76, 83, 69])
  else fNames.getD v.f.toNat []
def celT (a : Wt.Rf) : List UInt8 := if a.s = ⟨#[]⟩ then cw a else a.s.data.toList ++ (33 :: cw a)
def prA (sub : Int → List Wt.Nd → List UInt8 × List Wt.Nd) : Nat → Bool → List Wt.Nd → List UInt8 × List Wt.Nd
  | 0, _, l => ([], l)
  | n + 1, first, l => ((if first then [] else [44]) ++ (sub 0 l).1 ++ (prA sub n false (sub 0 l).2).1, (prA sub n false (sub 0 l).2).2)
def prS (sub : Int → List Wt.Nd → List UInt8 × List Wt.Nd) (x : Wt.Nd) (r : List Wt.Nd) : List UInt8 × List Wt.Nd :=
  if x.k = 1 then (litT x.v, r)
  else if x.k = 2 then (celT x.a, r)
  else if x.k = 3 then (celT x.a ++ 58 :: celT x.b, r)
  else (x.nm.data.toList ++ [40] ++ (prA sub x.ar.toNat true r).1 ++ [41], (prA sub x.ar.toNat true r).2)
def prN (sub : Int → List Wt.Nd → List UInt8 × List Wt.Nd) (x : Wt.Nd) (r : List Wt.Nd) : List UInt8 × List Wt.Nd :=
  if tgh x = 7 then prS sub x r
  else if tgh x = 5 then (mrk x ++ (sub 5 r).1, (sub 5 r).2)
  else if tgh x = 6 then ((sub 6 r).1 ++ mrk x, (sub 6 r).2)
  else ((sub (tgh x) r).1 ++ mrk x ++ (sub (tgh x + 1) (sub (tgh x) r).2).1, (sub (tgh x + 1) (sub (tgh x) r).2).2)
def pr : Nat → Int → List Wt.Nd → List UInt8 × List Wt.Nd
  | 0, _, l => ([], l)
  | _ + 1, _, [] => ([], [])
  | f + 1, least, x :: r => if least ≤ tgh x then prN (pr f) x r else (40 :: (prN (pr f) x r).1 ++ [41], (prN (pr f) x r).2)
end Go.Proofs.YtalkiggclckcdaaGreatDoor
