/- TSame, PlainV, TPr, WalkDg, WalkDc, TWr. -/
import Derived.Test.YtlggnpohhahdlaaGreatDoorQ27
import Derived.Deep.LoopGhost
import Derived.Deep.MidRow
import Derived.Lib.ItoaNum
import Derived.Lib.ItoaLen
import Derived.Lib.Slices
import Derived.Laws.IdiomStrings
import Derived.Lib.Builder
import Derived.Laws.Externs
import Derived.OwnWalk
import Derived.Laws.OwnMore
import Derived.BigCall
import Derived.Lib.AppendStr
import Derived.Lib.OthersKept
import Derived.Lib.UnsafeStr
import Derived.Lib.FrozenHead
namespace Go.Proofs.YtlggnpohhahdlaaGreatDoor
open Go.RowKit
set_option linter.unusedVariables false
theorem neqN_run (x : Wt.Nd) (w : World) : (binOp .neq 45 (ndV x) (ndV x)).run Tryz.prog w = .ok (.bool false) w := by
  have h := eqN_run x x w
  have e : eqN x x = true := (eqN_iff x x).2 rfl
  rw [e] at h
  unfold ndV at h ⊢
  rw [run_eql_struct] at h
  rw [run_neq_struct]
  revert h
  generalize (Op.equalIn 10000 45 (.agg (nd20 x).toArray) (.agg (nd20 x).toArray)).run Tryz.prog w = r
  intro h
  cases r <;> simp_all [Result.andThen]
theorem neqN_exec (x : Wt.Nd) (w : World) {a : Operand → Value} {ex ey : Operand} (h1 : a ex = .agg (nd20 x).toArray) (h2 : a ey = .agg (nd20 x).toArray) {d : Option Nat} {ty : TypeId} {p : String} {af : Array Edge} {g : Option (Nat × Bool)} :
    (execOp a { dst := d, op := .binOp BinOp.neq 45 ex ey 45, type := ty, pos := p, after := af, guard := g }).run Tryz.prog w = .ok (.value (.bool false)) w := by
  unfold execOp
  simp only [h1, h2]
  have h3 := neqN_run x w
  unfold ndV at h3
  have h4 : (eqGuard .neq 45 ex ey (.agg (nd20 x).toArray) (.agg (nd20 x).toArray)).run Tryz.prog w = .ok () w := by kernel_rfl
  simp only [Sem.run_bind, h3, h4, Result.andThen_ok, Sem.run_pure]
set_option maxRecDepth 100000 in
set_option maxHeartbeats 4000000 in
theorem nsame_wide (av1 av2 : Option Addr) (cap1 cap2 : Nat) (L : List Wt.Nd) (w : World) (h1 : RdN w av1 L) (h2 : RdN w av2 L) (hl : True → L.length ≤ 799644820200) :
    Calls Tryz.prog 10 #[.slice av1 L.length cap1, .slice av2 L.length cap2] w fun e w' => e = .returned (.bool true) ∧ Below w.heap.size w w' := by
  have H1 : Hid (RdN w av1 L) := h1
  have H2 : Hid (RdN w av2 L) := h2
  obtain ⟨n, hn⟩ : ∃ n, L.length = n := ⟨_, rfl⟩
  rw [hn] at hl ⊢
  clear h1 h2
  go_enter Tryz.func10, Tryz.ntmps10
  go_wp2_with fail
  go_loopg [5] n (fun gk x wr => ∃ i : Nat, x = .int .i64 i ∧ gk = n - i ∧ i ≤ n ∧ Below w.heap.size w wr)
  case atStart => exact ⟨0, rfl, rfl, Nat.zero_le _, Below.refl _ _⟩
  case round =>
    obtain ⟨i, rfl, hg, hi, hb⟩ := hrel
    by_cases hlt : i < n
    · have hli : (i : Int) < (n : Int) := by omega
      have hi0 : (0 : Int) ≤ (i : Int) := by omega
      have hwi : IntKind.i64.wrap ((i : Int) + 1) = (i : Int) + 1 := by rw [IntKind.wrap_i64]; have := hl trivial; omega
      obtain ⟨b1, o1, rfl, c1⟩ := RdN.below H1.out hb i (by omega)
      obtain ⟨b2, o2, rfl, c2⟩ := RdN.below H2.out hb i (by omega)
      generalize L[i] = x at c1 c2
      go_upto_region 6 with fail
      refine wp_region_held_drew (S := fun W => W.rangeAt b1 (o1 + i * 20) (nd20 x) ∧ W.rangeAt b2 (o2 + i * 20) (nd20 x)) (by kernel_rfl) ⟨c1, c2⟩ (fun hHeld => ?_)
      refine tkQ 0 { dst := some 17, op := .move (.tmp 0), type := 22, pos := "law.go:22", after := #[], guard := none } ?_; try simp only [Act.put, lA, lZ, lS]
      refine tkQ 1 { dst := some 18, op := .move (.tmp 5), type := 3, pos := "law.go:22", after := #[], guard := none } ?_; try simp only [Act.put, lA, lZ, lS]
      refine tkQ 2 { dst := some 19, op := .indexAddr 22 (.tmp 17) (.tmp 18), type := 0, pos := "law.go:22", after := #[⟨0, .data⟩, ⟨1, .data⟩], guard := none } ?_; try simp only [Act.put, lA, lZ, lS]
      refine wpAnyH_take (i := 3) (oi := { dst := some 20, op := .load 45 (.tmp 19), type := 45, pos := "law.go:22", after := #[⟨2, .data⟩], guard := none }) (v := .agg (nd20 x).toArray) rfl (by kernel_rfl) (by kernel_rfl) (by kernel_rfl) (fun _ _ _ h => h) (yieldsIf_load_mid (by rfl) 45 (.tmp 19) rfl b1 (o1 + i * 20) rfl (nd20 x) _ (fun _ h => h.1) Tryz.underlying45 rfl (by kernel_rfl)) (by assumption) ?_
      try simp only [Act.put, lA, lZ, lS]
      refine tkQ 4 { dst := some 21, op := .move (.tmp 1), type := 22, pos := "law.go:22", after := #[], guard := none } ?_; try simp only [Act.put, lA, lZ, lS]
      refine tkQ 5 { dst := some 22, op := .move (.tmp 5), type := 3, pos := "law.go:22", after := #[], guard := none } ?_; try simp only [Act.put, lA, lZ, lS]
      refine tkQ 6 { dst := some 23, op := .indexAddr 22 (.tmp 21) (.tmp 22), type := 0, pos := "law.go:22", after := #[⟨4, .data⟩, ⟨5, .data⟩], guard := none } ?_; try simp only [Act.put, lA, lZ, lS]
      refine wpAnyH_take (i := 7) (oi := { dst := some 24, op := .load 45 (.tmp 23), type := 45, pos := "law.go:22", after := #[⟨6, .data⟩], guard := none }) (v := .agg (nd20 x).toArray) rfl (by kernel_rfl) (by kernel_rfl) (by kernel_rfl) (fun _ _ _ h => h) (yieldsIf_load_mid (by rfl) 45 (.tmp 23) rfl b2 (o2 + i * 20) rfl (nd20 x) _ (fun _ h => h.2) Tryz.underlying45 rfl (by kernel_rfl)) (by assumption) ?_
      try simp only [Act.put, lA, lZ, lS]
      refine wpAnyH_take (i := 8) (oi := { dst := some 25, op := .binOp BinOp.neq 45 (.tmp 20) (.tmp 24) 45, type := 4, pos := "law.go:22", after := #[⟨3, .data⟩, ⟨7, .data⟩], guard := none }) (v := .bool false) rfl (by kernel_rfl) (by kernel_rfl) (by kernel_rfl) (fun _ _ _ h => h) (Or.inl ⟨by rfl, fun w _ => neqN_exec x w rfl rfl⟩) (by assumption) ?_
      try simp only [Act.put, lA, lZ, lS]
      refine wpAnyH_done (by kernel_rfl) ?_ _
      clear hHeld c1 c2
      have hbd := hb.drew
      go_wp2_with fail
      go_roundg (n - (i + 1))
      case rel => exact ⟨i + 1, by simp, rfl, by omega, hbd⟩
      case measure => omega
    · have hli : ¬ (i : Int) < (n : Int) := by omega
      go_wp2
      go_ret
      exact ⟨rfl, hb⟩
end Go.Proofs.YtlggnpohhahdlaaGreatDoor
namespace Go.Proofs.YtlggnpohhahdlaaGreatDoor.Wnum
def decs (d : Nat) : Nat → Nat → List UInt8
  | 0, _ => []
  | k + 1, r => if r = 0 then [] else UInt8.ofNat (48 + r * 10 / d) :: decs d k (r * 10 % d)
def fu (d : Nat) : Nat → Nat → Nat
  | 0, _ => 0
  | k + 1, r => if r = 0 then 0 else fu d k (r * 10 % d) + 1
theorem decs_zero (d k : Nat) : decs d k 0 = [] := by cases k <;> rfl
theorem decs_more {d k r : Nat} (h : r ≠ 0) : decs d (k + 1) r = UInt8.ofNat (48 + r * 10 / d) :: decs d k (r * 10 % d) := if_neg h
theorem fu_zero (d k : Nat) : fu d k 0 = 0 := by cases k <;> rfl
theorem fu_more {d k r : Nat} (h : r ≠ 0) : fu d (k + 1) r = fu d k (r * 10 % d) + 1 := if_neg h
theorem ends_step {d k r : Nat} (h : r * 10 ^ (k + 1) % d = 0) : r * 10 % d * 10 ^ k % d = 0 := by
  rw [Nat.mod_mul_mod, Nat.mul_assoc, ← Nat.pow_succ']
  exact h
theorem ends_zero {d r : Nat} (hr : r < d) (h : r * 10 ^ 0 % d = 0) : r = 0 := by
  rw [Nat.pow_zero, Nat.mul_one, Nat.mod_eq_of_lt hr] at h
  exact h
theorem fu_stable {d : Nat} (hd : 0 < d) : ∀ k r, r < d → r * 10 ^ k % d = 0 → fu d (k + 1) r = fu d k r := by
  intro k
  induction k with
  | zero => intro r hr h; rw [ends_zero hr h]; rfl
  | succ k ih =>
    intro r hr h
    by_cases h0 : r = 0
    · rw [h0, fu_zero, fu_zero]
    · rw [fu_more h0, ih _ (Nat.mod_lt _ hd) (ends_step h)]
      exact (fu_more h0).symm
theorem fu_less {d k r : Nat} (hd : 0 < d) (hr : r < d) (h0 : r ≠ 0) (hk : k + 1 ≤ 6) (h : r * 10 ^ (k + 1) % d = 0) : fu d 6 (r * 10 % d) < fu d 6 r := by
  have up : ∀ j m x, x < d → x * 10 ^ m % d = 0 → fu d (m + j) x = fu d m x := by
    intro j
    induction j with
    | zero => intro m x _ _; rfl
    | succ j ih =>
      intro m x hx hm
      rw [show m + (j + 1) = (m + j) + 1 by omega, fu_stable hd (m + j) x hx (by rw [Nat.pow_add, ← Nat.mul_assoc, Nat.mul_mod, hm, Nat.zero_mul, Nat.zero_mod]), ih m x hx hm]
  have e1 := up (6 - (k + 1)) (k + 1) r hr h
  have e2 := up (6 - k) k (r * 10 % d) (Nat.mod_lt _ hd) (ends_step h)
  rw [show k + 1 + (6 - (k + 1)) = 6 by omega] at e1
  rw [show k + (6 - k) = 6 by omega] at e2
  rw [e1, e2, fu_more h0]
  omega
def sgnT (N : Int) : List UInt8 := if N < 0 then [45] else []
def txt (N : Int) (D : Nat) : List UInt8 :=
  sgnT N ++ (if 1000000 % D ≠ 0 then Lib.decDigits N.natAbs ++ 47 :: Lib.decDigits D else if N.natAbs % D = 0 then Lib.decDigits (N.natAbs / D) else Lib.decDigits (N.natAbs / D) ++ 46 :: decs D 6 (N.natAbs % D))
theorem txt_frac {N : Int} {D : Nat} (h : 1000000 % D ≠ 0) : txt N D = sgnT N ++ (Lib.decDigits N.natAbs ++ 47 :: Lib.decDigits D) := by unfold txt; rw [if_pos h]
theorem txt_whole {N : Int} {D : Nat} (h : 1000000 % D = 0) (h' : N.natAbs % D = 0) : txt N D = sgnT N ++ Lib.decDigits (N.natAbs / D) := by unfold txt; rw [if_neg (by omega), if_pos h']
theorem txt_point {N : Int} {D : Nat} (h : 1000000 % D = 0) (h' : N.natAbs % D ≠ 0) : txt N D = sgnT N ++ (Lib.decDigits (N.natAbs / D) ++ 46 :: decs D 6 (N.natAbs % D)) := by unfold txt; rw [if_neg (by omega), if_neg h']
theorem itoa_sgn (N : Int) : Lib.itoa N = sgnT N ++ Lib.decDigits N.natAbs := by
  unfold Lib.itoa sgnT
  by_cases h : N < 0
  · rw [if_pos h, if_pos h]; rfl
  · rw [if_neg h, if_neg h, show N.toNat = N.natAbs by omega]; rfl
theorem ends_six {d r : Nat} (h : 1000000 % d = 0) : r * 10 ^ 6 % d = 0 := by
  rw [show (10 : Nat) ^ 6 = 1000000 by decide, Nat.mul_mod, h, Nat.mul_zero, Nat.zero_mod]
theorem decs_length (d : Nat) : ∀ k r, (decs d k r).length ≤ k := by
  intro k
  induction k with
  | zero => intro r; exact Nat.le_refl _
  | succ k ih =>
    intro r
    by_cases h : r = 0
    · rw [h, decs_zero]; exact Nat.zero_le _
    · rw [decs_more h, List.length_cons]; have := ih (r * 10 % d); omega
end Go.Proofs.YtlggnpohhahdlaaGreatDoor.Wnum
namespace Go.Proofs.YtlggnpohhahdlaaGreatDoor
open Go.RowKit Go.Shelf
set_option linter.unusedVariables false
def tgh (x : Wt.Nd) : Int := match Wt.opOf x.op with | some o => o.2.2 | none => 7
def mrk (x : Wt.Nd) : List UInt8 := match Wt.opOf x.op with | some o => o.2.1 | none => []
def litT (v : Wt.Vl) : List UInt8 :=
  if v.k = 1 then Wnum.txt (Wnum.cN v.n v.d) (Wnum.cD v.n v.d).toNat
  else if v.k = 2 then 34 :: (Wlx.dbl v.t.data.toList ++ [34])
  else if v.k = 3 then (if v.b then [84, 82, 85, 69] else [70, 65, 76, 83, 69])
  else fNames.getD v.f.toNat []
def celT (a : Wt.Rf) : List UInt8 := if a.s = ⟨#[]⟩ then cw a else a.s.data.toList ++ (33 :: cw a)
def prA (sub : Int → List Wt.Nd → List UInt8 × List Wt.Nd) : Nat → Bool → List Wt.Nd → List UInt8 × List Wt.Nd
  | 0, _, l => ([], l)
  | n + 1, first, l => ((if first then [] else [44]) ++ (sub 0 l).1 ++ (prA sub n false (sub 0 l).2).1, (prA sub n false (sub 0 l).2).2)
def prS (sub : Int → List Wt.Nd → List UInt8 × List Wt.Nd) (x : Wt.Nd) (r : List Wt.Nd) : List UInt8 × List Wt.Nd :=
  if x.k = 1 then (litT x.v, r)
  else if x.k = 2 then (celT x.a, r)
  else if x.k = 3 then (celT x.a ++ 58 :: celT x.b, r)
  else (x.nm.data.toList ++ [40] ++ (prA sub x.ar.toNat true r).1 ++ [41], (prA sub x.ar.toNat true r).2)
def prN (sub : Int → List Wt.Nd → List UInt8 × List Wt.Nd) (x : Wt.Nd) (r : List Wt.Nd) : List UInt8 × List Wt.Nd :=
  if tgh x = 7 then prS sub x r
  else if tgh x = 5 then (mrk x ++ (sub 5 r).1, (sub 5 r).2)
  else if tgh x = 6 then ((sub 6 r).1 ++ mrk x, (sub 6 r).2)
  else ((sub (tgh x) r).1 ++ mrk x ++ (sub (tgh x + 1) (sub (tgh x) r).2).1, (sub (tgh x + 1) (sub (tgh x) r).2).2)
def pr : Nat → Int → List Wt.Nd → List UInt8 × List Wt.Nd
  | 0, _, l => ([], l)
  | _ + 1, _, [] => ([], [])
  | f + 1, least, x :: r => if least ≤ tgh x then prN (pr f) x r else (40 :: (prN (pr f) x r).1 ++ [41], (prN (pr f) x r).2)
open Go.RowKit
theorem dig_byte (u : Nat) : (((UInt8.ofNat (48 + u % 10)).toNat : Nat) : Int) = 48 + (u : Int) % 10 := by
  have h : (UInt8.ofNat (48 + u % 10)).toNat = 48 + u % 10 := by
    rw [UInt8.toNat_ofNat']
    exact Nat.mod_eq_of_lt (by omega)
  rw [h]; omega
theorem dig_conv (u : Nat) (c : UInt8) (w : World) (hc : ((c.toNat : Nat) : Int) = 48 + (u : Int) % 10) :
    (convert 63 9 (.slice (some ⟨w.heap.size, 0, none⟩) 1 1)).run Tryz.prog (w.alloc (.cells #[.int .u8 (48 + (u : Int) % 10)] 5)) = .ok (.string ⟨#[c]⟩) (w.alloc (.cells #[.int .u8 (48 + (u : Int) % 10)] 5)) := by
  have := run_convert_bytes_back (P := Tryz.prog) (w.alloc (.cells #[.int .u8 (48 + (u : Int) % 10)] 5)) 63 9 5 ⟨w.heap.size, 0, none⟩ 1 [c] Tryz.underlying63 Tryz.underlying5 Tryz.underlying9 (by
    intro j hj
    obtain rfl : j = 0 := by simp at hj; omega
    simp [Addr.add, go_sem, hc])
  exact this
theorem app_mk (a b : List UInt8) : ((⟨a.toArray⟩ : ByteArray) ++ (⟨b.toArray⟩ : ByteArray)) = ⟨(a ++ b).toArray⟩ := by
  apply ByteArray.ext
  rw [ByteArray.data_append]
  simp
theorem dd_len (n : Nat) (h : n ≤ 9223372036854775807) : (Lib.decDigits n).length ≤ 21 := by
  have := Lib.itoa_length_le (n : Int) (by omega) (by omega)
  unfold Lib.itoa at this
  rw [if_neg (by omega), Int.toNat_natCast] at this
  exact this
theorem dd_small {u : Nat} (h : u < 10) : Lib.decDigits u = [UInt8.ofNat (48 + u % 10)] := by
  unfold Lib.decDigits
  rw [dif_pos h, Nat.mod_eq_of_lt h]
theorem dd_more {u : Nat} (h : ¬ u < 10) : Lib.decDigits u = Lib.decDigits (u / 10) ++ [UInt8.ofNat (48 + u % 10)] := by
  conv => lhs; unfold Lib.decDigits
  rw [dif_neg h]
set_option maxHeartbeats 800000 in
theorem digits_any (n : Nat) (w : World) (hn : n ≤ 9223372036854775807) :
    Calls Tryz.prog 104 #[.int .u64 (n : Int)] w fun e w' => e = .returned (.string ⟨(Lib.decDigits n).toArray⟩) ∧ Below w.heap.size w w' := by
  have DL := dd_len n hn
  go_enter Tryz.func104, Tryz.ntmps104
  go_wp2
  go_loopw [0, 3] (fun x s wr => ∃ (u : Nat) (l : List UInt8), x = .int .u64 u ∧ s = .string ⟨l.toArray⟩ ∧ u ≤ 9223372036854775807 ∧ Hid (Lib.decDigits n = Lib.decDigits u ++ l) ∧ Below w.heap.size w wr) (fun x _ _ => (intOf x).toNat)
  case atStart => exact ⟨n, [], rfl, rfl, hn, (by rw [List.append_nil] : Lib.decDigits n = Lib.decDigits n ++ []), Below.refl _ _⟩
  case round =>
    obtain ⟨u, l, rfl, rfl, hu, HI, qB⟩ := hrel
    have ll : l.length ≤ 21 := by
      have := congrArg List.length HI.out
      rw [List.length_append] at this
      omega
    obtain ⟨c, ec⟩ : ∃ c, c = UInt8.ofNat (48 + u % 10) := ⟨_, rfl⟩
    have hc := dig_byte u
    rw [← ec] at hc
    have hcv := dig_conv u c wr hc
    have EC : Hid (c = UInt8.ofNat (48 + u % 10)) := ec
    clear ec
    have hB := ball qB (.cells #[.int .u8 (48 + (u : Int) % 10)] 5)
    by_cases h10 : u < 10
    · have E : Hid (Lib.decDigits n = c :: l) := by show _ = _; rw [HI.out, dd_small h10, EC.out]; rfl
      have q0 : ((u : Int) / 10 == 0) = true := by rw [beq_iff_eq]; omega
      go_wp2
      go_ret
      refine ⟨?_, hB⟩
      rw [E.out]
      exact congrArg (fun x => Ending.returned (Value.string x)) (app_mk [c] l)
    · have E : Hid (Lib.decDigits n = Lib.decDigits (u / 10) ++ (c :: l)) := by show _ = _; rw [HI.out, dd_more h10, EC.out, List.append_assoc]; rfl
      have q0 : ((u : Int) / 10 == 0) = false := by rw [beq_eq_false_iff_ne]; omega
      go_wp2
      go_roundw
      case rel => exact ⟨u / 10, c :: l, by go_num, congrArg Value.string (app_mk [c] l), by omega, E, hB⟩
      case measure => simp [intOf]; omega
theorem liesB : liesAt Tryz.prog Tryz.prog.depth 65 (2 / Tryz.prog.cellsOf 65) 0 65 1 = true := by kernel_rfl
theorem infoB : (Tryz.prog.info? 65).map (fun i => i.size) = some 2 := by kernel_rfl
set_option maxHeartbeats 800000 in
theorem ccheck1 {B b : Nat} {bs : List Value} {w : World} (h : Lib.BuilderAt 65 5 B b (.pointer none) bs w) :
    Calls Tryz.prog 73 #[.pointer (some ⟨b, 0, none⟩)] w fun e w' => e = .returned (.tuple #[]) ∧ w' = w.setCell ⟨b, 0, none⟩ (.pointer (some ⟨b, 0, none⟩)) := by
  have c0 := h.cell0
  have f0 := h.frozen0
  have hsh := h.shape
  obtain ⟨j, hj, hjs⟩ := Option.map_eq_some_iff.1 infoB
  have k1 := Lib.run_to_unsafe (P := Tryz.prog) w ⟨b, 0, none⟩ Tryz.underlying62 Tryz.underlying138 hj (by rw [hjs]; decide) hsh (Nat.zero_lt_succ 1)
  have k2 := Lib.run_from_unsafe (P := Tryz.prog) w ⟨b, 0, none⟩ Tryz.underlying138 Tryz.underlying62 hj hsh liesB
  have k3 : (callFunc 100 #[.pointer (some ⟨b, 0, none⟩)]).run Tryz.prog w = .ok (.value (.pointer (some ⟨b, 0, none⟩))) w := by
    rw [run_callFunc_extern Tryz.func100 (by kernel_rfl) (by kernel_rfl) (by kernel_rfl) (e := Extern.AbiNoEscape.same) (by kernel_rfl), Lib.run_noEscape]
    rfl
  go_enter Tryz.func73, Tryz.ntmps73
  go_wp2
  go_end0
  exact ⟨rfl, rfl⟩
set_option maxHeartbeats 800000 in
theorem ccheck2 {B b : Nat} {bs : List Value} {w : World} (h : Lib.BuilderAt 65 5 B b (.pointer (some ⟨b, 0, none⟩)) bs w) :
    Calls Tryz.prog 73 #[.pointer (some ⟨b, 0, none⟩)] w fun e w' => e = .returned (.tuple #[]) ∧ w' = w := by
  have c0 := h.cell0
  obtain ⟨j, hj, hjs⟩ := Option.map_eq_some_iff.1 infoB
  have k1 := Lib.run_neq_ptr_same (P := Tryz.prog) w ⟨b, 0, none⟩ Tryz.underlying62 hj
  go_enter Tryz.func73, Tryz.ntmps73
  go_wp2
  go_end0
  exact ⟨rfl, rfl⟩
theorem byteInfo : (Tryz.prog.info? 5).map (fun i => (i.zero, i.size, i.bytes)) = some (some (.int .u8 0), 1, 1) := by kernel_rfl
set_option maxHeartbeats 1600000 in
theorem wbyte {B b : Nat} {bs : List Value} (c : Int) (w : World) (h : Lib.IsBuilder 65 5 B b bs w) (hlen : bs.length ≤ 1000) (hBw : B ≤ w.heap.size) :
    Calls Tryz.prog 171 #[.pointer (some ⟨b, 0, none⟩), .int .u8 c] w fun e w' => e = .returned .nilIface ∧ Lib.IsBuilder 65 5 B b (bs ++ [.int .u8 c]) w' ∧ Below B w w' := by
  have CC : Calls Tryz.prog 73 #[.pointer (some ⟨b, 0, none⟩)] w fun e w' => e = .returned (.tuple #[]) ∧ Lib.BuilderAt 65 5 B b (.pointer (some ⟨b, 0, none⟩)) bs w' ∧ Below B w w' := by
    rcases h with h | h
    · exact (ccheck1 h).mono fun e w' ⟨he, hw⟩ => ⟨he, by rw [hw]; exact h.used _, by rw [hw]; exact (Below.refl B w).setCell (p := ⟨b, 0, none⟩) h.1 _⟩
    · exact (ccheck2 h).mono fun e w' ⟨he, hw⟩ => ⟨he, by rw [hw]; exact h, by rw [hw]; exact Below.refl B w⟩
  obtain ⟨i0, hi, hz0, hz1, hz2⟩ := info_parts byteInfo
  go_enter Tryz.func171, Tryz.ntmps171
  go_wp2_with (go_at_call 73; refine CC.mono ?_)
  rintro e w1 ⟨rfl, hat, hb1⟩
  have hlt := hat.lt
  obtain ⟨hB, v, hbk, hown, hne⟩ := hat
  have s1 := hb1.size
  have x1 : w1.cell? ⟨b, 1, none⟩ = some v := by rw [Lib.cell_of_heap hbk]; rfl
  have news : ∀ j u, [Value.int .u8 c][j]? = some u → (w1.alloc (.cells #[.int .u8 c] 5)).cell? ((⟨w1.heap.size, 0, none⟩ : Addr).add j) = some u := by
    intro j u hj
    cases j with
    | zero => simp at hj; subst hj; simp [Addr.add, go_sem]
    | succ j => simp at hj
  go_wp2_with (at_builtin; refine wpList_append_own _ rfl _ _ 63 rfl B 5 i0 (.int .u8 0) 1 1 Tryz.underlying63 hi hz0 hz1 hz2 rfl (by decide) _ _ _ rfl (hown.alloc _) ⟨w1.heap.size, 0, none⟩ 1 1 [.int .u8 c] rfl rfl news (by intro u hu; simp at hu; subst hu; rfl) (by unfold maxLen; omega) (by omega) (by simp; omega) ?_)
  intro v2 w2 hown2 hgrow _
  have hk2 : w2.heap[b]? = some (.cells #[.pointer (some ⟨b, 0, none⟩), v] 65 (0, 0)) := by
    rw [hgrow.block b (by simp; omega) (fun e => hne e.symm), Lib.alloc_old w1 _ b hlt]
    exact hbk
  have y0 : w2.cell? ⟨b, 0, none⟩ = some (.pointer (some ⟨b, 0, none⟩)) := by rw [Lib.cell_of_heap hk2]; rfl
  have y1 : w2.cell? ⟨b, 1, none⟩ = some v := by rw [Lib.cell_of_heap hk2]; rfl
  have y2 : w2.frozen? ⟨b, 1, none⟩ = false := Lib.frozen_of_heap hk2 1
  have hB2 := (hb1.alloc (by omega) (.cells #[.int .u8 c] 5)).grown hgrow (by simp; omega) (fun k hk => (hown.lt k hk).1)
  obtain ⟨g, cap, rfl⟩ : ∃ g cap, v2 = .slice (some ⟨g, 0, none⟩) (bs.length + 1) cap := by
    rcases hown2.2 with ⟨_, h0⟩ | ⟨g, cap, cur, hv, _⟩
    · omega
    · exact ⟨g, cap, hv⟩
  go_wp2
  go_ret
  exact ⟨rfl, Or.inr (Lib.BuilderAt.put hB hk2 (bs' := bs ++ [.int .u8 c]) (by simpa using hown2) (by decide)), hB2.setCell (p := ⟨b, 1, none⟩) hB _⟩
theorem liesW : liesAt Tryz.prog Tryz.prog.depth 67 (3 / Tryz.prog.cellsOf 67) 0 65 1 = true := by kernel_rfl
def WrAt (B b : Nat) (p : Value) (bs : List Value) (lf : Value) (w : World) : Prop :=
  B ≤ b ∧ ∃ v, w.heap[b]? = some (.cells #[p, v, lf] 67 (0, 0)) ∧ w.ownsRow B 5 1 v bs.length bs ∧ v.ownBlock ≠ some b
def IsWr (B b : Nat) (bs : List Value) (lf : Value) (w : World) : Prop := WrAt B b (.pointer none) bs lf w ∨ WrAt B b (.pointer (some ⟨b, 0, none⟩)) bs lf w
theorem WrAt.lt {B b : Nat} {p : Value} {bs : List Value} {lf : Value} {w : World} (h : WrAt B b p bs lf w) : b < w.heap.size := by
  obtain ⟨_, v, hb, _⟩ := h
  exact (Array.getElem?_eq_some_iff.1 hb).1
theorem WrAt.set0 {B b : Nat} {p : Value} {bs : List Value} {lf : Value} {w : World} (h : WrAt B b p bs lf w) (q : Value) : WrAt B b q bs lf (w.setCell ⟨b, 0, none⟩ q) := by
  obtain ⟨hB, v, hb, hown, hne⟩ := h
  refine ⟨hB, v, by simp [World.setCell, Array.getElem?_modify, hb], ?_, hne⟩
  exact hown.kept (row := some b) ⟨rfl, rfl, rfl, by simp [World.setCell], fun k _ hk => Below.heap_setCell _ _ _ _ (fun e => hk (by simp [e]))⟩ (Or.inr hne)
theorem WrAt.set2 {B b : Nat} {p : Value} {bs : List Value} {lf : Value} {w : World} (h : WrAt B b p bs lf w) (q : Value) : WrAt B b p bs q (w.setCell ⟨b, 2, none⟩ q) := by
  obtain ⟨hB, v, hb, hown, hne⟩ := h
  refine ⟨hB, v, by simp [World.setCell, Array.getElem?_modify, hb], ?_, hne⟩
  exact hown.kept (row := some b) ⟨rfl, rfl, rfl, by simp [World.setCell], fun k _ hk => Below.heap_setCell _ _ _ _ (fun e => hk (by simp [e]))⟩ (Or.inr hne)
theorem WrAt.put {B b : Nat} {p v v' lf : Value} {bs' : List Value} {w : World} (hB : B ≤ b) (hb : w.heap[b]? = some (.cells #[p, v, lf] 67 (0, 0))) (hown : w.ownsRow B 5 1 v' bs'.length bs') :
    WrAt B b p bs' lf (w.setCell ⟨b, 1, none⟩ v') := by
  have hne := Lib.ownBlock_ne hown hb (by decide)
  refine ⟨hB, v', by simp [World.setCell, Array.getElem?_modify, hb], ?_, hne⟩
  exact hown.kept (row := some b) ⟨rfl, rfl, rfl, by simp [World.setCell], fun k _ hk => Below.heap_setCell _ _ _ _ (fun e => hk (by simp [e]))⟩ (Or.inr hne)
theorem WrAt.below {B b : Nat} {p : Value} {bs : List Value} {lf : Value} {w w' : World} (h : WrAt B b p bs lf w) (hb : Below w.heap.size w w') : WrAt B b p bs lf w' := by
  obtain ⟨hB, v, hk, hown, hne⟩ := h
  exact ⟨hB, v, (hb.block b (Array.getElem?_eq_some_iff.1 hk).1).trans hk, hown.kept (row := none) ⟨hb.os, hb.tape, hb.output, hb.size, fun k hk _ => hb.block k hk⟩ (by cases v.ownBlock <;> simp), hne⟩
theorem IsWr.below {B b : Nat} {bs : List Value} {lf : Value} {w w' : World} (h : IsWr B b bs lf w) (hb : Below w.heap.size w w') : IsWr B b bs lf w' := h.elim (fun x => .inl (x.below hb)) (fun x => .inr (x.below hb))
theorem IsWr.set2 {B b : Nat} {bs : List Value} {lf : Value} {w : World} (h : IsWr B b bs lf w) (q : Value) : IsWr B b bs q (w.setCell ⟨b, 2, none⟩ q) := h.elim (fun x => .inl (x.set2 q)) (fun x => .inr (x.set2 q))
theorem IsWr.lt {B b : Nat} {bs : List Value} {lf : Value} {w : World} (h : IsWr B b bs lf w) : b < w.heap.size := h.elim (fun x => x.lt) (fun x => x.lt)
theorem IsWr.le {B b : Nat} {bs : List Value} {lf : Value} {w : World} (h : IsWr B b bs lf w) : B ≤ b := h.elim (fun x => x.1) (fun x => x.1)
theorem IsWr.left {B b : Nat} {bs : List Value} {lf : Value} {w : World} (h : IsWr B b bs lf w) : w.cell? ⟨b, 2, none⟩ = some lf ∧ w.frozen? ⟨b, 2, none⟩ = false := by
  rcases h with ⟨_, v, hk, _⟩ | ⟨_, v, hk, _⟩ <;> exact ⟨by rw [Lib.cell_of_heap hk]; rfl, Lib.frozen_of_heap hk 2⟩
theorem kept_below {B : Nat} {b : Option Nat} {w w' : World} (hb : Below w.heap.size w w') : Lib.OthersKept 5 b w w' := fun k o hk _ _ => (hb.block k (Array.getElem?_eq_some_iff.1 hk).1).trans hk
theorem own_kind {w : World} {B : Nat} {e : TypeId} {v : Value} {n : Nat} {xs : List Value} (h : w.ownsRow B e 1 v n xs) : ∀ g, v.ownBlock = some g → ∃ c fz, w.heap[g]? = some (.cells c e fz) := by
  intro g hg
  rcases h.2 with ⟨rfl, _⟩ | ⟨g', cap, cur, rfl, _, hgg, _⟩
  · simp [Value.ownBlock] at hg
  · simp [Value.ownBlock] at hg
    subst hg
    exact ⟨cur, _, hgg⟩
set_option maxHeartbeats 800000 in
theorem ccw1 {B b : Nat} {bs : List Value} {lf : Value} {w : World} (h : WrAt B b (.pointer none) bs lf w) :
    Calls Tryz.prog 73 #[.pointer (some ⟨b, 0, none⟩)] w fun e w' => e = .returned (.tuple #[]) ∧ w' = w.setCell ⟨b, 0, none⟩ (.pointer (some ⟨b, 0, none⟩)) := by
  obtain ⟨hB, v, hbk, hown, hne⟩ := h
  have c0 : w.cell? ⟨b, 0, none⟩ = some (.pointer none) := by rw [Lib.cell_of_heap hbk]; rfl
  have f0 : w.frozen? ⟨b, 0, none⟩ = false := Lib.frozen_of_heap hbk 0
  have hsh : w.shape? b = some (67, 3) := by simp [World.shape?, hbk]
  obtain ⟨j, hj, hjs⟩ := Option.map_eq_some_iff.1 infoB
  have k1 := Lib.run_to_unsafe (P := Tryz.prog) w ⟨b, 0, none⟩ Tryz.underlying62 Tryz.underlying138 hj (by rw [hjs]; decide) hsh (Nat.zero_lt_succ 2)
  have k2 := Lib.run_from_unsafe (P := Tryz.prog) w ⟨b, 0, none⟩ Tryz.underlying138 Tryz.underlying62 hj hsh liesW
  have k3 : (callFunc 100 #[.pointer (some ⟨b, 0, none⟩)]).run Tryz.prog w = .ok (.value (.pointer (some ⟨b, 0, none⟩))) w := by
    rw [run_callFunc_extern Tryz.func100 (by kernel_rfl) (by kernel_rfl) (by kernel_rfl) (e := Extern.AbiNoEscape.same) (by kernel_rfl), Lib.run_noEscape]
    rfl
  go_enter Tryz.func73, Tryz.ntmps73
  go_wp2
  go_end0
  exact ⟨rfl, rfl⟩
set_option maxHeartbeats 800000 in
theorem ccw2 {B b : Nat} {bs : List Value} {lf : Value} {w : World} (h : WrAt B b (.pointer (some ⟨b, 0, none⟩)) bs lf w) :
    Calls Tryz.prog 73 #[.pointer (some ⟨b, 0, none⟩)] w fun e w' => e = .returned (.tuple #[]) ∧ w' = w := by
  obtain ⟨hB, v, hbk, hown, hne⟩ := h
  have c0 : w.cell? ⟨b, 0, none⟩ = some (.pointer (some ⟨b, 0, none⟩)) := by rw [Lib.cell_of_heap hbk]; rfl
  obtain ⟨j, hj, hjs⟩ := Option.map_eq_some_iff.1 infoB
  have k1 := Lib.run_neq_ptr_same (P := Tryz.prog) w ⟨b, 0, none⟩ Tryz.underlying62 hj
  go_enter Tryz.func73, Tryz.ntmps73
  go_wp2
  go_end0
  exact ⟨rfl, rfl⟩
set_option maxHeartbeats 1600000 in
theorem wrs_any (B b : Nat) (l : List UInt8) (lf : Value) (s : List UInt8) (w : World) (h : IsWr B b (Lib.byteCells l) lf w) (hlen : l.length + s.length ≤ 10000000) :
    Calls Tryz.prog 46 #[.pointer (some ⟨b, 0, none⟩), .string ⟨s.toArray⟩] w fun e w' => e = .returned (.tuple #[.int .i64 s.length, .nilIface]) ∧ IsWr B b (Lib.byteCells (l ++ s)) lf w' ∧ Below B w w' ∧ Lib.OthersKept 5 (some b) w w' := by
  have hBw : B ≤ w.heap.size := Nat.le_of_lt (Nat.lt_of_le_of_lt h.le h.lt)
  have CC : Calls Tryz.prog 73 #[.pointer (some ⟨b, 0, none⟩)] w fun e w' => e = .returned (.tuple #[]) ∧ WrAt B b (.pointer (some ⟨b, 0, none⟩)) (Lib.byteCells l) lf w' ∧ Below B w w' ∧ Lib.OthersKept 5 (some b) w w' := by
    rcases h with h | h
    · exact (ccw1 h).mono fun e w' ⟨he, hw⟩ => ⟨he, by rw [hw]; exact h.set0 _, by rw [hw]; exact (Below.refl B w).setCell (p := ⟨b, 0, none⟩) h.1 _, by rw [hw]; exact (Lib.OthersKept.refl _ _ w).setCell ⟨b, 0, none⟩ rfl _⟩
    · exact (ccw2 h).mono fun e w' ⟨he, hw⟩ => ⟨he, by rw [hw]; exact h, by rw [hw]; exact Below.refl B w, by rw [hw]; exact Lib.OthersKept.refl _ _ w⟩
  obtain ⟨i0, hi, hz0, hz1, hz2⟩ := info_parts byteInfo
  have hls : (⟨s.toArray⟩ : ByteArray).size = s.length := by simp [ByteArray.size]
  go_enter Tryz.func46, Tryz.ntmps46
  go_wp2_with (go_at_call 73; refine CC.mono ?_)
  rintro e w1 ⟨rfl, hat, hb1, hk1⟩
  have hlt := hat.lt
  obtain ⟨hB, v, hbk, hown, hne⟩ := hat
  have s1 := hb1.size
  have hll : (Lib.byteCells l).length = l.length := Lib.byteCells_length l
  have x1 : w1.cell? ⟨b, 1, none⟩ = some v := by rw [Lib.cell_of_heap hbk]; rfl
  go_wp2_with (at_builtin; refine Lib.wpList_append_own_string _ rfl _ _ 63 9 rfl B 5 i0 Tryz.underlying63 Tryz.underlying9 hi hz0 hz1 hz2 _ _ _ rfl hown ⟨s.toArray⟩ rfl (by rw [hls, hll]; unfold maxLen; omega) (by rw [hls, hll]; omega) (by omega) ?_)
  intro v2 w2 hown2 hgrow _
  have hk2 : w2.heap[b]? = some (.cells #[.pointer (some ⟨b, 0, none⟩), v, lf] 67 (0, 0)) := by
    rw [hgrow.block b hlt (fun e => hne e.symm)]
    exact hbk
  have y0 : w2.cell? ⟨b, 0, none⟩ = some (.pointer (some ⟨b, 0, none⟩)) := by rw [Lib.cell_of_heap hk2]; rfl
  have y1 : w2.cell? ⟨b, 1, none⟩ = some v := by rw [Lib.cell_of_heap hk2]; rfl
  have y2 : w2.frozen? ⟨b, 1, none⟩ = false := Lib.frozen_of_heap hk2 1
  have hB2 := hb1.grown hgrow (by omega) (fun k hk => (hown.lt k hk).1)
  have hK2 := (hk1.grown hgrow (own_kind hown)).setCell ⟨b, 1, none⟩ rfl v2
  have hown3 : w2.ownsRow B 5 1 v2 (Lib.byteCells (l ++ s)).length (Lib.byteCells (l ++ s)) := by
    have e1 : Lib.byteCells (l ++ s) = Lib.byteCells l ++ Lib.strCells ⟨s.toArray⟩ := by rw [Lib.strCells_eq, ← Lib.byteCells_append]
    have e2 : (Lib.byteCells (l ++ s)).length = l.length + s.length := by rw [Lib.byteCells_length, List.length_append]
    rw [e2, e1]; exact hown2
  obtain ⟨ao, n', cap, rfl⟩ : ∃ ao n' cap, v2 = .slice ao n' cap := by
    rcases hown2.2 with ⟨hv, _⟩ | ⟨g, cap, cur, hv, _⟩
    · exact ⟨_, _, _, hv⟩
    · exact ⟨_, _, _, hv⟩
  go_wp2
  go_ret2
  exact ⟨by simp, Or.inr (WrAt.put hB hk2 hown3), hB2.setCell (p := ⟨b, 1, none⟩) hB _, hK2⟩
set_option maxHeartbeats 2000000 in
set_option maxRecDepth 100000 in
theorem wstr_any (B b : Nat) (l : List UInt8) (lf : Value) (w : World) (h : IsWr B b (Lib.byteCells l) lf w) (h0 : l ≠ []) :
    Calls Tryz.prog 28 #[.pointer (some ⟨b, 0, none⟩)] w fun e w' => e = .returned (.string ⟨l.toArray⟩) ∧ Below B w w' := by
  obtain ⟨p, hAt⟩ : ∃ p, WrAt B b p (Lib.byteCells l) lf w := by
    rcases h with h | h
    · exact ⟨_, h⟩
    · exact ⟨_, h⟩
  obtain ⟨hB, v, hbk, hown, hne⟩ := hAt
  have hl0 : l.length ≠ 0 := by simpa using h0
  rw [Lib.byteCells_length] at hown
  obtain ⟨g, cap, cur, rfl, hbg, hg, hnc, hcm, hcs, htake⟩ : ∃ g cap cur, v = .slice (some ⟨g, 0, none⟩) l.length cap ∧ B ≤ g ∧ w.heap[g]? = some (.cells cur 5 (0, 0)) ∧ l.length ≤ cap ∧ cap ≤ maxLen ∧ cur.size = cap * 1 ∧ cur.toList.take (l.length * 1) = Lib.byteCells l := by
    rcases hown.2 with ⟨_, hz⟩ | ⟨g, cap, cur, hv, r⟩
    · exact absurd hz hl0
    · exact ⟨g, cap, cur, hv, r⟩
  have c1 : w.drew.cell? ⟨b, 1, none⟩ = some (.slice (some ⟨g, 0, none⟩) l.length cap) := by
    have : w.drew.heap[b]? = some (.cells #[p, .slice (some ⟨g, 0, none⟩) l.length cap, lf] 67 (0, 0)) := hbk
    rw [Lib.cell_of_heap this]; rfl
  have hSD : (Builtin.unsafeSliceData_ #[63] 92 #[.slice (some ⟨g, 0, none⟩) l.length cap]).run Tryz.prog w.drew = .ok (.pointer (some ⟨g, 0, none⟩)) w.drew :=
    Lib.run_unsafeSliceData_row _ _ _ _ _ _ (by omega)
  have hUS : (Builtin.unsafeString_ #[92, 3] 9 #[.pointer (some ⟨g, 0, none⟩), .int .i64 l.length]).run Tryz.prog w.drew = .ok (.string ⟨l.toArray⟩) (w.drew.freeze ⟨g, 0, none⟩ l.length) := by
    refine Lib.run_unsafeString_row w.drew 92 3 9 5 Tryz.underlying92 (by kernel_rfl) g cur.size (by have hg' : w.drew.heap[g]? = some (.cells cur 5 (0, 0)) := hg; simp [World.shape?, hg']) l h0 (by omega) (by unfold maxLen at hcm; omega) ?_
    intro j x hx
    have := hown.cells (g := g) rfl j (.int .u8 x.toNat) (by simp [Lib.byteCells, hx])
    exact this
  have hBl : Below B w (w.drew.freeze ⟨g, 0, none⟩ l.length) := Lib.below_freeze (Below.drew (Below.refl B w)) (p := ⟨g, 0, none⟩) hbg _
  go_enter Tryz.func28, Tryz.ntmps28
  have mixed : Tryz.prog.follows Departure.mixedOrders = true := by kernel_rfl
  go_wp2
  go_region_o
  all_goals (go_wp2; go_ret; exact ⟨rfl, hBl⟩)
end Go.Proofs.YtlggnpohhahdlaaGreatDoor
