/- Scan. -/
import Derived.Test.YtjkohkhngeioiaaDoorLSaid
import Derived.OwnWalk
import Derived.Laws.OwnMore
import Derived.WalkSmall
namespace Go.Proofs.YtjkohkhngeioiaaDoor
open Go.Shelf Go.RowKit
set_option linter.unusedVariables false

/-- The cells of a row of tokens. -/
def tok3 (t : Wlx.Tok) : List Value := [.int .i64 t.k, .string ⟨t.t.toArray⟩, .int .i64 t.p]
def rowT (ts : List Wlx.Tok) : List Value := ts.flatMap tok3
theorem rowT_snoc (ts : List Wlx.Tok) (t : Wlx.Tok) : rowT (ts ++ [t]) = rowT ts ++ tok3 t := by simp [rowT]
theorem tokInfo : (Tryd.prog.info? 31).map (fun i => (i.zero, i.size, i.bytes)) = some (some (.agg #[.int .i64 0, .string ⟨#[]⟩, .int .i64 0]), 3, 32) := by kernel_rfl
/-- Tokens that a call has made. -/
abbrev OwnT (w : World) (base : Nat) (v : Value) (ts : List Wlx.Tok) : Prop := w.ownsRow base 31 3 v ts.length (rowT ts)
theorem own_below {B : Nat} {v : Value} {ts : List Wlx.Tok} {w w' : World} (h : OwnT w B v ts) (hb : Below w.heap.size w w') : OwnT w' B v ts :=
  h.kept (row := none) ⟨hb.os, hb.tape, hb.output, hb.size, fun k hk _ => hb.block k hk⟩ (by cases v.ownBlock <;> simp)

def scanAll (l : List UInt8) : Wlx.Res := if 1024 < l.length then Wlx.Res.err 2 0 else Wlx.scan 0 l
/-- What Scan answers. -/
def ScanPost (B : Nat) (r : Wlx.Res) (e : Ending) (w : World) : Prop :=
  match r with
  | .inl ts => ∃ v, e = .returned (.tuple #[v, .int .i64 0, .int .i64 0]) ∧ OwnT w B v ts
  | .inr (c, p) => e = .returned (.tuple #[.slice none 0 0, .int .i64 c, .int .i64 p])

theorem iter_grown {w w' : World} {row : Option Nat} (hg : w.grownBy w' row) {k : Nat} {s : ByteArray} {pos : Nat} (hk : w.heap[k]? = some (.stringIter s pos)) (hne : some k ≠ row) : w'.heap[k]? = some (.stringIter s pos) := by
  rw [hg.block k (Array.getElem?_eq_some_iff.1 hk).1 hne]; exact hk
theorem iter_below {w w' : World} (hb : Below w.heap.size w w') {k : Nat} {s : ByteArray} {pos : Nat} (hk : w.heap[k]? = some (.stringIter s pos)) : w'.heap[k]? = some (.stringIter s pos) := by
  rw [hb.block k (Array.getElem?_eq_some_iff.1 hk).1]; exact hk
theorem prt_low {c : UInt8} (h : Wlx.prt c = true) : c.toNat < 128 := by
  unfold Wlx.prt at h; simp at h; omega
theorem runP_all {p : UInt8 → Bool} : ∀ (l : List UInt8), ¬ Wlx.runP p l < l.length → ∀ x ∈ l, p x = true
  | [], _, x, hx => by cases hx
  | c :: t, h, x, hx => by
    cases hc : p c with
    | false => rw [Wlx.runP_neg hc] at h; simp at h
    | true =>
      rw [Wlx.runP_pos hc] at h
      simp only [List.length_cons] at h
      rcases List.mem_cons.1 hx with rfl | hx
      · exact hc
      · exact runP_all t (by omega) x hx
end Go.Proofs.YtjkohkhngeioiaaDoor
