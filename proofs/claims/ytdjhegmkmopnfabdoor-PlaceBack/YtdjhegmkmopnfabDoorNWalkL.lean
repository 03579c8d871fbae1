/- The contracts of ReadArea, and of the document's Read and ReadArea. -/
import Derived.Test.YtdjhegmkmopnfabDoorNWalkK
import Derived.Test.YtdjhegmkmopnfabDoorNWalkH1
import Derived.Test.YtdjhegmkmopnfabDoorNWalkH2
namespace Go.Proofs.YtdjhegmkmopnfabDoor
open Go.RowKit
set_option linter.unusedVariables false

def RA (l : List UInt8) : Value := .tuple #[.int .i64 (Wpl.raT l), .int .i64 (Wpl.raL l), .int .i64 (Wpl.raB l), .int .i64 (Wpl.raR l), .bool (Wpl.raOk l)]
def RA0 : Value := .tuple #[.int .i64 0, .int .i64 0, .int .i64 0, .int .i64 0, .bool false]
theorem RA_none {l : List UInt8} (h : Wpl.spl l = none) : RA l = RA0 := by
  unfold RA Wpl.raT Wpl.raL Wpl.raB Wpl.raR Wpl.raOk; rw [h]; rfl
theorem RA_no {l p q : List UInt8} (h : Wpl.spl l = some (p, q)) (h2 : (Wpl.rdOk p && Wpl.rdOk q) = false) : RA l = RA0 := by
  unfold RA Wpl.raT Wpl.raL Wpl.raB Wpl.raR Wpl.raOk; rw [h]; simp only [h2]; rfl
theorem RA_yes {l p q : List UInt8} (h : Wpl.spl l = some (p, q)) (h1 : Wpl.rdOk p = true) (h2 : Wpl.rdOk q = true) :
    RA l = .tuple #[.int .i64 (min (Wpl.rdR p) (Wpl.rdR q)), .int .i64 (min (Wpl.rdC p) (Wpl.rdC q)), .int .i64 (max (Wpl.rdR p) (Wpl.rdR q)), .int .i64 (max (Wpl.rdC p) (Wpl.rdC q)), .bool true] := by
  unfold RA Wpl.raT Wpl.raL Wpl.raB Wpl.raR Wpl.raOk; rw [h]; simp only [h1, h2]; rfl

set_option maxRecDepth 100000 in
set_option maxHeartbeats 1600000 in
theorem readArea_any (l : List UInt8) (w : World) (hl : l.length ≤ 9223372036854774000) :
    Calls Tryd.prog 17 #[.string ⟨l.toArray⟩] w fun e w' => e = .returned (RA l) ∧ Below w.heap.size w w' := by
  cases h : Wpl.spl l with
  | none =>
    have E : Hid (RA l = .tuple #[.int .i64 0, .int .i64 0, .int .i64 0, .int .i64 0, .bool false]) := RA_none h
    have C := fun w => cut_none l w (by omega) h
    have R1 := fun w => x3_read_any l w (by omega)
    have R2 := fun w => x3_read_any [] w (by simp)
    rw [Wpl.rd_none, show Wpl.rdR [] = 0 from rfl, show Wpl.rdC [] = 0 from rfl] at R2
    generalize Wpl.rdOk l = o1 at *
    generalize Wpl.rdR l = x1 at *
    generalize Wpl.rdC l = y1 at *
    go_enter Tryd.func17, Tryd.ntmps17
    go_wp2_with fail
    refine (C _).mono ?_
    rintro e w1 ⟨rfl, hb1⟩
    go_wp2_with fail
    refine (R1 _).mono ?_
    rintro e w2 ⟨rfl, hb2⟩
    go_wp2_with fail
    refine (R2 _).mono ?_
    rintro e w3 ⟨rfl, hb3⟩
    have hB := x3_below_end (x3_below_end hb1 hb2) hb3
    cases o1
    all_goals
      go_wp2
      refine bodyPost_ret (v := .tuple #[.int .i64 0, .int .i64 0, .int .i64 0, .int .i64 0, .bool false]) (by simp [results, Tryd.results17, go_sem]) rfl ⟨by rw [E.out], hB⟩
  | some x =>
    obtain ⟨p, q⟩ := x
    have C := fun w => cut_some l p q w (by omega) h
    obtain ⟨e1, _⟩ := Wpl.spl_some h
    have lp : p.length ≤ l.length := by rw [e1]; simp
    have lq : q.length ≤ l.length := by rw [e1]; simp; omega
    have R1 := fun w => x3_read_any p w (by omega)
    have R2 := fun w => x3_read_any q w (by omega)
    have EN : Hid ((Wpl.rdOk p && Wpl.rdOk q) = false → RA l = .tuple #[.int .i64 0, .int .i64 0, .int .i64 0, .int .i64 0, .bool false]) := fun h2 => RA_no h h2
    have EY : Hid (Wpl.rdOk p = true → Wpl.rdOk q = true → RA l = .tuple #[.int .i64 (min (Wpl.rdR p) (Wpl.rdR q)), .int .i64 (min (Wpl.rdC p) (Wpl.rdC q)), .int .i64 (max (Wpl.rdR p) (Wpl.rdR q)), .int .i64 (max (Wpl.rdC p) (Wpl.rdC q)), .bool true]) := fun h1 h2 => RA_yes h h1 h2
    clear h e1 lp lq
    generalize Wpl.rdOk p = o1 at *
    generalize Wpl.rdR p = pr at *
    generalize Wpl.rdC p = pc at *
    generalize Wpl.rdOk q = o2 at *
    generalize Wpl.rdR q = qr at *
    generalize Wpl.rdC q = qc at *
    have m1 := (Wpl.min_if pr qr).symm
    have m2 := (Wpl.min_if pc qc).symm
    have m3 := (Wpl.max_if pr qr).symm
    have m4 := (Wpl.max_if pc qc).symm
    go_enter Tryd.func17, Tryd.ntmps17
    go_wp2_with fail
    refine (C _).mono ?_
    rintro e w1 ⟨rfl, hb1⟩
    go_wp2_with fail
    refine (R1 _).mono ?_
    rintro e w2 ⟨rfl, hb2⟩
    go_wp2_with fail
    refine (R2 _).mono ?_
    rintro e w3 ⟨rfl, hb3⟩
    have hB := x3_below_end (x3_below_end hb1 hb2) hb3
    cases o1 with
    | false =>
      have E := EN.out rfl
      have EE : Hid (RA l = .tuple #[.int .i64 0, .int .i64 0, .int .i64 0, .int .i64 0, .bool false]) := E
      clear E EN EY
      go_wp2
      refine bodyPost_ret (v := .tuple #[.int .i64 0, .int .i64 0, .int .i64 0, .int .i64 0, .bool false]) (by simp [results, Tryd.results17, go_sem]) rfl ⟨by rw [EE.out], hB⟩
    | true =>
      cases o2 with
      | false =>
        have E := EN.out rfl
        have EE : Hid (RA l = .tuple #[.int .i64 0, .int .i64 0, .int .i64 0, .int .i64 0, .bool false]) := E
        clear E EN EY
        go_wp2
        refine bodyPost_ret (v := .tuple #[.int .i64 0, .int .i64 0, .int .i64 0, .int .i64 0, .bool false]) (by simp [results, Tryd.results17, go_sem]) rfl ⟨by rw [EE.out], hB⟩
      | true =>
        have EE : Hid (RA l = (.tuple #[.int .i64 (min pr qr), .int .i64 (min pc qc), .int .i64 (max pr qr), .int .i64 (max pc qc), .bool true])) := EY.out rfl rfl
        clear EN EY
        go_wp2
        refine bodyPost_ret (v := (.tuple #[.int .i64 (min pr qr), .int .i64 (min pc qc), .int .i64 (max pr qr), .int .i64 (max pc qc), .bool true])) (by simp [results, Tryd.results17, go_sem]) rfl ⟨by rw [EE.out], hB⟩

/-- The first colon, by its place. -/
theorem spl_at {l p q : List UInt8} (h : Wpl.spl l = some (p, q)) : l[p.length]? = some 58 ∧ (∀ j c, j < p.length → l[j]? = some c → c ≠ 58) ∧ ByteArray.extract ⟨l.toArray⟩ 0 p.length = ⟨p.toArray⟩ ∧ ByteArray.extract ⟨l.toArray⟩ (p.length + 1) l.length = ⟨q.toArray⟩ ∧ l.length = p.length + 1 + q.length := by
  obtain ⟨h1, h2⟩ := Wpl.spl_some h
  subst h1
  refine ⟨by simp, fun j c hj hc => ?_, Wpl.ext_pre p q, Wpl.ext_suf p q, by simp; omega⟩
  rw [List.getElem?_append_left hj] at hc
  exact h2 c (List.mem_of_getElem? hc)
theorem at58 {c : UInt8} (h : c ≠ 58) : ¬ (c.toNat : Int) = 58 := fun e => h (UInt8.toNat_inj.1 (by
  have e2 : c.toNat = 58 := by omega
  rw [e2]; rfl))

end Go.Proofs.YtdjhegmkmopnfabDoor