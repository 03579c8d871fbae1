/- A text parted at its first colon; two names with a colon between. -/
import Derived.Test.YtdjhegmkmopnfabDoorNPlainC
import Derived.Lib.Bytealg
namespace Wpl

def spl : List UInt8 → Option (List UInt8 × List UInt8)
  | [] => none
  | c :: t => if c = 58 then some ([], t) else (spl t).map fun x => (c :: x.1, x.2)
theorem spl_some : ∀ {l p q : List UInt8}, spl l = some (p, q) → l = p ++ 58 :: q ∧ (∀ c ∈ p, c ≠ 58)
  | [], _, _, h => by cases h
  | c :: t, p, q, h => by
    unfold spl at h
    by_cases e : c = 58
    · rw [if_pos e] at h
      obtain ⟨rfl, rfl⟩ : [] = p ∧ t = q := by simpa using h
      exact ⟨by rw [e]; rfl, fun x hx => by cases hx⟩
    · rw [if_neg e] at h
      cases hs : spl t with
      | none => rw [hs] at h; cases h
      | some x =>
        rw [hs] at h
        obtain ⟨p', q'⟩ := x
        obtain ⟨rfl, rfl⟩ : c :: p' = p ∧ q' = q := by simpa using h
        obtain ⟨h1, h2⟩ := spl_some hs
        refine ⟨by rw [h1]; rfl, fun x hx => ?_⟩
        rcases List.mem_cons.1 hx with rfl | hx
        · exact e
        · exact h2 x hx
theorem spl_none : ∀ {l : List UInt8}, spl l = none → ∀ c ∈ l, c ≠ 58
  | [], _ => fun c hc => by cases hc
  | c :: t, h => by
    unfold spl at h
    by_cases e : c = 58
    · rw [if_pos e] at h; cases h
    · rw [if_neg e] at h
      have h2 : spl t = none := by simpa using h
      intro x hx
      rcases List.mem_cons.1 hx with rfl | hx
      · exact e
      · exact spl_none h2 x hx
theorem index_app : ∀ (p q : List UInt8), (∀ c ∈ p, c ≠ 58) → Go.Lib.indexByte (p ++ 58 :: q) 58 = (p.length : Int)
  | [], q, _ => rfl
  | c :: t, q, h => by
    have h1 : (c == 58) = false := by simpa using h c (by simp)
    have ih := index_app t q (fun x hx => h x (by simp [hx]))
    show (if c == 58 then (0 : Int) else if Go.Lib.indexByte (t ++ 58 :: q) 58 == -1 then -1 else Go.Lib.indexByte (t ++ 58 :: q) 58 + 1) = _
    rw [h1, ih]
    have h2 : (((t.length : Int)) == -1) = false := by simp
    rw [h2]
    simp
theorem index_not : ∀ (l : List UInt8), (∀ c ∈ l, c ≠ 58) → Go.Lib.indexByte l 58 = -1
  | [], _ => rfl
  | c :: t, h => by
    have h1 : (c == 58) = false := by simpa using h c (by simp)
    have ih := index_not t (fun x hx => h x (by simp [hx]))
    show (if c == 58 then (0 : Int) else if Go.Lib.indexByte t 58 == -1 then -1 else Go.Lib.indexByte t 58 + 1) = _
    rw [h1, ih]
    rfl
/-- Two names: are both names? -/
def raOk (l : List UInt8) : Bool := match spl l with | none => false | some (p, q) => rdOk p && rdOk q
def raT (l : List UInt8) : Int := match spl l with | none => 0 | some (p, q) => if rdOk p && rdOk q then min (rdR p) (rdR q) else 0
def raL (l : List UInt8) : Int := match spl l with | none => 0 | some (p, q) => if rdOk p && rdOk q then min (rdC p) (rdC q) else 0
def raB (l : List UInt8) : Int := match spl l with | none => 0 | some (p, q) => if rdOk p && rdOk q then max (rdR p) (rdR q) else 0
def raR (l : List UInt8) : Int := match spl l with | none => 0 | some (p, q) => if rdOk p && rdOk q then max (rdC p) (rdC q) else 0
theorem ext_pre (p q : List UInt8) : ByteArray.extract ⟨(p ++ 58 :: q).toArray⟩ 0 p.length = ⟨p.toArray⟩ := by
  apply ByteArray.ext
  simp [ByteArray.data_extract]
theorem ext_suf (p q : List UInt8) : ByteArray.extract ⟨(p ++ 58 :: q).toArray⟩ (p.length + 1) (p ++ 58 :: q).length = ⟨q.toArray⟩ := by
  apply ByteArray.ext
  simp [ByteArray.data_extract]
  exact List.take_of_length_le (by omega)
end Wpl
