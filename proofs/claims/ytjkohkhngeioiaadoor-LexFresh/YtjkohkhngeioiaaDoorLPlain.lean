/- Tokens of a text, as plain functions of lists of bytes. -/
namespace Wlx

def dig (c : UInt8) : Bool := decide (48 ≤ (c.toNat : Int)) && decide ((c.toNat : Int) ≤ 57)
def cap (c : UInt8) : Bool := decide (65 ≤ (c.toNat : Int)) && decide ((c.toNat : Int) ≤ 90)
def low (c : UInt8) : Bool := decide (97 ≤ (c.toNat : Int)) && decide ((c.toNat : Int) ≤ 122)
def wrd (c : UInt8) : Bool := cap c || low c || decide ((c.toNat : Int) = 36) || dig c
def prt (c : UInt8) : Bool := decide (32 ≤ (c.toNat : Int)) && decide ((c.toNat : Int) ≤ 126)

/-- How many bytes l begins with that are of a kind. -/
def runP (p : UInt8 → Bool) : List UInt8 → Nat
  | [] => 0
  | c :: t => if p c then runP p t + 1 else 0
theorem runP_le (p : UInt8 → Bool) (l : List UInt8) : runP p l ≤ l.length := by
  induction l with
  | nil => exact Nat.le_refl _
  | cons c t ih =>
    unfold runP
    split
    · simp only [List.length_cons]; omega
    · exact Nat.zero_le _
theorem runP_pos {p : UInt8 → Bool} {c : UInt8} {t : List UInt8} (h : p c = true) : runP p (c :: t) = runP p t + 1 := by
  show (if p c then runP p t + 1 else 0) = _
  rw [if_pos h]
theorem runP_neg {p : UInt8 → Bool} {c : UInt8} {t : List UInt8} (h : p c = false) : runP p (c :: t) = 0 := by
  show (if p c then runP p t + 1 else 0) = _
  rw [if_neg (by rw [h]; decide)]

/-- A number's size, n digits ahead of what is left. -/
def numTl (n : Nat) : List UInt8 → Nat
  | [] => n
  | c :: t => if c = 46 ∧ 0 < runP dig t then n + 1 + runP dig t else n
theorem numTl_cons (n : Nat) (c : UInt8) (t : List UInt8) : numTl n (c :: t) = if c = 46 ∧ 0 < runP dig t then n + 1 + runP dig t else n := rfl
def numSz (l : List UInt8) : Nat := if runP dig l = 0 then 0 else numTl (runP dig l) (l.drop (runP dig l))

/-- A text's size, from where i bytes are read. -/
def quo : Bool → Nat → List UInt8 → Nat
  | w, i, [] => if w then 0 else i
  | w, i, c :: t => if c = 34 then quo (!w) (i + 1) t else if w then quo w (i + 1) t else i
def txtSz : List UInt8 → Nat
  | [] => 0
  | c :: t => if c = 34 then quo true 1 t else 0

def begins : List UInt8 → List UInt8 → Bool
  | [], _ => true
  | _ :: _, [] => false
  | a :: p, b :: t => decide (a = b) && begins p t
def nameSz (l : List UInt8) : List (List UInt8) → Nat
  | [] => 0
  | n :: r => if begins n l then n.length else nameSz l r

def faults : List (List UInt8) := [[35, 68, 73, 86, 47, 48, 33], [35, 86, 65, 76, 85, 69, 33], [35, 82, 69, 70, 33], [35, 78, 85, 77, 33], [35, 78, 47, 65], [35, 67, 73, 82, 67, 76, 69, 33], [35, 76, 79, 78, 71, 33], [35, 65, 82, 71, 33]]
def marks : List (List UInt8) := [[60, 62], [60, 61], [62, 61], [43], [45], [42], [47], [94], [38], [37], [40], [41], [44], [58], [33], [61], [60], [62]]

/-- The size of a token of kind k. -/
def sz (k : Nat) (l : List UInt8) : Nat :=
  if k = 1 then numSz l else if k = 2 then txtSz l else if k = 3 then runP wrd l else if k = 4 then nameSz l faults else if k = 5 then nameSz l marks else 0

/-- What a text says: of a doubled quote one. -/
def undbl : List UInt8 → List UInt8
  | [] => []
  | [c] => [c]
  | c :: d :: t => if c = 34 ∧ d = 34 then 34 :: undbl t else c :: undbl (d :: t)
/-- Each quote doubled. -/
def dbl : List UInt8 → List UInt8
  | [] => []
  | c :: t => if c = 34 then 34 :: 34 :: dbl t else c :: dbl t
def said (k : Nat) (l : List UInt8) : List UInt8 := if k = 2 then undbl ((l.drop 1).take (l.length - 2)) else l
def writ (k : Nat) (l : List UInt8) : List UInt8 := if k = 2 then 34 :: (dbl l ++ [34]) else l
theorem dbl_length (l : List UInt8) : (dbl l).length ≤ 2 * l.length := by
  induction l with
  | nil => exact Nat.le_refl _
  | cons c t ih =>
    unfold dbl
    split <;> simp only [List.length_cons] <;> omega
end Wlx
