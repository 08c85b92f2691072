/-
  The program's reader of patterns as plain functions: no program in sight.
-/
set_option linter.unusedSimpArgs false
set_option linter.unusedVariables false
namespace Go.Proofs.YticaoekmlaipnaaDoor

/-- How one gets into a piece of a pattern and out of it at one spot. -/
structure Edge where
  e : Bool
  f : Nat
  l : Nat

/-- A piece: an edge for each spot. -/
abbrev Piece := Nat → Edge

def nothingF : Piece := fun _ => ⟨true, 0, 0⟩
def zeroF : Piece := fun _ => ⟨false, 0, 0⟩
def anchorF (mark : Nat) : Piece := fun s => ⟨s &&& mark != 0, 0, 0⟩
def eitherF (a b : Piece) : Piece := fun s => ⟨(a s).e || (b s).e, (a s).f ||| (b s).f, (a s).l ||| (b s).l⟩
def joinedF (a b : Edge) : Edge := ⟨a.e && b.e, if a.e then a.f ||| b.f else a.f, if b.e then b.l ||| a.l else b.l⟩
def joinF (a b : Piece) : Piece := fun s => joinedF (a s) (b s)
/-- Each spot: the atoms of r's beginning behind those of q's end. -/
def tieP (fo : Nat → Nat → Nat) (q r : Piece) : Nat → Nat → Nat := fun s a => if (q s).l.testBit a = true then fo s a ||| (r s).f else fo s a

/-- The reader's state. -/
structure St where
  pos : Nat
  fault : Bool
  atoms : Nat
  tk : Nat → Nat
  fo : Nat → Nat → Nat

def byteAt (t : ByteArray) (k : Nat) : Int := if h : k < t.size then (t[k].toNat : Int) else -1
def peekF (t : ByteArray) (s : St) : Int := if s.fault then -1 else byteAt t s.pos
def advF (s : St) : St := { s with pos := s.pos + 1 }
def failF (s : St) : St := { s with fault := true }
def skipF (t : ByteArray) (s : St) (b : Int) : Bool × St := if peekF t s = b then (true, advF s) else (false, s)
def needF (t : ByteArray) (s : St) (b : Int) : St := if peekF t s = b then advF s else failF s
def plainF (t : ByteArray) (s : St) : Int × St :=
  if peekF t (skipF t s 92).2 = -1 then (0, failF (skipF t s 92).2) else (peekF t (skipF t s 92).2, advF (skipF t s 92).2)
def takeOfF (s : St) (P : Nat → Bool) : Piece × St :=
  (fun _ => ⟨false, 2 ^ s.atoms, 2 ^ s.atoms⟩, { s with atoms := s.atoms + 1, tk := fun b => if P b = true then s.tk b ||| 2 ^ s.atoms else s.tk b })
def markF (P : Nat → Bool) (low high : Int) : Nat → Bool := fun b => P b || (decide (low ≤ b) && decide ((b : Int) ≤ high))
def takeF (s : St) (low high : Int) : Piece × St := takeOfF s (markF (fun _ => false) low high)
def boundF (t : ByteArray) (s : St) (least : Int) : Int × St :=
  if peekF t s = 93 then (0, failF s)
  else if peekF t (skipF t s 92).2 < least then (0, failF (skipF t s 92).2) else (peekF t (skipF t s 92).2, advF (skipF t s 92).2)
def closesF (t : ByteArray) (k : Nat) : Bool := decide (byteAt t k = 93)
def itemF (t : ByteArray) (s : St) (P : Nat → Bool) : (Nat → Bool) × St :=
  if peekF t (boundF t s 0).2 = 45 ∧ closesF t ((boundF t s 0).2.pos + 1) = false then
    (markF P (boundF t s 0).1 (boundF t (advF (boundF t s 0).2) (boundF t s 0).1).1, (boundF t (advF (boundF t s 0).2) (boundF t s 0).1).2)
  else (markF P (boundF t s 0).1 (boundF t s 0).1, (boundF t s 0).2)
def classLF (t : ByteArray) : Nat → (Nat → Bool) → St → (Nat → Bool) × St
  | 0, P, s => (P, s)
  | n + 1, P, s => if s.fault = true ∨ peekF t s = 93 then (P, s) else classLF t n (itemF t s P).1 (itemF t s P).2
def classF (t : ByteArray) (n : Nat) (s : St) : Piece × St :=
  let a := skipF t s 94
  let i := itemF t a.2 (fun _ => false)
  let c := classLF t n i.1 i.2
  takeOfF (needF t c.2 93) (fun b => c.1 b == !a.1)

/-- The reader's seven parts in one, by a number: 0, 1 alternatives; 2, 3 a sequence; 4, 5 a part; 6 an atom. The first number is a bound on how deep it goes. -/
def rdF (t : ByteArray) : Nat → Nat → Piece → St → Piece × St
  | 0, _, q, s => (q, s)
  | n + 1, 0, _, s => rdF t n 1 (rdF t n 2 nothingF s).1 (rdF t n 2 nothingF s).2
  | n + 1, 1, q, s => if peekF t s = 124 then rdF t n 1 (eitherF q (rdF t n 2 nothingF (advF s)).1) (rdF t n 2 nothingF (advF s)).2 else (q, s)
  | n + 1, 2, _, s => rdF t n 3 nothingF s
  | n + 1, 3, q, s => if peekF t s = -1 ∨ peekF t s = 41 ∨ peekF t s = 124 ∨ peekF t s = 42 ∨ peekF t s = 43 ∨ peekF t s = 63 then (q, s)
    else rdF t n 3 (joinF q (rdF t n 4 nothingF s).1) { (rdF t n 4 nothingF s).2 with fo := tieP (rdF t n 4 nothingF s).2.fo q (rdF t n 4 nothingF s).1 }
  | n + 1, 4, _, s => rdF t n 5 (rdF t n 6 nothingF s).1 (rdF t n 6 nothingF s).2
  | n + 1, 5, q, s =>
    if peekF t s = 42 then rdF t n 5 (eitherF q nothingF) (advF { s with fo := tieP s.fo q q })
    else if peekF t s = 43 then rdF t n 5 q (advF { s with fo := tieP s.fo q q })
    else if peekF t s = 63 then rdF t n 5 (eitherF q nothingF) (advF s)
    else (q, s)
  | n + 1, _, _, s =>
    if peekF t s = 40 then ((rdF t n 0 nothingF (advF s)).1, needF t (rdF t n 0 nothingF (advF s)).2 41)
    else if peekF t s = 91 then classF t n (advF s)
    else if peekF t s = 46 then takeF (advF s) 0 255
    else if peekF t s = 94 then (anchorF 1, advF s)
    else if peekF t s = 36 then (anchorF 2, advF s)
    else takeF (plainF t s).2 (plainF t s).1 (plainF t s).1

def altF (t : ByteArray) (n : Nat) (s : St) : Piece × St := rdF t n 0 nothingF s
def altLF (t : ByteArray) (n : Nat) (q : Piece) (s : St) : Piece × St := rdF t n 1 q s
def seqF (t : ByteArray) (n : Nat) (s : St) : Piece × St := rdF t n 2 nothingF s
def seqLF (t : ByteArray) (n : Nat) (q : Piece) (s : St) : Piece × St := rdF t n 3 q s
def partF (t : ByteArray) (n : Nat) (s : St) : Piece × St := rdF t n 4 nothingF s
def partLF (t : ByteArray) (n : Nat) (q : Piece) (s : St) : Piece × St := rdF t n 5 q s
def atomF (t : ByteArray) (n : Nat) (s : St) : Piece × St := rdF t n 6 nothingF s

theorem altF_z (t : ByteArray) (s : St) : altF t 0 s = (nothingF, s) := rfl
theorem altF_s (t : ByteArray) (n : Nat) (s : St) : altF t (n + 1) s = altLF t n (seqF t n s).1 (seqF t n s).2 := rfl
theorem altLF_z (t : ByteArray) (q : Piece) (s : St) : altLF t 0 q s = (q, s) := rfl
theorem altLF_s (t : ByteArray) (n : Nat) (q : Piece) (s : St) : altLF t (n + 1) q s = if peekF t s = 124 then altLF t n (eitherF q (seqF t n (advF s)).1) (seqF t n (advF s)).2 else (q, s) := rfl
theorem seqF_z (t : ByteArray) (s : St) : seqF t 0 s = (nothingF, s) := rfl
theorem seqF_s (t : ByteArray) (n : Nat) (s : St) : seqF t (n + 1) s = seqLF t n nothingF s := rfl
theorem seqLF_z (t : ByteArray) (q : Piece) (s : St) : seqLF t 0 q s = (q, s) := rfl
theorem seqLF_s (t : ByteArray) (n : Nat) (q : Piece) (s : St) : seqLF t (n + 1) q s = if peekF t s = -1 ∨ peekF t s = 41 ∨ peekF t s = 124 ∨ peekF t s = 42 ∨ peekF t s = 43 ∨ peekF t s = 63 then (q, s)
    else seqLF t n (joinF q (partF t n s).1) { (partF t n s).2 with fo := tieP (partF t n s).2.fo q (partF t n s).1 } := rfl
theorem partF_z (t : ByteArray) (s : St) : partF t 0 s = (nothingF, s) := rfl
theorem partF_s (t : ByteArray) (n : Nat) (s : St) : partF t (n + 1) s = partLF t n (atomF t n s).1 (atomF t n s).2 := rfl
theorem partLF_z (t : ByteArray) (q : Piece) (s : St) : partLF t 0 q s = (q, s) := rfl
theorem partLF_s (t : ByteArray) (n : Nat) (q : Piece) (s : St) : partLF t (n + 1) q s =
    if peekF t s = 42 then partLF t n (eitherF q nothingF) (advF { s with fo := tieP s.fo q q })
    else if peekF t s = 43 then partLF t n q (advF { s with fo := tieP s.fo q q })
    else if peekF t s = 63 then partLF t n (eitherF q nothingF) (advF s)
    else (q, s) := rfl
theorem atomF_z (t : ByteArray) (s : St) : atomF t 0 s = (nothingF, s) := rfl
theorem atomF_s (t : ByteArray) (n : Nat) (s : St) : atomF t (n + 1) s =
    if peekF t s = 40 then ((altF t n (advF s)).1, needF t (altF t n (advF s)).2 41)
    else if peekF t s = 91 then classF t n (advF s)
    else if peekF t s = 46 then takeF (advF s) 0 255
    else if peekF t s = 94 then (anchorF 1, advF s)
    else if peekF t s = 36 then (anchorF 2, advF s)
    else takeF (plainF t s).2 (plainF t s).1 (plainF t s).1 := rfl

end Go.Proofs.YticaoekmlaipnaaDoor
