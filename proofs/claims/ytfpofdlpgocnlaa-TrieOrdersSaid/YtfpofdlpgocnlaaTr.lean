/-
  Binary trees of nodes in raw memory: a node has two pointers and a number. Where a tree lies, what stands in it: each node that has a number, in order, with the bits that lead to it.
-/
import Derived.Test.YtfpofdlpgocnlaaSxA
import Derived.Test.YtfpofdlpgocnlaaMa
namespace Go.Sx.M

inductive Tr where
  | nil
  | nd (q : Addr) (act : Int) (l r : Tr)

def Tr.ptr : Tr → Option Addr
  | .nil => none
  | .nd q _ _ _ => some q

def Tr.blks : Tr → List Nat
  | .nil => []
  | .nd q _ l r => q.block :: (l.blks ++ r.blks)

def Tr.size : Tr → Nat
  | .nil => 0
  | .nd _ _ l r => 1 + l.size + r.size

/-- It lies there. -/
def Tr.lies (m : List AV) : Tr → Prop
  | .nil => True
  | .nd q act l r => mread m (some q) true 3 = some (.agg [.val (.pointer l.ptr), .val (.pointer r.ptr), .int .i64 act]) ∧ sure (some q) = true ∧ l.lies m ∧ r.lies m

/-- Nodes below another begin their blocks. -/
def Tr.flat : Tr → Prop
  | .nil => True
  | .nd q _ l r => q.off = 0 ∧ l.flat ∧ r.flat

/-- Bit k of two words, set. -/
def onA (a : BitVec 64) (k : Nat) : BitVec 64 := put a (k : Int) true
def onB (b : BitVec 64) (k : Nat) : BitVec 64 := put b ((k : Int) - 64) true

/-- What stands in it, behind k bits. -/
def Tr.rows : Tr → BitVec 64 → BitVec 64 → Nat → List AV
  | .nil, _, _, _ => []
  | .nd _ act l r, a, b, k => (if act = 0 then [] else [.agg [.w64 a, .w64 b, .int .i64 k, .int .i64 act]]) ++ (l.rows a b (k + 1) ++ r.rows (onA a k) (onB b k) (k + 1))

/-- Each node has a number, or one below it has. -/
def Tr.full : Tr → Prop
  | .nil => True
  | .nd _ act l r => (act = 0 → l ≠ .nil ∨ r ≠ .nil) ∧ l.full ∧ r.full

/-- A trie: its root lies in the value's own block. -/
structure TrI (w : Int) (b : Nat) (act : Int) (L R : Tr) (len nds : Int) (m : List AV) : Prop where
  head : ∃ t cs l, m = mblk b t cs :: l
  val : mget m b = some [.int .i64 w, .val (.pointer L.ptr), .val (.pointer R.ptr), .int .i64 act, .int .i64 len, .int .i64 nds]
  left : L.lies m
  right : R.lies m
  flat : L.flat ∧ R.flat
  apart : (b :: (L.blks ++ R.blks)).Nodup
  full : L.full ∧ R.full
  len : len = ((Tr.nd ⟨b, 1, none⟩ act L R).rows 0#64 0#64 0).length
  nds : nds = ((Tr.nd ⟨b, 1, none⟩ act L R).size : Int)

end Go.Sx.M
