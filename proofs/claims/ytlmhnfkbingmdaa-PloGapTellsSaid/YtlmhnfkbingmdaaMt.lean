/-
  Which types are maps that the calculus holds as objects: made empty; what is put into one, and how many keys it has. Here a set of numbers, a map from a number to nothing: its state lists what was put, the last first.
-/
import Derived.Test.YtlmhnfkbingmdaaSxA0
namespace Go.Sx

def noT : TypeId := 83

def mapTy (t : TypeId) : Bool := decide (t = noT)

def noA (x : Int) : AV := .int .i64 x

namespace M

/-- How many numbers of a list differ. -/
def dfN : List Int → Nat
  | [] => 0
  | x :: l => if x ∈ l then dfN l else dfN l + 1

/-- In a map of type t in state es, key k says v (with ', ok': a pair). -/
def mlook (_t : TypeId) (_es : List AV) (_k : AV) (_ok : Bool) (_v : AV) : Prop := False

/-- In a map of type t in state es, key k is put to v: then it is in state es'. -/
def mupd (t : TypeId) (es : List AV) (k v : AV) (es' : List AV) : Prop := t = noT ∧ ∃ L n, es = List.map noA L ∧ k = .int .i64 n ∧ v = .agg [] ∧ es' = List.map noA (n :: L)

/-- A map of type t in state es has v keys. -/
def mlen (t : TypeId) (es : List AV) (v : AV) : Prop := t = noT ∧ ∃ L, es = List.map noA L ∧ v = .int .i64 (dfN L)

end M
end Go.Sx
