/-
  Which types are maps that the calculus holds as objects: made empty; what is looked up in one, or put into it. Piles of entries (nothing here: their methods are contracts); a map from an entry to a number: its state lists what was put, the last first.
-/
import Derived.Test.YtnjbgbdcbejciaaSxA0
import Derived.Test.YtnjbgbdcbejciaaMa
namespace Go.Sx

def piT : TypeId := 91
def fiT : TypeId := 133

def mapTy (t : TypeId) : Bool := decide (t = piT) || decide (t = fiT)

def enA (x : M.En) : AV := .agg [.w64 x.v, .w64 x.w, .w64 x.m, .w64 x.n, .int .i64 x.len, .int .i64 x.act]

namespace M

/-- Of entries and numbers, those put last first: what is said of one. -/
def fiG (q : En) : List (En × Int) → Option Int
  | [] => none
  | x :: l => if x.1 = q then some x.2 else fiG q l

def fiA (x : En × Int) : AV := .tuple [enA x.1, .int .i64 x.2]

/-- In a map of type t in state es, key k says v (with ', ok': a pair). -/
def mlook (t : TypeId) (es : List AV) (k : AV) (ok : Bool) (v : AV) : Prop := t = fiT ∧ ∃ L q, es = List.map fiA L ∧ k = enA q ∧
  v = (match ok with | true => .tuple [.int .i64 ((fiG q L).getD 0), .bool (fiG q L).isSome] | false => .int .i64 ((fiG q L).getD 0))

/-- In a map of type t in state es, key k is put to v: then it is in state es'. -/
def mupd (t : TypeId) (es : List AV) (k v : AV) (es' : List AV) : Prop := t = fiT ∧ ∃ L q n, es = List.map fiA L ∧ k = enA q ∧ v = .int .i64 n ∧ es' = List.map fiA ((q, n) :: L)

end M
end Go.Sx
