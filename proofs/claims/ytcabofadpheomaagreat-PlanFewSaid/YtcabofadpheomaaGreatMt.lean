/-
 Which types are maps that the calculus holds as objects: made empty; what is looked up in one, or put into it. Piles of entries (nothing here: their methods are contracts); a map from an entry to a number: its state lists what was put, the last first; a set of numbers, likewise.
-/
import Derived.Test.YtcabofadpheomaaGreatSxA0
import Derived.Test.YtcabofadpheomaaGreatMa
namespace Go.Sx

def piT:TypeId:=134
def fiT:TypeId:=141
def noT:TypeId:=116

def Fe(t:TypeId):Bool:=decide (t=piT)|| (decide (t=fiT)||decide (t=noT))

def enA(x:M.En):AV:= .agg [.w64 x.v, .w64 x.w, .w64 x.m, .w64 x.n, .int .i64 x.len, .int .i64 x.act]

def noA(x:Int):AV:= .int .i64 x

namespace M

def dfN:List Int→Nat
 | []=>0
 |x::l=>if x∈l then dfN l else dfN l+1

def fiG(q:En):List (En×Int)→Option Int
 | []=>none
 |x::l=>if x.1=q then some x.2 else fiG q l

def fiA(x:En×Int):AV:= .tuple [enA x.1, .int .i64 x.2]

def mlook(t:TypeId)(es:List AV)(k:AV)(ok:Bool)(v:AV):Prop:=t=fiT∧∃L q,es=List.map fiA L∧k=enA q∧
 v=(match ok with|true=> .tuple [.int .i64 ((fiG q L).getD 0), .bool (fiG q L).isSome]|false=> .int .i64 ((fiG q L).getD 0))

def mupd(t:TypeId)(es:List AV)(k v:AV)(es':List AV):Prop:=(t=fiT∧∃L q n,es=List.map fiA L∧k=enA q∧v= .int .i64 n∧es'=List.map fiA ((q,n)::L))∨
 (t=noT∧∃L n,es=List.map noA L∧k= .int .i64 n∧v= .agg []∧es'=List.map noA (n::L))

def mlen(t:TypeId)(es:List AV)(v:AV):Prop:=t=noT∧∃L,es=List.map noA L∧v= .int .i64 (dfN L)

end M
end Go.Sx
