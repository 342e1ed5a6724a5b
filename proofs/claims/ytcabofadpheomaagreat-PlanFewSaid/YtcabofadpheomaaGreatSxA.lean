/-
 A small calculus of our own: a Go function's code is carried out on values that may hold variables, in the kernel; what must be decided is told by hints, and comes back as propositions. This text: the definitions. (The soundness: SxB and on.)
-/
import Derived.Test.YtcabofadpheomaaGreatMt
import Derived.Calls
import Derived.OrdersHeld
import Derived.Below
namespace Go.Sx

structure St where
 t:List AV
 h:Hp

structure Modes where
 tm:List Nat
 σ:List Nat
 rm:List Nat
 sl:List Nat
 ph:List (Nat×TypeId×Nat)

inductive Hint:Type 1 where
 |br (p:Bool)
 |fork (l r:List Hint)
 |split (b:Bool) (l r:List Hint)
 |ix (n:Nat)
 |dy
 |old
 |frz
 |pur (fs:List FuncId)
 |wrc (fs:List FuncId)
 |cell (v:AV)
 |rows (es:List AV)
 |loop (n:Nat)
 |linv (α:Type) (p0:α) (Φ:α→St) (I:α→Prop) (μ:α→Nat) (M0 M M':Modes) (af:α→List Hint) (hs:α→List Hint)
 |nw
 |arr
 |txt
 |md (M:Modes)
 |mrg (c:Bool) (α:Type) (Φ:α→St) (I:α→Prop) (M:Modes) (l:List Hint) (af:α→List Hint)
 |new (f:Nat→List Hint)
 |get
 |nm (es:List AV)
 |inl (hs:Nat→List Hint)
 |fz (d z:Nat) (es:List AV)
 |abs (d z:Nat) (es:List AV) (f:Value→List Hint)
 |rd (d:Nat) (f:List AV→List Hint)
 |rng (α:Type) (E:α→AV) (xs:List α) (rd:List Nat) (bx:List (Nat×TypeId×Nat)) (H:List α→Hp) (I:List α→Prop) (m0 m:List Nat) (rs:List α→α→List Hint)
 |linw (α β:Type) (p0:α) (Φ:α→St) (Ψ:β→St) (I:α→Prop) (J:β→Prop) (μ:α→Nat) (ν:β→Nat) (M0 M M':Modes) (af:α→List Hint) (ag:β→List Hint) (hs:α→List Hint) (gs:β→List Hint)
 |dag (css:List (List Nat)) (M:Nat→Modes) (Φ:Nat→St)
 |jmp (l:Nat) (α:Type) (p0:α) (Φ:α→St) (I:α→Prop) (μ:α→Nat) (M0 M:Modes) (hs:α→List Hint)

instance:Inhabited Hint:=⟨.dy⟩

def kX:TypeId:=1000003

def gU:TypeId:=1000005

end Go.Sx
namespace Go.Sx.M

def mget:List AV→Nat→Option (List AV)
 | [],_=>none
 | .tuple (.lit (.int _ n)::_::cs)::l,b=>if n=(b:Int) then some cs else mget l b
 |_::l,b=>mget l b

def mset:List AV→Nat→List AV→List AV
 | [],_,_=>[]
 | .tuple (.lit (.int k n)::t::cs)::l,b,ds=>if n=(b:Int) then .tuple (.lit (.int k n)::t::ds)::l else .tuple (.lit (.int k n)::t::cs)::mset l b ds
 |x::l,b,ds=>x::mset l b ds

def catF(a b:List AV):List AV:=a++b
def memF(e:AV)(l:List AV):Prop:=e∈l
def fzE(u:Value)(z:Nat)(es:List AV):AV:= .tuple (.val u:: .lit (.int .i64 z)::es)

def mread(es:List AV)(q:Option Addr)(agg:Bool)(n:Nat):Option AV:=
 match q with
 |some ⟨b,o,none⟩=>match mget es b with
  |some cs=>match agg with
   |true=>if o+n≤cs.length then some (.agg ((cs.drop o).take n)) else none
   |false=>cs[o]?
  |none=>none
 |_=>none

def mwrite(es:List AV)(q:Option Addr)(v:AV):Option (List AV):=
 match q with
 |some ⟨b,o,none⟩=>match mget es b with
  |some cs=>if o<cs.length then some (mset es b (cs.set o v)) else none
  |none=>none
 |_=>none

def mwr(es:List AV)(q:Option Addr)(v:AV):List AV:=(mwrite es q v).getD []

def mptr(es:List AV)(q:Option Addr):Option Addr:=match mread es q false 1 with|some (.val (.pointer p))=>p|_=>none
def mint(es:List AV)(q:Option Addr):Int:=match mread es q false 1 with|some (.int _ n)=>n|_=>0

def mblk(b:Nat)(t:TypeId)(cs:List AV):AV:= .tuple (.lit (.int .i64 b):: .lit (.int .i64 t)::cs)

def shift(q:Option Addr)(n:Nat):Option Addr:=match q with|some ⟨b,o,none⟩=>some ⟨b,o+n,none⟩|q=>q

def sure(q:Option Addr):Bool:=match q with|some ⟨_,_,none⟩=>true|_=>false

end Go.Sx.M
namespace Go.Sx

inductive Ex where
 |normal
 |exit (id:Nat)
 |ret
 |goto (l:Nat)

def AV.cells:AV→List AV
 | .agg cs=>cs
 |x=>[x]

def AV.cell1:AV→Bool
 | .any| .agg _| .tuple _=>false
 | .lit (.agg _)| .lit (.tuple _)| .val (.agg _)| .val (.tuple _)=>false
 |_=>true

def AV.plain1:AV→Bool
 | .lit (.agg _)| .lit (.tuple _)| .val (.agg _)| .val (.tuple _)=>false
 | .lit _| .int _ _| .w64 _| .bool _| .val _=>true
 | .func (.func _) [] []=>true
 |_=>false

def AV.plain:AV→Bool
 | .agg cs=>cs.all AV.plain1
 |x=>x.plain1

def AV.sound:AV→Bool
 | .agg cs=>cs.all AV.cell1
 |x=>x.cell1

def liftV:Value→AV
 | .agg cs=> .agg (cs.toList.map .lit)
 |v=> .lit v

def St.op(st:St):Operand→AV
 | .tmp t=>st.t.getD t .any
 | .const v=>liftV v
 | .global g=> .val (.pointer (some ⟨g,0,none⟩))
 | .func f=> .func (.func f) [] []

def St.put(st:St)(dst:Option Tmp)(v:AV):St:=
 match dst with
 |some d=>{ st with t:=st.t.set d v}
 |none=>st

def AV.asInt:AV→Option (Bool×IntKind×Int)
 | .lit (.int k n)=>some (true,k,n)
 | .int k n=>some (false,k,n)
 | .w64 x=>some (false, .u64,(x.toNat:Int))
 |_=>none

def AV.asW:AV→Option (Bool×BitVec 64)
 | .w64 x=>some (false,x)
 | .lit (.int .u64 n)=>match decide (0≤n∧n<18446744073709551616) with
  |true=>some (true,BitVec.ofInt 64 n)
  |false=>none
 |_=>none

def iS(st:Bool)(k:IntKind)(n:Int):AV:=match st with|true=> .lit (.int k n)|false=> .int k n
def Fa(st:Bool)(s:ByteArray):AV:=match st with|true=> .lit (.string s)|false=> .val (.string s)
def xX(st:Bool)(b:Bool):AV:=match st with|true=> .lit (.bool b)|false=> .bool b

def AV.asBool:AV→Option (Bool×Bool)
 | .lit (.bool b)=>some (true,b)
 | .bool b=>some (false,b)
 |_=>none

def AV.asStr:AV→Option (Bool×ByteArray)
 | .lit (.string s)=>some (true,s)
 | .val (.string s)=>some (false,s)
 |_=>none

def Gl(x:AV)(hs:List Hint)(K:Bool→List Hint→Prop):Prop:=
 match x.asBool with
 |some (true,b)=>K b hs
 |some (false,b)=>match hs with
  | .br p::hs=>b=p∧K p hs
  | .fork l r::_=>(b=true→K true l)∧(b=false→K false r)
  |_=>False
 |none=>False

def kE(st:Bool)(p:Prop)[Decidable p](K:Prop):Prop:=
 match st with
 |true=>match decide p with|true=>K|false=>False
 |false=>p∧K

def fY(op:BinOp)(k:IntKind)(x y:Int):Option Int:=
 match op with
 | .and=>some (k.wrap (BitVec.ofInt k.bits x&&&BitVec.ofInt k.bits y).toNat)
 | .or=>some (k.wrap (BitVec.ofInt k.bits x|||BitVec.ofInt k.bits y).toNat)
 | .xor=>some (k.wrap (BitVec.ofInt k.bits x^^^BitVec.ofInt k.bits y).toNat)
 | .andNot=>some (k.wrap (BitVec.ofInt k.bits x&&& ~~~(BitVec.ofInt k.bits y)).toNat)
 |_=>none

def Ng(op:BinOp)(x y:Int):Option Bool:=
 match op with
 | .eql=>some (x==y)
 | .neq=>some (x !=y)
 | .lss=>some (decide (x<y))
 | .leq=>some (decide (x≤y))
 | .gtr=>some (decide (x>y))
 | .geq=>some (decide (x≥y))
 |_=>none

def inRange(k:IntKind)(n:Int):Prop:=k.min≤n∧n≤k.max

def uO(s:Bool)(k:IntKind)(n:Int)(hs:List Hint)(K:AV→List Hint→Prop):Prop:=
 match s with
 |true=>K (.lit (.int k (k.wrap n))) hs
 |false=>match hs with
  | .nw::hs=>inRange k n∧K (.int k n) hs
  |hs=>K (.int k (k.wrap n)) hs

def qN(op:BinOp)(s s':Bool)(k k':IntKind)(x y:Int)(hs:List Hint)(K:AV→List Hint→Prop):Prop:=
 match op with
 | .shl=>kE s' (0≤y) (uO (s&&s') k (x*2^(min y.toNat k.bits)) hs K)
 | .shr=>kE s' (0≤y) (K (iS (s&&s') k (x.fdiv (2^(min y.toNat k.bits)))) hs)
 |op=>
  match decide (k=k') with
  |false=>False
  |true=>match op with
   | .add=>uO (s&&s') k (x+y) hs K
   | .sub=>uO (s&&s') k (x-y) hs K
   | .mul=>uO (s&&s') k (x*y) hs K
   | .quo=>kE s' (y≠0) (uO (s&&s') k (x.tdiv y) hs K)
   | .rem=>kE s' (y≠0) (K (iS (s&&s') k (x.tmod y)) hs)
   |op=>match fY op k x y with
    |some n=>K (iS (s&&s') k n) hs
    |none=>match Ng op x y with
     |some b=>K (xX (s&&s') b) hs
     |none=>False

def Mp(op:BinOp)(s':Bool)(x y:BitVec 64)(K:AV→Prop):Prop:=
 match op with
 | .add=>K (.w64 (x+y))
 | .sub=>K (.w64 (x-y))
 | .mul=>K (.w64 (x*y))
 | .quo=>kE s' (y≠0) (K (.w64 (x/y)))
 | .rem=>kE s' (y≠0) (K (.w64 (x%y)))
 | .and=>K (.w64 (x&&&y))
 | .or=>K (.w64 (x|||y))
 | .xor=>K (.w64 (x^^^y))
 | .andNot=>K (.w64 (x&&& ~~~y))
 | .eql=>K (.bool (x==y))
 | .neq=>K (.bool (x !=y))
 | .lss=>K (.bool (decide (x<y)))
 | .leq=>K (.bool (decide (x≤y)))
 | .gtr=>K (.bool (decide (y<x)))
 | .geq=>K (.bool (decide (y≤x)))
 |_=>False

def AV.nilPtr:AV→Option Bool
 | .lit (.pointer none)=>some true
 | .val (.pointer q)=>some q.isNone
 | .ptr _ _ _ _=>some false
 |_=>none

def ul(d:TypeDesc)(x y:AV):Option Bool:=
 match d with
 | .bool=>match x.asBool,y.asBool with
  |some (_,a),some (_,b)=>some (a==b)
  |_,_=>none
 | .int _=>match x.asW,y.asW with
  |some (_,a),some (_,b)=>some (a==b)
  |_,_=>match x.asInt,y.asInt with
   |some (_,k,a),some (_,k',b)=>match decide (k=k') with|true=>some (a==b)|false=>none
   |_,_=>none
 | .string=>match x.asStr,y.asStr with
  |some (_,a),some (_,b)=>some (a==b)
  |_,_=>none
 | .pointer _=>match y,x.nilPtr with
  | .lit (.pointer none),some b=>some b
  |y,some true=>y.nilPtr
  |_,_=>none
 |_=>none

def mQ(P:Program)(t:TypeId):Option Bool:=
 match P.underlying t with
 |some (.struct _)=>some true
 |some (.array _ _)=>some true
 |some _=>some false
 |none=>none

def e7(P:Program)(t:TypeId)(cs:List AV)(o:Nat):Option AV:=
 match P.info? t,mQ P t with
 |some i,some true=>match decide (o+i.size≤cs.length) with
  |true=>some (.agg ((cs.drop o).take i.size))
  |false=>none
 |some _,some false=>cs[o]?
 |_,_=>none

def jb:List Bool→Bool
 | []=>true
 | [b]=>b
 |b::bs=>b&&jb bs

def fc{α:Type}:List (Option α)→Option (List α)
 | []=>some []
 |none::_=>none
 |some a::l=>match fc l with|some r=>some (a::r)|none=>none

def eqT(P:Program):Nat→TypeId→AV→AV→Option Bool
 |0,_,_,_=>none
 |d+1,t,x,y=>
  match P.underlying t with
  |some (.struct fs)=>match P.stoodInHeld t with
   |true=>none
   |false=>match x,y with
    | .agg xs, .agg ys => match fc (fs.toList.map fun f => match decide (f.name = "_") with
      |true=>some true
      |false=>match e7 P f.type xs f.offset,e7 P f.type ys f.offset with
       |some a,some b=>eqT P d f.type a b
       |_,_=>none) with
     |some bs=>some (jb bs)
     |none=>none
    |_,_=>none
  |some (.array n e)=>match x,y,P.info? e with
   | .agg xs, .agg ys,some i=>match fc ((List.range n).map fun j=>
      match e7 P e xs (j*i.size),e7 P e ys (j*i.size) with
       |some a,some b=>eqT P d e a b
       |_,_=>none) with
     |some bs=>some (jb bs)
     |none=>none
   |_,_,_=>none
  |some dsc=>ul dsc x y
  |none=>none

def AV.nilSlice:AV→Option Bool
 | .lit (.slice none _ _)=>some true
 | .slice _ _ _ _=>some false
 |_=>none

def eqV(P:Program)(t:TypeId)(x y:AV):Option Bool:=
 match P.underlying t with
 |some (.slice _)=>match x.nilSlice,y.nilSlice with
  |some true,some b=>some b
  |some b,some true=>some b
  |_,_=>none
 |some (.struct _)=>match P.eqGuardType P.depth t with|true=>none|false=>eqT P 8 t x y
 |some (.array _ _)=>match P.eqGuardType P.depth t with|true=>none|false=>eqT P 8 t x y
 |some _=>eqT P 8 t x y
 |none=>none

def LI:BinOp→Bool
 | .shl| .shr=>true
 |_=>false

def FS(op:BinOp)(s:Bool)(x:BitVec 64)(n:Int)(K:AV→Prop):Prop:=
 match op with
 | .shl=>kE s (0≤n) (K (.w64 (x<<<n.toNat)))
 | .shr=>kE s (0≤n) (K (.w64 (x>>>n.toNat)))
 |_=>False

def EL(P:Program)(neg:Bool)(t:TypeId)(x y:AV)(hs:List Hint)(K:AV→List Hint→Prop):Prop:=
 match x,hs with
 | .vsl r i n, .fork l m::_=>match eqV P t (.slice r i n true) y,eqV P t (.lit (.slice none 0 0)) y with
  |some b,some c=>(n=0→K (.lit (.bool (c !=neg))) l)∧K (.lit (.bool (b !=neg))) m
  |_,_=>False
 |_,_=>False

def binOp(P:Program)(op:BinOp)(t:TypeId)(x y:AV)(hs:List Hint)(K:AV→List Hint→Prop):Prop:=
 match LI op,x.asW,y.asW,x.asInt,y.asInt with
 |true,some (false,x),_,_,some (s',_,n)=>FS op s' x n fun v=>K v hs
 |true,some (true,x),_,_,some (false,_,n)=>FS op false x n fun v=>K v hs
 |false,some (false,x),some (s',y),_,_=>Mp op s' x y fun v=>K v hs
 |false,some (true,x),some (false,y),_,_=>Mp op false x y fun v=>K v hs
 |_,_,_,some (s,k,a),some (s',k',b)=>qN op s s' k k' a b hs K
 |_,_,_,_,_=>match op with
  | .eql=>match eqV P t x y with|some b=>K (.bool b) hs|none=>EL P false t x y hs K
  | .neq=>match eqV P t x y with|some b=>K (.bool (!b)) hs|none=>EL P true t x y hs K
  | .add=>match x.asStr,y.asStr with
   |some (s,a),some (s',b)=>kE (s&&s') (a.size+b.size≤9223372036854775807) (K (Fa (s&&s') (a++b)) hs)
   |_,_=>False
  |_=>False

def unOp(op:UnOp)(x:AV)(K:AV→Prop):Prop:=
 match op with
 | .neg=>match x.asW with
  |some (false,x)=>K (.w64 (-x))
  |_=>match x.asInt with|some (s,k,n)=>K (iS s k (k.wrap (0-n)))|none=>False
 | .xor=>match x.asW with
  |some (false,x)=>K (.w64 (~~~x))
  |_=>match x.asInt with
   |some (s,k,n)=>K (iS s k (k.wrap (BitVec.ofInt k.bits (if k.signed then-1 else k.max)^^^BitVec.ofInt k.bits n).toNat))
   |none=>False
 | .not=>match x.asBool with|some (s,b)=>K (xX s (!b))|none=>False
 | .plus=>False

def fV(x:AV)(len:Nat)(sl:Bool)(hs:List Hint)(K:Nat→Bool→List Hint→Prop):Prop:=
 match x.asInt with
 |some (true,_,n)=>kE sl (0≤n∧n< (len:Int)) (K n.toNat sl hs)
 |some (false,_,n)=>match hs with
  | .ix m::hs=>n=(m:Int)∧kE sl (m<len) (K m sl hs)
  | .dy::hs=>(0≤n∧n< (len:Int))∧K n.toNat false hs
  |_=>False
 |none=>False

def Hp.row(h:Hp)(r:Nat):Option Blk:=match h[r]? with
 |some (some k)=>(match k.esz with|0=>none|_+1=>some k)
 |_=>none

def Hp.obj(h:Hp)(r:Nat):Option Blk:=match h[r]? with
 |some (some k)=>(match k.esz with|0=>some k|_+1=>none)
 |_=>none

def gu:Nat→Hp→Option (Nat×Blk)
 |_,[]=>none
 |i,some k::h=>match k.esz,decide (k.ty=kX) with
  |0,true=>some (i,k)
  |_,_=>gu (i+1) h
 |i,none::h=>gu (i+1) h

def Blk.read(P:Program)(k:Blk)(t:TypeId)(i o:Nat):Option AV:=
 match k.elems[i]? with
 |some e=>e7 P t e.cells o
 |none=>none

def jv(P:Program)(t:TypeId):Option AV:=
 match P.info? t with
 |some i=>match i.zero with
  |some z=>match decide (z.cells.size=i.size) with
   |true=>some (liftV z)
   |false=>none
  |none=>none
 |none=>none

def EX(es:List AV)(q:Option Addr)(i:Nat):AV→AV
 | .lit (.pointer _)=> .val (.pointer (M.mptr es (M.shift q i)))
 | .lit (.int k _)=> .int k (M.mint es (M.shift q i))
 |_=> .any

def Ag(es:List AV)(q:Option Addr):Nat→List AV→List AV
 |_,[]=>[]
 |i,z::zs=>EX es q i z::Ag es q (i+1) zs

def Af(es:List AV)(q:Option Addr)(ag:Bool)(z:AV):AV:=match ag with
 |true=> .agg (Ag es q 0 z.cells)
 |false=>EX es q 0 z

def load(P:Program)(h:Hp)(t:TypeId)(x:AV)(hs:List Hint)(K:AV→List Hint→Prop):Prop:=
 match x with
 | .ptr r i o st=>match h.row r with
  |none=>False
  |some k=>match st with
   |true=>match k.read P t i o with
    |some v=>K v hs
    |none=>False
   |false=>match hs with
    | .cell v::hs=>k.read P t i o=some v∧K v hs
    |_=>False
 | .val (.pointer q)=>match gu 0 h,P.info? t,mQ P t,hs with
  |some (_,k),some i,some ag, .cell v::hs=>M.mread k.elems q ag i.size=some v∧K v hs
  |some (_,k),some i,some ag, .get::hs=>(match jv P t with
   |some z=>M.mread k.elems q ag i.size=some (Af k.elems q ag z)∧K (Af k.elems q ag z) hs
   |none=>False)
  |_,_,_,_=>False
 |_=>False

def jM(cs:List AV)(o:Nat):List AV→List AV
 | []=>cs
 |v::vs=>jM (cs.set o v) (o+1) vs

def fill(place:Nat→Option (Nat×Nat))(cs:List AV):List (Nat×AV)→Option (List AV)
 | []=>some cs
 | (i,v)::rest=>match place i with
  |none=>none
  |some (off,size)=>match decide (v.cells.length=size),decide (off+v.cells.length≤cs.length) with
   |true,true=>fill place (jM cs off v.cells) rest
   |_,_=>none

def fo(P:Program)(t:TypeId):Option Nat:=match P.info? t with|some i=>some i.size|none=>none

def build(P:Program)(t:TypeId)(parts:List (Nat×AV))(K:AV→Prop):Prop:=
 match parts.all (fun p=>p.2.sound) with
 |false=>False
 |true=>match P.underlying t,jv P t with
 |some (.struct fs),some z=>match fc (fs.toList.map fun f=>match fo P f.type with|some s=>some (f.offset,s)|none=>none) with
  |some places=>match fill (places[·]?) z.cells parts with
   |some cs=>K (.agg cs)
   |none=>False
  |none=>False
 |some (.array _ e),some z=>match fo P e with
  |some s=>match fill (fun i=>some (i*s,s)) z.cells parts with
   |some cs=>K (.agg cs)
   |none=>False
  |none=>False
 |_,_=>False

def p8(P:Program)(b:Builtin)(tys:List TypeId)(args:List AV)(K:AV→Prop):Prop:=
 match b,args with
 | .len,[x]=>match x,tys with
  | .slice _ _ n st,[t]=>match P.underlying t with|some (.slice _)=>K (iS st .i64 n)|_=>False
  | .vsl _ _ n,[t]=>match P.underlying t with|some (.slice _)=>K (iS false .i64 n)|_=>False
  | .lit (.slice _ n _),[t]=>match P.underlying t with|some (.slice _)=>K (iS true .i64 n)|_=>False
  |x,[t]=>match P.underlying t with
   |some .string=>match x.asStr with|some (s,b)=>K (iS s .i64 b.size)|none=>False
   |some (.array n _)=>K (iS true .i64 n)
   |_=>False
  |_,_=>False
 | .min,[x,y]=>match x.asInt,y.asInt with
  |some (s,k,a),some (s',_,b)=>K (iS (s&&s') k (if b<a then b else a))
  |_,_=>False
 | .min,[x,y,z]=>match x.asInt,y.asInt,z.asInt with
  |some (s,k,a),some (s',_,b),some (s'',_,c)=>K (iS (s&&s'&&s'') k (if c< (if b<a then b else a) then c else if b<a then b else a))
  |_,_,_=>False
 | .max,[x,y]=>match x.asInt,y.asInt with
  |some (s,k,a),some (s',_,b)=>K (iS (s&&s') k (if b>a then b else a))
  |_,_=>False
 |_,_=>False

def Ja:List TypeId→Bool
 | [t]=>Fe t
 |_=>false

def iO:Op→Bool
 | .move _| .assign _| .pick .. | .build .. | .load .. | .nilCheck _| .binOp .. | .unOp .. | .convert .. | .makeInterface .. | .makeFunc ..
 | .fieldAddr .. | .field .. | .indexAddr .. | .index .. | .extract .. | .slice .. =>true
 | .call { callee:= .builtin .len,argTypes, .. }=> !Ja argTypes.toList
 | .call { callee:= .builtin .min, .. }| .call { callee:= .builtin .max, .. }=>true
 |_=>false

def jU:Op→Bool
 | .load .. =>false
 |o=>iO o

def Qb(h:Hp)(r:Nat):Bool:=match h.row r with
 |some k=>decide (k.esz=1)
 |none=>false

def qOp(P:Program)(st:St)(o:Op)(hs:List Hint)(K:AV→List Hint→Prop):Prop:=
 match o with
 | .move x| .assign x=>K (st.op x) hs
 | .pick c a b=>Gl (st.op c) hs fun p hs=>K (match p with|true=>st.op a|false=>st.op b) hs
 | .build t parts=>build P t (parts.toList.map fun p=>(p.1,st.op p.2)) fun v=>K v hs
 | .load t a=>load P st.h t (st.op a) hs K
 | .nilCheck x=>match st.op x with
  | .ptr r i o s=>K (.ptr r i o s) hs
  | .val (.pointer q)=>q.isSome=true∧K (.val (.pointer q)) hs
  | .func (.func f) a b=>K (.func (.func f) a b) hs
  |_=>False
 | .binOp op t x y _=>binOp P op t (st.op x) (st.op y) hs K
 | .unOp op _ x=>unOp op (st.op x) fun v=>K v hs
 | .convert s d x=>match P.underlying s,P.underlying d,(st.op x).asInt with
  |some (.int _),some (.int k),some (c,_,n)=>(match k,c,(st.op x).asW with
   | .u64,false,some (_,x)=>K (.w64 x) hs
   | .u64,false,_=>K (.w64 (BitVec.ofInt 64 n)) hs
   |k,c,_=>K (iS c k (k.wrap n)) hs)
  |_,_,_=>False
 | .makeInterface t x=>match P.underlying t with
  |none=>False
  |some (.interface _)=>False
  |some _=>K (.iface t (st.op x)) hs
 | .makeFunc fn first captured=>K (.func fn (first.toList.map st.op) (captured.toList.map st.op)) hs
 | .fieldAddr s x f=>match P.underlying s,st.op x with
  |some (.struct fs), .ptr r i o c=>match fs.toList[f]? with
   |some fd=>match fo P fd.type with
    |some (_+1)=>(match Qb st.h r with
     |true=>K (.ptr r (i+(o+fd.offset)) 0 c) hs
     |false=>K (.ptr r i (o+fd.offset) c) hs)
    |_=>False
   |none=>False
  |some (.struct fs), .val (.pointer q)=>match fs.toList[f]? with
   |some fd=>match fo P fd.type with
    |some (_+1)=>M.sure q=true∧K (.val (.pointer (M.shift q fd.offset))) hs
    |_=>False
   |none=>False
  |_,_=>False
 | .field t x f=>match P.underlying t,st.op x with
  |some (.struct fs), .agg cs=>match fs.toList[f]? with
   |some fd=>match e7 P fd.type cs fd.offset with|some v=>K v hs|none=>False
   |none=>False
  |_,_=>False
 | .indexAddr t x ix=>match P.underlying t,st.op x with
  |some (.array len e), .ptr r i o c=>match fo P e with
   |some s=>fV (st.op ix) len true hs fun n c' hs=>match o,st.h.row r with
    |0,some k=>(match decide (k.esz=s) with
     |true=>K (.ptr r (i+n) 0 (c'&&c)) hs
     |false=>K (.ptr r i (0+n*s) (c'&&c)) hs)
    |o,_=>K (.ptr r i (o+n*s) (c'&&c)) hs
   |none=>False
  |some (.array len e), .val (.pointer q)=>match fo P e with
   |some s=>fV (st.op ix) len true hs fun n _ hs=>M.sure q=true∧K (.val (.pointer (M.shift q (n*s)))) hs
   |none=>False
  |some (.slice e), .slice r i len c=>match st.h.row r,fo P e with
   |some k,some s=>match decide (k.esz=s) with
    |true=>fV (st.op ix) len c hs fun n c' hs=>K (.ptr r (i+n) 0 (c'&&c)) hs
    |false=>False
   |_,_=>False
  |some (.slice e), .vsl r i len=>match st.h.row r,fo P e with
   |some k,some s=>match decide (k.esz=s) with
    |true=>fV (st.op ix) len false hs fun n _ hs=>K (.ptr r (i+n) 0 false) hs
    |false=>False
   |_,_=>False
  |_,_=>False
 | .index t x ix=>match P.underlying t,st.op x with
  |some (.array len e), .agg cs=>match fo P e with
   |some s=>fV (st.op ix) len true hs fun n c hs=>match c with
    |true=>match e7 P e cs (n*s) with|some v=>K v hs|none=>False
    |false=>match hs with
     | .cell v::hs=>e7 P e cs (n*s)=some v∧K v hs
     |_=>False
   |none=>False
  |some .string,x=>match x.asStr with
   |some (sl,s)=>fV (st.op ix) s.size sl hs fun n c hs=>match c with
    |true=>match s[n]? with|some b=>K (.lit (.int .u8 (b.toNat:Nat))) hs|none=>False
    |false=>match hs with
     | .cell (.int .u8 b)::hs=>(s[n]?.map fun u:UInt8=>(u.toNat:Int))=some b∧K (.int .u8 b) hs
     |_=>False
   |none=>False
  |_,_=>False
 | .extract t i=>match st.op t with
  | .tuple vs=>match vs[i]? with|some v=>K v hs|none=>False
  |_=>False
 | .slice t x lo hi none=>match P.underlying t,st.op x with
  |some (.array len e), .ptr r i 0 c=>match st.h.row r,fo P e with
   |some k,some s=>match decide (k.esz=s∧0<s∧k.wr=true∧i+len≤k.elems.length) with
    |false=>False
    |true=>(match hi with
     |none=>fun (K:Nat→Bool→List Hint→Prop)=>K len c hs
     |some y=>fV (st.op y) (len+1) c hs) fun hn hc hs=>
     (match lo with
     |none=>fun (K:Nat→Bool→List Hint→Prop)=>K 0 hc hs
     |some y=>fV (st.op y) (hn+1) hc hs) fun ln lc hs=>K (.slice r (i+ln) (hn-ln) lc) hs
   |_,_=>False
  |some (.slice e), .slice r i len c=>match st.h.row r,fo P e with
   |some k,some s=>match decide (k.esz=s∧0<s) with
    |false=>False
    |true=>(match hi with
     |none=>fun (K:Nat→Bool→List Hint→Prop)=>K len c hs
     |some y=>fV (st.op y) (len+1) c hs) fun hn hc hs=>
     (match lo with
     |none=>fun (K:Nat→Bool→List Hint→Prop)=>K 0 hc hs
     |some y=>fV (st.op y) (hn+1) hc hs) fun ln lc hs=>K (.slice r (i+ln) (hn-ln) lc) hs
   |_,_=>False
  |some (.slice e), .vsl r i len=>match st.h.row r,fo P e with
   |some k,some s=>match decide (k.esz=s∧0<s) with
    |false=>False
    |true=>(match hi with
     |none=>fun (K:Nat→Bool→List Hint→Prop)=>K len false hs
     |some y=>fV (st.op y) (len+1) false hs) fun hn hc hs=>
     (match lo with
     |none=>fun (K:Nat→Bool→List Hint→Prop)=>K 0 hc hs
     |some y=>fV (st.op y) (hn+1) hc hs) fun ln _ hs=>K (.vsl r (i+ln) (hn-ln)) hs
   |_,_=>False
  |some .string,x=>match x.asStr with
   |some (c,s)=>(match hi with
     |none=>fun (K:Nat→Bool→List Hint→Prop)=>K s.size c hs
     |some y=>fV (st.op y) (s.size+1) c hs) fun hn hc hs=>
     (match lo with
     |none=>fun (K:Nat→Bool→List Hint→Prop)=>K 0 hc hs
     |some y=>fV (st.op y) (hn+1) hc hs) fun ln lc hs=>K (Fa (c&&lc) (s.extract ln hn)) hs
   |none=>False
  |_,_=>False
 | .slice t x lo (some y) (some z)=>match P.underlying t,st.op x with
  |some (.slice e), .slice r i len c=>match st.h.row r,fo P e with
   |some k,some s=>match decide (k.esz=s∧0<s) with
    |false=>False
    |true=>fV (st.op z) (len+1) c hs fun mn mc hs=>fV (st.op y) (mn+1) mc hs fun hn hc hs=>
     (match lo with
     |none=>fun (K:Nat→Bool→List Hint→Prop)=>K 0 hc hs
     |some y=>fV (st.op y) (hn+1) hc hs) fun ln lc hs=>K (.slice r (i+ln) (hn-ln) lc) hs
   |_,_=>False
  |some (.slice e), .vsl r i len=>match st.h.row r,fo P e with
   |some k,some s=>match decide (k.esz=s∧0<s) with
    |false=>False
    |true=>fV (st.op z) (len+1) false hs fun mn mc hs=>fV (st.op y) (mn+1) mc hs fun hn hc hs=>
     (match lo with
     |none=>fun (K:Nat→Bool→List Hint→Prop)=>K 0 hc hs
     |some y=>fV (st.op y) (hn+1) hc hs) fun ln _ hs=>K (.vsl r (i+ln) (hn-ln)) hs
   |_,_=>False
  |_,_=>False
 | .call { callee:= .builtin b,args,argTypes}=>p8 P b argTypes.toList (args.toList.map st.op) fun v=>K v hs
 |_=>False

abbrev Call:=FuncId→List AV→Hp→List Hint→(AV→Hp→List Hint→Prop)→Prop

def sc(e:AV)(o:Nat)(v:AV):AV:=match e with| .agg cs=> .agg (jM cs o v.cells)|_=>v

def yN(e:AV)(o:Nat)(v:AV):Bool:=match e with
 | .agg cs=>decide (o+v.cells.length≤cs.length)
 |_=>decide (o=0∧v.cells.length=1)&&v.cell1

def Blk.write(k:Blk)(i o:Nat)(v:AV):Blk:=
 { k with elems:=k.elems.set i (match k.elems[i]? with|some e=>sc e o v|none=>v)}

def Blk.fits(k:Blk)(i o:Nat)(v:AV):Bool:=
 match k.elems[i]? with
 |some e=>yN e o v
 |none=>false

def Blk.writes(k:Blk)(i o:Nat)(v:AV)(es:List AV):Prop:=(k.write i o v).elems=es

def canon1:AV→AV
 | .lit (.int .u64 n)=>match decide (0≤n∧n<18446744073709551616) with
  |true=> .w64 (BitVec.ofInt 64 n)
  |false=> .lit (.int .u64 n)
 | .lit (.int k n)=> .int k n
 | .lit (.bool b)=> .bool b
 | .lit (.string s)=> .val (.string s)
 | .lit (.pointer q)=> .val (.pointer q)
 |x=>x

def canon:AV→AV
 | .agg cs=> .agg (cs.map canon1)
 |x=>canon1 x

def po(x:AV):AV:=canon1 x

def xl(P:Program)(h:Hp)(t:TypeId)(a v:AV)(hs:List Hint)(K:Hp→List Hint→Prop):Prop:=
 match a with
 | .ptr r i o st=>match h.row r,fo P t with
  |some k,some s=>match k.wr&&v.sound&&(!k.flat||v.plain)&&decide (v.cells.length=s) with
   |false=>False
   |true=>match st with
    |true=>match k.fits i o v with
     |true=>K (h.set r (some (k.write i o v))) hs
     |false=>(match hs with
      | .arr::hs=>(match decide (o=0∧k.esz=1∧i+v.cells.length≤k.elems.length) with
       |true=>K (h.set r (some { k with elems:=k.elems.take i++v.cells++k.elems.drop (i+v.cells.length)})) hs
       |false=>False)
      |_=>False)
    |false=>k.fits i o v=true∧(match hs with
     | .rows es::hs=>k.writes i o v es∧K (h.set r (some { k with elems:=es})) hs
     |hs=>K (h.set r (some (k.write i o v))) hs)
  |_,_=>False
 | .val (.pointer q)=>match gu 0 h,fo P t with
  |some (r,k),some 1=>match k.wr&&(po v).plain1 with
   |true=>(M.mwrite k.elems q (po v)).isSome=true∧K (h.set r (some ⟨true,kX,0,true,M.mwr k.elems q (po v)⟩)) hs
   |false=>False
  |_,_=>False
 |_=>False

def kI:AV→AV
 | .tuple cs=> .tuple (cs.map canon)
 |x=>canon x

def unflat(h:Hp)(a v:AV):Hp:=
 match a with
 | .ptr r _ _ _=>match h.row r with
  |some k=>match k.flat&& !v.plain with
   |true=>h.set r (some { k with flat:=false})
   |false=>h
  |none=>h
 |_=>h

def store(P:Program)(h:Hp)(t:TypeId)(a v:AV)(hs:List Hint)(K:Hp→List Hint→Prop):Prop:=
 match a with
 | .ptr _ _ _ false=>xl P (unflat h a (canon v)) t a (canon v) hs K
 |a=>xl P (unflat h a v) t a v hs K

def newRow(P:Program)(t:TypeId)(elems:List AV)(h:Hp)(K:Nat→Hp→Prop):Prop:=
 match fo P t with
 |some s=>match decide (0<s)&&elems.all fun e=>e.sound&&decide (e.cells.length=s) with
  |true=>K h.length (h++[some ⟨true,t,s,elems.all AV.plain,elems⟩])
  |false=>False
 |none=>False

def nilS:Value:= .slice none 0 0

def qe(h:Hp)(e:TypeId)(i:TypeInfo)(rx nx ry iy ny:Nat)(hs:List Hint)(K:AV→Hp→List Hint→Prop):Prop:=
 match h.row rx,h.row ry with
 |some kx,some ky=>match kx.wr&&(kx.flat==ky.flat)&&decide (kx.ty=e∧kx.esz=i.size∧ky.esz=i.size) with
  |true=>((nx+ny)*i.bytes≤140737488355328∧nx+ny≤9223372036854775807∧iy+ny≤ky.elems.length∧nx≤kx.elems.length)∧
    (match hs with
    | .rows es::hs=>kx.elems.take nx++(ky.elems.drop iy).take ny=es∧K (.vsl h.length 0 (nx+ny)) (h.set rx none++[some ⟨true,e,i.size,ky.flat,es⟩]) hs
    |hs=>K (.vsl h.length 0 (nx+ny)) (h.set rx none++[some ⟨true,e,i.size,ky.flat,kx.elems.take nx++(ky.elems.drop iy).take ny⟩]) hs)
  |false=>False
 |_,_=>False

def F0(h:Hp)(e:TypeId)(i:TypeInfo)(ry iy ny:Nat)(hs:List Hint)(K:AV→Hp→List Hint→Prop):Prop:=
 match h.row ry with
 |some ky=>match decide (ky.esz=i.size) with
  |true=>(ny*i.bytes≤140737488355328∧ny≤9223372036854775807∧iy+ny≤ky.elems.length)∧
    (match hs with
    | .rows es::hs=>(ky.elems.drop iy).take ny=es∧K (.vsl h.length 0 ny) (h++[some ⟨true,e,i.size,ky.flat,es⟩]) hs
    |hs=>K (.vsl h.length 0 ny) (h++[some ⟨true,e,i.size,ky.flat,(ky.elems.drop iy).take ny⟩]) hs)
  |false=>False
 |_=>False

def mg(h:Hp)(e:TypeId)(i:TypeInfo)(x y:AV)(hs:List Hint)(K:AV→Hp→List Hint→Prop):Prop:=
 match x,y with
 | .lit (.slice none 0 0), .lit (.slice none 0 0)=>K (.lit nilS) h hs
 | .slice r j n s, .lit (.slice none 0 0)=>K (.slice r j n s) h hs
 | .lit (.slice none 0 0), .slice ry iy ny sy=>match h.row ry with
  |some ky=>match decide (ky.esz=i.size) with
   |true=>
    match sy,ny,hs with
    |true,0,hs=>K (.lit nilS) h hs
    |true,n+1,hs=>kE true ((n+1)*i.bytes≤140737488355328∧n+1≤9223372036854775807∧iy+(n+1)≤ky.elems.length)
      (K (.slice h.length 0 (n+1) true) (h++[some ⟨true,e,i.size,ky.flat,(ky.elems.drop iy).take (n+1)⟩]) hs)
    |false,ny, .br true::hs=>(0<ny∧ny*i.bytes≤140737488355328∧ny≤9223372036854775807∧iy+ny≤ky.elems.length)∧
      K (.slice h.length 0 ny false) (h++[some ⟨true,e,i.size,ky.flat,(ky.elems.drop iy).take ny⟩]) hs
    |false,ny, .br false::hs=>ny=0∧K (.lit nilS) h hs
    |_,_,_=>False
   |false=>False
  |none=>False
 | .slice rx 0 nx sx, .slice ry iy ny sy=>match h.row rx,h.row ry with
  |some kx,some ky=>match kx.wr&&decide (kx.ty=e∧kx.esz=i.size∧ky.esz=i.size) with
   |true=>kE (sx&&sy) ((nx+ny)*i.bytes≤140737488355328∧nx+ny≤9223372036854775807∧iy+ny≤ky.elems.length∧nx≤kx.elems.length)
     (K (.slice h.length 0 (nx+ny) (sx&&sy)) (h.set rx none++[some ⟨true,e,i.size,kx.flat&&ky.flat,kx.elems.take nx++(ky.elems.drop iy).take ny⟩]) hs)
   |false=>False
  |_,_=>False
 |_,_=>False

def zl(h:Hp)(e:TypeId)(i:TypeInfo)(x y:AV)(hs:List Hint)(K:AV→Hp→List Hint→Prop):Prop:=
 match x,y with
 | .vsl r j n, .lit (.slice none 0 0)=>K (.vsl r j n) h hs
 | .lit (.slice none 0 0), .vsl ry iy ny=>F0 h e i ry iy ny hs K
 | .slice rx 0 nx _, .vsl ry iy ny=>qe h e i rx nx ry iy ny hs K
 | .vsl rx 0 nx, .slice ry iy ny _=>qe h e i rx nx ry iy ny hs K
 | .vsl rx 0 nx, .vsl ry iy ny=>qe h e i rx nx ry iy ny hs K
 |x,y=>mg h e i x y hs K

def AV.sl:AV→Option (Nat×Nat×Nat×Bool)
 | .slice r i n st=>some (r,i,n,st)
 | .vsl r i n=>some (r,i,n,false)
 |_=>none

def Nf(h:Hp)(i:TypeInfo)(st:Bool)(rx ix nx ry iy ny:Nat)(hs:List Hint)(K:AV→Hp→List Hint→Prop):Prop:=
 match h.row rx,h.row ry with
 |some kx,some ky=>match kx.wr&&(!kx.flat||ky.flat)&&decide (kx.esz=i.size∧ky.esz=i.size) with
  |true=>match hs with
   | .ix n::hs=>(n=min ny nx∧ix+nx≤kx.elems.length∧iy+ny≤ky.elems.length)∧
    (match hs with
    | .rows es::hs=>kx.elems.take ix++(ky.elems.drop iy).take n++kx.elems.drop (ix+n)=es∧K (.int .i64 n) (h.set rx (some { kx with elems:=es})) hs
    |hs=>K (.int .i64 n) (h.set rx (some { kx with elems:=kx.elems.take ix++(ky.elems.drop iy).take n++kx.elems.drop (ix+n)})) hs)
   |hs=>kE st (ix+nx≤kx.elems.length∧iy+ny≤ky.elems.length)
    (K (iS st .i64 (min ny nx:Nat)) (h.set rx (some { kx with elems:=kx.elems.take ix++(ky.elems.drop iy).take (min ny nx)++kx.elems.drop (ix+min ny nx)})) hs)
  |false=>False
 |_,_=>False

def Kc(h:Hp)(i:TypeInfo)(x y:AV)(hs:List Hint)(K:AV→Hp→List Hint→Prop):Prop:=
 match x,y with
 | .lit (.slice none 0 0), .lit (.slice none 0 0)=>K (.lit (.int .i64 0)) h hs
 | .lit (.slice none 0 0),y=>(match y.sl with|some _=>K (.lit (.int .i64 0)) h hs|none=>False)
 |x, .lit (.slice none 0 0)=>(match x.sl with|some _=>K (.lit (.int .i64 0)) h hs|none=>False)
 |x,y=>match x.sl,y.sl with
  |some (rx,ix,nx,sx),some (ry,iy,ny,sy)=>Nf h i (sx&&sy) rx ix nx ry iy ny hs K
  |_,_=>False

def Eu(h:Hp)(i:TypeInfo)(z x:AV)(hs:List Hint)(K:AV→Hp→List Hint→Prop):Prop:=
 match x.sl with
 |some (r,j,n,_)=>(match h.row r with
  |some k=>(match k.wr&&(canon z).sound&&(!k.flat|| (canon z).plain)&&decide (k.esz=i.size),hs with
   |true, .rows es::hs=>(j+n≤k.elems.length∧k.elems.take j++List.replicate n (canon z)++k.elems.drop (j+n)=es)∧K (.lit (.tuple #[])) (h.set r (some { k with elems:=es})) hs
   |_,_=>False)
  |none=>False)
 |none=>(match x with
  | .lit (.slice none 0 0)=>K (.lit (.tuple #[])) h hs
  |_=>False)

def IV(v:AV)(h:Hp)(hs:List Hint)(K:AV→Hp→List Hint→Prop):Prop:=
 match hs with
 | .nm es::hs=>match v with
  | .vsl r 0 n=>match h.row r with
   |some ⟨w,t,s,f,es0⟩=>(es0=es∧n=es.length)∧K (.vsl r 0 es.length) (h.set r (some ⟨w,t,s,f,es⟩)) hs
   |none=>False
  |v=>K v h (.nm es::hs)
 |hs=>K v h hs

def JX(C:Call)(P:Program)(st:St)(o:Op)(hs:List Hint)(K:AV→Hp→List Hint→Prop):Prop:=
 match o with
 | .alloc t=>match jv P t with
  |some z=>match hs with
   | .arr::hs=>(match z.cells.all AV.cell1&&decide (z.cells.length≤16777216) with
    |true=>K (.ptr st.h.length 0 0 true) (st.h++[some ⟨true,t,1,z.cells.all AV.plain1,z.cells⟩]) hs
    |false=>False)
   |hs=>newRow P t [z] st.h fun r h=>K (.ptr r 0 0 true) h hs
  |none=>False
 | .box t x=>match hs,st.op x with
  | .arr::hs, .agg cs=>(match cs.all AV.cell1&&decide (cs.length≤16777216) with
   |true=>K (.ptr st.h.length 0 0 true) (st.h++[some ⟨true,t,1,cs.all AV.plain1,cs⟩]) hs
   |false=>False)
  |hs,_=>newRow P t [st.op x] st.h fun r h=>K (.ptr r 0 0 true) h hs
 | .store t a x=>store P st.h t (st.op a) (st.op x) hs fun h hs=>K (.lit undef) h hs
 | .makeMap t none=>match Fe t with
  |true=>K (.mp st.h.length) (st.h++[some ⟨true,t,0,true,[]⟩]) hs
  |false=>False
 | .lookup t m x ok=>match st.op m,hs with
  | .mp r, .cell v::hs=>(match st.h.obj r with
   |some k=>(match decide (k.ty=t) with
    |true=>M.mlook t k.elems (canon (st.op x)) ok v∧K v st.h hs
    |false=>False)
   |none=>False)
  |_,_=>False
 | .mapUpdate t m x y=>match st.op m,hs with
  | .mp r, .rows es::hs=>(match st.h.obj r with
   |some k=>(match decide (k.ty=t∧t≠gU)&&k.wr with
    |true=>M.mupd t k.elems (canon (st.op x)) (canon (st.op y)) es∧K (.lit undef) (st.h.set r (some ⟨true,k.ty,0,true,es⟩)) hs
    |false=>False)
   |none=>False)
  |_,_=>False
 | .buildSlice t len parts=>match P.underlying t with
  |some (.slice e)=>match decide (parts.toList.map (·.1)=List.range len),fo P e with
   |true,some (s+1)=>match decide (len*(s+1)≤2^24),jv P e with
    |true,some _=>newRow P e (parts.toList.map fun p=>canon (st.op p.2)) st.h fun r h=>K (.slice r 0 len true) h hs
    |_,_=>False
   |_,_=>False
  |_=>False
 | .makeSlice t l c=>match P.underlying t,(st.op l).asInt,(st.op c).asInt with
  |some (.slice e),some (s,_,n),some (s',_,m)=>match P.info? e,jv P e with
   |some i,some z=>match z.sound with
    |true=>kE (s&&s') (0≤n∧n≤m∧m≤9223372036854775807∧(i.bytes:Int)*m≤281474976710656∧0<i.size)
     (match hs with
     | .arr::hs=>(match (canon z).sound with
      |true=>K (.slice st.h.length 0 n.toNat (s&&s')) (st.h++[some ⟨true,e,i.size,(canon z).plain,List.replicate n.toNat (canon z)⟩]) hs
      |false=>False)
     |hs=>K (.slice st.h.length 0 n.toNat (s&&s')) (st.h++[some ⟨true,e,i.size,z.plain,List.replicate n.toNat z⟩]) hs)
    |false=>False
   |_,_=>False
  |_,_,_=>False
 | .call { callee:= .builtin .append,args,argTypes}=>match args.toList.map st.op,argTypes.toList with
  | [x,y],[t,t']=>match decide (t=t'),P.underlying t with
   |true,some (.slice e)=>match P.info? e,jv P e with
    |some i,some _=>match decide (0<i.size) with
     |true=>zl st.h e i x y hs K
     |false=>False
    |_,_=>False
   |_,_=>False
  |_,_=>False
 | .call { callee:= .builtin .clear,args,argTypes}=>match args.toList.map st.op,argTypes.toList with
  | [x],[t]=>match P.underlying t with
   |some (.slice e)=>match P.info? e,jv P e with
    |some i,some z=>match decide (0<i.size) with
     |true=>Eu st.h i z x hs K
     |false=>False
    |_,_=>False
   |_=>False
  |_,_=>False
 | .call { callee:= .builtin .copy,args,argTypes}=>match args.toList.map st.op,argTypes.toList with
  | [x,y],[t,_]=>match P.underlying t with
   |some (.slice e)=>match P.info? e with
    |some i=>match decide (0<i.size) with
     |true=>Kc st.h i x y hs K
     |false=>False
    |none=>False
   |_=>False
  |_,_=>False
 | .call { callee:= .value f,args,argTypes:=_}=>match st.op f with
  | .func (.func g) first captured=>C g (first++args.toList.map st.op++captured) st.h hs fun v h hs=>IV v h hs K
  |_=>False
 | .call { callee:= .builtin .len,args,argTypes}=>match Ja argTypes.toList with
  |true=>match args.toList.map st.op,argTypes.toList,hs with
   | [.mp r],[t], .cell v::hs=>(match st.h.obj r with
    |some k=>(match decide (k.ty=t) with
     |true=>M.mlen t k.elems v∧K v st.h hs
     |false=>False)
    |none=>False)
   |_,_,_=>False
  |false=>p8 P .len argTypes.toList (args.toList.map st.op) fun v=>K v st.h hs
 |o=>match iO o with
  |true=>qOp P st o hs fun v hs=>K v st.h hs
  |false=>False

def wanted(ops:List Oper)(o:Oper)(st:St)(hs:List Hint)(K:Bool→St→List Hint→Prop):Prop:=
 match o.guard with
 |none=>K true st hs
 |some (j,want)=>match ops[j]? with
  |some oj=>match oj.dst with
   |some d=>match st.t.getD d .any with
    | .lit (.tuple _)=>K false st hs
    |x=>Gl x hs fun p hs=>K (p==want) { st with t:=st.t.set d (.lit (.bool p))} hs
   |none=>False
  |none=>False

def fN(n:Nat)(K:Nat→Prop):Prop:=match n with|0=>K 0|n+1=>K (n+1)

def fAV(x:AV)(K:AV→Prop):Prop:=
 match x with
 | .any=>K .any
 | .lit v=>K (.lit v)
 | .int k n=>K (.int k n)
 | .w64 x=>K (.w64 x)
 | .bool b=>K (.bool b)
 | .val v=>K (.val v)
 | .ptr r i o st=>K (.ptr r i o st)
 | .slice r i len st=>K (.slice r i len st)
 | .vsl r i len=>K (.vsl r i len)
 | .mp r=>K (.mp r)
 | .agg cs=>K (.agg cs)
 | .tuple vs=>K (.tuple vs)
 | .func fn a b=>K (.func fn a b)
 | .iface t v=>K (.iface t v)

def fT:List AV→(List AV→Prop)→Prop
 | [],K=>K []
 |x::l,K=>fAV x fun x=>fT l fun l=>K (x::l)

def fB:List Bool→(List Bool→Prop)→Prop
 | [],K=>K []
 |true::l,K=>fB l fun l=>K (true::l)
 |false::l,K=>fB l fun l=>K (false::l)

def fA(a:Array Bool)(K:Array Bool→Prop):Prop:=match a with| ⟨l⟩=>fB l fun l=>K ⟨l⟩

def fO(o:Oper)(K:Oper→Prop):Prop:=match o with| ⟨a,b,c,d,e,f⟩=>K ⟨a,b,c,d,e,f⟩

def fH:Hp→(Hp→Prop)→Prop
 | [],K=>K []
 |none::h,K=>fH h fun h=>K (none::h)
 |some ⟨w,t,s,f,es⟩::h,K=>fH h fun h=>K (some ⟨w,t,s,f,es⟩::h)

def fSt(st:St)(K:St→Prop):Prop:=fT st.t fun t=>fH st.h fun h=>K ⟨t,h⟩

def jO(C:Call)(P:Program)(ops:List Oper)(o:Oper)(st:St)(hs:List Hint)(K:St→List Hint→Prop):Prop:=
 wanted ops o st hs fun w st hs=>match w with
  |true=>JX C P st o.op hs fun v h hs=>fSt (({ st with h:=h}:St).put o.dst v) fun st=>K st hs
  |false=>fSt (st.put o.dst (.lit undef)) fun st=>K st hs

def uB:AV→Option UInt8
 | .lit (.int .u8 n)=>some (UInt8.ofNat n.toNat)
 | .int .u8 n=>some (UInt8.ofNat n.toNat)
 |_=>none

def yS(P:Program)(st:St)(o:Oper)(s d:TypeId)(x:Operand)(K:St→Prop):Prop:=
 match o.guard with
 |some _=>False
 |none=>match P.underlying s,P.underlying d,st.op x with
  |some (.slice e),some .string, .slice r i len _=>match P.underlying e,fo P e,st.h.row r with
   |some (.int .u8),some 1,some k=>match decide (k.esz=1∧i+len≤k.elems.length),fc (((k.elems.drop i).take len).map uB) with
    |true,some bs=>K (st.put o.dst (.val (.string ⟨bs.toArray⟩)))
    |_,_=>False
   |_,_,_=>False
  |_,_,_=>False

def FA(P:Program)(st:St)(o:Oper)(t:TypeId)(K:Nat→St→Prop):Prop:=
 match o.guard with
 |some _=>False
 |none=>match gu 0 st.h,jv P t with
  |some (r,k),some z=>match k.wr&&(z.cells.map po).all AV.plain1&&z.sound with
   |true=>∀b,M.mget k.elems b=none→K b (({ st with h:=st.h.set r (some ⟨true,kX,0,true,k.elems++[M.mblk b t (z.cells.map po)]⟩)}:St).put o.dst (.val (.pointer (some ⟨b,0,none⟩))))
   |false=>False
  |_,_=>False

def iF:Hp→List AV
 | []=>[]
 |some k::h=>match k.esz,decide (k.ty=gU) with
  |0,true=>k.elems++iF h
  |_,_=>iF h
 |none::h=>iF h

def yK(e:AV):Hp→Prop
 | []=>False
 |some ⟨_,ty,z,_,es⟩::h=>match z,decide (ty=gU) with
  |0,true=>M.memF e es∨yK e h
  |_,_=>yK e h
 |none::h=>yK e h

def nf:Nat→Hp→Option (Nat×Blk)
 |_,[]=>none
 |i,some k::h=>match k.esz,decide (k.ty=gU)&&k.wr with
  |0,true=>some (i,k)
  |_,_=>nf (i+1) h
 |i,none::h=>nf (i+1) h

def O5(st:St)(d z:Nat)(es:List AV)(K:Value→St→Prop):Prop:=
 match nf 0 st.h,st.t.getD d .any with
 |some (q,⟨_,_,_,_,s⟩), .vsl r 0 n=>match st.h.row r with
  |some ⟨kw,_,kz,kf,ke⟩=>match kw&&kf&&decide (kz=z) with
   |true=>(n=es.length∧ke.take n=es)∧∀A c,K (.slice A es.length c) ⟨st.t.set d (.val (.slice A es.length c)),(st.h.set r none).set q (some ⟨true,gU,0,true,M.catF s [M.fzE (.slice A es.length c) z es]⟩)⟩
   |false=>False
  |none=>False
 |some (q,⟨_,_,_,_,s⟩), .slice r 0 n _=>match st.h.row r with
  |some ⟨kw,_,kz,kf,ke⟩=>match kw&&kf&&decide (kz=z) with
   |true=>(n=es.length∧ke.take n=es)∧∀A c,K (.slice A es.length c) ⟨st.t.set d (.val (.slice A es.length c)),(st.h.set r none).set q (some ⟨true,gU,0,true,M.catF s [M.fzE (.slice A es.length c) z es]⟩)⟩
   |false=>False
  |none=>False
 |_,_=>False

def IU(st:St)(d z:Nat)(es:List AV)(K:St→Prop):Prop:=
 match z,st.t.getD d .any with
 |z+1, .val u=>yK (M.fzE u (z+1) es) st.h∧fSt ⟨st.t.set d (.vsl st.h.length 0 es.length),st.h++[some ⟨false,0,z+1,true,es⟩]⟩ fun st=>K st
 |_,_=>False

def qG(o:Option Tmp)(st:St)(hs:List Hint)(K:St→List Hint→Prop):Prop:=
 match hs with
 | .fz d z es::hs'=>(match decide (o=some d∨o=none) with
  |true=>IU st d z es fun st=>K st hs'
  |false=>K st hs)
 | .abs d (z+1) es f::_=>(match decide (o=some d) with
  |true=>O5 st d (z+1) es fun u st=>fSt st fun st=>K st (f u)
  |false=>K st hs)
 | .rd d f::_=>(match decide (o=some d),st.t.getD d .any with
  |true, .vsl r _ _=>(match st.h.row r with
   |some ⟨_,_,_,_,es⟩=>K st (f es)
   |none=>False)
  |true,_=>False
  |false,_=>K st hs)
 |hs=>K st hs

def pV(C:Call)(P:Program)(ops:List Oper):List Oper→St→List Hint→(St→List Hint→Prop)→Prop
 | [],st,hs,K=>K st hs
 |o::rest,st,hs,K=>match o.op,hs with
  | .convert s d x, .txt::hs=>yS P st o s d x fun st=>pV C P ops rest st hs K
  | .alloc t, .new f::_=>FA P st o t fun b st=>fSt st fun st=>pV C P ops rest st (f b) K
  |_,hs=>jO C P ops o st hs fun st hs=>qG o.dst st hs fun st hs=>pV C P ops rest st hs K

def freeze(h:Hp):Hp:=h.map fun|some ⟨_,t,s,f,es⟩=>some ⟨false,t,s,f,es⟩|none=>none

def thaw(h h':Hp):Hp:=h++(h'.drop h.length).map fun|some k=>(match k.wr with|true=>some k|false=>none)|none=>none

def yL(C:Call):Call:=fun f args h hs K=>C f args (freeze h) hs fun v h' hs=>K v (thaw h h') hs

def gw:Op→Bool
 | .store .. =>false
 | .call { callee:= .builtin .append, .. }=>false
 | .call { callee:= .builtin .copy, .. }=>false
 | .call { callee:= .builtin .clear, .. }=>false
 | .mapUpdate .. =>false
 |_=>true

def mo(C:Call)(P:Program)(ops:Array Oper)(g:Bool):Nat→Array Bool→St→List Hint→(St→List Hint→Prop)→Prop
 |0,listed,st,hs,K=>match Region.ready .any ops listed with| []=>K st hs|_=>False
 |fuel+1,listed,st,hs,K=>
  let rs:=Region.ready .any ops listed
  match rs.find? fun i=>match ops[i]? with|some o=>(match g with|true=>iO o.op|false=>jU o.op)&&Region.free .any ops listed i|none=>false with
  |some i=>fN i fun i=>match ops[i]? with
   |some o=>fO o fun o=>jO C P ops.toList o st hs fun st hs=>fA (listed.setIfInBounds i true) fun L=>mo C P ops g fuel L st hs K
   |none=>False
  |none=>match rs with
   | []=>K st hs
   |rs=>allOf rs fun i=>fN i fun i=>match ops[i]? with
    |some o=>fO o fun o=>jO C P ops.toList o st hs fun st hs=>fA (listed.setIfInBounds i true) fun L=>mo C P ops g fuel L st hs K
    |none=>False
where
 allOf:List Nat→(Nat→Prop)→Prop
  | [],_=>True
  | [i],p=>p i
  |i::is,p=>p i∧allOf is p

def qj(c:Option (List FuncId))(o:Op):Bool:=match c with
 |none=>gw o
 |some fs=>match o with
  | .call { callee:= .builtin _, .. }=>gw o
  | .call { callee:= .value (.func g), .. }=> !fs.contains g
  | .call _=>false
  |o=>gw o

def sJ(md:Region.Mode)(ops:Array Oper):Nat→Nat→List Nat
 |0,_=>[]
 |fuel+1,n=>match ops[n]? with
  |some o=>(o.after.toList.filter (Region.binds md)).flatMap fun e=>e.on::sJ md ops fuel e.on
  |none=>[]

def jW(c:Option (List FuncId))(ops:Array Oper):List Nat:=(List.range ops.size).filter fun n=>match ops[n]? with|some o=> !qj c o.op|none=>false

def ud(c:Option (List FuncId))(ops:Array Oper):List Nat:=(List.range ops.size).filter fun i=>(match ops[i]? with|some o=>iO o.op|none=>false)&&(jW c ops).all fun n=>(sJ .any ops ops.size n).contains i

def lZ(C:Call)(P:Program)(ops:Array Oper)(c:Option (List FuncId))(F:List Nat):Nat→Array Bool→St→List Hint→(St→List Hint→Prop)→Prop
 |0,listed,st,hs,K=>match Region.ready .any ops listed with| []=>K st hs|_=>False
 |fuel+1,listed,st,hs,K=>
  let rs:=Region.ready .any ops listed
  match rs.find? fun i=>(F.contains i|| (c.isSome&&(match ops[i]? with|some o=>jU o.op|none=>false)))&&Region.free .any ops listed i with
  |some i=>fN i fun i=>match ops[i]? with
   |some o=>fO o fun o=>jO C P ops.toList o st hs fun st hs=>fA (listed.setIfInBounds i true) fun L=>lZ C P ops c F fuel L st hs K
   |none=>False
  |none=>match rs with
   | []=>K st hs
   |rs=>mo.allOf rs fun i=>fN i fun i=>match ops[i]? with
    |some o=>fO o fun o=>match qj c o.op with
     |true=>jO (yL C) P ops.toList o st hs fun st hs=>fA (listed.setIfInBounds i true) fun L=>lZ C P ops c F fuel L st hs K
     |false=>qG none st hs fun st hs=>jO C P ops.toList o st hs fun st hs=>qG o.dst st hs fun st hs=>fA (listed.setIfInBounds i true) fun L=>lZ C P ops c F fuel L st hs K
    |none=>False

def pin(h0:Hp)(st:St)(o:Op):Bool:=
 match o with
 | .load _ x=>match st.op x with
  | .ptr r _ _ _=>(match h0.row r with|some _=>true|none=>false)
  |_=>false
 |_=>false

def EY(fs:List FuncId)(st:St)(o:Op):Bool:=
 match o with
 | .call { callee:= .value (.func g),args,argTypes:=_}=>fs.contains g&&args.toList.all fun x=>(st.op x).plain
 |_=>false

def Eg(C:Call)(st:St)(o:Op)(hs:List Hint)(K:AV→List Hint→Prop):Prop:=
 match o,hs with
 | .call { callee:= .value (.func g),args,argTypes:=_}, .cell v::hs=>(match v.plain with
  |true=>C g (args.toList.map st.op) [] [] (fun x h _=>h=[]∧x=v)∧K v hs
  |false=>False)
 |_,_=>False

def JY(C:Call)(P:Program)(fs:List FuncId)(ops:List Oper)(h0:Hp)(o:Oper)(st:St)(hs:List Hint)(K:St→List Hint→Prop):Prop:=
 wanted ops o st hs fun w st hs=>match w with
  |true=>match EY fs st o.op with
   |true=>Eg C st o.op hs fun v hs=>fSt (st.put o.dst v) fun st=>K st hs
   |false=>match (jU o.op||pin h0 st o.op)&&iO o.op with
    |true=>qOp P st o.op hs fun v hs=>fSt (st.put o.dst v) fun st=>K st hs
    |false=>False
  |false=>fSt (st.put o.dst (.lit undef)) fun st=>K st hs

def nn(C:Call)(P:Program)(ops:Array Oper)(fs:List FuncId)(h0:Hp):Nat→Array Bool→St→List Hint→(St→List Hint→Prop)→Prop
 |0,listed,st,hs,K=>match Region.ready .any ops listed with| []=>K st hs|_=>False
 |fuel+1,listed,st,hs,K=>
  let rs:=Region.ready .any ops listed
  match rs.find? fun i=>match ops[i]? with|some o=>(jU o.op||pin h0 st o.op||EY fs st o.op)&&Region.free .any ops listed i|none=>false with
  |some i=>fN i fun i=>match ops[i]? with
   |some o=>fO o fun o=>JY C P fs ops.toList h0 o st hs fun st hs=>fA (listed.setIfInBounds i true) fun L=>nn C P ops fs h0 fuel L st hs K
   |none=>False
  |none=>match rs with
   | []=>K st hs
   |rs=>mo.allOf rs fun i=>fN i fun i=>match ops[i]? with
    |some o=>fO o fun o=>jO C P ops.toList o st hs fun st hs=>fA (listed.setIfInBounds i true) fun L=>nn C P ops fs h0 fuel L st hs K
    |none=>False

def jN(C:Call)(P:Program)(ops:Array Oper)(draw:Bool)(st:St)(hs:List Hint)(K:St→List Hint→Prop):Prop:=
 match draw with
 |false=>pV C P ops.toList ops.toList st hs K
 |true=>match Region.noSelect ops with
  |true=>match hs with
   | .wrc fs::hs=>lZ C P ops (some fs) (ud (some fs) ops) ops.size (Array.replicate ops.size false) st hs K
   | .pur fs::hs=>nn C P ops fs st.h ops.size (Array.replicate ops.size false) ⟨st.t,freeze st.h⟩ hs fun s hs=>K ⟨s.t,thaw st.h s.h⟩ hs
   |hs=>match ops.toList.all fun o=>gw o.op with
    |true=>mo (yL C) P ops true ops.size (Array.replicate ops.size false) st hs K
    |false=>match hs with
     | .old::hs=>mo C P ops false ops.size (Array.replicate ops.size false) st hs K
     | .frz::hs=>nn C P ops [] st.h ops.size (Array.replicate ops.size false) ⟨st.t,freeze st.h⟩ hs fun s hs=>K ⟨s.t,thaw st.h s.h⟩ hs
     |hs=>lZ C P ops none (ud none ops) ops.size (Array.replicate ops.size false) st hs K
  |false=>False

def Jb(f:St→List Hint→(Ex→St→List Hint→Prop)→Prop):Nat→St→List Hint→(Ex→St→List Hint→Prop)→Prop
 |0,_,_,_=>False
 |n+1,st,hs,K=>f st hs fun e st hs=>match e with
  | .normal=>Jb f n st hs K
  |e=>K e st hs

mutual
def AV.ren(σ:List Nat):AV→AV
 | .ptr r i o st=> .ptr (σ.getD r 0) i o st
 | .slice r i len st=> .slice (σ.getD r 0) i len st
 | .vsl r i len=> .vsl (σ.getD r 0) i len
 | .mp r=> .mp (σ.getD r 0)
 | .agg cs=> .agg (AV.renL σ cs)
 | .tuple cs=> .tuple (AV.renL σ cs)
 | .func fn a b=> .func fn (AV.renL σ a) (AV.renL σ b)
 | .iface t v=> .iface t (AV.ren σ v)
 |x=>x
def AV.renL(σ:List Nat):List AV→List AV
 | []=>[]
 |x::l=>AV.ren σ x::AV.renL σ l
end

mutual
def AV.under(n:Nat):AV→Bool
 | .ptr r _ _ _=>decide (r<n)
 | .slice r _ _ _=>decide (r<n)
 | .vsl r _ _=>decide (r<n)
 | .mp r=>decide (r<n)
 | .agg cs=>AV.underL n cs
 | .tuple cs=>AV.underL n cs
 | .func _ a b=>AV.underL n a&&AV.underL n b
 | .iface _ v=>AV.under n v
 |_=>true
def AV.underL(n:Nat):List AV→Bool
 | []=>true
 |x::l=>AV.under n x&&AV.underL n l
end

def AV.sub(σ:List Nat)(x y:AV):Prop:=match y with| .any=>True|y=>y.under σ.length=true∧(y.ren σ=x∨y.ren σ=kI x)

def KX(σ:List Nat):List AV→List AV→Prop
 | [],[]=>True
 |x::l,y::m=>x.sub σ y∧KX σ l m
 |_,_=>False

def HW(σ:List Nat)(k k':Blk):Prop:=
 (k'.wr=true→k.wr=true)∧k'.ty=k.ty∧k'.esz=k.esz∧k'.flat=k.flat∧
 (match k.flat with
  |true=>k'.elems=k.elems∨k'.elems=k.elems.map canon
  |false=>k'.elems.all (AV.under σ.length)=true∧(k'.elems.map (AV.ren σ)=k.elems∨k'.elems.map (AV.ren σ)=k.elems.map canon))

def xk(σ:List Nat)(h:Hp):List Nat→Hp→Prop
 | [],[]=>True
 |r::l,k'::m=>(match k' with
   |none=>True
   |some k'=>match h.row r with
    |some k=>HW σ k k'
    |none=>match h.obj r with|some k=>k'=k|none=>False)∧xk σ h l m
 |_,_=>False

def St.sub(n0:Nat)(σ:List Nat)(s s':St):Prop:=
 σ.Nodup∧σ.take n0=List.range n0∧KX σ s.t s'.t∧xk σ s.h σ s'.h

def yh(r:Nat):Nat→List Nat→Option Nat
 |_,[]=>none
 |j,x::l=>match decide (x=r) with
  |true=>some j
  |false=>yh r (j+1) l

mutual
def AV.unrenO(σ:List Nat):AV→Option AV
 | .ptr r i o st=>match yh r 0 σ with|some j=>some (.ptr j i o st)|none=>none
 | .slice r i len st=>match yh r 0 σ with|some j=>some (.slice j i len st)|none=>none
 | .vsl r i len=>match yh r 0 σ with|some j=>some (.vsl j i len)|none=>none
 | .mp r=>match yh r 0 σ with|some j=>some (.mp j)|none=>none
 | .agg cs=>match AV.unrenL σ cs with|some l=>some (.agg l)|none=>none
 | .tuple cs=>match AV.unrenL σ cs with|some l=>some (.tuple l)|none=>none
 | .func fn a b=>match AV.unrenL σ a,AV.unrenL σ b with|some a,some b=>some (.func fn a b)|_,_=>none
 | .iface t v=>match AV.unrenO σ v with|some v=>some (.iface t v)|none=>none
 | .any=>some .any
 | .lit v=>some (.lit v)
 | .int k n=>some (.int k n)
 | .w64 x=>some (.w64 x)
 | .bool b=>some (.bool b)
 | .val v=>some (.val v)
def AV.unrenL(σ:List Nat):List AV→Option (List AV)
 | []=>some []
 |x::l=>match AV.unrenO σ x,AV.unrenL σ l with|some x,some l=>some (x::l)|_,_=>none
end

def o8(σ:List Nat):List Nat→List AV→Option (List AV)
 | [],[]=>some []
 |m::ms,x::xs=>match m with
  |0=>match o8 σ ms xs with|some l=>some (.any::l)|none=>none
  |1=>match x.unrenO σ,o8 σ ms xs with|some y,some l=>some (y::l)|_,_=>none
  |_=>match (kI x).unrenO σ,o8 σ ms xs with|some y,some l=>some (y::l)|_,_=>none
 |_,_=>none

def HI(σ:List Nat)(m:Nat)(k:Blk):Option Blk:=
 match k.flat with
 |true=>match m with
  |1=>some k
  |_=>some { k with elems:=k.elems.map canon}
 |false=>match AV.unrenL σ (match m with|1=>k.elems|_=>k.elems.map canon) with
  |some l=>some { k with elems:=l}
  |none=>none

def o9(σ:List Nat)(h:Hp):List Nat→List Nat→Option Hp
 | [],[]=>some []
 |r::rs,m::ms=>match o9 σ h rs ms with
  |none=>none
  |some l=>match m with
   |0=>some (none::l)
   |m=>match h.row r with
    |some k=>match HI σ m k with
     |some k'=>some (some k'::l)
     |none=>none
    |none=>match h.obj r with
     |some k=>some (some k::l)
     |none=>none
 |_,_=>none

def toV:AV→Option AV
 | .slice r i n _=>some (.vsl r i n)
 | .vsl r i n=>some (.vsl r i n)
 |_=>none

def CF:List Nat→St→Option St
 | [],s=>some s
 |j::l,s=>match toV (s.t.getD j .any) with
  |some x=>CF l { s with t:=s.t.set j x}
  |none=>none

def wU:List (Nat×TypeId×Nat)→Hp→Option Hp
 | [],h=>some h
 | (r,ty,esz)::l,h=>match h.row r,esz with
  |some k,_+1=>match k.elems with
   | [.lit (.slice none 0 0)]=>wU l (h.set r (some { k with flat:=false,elems:=[.vsl h.length 0 0]})++[some ⟨true,ty,esz,true,[]⟩])
   |_=>none
  |_,_=>none

def wT:List (Nat×TypeId×Nat)→St→Option St
 | [],s=>some s
 | (j,ty,esz)::l,s=>match s.t.getD j .any with
  | .lit (.slice none 0 0)=>match esz with
   |0=>none
   |_+1=>wT l ⟨s.t.set j (.vsl s.h.length 0 0),s.h++[some ⟨true,ty,esz,true,[]⟩]⟩
  | .ptr r 0 0 _=>match wU [(r,ty,esz)] s.h with
   |some h=>wT l ⟨s.t,h⟩
   |none=>none
  |_=>none

def xc(n0:Nat)(M:Modes)(s:St):Option St:=
 match decide (M.σ.Nodup∧M.σ.take n0=List.range n0) with
 |false=>none
 |true=>match o8 M.σ M.tm s.t,o9 M.σ s.h M.σ M.rm with
  |some t,some h=>match CF M.sl ⟨t,h⟩ with
   |some s=>wT M.ph s
   |none=>none
  |_,_=>none

mutual
def AV.names:AV→List Nat
 | .ptr r _ _ _=>[r]
 | .slice r _ _ _=>[r]
 | .vsl r _ _=>[r]
 | .mp r=>[r]
 | .agg cs=>AV.namesL cs
 | .tuple cs=>AV.namesL cs
 | .func _ a b=>AV.namesL a++AV.namesL b
 | .iface _ v=>AV.names v
 |_=>[]
def AV.namesL:List AV→List Nat
 | []=>[]
 |x::l=>AV.names x++AV.namesL l
end

def nG(n0:Nat):List Nat→List Nat→List Nat
 | [],acc=>acc
 |r::l,acc=>match decide (r<n0)||acc.contains r with
  |true=>nG n0 l acc
  |false=>nG n0 l (acc++[r])

def H5(n0:Nat):List Nat→List AV→List Nat→List Nat
 |m::ms,x::xs,acc=>match m with
  |0=>H5 n0 ms xs acc
  |_=>H5 n0 ms xs (nG n0 x.names acc)
 |_,_,acc=>acc

def kP(n0:Nat)(h:Hp):List Nat→List Nat→List Nat
 | [],acc=>acc
 |r::l,acc=>match h.row r with
  |some k=>match k.flat with
   |true=>kP n0 h l acc
   |false=>kP n0 h l (nG n0 (AV.namesL k.elems) acc)
  |none=>kP n0 h l acc

def MO(n0:Nat)(ts:List AV):List Nat→List Nat→List Nat
 | [],acc=>acc
 |j::l,acc=>MO n0 ts l (nG n0 (AV.names (ts.getD j .any)) acc)

def Qm(n0:Nat)(M:Modes)(s:St):Modes:=
 match M.σ with
 | []=>
  let a:=H5 n0 M.tm s.t (MO n0 s.t M.rm.tail [])
  let a:=kP n0 s.h a a
  let a:=kP n0 s.h a a
  let σ:=List.range n0++a
  let m:=match M.rm with| []=>1|m::_=>m
  ⟨M.tm,σ,σ.map fun r=>(match s.h[r]? with|some (some _)=>m|_=>0),M.sl,M.ph⟩
 |_=>M

def gV(n0:Nat)(M:Modes)(s:St):Option St:=xc n0 (Qm n0 M s) s

def Hn(M:Modes):List Hint→Modes
 | .md M1::_=>M1
 |_=>M

def gZ(n0:Nat)(M M':Modes)(N:St→Prop)(K:Ex→St→List Hint→Prop)(hs:List Hint):Ex→St→List Hint→Prop:=fun e s' hs2=>match e with
 | .normal=>match gV n0 (Hn M hs2) s' with
  |some T=>N T
  |none=>False
 |e=>match gV n0 (Hn M' hs2) s' with
  |some T=>K e T hs
  |none=>False

def vX(K:Ex→St→List Hint→Prop):Ex→St→List Hint→Prop:=fun e s hs=>match e with
 | .goto _=>False
 |e=>K e s hs

def tC(n0 l:Nat)(M:Modes)(N:St→Prop)(K:Ex→St→List Hint→Prop):Ex→St→List Hint→Prop:=fun e s hs=>match e with
 | .goto l'=>match decide (l'=l) with
  |true=>(match gV n0 (Hn M hs) s with
   |some T=>N T
   |none=>False)
  |false=>False
 |e=>K e s hs

inductive Md where
 |all
 |til (l:Nat)
 |beh (l:Nat)

def gP:Code→Nat→Bool
 | .seq a b,l=>gP a l||gP b l
 | .label l',l=>l'==l
 |_,_=>false

def lF:Nat→List Hint→(List Hint→Prop)→Prop
 |0,hs,K=>K hs
 |n+1,hs,K=>match hs with
  | .split b l r::_=>(b=true→lF n l K)∧(b=false→lF n r K)
  |hs=>K hs

def mrg(n0:Nat)(c:Bool)(f:List Hint→(Ex→St→List Hint→Prop)→Prop)(hs:List Hint)(K:Ex→St→List Hint→Prop):Prop:=
 match hs with
 | .mrg c' α Φ I M l af::hs=>match c==c' with
  |true=>(f l fun e s hs2=>match e with
   | .normal=>match gV n0 (Hn M hs2) s with
    |some T=>∃p,T=Φ p∧I p
    |none=>False
   |e=>K e s hs2)∧∀p,I p→K .normal (Φ p) (af p++hs)
  |false=>f (.mrg c' α Φ I M l af::hs) K
 |hs=>f hs K

def P2(n:Nat)(keep:List Nat):Modes:=⟨(List.range n).map fun i=>(match keep.contains i with|true=>1|false=>0),[],[],[],[]⟩

mutual
def AV.same:AV→AV→Bool
 | .any, .any=>true
 | .lit (.int k n), .lit (.int k' n')=>decide (k=k')&&decide (n=n')
 | .lit (.bool b), .lit (.bool b')=>decide (b=b')
 | .int k n, .int k' n'=>decide (k=k')&&decide (n=n')
 | .w64 x, .w64 x'=>decide (x=x')
 | .bool b, .bool b'=>decide (b=b')
 | .ptr r i o s, .ptr r' i' o' s'=>decide (r=r')&&(decide (i=i')&&(decide (o=o')&&decide (s=s')))
 | .slice r i n s, .slice r' i' n' s'=>decide (r=r')&&(decide (i=i')&&(decide (n=n')&&decide (s=s')))
 | .vsl r i n, .vsl r' i' n'=>decide (r=r')&&(decide (i=i')&&decide (n=n'))
 | .mp r, .mp r'=>decide (r=r')
 | .agg cs, .agg cs'=>AV.sameL cs cs'
 |_,_=>false
def AV.sameL:List AV→List AV→Bool
 | [],[]=>true
 |x::l,x'::l'=>AV.same x x'&&AV.sameL l l'
 |_,_=>false
end

def Blk.same:Option Blk→Option Blk→Bool
 |some ⟨w,t,s,f,es⟩,some ⟨w',t',s',f',es'⟩=>decide (w=w')&&(decide (t=t')&&(decide (s=s')&&(decide (f=f')&&AV.sameL es es')))
 |none,none=>true
 |_,_=>false

def Hp.same:Hp→Hp→Bool
 | [],[]=>true
 |x::l,x'::l'=>Blk.same x x'&&Hp.same l l'
 |_,_=>false

def wM:Nat→Nat→List Bool
 |0,_=>[]
 |n+1,c=>decide (c%2=1)::wM n (c/2)

def Mx{α:Type}(p:α→Prop):List α→Prop
 | []=>True
 | [x]=>p x
 |x::l=>p x∧Mx p l

def JA(css:List (List Nat))(c:Nat):Bool:=css.any fun cs=>cs.any fun d=>Nat.beq d c

def EO(n0:Nat)(M:Nat→Modes)(Φ:Nat→St)(c:Nat)(st:St):Prop:=match gV n0 (M c) st with
 |some T=>(match AV.sameL T.t (Φ c).t&&Hp.same T.h (Φ c).h with
  |true=>True
  |false=>T=Φ c)
 |none=>False

def FB(n0:Nat)(C:Call)(P:Program)(ops:Array Oper)(css:List (List Nat))(M:Nat→Modes)(Φ:Nat→St)(st:St)(hs:List Hint)(K:St→List Hint→Prop):Prop:=
 match JA css 0 with
 |false=>False
 |true=>EO n0 M Φ 0 st∧Mx (fun cs=>Mx (fun c=>fN c fun c=>fA ⟨wM ops.size c⟩ fun L=>match Region.ready .any ops L with
  | []=>K (Φ c) hs
  |rs=>mo.allOf rs fun i=>fN i fun i=>match ops[i]? with
   |some o=>fN (c+2^i) fun d=>(match JA css d&&decide (wM ops.size d=(L.setIfInBounds i true).toList) with
    |true=>fO o fun o=>jO C P ops.toList o (Φ c) [] fun st' _=>EO n0 M Φ d st'
    |false=>False)
   |none=>False) cs) css

def Hint.cut(n:Nat)(keep:List Nat)(T:St)(l:List Hint):Hint:=
 .mrg true Unit (fun _=>T) (fun _=>True) (P2 n keep) l fun _=>[]

end Go.Sx
