/-
 Texts in one: L14C L14J L14P.
-/
import Derived.Test.YtcabofadpheomaaGreatL8a
import Derived.Test.YtcabofadpheomaaGreatL11a
import Derived.Test.YtcabofadpheomaaGreatMd
import Derived.Test.YtcabofadpheomaaGreatL12a
import Derived.Test.YtcabofadpheomaaGreatL13a

section
namespace Go.Proofs.YtcabofadpheomaaGreat.L1
open Go.Sx Go.Sx.M

def jt:List Arg→(Res→Prop)→Prop
 | [.v (.int .i64 o)],R=>R (.v (.bool (isO o)))
 |_,_=>False

def pK:List Arg→(Res→Prop)→Prop
 | [.v (.int .i64 o), .row r_l],R=>r_l=(deS r_l).map slE∧(deS r_l).length≤1000000∧R (.v (.bool (kpO o (deS r_l))))
 |_,_=>False

def lT:List Arg→(Res→Prop)→Prop
 | [.v (.int .i64 o), .row r_l, .v (.agg [.w64 v, .w64 w, .w64 m, .w64 n, .int .i64 k, .int .i64 j])],R=>r_l=(deS r_l).map slE∧(deS r_l).length≤1000000∧
   R (.many [.vrow 48 8 ((wO o (deS r_l) ⟨v,w,m,n,k,j⟩).map wrE), .v (.int .i64 (eO o (deS r_l) ⟨v,w,m,n,k,j⟩))])
 |_,_=>False

def rM:List Arg→(Res→Prop)→Prop
 | [.v (.int .i64 o), .row r_l, .v (.agg [.int .i64 i, .w64 v, .w64 w, .w64 m, .w64 n, .int .i64 k, .int .i64 j])],R=>r_l=(deS r_l).map slE∧(deS r_l).length≤1000000∧
   R (.many [.vrow 48 8 ((fE o (deS r_l) ⟨i,v,w,m,n,k,j⟩).map wrE), .v (.int .i64 (gG o (deS r_l) ⟨i,v,w,m,n,k,j⟩))])
 |_,_=>False

def rO:List Arg→(Res→Prop)→Prop
 | [.v (.int .i64 o), .row r_l, .row r_s],R=>r_l=(deS r_l).map slE∧(deS r_l).length≤1000∧r_s=(deSp r_s).map spE∧(deSp r_s).length≤1000∧
   R (.many [.vrow 48 8 ((gy o (deSp r_s) (deS r_l)).map wrE), .v (.int .i64 (gq o (deSp r_s) (deS r_l)))])
 |_,_=>False

def qC:List Arg→(Res→Prop)→Prop
 | [.row r_l],R=>r_l=(deS r_l).map slE∧(deS r_l).length≤1000000∧R (.vrow 48 8 ((twW (deS r_l) (deS r_l).length).map wrE))
 |_,_=>False

end Go.Proofs.YtcabofadpheomaaGreat.L1
end

section
namespace Go.Proofs.YtcabofadpheomaaGreat.L1
open Go.Sx Go.Sx.M Go.RowKit

noncomputable def ju:List (FuncId×Sx.Spec):=[(31,ey [none,none] L5),(32,ey [none,pSl,none] rM),(33,ey [pSl] qC),(7,ey [none] jt),(16,ey [none,pSl] pK)]

def Ni:List Hint:=[.br true, .br true, .cell (wrE ⟨1,zS⟩), .br true, .cell (wrE ⟨2,zS⟩), .br true, .br true, .cell (.int .i64 2), .br true, .br true, .br true]

theorem Cv(_u:Unit):run ju Tryz.prog 8 [] [] Ni (pZ (.bool true))=
  (let s:=AV.w64;let r:=AV.bool false;let p:=(2:Int);let o:=(0:Nat);let l:=(1:Int);let k:=Blk.mk true (48:TypeId) (8:Nat) true;let g:=AV.int IntKind.i64;let f:=(0:Int);let n:=mkW (f-(64:Int));let d:=BitVec.ofInt (64:Nat) f;let h:=AV.agg [AV.bool true,s (d&&&mkW f),s (d&&&n),s (mkW f),s (n),g (clamp f),g l];let c:=BitVec.ofNat (64:Nat) o;let j:=false==false&&(c==d&&c==d&&(c==d&&c==d)&&(f==f&&f==f));let i:=s (c);let e:=AV.agg [g (↑(nat_lit 2):Int),r,i,i,i,i,g f,g f];let t:=(↑(List.length [e]):Int);let b:=[AV.agg [g (↑(nat_lit 1):Int),r,i,i,i,i,g f,g f],e];let q:=(↑(List.length b):Int);let a:=[AV.agg [r,s (d),s (d),s (d),s (d),g f,g f],h,h];let m:=List.length (deS a)≤(1000000:Nat);(a=a∧m∧a=a∧m∧(gG l (deS a) (Sp.mk p (En.mk (d&&&mkW f) (d&&&n) (mkW f) (n) (clamp f) l))==f)=true∧(q==p)=true∧(f≤f∧f<q)∧Blk.read Proofs.Tryz.prog (k b) (48:Nat) (o+Int.toNat f) o=some (AV.agg [g l,r,i,i,i,i,g f,g f])∧(l==l&&j)=true∧(f≤l∧l<q)∧Blk.read Proofs.Tryz.prog (k b) (48:Nat) (o+Int.toNat l) o=some (AV.agg [g p,r,i,i,i,i,g f,g f])∧(p==p&&j)=true∧(t==l)=true∧(f≤f∧f<t)∧Blk.read Proofs.Tryz.prog (k [e]) (3:Nat) (o+Int.toNat f) (o+o)=some (g p)∧(p==p)=true∧isO l=true∧a=a∧m∧AV.bool (kpO f (deS a))=AV.bool true)):=by kernel_rfl

theorem Cw:∃hs,run ju Tryz.prog 8 [] [] hs (pZ (.bool true)):=by
 refine⟨Ni, ?_⟩
 rw[Cv ()];(conv=>zeta)
 repeat' first
  |apply And.intro
  |intro _
 all_goals first
  |kernel_rfl
  |exact Nat.le_of_ble_eq_true (by kernel_rfl)
  |decide

set_option maxRecDepth 1000000 in
theorem o3(h:∀e∈ju,eJ Tryz.prog e.1 e.2):eJ Tryz.prog 8 lz:=by
 obtain⟨hs,r⟩:=Cw
 exact KE (eS (l:=ju) h mixed noNG) r

end Go.Proofs.YtcabofadpheomaaGreat.L1
end

section
namespace Go.Proofs.YtcabofadpheomaaGreat.L1
open Go.Sx Go.Sx.M

def Ak(l:List Sl):Option Blk:=some ⟨false,46,7,true,l.map slE⟩
def ii(w:List Wr):List AV:=List.map wrE w

def hsS(l:List Sl)(x:En)(p:Nat):Bool:=(List.range p).any fun k=>(at' l k).ok&&alE (at' l k).e x

def rwS(l:List Sl)(x:En)(s:Sl):Nat→List Wr
 |0=>[]
 |i+1=>rwS l x s i++if (at' l i).ok&&alE (at' l i).e x&&decide (at' l i≠s) then [⟨i,s⟩] else []

theorem Jy(l:List Sl)(x:En)(p:Nat):hsS l x (p+1)=(hsS l x p|| ((at' l p).ok&&alE (at' l p).e x)):=by
 unfold hsS
 rw[List.range_succ,List.any_append,List.any_cons,List.any_nil,Bool.or_false]

theorem Jw{l:List Sl}{x:En}{k:Nat}(h:k≤l.length):hsS (l.take k) x (l.take k).length=hsS l x k:=by
 have e:(l.take k).length=k:=by rw[List.length_take];omega
 rw[e]
 unfold hsS
 have hk:∀j∈List.range k,((at' (l.take k) j).ok&&alE (at' (l.take k) j).e x)=((at' l j).ok&&alE (at' l j).e x):=fun j hj=>by
  have:at' (l.take k) j=at' l j:=by
   unfold at'
   rw[List.getD_eq_getElem?_getD,List.getD_eq_getElem?_getD,List.getElem?_take,if_pos (List.mem_range.1 hj)]
  rw[this]
 exact Bool.eq_iff_iff.2 (by
  rw[List.any_eq_true,List.any_eq_true]
  exact⟨fun⟨j,h1,h2⟩=>⟨j,h1,by rw[←hk j h1];exact h2⟩,fun⟨j,h1,h2⟩=>⟨j,h1,by rw[hk j h1];exact h2⟩⟩)

theorem Jz{l:List Sl}{x:En}{p q:Nat}(h:hsS l x p=true)(hpq:p≤q):hsS l x q=true:=by
 unfold hsS at h⊢
 rw[List.any_eq_true] at h⊢
 obtain⟨j,h1,h2⟩:=h
 exact⟨j,List.mem_range.2 (Nat.lt_of_lt_of_le (List.mem_range.1 h1) hpq),h2⟩

theorem LM(l:List Sl)(i:Nat):isT l i=((at' l i).ok&&hsS l (at' l i).e i):=by
 unfold isT hsS
 cases (at' l i).ok with
 |false=>
  rw[Bool.false_and]
  exact Bool.eq_false_iff.2 fun h=>by
   obtain⟨j,_,h2⟩:=List.any_eq_true.1 h
   simp at h2
 |true=>
  rw[Bool.true_and]
  congr 1
  funext k
  rw[Bool.true_and,gz]

theorem sC(l:List Sl)(x:En)(s:Sl):∀i,(rwS l x s i).length≤i
 |0=>Nat.le_refl _
 |i+1=>by
  rw[rwS,List.length_append]
  have:=sC l x s i
  split
  ·rw[List.length_singleton];omega
  ·rw[List.length_nil];omega

theorem ET(l:List Sl)(x:En):∀i,rwS l x ⟨true,x⟩ i=tcW l ⟨1,x⟩ i
 |0=>rfl
 |i+1=>by
  rw[rwS,tcW,ET l x i]
  congr 1
  unfold qh
  show _=if (at' l i).ok&&alE (at' l i).e x then _ else _
  generalize at' l i=y
  obtain⟨b,e⟩:=y
  cases b with
  |false=>rfl
  |true=>
   cases ha:alE e x with
   |false=>simp
   |true=>
    have:(Sl.mk true e≠Sl.mk true x)↔e.act≠x.act:=by
     constructor
     ·exact fun h h2=>h (by rw[zn ha h2])
     ·intro h h2;cases h2;exact h rfl
    simp only[Bool.true_and,decide_eq_true_eq,this,if_true]
    simp

theorem zY(l:List Sl)(x:En):∀i,rwS l x zS i=tcW l ⟨2,x⟩ i
 |0=>rfl
 |i+1=>by
  rw[rwS,tcW,zY l x i]
  congr 1
  unfold qh
  show _=if (at' l i).ok&&alE (at' l i).e x then _ else _
  generalize at' l i=y
  obtain⟨b,e⟩:=y
  cases b with
  |false=>rfl
  |true=>
   have:Sl.mk true e≠zS:=fun h=>by cases h
   cases ha:alE e x with
   |false=>simp
   |true=>simp[this]

def alP(o:Int)(l:List Sl)(s:List Sp)(p:Nat):List Sl×List Wr:=(s.take p).foldl (fun q x=>(apL q.1 (fE o q.1 x),q.2++fE o q.1 x)) (l,[])
def alL(o:Int)(l:List Sl)(s:List Sp)(p:Nat):List Sl:=(alP o l s p).1
def alW(o:Int)(l:List Sl)(s:List Sp)(p:Nat):List Wr:=(alP o l s p).2

theorem uP{o:Int}{l:List Sl}{s:List Sp}{p:Nat}(hp:p<s.length):alL o l s (p+1)=apL (alL o l s p) (fE o (alL o l s p) (at' s p))∧alW o l s (p+1)=alW o l s p++fE o (alL o l s p) (at' s p):=by
 unfold alL alW alP
 rw[gX hp,List.foldl_append]
 exact⟨rfl,rfl⟩

theorem F1(o:Int)(l:List Sl)(s:List Sp):∀p,p≤s.length→(alL o l s p).length=l.length∧(alW o l s p).length≤p*(l.length+1)
 |0,_=>⟨rfl,Nat.zero_le _⟩
 |p+1,hp=>by
  obtain⟨h1,h2⟩:=F1 o l s p (by omega)
  obtain⟨e1,e2⟩:=uP (o:=o) (l:=l) hp
  have:=s7 o (alL o l s p) (at' s p)
  rw[e1,e2,gk,List.length_append,Nat.succ_mul]
  omega

def alI(o:Int)(l:List Sl)(s:List Sp)(p:Nat):Prop:=
 p≤s.length∧gq o s l=gq o (s.drop p) (alL o l s p)∧(gq o s l=0→gy o s l=alW o l s p++gy o (s.drop p) (alL o l s p))

theorem uQ(o:Int)(l:List Sl)(s:List Sp):alI o l s 0:=⟨Nat.zero_le _,rfl,fun _=>rfl⟩

theorem BU{T:Type}[Inhabited T]{l:List T}{p:Nat}(hp:p<l.length):l.drop p=at' l p::l.drop (p+1):=by
 rw[List.drop_eq_getElem_cons hp]
 congr 1
 exact (Option.some.inj ((eZ hp).symm.trans (List.getElem?_eq_getElem hp))).symm

theorem KL{o:Int}{l:List Sl}{s:List Sp}{p:Nat}(h:alI o l s p)(hp:p<s.length)(he:gG o (alL o l s p) (at' s p)=0):alI o l s (p+1):=by
 obtain⟨_,h1,h2⟩:=h
 obtain⟨e1,e2⟩:=uP (o:=o) (l:=l) hp
 rw[BU hp] at h1 h2
 rw[gq,if_pos he,←e1] at h1
 refine⟨hp,h1,fun h0=> ?_⟩
 rw[h2 h0,gy,←e1,if_pos ⟨he,h1▸h0⟩,e2,List.append_assoc]

theorem KK{o:Int}{l:List Sl}{s:List Sp}{p:Nat}(h:alI o l s p)(hp:p<s.length)(he:gG o (alL o l s p) (at' s p)≠0):gq o s l=gG o (alL o l s p) (at' s p)∧gy o s l=[]:=by
 obtain⟨_,h1,h2⟩:=h
 rw[BU hp,gq,if_neg he] at h1
 exact⟨h1,CD (h1▸he)⟩

theorem F2{o:Int}{l:List Sl}{s:List Sp}(h:alI o l s s.length):gq o s l=0∧gy o s l=alW o l s s.length:=by
 obtain⟨_,h1,h2⟩:=h
 rw[List.drop_length] at h1 h2
 refine⟨h1, ?_⟩
 rw[h2 h1]
 exact List.append_nil _

def tR:List Arg→(Res→Prop)→Prop
 | [.row r_l, .v (.agg [.w64 v, .w64 w, .w64 m, .w64 n, .int .i64 k, .int .i64 j])],R=>r_l=(deS r_l).map slE∧(deS r_l).length≤1000000∧R (.v (.bool (hsS (deS r_l) ⟨v,w,m,n,k,j⟩ (deS r_l).length)))
 |_,_=>False

def yt:List Arg→(Res→Prop)→Prop
 | [.row r_l, .v (.agg [.w64 v, .w64 w, .w64 m, .w64 n, .int .i64 k, .int .i64 j]), .v (.agg [.bool o, .w64 c, .w64 d, .w64 p, .w64 q, .int .i64 s, .int .i64 t])],R=>r_l=(deS r_l).map slE∧(deS r_l).length≤1000000∧
   R (.vrow 48 8 ((rwS (deS r_l) ⟨v,w,m,n,k,j⟩ ⟨o,⟨c,d,p,q,s,t⟩⟩ (deS r_l).length).map wrE))
 |_,_=>False

def yZ(l:List Sl)(x:En)(p:Nat):St:=⟨[.vsl 0 0 (l.map slE).length, .any, .any, .ptr 1 0 0 true, .any, .any, .any, .int .i64 (l.map slE).length, .int .i64 p, .any, .any, .any, .any, .any, .any, .any, .any],[Ak l,some ⟨true,44,6,true,[enE x]⟩]⟩
def OS:Modes:=⟨[1,0,0,1,0,0,0,1,2,0,0,0,0,0,0,0,0],[],[],[],[]⟩
def Qh:Modes:=⟨[1,0,0,1,0,0,0,1,1,0,0,0,0,0,0,0,0],[],[],[],[]⟩
def OT:Modes:=⟨[0,0,0,0,2,0,0,0,0,0,0,0,0,0,0,0,0],[],[],[],[]⟩
def Nd(l:List Sl)(x:En):List Hint:=[.linv _ 0 (yZ l x) (fun p=>p≤l.length∧hsS l x p=false) (fun p=>l.length+1-p) OS Qh OT (fun _=>[]) fun p=>
 [.fork [.dy, .cell (.bool (at' l p).ok), .fork [.cell (enE (at' l p).e), .fork [] [.nw]] [.nw]] []]]

def lH(l:List Sl)(x:En)(s:Sl)(p:Nat):St:=⟨[.vsl 0 0 (l.map slE).length, .any, .any, .any, .ptr 1 0 0 true, .ptr 2 0 0 true, .any, .vsl 3 0 (rwS l x s p).length, .any, .any, .int .i64 (l.map slE).length, .int .i64 p, .any, .any, .any, .any, .any, .any, .any, .any, .any, .any, .any, .any, .any, .any, .any, .any, .any, .any, .any, .any, .any, .any, .any],[Ak l,some ⟨true,44,6,true,[enE x]⟩,some ⟨true,46,7,true,[slE s]⟩,some ⟨true,48,8,true,ii (rwS l x s p)⟩]⟩
def NK:Modes:=⟨[1,0,0,0,1,1,0,1,0,0,1,2,0,0,0,0,0,0,0,0,0,0,0,0,0,0,0,0,0,0,0,0,0,0,0],[],[],[],[(7,48,8)]⟩
def PA:Modes:=⟨[1,0,0,0,1,1,0,1,0,0,1,1,0,0,0,0,0,0,0,0,0,0,0,0,0,0,0,0,0,0,0,0,0,0,0],[],[],[],[]⟩
def NL:Modes:=⟨[0,0,0,0,0,0,0,1,0,0,0,0,0,0,0,0,0,0,0,0,0,0,0,0,0,0,0,0,0,0,0,0,0,0,0],[],[],[],[]⟩
def ML(l:List Sl)(x:En)(s:Sl):List Hint:=[.linv _ 0 (lH l x s) (fun p=>p≤l.length) (fun p=>l.length+1-p) NK PA NL (fun _=>[]) fun p=>
 [.fork [.dy, .cell (.bool (at' l p).ok), .fork [.cell (enE (at' l p).e), .fork [.dy, .cell (slE (at' l p)), .fork [.rows (ii (rwS l x s (p+1))), .nw] [.nw]] [.nw]] [.nw]] []]]

def MN(s:List Sp):Option Blk:=some ⟨false,88,7,true,s.map spE⟩
def Qo(o:Int)(l:List Sl)(s:List Sp):St:=
 ⟨[.int .i64 o, .vsl 0 0 (l.map slE).length, .any, .any, .any, .any, .any, .any, .vsl 2 0 0, .any, .any, .any, .any, .vsl 1 0 (s.map spE).length, .int .i64 (s.map spE).length, .int .i64 0, .any, .any, .any, .any, .any, .any, .any, .any, .any, .any, .any, .any, .any, .any, .any, .any, .any, .any, .any, .any, .any],[Ak l,MN s,some ⟨true,48,8,true,[]⟩]⟩
def EI(o:Int)(l:List Sl)(s:List Sp)(p:Nat):St:=
 ⟨[.int .i64 o, .vsl 2 0 ((alL o l s p).map slE).length, .any, .any, .any, .any, .any, .any, .vsl 3 0 (alW o l s p).length, .any, .any, .any, .any, .vsl 1 0 (s.map spE).length, .int .i64 (s.map spE).length, .int .i64 p, .any, .any, .any, .any, .any, .any, .any, .any, .any, .any, .any, .any, .any, .any, .any, .any, .any, .any, .any, .any, .any],[Ak l,MN s,some ⟨true,46,7,true,(alL o l s p).map slE⟩,some ⟨true,48,8,true,ii (alW o l s p)⟩]⟩
def O3:Modes:=⟨[1,1,0,0,0,0,0,0,1,0,0,0,0,1,1,2,0,0,0,0,0,0,0,0,0,0,0,0,0,0,0,0,0,0,0,0,0],[],[],[],[(8,48,8)]⟩
def Qp:Modes:=⟨[1,1,0,0,0,0,0,0,1,0,0,0,0,1,1,1,0,0,0,0,0,0,0,0,0,0,0,0,0,0,0,0,0,0,0,0,0],[],[],[],[]⟩
def O4:Modes:=⟨[0,0,0,0,0,0,1,1,1,0,0,0,0,0,0,0,0,0,0,0,0,0,0,0,0,0,0,0,0,0,0,0,0,0,0,0,0],[],[],[],[]⟩
def Nk(o:Int)(l:List Sl)(s:List Sp)(p:Nat):List Hint:=[.fork [.dy, .cell (spE (at' s p)), .fork [] [.nm ((alL o l s (p+1)).map slE), .rows (ii (alW o l s (p+1))), .nw]] []]
def Nl(o:Int)(l:List Sl)(s:List Sp):List Hint:=[.linw Unit Nat () (fun _=>Qo o l s) (EI o l s) (fun _=>True) (alI o l s) (fun _=>s.length+1) (fun p=>s.length+1-p) O3 Qp O4 (fun _=>[]) (fun _=>[]) (fun _=>Nk o l s 0) (Nk o l s)]

def kA(l:List Sl)(p:Nat):St:=⟨[.vsl 0 0 (l.map slE).length, .any, .any, .vsl 1 0 (twW l p).length, .any, .any, .vsl 0 0 (l.map slE).length, .int .i64 (l.map slE).length, .int .i64 p, .any, .any, .any, .any, .any, .any, .any, .any, .any, .any, .any, .any, .any, .any, .any, .any, .any, .any, .any, .any, .any, .any],[Ak l,some ⟨true,48,8,true,ii (twW l p)⟩]⟩
def NA:Modes:=⟨[1,0,0,1,0,0,1,1,2,0,0,0,0,0,0,0,0,0,0,0,0,0,0,0,0,0,0,0,0,0,0],[],[],[],[(3,48,8)]⟩
def Pu:Modes:=⟨[1,0,0,1,0,0,1,1,1,0,0,0,0,0,0,0,0,0,0,0,0,0,0,0,0,0,0,0,0,0,0],[],[],[],[]⟩
def NB:Modes:=⟨[0,0,0,1,0,0,0,0,0,0,0,0,0,0,0,0,0,0,0,0,0,0,0,0,0,0,0,0,0,0,0],[],[],[],[]⟩
def MD(l:List Sl):List Hint:=[.linv _ 0 (kA l) (fun p=>p≤l.length) (fun p=>l.length+1-p) NA Pu NB (fun _=>[]) fun p=>
 [.fork [.dy, .cell (slE (at' l p)), .fork [.dy, .dy, .fork [.rows (ii (twW l (p+1))), .nw] [.nw]] [.nw]] []]]

theorem yu(o:Int)(r:AV):run [] Tryz.prog 7 [.int .i64 o] [] [.fork [] [.fork [] []]] (eM (.v r))=
  (((o==(0:Int))=true→AV.bool true=r)∧((o==(0:Int))=false→((o==(1:Int))=true→AV.bool true=r)∧((o==(1:Int))=false→AV.bool false=r))):=by kernel_rfl

theorem ko:eJ Tryz.prog 7 (ey [none] jt):=by
 refine eK fq fun l R hF=> ?_
 unfold jt at hF
 split at hF
 ·rename_i o
  refine⟨_,hF,rfl,[.fork [] [.fork [] []]], ?_⟩
  show run [] Tryz.prog _ [.int .i64 o] [] _ _
  rw[yu]
  unfold isO
  refine⟨fun h=> ?_,fun h=>⟨fun h1=> ?_,fun h1=> ?_⟩⟩
  ·have h:o=0:=by simpa using h
   rw[decide_eq_true h];rfl
  all_goals have h:o≠0:=by simpa using h
  ·have h1:o=1:=by simpa using h1
   rw[decide_eq_true h1,Bool.or_true]
  ·have h1:o≠1:=by simpa using h1
   rw[decide_eq_false h,decide_eq_false h1];rfl
 ·exact hF.elim

noncomputable def lh:List (FuncId×Sx.Spec):=[(58,ey [pSl] mW),
 (60,ey [pSl] pL)]

theorem Bf(o:Int)(l:List Sl)(r:AV):run lh Tryz.prog 16 [.int .i64 o, .vsl 0 0 (l.map slE).length] [some ⟨false,(pSl.getD (0,0)).1,(pSl.getD (0,0)).2,true,(l.map slE)⟩] [.fork [] [.fork [] []]] (eM (.v r))=
  (let d:=List.map slE;let b:=List.length (d l);let a:=List.take (b) (List.drop (0:Nat) (d l));let c:=deS (a);let e:=List.length c≤(1000000:Nat);(((o==(0:Int))=true→(0:Nat)+b≤b∧a=d c∧e∧AV.bool (kpS c)=r)∧((o==(0:Int))=false→((o==(1:Int))=true→(0:Nat)+b≤b∧a=d c∧e∧AV.bool (orE (ensS c))=r)∧((o==(1:Int))=false→AV.bool false=r)))):=by kernel_rfl

theorem yw:∀e∈lh,eJ Tryz.prog e.1 e.2:=by
 intro e he
 simp only[lh,List.mem_cons,List.not_mem_nil,or_false] at he
 rcases he with rfl|rfl
 ·exact oL
 ·exact tM

theorem tL:eJ Tryz.prog 16 (ey [none,pSl] pK):=by
 refine eK (eS (l:=lh) yw mixed noNG) fun l R hF=> ?_
 unfold pK at hF
 split at hF
 ·rename_i o r_l
  obtain⟨hr_l,hl,hF⟩:=hF
  generalize deS r_l=l at hr_l hl hF
  subst hr_l
  refine⟨_,hF,rfl,[.fork [] [.fork [] []]], ?_⟩
  show run lh Tryz.prog _ [.int .i64 o, .vsl 0 0 (l.map slE).length] [some ⟨false,(pSl.getD (0,0)).1,(pSl.getD (0,0)).2,true,(l.map slE)⟩] _ _
  rw[Bf];(conv=>zeta)
  simp only[eT,fG,zLe,true_and,hl]
  unfold kpO
  refine⟨fun h=> ?_,fun h=>⟨fun h1=> ?_,fun h1=> ?_⟩⟩
  ·have h:o=0:=by simpa using h
   rw[if_pos h]
  all_goals have h:o≠0:=by simpa using h
  ·have h1:o=1:=by simpa using h1
   rw[if_neg h,decide_eq_true h1,Bool.true_and]
  ·have h1:o≠1:=by simpa using h1
   rw[if_neg h,decide_eq_false h1,Bool.false_and]
 ·exact hF.elim

noncomputable def iV:List (FuncId×Sx.Spec):=[(59,ey [pSl,none] oN),
 (61,ey [pSl,none] oM)]

theorem vl(o:Int)(l:List Sl)(v w m n:BitVec 64)(k j:Int):run iV Tryz.prog 37 [.int .i64 o, .vsl 0 0 (l.map slE).length, .agg [.w64 v, .w64 w, .w64 m, .w64 n, .int .i64 k, .int .i64 j]] [some ⟨false,(pSl.getD (0,0)).1,(pSl.getD (0,0)).2,true,(l.map slE)⟩] [.fork [] [.fork [] []]] (eM (.many [.vrow 48 8 ((wO o l ⟨v,w,m,n,k,j⟩).map wrE), .v (.int .i64 (eO o l ⟨v,w,m,n,k,j⟩))]))=
  (let i:=List.map slE;let h:=List.map wrE;let f:=AV.int IntKind.i64;let d:=List.length (i l);let c:=Blk.mk true (48:TypeId) (8:Nat) true;let b:=En.mk v w m n k j;let e:=h (wO o l b);let a:=List.take (d) (List.drop (0:Nat) (i l));let g:=deS (a);let p:=List.length g≤(1000000:Nat);(((o==(0:Int))=true→(0:Nat)+d≤d∧a=i g∧p∧(List.length (h (inW g b))=List.length (e)∧some (c (h (inW g b)))=some (c (e)))∧f (inE g b)=f (eO o l b)∧True)∧((o==(0:Int))=false→((o==(1:Int))=true→(0:Nat)+d≤d∧a=i g∧p∧(List.length (h (wC g b))=List.length (e)∧some (c (h (wC g b)))=some (c (e)))∧f (eC g b)=f (eO o l b)∧True)∧((o==(1:Int))=false→e=[]∧f (1:Int)=f (eO o l b)∧True)))):=by kernel_rfl

theorem tN:∀e∈iV,eJ Tryz.prog e.1 e.2:=by
 intro e he
 simp only[iV,List.mem_cons,List.not_mem_nil,or_false] at he
 rcases he with rfl|rfl
 ·exact yB
 ·exact yA

theorem pM:eJ Tryz.prog 37 (ey [none,pSl,none] lT):=by
 refine eK (eS (l:=iV) tN mixed noNG) fun l R hF=> ?_
 unfold lT at hF
 split at hF
 ·rename_i o r_l v w m n k j
  obtain⟨hr_l,hl,hF⟩:=hF
  generalize deS r_l=l at hr_l hl hF
  subst hr_l
  refine⟨_,hF,rfl,[.fork [] [.fork [] []]], ?_⟩
  show run iV Tryz.prog _ [.int .i64 o, .vsl 0 0 (l.map slE).length, .agg [.w64 v, .w64 w, .w64 m, .w64 n, .int .i64 k, .int .i64 j]] [some ⟨false,(pSl.getD (0,0)).1,(pSl.getD (0,0)).2,true,(l.map slE)⟩] _ _
  rw[vl];(conv=>zeta)
  simp only[eT,fG,zLe,true_and,and_true,hl]
  refine⟨fun h=> ?_,fun h=>⟨fun h1=> ?_,fun h1=> ?_⟩⟩
  ·have h:o=0:=by simpa using h
   have e1:wO o l ⟨v,w,m,n,k,j⟩=inW l ⟨v,w,m,n,k,j⟩:=by unfold wO;rw[if_pos h]
   have e2:eO o l ⟨v,w,m,n,k,j⟩=inE l ⟨v,w,m,n,k,j⟩:=by unfold eO;rw[if_pos h]
   rw[e1,e2]
   exact⟨⟨rfl,rfl⟩,rfl⟩
  all_goals have h:o≠0:=by simpa using h
  ·have h1:o=1:=by simpa using h1
   have e1:wO o l ⟨v,w,m,n,k,j⟩=wC l ⟨v,w,m,n,k,j⟩:=by unfold wO;rw[if_neg h,if_pos h1]
   have e2:eO o l ⟨v,w,m,n,k,j⟩=eC l ⟨v,w,m,n,k,j⟩:=by unfold eO;rw[if_neg h,if_pos h1]
   rw[e1,e2]
   exact⟨⟨rfl,rfl⟩,rfl⟩
  ·have h1:o≠1:=by simpa using h1
   have e1:wO o l ⟨v,w,m,n,k,j⟩=[]:=by unfold wO;rw[if_neg h,if_neg h1]
   have e2:eO o l ⟨v,w,m,n,k,j⟩=1:=by unfold eO;rw[if_neg h,if_neg h1]
   rw[e1,e2]
   exact⟨rfl,rfl⟩
 ·exact hF.elim

noncomputable def lk:List (FuncId×Sx.Spec):=[(132,ey [none,none] rR)]

theorem Bs(l:List Sl)(v w m n:BitVec 64)(k j:Int)(r:AV):run lk Tryz.prog 66 [.vsl 0 0 (l.map slE).length, .agg [.w64 v, .w64 w, .w64 m, .w64 n, .int .i64 k, .int .i64 j]] [some ⟨false,(pSl.getD (0,0)).1,(pSl.getD (0,0)).2,true,(l.map slE)⟩] (Nd l ⟨v,w,m,n,k,j⟩) (eM (.v r))=
  (let C:=(0:Int);let B:=AV.w64;let y:=(1:Nat);let s:=List.length l;let q:=AV.any;let o:=En.mk v w m n k j;let i:=(0:Nat);let F:=AV.ptr (i+y) i i true;let h:=AV.int IntKind.i64;let x:=[AV.agg [B v,B w,B m,B n,h k,h j]];let g:=List.length (List.map slE l);let z:=(↑g:Int);let f:=Blk.mk false (46:TypeId) (7:Nat) true (List.map slE l);((St.mk [AV.vsl i i g,q,q,F,q,q,q,h z,h C,q,q,q,q,q,q,q,q] [some f,some (Blk.mk true (44:Nat) (6:Nat) true x)]=yZ l o i∧i≤s∧hsS l o i=false)∧∀(a:Nat),let D:=at' l a;let u:=(↑a:Int);let E:=Decidable.decide (u<z);let A:=inRange IntKind.i64 (u+(1:Int));let e:=Sl.e D;let t:=alE (En.mk e.1 e.2 e.3 e.4 e.5 C) (En.mk v w m n k C);let d:=St.mk [AV.vsl i i g,q,q,F,q,q,q,h z,h (u+(1:Int)),q,q,q,q,q,q,q,q] [some f,some (Blk.mk true (44:TypeId) (6:Nat) true x)];a≤s∧hsS l o a=false→(E=true→(C≤u∧u<z)∧Blk.read Proofs.Tryz.prog f (4:Nat) (i+Int.toNat u) (i+i)=some (AV.bool D.1)∧(D.1=true→Blk.read Proofs.Tryz.prog f (44:Nat) (i+Int.toNat u) (i+y)=some (AV.agg [B e.1,B e.2,B e.3,B e.4,h e.5,h e.6])∧(t=true→AV.bool true=r)∧(t=false→A∧∃(b:Nat),d=yZ l o b∧(b≤s∧hsS l o b=false)∧s+y-b<s+y-a))∧(D.1=false→A∧∃(c:Nat),d=yZ l o c∧(c≤s∧hsS l o c=false)∧s+y-c<s+y-a))∧(E=false→AV.bool false=r))):=by kernel_rfl

theorem yE:∀e∈lk,eJ Tryz.prog e.1 e.2:=by
 intro e he
 simp only[lk,List.mem_cons,List.not_mem_nil,or_false] at he
 rcases he with rfl
 ·exact wn

theorem D6:eJ Tryz.prog 66 (ey [pSl,none] tR):=by
 refine eK (eS (l:=lk) yE mixed noNG) fun l R hF=> ?_
 unfold tR at hF
 split at hF
 ·rename_i r_l v w m n k j
  obtain⟨hr_l,hl,hF⟩:=hF
  generalize deS r_l=l at hr_l hl hF
  subst hr_l
  refine⟨_,hF,rfl,(Nd l ⟨v,w,m,n,k,j⟩), ?_⟩
  show run lk Tryz.prog _ [.vsl 0 0 (l.map slE).length, .agg [.w64 v, .w64 w, .w64 m, .w64 n, .int .i64 k, .int .i64 j]] [some ⟨false,(pSl.getD (0,0)).1,(pSl.getD (0,0)).2,true,(l.map slE)⟩] _ _
  rw[Bs];(conv=>zeta)
  refine⟨⟨rfl,Nat.zero_le _,rfl⟩, ?_⟩
  rintro p ⟨hp0,hI⟩
  have nx:=Jy l ⟨v,w,m,n,k,j⟩ p
  rw[hI,Bool.false_or] at nx
  refine⟨fun hlt=> ?_,fun hge=> ?_⟩
  ·have hp:p<l.length:=by simp only[decide_eq_true_eq,List.length_map] at hlt;omega
   have B:0≤(p:Int)∧(p:Int)< ((l.map slE).length:Int):=by rw[List.length_map];omega
   have i1:inRange .i64 ((p:Int)+1):=inR (by omega) (by omega)
   refine⟨B,eL B.1 B.2 (zR _),fun ho=>⟨eL B.1 B.2 (xr _),fun ha=> ?_,fun ha=>⟨i1,p+1,rfl,⟨hp, ?_⟩,by omega⟩⟩,fun ho=>⟨i1,p+1,rfl,⟨hp, ?_⟩,by omega⟩⟩
   ·have ho:(at' l p).ok=true:=ho
    have ha:alE (at' l p).e ⟨v,w,m,n,k,j⟩=true:=ha
    rw[ho,ha] at nx
    rw[Jz nx hp]
   ·have ha:alE (at' l p).e ⟨v,w,m,n,k,j⟩=false:=ha
    rw[nx,ha,Bool.and_false]
   ·have ho:(at' l p).ok=false:=ho
    rw[nx,ho,Bool.false_and]
  ·have hp:p=l.length:=by simp only[decide_eq_false_iff_not,List.length_map] at hge;omega
   subst hp
   rw[hI]
 ·exact hF.elim

noncomputable def mU:List (FuncId×Sx.Spec):=[(132,ey [none,none] rR)]

theorem DN(l:List Sl)(v w m n:BitVec 64)(k j:Int)(o:Bool)(c d p q:BitVec 64)(s t:Int)(es:List AV):run mU Tryz.prog 65 [.vsl 0 0 (l.map slE).length, .agg [.w64 v, .w64 w, .w64 m, .w64 n, .int .i64 k, .int .i64 j], .agg [.bool o, .w64 c, .w64 d, .w64 p, .w64 q, .int .i64 s, .int .i64 t]] [some ⟨false,(pSl.getD (0,0)).1,(pSl.getD (0,0)).2,true,(l.map slE)⟩] (ML l ⟨v,w,m,n,k,j⟩ ⟨o,⟨c,d,p,q,s,t⟩⟩) (eM (.vrow 48 8 es))=
  (let aa:=En.mk v w m n k;let Y:=Sl.mk o (En.mk c d p q s t);let X:=(0:Int);let O:=Blk.mk true;let H:=O (48:TypeId) (8:Nat) true;let F:=List.length l;let E:=AV.w64;let D:=(1:Nat);let C:=lH l (aa j) Y;let A:=List.length (List.map slE l);let R:=(↑A:Int);let z:=(0:Nat);let ab:=AV.vsl (z+D+D+D) z;let S:=AV.ptr (z+D) z z true;let Q:=AV.ptr (z+D+D) z z true;let y:=AV.any;let x:=Blk.mk false (46:TypeId) (7:Nat) true (List.map slE l);let r:=AV.int IntKind.i64;let T:=[AV.agg [E v,E w,E m,E n,r k,r j]];let M:=O (44:TypeId) (6:Nat) true T;let K:=[AV.agg [AV.bool o,E c,E d,E p,E q,r s,r t]];let V:=O (46:TypeId) (7:Nat) true K;let B:=[some x,some (O (44:Nat) (6:Nat) true T),some (O (46:Nat) (7:Nat) true K)];let i:=rwS l (aa j) Y;((St.mk [AV.vsl z z A,y,y,y,S,Q,y,AV.vsl (List.length B) z z,y,y,r R,r X,y,y,y,y,y,y,y,y,y,y,y,y,y,y,y,y,y,y,y,y,y,y,y] (B++[some (H [])])=C z∧Nat.le z (F))∧∀(a:Nat),let U:=at' l a;let L:=List.length (i a);let G:=(↑a:Int);let ac:=Decidable.decide (G<R);let Z:=G+(1:Int);let W:=z+Int.toNat G;let P:=[AV.agg [r G,AV.bool o,E c,E d,E p,E q,r s,r t]];let J:=inRange IntKind.i64 Z;let u:=Sl.e U;let N:=alE (En.mk u.1 u.2 u.3 u.4 u.5 X) (aa X);let I:= !(U.1==o&&(u.1==c&&u.2==d&&(u.3==p&&u.4==q)&&(u.5==s&&u.6==t)));let h:=St.mk [AV.vsl z z A,y,y,y,S,Q,y,ab (L),y,y,r R,r Z,y,y,y,y,y,y,y,y,y,y,y,y,y,y,y,y,y,y,y,y,y,y,y] [some x,some M,some V,some (H (ii (i a)))];Nat.le a (F)→(ac=true→(X≤G∧G<R)∧Blk.read Proofs.Tryz.prog x (4:Nat) W (z+z)=some (AV.bool U.1)∧(U.1=true→Blk.read Proofs.Tryz.prog x (44:Nat) W (z+D)=some (AV.agg [E u.1,E u.2,E u.3,E u.4,r u.5,r u.6])∧(N=true→(X≤G∧G<R)∧Blk.read Proofs.Tryz.prog x (46:Nat) W z=some (AV.agg [AV.bool U.1,E u.1,E u.2,E u.3,E u.4,r u.5,r u.6])∧(I=true→((L+D)*(64:Nat)≤(140737488355328:Nat)∧L+D≤(9223372036854775807:Nat)∧z+D≤List.length P∧L≤List.length (List.map wrE (i a)))∧List.take (L) (List.map wrE (i a))++P=ii (i (a+D))∧J∧∃(b:Nat),St.mk [AV.vsl z z A,y,y,y,S,Q,y,ab (L+D),y,y,r R,r Z,y,y,y,y,y,y,y,y,y,y,y,y,y,y,y,y,y,y,y,y,y,y,y] [some x,some M,some V,some (O (48:Nat) (8:Nat) true (ii (i (a+D))))]=C b∧Nat.le b (F)∧F+D-b<F+D-a)∧(I=false→J∧∃(e:Nat),h=C e∧Nat.le e (F)∧F+D-e<F+D-a))∧(N=false→J∧∃(f:Nat),h=C f∧Nat.le f (F)∧F+D-f<F+D-a))∧(U.1=false→J∧∃(g:Nat),h=C g∧Nat.le g (F)∧F+D-g<F+D-a))∧(ac=false→L=List.length es∧some (H (ii (i a)))=some (H es)))):=by kernel_rfl

theorem A7:∀e∈mU,eJ Tryz.prog e.1 e.2:=by
 intro e he
 simp only[mU,List.mem_cons,List.not_mem_nil,or_false] at he
 rcases he with rfl
 ·exact wn

theorem G4:eJ Tryz.prog 65 (ey [pSl,none,none] yt):=by
 refine eK (eS (l:=mU) A7 mixed noNG) fun l R hF=> ?_
 unfold yt at hF
 split at hF
 ·rename_i r_l v w m n k j o c d p q s t
  obtain⟨hr_l,hl,hF⟩:=hF
  generalize deS r_l=l at hr_l hl hF
  subst hr_l
  refine⟨_,hF,trivial,(ML l ⟨v,w,m,n,k,j⟩ ⟨o,⟨c,d,p,q,s,t⟩⟩), ?_⟩
  show run mU Tryz.prog _ [.vsl 0 0 (l.map slE).length, .agg [.w64 v, .w64 w, .w64 m, .w64 n, .int .i64 k, .int .i64 j], .agg [.bool o, .w64 c, .w64 d, .w64 p, .w64 q, .int .i64 s, .int .i64 t]] [some ⟨false,(pSl.getD (0,0)).1,(pSl.getD (0,0)).2,true,(l.map slE)⟩] _ _
  rw[DN];(conv=>zeta)
  generalize hx:(⟨v,w,m,n,k,j⟩:En)=x
  generalize hy:(⟨o,⟨c,d,p,q,s,t⟩⟩:Sl)=y
  have lW:∀L:List Wr,(List.map wrE L).length=L.length:=fun L=>List.length_map _
  refine⟨⟨by unfold lH;rw[←hx,←hy];rfl,Nat.zero_le _⟩, ?_⟩
  intro i (hi0:i≤l.length)
  refine⟨fun hlt=> ?_,fun hge=> ?_⟩
  ·have hi:i<l.length:=by simp only[decide_eq_true_eq,List.length_map] at hlt;omega
   have B:0≤(i:Int)∧(i:Int)< ((l.map slE).length:Int):=by rw[List.length_map];omega
   have i1:inRange .i64 ((i:Int)+1):=inR (by omega) (by omega)
   have tl:=sC l x y i
   have g1:rwS l x y (i+1)=rwS l x y i++if (at' l i).ok&&alE (at' l i).e x&&decide (at' l i≠y) then [⟨i,y⟩] else []:=rfl
   have he:((at' l i).ok==o&&((at' l i).e.v==c&&(at' l i).e.w==d&&((at' l i).e.m==p&&(at' l i).e.n==q)&&((at' l i).e.len==s&&(at' l i).e.act==t)))=decide (at' l i=y):=by rw[←hy];exact Qd (x:=at' l i) (y:=⟨o,⟨c,d,p,q,s,t⟩⟩)
   rw[he]
   have stay:∀{T:St},((at' l i).ok&&alE (at' l i).e x&&decide (at' l i≠y))=false→(rwS l x y (i+1)=rwS l x y i→T=lH l x y (i+1))→∃p':Nat,T=lH l x y p'∧Nat.le p' l.length∧l.length+1-p'<l.length+1-i:=fun h h'=>⟨i+1,h' (by rw[g1,h];exact List.append_nil _),hi,by omega⟩
   refine⟨B,eL B.1 B.2 (zR _),fun ho=>⟨eL B.1 B.2 (xr _),fun ha=>⟨B,eL B.1 B.2 (fX _),fun hn=> ?_,fun hn=>⟨i1,stay ?_ fun h=> ?_⟩⟩,fun ha=>⟨i1,stay ?_ fun h=> ?_⟩⟩,fun ho=>⟨i1,stay ?_ fun h=> ?_⟩⟩
   ·have ho:(at' l i).ok=true:=ho
    have ha:alE (at' l i).e x=true:=by rw[←hx];exact ha
    have hn:at' l i≠y:=by simpa using hn
    rw[ho,ha,decide_eq_true hn] at g1
    have g1:rwS l x y (i+1)=rwS l x y i++[⟨i,y⟩]:=g1
    refine⟨⟨by omega,by omega,Nat.le_refl _,by rw[lW];exact Nat.le_refl _⟩, ?_,i1,i+1, ?_,hi,by omega⟩
    ·rw[List.take_of_length_le (by rw[lW];exact Nat.le_refl _),g1]
     show _=List.map wrE _
     rw[List.map_append,←hy];rfl
    ·unfold lH
     rw[g1,List.length_append,←hx,←hy];rfl
   ·have hn:at' l i=y:=by simpa using hn
    rw[decide_eq_false fun h=>h hn,Bool.and_false]
   ·unfold lH
    rw[h,←hx,←hy];rfl
   ·have ha:alE (at' l i).e x=false:=by rw[←hx];exact ha
    rw[ha,Bool.and_false,Bool.false_and]
   ·unfold lH
    rw[h,←hx,←hy];rfl
   ·have ho:(at' l i).ok=false:=ho
    rw[ho,Bool.false_and,Bool.false_and]
   ·unfold lH
    rw[h,←hx,←hy];rfl
  ·have hi:i=l.length:=by simp only[decide_eq_false_iff_not,List.length_map] at hge;omega
   subst hi
   exact⟨(lW _).symm,rfl⟩
 ·exact hF.elim

noncomputable def mV:List (FuncId×Sx.Spec):=[(7,ey [none] jt),
 (64,ey [none] nW),
 (37,ey [none,pSl,none] lT),
 (65,ey [pSl,none,none] yt)]

theorem DP(o:Int)(l:List Sl)(i:Int)(v w m n:BitVec 64)(k j:Int):run mV Tryz.prog 32 [.int .i64 o, .vsl 0 0 (l.map slE).length, .agg [.int .i64 i, .w64 v, .w64 w, .w64 m, .w64 n, .int .i64 k, .int .i64 j]] [some ⟨false,(pSl.getD (0,0)).1,(pSl.getD (0,0)).2,true,(l.map slE)⟩] [.fork [] [.fork [] [.fork [] [.fork [] [.fork [] []]]]]] (eM (.many [.vrow 48 8 ((fE o l ⟨i,v,w,m,n,k,j⟩).map wrE), .v (.int .i64 (gG o l ⟨i,v,w,m,n,k,j⟩))]))=
  (let z:=(1:Int);let x:=List.map wrE;let u:=List.map slE;let t:=(0:Int);let q:=AV.int IntKind.i64;let h:=BitVec.ofInt (64:Nat) t;let g:=List.length (u l);let y:=(0:Nat)+g≤g;let f:=Blk.mk true (48:TypeId) (8:Nat) true;let b:=En.mk v w m n k j;let e:=q (gG o l (Sp.mk i b));let c:=x (fE o l (Sp.mk i b));let A:=List.length (c);let a:=List.take (g) (List.drop (0:Nat) (u l));let p:=deS (a);let B:=List.length p;let s:=x (rwS p b (Sl.mk true b) (B));let r:=B≤(1000000:Nat);let d:=x (rwS p b (Sl.mk false (En.mk h h h h t t)) (B));(((!isO o)=true→c=[]∧q z=e∧True)∧((!isO o)=false→((!rtE b)=true→c=[]∧q z=e∧True)∧((!rtE b)=false→((i==t)=true→y∧a=u p∧r∧(List.length (x (wO o p b))=A∧some (f (x (wO o p b)))=some (f (c)))∧q (eO o p b)=e∧True)∧((i==t)=false→((i==z)=true→y∧a=u p∧r∧(List.length s=A∧some (f s)=some (f (c)))∧q t=e∧True)∧((i==z)=false→((i==(2:Int))=true→y∧a=u p∧r∧(List.length d=A∧some (f d)=some (f (c)))∧q t=e∧True)∧((i==(2:Int))=false→c=[]∧q z=e∧True))))))):=by kernel_rfl

theorem Ba:∀e∈mV,eJ Tryz.prog e.1 e.2:=by
 intro e he
 simp only[mV,List.mem_cons,List.not_mem_nil,or_false] at he
 rcases he with rfl|rfl|rfl|rfl
 ·exact ko
 ·exact nV
 ·exact pM
 ·exact G4

theorem wj:eJ Tryz.prog 32 (ey [none,pSl,none] rM):=by
 refine eK (eS (l:=mV) Ba mixed noNG) fun l R hF=> ?_
 unfold rM at hF
 split at hF
 ·rename_i o r_l i v w m n k j
  obtain⟨hr_l,hl,hF⟩:=hF
  generalize deS r_l=l at hr_l hl hF
  subst hr_l
  refine⟨_,hF,rfl,[.fork [] [.fork [] [.fork [] [.fork [] [.fork [] []]]]]], ?_⟩
  show run mV Tryz.prog _ [.int .i64 o, .vsl 0 0 (l.map slE).length, .agg [.int .i64 i, .w64 v, .w64 w, .w64 m, .w64 n, .int .i64 k, .int .i64 j]] [some ⟨false,(pSl.getD (0,0)).1,(pSl.getD (0,0)).2,true,(l.map slE)⟩] _ _
  rw[DP];(conv=>zeta)
  generalize hx:(⟨v,w,m,n,k,j⟩:En)=x
  simp only[eT,fG,zLe,true_and,and_true,eq_self,hl]
  have bad:okP o ⟨i,x⟩=false→(List.map wrE (fE o l ⟨i,x⟩)=[]∧AV.int .i64 1=AV.int .i64 (gG o l ⟨i,x⟩)):=fun h=>by
   unfold fE gG
   rw[h];exact⟨rfl,rfl⟩
  refine⟨fun h1=>bad ?_,fun h1=>⟨fun h5=>bad ?_,fun h5=> ?_⟩⟩
  ·unfold okP
   rw[show isO o=false from kg h1];rfl
  ·unfold okP
   rw[show rtE x=false from kg h5,Bool.and_false]
  have h1:isO o=true:=iR h1
  have h5:rtE x=true:=iR h5
  have good:i=0∨i=1∨i=2→okP o ⟨i,x⟩=true:=fun h=>ta h1 h5 h
  refine⟨fun h6=> ?_,fun h6=>⟨fun h7=> ?_,fun h7=>⟨fun h8=> ?_,fun h8=>bad ?_⟩⟩⟩
  ·have h6:i=0:=by simpa using h6
   have eW:fE o l ⟨i,x⟩=wO o l x:=by unfold fE;rw[if_pos (good (.inl h6)),if_pos h6]
   have eE:gG o l ⟨i,x⟩=eO o l x:=by unfold gG;rw[if_pos (good (.inl h6)),if_pos h6]
   rw[eW,eE]
   exact⟨⟨rfl,rfl⟩,rfl⟩
  all_goals have h6:i≠0:=by simpa using h6
  ·have h7:i=1:=by simpa using h7
   have eW:fE o l ⟨i,x⟩=tcW l ⟨i,x⟩ l.length:=by unfold fE;rw[if_pos (good (.inr (.inl h7))),if_neg h6]
   have eE:gG o l ⟨i,x⟩=0:=by unfold gG;rw[if_pos (good (.inr (.inl h7))),if_neg h6]
   rw[eW,eE,h7,←ET]
   exact⟨⟨rfl,rfl⟩,rfl⟩
  all_goals have h7:i≠1:=by simpa using h7
  ·have h8:i=2:=by simpa using h8
   have eW:fE o l ⟨i,x⟩=tcW l ⟨i,x⟩ l.length:=by unfold fE;rw[if_pos (good (.inr (.inr h8))),if_neg h6]
   have eE:gG o l ⟨i,x⟩=0:=by unfold gG;rw[if_pos (good (.inr (.inr h8))),if_neg h6]
   rw[eW,eE,h8,←zY]
   exact⟨⟨rfl,rfl⟩,rfl⟩
  ·have h8:i≠2:=by simpa using h8
   unfold okP
   have:(decide (0≤(Sp.mk i x).k)&&decide ((Sp.mk i x).k≤2))=false:=by
    rw[Bool.and_eq_false_iff,decide_eq_false_iff_not,decide_eq_false_iff_not]
    show¬0≤i∨¬i≤2
    omega
   rw[this,Bool.and_false,Bool.false_and]
 ·exact hF.elim

noncomputable def nb:List (FuncId×Sx.Spec):=[(32,ey [none,pSl,none] rM),
 (14,ey [pSl,pWr] na)]

theorem Eb(o:Int)(l:List Sl)(s:List Sp):run nb Tryz.prog 11 [.int .i64 o, .vsl 0 0 (l.map slE).length, .vsl 1 0 (s.map spE).length] [some ⟨false,(pSl.getD (0,0)).1,(pSl.getD (0,0)).2,true,(l.map slE)⟩,some ⟨false,(pSp.getD (0,0)).1,(pSp.getD (0,0)).2,true,(s.map spE)⟩] (Nl o l s) (eM (.many [.vrow 48 8 ((gy o s l).map wrE), .v (.int .i64 (gq o s l))]))=
  (let ah:=(140737488355328:Nat);let af:=(1:Int);let ad:=(9223372036854775807:Nat);let ac:=AV.w64;let aa:=Blk.mk true (48:Nat) (8:Nat) true;let Z:=Blk.mk true (46:TypeId) (7:Nat) true;let X:=AV.vsl;let V:=gy o s l;let U:=(1000000:Nat);let T:=alW o l s;let R:=gq o s l;let K:=List.length s;let G:=alL o l s;let F:=(0:Int);let C:=List.map wrE;let z:=Blk.mk true (48:TypeId) (8:Nat) true;let x:=(1:Nat);let w:=List.map slE;let L:=List.length (w l);let y:=Blk.mk false (46:TypeId) (7:Nat) true (w l);let u:=Blk.mk false (88:TypeId) (7:Nat) true (List.map spE s);let t:=List.length (List.map spE s);let P:=(↑t:Int);let ak:=Decidable.decide (F<P);let r:=AV.int IntKind.i64;let p:=(0:Nat);let ae:=at' s p;let Y:=p+x;let n:=AV.any;let k:=Sp.e ae;let D:=Sp.mk ae.1 (En.mk k.1 k.2 k.3 k.4 k.5 k.6);let h:=List.take (L) (List.drop p (w l));let Q:=deS (h);let I:=C (fE o Q (Sp.mk (Sp.k ae) (En.mk (En.v k) (En.w k) (En.m k) (En.n k) (En.len k) (En.act k))));let f:=St.mk [r o,X p p (L),n,n,n,n,n,n,X (2:Nat) p p,n,n,n,n,X x p t,r P,r F,n,n,n,n,n,n,n,n,n,n,n,n,n,n,n,n,n,n,n,n,n] [some y,some u,some (z [])];let d:=C (fE o Q D);let M:=List.length d;let A:=List.take (M) (List.drop p d);let ag:=deW (A);let i:=St.mk [r o,X (p+x+x) p (List.length (w (G Y))),n,n,n,n,n,n,X (p+x+x+x) p (p+M),n,n,n,n,X Y p t,r P,r (F+af),n,n,n,n,n,n,n,n,n,n,n,n,n,n,n,n,n,n,n,n,n] [some y,some u,some (Z (w (G Y))),some (aa (ii (T Y)))];((St.mk [r o,X p p (L),n,n,n,n,n,n,X (List.length [some y,some u]) p p,n,n,n,n,X Y p t,r P,r F,n,n,n,n,n,n,n,n,n,n,n,n,n,n,n,n,n,n,n,n,n] ([some y,some u]++[some (z [])])=f∧True)∧(∀(_:Unit),True→(ak=true→(F≤F∧F<P)∧Blk.read Proofs.Tryz.prog u (88:Nat) (p+Int.toNat F) p=some (AV.agg [r ae.1,ac k.1,ac k.2,ac k.3,ac k.4,r k.5,r k.6])∧p+L≤L∧h=w Q∧List.length Q≤U∧((gG o Q D !=F)=true→C (V)=[]∧r (gG o Q D)=r (R)∧True)∧((gG o Q D !=F)=false→p+L≤L∧p+M≤M∧h=w Q∧List.length Q≤U∧A=C ag∧List.length ag≤U∧(w (apL Q ag)=w (G Y)∧List.length (w (apL Q ag))=List.length (w (G Y)))∧((p+M)*(64:Nat)≤ah∧p+M≤ad∧p+M≤List.length I∧p≤List.length ([]:List AV))∧[]++List.take (M) (List.drop p I)=ii (T Y)∧inRange IntKind.i64 (F+af)∧((∃(_:Unit),i=f∧True∧K+x<K+x)∨∃(a:Nat),i=EI o l s a∧(a≤K∧R=gq o (List.drop a s) (G a)∧(R=F→V=T a++gy o (List.drop a s) (G a)))∧K+x-a<K+x)))∧(ak=false→(p=List.length (C (V))∧some (z [])=some (z (C (V))))∧r F=r (R)∧True))∧∀(b:Nat),let ai:=at' s b;let ab:=w (G (b+x));let W:=(↑b:Int);let al:=Decidable.decide (W<P);let O:=List.length (w (G b));let H:=List.length (T b);let m:=Sp.e ai;let E:=Sp.mk ai.1 (En.mk m.1 m.2 m.3 m.4 m.5 m.6);let g:=List.take (O) (List.drop p (w (G b)));let S:=deS (g);let J:=C (fE o S (Sp.mk (Sp.k ai) (En.mk (En.v m) (En.w m) (En.m m) (En.n m) (En.len m) (En.act m))));let e:=C (fE o S E);let N:=List.length e;let B:=List.take (N) (List.drop p e);let aj:=deW (B);let j:=St.mk [r o,X (p+x+x) p (List.length (ab)),n,n,n,n,n,n,X (p+x+x+x) p (H+N),n,n,n,n,X Y p t,r P,r (W+af),n,n,n,n,n,n,n,n,n,n,n,n,n,n,n,n,n,n,n,n,n] [some y,some u,some (Z (ab)),some (aa (ii (T (b+x))))];b≤K∧R=gq o (List.drop b s) (G b)∧(R=F→V=T b++gy o (List.drop b s) (G b))→(al=true→(F≤W∧W<P)∧Blk.read Proofs.Tryz.prog u (88:Nat) (p+Int.toNat W) p=some (AV.agg [r ai.1,ac m.1,ac m.2,ac m.3,ac m.4,r m.5,r m.6])∧p+O≤O∧g=w S∧List.length S≤U∧((gG o S E !=F)=true→C (V)=[]∧r (gG o S E)=r (R)∧True)∧((gG o S E !=F)=false→p+O≤O∧p+N≤N∧g=w S∧List.length S≤U∧B=C aj∧List.length aj≤U∧(w (apL S aj)=ab∧List.length (w (apL S aj))=List.length (ab))∧((H+N)*(64:Nat)≤ah∧H+N≤ad∧p+N≤List.length J∧H≤List.length (C (T b)))∧List.take (H) (C (T b))++List.take (N) (List.drop p J)=ii (T (b+x))∧inRange IntKind.i64 (W+af)∧((∃(_:Unit),j=f∧True∧K+x<K+x-b)∨∃(c:Nat),j=EI o l s c∧(c≤K∧R=gq o (List.drop c s) (G c)∧(R=F→V=T c++gy o (List.drop c s) (G c)))∧K+x-c<K+x-b)))∧(al=false→(H=List.length (C (V))∧some (z (ii (T b)))=some (z (C (V))))∧r F=r (R)∧True))):=by kernel_rfl

theorem Bx:∀e∈nb,eJ Tryz.prog e.1 e.2:=by
 intro e he
 simp only[nb,List.mem_cons,List.not_mem_nil,or_false] at he
 rcases he with rfl|rfl
 ·exact wj
 ·exact oO

theorem wl:eJ Tryz.prog 11 (ey [none,pSl,pSp] rO):=by
 refine eK (eS (l:=nb) Bx mixed noNG) fun l R hF=> ?_
 unfold rO at hF
 split at hF
 ·rename_i o r_l r_s
  obtain⟨hr_l,hl,hF⟩:=hF
  generalize deS r_l=l at hr_l hl hF
  subst hr_l
  obtain⟨hr_s,hs,hF⟩:=hF
  generalize deSp r_s=s at hr_s hs hF
  subst hr_s
  refine⟨_,hF,rfl,(Nl o l s), ?_⟩
  show run nb Tryz.prog _ [.int .i64 o, .vsl 0 0 (l.map slE).length, .vsl 1 0 (s.map spE).length] [some ⟨false,(pSl.getD (0,0)).1,(pSl.getD (0,0)).2,true,(l.map slE)⟩,some ⟨false,(pSp.getD (0,0)).1,(pSp.getD (0,0)).2,true,(s.map spE)⟩] _ _
  rw[Eb];(conv=>zeta)
  have hlm:(l.map slE).length=l.length:=List.length_map _
  have hsm:(s.map spE).length=s.length:=List.length_map _
  have lW:∀L:List Wr,(List.map wrE L).length=L.length:=fun L=>List.length_map _
  have ei:∀p,(⟨(at' s p).k,⟨(at' s p).e.v,(at' s p).e.w,(at' s p).e.m,(at' s p).e.n,(at' s p).e.len,(at' s p).e.act⟩⟩:Sp)=at' s p:=fun _=>rfl
  simp only[eT,fG,FF,zLe,true_and,and_true,eq_self,ei]
  have bnd:∀p,p≤s.length→(alL o l s p).length=l.length∧(alW o l s p).length≤1001000:=fun p hp=>by
   obtain⟨h0,h1⟩:=F1 o l s p hp
   have h2:p*(l.length+1)≤1000*1001:=Nat.mul_le_mul (by omega) (by omega)
   exact⟨h0,by omega⟩
  have stop:∀p,p<s.length→alI o l s p→(gG o (alL o l s p) (at' s p) !=0)=true→List.map wrE (gy o s l)=[]∧AV.int .i64 (gG o (alL o l s p) (at' s p))=AV.int .i64 (gq o s l):=fun p hp hI h=>by
   obtain⟨h1,h2⟩:=KK hI hp (by simpa using h)
   rw[h1,h2];exact⟨rfl,rfl⟩
  have next:∀p,p<s.length→alI o l s p→(gG o (alL o l s p) (at' s p) !=0)=false→(fE o (alL o l s p) (at' s p)).length≤1000000∧
    (List.map slE (apL (alL o l s p) (fE o (alL o l s p) (at' s p)))=List.map slE (alL o l s (p+1))∧(List.map slE (apL (alL o l s p) (fE o (alL o l s p) (at' s p)))).length=(List.map slE (alL o l s (p+1))).length)∧
    (((alW o l s p).length+(List.map wrE (fE o (alL o l s p) (at' s p))).length)*64≤140737488355328∧(alW o l s p).length+(List.map wrE (fE o (alL o l s p) (at' s p))).length≤9223372036854775807∧(alW o l s p).length≤(List.map wrE (alW o l s p)).length)∧
    List.take (alW o l s p).length (List.map wrE (alW o l s p))++List.map wrE (fE o (alL o l s p) (at' s p))=ii (alW o l s (p+1))∧inRange .i64 ((p:Int)+1)∧
    (alW o l s p).length+(List.map wrE (fE o (alL o l s p) (at' s p))).length=(alW o l s (p+1)).length∧alI o l s (p+1):=fun p hp hI h=>by
   have few:=s7 o (alL o l s p) (at' s p)
   obtain⟨b1,b2⟩:=bnd p (Nat.le_of_lt hp)
   obtain⟨e1,e2⟩:=uP (o:=o) (l:=l) hp
   rw[lW,e1,e2]
   refine⟨by omega,⟨rfl,rfl⟩,⟨by omega,by omega,by rw[lW];exact Nat.le_refl _⟩, ?_,inR (by omega) (by omega),by rw[List.length_append],KL hI hp (by simpa using h)⟩
   rw[List.take_of_length_le (by rw[lW];exact Nat.le_refl _)]
   exact (List.map_append).symm
  refine⟨rfl,fun _ _=>⟨fun hlt=> ?_,fun hge=> ?_⟩,fun q hq=>⟨fun hlt=> ?_,fun hge=> ?_⟩⟩
  ·have hp:0<s.length:=by have:=of_decide_eq_true hlt;omega
   refine⟨⟨Int.le_refl _,of_decide_eq_true hlt⟩,eL (Int.le_refl _) (of_decide_eq_true hlt) (zN _),by omega,stop 0 hp (uQ o l s),fun h=> ?_⟩
   obtain⟨n1,n2,n3,n4,n5,n6,n7⟩:=next 0 hp (uQ o l s) h
   refine⟨by omega,n1,n2,⟨n3.1,n3.2.1,Nat.le_refl _⟩,n4,n5, .inr ⟨0+1, ?_,n7,by omega⟩⟩
   have n6:0+(List.map wrE (fE o l (at' s 0))).length=(alW o l s (0+1)).length:=n6
   rw[n6];rfl
  ·have hp:s.length=0:=by have:=of_decide_eq_false hge;omega
   obtain⟨h1,h2⟩:=F2 (o:=o) (l:=l) (s:=s) (by rw[hp];exact uQ o l s)
   rw[hp] at h2
   rw[h1,h2];exact⟨⟨rfl,rfl⟩,rfl⟩
  ·have hp:q<s.length:=by have:=of_decide_eq_true hlt;omega
   have B:0≤(q:Int)∧(q:Int)< ((s.map spE).length:Int):=by omega
   obtain⟨b1,b2⟩:=bnd q (Nat.le_of_lt hp)
   refine⟨B,eL B.1 B.2 (zN _),by omega,stop q hp hq,fun h=> ?_⟩
   obtain⟨n1,n2,n3,n4,n5,n6,n7⟩:=next q hp hq h
   refine⟨by omega,n1,n2,n3,n4,n5, .inr ⟨q+1, ?_,n7,by omega⟩⟩
   rw[n6];rfl
  ·have hp:q=s.length:=by have:=of_decide_eq_false hge;have:=hq.1;omega
   subst hp
   obtain⟨h1,h2⟩:=F2 (o:=o) (l:=l) (s:=s) hq
   rw[h1,h2,lW];exact⟨⟨rfl,rfl⟩,rfl⟩
 ·exact hF.elim

noncomputable def jG:List (FuncId×Sx.Spec):=[(66,ey [pSl,none] tR)]

theorem yk(l:List Sl)(es:List AV):run jG Tryz.prog 33 [.vsl 0 0 (l.map slE).length] [some ⟨false,(pSl.getD (0,0)).1,(pSl.getD (0,0)).2,true,(l.map slE)⟩] (MD l) (eM (.vrow 48 8 es))=
  (let A:=List.map slE l;let z:=(0:Int);let u:=(1:Nat);let t:=List.length l;let r:=Blk.mk true (48:TypeId) (8:Nat) true;let q:=AV.w64 (BitVec.ofInt (64:Nat) z);let n:=AV.int IntKind.i64;let m:=(0:Nat);let k:=Blk.mk false (46:TypeId) (7:Nat) true A;let h:=AV.any;let g:=List.length A;let y:=(↑(g):Int);let x:=AV.vsl m m (g);((St.mk [x,h,h,AV.vsl (List.length [some k]) m m,h,h,x,n y,n z,h,h,h,h,h,h,h,h,h,h,h,h,h,h,h,h,h,h,h,h,h,h] ([some k]++[some (r [])])=kA l m∧Nat.le m (t))∧∀(a:Nat),let E:=at' l a;let B:=twW l a;let s:=List.length B;let o:=(↑a:Int);let G:=Decidable.decide (o<y);let D:=Int.toNat o;let C:=o+(1:Int);let w:=inRange IntKind.i64 C;let j:=Sl.e E;let i:=[AV.agg [n o,AV.bool false,q,q,q,q,n z,n z]];let f:=List.take (D-m) (List.drop (m+m) A);let F:=deS (f);let v:=hsS F (En.mk j.1 j.2 j.3 j.4 j.5 j.6) (List.length F);let e:=St.mk [x,h,h,AV.vsl (m+u) m (s),h,h,x,n y,n C,h,h,h,h,h,h,h,h,h,h,h,h,h,h,h,h,h,h,h,h,h,h] [some k,some (r (ii B))];Nat.le a (t)→(G=true→(z≤o∧o<y)∧Blk.read Proofs.Tryz.prog k (46:Nat) (m+D) m=some (AV.agg [AV.bool E.1,AV.w64 j.1,AV.w64 j.2,AV.w64 j.3,AV.w64 j.4,n j.5,n j.6])∧(E.1=true→(z≤o∧o< (↑(g+u):Int))∧(z≤o∧o< (↑(D+u):Int))∧m+m+(D-m)≤g∧f=List.map slE F∧List.length F≤(1000000:Nat)∧(v=true→((s+u)*(64:Nat)≤(140737488355328:Nat)∧s+u≤(9223372036854775807:Nat)∧m+u≤List.length i∧s≤List.length (List.map wrE B))∧List.take (s) (List.map wrE B)++i=ii (twW l (a+u))∧w∧∃(b:Nat),St.mk [x,h,h,AV.vsl (m+u) m (s+u),h,h,x,n y,n C,h,h,h,h,h,h,h,h,h,h,h,h,h,h,h,h,h,h,h,h,h,h] [some k,some (Blk.mk true (48:Nat) (8:Nat) true (ii (twW l (a+u))))]=kA l b∧Nat.le b (t)∧t+u-b<t+u-a)∧(v=false→w∧∃(c:Nat),e=kA l c∧Nat.le c (t)∧t+u-c<t+u-a))∧(E.1=false→w∧∃(d:Nat),e=kA l d∧Nat.le d (t)∧t+u-d<t+u-a))∧(G=false→s=List.length es∧some (r (ii B))=some (r es)))):=by kernel_rfl

theorem vh:∀e∈jG,eJ Tryz.prog e.1 e.2:=by
 intro e he
 simp only[jG,List.mem_cons,List.not_mem_nil,or_false] at he
 rcases he with rfl
 ·exact D6

theorem AZ:eJ Tryz.prog 33 (ey [pSl] qC):=by
 refine eK (eS (l:=jG) vh mixed noNG) fun l R hF=> ?_
 unfold qC at hF
 split at hF
 ·rename_i r_l
  obtain⟨hr_l,hl,hF⟩:=hF
  generalize deS r_l=l at hr_l hl hF
  subst hr_l
  refine⟨_,hF,trivial,(MD l), ?_⟩
  show run jG Tryz.prog _ [.vsl 0 0 (l.map slE).length] [some ⟨false,(pSl.getD (0,0)).1,(pSl.getD (0,0)).2,true,(l.map slE)⟩] _ _
  rw[yk];(conv=>zeta)
  have lW:∀L:List Wr,(List.map wrE L).length=L.length:=fun L=>List.length_map _
  refine⟨⟨rfl,Nat.zero_le _⟩, ?_⟩
  intro p (hp0:p≤l.length)
  have hr:List.take (Int.toNat (p:Int)-0) (List.drop (0+0) (List.map slE l))=List.map slE (l.take p):=by
   rw[Int.toNat_natCast,Nat.sub_zero,Nat.add_zero,List.drop_zero,List.map_take]
  rw[hr,fG,Jw hp0]
  refine⟨fun hlt=> ?_,fun hge=> ?_⟩
  ·have hp:p<l.length:=by simp only[decide_eq_true_eq,List.length_map] at hlt;omega
   have B:0≤(p:Int)∧(p:Int)< ((l.map slE).length:Int):=by rw[List.length_map];omega
   have i1:inRange .i64 ((p:Int)+1):=inR (by omega) (by omega)
   have tl:=sk l p
   have g1:twW l (p+1)=if isT l p then twW l p++[⟨p,zS⟩] else twW l p:=rfl
   rw[LM] at g1
   have stay:∀{T:St},((at' l p).ok&&hsS l (at' l p).e p)=false→(twW l (p+1)=twW l p→T=kA l (p+1))→∃p':Nat,T=kA l p'∧Nat.le p' l.length∧l.length+1-p'<l.length+1-p:=fun h h'=>⟨p+1,h' (by rw[g1,h];rfl),hp,by omega⟩
   refine⟨B,eL B.1 B.2 (fX _),fun ho=>⟨by rw[List.length_map] at B⊢;omega,by omega,by rw[List.length_map];omega,rfl,by rw[List.length_take];omega,fun ht=> ?_,fun ht=>⟨i1,stay ?_ fun h=> ?_⟩⟩,fun ho=>⟨i1,stay ?_ fun h=> ?_⟩⟩
   ·have ho:(at' l p).ok=true:=ho
    have ht:hsS l (at' l p).e p=true:=ht
    rw[ho,ht] at g1
    have g1:twW l (p+1)=twW l p++[⟨p,zS⟩]:=g1
    refine⟨⟨by omega,by omega,Nat.le_refl _,by rw[lW];exact Nat.le_refl _⟩, ?_,i1,p+1, ?_,hp,by omega⟩
    ·rw[List.take_of_length_le (by rw[lW];exact Nat.le_refl _),g1]
     show _=List.map wrE _
     rw[List.map_append];rfl
    ·unfold kA
     rw[g1,List.length_append];rfl
   ·have ht:hsS l (at' l p).e p=false:=ht
    rw[ht,Bool.and_false]
   ·unfold kA
    rw[h];rfl
   ·have ho:(at' l p).ok=false:=ho
    rw[ho,Bool.false_and]
   ·unfold kA
    rw[h];rfl
  ·have hp:p=l.length:=by simp only[decide_eq_false_iff_not,List.length_map] at hge;omega
   subst hp
   exact⟨(lW _).symm,rfl⟩
 ·exact hF.elim

end Go.Proofs.YtcabofadpheomaaGreat.L1
end

