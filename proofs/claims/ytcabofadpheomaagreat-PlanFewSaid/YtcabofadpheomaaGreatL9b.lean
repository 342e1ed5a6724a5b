/-
 Texts in one: L9C L9P.
-/
import Derived.Test.YtcabofadpheomaaGreatL9a
import Derived.Test.YtcabofadpheomaaGreatL6b

section
namespace Go.Sx.M
open Go.Proofs.YtcabofadpheomaaGreat.L1

def knR(l:List Ro)(i:Nat):List Ro:=if i=0 then [] else (kpR (l.take i)).filter fun x=>cvP x.p (at' l (i-1)).p

theorem xj{w:Int}{l:List Ro}(h:TB w l)(i:Nat):TB w (l.take i):=h.sub (List.take_sublist _ _)

theorem DG{l:List Ro}{i:Nat}{x:Ro}(hx:x∈kpR (l.take i)):∃j,j<i∧j<l.length∧at' l j=x:=tg (kk hx)

theorem Jp(l:List Ro)(i:Nat):(kpR (l.take i)).length≤i:=Nat.le_trans (pD _).length_le (by rw[List.length_take];omega)

theorem tx{l:List Ro}{i:Nat}(hi:i<l.length):kpR (l.take (i+1))=if jA (jh (kpR (l.take i)) (at' l i).p) (at' l i)=true then kpR (l.take i)++[at' l i] else kpR (l.take i):=by
 rw[List.take_add_one,eZ hi]
 exact AM _ _

theorem kLE(l:List Ro):kpR (l.take l.length)=kpR l:=by rw[List.take_length]

theorem M2(l:List Ro)(i:Nat):(knR l i).length≤i:=by
 unfold knR
 split
 ·simp
 ·exact Nat.le_trans (List.length_filter_le _ _) (Jp l i)

theorem FG(p:Pf):cvP p p=true:=fI.2 ⟨Int.le_refl _,fun _ _ _=>rfl⟩

theorem OP{w:Int}{y z x:Pf}(hy:riP w y=true)(hz:riP w z=true)(h1:cvP y x=true)(h2:cvP z x=true)(h:cpP y z<0):ovP y z=true:=by
 obtain⟨a1,a2⟩:=fI.1 h1
 obtain⟨b1,b2⟩:=fI.1 h2
 have hne:z≠y:=fun e=>by rw[e,fa] at h;omega
 by_cases hl:y.len≤z.len
 ·exact fw.2 ⟨hne,fI.2 ⟨hl,fun i hi hi2=>by rw[a2 i hi hi2,b2 i hi (by omega)]⟩⟩
 ·have:=i8 hz hy (fw.2 ⟨fun e=>hne e.symm,fI.2 ⟨by omega,fun i hi hi2=>by rw[b2 i hi hi2,a2 i hi (by omega)]⟩⟩)
  have:=fL h this
  rw[fa] at this
  omega

theorem IB{w:Int}{y z x:Pf}(hy:riP w y=true)(hz:riP w z=true)(hx:riP w x=true)(h1:ovP y z=true)(h2:ovP z x=true):ovP y x=true:=by
 obtain⟨a1,a2⟩:=fI.1 (fw.1 h1).2
 obtain⟨b1,b2⟩:=fI.1 (fw.1 h2).2
 have l1:=i8 hy hz h1
 have l2:=i8 hz hx h2
 refine fw.2 ⟨fun e=> ?_,fI.2 ⟨by omega,fun k hk hk2=>by rw[a2 k hk hk2,b2 k hk (by omega)]⟩⟩
 rw[e] at l2
 have:=fL l1 l2
 rw[fa] at this
 omega

theorem AQ{w:Int}{l:List Ro}(h:TB w l){n:Nat}(hn:n+1<l.length):cvL (kpR (l.take (n+1))) (at' l (n+1)).p=(knR l (n+1)).filter fun x=>ovP x.p (at' l (n+1)).p:=by
 have hk:=kF (xj h (n+1))
 have e:knR l (n+1)=(kpR (l.take (n+1))).filter fun x=>cvP x.p (at' l n).p:=by unfold knR;rw[if_neg (by omega),Nat.add_sub_cancel]
 refine sr (hk.sorted.filter _) (by rw[e];exact (hk.sorted.filter _).filter _) fun x=> ?_
 rw[gt,e,List.mem_filter,List.mem_filter]
 refine⟨fun⟨h1,h2⟩=>⟨⟨h1, ?_⟩,h2⟩,fun⟨⟨h1,_⟩,h2⟩=>⟨h1,h2⟩⟩
 obtain⟨j,hj,hjl,rfl⟩:=DG h1
 rcases Nat.lt_or_eq_of_le (Nat.le_of_lt_succ hj) with hj|rfl
 ·exact (fw.1 (q8 (h.rip (fb hjl)) (h.rip (fb (show n<l.length by omega))) h2 (h.at hj (by omega)) (h.at (Nat.lt_succ_self n) hn))).2
 ·exact FG _

theorem AP{w:Int}{l:List Ro}(h:TB w l){n:Nat}(hn:n+1<l.length){a b:Nat}(hab:a<b)(hb:b< (knR l (n+1)).length)(ho:ovP (at' (knR l (n+1)) b).p (at' l (n+1)).p=true):ovP (at' (knR l (n+1)) a).p (at' l (n+1)).p=true:=by
 have hk:=kF (xj h (n+1))
 have e:knR l (n+1)=(kpR (l.take (n+1))).filter fun x=>cvP x.p (at' l n).p:=by unfold knR;rw[if_neg (by omega),Nat.add_sub_cancel]
 have hc:TB w (knR l (n+1)):=by rw[e];exact hk.sub List.filter_sublist
 have mem:∀x,x∈knR l (n+1)→cvP x.p (at' l n).p=true:=fun x hx=>by rw[e] at hx;exact (List.mem_filter.1 hx).2
 have ma:=fb (show a< (knR l (n+1)).length by omega)
 have mb:=fb hb
 exact IB (hc.rip ma) (hc.rip mb) (h.rip (fb hn)) (OP (hc.rip ma) (hc.rip mb) (mem _ ma) (mem _ mb) (hc.at hab hb)) ho

theorem pR{T:Type}[Inhabited T]{f:T→Bool}:∀{m:List T},(∀{a b},a<b→b<m.length→f (at' m b)=true→f (at' m a)=true)→m.filter f=m.take (m.filter f).length
 | [],_=>rfl
 |y::m,h=>by
  cases e:f y with
  |true=>
   rw[List.filter_cons_of_pos e,List.length_cons,List.take_succ_cons]
   congr 1
   exact pR fun {a b} hab hb ho=>h (a:=a+1) (b:=b+1) (by omega) (by simpa using hb) ho
  |false=>
   have hn:(y::m).filter f=[]:=List.filter_eq_nil_iff.2 fun x hx hf=>by
    obtain⟨j,hj,rfl⟩:=fi hx
    rcases Nat.eq_zero_or_pos j with rfl|h0
    ·have hf:f y=true:=hf
     rw[e] at hf;cases hf
    ·have:f y=true:=h h0 hj hf
     rw[e] at this;cases this
   rw[hn];rfl

theorem M3{w:Int}{l:List Ro}(h:TB w l){i:Nat}(hi:i<l.length){x:Ro}(hx:x∈knR l i):cvP x.p (at' l i).p=ovP x.p (at' l i).p:=by
 refine J7 h hi ?_
 unfold knR at hx
 split at hx
 ·cases hx
 ·obtain⟨j,hj,_,rfl⟩:=DG (List.mem_filter.1 hx).1
  exact⟨j,hj,rfl⟩

theorem LG{w:Int}{l:List Ro}(h:TB w l){i:Nat}(hi:i<l.length){k:Nat}(hk:k≤(knR l i).length)(h1:∀t,k≤t→t< (knR l i).length→cvP (at' (knR l i) t).p (at' l i).p=false)(h2:0<k→cvP (at' (knR l i) (k-1)).p (at' l i).p=true):
  (knR l i).take k=cvL (kpR (l.take i)) (at' l i).p:=by
 rcases Nat.eq_zero_or_pos i with rfl|h0
 ·have e:knR l 0=[]:=rfl
  rw[e,List.take_nil,List.take_zero]
  rfl
 ·obtain⟨n,rfl⟩:∃n,i=n+1:=⟨i-1,by omega⟩
  rw[AQ h hi]
  refine (ni hk (fun t ht=> ?_) fun t ht hl=> ?_).symm
  ·have hl:ovP (at' (knR l (n+1)) (k-1)).p (at' l (n+1)).p=true:=by rw[←M3 h hi (fb (by omega))];exact h2 (by omega)
   rcases Nat.lt_or_eq_of_le (show t≤k-1 by omega) with h'|rfl
   ·exact AP h hi h' (by omega) hl
   ·exact hl
  ·rw[←M3 h hi (fb hl)];exact h1 t ht hl

theorem ye{w:Int}{l:List Ro}(h:TB w l){i:Nat}(hi:i<l.length):knR l (i+1)=if jA (jh (kpR (l.take i)) (at' l i).p) (at' l i)=true then cvL (kpR (l.take i)) (at' l i).p++[at' l i] else cvL (kpR (l.take i)) (at' l i).p:=by
 have e:knR l (i+1)=(kpR (l.take (i+1))).filter fun x=>cvP x.p (at' l i).p:=by unfold knR;rw[if_neg (by omega),Nat.add_sub_cancel]
 have hc:(kpR (l.take i)).filter (fun x=>cvP x.p (at' l i).p)=cvL (kpR (l.take i)) (at' l i).p:=by
  unfold cvL
  refine List.filter_congr fun x hx=> ?_
  obtain⟨j,hj,_,rfl⟩:=DG hx
  exact J7 h hi ⟨j,hj,rfl⟩
 rw[e,tx hi]
 split
 ·have e1:[at' l i].filter (fun x=>cvP x.p (at' l i).p)=[at' l i]:=by rw[List.filter_cons,if_pos (FG _),List.filter_nil]
  rw[List.filter_append,hc,e1]
 ·exact hc

theorem J9{w w':Int}{k:List Ro}(hk:TB w k){p:Pf}(hp:riP w' p=true):jh k p=if (cvL k p).length=0 then none else some (at' (cvL k p) ((cvL k p).length-1)):=by
 split
 ·rename_i h0
  refine wu hk hp fun j hj=> ?_
  cases e:ovP (at' k j).p p with
  |false=>rfl
  |true=>
   have:=gt.2 ⟨fb hj,e⟩
   rw[List.length_eq_zero_iff.1 h0] at this
   cases this
 ·rename_i h0
  have hc:TB w (cvL k p):=hk.sub List.filter_sublist
  have hm:=fb (show (cvL k p).length-1< (cvL k p).length by omega)
  obtain⟨m1,m2⟩:=gt.1 hm
  refine BX hk hp m1 m2 fun y hy ho=> ?_
  obtain⟨j,hj,rfl⟩:=fi (gt.2 ⟨hy,ho⟩)
  rcases Nat.lt_or_eq_of_le (show j≤(cvL k p).length-1 by omega) with h'|h'
  ·exact Int.le_of_lt (I0 (hc.rip (fb hj)) (hc.rip hm) ((gC (hk.rip hy) hp).1 ho).2 ((gC (hk.rip m1) hp).1 m2).2 (hc.at h' (by omega)))
  ·rw[h'];exact Int.le_refl _

theorem Cy{T:Type}[Inhabited T]{l:List T}{n t:Nat}(h:t<n):at' (l.take n) t=at' l t:=by
 unfold at'
 rw[List.getD_eq_getElem?_getD,List.getD_eq_getElem?_getD,List.getElem?_take,if_pos h]

theorem Fp{w:Int}{l:List Ro}(h:TB w l){i:Nat}(hi:i<l.length){k:Nat}(hk:k≤(knR l i).length)(he:(knR l i).take k=cvL (kpR (l.take i)) (at' l i).p):
  jA (jh (kpR (l.take i)) (at' l i).p) (at' l i)=(decide (k=0)|| (at' (knR l i) (k-1)).act !=(at' l i).act):=by
 have hl:(cvL (kpR (l.take i)) (at' l i).p).length=k:=by rw[←he,List.length_take];omega
 rw[J9 (kF (xj h i)) (h.rip (fb hi)),hl]
 rcases Nat.eq_zero_or_pos k with rfl|h0
 ·rfl
 ·rw[if_neg (by omega),←he,Cy (by omega),decide_eq_false (by omega),Bool.false_or]
  show (!decide _)= !(_==_)
  congr 1

def rwR(l:List Ro):Nat→List Ro
 |0=>[]
 |i+1=>if jA (jh (kpR (l.take i)) (at' l i).p) (at' l i)=true then knR l (i+1) else rwR l i

theorem rF{w:Int}{l:List Ro}(h:TB w l):∀i,i≤l.length→(rwR l i).take (knR l i).length=knR l i∧(rwR l i).length≤i
 |0,_=>⟨rfl,Nat.le_refl _⟩
 |i+1,hi=>by
  obtain⟨h1,h2⟩:=rF h i (by omega)
  have hi:i<l.length:=hi
  unfold rwR
  split
  ·exact⟨List.take_length,M2 l _⟩
  ·rename_i hs
   refine⟨?_,by omega⟩
   rw[ye h hi,if_neg hs]
   obtain⟨m,hm⟩:∃m,cvL (kpR (l.take i)) (at' l i).p=(knR l i).take m:=by
    rcases Nat.eq_zero_or_pos i with rfl|h0
    ·exact⟨0,rfl⟩
    ·obtain⟨n,rfl⟩:∃n,i=n+1:=⟨i-1,by omega⟩
     exact⟨_,(AQ h hi).trans (pR fun hab hb ho=>AP h hi hab hb ho)⟩
   have hl:(knR l i).length≤(rwR l i).length:=by rw[←h1,List.length_take];exact Nat.min_le_right _ _
   rw[hm,List.length_take]
   conv=>rhs;rw[←h1,List.take_take]

theorem Py{w:Int}{l:List Ro}(h:TB w l){i:Nat}(hi:i≤l.length):(knR l i).length≤(rwR l i).length:=by
 have:=congrArg List.length (rF h i hi).1
 rw[List.length_take] at this
 omega

theorem Pz{w:Int}{l:List Ro}(h:TB w l){i:Nat}(hi:i≤l.length){t:Nat}(ht:t< (knR l i).length):at' (rwR l i) t=at' (knR l i) t:=by
 have:=Cy (l:=rwR l i) ht
 rw[(rF h i hi).1] at this
 exact this.symm

theorem H6{w:Int}{l:List Ro}(h:TB w l){i:Nat}(hi:i≤l.length){k:Nat}(hk:k≤(knR l i).length):(rwR l i).take k=(knR l i).take k:=by
 have e:(knR l i).take k=((rwR l i).take (knR l i).length).take k:=by rw[(rF h i hi).1]
 rw[e,List.take_take]
 congr 1
 omega

end Go.Sx.M
end

section
namespace Go.Proofs.YtcabofadpheomaaGreat.L1
open Go.Sx Go.Sx.M

def Rp:AV:= .func (.func 68) [] [.ptr 3 0 0 true]
def GX(F:List Ro→List AV)(l:List Ro)(p:Nat):St:=
 ⟨[.any, .any, .any, .vsl 1 0 (kpR (l.take p)).length, .vsl 2 0 (knR l p).length, .any, .any, .any, .vsl 0 0 (l.map roE).length, .int .i64 (l.map roE).length, .int .i64 p, .any, .any, .any, .any, .any, .any, .any, .any, .any, .any, .any, .any, .any, .any, .any, .any, .any, .any, .any, .any, .any, .any, .any, .any, .any, .any, .any, .any, .any, .any, .any],[some ⟨false,66,4,true,l.map roE⟩,some ⟨true,66,4,true,F (kpR (l.take p))⟩,some ⟨true,66,4,true,F (rwR l p)⟩]⟩
def Fm(F:List Ro→List AV)(l:List Ro)(p k:Nat):St:=
 ⟨[.vsl 2 0 (knR l p).length,Rp, .any, .any, .any, .int .i64 k, .any, .any, .any, .any, .any, .any, .any, .any, .any, .any, .any, .any, .any, .any, .any, .any, .any, .any, .any],[some ⟨false,66,4,true,l.map roE⟩,some ⟨true,66,4,true,F (kpR (l.take p))⟩,some ⟨true,66,4,true,F (rwR l p)⟩,some ⟨true,66,4,true,[roE (at' l p)]⟩]⟩
def Rm:Modes:=⟨[0,0,0,1,1,0,0,0,1,1,2,0,0,0,0,0,0,0,0,0,0,0,0,0,0,0,0,0,0,0,0,0,0,0,0,0,0,0,0,0,0,0],[],[],[],[(3,66,4),(4,66,4)]⟩
def kqM:Modes:=⟨[0,0,0,1,1,0,0,0,1,1,1,0,0,0,0,0,0,0,0,0,0,0,0,0,0,0,0,0,0,0,0,0,0,0,0,0,0,0,0,0,0,0],[],[],[],[]⟩
def Rn:Modes:=⟨[0,0,0,1,0,0,0,0,0,0,0,0,0,0,0,0,0,0,0,0,0,0,0,0,0,0,0,0,0,0,0,0,0,0,0,0,0,0,0,0,0,0],[],[],[],[]⟩
def kqN:Modes:=⟨[1,1,0,0,0,1,0,0,0,0,0,0,0,0,0,0,0,0,0,0,0,0,0,0,0],[],[],[],[]⟩
def LD(l:List Ro)(p k:Nat):Prop:=k≤(knR l p).length∧∀t,k≤t→t< (knR l p).length→cvP (at' (knR l p) t).p (at' l p).p=false
def kqH(F:List Ro→List AV)(l:List Ro):List Hint:=[.linv _ 0 (GX F l) (fun p=>p≤l.length) (fun p=>l.length+1-p) Rm kqM Rn (fun _=>[]) fun p=>
 [.fork [.dy, .cell (roE (at' l p)), .linv _ (knR l p).length (Fm F l p) (LD l p) (fun k=>k) kqN kqN kqN
   (fun k=>[.ix k, .fork [.rows (F (kpR (l.take (p+1)))), .rows (F (rwR l (p+1))), .nw] [.nw, .ix (k-1), .cell (.int .i64 (at' (knR l p) (k-1)).act), .fork [.rows (F (kpR (l.take (p+1)))), .rows (F (rwR l (p+1))), .nw] [.nw]]]) fun k=>
  [.fork [.nw, .ix (k-1), .cell (roE (at' (knR l p) (k-1))), .fork [.nw] []] []]] []]]

noncomputable def mX:List (FuncId×Sx.Spec):=[(53,ey [none,none] rS)]

theorem DW(l:List Ro)(F:List Ro→List AV)(es:List AV):run mX Tryz.prog 35 [.vsl 0 0 (l.map roE).length] [some ⟨false,(pRo.getD (0,0)).1,(pRo.getD (0,0)).2,true,(l.map roE)⟩] (kqH F l) (eM (.vrow 66 4 es))=
  (let ad:=(140737488355328:Nat);let ac:=(4:Nat);let ab:=(9223372036854775807:Nat);let Z:=AV.vsl;let W:=Blk.mk true (66:Nat) ac true;let V:=GX F l;let R:=(0:Int);let M:=inRange IntKind.i64;let K:=(1:Int);let A:=AV.int IntKind.i64;let z:=List.length l;let x:=List.length (List.map roE l);let T:=(↑x:Int);let u:=Blk.mk false (66:TypeId) ac true (List.map roE l);let t:=(0:Nat);let s:=(1:Nat);let X:=[AV.ptr (t+s+s+s) t t true];let S:=Z (t+s+s);let r:=Blk.mk true (66:TypeId) ac true;let q:=AV.any;((St.mk [q,q,q,Z (List.length [some u]) t t,Z (List.length [some u,some (r [])]) t t,q,q,q,Z t t x,A T,A R,q,q,q,q,q,q,q,q,q,q,q,q,q,q,q,q,q,q,q,q,q,q,q,q,q,q,q,q,q,q,q] ([some u,some (r [])]++[some (r [])])=V t∧Nat.le t (z))∧∀(a:Nat),let aa:=F (kpR (List.take (a+s) l));let P:=(↑a:Int);let af:=Decidable.decide (P<T);let N:=F (rwR l a);let L:=Ro.p (at' l a);let G:=List.length (knR l a);let y:=M (P+K);let w:=kpR (List.take a l);let ae:=r (F w);let O:=List.length w;let k:=AV.agg [AV.w64 L.1,AV.w64 L.2,A L.3,A (at' l a).2];let C:=t+s≤List.length [k];let B:=List.take (O) (F w)++[k]=aa;let m:=(O+s)*(32:Nat)≤ad∧O+s≤ab∧C∧O≤List.length (F w);Nat.le a (z)→(af=true→(R≤P∧P<T)∧Blk.read Proofs.Tryz.prog u (66:Nat) (t+Int.toNat P) t=some (k)∧(St.mk [S t (G),AV.func (Fn.func (68:Nat)) [] X,q,q,q,A (↑(G):Int),q,q,q,q,q,q,q,q,q,q,q,q,q,q,q,q,q,q,q] [some u,some ae,some (r N),some (Blk.mk true (nat_lit 66) ac true [k])]=Fm F l a (G)∧LD l a (G))∧∀(b:Nat),let Y:=(↑(b-s):Int);let J:=(↑b:Int);let ag:=Decidable.decide (J>R);let H:=(↑(b-t):Int);let D:=List.take (b-t) N++[k]=F (rwR l (a+s));let v:=at' (knR l a) (b-s);let U:=Ro.p v;let Q:=v.2 !=(at' l a).2;let I:=Blk.read Proofs.Tryz.prog (r N) (3:Nat) (t+t+(b-s)) (t+(3:Nat))=some (A v.2);let E:= !(Decidable.decide (U.3≤L.3)&&matchB U.1 U.2 U.3 L.1 L.2);let o:=(b-t+s)*(32:Nat)≤ad∧b-t+s≤ab∧C∧b-t≤List.length N;let n:=St.mk [q,q,q,Z (t+s) t (O),S (t+t) (b-t),q,q,q,Z t t x,A T,A (P+K),q,q,q,q,q,q,q,q,q,q,q,q,q,q,q,q,q,q,q,q,q,q,q,q,q,q,q,q,q,q,q] [some u,some ae,some (r N)];let j:=St.mk [q,q,q,Z (t+s) t (O+s),S t (b-t+s),q,q,q,Z t t x,A T,A (P+K),q,q,q,q,q,q,q,q,q,q,q,q,q,q,q,q,q,q,q,q,q,q,q,q,q,q,q,q,q,q,q] [some u,some (W (aa)),some (W (F (rwR l (a+s))))];LD l a b→(ag=true→M (J-K)∧J-K=Y∧b-s<G∧Blk.read Proofs.Tryz.prog (r N) (66:Nat) (t+(b-s)) t=some (AV.agg [AV.w64 U.1,AV.w64 U.2,A U.3,A v.2])∧(E=true→M (J-K)∧∃(c:Nat),St.mk [S t (G),AV.func (Fn.func (68:FuncId)) [] X,q,q,q,A (J-K),q,q,q,q,q,q,q,q,q,q,q,q,q,q,q,q,q,q,q] [some u,some ae,some (r N),some (r [k])]=Fm F l a c∧LD l a c∧c<b)∧(E=false→J=J∧b<G+s∧((H==R)=true→m∧B∧o∧D∧y∧∃(d:Nat),j=V d∧Nat.le d (z)∧z+s-d<z+s-a)∧((H==R)=false→M (H-K)∧H-K=Y∧b-s<b-t∧I∧(Q=true→m∧B∧o∧D∧y∧∃(e:Nat),j=V e∧Nat.le e (z)∧z+s-e<z+s-a)∧(Q=false→y∧∃(f:Nat),n=V f∧Nat.le f (z)∧z+s-f<z+s-a))))∧(ag=false→J=J∧b<G+s∧((H==R)=true→m∧B∧o∧D∧y∧∃(g:Nat),j=V g∧Nat.le g (z)∧z+s-g<z+s-a)∧((H==R)=false→M (H-K)∧H-K=Y∧b-s<b-t∧I∧(Q=true→m∧B∧o∧D∧y∧∃(h:Nat),j=V h∧Nat.le h (z)∧z+s-h<z+s-a)∧(Q=false→y∧∃(i:Nat),n=V i∧Nat.le i (z)∧z+s-i<z+s-a))))∧(af=false→O=List.length es∧some ae=some (r es)))):=by kernel_rfl

theorem Bl:∀e∈mX,eJ Tryz.prog e.1 e.2:=by
 intro e he
 simp only[mX,List.mem_cons,List.not_mem_nil,or_false] at he
 rcases he with rfl
 ·exact sZ

theorem Ha:eJ Tryz.prog 35 (ey [pRo] yz):=by
 refine eK (eS (l:=mX) Bl mixed noNG) fun l R hF=> ?_
 unfold yz at hF
 split at hF
 ·rename_i r_l
  obtain⟨hr_l,hl,hF⟩:=hF
  generalize deR r_l=l at hr_l hl hF
  subst hr_l
  refine⟨_,hF,trivial,(kqH (List.map roE) l), ?_⟩
  show run mX Tryz.prog _ [.vsl 0 0 (l.map roE).length] [some ⟨false,(pRo.getD (0,0)).1,(pRo.getD (0,0)).2,true,(l.map roE)⟩] _ _
  rw[DW];(conv=>zeta)
  have T:=gm.1 hl
  have hm:=T.most
  refine⟨⟨rfl,Nat.zero_le _⟩, ?_⟩
  intro p hp0
  have hp0:p≤l.length:=hp0
  refine⟨fun hlt=> ?_,fun hge=> ?_⟩
  ·have hp:p<l.length:=by simp only[decide_eq_true_eq,List.length_map] at hlt;omega
   have B:0≤(p:Int)∧(p:Int)< ((l.map roE).length:Int):=by rw[List.length_map];omega
   have hkt:=Jp l p
   have hkn:=M2 l p
   have hrw:=Py T hp0
   have hrm:((rwR l p).map roE).length=(rwR l p).length:=List.length_map _
   have i1:inRange .i64 ((p:Int)+1):=inR (by omega) (by omega)
   --a route that is kept
   have yes:∀k,(knR l p).take k=cvL (kpR (l.take p)) (at' l p).p→k≤(knR l p).length→jA (jh (kpR (l.take p)) (at' l p).p) (at' l p)=true→
     (((kpR (l.take p)).length+1)*32≤140737488355328∧(kpR (l.take p)).length+1≤9223372036854775807∧0+1≤List.length [roE (at' l p)]∧(kpR (l.take p)).length≤((kpR (l.take p)).map roE).length)∧List.take (kpR (l.take p)).length ((kpR (l.take p)).map roE)++[roE (at' l p)]=(kpR (l.take (p+1))).map roE∧
     ((k+1)*32≤140737488355328∧k+1≤9223372036854775807∧0+1≤List.length [roE (at' l p)]∧k≤((rwR l p).map roE).length)∧List.take k ((rwR l p).map roE)++[roE (at' l p)]=(rwR l (p+1)).map roE∧inRange .i64 ((p:Int)+1)∧
     ∃p',(⟨[.any, .any, .any, .vsl 1 0 ((kpR (l.take p)).length+1), .vsl 2 0 (k+1), .any, .any, .any, .vsl 0 0 (l.map roE).length, .int .i64 (l.map roE).length, .int .i64 ((p:Int)+1), .any, .any, .any, .any, .any, .any, .any, .any, .any, .any, .any, .any, .any, .any, .any, .any, .any, .any, .any, .any, .any, .any, .any, .any, .any, .any, .any, .any, .any, .any, .any],[some ⟨false,66,4,true,l.map roE⟩,some ⟨true,66,4,true,(kpR (l.take (p+1))).map roE⟩,some ⟨true,66,4,true,(rwR l (p+1)).map roE⟩]⟩:St)=GX (List.map roE) l p'∧Nat.le p' l.length∧l.length+1-p'<l.length+1-p:=fun k hk hkl hs=>by
    have e1:kpR (l.take (p+1))=kpR (l.take p)++[at' l p]:=by rw[tx hp,if_pos hs]
    have e2:knR l (p+1)=(knR l p).take k++[at' l p]:=by rw[ye T hp,if_pos hs,hk]
    have e3:rwR l (p+1)=knR l (p+1):=by
     show (if jA (jh (kpR (l.take p)) (at' l p).p) (at' l p)=true then knR l (p+1) else rwR l p)=_
     rw[if_pos hs]
    have l1:(kpR (l.take (p+1))).length=(kpR (l.take p)).length+1:=by rw[e1,List.length_append];rfl
    have l2:(knR l (p+1)).length=k+1:=by rw[e2,List.length_append,List.length_take,List.length_cons,List.length_nil];omega
    refine⟨⟨by omega,by omega,Nat.le_refl _,by rw[List.length_map];exact Nat.le_refl _⟩, ?_,⟨by omega,by omega,Nat.le_refl _,by omega⟩, ?_,i1,p+1, ?_,hp,by omega⟩
    ·rw[e1,List.map_append,←List.map_take,List.take_length];rfl
    ·rw[e3,e2,List.map_append,←List.map_take,H6 T hp0 hkl];rfl
    ·unfold GX
     rw[l1,l2];rfl
   --one that is not
   have no:∀k,(knR l p).take k=cvL (kpR (l.take p)) (at' l p).p→k≤(knR l p).length→jA (jh (kpR (l.take p)) (at' l p).p) (at' l p)=false→
     inRange .i64 ((p:Int)+1)∧
     ∃p',(⟨[.any, .any, .any, .vsl 1 0 (kpR (l.take p)).length, .vsl 2 0 k, .any, .any, .any, .vsl 0 0 (l.map roE).length, .int .i64 (l.map roE).length, .int .i64 ((p:Int)+1), .any, .any, .any, .any, .any, .any, .any, .any, .any, .any, .any, .any, .any, .any, .any, .any, .any, .any, .any, .any, .any, .any, .any, .any, .any, .any, .any, .any, .any, .any, .any],[some ⟨false,66,4,true,l.map roE⟩,some ⟨true,66,4,true,(kpR (l.take p)).map roE⟩,some ⟨true,66,4,true,(rwR l p).map roE⟩]⟩:St)=GX (List.map roE) l p'∧Nat.le p' l.length∧l.length+1-p'<l.length+1-p:=fun k hk hkl hs=>by
    have hs:¬jA (jh (kpR (l.take p)) (at' l p).p) (at' l p)=true:=by rw[hs];simp
    have e1:kpR (l.take (p+1))=kpR (l.take p):=by rw[tx hp,if_neg hs]
    have e2:knR l (p+1)=(knR l p).take k:=by rw[ye T hp,if_neg hs,hk]
    have e3:rwR l (p+1)=rwR l p:=by
     show (if jA (jh (kpR (l.take p)) (at' l p).p) (at' l p)=true then knR l (p+1) else rwR l p)=_
     rw[if_neg hs]
    have l2:(knR l (p+1)).length=k:=by rw[e2,List.length_take];omega
    refine⟨i1,p+1, ?_,hp,by omega⟩
    unfold GX
    rw[e1,e3,l2];rfl
   refine⟨B,eL B.1 B.2 (il _),⟨rfl,Nat.le_refl _,fun t h1 h2=>by omega⟩, ?_⟩
   rintro k ⟨k1,k2⟩
   have trim:=fun h2=>LG T hp k1 k2 h2
   refine⟨fun h0=> ?_,fun h0=> ?_⟩
   ·have h0:0<k:=by have:=of_decide_eq_true h0;omega
    have i2:inRange .i64 ((k:Int)-1):=inR (by omega) (by omega)
    have e1:(k:Int)-1=((k-1:Nat):Int):=by omega
    have er:=Pz T hp0 (show k-1< (knR l p).length by omega)
    refine⟨i2,e1,by omega, ?_,fun hc=> ?_,fun hc=> ?_⟩
    ·rw[←er];exact eL (k:=((k-1:Nat):Int)) (by omega) (by omega) (il _)
    ·have hc:(!cvP (at' (knR l p) (k-1)).p (at' l p).p)=true:=hc
     have hc:cvP (at' (knR l p) (k-1)).p (at' l p).p=false:=by simpa using hc
     refine⟨i2,k-1, ?_,⟨by omega,fun t h1 h2=> ?_⟩,by omega⟩
     ·unfold Fm
      rw[←e1];rfl
     ·by_cases e:t=k-1
      ·rw[e];exact hc
      ·exact k2 t (by omega) h2
    ·have hc:(!cvP (at' (knR l p) (k-1)).p (at' l p).p)=false:=hc
     have hk:=trim fun _=>by simpa using hc
     have hs:=Fp T hp k1 hk
     rw[decide_eq_false (show¬k=0 by omega),Bool.false_or] at hs
     refine⟨rfl,by omega,fun h=> ?_,fun _=>⟨i2,e1,by omega, ?_,fun ha=>yes k hk k1 (hs.trans ha),fun ha=>no k hk k1 (hs.trans ha)⟩⟩
     ·have h:((k:Int)==0)=true:=h
      rw[beq_iff_eq] at h;omega
     ·rw[←er];exact eL (k:=((k-1:Nat):Int)) (by omega) (by omega) (NN _)
   ·have h0:k=0:=by have:=of_decide_eq_false h0;omega
    subst h0
    have hk:=trim fun h=>absurd h (Nat.lt_irrefl _)
    refine⟨rfl,by omega,fun _=>yes 0 hk k1 (Fp T hp k1 hk),fun h=> ?_⟩
    cases h
  ·have hp:p=l.length:=by simp only[decide_eq_false_iff_not,List.length_map] at hge;omega
   subst hp
   rw[kLE]
   exact⟨(List.length_map _).symm,rfl⟩
 ·exact hF.elim

end Go.Proofs.YtcabofadpheomaaGreat.L1
end

