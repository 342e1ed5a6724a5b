/-
 Texts in one: L8T L8A L8B L8C L8P.
-/
import Derived.Test.YtcabofadpheomaaGreatL5a
import Derived.Test.YtcabofadpheomaaGreatMa

section
namespace Go.Proofs.YtcabofadpheomaaGreat.L1
open Go.Sx Go.Sx.M

def cB:AV→Bool
 | .bool b=>b
 |_=>false

def wdS(x:Sl):AV:= .agg [.w64 x.e.v, .w64 x.e.w, .w64 x.e.m, .w64 x.e.n]

def slE(x:Sl):AV:= .agg [.bool x.ok, .w64 x.e.v, .w64 x.e.w, .w64 x.e.m, .w64 x.e.n, .int .i64 x.e.len, .int .i64 x.e.act]
def wrE(x:Wr):AV:= .agg [.int .i64 x.p, .bool x.s.ok, .w64 x.s.e.v, .w64 x.s.e.w, .w64 x.s.e.m, .w64 x.s.e.n, .int .i64 x.s.e.len, .int .i64 x.s.e.act]

def RJ(x:AV):Sl:=⟨cB (x.cells.getD 0 .any),⟨cW (x.cells.getD 1 .any),cW (x.cells.getD 2 .any),cW (x.cells.getD 3 .any),cW (x.cells.getD 4 .any),cI (x.cells.getD 5 .any),cI (x.cells.getD 6 .any)⟩⟩
def deS(l:List AV):List Sl:=l.map RJ
theorem fG(l:List Sl):deS (l.map slE)=l:=by
 unfold deS
 rw[List.map_map]
 exact List.map_id l

def RI(x:AV):Wr:=⟨cI (x.cells.getD 0 .any),⟨cB (x.cells.getD 1 .any),⟨cW (x.cells.getD 2 .any),cW (x.cells.getD 3 .any),cW (x.cells.getD 4 .any),cW (x.cells.getD 5 .any),cI (x.cells.getD 6 .any),cI (x.cells.getD 7 .any)⟩⟩⟩
def deW(l:List AV):List Wr:=l.map RI
theorem FF(l:List Wr):deW (l.map wrE)=l:=by
 unfold deW
 rw[List.map_map]
 exact List.map_id l

theorem L9(x:Wr):deW [.agg [.int .i64 x.p, .bool x.s.ok, .w64 x.s.e.v, .w64 x.s.e.w, .w64 x.s.e.m, .w64 x.s.e.n, .int .i64 x.s.e.len, .int .i64 x.s.e.act]]=[x]:=rfl

def pSl:Par:=some (46,7)

def pWr:Par:=some (48,8)

def vS:Par:=some (106,7)

theorem fX(x:Sl):e7 Tryz.prog 46 (slE x).cells 0=some (slE x):=by kernel_rfl

theorem zR(x:Sl):e7 Tryz.prog 4 (slE x).cells 0=some (.bool x.ok):=by kernel_rfl

theorem Gs(x:Sl):e7 Tryz.prog 61 (slE x).cells 1=some (enE x.e):=by kernel_rfl

theorem NI(x:Sl):e7 Tryz.prog 3 (slE x).cells 6=some (.int .i64 x.e.act):=by kernel_rfl

theorem kL(x:Wr):e7 Tryz.prog 48 (wrE x).cells 0=some (wrE x):=by kernel_rfl

theorem JO{T:Type}[Inhabited T]{en:T→AV}{l:List T}{b:Bool}{ty:TypeId}{esz:Nat}{k:Int}{v:AV}(h0:0≤k)(h1:k< (l.length:Int))(hf:yN (en (at' l k.toNat)) 0 v=true):
  (Blk.mk b ty esz true (l.map en)).fits (0+k.toNat) 0 v=true:=by
 unfold Blk.fits
 rw[Nat.zero_add,List.getElem?_map,eZ (show k.toNat<l.length by omega)]
 exact hf

theorem KR{T:Type}[Inhabited T]{en:T→AV}{l:List T}{b:Bool}{ty:TypeId}{esz:Nat}{k:Int}{x:T}{es:List AV}(h0:0≤k)(h1:k< (l.length:Int))(hw:sc (en (at' l k.toNat)) 0 (en x)=en x)(he:(l.set k.toNat x).map en=es):
  (Blk.mk b ty esz true (l.map en)).writes (0+k.toNat) 0 (en x) es:=by
 unfold Blk.writes Blk.write
 dsimp only
 rw[Nat.zero_add,List.getElem?_map,eZ (show k.toNat<l.length by omega),Option.map_some]
 dsimp only
 rw[hw,←he,List.map_set]

end Go.Proofs.YtcabofadpheomaaGreat.L1
end

section
namespace Go.Proofs.YtcabofadpheomaaGreat.L1
open Go.Sx Go.Sx.M

def Ho(F:List En→List AV)(l:List Sl)(p:Nat):St:=
 ⟨[.vsl 0 0 (l.map slE).length, .any, .any, .vsl 1 0 (ensS (l.take p)).length, .int .i64 p, .any, .any, .any, .any, .any, .any, .any, .any, .any, .any, .any, .any, .any, .any, .any, .any, .any, .any, .any, .any],[some ⟨false,106,7,true,l.map slE⟩,some ⟨true,61,6,true,F (ensS (l.take p))⟩]⟩
def RG:Modes:=⟨[1,0,0,1,2,0,0,0,0,0,0,0,0,0,0,0,0,0,0,0,0,0,0,0,0],[],[],[],[(3,61,6)]⟩
def enM:Modes:=⟨[1,0,0,1,1,0,0,0,0,0,0,0,0,0,0,0,0,0,0,0,0,0,0,0,0],[],[],[],[]⟩
def enH(F:List En→List AV)(l:List Sl):List Hint:=[.linv _ 0 (Ho F l) (fun p=>p≤l.length) (fun p=>l.length+1-p) RG enM enM (fun _=>[]) fun p=>
 [.fork [.dy, .cell (.bool (at' l p).ok), .fork [.dy, .cell (enE (at' l p).e), .rows (F (ensS (l.take (p+1)))), .nw] [.nw]] []]]

def Rz(l:List Sl)(a b:BitVec 64)(p:Nat):St:=
 ⟨[.vsl 0 0 (l.map slE).length, .any, .any, .ptr 1 0 0 true, .any, .int .i64 p, .any, .any, .any, .any, .any, .any, .any, .any, .any, .any, .any, .any, .any, .any, .any, .any, .any, .any, .any, .any, .any, .any],[some ⟨false,106,7,true,l.map slE⟩,some ⟨true,24,2,true,[.agg [.w64 a, .w64 b]]⟩]⟩
def RA:Modes:=⟨[1,0,0,1,0,2,0,0,0,0,0,0,0,0,0,0,0,0,0,0,0,0,0,0,0,0,0,0],[],[],[],[]⟩
def fnM:Modes:=⟨[1,0,0,1,0,1,0,0,0,0,0,0,0,0,0,0,0,0,0,0,0,0,0,0,0,0,0,0],[],[],[],[]⟩
def RB:Modes:=⟨[0,0,0,0,1,0,0,0,0,0,0,0,0,0,0,0,0,0,0,0,0,0,0,0,0,0,0,0],[],[],[],[]⟩
def fnI(l:List Sl)(a b:BitVec 64)(p:Nat):Prop:=p≤l.length∧∀j,j<p→mtS a b (at' l j)=false
def fnH(l:List Sl)(a b:BitVec 64):List Hint:=[.linv _ 0 (Rz l a b) (fnI l a b) (fun p=>l.length+1-p) RA fnM RB (fun _=>[]) fun p=>
 [.fork [.dy, .cell (.bool (at' l p).ok), .fork [.dy, .cell (wdS (at' l p)), .fork [] [.nw]] [.nw]] []]]

def QS:List Arg→(Res→Prop)→Prop
 | [.v (.agg [.int .i64 p, .bool o, .w64 v, .w64 w, .w64 m, .w64 n, .int .i64 k, .int .i64 j]), .v (.int .i64 z)],R=>R (.v (.bool (kY ⟨p,⟨o,⟨v,w,m,n,k,j⟩⟩⟩ z)))
 |_,_=>False

def PH:List Arg→(Res→Prop)→Prop
 | [.row r_l, .row r_w],R=>r_l=(deS r_l).map slE∧(deS r_l).length≤1000000∧r_w=(deW r_w).map wrE∧(deW r_w).length≤1000000∧R (.vrow 106 7 ((apL (deS r_l) (deW r_w)).map slE))
 |_,_=>False

def oE:List Arg→(Res→Prop)→Prop
 | [.row r_l],R=>r_l=(deS r_l).map slE∧(deS r_l).length≤1000000∧R (.vrow 61 6 ((ensS (deS r_l)).map enE))
 |_,_=>False

theorem u5(l:List Sl)(F:List En→List AV)(es:List AV):run [] Tryz.prog 18 [.vsl 0 0 (l.map slE).length] [some ⟨false,(vS.getD (0,0)).1,(vS.getD (0,0)).2,true,(l.map slE)⟩] (enH F l) (eM (.vrow 61 6 es))=
  (let r:=AV.int IntKind.i64;let n:=List.length l;let m:=(1:Nat);let j:=Blk.mk true (61:TypeId) (6:Nat) true;let i:=(0:Nat);let h:=List.length (List.map slE l);let f:=AV.any;let e:=Blk.mk false (106:TypeId) (7:Nat) true (List.map slE l);((St.mk [AV.vsl i i h,f,f,AV.vsl (List.length [some e]) i i,r (0:Int),f,f,f,f,f,f,f,f,f,f,f,f,f,f,f,f,f,f,f,f] ([some e]++[some (j [])])=Ho F l i∧Nat.le i (n))∧∀(a:Nat),let v:=at' l a;let u:=F (ensS (List.take (a+m) l));let o:=Sl.e v;let k:=(↑a:Int);let t:=k< (↑h:Int);let s:=k+(1:Int);let g:=ensS (List.take a l);let q:=List.length g;let d:=AV.agg [AV.w64 o.1,AV.w64 o.2,AV.w64 o.3,AV.w64 o.4,r o.5,r o.6];Nat.le a (n)→(Decidable.decide (t)=true→((0:Int)≤k∧t)∧Blk.read Proofs.Tryz.prog e (4:Nat) (i+Int.toNat k) (i+i)=some (AV.bool v.1)∧(v.1=true→((0:Int)≤k∧t)∧Blk.read Proofs.Tryz.prog e (61:Nat) (i+Int.toNat k) (i+m)=some (d)∧((q+m)*(48:Nat)≤(140737488355328:Nat)∧q+m≤(9223372036854775807:Nat)∧i+m≤List.length [d]∧q≤List.length (F g))∧List.take (q) (F g)++[d]=u∧inRange IntKind.i64 s∧∃(b:Nat),St.mk [AV.vsl i i h,f,f,AV.vsl (i+m) i (q+m),r s,f,f,f,f,f,f,f,f,f,f,f,f,f,f,f,f,f,f,f,f] [some e,some (Blk.mk true (61:Nat) (6:Nat) true (u))]=Ho F l b∧Nat.le b (n)∧n+m-b<n+m-a)∧(v.1=false→inRange IntKind.i64 s∧∃(c:Nat),St.mk [AV.vsl i i h,f,f,AV.vsl (i+m) i (q),r s,f,f,f,f,f,f,f,f,f,f,f,f,f,f,f,f,f,f,f,f] [some e,some (j (F g))]=Ho F l c∧Nat.le c (n)∧n+m-c<n+m-a))∧(Decidable.decide (t)=false→q=List.length es∧some (j (F g))=some (j es)))):=by kernel_rfl

theorem xH:eJ Tryz.prog 18 (ey [vS] oE):=by
 refine eK fq fun l R hF=> ?_
 unfold oE at hF
 split at hF
 ·rename_i r_l
  obtain⟨hr_l,hl,hF⟩:=hF
  generalize deS r_l=l at hr_l hl hF
  subst hr_l
  refine⟨_,hF,trivial,(enH (List.map enE) l), ?_⟩
  show run [] Tryz.prog _ [.vsl 0 0 (l.map slE).length] [some ⟨false,(vS.getD (0,0)).1,(vS.getD (0,0)).2,true,(l.map slE)⟩] _ _
  rw[u5];(conv=>zeta)
  have hle:∀q,(ensS (l.take q)).length≤1000000:=fun q=>by have:=fJ (l.take q);rw[List.length_take] at this;omega
  refine⟨⟨rfl,Nat.zero_le _⟩, ?_⟩
  intro p (hp:p≤l.length)
  refine⟨fun hlt=> ?_,fun hge=> ?_⟩
  ·have hlt:p<l.length:=by simp only[decide_eq_true_eq,List.length_map] at hlt;omega
   have B:0≤(p:Int)∧(p:Int)< ((l.map slE).length:Int):=by rw[List.length_map];omega
   have e:ensS (l.take (p+1))=if (at' l p).ok then ensS (l.take p)++[(at' l p).e] else ensS (l.take p):=by rw[gX hlt,lu]
   refine⟨B,eL B.1 B.2 (zR _),fun ho=> ?_,fun ho=> ?_⟩
   ·rw[ho,if_pos rfl] at e
    have:=hle p
    refine⟨B,eL B.1 B.2 (Gs _),⟨by omega,by omega,by simp,by rw[List.length_map];exact Nat.le_refl _⟩, ?_,inR (by omega) (by omega),p+1, ?_,hlt,by omega⟩
    ·rw[List.take_of_length_le (by rw[List.length_map];exact Nat.le_refl _),e,List.map_append]
     rfl
    ·unfold Ho
     rw[e,List.length_append]
     rfl
   ·rw[ho] at e
    refine⟨inR (by omega) (by omega),p+1, ?_,hlt,by omega⟩
    unfold Ho
    rw[e];rfl
  ·have hp:p=l.length:=by simp only[decide_eq_false_iff_not,List.length_map] at hge;omega
   subst hp
   rw[List.take_length,List.length_map]
   exact⟨rfl,rfl⟩
 ·exact hF.elim

end Go.Proofs.YtcabofadpheomaaGreat.L1
end

section
namespace Go.Proofs.YtcabofadpheomaaGreat.L1
open Go.Sx Go.Sx.M

def IP(F:List Sl→List AV)(l:List Sl)(p:Nat):St:=
 ⟨[.any, .any, .any, .vsl 1 0 p, .any, .any, .vsl 0 0 (l.map slE).length, .int .i64 (l.map slE).length, .int .i64 p, .any, .any, .any, .any, .any, .any, .any, .any, .any, .any],[some ⟨false,46,7,true,l.map slE⟩,some ⟨true,106,7,true,F (l.take p)⟩]⟩
def PU:Modes:=⟨[0,0,0,1,0,0,1,1,2,0,0,0,0,0,0,0,0,0,0],[],[],[],[(3,106,7)]⟩
def PV:Modes:=⟨[0,0,0,1,0,0,1,1,1,0,0,0,0,0,0,0,0,0,0],[],[],[],[]⟩
def PW(F:List Sl→List AV)(l:List Sl):List Hint:=[.linv _ 0 (IP F l) (fun p=>p≤l.length) (fun p=>l.length+1-p) PU PV PV (fun _=>[]) fun p=>
 [.fork [.dy, .cell (slE (at' l p)), .rows (F (l.take (p+1))), .nw] []]]

def IJ:List Arg→(Res→Prop)→Prop
 | [.v (.agg [.bool o, .w64 v, .w64 w, .w64 m, .w64 n, .int .i64 k, .int .i64 j])],R=>R (.v (.agg [.bool o, .w64 v, .w64 w, .w64 m, .w64 n, .int .i64 k, .int .i64 j]))
 |_,_=>False

noncomputable def s8:List (FuncId×Sx.Spec):=[(48,ey [none] IL)]

theorem II(o:Bool)(v w m n:BitVec 64)(k j:Int)(r:AV):run s8 Tryz.prog 47 [.agg [.bool o, .w64 v, .w64 w, .w64 m, .w64 n, .int .i64 k, .int .i64 j]] [] [] (eM (.v r))=
  (AV.agg [AV.bool o,AV.w64 v,AV.w64 w,AV.w64 m,AV.w64 n,AV.int IntKind.i64 k,AV.int IntKind.i64 j]=r):=by kernel_rfl

theorem GP:∀e∈s8,eJ Tryz.prog e.1 e.2:=by
 intro e he
 simp only[s8,List.mem_cons,List.not_mem_nil,or_false] at he
 rcases he with rfl
 ·exact Lm

theorem Ll:eJ Tryz.prog 47 (ey [none] IJ):=by
 refine eK (eS (l:=s8) GP mixed noNG) fun l R hF=> ?_
 unfold IJ at hF
 split at hF
 ·rename_i o v w m n k j
  refine⟨_,hF,rfl,[], ?_⟩
  show run s8 Tryz.prog _ [.agg [.bool o, .w64 v, .w64 w, .w64 m, .w64 n, .int .i64 k, .int .i64 j]] [] _ _
  rw[II]
  all_goals rfl
 ·exact hF.elim

def N6:List Arg→(Res→Prop)→Prop
 | [.row r_l],R=>r_l=(deS r_l).map slE∧(deS r_l).length≤1000000∧R (.vrow 106 7 ((deS r_l).map slE))
 |_,_=>False

noncomputable def Au:List (FuncId×Sx.Spec):=[(47,ey [none] IJ)]

theorem Lp(l:List Sl)(F:List Sl→List AV)(es:List AV):run Au Tryz.prog 19 [.vsl 0 0 (l.map slE).length] [some ⟨false,(pSl.getD (0,0)).1,(pSl.getD (0,0)).2,true,(l.map slE)⟩] (PW F l) (eM (.vrow 106 7 es))=
  (let n:=List.length l;let k:=(1:Nat);let i:=Blk.mk true (106:TypeId) (7:Nat) true;let h:=AV.int IntKind.i64;let g:=(0:Nat);let f:=AV.any;let e:=List.length (List.map slE l);let q:=(↑e:Int);let d:=Blk.mk false (46:TypeId) (7:Nat) true (List.map slE l);((St.mk [f,f,f,AV.vsl (List.length [some d]) g g,f,f,AV.vsl g g e,h q,h (0:Int),f,f,f,f,f,f,f,f,f,f] ([some d]++[some (i [])])=IP F l g∧Nat.le g (n))∧∀(a:Nat),let s:=F (List.take (a+k) l);let o:=F (List.take a l);let m:=(↑a:Int);let r:=Decidable.decide (m<q);let j:=Sl.e (at' l a);let c:=AV.agg [AV.bool (at' l a).1,AV.w64 j.1,AV.w64 j.2,AV.w64 j.3,AV.w64 j.4,h j.5,h j.6];Nat.le a (n)→(r=true→((0:Int)≤m∧m<q)∧Blk.read Proofs.Tryz.prog d (46:Nat) (g+Int.toNat m) g=some (c)∧((a+k)*(56:Nat)≤(140737488355328:Nat)∧a+k≤(9223372036854775807:Nat)∧g+k≤List.length [c]∧a≤List.length o)∧List.take a o++[c]=s∧inRange IntKind.i64 (m+(1:Int))∧∃(b:Nat),St.mk [f,f,f,AV.vsl (g+k) g (a+k),f,f,AV.vsl g g e,h q,h (m+(1:Int)),f,f,f,f,f,f,f,f,f,f] [some d,some (Blk.mk true (106:Nat) (7:Nat) true (s))]=IP F l b∧Nat.le b (n)∧n+k-b<n+k-a)∧(r=false→a=List.length es∧some (i o)=some (i es)))):=by kernel_rfl

theorem IQ:∀e∈Au,eJ Tryz.prog e.1 e.2:=by
 intro e he
 simp only[Au,List.mem_cons,List.not_mem_nil,or_false] at he
 rcases he with rfl
 ·exact Ll

theorem N5:eJ Tryz.prog 19 (ey [pSl] N6):=by
 refine eK (eS (l:=Au) IQ mixed noNG) fun l R hF=> ?_
 unfold N6 at hF
 split at hF
 ·rename_i r_l
  obtain⟨hr_l,hl,hF⟩:=hF
  generalize deS r_l=l at hr_l hl hF
  subst hr_l
  refine⟨_,hF,trivial,(PW (List.map slE) l), ?_⟩
  show run Au Tryz.prog _ [.vsl 0 0 (l.map slE).length] [some ⟨false,(pSl.getD (0,0)).1,(pSl.getD (0,0)).2,true,(l.map slE)⟩] _ _
  rw[Lp];(conv=>zeta)
  have lt:∀p,p≤l.length→((l.take p).map slE).length=p:=fun p hp=>by rw[List.length_map,List.length_take];omega
  refine⟨⟨rfl,Nat.zero_le _⟩, ?_⟩
  intro p (hp:p≤l.length)
  refine⟨fun hlt=> ?_,fun hge=> ?_⟩
  ·have hlt:p<l.length:=by simp only[decide_eq_true_eq,List.length_map] at hlt;omega
   have B:0≤(p:Int)∧(p:Int)< ((l.map slE).length:Int):=by rw[List.length_map];omega
   refine⟨B,eL B.1 B.2 (fX _),⟨by omega,by omega,by simp,by rw[lt p hp];omega⟩, ?_,inR (by omega) (by omega),p+1,rfl,hlt,by omega⟩
   rw[List.take_of_length_le (by rw[lt p hp];omega),List.take_add_one,eZ hlt,List.map_append]
   rfl
  ·have hp:p=l.length:=by simp only[decide_eq_false_iff_not,List.length_map] at hge;omega
   subst hp
   rw[List.take_length,List.length_map]
   exact⟨rfl,rfl⟩
 ·exact hF.elim

end Go.Proofs.YtcabofadpheomaaGreat.L1
end

section
namespace Go.Proofs.YtcabofadpheomaaGreat.L1
open Go.Sx Go.Sx.M

def DS:List Arg→(Res→Prop)→Prop
 | [.v (.agg [.int .i64 p, .bool o, .w64 v, .w64 w, .w64 m, .w64 n, .int .i64 k, .int .i64 j]), .v (.int .i64 z)],R=>R (.v (.bool (kY ⟨p,⟨o,⟨v,w,m,n,k,j⟩⟩⟩ z)))
 |_,_=>False

def na:List Arg→(Res→Prop)→Prop
 | [.row r_l, .row r_w],R=>r_l=(deS r_l).map slE∧(deS r_l).length≤1000000∧r_w=(deW r_w).map wrE∧(deW r_w).length≤1000000∧R (.vrow 46 7 ((apL (deS r_l) (deW r_w)).map slE))
 |_,_=>False

def jJ:List Arg→(Res→Prop)→Prop
 | [.row r_l],R=>r_l=(deS r_l).map slE∧(deS r_l).length≤1000000∧R (.vrow 44 6 ((ensS (deS r_l)).map enE))
 |_,_=>False

def rL:List Arg→(Res→Prop)→Prop
 | [.row r_l, .v (.agg [.w64 a, .w64 b])],R=>r_l=(deS r_l).map slE∧(deS r_l).length≤9223372036854775807∧R (.v (.int .i64 (tlS (deS r_l) a b)))
 |_,_=>False

def rN:List Arg→(Res→Prop)→Prop
 | [.row r_l],R=>r_l=(deS r_l).map slE∧(deS r_l).length≤9223372036854775807∧R (.v (.int .i64 (frS (deS r_l))))
 |_,_=>False

end Go.Proofs.YtcabofadpheomaaGreat.L1
end

section
namespace Go.Proofs.YtcabofadpheomaaGreat.L1
open Go.Sx Go.Sx.M

def Ee:List Arg→(Res→Prop)→Prop
 | [.row r_l, .v (.agg [.w64 a, .w64 b])],R=>r_l=(deS r_l).map slE∧(deS r_l).length≤9223372036854775807∧R (.v (.tuple [.int .i64 (mx0 (fnS (deS r_l) a b)), .bool (decide (fnS (deS r_l) a b≥0))]))
 |_,_=>False

def y8:List Arg→(Res→Prop)→Prop
 | [.row r_l],R=>r_l=(deS r_l).map slE∧(deS r_l).length≤1000000∧R (.vrow 46 7 ((deS r_l).map slE))
 |_,_=>False

def Ru:AV:= .func (.func 85) [] [.ptr 1 0 0 true]
def LP(l:List Sl)(a b:BitVec 64)(p:Nat):St:=
 ⟨[.vsl 0 0 (l.map slE).length,Ru, .any, .any, .any, .any, .any, .int .i64 (l.map slE).length, .int .i64 p, .any, .any, .any, .any, .any, .any, .any, .any, .any, .any],[some ⟨false,46,7,true,l.map slE⟩,some ⟨true,25,2,true,[.agg [.w64 a, .w64 b]]⟩]⟩
def Rs:Modes:=⟨[1,1,0,0,0,0,0,1,2,0,0,0,0,0,0,0,0,0,0],[],[],[],[]⟩
def gfM:Modes:=⟨[1,1,0,0,0,0,0,1,1,0,0,0,0,0,0,0,0,0,0],[],[],[],[]⟩
def Rt:Modes:=⟨[0,0,0,0,2,0,0,0,0,0,0,0,0,0,0,0,0,0,0],[],[],[],[]⟩
def gfH(l:List Sl)(a b:BitVec 64):List Hint:=[.linv _ 0 (LP l a b) (fnI l a b) (fun p=>l.length+1-p) Rs gfM Rt (fun _=>[]) fun p=>
 [.fork [.dy, .cell (slE (at' l p)), .fork [.fork [] [.nw]] [.nw]] []]]

def Hh(l:List Sl)(p:Nat):St:=
 ⟨[.any, .any, .any, .int .i64 (frS (l.take p)), .any, .any, .vsl 0 0 (l.map slE).length, .int .i64 (l.map slE).length, .int .i64 p, .any, .any, .any, .any, .any, .any, .any, .any, .any, .any],[some ⟨false,46,7,true,l.map slE⟩]⟩
def Rv:Modes:=⟨[0,0,0,2,0,0,1,1,2,0,0,0,0,0,0,0,0,0,0],[],[],[],[]⟩
def gcM:Modes:=⟨[0,0,0,1,0,0,1,1,1,0,0,0,0,0,0,0,0,0,0],[],[],[],[]⟩
def Rw:Modes:=⟨[0,0,0,1,0,0,0,0,0,0,0,0,0,0,0,0,0,0,0],[],[],[],[]⟩
def gcH(l:List Sl):List Hint:=[.linv _ 0 (Hh l) (fun p=>p≤l.length) (fun p=>l.length+1-p) Rv gcM Rw (fun _=>[]) fun p=>
 [.fork [.dy, .cell (slE (at' l p)), .fork [.nw, .nw] [.nw]] []]]

def G7(F:List En→List AV)(l:List Sl)(p:Nat):St:=
 ⟨[.any, .any, .any, .vsl 1 0 (ensS (l.take p)).length, .any, .any, .vsl 0 0 (l.map slE).length, .int .i64 (l.map slE).length, .int .i64 p, .any, .any, .any, .any, .any, .any, .any, .any, .any, .any, .any, .any],[some ⟨false,46,7,true,l.map slE⟩,some ⟨true,44,6,true,F (ensS (l.take p))⟩]⟩
def Rq:Modes:=⟨[0,0,0,1,0,0,1,1,2,0,0,0,0,0,0,0,0,0,0,0,0],[],[],[],[(3,44,6)]⟩
def gnM:Modes:=⟨[0,0,0,1,0,0,1,1,1,0,0,0,0,0,0,0,0,0,0,0,0],[],[],[],[]⟩
def Rr:Modes:=⟨[0,0,0,1,0,0,0,0,0,0,0,0,0,0,0,0,0,0,0,0,0],[],[],[],[]⟩
def gnH(F:List En→List AV)(l:List Sl):List Hint:=[.linv _ 0 (G7 F l) (fun p=>p≤l.length) (fun p=>l.length+1-p) Rq gnM Rr (fun _=>[]) fun p=>
 [.fork [.dy, .cell (slE (at' l p)), .fork [.rows (F (ensS (l.take (p+1)))), .nw] [.nw]] []]]

def Hj(F:List Sl→List AV)(l:List Sl)(w:List Wr)(p:Nat):St:=
 ⟨[.any, .any, .any, .any, .any, .vsl 2 0 (F l).length, .any, .any, .any, .any, .vsl 1 0 (w.map wrE).length, .int .i64 (w.map wrE).length, .int .i64 p, .any, .any, .any, .any, .any, .any, .any, .any, .any, .any, .any, .any, .any, .any, .any],[some ⟨false,46,7,true,l.map slE⟩,some ⟨false,48,8,true,w.map wrE⟩,some ⟨true,46,7,true,F (apL l (w.take p))⟩]⟩
def Rx:Modes:=⟨[0,0,0,0,0,1,0,0,0,0,1,1,2,0,0,0,0,0,0,0,0,0,0,0,0,0,0,0],[],[],[],[]⟩
def gaM:Modes:=⟨[0,0,0,0,0,1,0,0,0,0,1,1,1,0,0,0,0,0,0,0,0,0,0,0,0,0,0,0],[],[],[],[]⟩
def Ry:Modes:=⟨[0,0,0,0,0,1,0,0,0,0,0,0,0,0,0,0,0,0,0,0,0,0,0,0,0,0,0,0],[],[],[],[]⟩
def gaH(F:List Sl→List AV)(l:List Sl)(w:List Wr):List Hint:=[.nm (F l), .linv _ 0 (Hj F l w) (fun p=>p≤w.length) (fun p=>w.length+1-p) Rx gaM Ry (fun _=>[]) fun p=>
 [.fork [.dy, .cell (wrE (at' w p)), .fork [.dy, .rows (F (apL l (w.take (p+1)))), .nw] [.nw]] []]]

noncomputable def pH:List (FuncId×Sx.Spec):=[(64,ey [none] nW)]

theorem G8(p:Int)(o:Bool)(v w m n:BitVec 64)(k j z:Int)(r:AV):run pH Tryz.prog 44 [.agg [.int .i64 p, .bool o, .w64 v, .w64 w, .w64 m, .w64 n, .int .i64 k, .int .i64 j], .int .i64 z] [] [.fork [.fork [.fork [] [.fork [] []]] []] []] (eM (.v r))=
  (let f:=Decidable.decide (p<z);let d:=AV.bool false=r;let c:=(0:Int);let e:=Decidable.decide (c≤p);let b:=BitVec.ofInt (64:Nat) c;let a:=o==false&&(v==b&&w==b&&(m==b&&n==b)&&(k==c&&j==c));((e=true→(f=true→(a=true→AV.bool true=r)∧(a=false→(o=true→AV.bool (rtE (En.mk v w m n k j))=r)∧(o=false→d)))∧(f=false→d))∧(e=false→d))):=by kernel_rfl

theorem DT:∀e∈pH,eJ Tryz.prog e.1 e.2:=by
 intro e he
 simp only[pH,List.mem_cons,List.not_mem_nil,or_false] at he
 rcases he with rfl
 ·exact nV

theorem JG:eJ Tryz.prog 44 (ey [none,none] DS):=by
 refine eK (eS (l:=pH) DT mixed noNG) fun l R hF=> ?_
 unfold DS at hF
 split at hF
 ·rename_i p o v w m n k j z
  refine⟨_,hF,rfl,[.fork [.fork [.fork [] [.fork [] []]] []] []], ?_⟩
  show run pH Tryz.prog _ [.agg [.int .i64 p, .bool o, .w64 v, .w64 w, .w64 m, .w64 n, .int .i64 k, .int .i64 j], .int .i64 z] [] _ _
  rw[G8];(conv=>zeta)
  have hs:∀{x:Bool},rtS ⟨o,⟨v,w,m,n,k,j⟩⟩=x→(0≤p∧p<z)→AV.bool x= .bool (kY ⟨p,⟨o,⟨v,w,m,n,k,j⟩⟩⟩ z):=fun h h2=>by rw[x7 h2,h]
  have hn:¬(0≤p∧p<z)→AV.bool false= .bool (kY ⟨p,⟨o,⟨v,w,m,n,k,j⟩⟩⟩ z):=fun h=>by rw[I7 h]
  rw[Qc]
  refine⟨fun h=>⟨fun h1=> ?_,fun h1=>hn ?_⟩,fun h=>hn ?_⟩
  ·have h:=of_decide_eq_true h
   have h1:=of_decide_eq_true h1
   refine⟨fun h2=>hs ?_ ⟨h,h1⟩,fun h2=>⟨fun h3=>hs ?_ ⟨h,h1⟩,fun h3=>hs ?_ ⟨h,h1⟩⟩⟩
   ·unfold rtS;rw[h2];rfl
   ·unfold rtS;rw[h2,h3];rfl
   ·unfold rtS;rw[h2,h3];rfl
  ·have:=of_decide_eq_false h1;omega
  ·have:=of_decide_eq_false h;omega
 ·exact hF.elim

noncomputable def m4:List (FuncId×Sx.Spec):=[(86,ey [none,none] xa)]

theorem D1(l:List Sl)(a b:BitVec 64)(r:AV):run m4 Tryz.prog 45 [.vsl 0 0 (l.map slE).length, .agg [.w64 a, .w64 b]] [some ⟨false,(pSl.getD (0,0)).1,(pSl.getD (0,0)).2,true,(l.map slE)⟩] (gfH l a b) (eM (.v r))=
  (let A:=fnI l a b;let w:=AV.w64;let u:=List.length l;let q:=(1:Nat);let o:=(0:Int);let m:=(0:Nat);let x:=[AV.ptr (m+q) m m true];let k:=AV.int IntKind.i64;let j:=AV.any;let i:=Blk.mk false (46:TypeId) (7:Nat) true (List.map slE l);let h:=List.length (List.map slE l);let s:=(↑h:Int);((St.mk [AV.vsl m m h,AV.func (Fn.func (85:Nat)) [] x,j,j,j,j,j,k s,k o,j,j,j,j,j,j,j,j,j,j] [some i,some (Blk.mk true (25:Nat) (2:Nat) true [AV.agg [w a,w b]])]=LP l a b m∧A m)∧∀(c:Nat),let y:=at' l c;let n:=(↑c:Int);let z:=Decidable.decide (n<s);let t:=inRange IntKind.i64 (n+(1:Int));let g:=Sl.e y;let B:=wmB g.1 g.2 g.3 g.4 a b;let f:=St.mk [AV.vsl m m h,AV.func (Fn.func (85:FuncId)) [] x,j,j,j,j,j,k s,k (n+(1:Int)),j,j,j,j,j,j,j,j,j,j] [some i,some (Blk.mk true (25:TypeId) (2:Nat) true [AV.agg [w a,w b]])];A c→(z=true→(o≤n∧n<s)∧Blk.read Proofs.Tryz.prog i (46:Nat) (m+Int.toNat n) m=some (AV.agg [AV.bool y.1,w g.1,w g.2,w g.3,w g.4,k g.5,k g.6])∧(y.1=true→(B=true→AV.tuple [k (if o>n then o else n),AV.bool (Decidable.decide (n≥o))]=r)∧(B=false→t∧∃(d:Nat),f=LP l a b d∧A d∧u+q-d<u+q-c))∧(y.1=false→t∧∃(e:Nat),f=LP l a b e∧A e∧u+q-e<u+q-c))∧(z=false→AV.tuple [k (if o>(-1:Int) then o else (-1:Int)),AV.bool (Decidable.decide ((-1:Int)≥o))]=r))):=by kernel_rfl

theorem Bo:∀e∈m4,eJ Tryz.prog e.1 e.2:=by
 intro e he
 simp only[m4,List.mem_cons,List.not_mem_nil,or_false] at he
 rcases he with rfl
 ·exact Gf

theorem Hd:eJ Tryz.prog 45 (ey [pSl,none] Ee):=by
 refine eK (eS (l:=m4) Bo mixed noNG) fun l R hF=> ?_
 unfold Ee at hF
 split at hF
 ·rename_i r_l a b
  obtain⟨hr_l,hl,hF⟩:=hF
  generalize deS r_l=l at hr_l hl hF
  subst hr_l
  refine⟨_,hF,rfl,(gfH l a b), ?_⟩
  show run m4 Tryz.prog _ [.vsl 0 0 (l.map slE).length, .agg [.w64 a, .w64 b]] [some ⟨false,(pSl.getD (0,0)).1,(pSl.getD (0,0)).2,true,(l.map slE)⟩] _ _
  rw[D1];(conv=>zeta)
  refine⟨⟨rfl,Nat.zero_le _,fun j hj=>by omega⟩, ?_⟩
  rintro p ⟨h1,h2⟩
  refine⟨fun hlt=> ?_,fun hge=> ?_⟩
  ·have hp:p<l.length:=by simp only[decide_eq_true_eq,List.length_map] at hlt;omega
   have B:0≤(p:Int)∧(p:Int)< ((l.map slE).length:Int):=by rw[List.length_map];omega
   refine⟨B,eL B.1 B.2 (fX _),fun ho=>⟨fun hm=> ?_,fun hm=>⟨inR (by omega) (by omega),p+1,rfl,⟨by omega,up h2 ?_⟩,by omega⟩⟩,fun ho=>⟨inR (by omega) (by omega),p+1,rfl,⟨by omega,up h2 ?_⟩,by omega⟩⟩
   ·have hm:mtS a b (at' l p)=true:=by unfold mtS;rw[ho];exact hm
    rw[(pP l a b).uniq (.inr ⟨p,rfl,hp,hm,h2⟩)]
    rfl
   ·unfold mtS;rw[ho];exact hm
   ·unfold mtS;rw[ho];rfl
  ·have hp:p=l.length:=by simp only[decide_eq_false_iff_not,List.length_map] at hge;omega
   subst hp
   rw[(pP l a b).uniq (.inl ⟨rfl,h2⟩)]
   rfl
 ·exact hF.elim

noncomputable def mS:List (FuncId×Sx.Spec):=[(45,ey [pSl,none] Ee)]

theorem DK(l:List Sl)(a b:BitVec 64)(r:AV):run mS Tryz.prog 15 [.vsl 0 0 (l.map slE).length, .agg [.w64 a, .w64 b]] [some ⟨false,(pSl.getD (0,0)).1,(pSl.getD (0,0)).2,true,(l.map slE)⟩] [.fork [] [.dy, .cell (.int .i64 (at' l (fnS l a b).toNat).e.act)]] (eM (.v r))=
  (let j:=(0:Nat);let i:=List.map slE l;let g:=AV.int IntKind.i64 (Sl.e (at' l (Int.toNat (fnS l a b)))).6;let d:=List.length i;let c:=List.take (d) (List.drop j i);let f:=fnS (deS (c)) a b;let h:= !Decidable.decide (f≥(0:Int));(j+d≤d∧c=List.map slE (deS (c))∧List.length (deS (c))≤(9223372036854775807:Nat)∧(h=true→AV.int IntKind.i64 (0:Int)=r)∧(h=false→((0:Int)≤mx0 (f)∧mx0 (f)< (↑(d):Int))∧Blk.read Proofs.Tryz.prog (Blk.mk false (46:TypeId) (7:Nat) true i) (3:Nat) (j+Int.toNat (mx0 (f))) (j+(1:Nat)+(5:Nat))=some (g)∧g=r))):=by kernel_rfl

theorem A1:∀e∈mS,eJ Tryz.prog e.1 e.2:=by
 intro e he
 simp only[mS,List.mem_cons,List.not_mem_nil,or_false] at he
 rcases he with rfl
 ·exact Hd

theorem we:eJ Tryz.prog 15 (ey [pSl,none] rL):=by
 refine eK (eS (l:=mS) A1 mixed noNG) fun l R hF=> ?_
 unfold rL at hF
 split at hF
 ·rename_i r_l a b
  obtain⟨hr_l,hl,hF⟩:=hF
  generalize deS r_l=l at hr_l hl hF
  subst hr_l
  refine⟨_,hF,rfl,[.fork [] [.dy, .cell (.int .i64 (at' l (fnS l a b).toNat).e.act)]], ?_⟩
  show run mS Tryz.prog _ [.vsl 0 0 (l.map slE).length, .agg [.w64 a, .w64 b]] [some ⟨false,(pSl.getD (0,0)).1,(pSl.getD (0,0)).2,true,(l.map slE)⟩] _ _
  rw[DK];(conv=>zeta)
  rw[eT,fG]
  refine⟨by omega,rfl,hl,fun h=> ?_,fun h=> ?_⟩
  ·have h:=of_decide_eq_false (kg h)
   unfold tlS
   rw[if_pos (by omega)]
  ·have h:=of_decide_eq_true (iR h)
   have B:0≤fnS l a b∧fnS l a b< ((l.map slE).length:Int):=by
    rcases pP l a b with⟨h1,_⟩| ⟨i,h1,h2,_⟩
    ·omega
    ·rw[h1,List.length_map];omega
   rw[Oe h]
   refine⟨B,eL B.1 B.2 (NI _), ?_⟩
   unfold tlS
   rw[if_neg (by omega)]
 ·exact hF.elim

theorem DZ(l:List Sl)(r:AV):run [] Tryz.prog 25 [.vsl 0 0 (l.map slE).length] [some ⟨false,(pSl.getD (0,0)).1,(pSl.getD (0,0)).2,true,(l.map slE)⟩] (gcH l) (eM (.v r))=
  (let u:=(1:Nat);let o:=inRange IntKind.i64;let k:=(0:Nat);let h:=List.length l;let g:=Blk.mk false (46:TypeId) (7:Nat) true (List.map slE l);let f:=AV.int IntKind.i64;let e:=AV.any;let d:=List.length (List.map slE l);let q:=(↑d:Int);((St.mk [e,e,e,f (0:Int),e,e,AV.vsl k k d,f q,f (0:Int),e,e,e,e,e,e,e,e,e,e] [some g]=Hh l k∧Nat.le k (h))∧∀(a:Nat),let t:=at' l a;let s:=(↑a:Int);let n:=s<q;let m:=frS (List.take a l);let j:=s+(1:Int);let i:=Sl.e t;Nat.le a (h)→(Decidable.decide (n)=true→((0:Int)≤s∧n)∧Blk.read Proofs.Tryz.prog g (46:Nat) (k+Int.toNat s) k=some (AV.agg [AV.bool t.1,AV.w64 i.1,AV.w64 i.2,AV.w64 i.3,AV.w64 i.4,f i.5,f i.6])∧((!t.1)=true→o (m+(1:Int))∧o j∧∃(b:Nat),St.mk [e,e,e,f (m+(1:Int)),e,e,AV.vsl k k d,f q,f j,e,e,e,e,e,e,e,e,e,e] [some g]=Hh l b∧Nat.le b (h)∧h+u-b<h+u-a)∧((!t.1)=false→o j∧∃(c:Nat),St.mk [e,e,e,f (m),e,e,AV.vsl k k d,f q,f j,e,e,e,e,e,e,e,e,e,e] [some g]=Hh l c∧Nat.le c (h)∧h+u-c<h+u-a))∧(Decidable.decide (n)=false→f (m)=r))):=by kernel_rfl

theorem wk:eJ Tryz.prog 25 (ey [pSl] rN):=by
 refine eK fq fun l R hF=> ?_
 unfold rN at hF
 split at hF
 ·rename_i r_l
  obtain⟨hr_l,hl,hF⟩:=hF
  generalize deS r_l=l at hr_l hl hF
  subst hr_l
  refine⟨_,hF,rfl,(gcH l), ?_⟩
  show run [] Tryz.prog _ [.vsl 0 0 (l.map slE).length] [some ⟨false,(pSl.getD (0,0)).1,(pSl.getD (0,0)).2,true,(l.map slE)⟩] _ _
  rw[DZ];(conv=>zeta)
  refine⟨⟨rfl,Nat.zero_le _⟩, ?_⟩
  intro p (hp:p≤l.length)
  refine⟨fun hlt=> ?_,fun hge=> ?_⟩
  ·have hlt:p<l.length:=by simp only[decide_eq_true_eq,List.length_map] at hlt;omega
   have B:0≤(p:Int)∧(p:Int)< ((l.map slE).length:Int):=by rw[List.length_map];omega
   have e:frS (l.take (p+1))=if (at' l p).ok then frS (l.take p) else frS (l.take p)+1:=by rw[gX hlt,JM]
   have hb:frS (l.take p)≤p∧0≤frS (l.take p):=by
    have:=fJ (l.take p)
    unfold frS
    rw[List.length_take] at*
    omega
   refine⟨B,eL B.1 B.2 (fX _),fun ho=> ?_,fun ho=> ?_⟩
   ·rw[kg ho] at e
    refine⟨inR (by omega) (by omega),inR (by omega) (by omega),p+1, ?_,hlt,by omega⟩
    unfold Hh
    rw[e];rfl
   ·rw[iR ho] at e
    refine⟨inR (by omega) (by omega),p+1, ?_,hlt,by omega⟩
    unfold Hh
    rw[e];rfl
  ·have hp:p=l.length:=by simp only[decide_eq_false_iff_not,List.length_map] at hge;omega
   subst hp
   rw[List.take_length]
 ·exact hF.elim

theorem vo(l:List Sl)(F:List En→List AV)(es:List AV):run [] Tryz.prog 54 [.vsl 0 0 (l.map slE).length] [some ⟨false,(pSl.getD (0,0)).1,(pSl.getD (0,0)).2,true,(l.map slE)⟩] (gnH F l) (eM (.vrow 44 6 es))=
  (let t:=AV.w64;let n:=List.length l;let m:=(1:Nat);let k:=Blk.mk true (44:TypeId) (6:Nat) true;let j:=(0:Nat);let i:=AV.int IntKind.i64;let h:=AV.any;let f:=List.length (List.map slE l);let v:=(↑f:Int);let e:=Blk.mk false (46:TypeId) (7:Nat) true (List.map slE l);((St.mk [h,h,h,AV.vsl (List.length [some e]) j j,h,h,AV.vsl j j f,i v,i (0:Int),h,h,h,h,h,h,h,h,h,h,h,h] ([some e]++[some (k [])])=G7 F l j∧Nat.le j (n))∧∀(a:Nat),let x:=at' l a;let w:=(↑a:Int);let u:=F (ensS (List.take (a+m) l));let s:=w<v;let q:=w+(1:Int);let g:=ensS (List.take a l);let r:=List.length g;let d:=Sl.e x;let o:=[AV.agg [t d.1,t d.2,t d.3,t d.4,i d.5,i d.6]];Nat.le a (n)→(Decidable.decide (s)=true→((0:Int)≤w∧s)∧Blk.read Proofs.Tryz.prog e (46:Nat) (j+Int.toNat w) j=some (AV.agg [AV.bool x.1,t d.1,t d.2,t d.3,t d.4,i d.5,i d.6])∧(x.1=true→((r+m)*(48:Nat)≤(140737488355328:Nat)∧r+m≤(9223372036854775807:Nat)∧j+m≤List.length o∧r≤List.length (F g))∧List.take (r) (F g)++o=u∧inRange IntKind.i64 q∧∃(b:Nat),St.mk [h,h,h,AV.vsl (j+m) j (r+m),h,h,AV.vsl j j f,i v,i q,h,h,h,h,h,h,h,h,h,h,h,h] [some e,some (Blk.mk true (44:Nat) (6:Nat) true (u))]=G7 F l b∧Nat.le b (n)∧n+m-b<n+m-a)∧(x.1=false→inRange IntKind.i64 q∧∃(c:Nat),St.mk [h,h,h,AV.vsl (j+m) j (r),h,h,AV.vsl j j f,i v,i q,h,h,h,h,h,h,h,h,h,h,h,h] [some e,some (k (F g))]=G7 F l c∧Nat.le c (n)∧n+m-c<n+m-a))∧(Decidable.decide (s)=false→r=List.length es∧some (k (F g))=some (k es)))):=by kernel_rfl

theorem lX:eJ Tryz.prog 54 (ey [pSl] jJ):=by
 refine eK fq fun l R hF=> ?_
 unfold jJ at hF
 split at hF
 ·rename_i r_l
  obtain⟨hr_l,hl,hF⟩:=hF
  generalize deS r_l=l at hr_l hl hF
  subst hr_l
  refine⟨_,hF,trivial,(gnH (List.map enE) l), ?_⟩
  show run [] Tryz.prog _ [.vsl 0 0 (l.map slE).length] [some ⟨false,(pSl.getD (0,0)).1,(pSl.getD (0,0)).2,true,(l.map slE)⟩] _ _
  rw[vo];(conv=>zeta)
  have hle:∀q,(ensS (l.take q)).length≤1000000:=fun q=>by have:=fJ (l.take q);rw[List.length_take] at this;omega
  refine⟨⟨rfl,Nat.zero_le _⟩, ?_⟩
  intro p (hp:p≤l.length)
  refine⟨fun hlt=> ?_,fun hge=> ?_⟩
  ·have hlt:p<l.length:=by simp only[decide_eq_true_eq,List.length_map] at hlt;omega
   have B:0≤(p:Int)∧(p:Int)< ((l.map slE).length:Int):=by rw[List.length_map];omega
   have e:ensS (l.take (p+1))=if (at' l p).ok then ensS (l.take p)++[(at' l p).e] else ensS (l.take p):=by rw[gX hlt,lu]
   refine⟨B,eL B.1 B.2 (fX _),fun ho=> ?_,fun ho=> ?_⟩
   ·rw[ho,if_pos rfl] at e
    have:=hle p
    refine⟨⟨by omega,by omega,by simp,by rw[List.length_map];exact Nat.le_refl _⟩, ?_,inR (by omega) (by omega),p+1, ?_,hlt,by omega⟩
    ·rw[List.take_of_length_le (by rw[List.length_map];exact Nat.le_refl _),e,List.map_append]
     rfl
    ·unfold G7
     rw[e,List.length_append]
     rfl
   ·rw[ho] at e
    refine⟨inR (by omega) (by omega),p+1, ?_,hlt,by omega⟩
    unfold G7
    rw[e];rfl
  ·have hp:p=l.length:=by simp only[decide_eq_false_iff_not,List.length_map] at hge;omega
   subst hp
   rw[List.take_length,List.length_map]
   exact⟨rfl,rfl⟩
 ·exact hF.elim

theorem Bt(l:List Sl)(F:List Sl→List AV)(es:List AV):run [] Tryz.prog 43 [.vsl 0 0 (l.map slE).length] [some ⟨false,(pSl.getD (0,0)).1,(pSl.getD (0,0)).2,true,(l.map slE)⟩] [.ix l.length, .rows (F l)] (eM (.vrow 46 7 es))=
  (let h:=List.length l;let f:=(0:Nat);let e:=AV.lit (Value.int IntKind.i64 (0:Int));let d:=List.length (List.map slE l);let c:=AV.lit (Value.int IntKind.u64 (0:Int));let b:=(↑(d):Int);let g:=Int.toNat b;let a:=(List.replicate (g) (AV.agg [AV.lit (Value.bool false),c,c,c,c,e,e]));(((0:Int)≤b∧b≤b∧b≤(9223372036854775807:Int)∧(↑(56:Nat):Int)*b≤(281474976710656:Int)∧f< (7:Nat))∧(h=Min.min (d) (g)∧f+g≤List.length a∧f+d≤d)∧[]++List.take (h) (List.drop f (List.map slE l))++List.drop (f+h) a=F l∧g=List.length es∧some (Blk.mk true (nat_lit 46) (7:Nat) true (F l))=some (Blk.mk true (46:TypeId) (7:Nat) true es))):=by kernel_rfl

theorem D7:eJ Tryz.prog 43 (ey [pSl] y8):=by
 refine eK fq fun l R hF=> ?_
 unfold y8 at hF
 split at hF
 ·rename_i r_l
  obtain⟨hr_l,hl,hF⟩:=hF
  generalize deS r_l=l at hr_l hl hF
  subst hr_l
  refine⟨_,hF,trivial,[.ix l.length, .rows ((List.map slE) l)], ?_⟩
  show run [] Tryz.prog _ [.vsl 0 0 (l.map slE).length] [some ⟨false,(pSl.getD (0,0)).1,(pSl.getD (0,0)).2,true,(l.map slE)⟩] _ _
  rw[Bt];(conv=>zeta)
  have e:(((l.map slE).length:Int)).toNat=l.length:=by rw[List.length_map];rfl
  rw[e,List.length_replicate,List.length_map]
  refine⟨⟨by omega,by omega,by omega,by omega,by decide⟩,⟨by omega,by omega,by omega⟩, ?_,rfl,rfl⟩
  rw[List.nil_append,zF rfl,List.drop_eq_nil_of_le (by rw[List.length_replicate];omega),List.append_nil]
 ·exact hF.elim

noncomputable def lp:List (FuncId×Sx.Spec):=[(43,ey [pSl] y8),
 (44,ey [none,none] DS)]

theorem Bw(l:List Sl)(w:List Wr)(F:List Sl→List AV)(es:List AV):run lp Tryz.prog 14 [.vsl 0 0 (l.map slE).length, .vsl 1 0 (w.map wrE).length] [some ⟨false,(pSl.getD (0,0)).1,(pSl.getD (0,0)).2,true,(l.map slE)⟩,some ⟨false,(pWr.getD (0,0)).1,(pWr.getD (0,0)).2,true,(w.map wrE)⟩] (gaH F l w) (eM (.vrow 46 7 es))=
  (let D:=AV.w64;let v:=List.map slE;let C:=List.length (v l);let u:=List.length (F l);let t:=Blk.mk true (46:TypeId) (7:Nat) true;let s:=List.length w;let r:=(1:Nat);let n:=Blk.mk false (46:TypeId) (7:Nat) true (v l);let m:=(0:Nat);let G:=AV.vsl (m+r+r) m (u);let k:=AV.int IntKind.i64;let j:=List.length (List.map wrE w);let z:=(↑j:Int);let i:=Blk.mk false (48:TypeId) (8:Nat) true (List.map wrE w);let h:=AV.any;let f:=List.take (C) (List.drop m (v l));let E:=deS (f);(m+C≤C∧f=v E∧List.length E≤(1000000:Nat)∧(v E=F l∧List.length (v E)=u)∧(St.mk [h,h,h,h,h,G,h,h,h,h,AV.vsl (m+r) m j,k z,k (0:Int),h,h,h,h,h,h,h,h,h,h,h,h,h,h,h] [some n,some i,some (t (F l))]=Hj F l w m∧Nat.le m (s))∧∀(a:Nat),let A:=F (apL l (List.take (a+r) w));let y:=(↑a:Int);let H:=Decidable.decide (y<z);let B:=inRange IntKind.i64 (y+(1:Int));let x:=at' w a;let g:=t (F (apL l (List.take a w)));let e:=St.mk [h,h,h,h,h,G,h,h,h,h,AV.vsl (m+r) m j,k z,k (y+(1:Int)),h,h,h,h,h,h,h,h,h,h,h,h,h,h,h];let d:=Sl.e (Wr.s x);let q:=AV.agg [AV.bool (Wr.s x).1,D d.1,D d.2,D d.3,D d.4,k d.5,k d.6];let o:=kY (Wr.mk x.1 (Sl.mk (Wr.s x).1 (En.mk d.1 d.2 d.3 d.4 d.5 d.6))) (↑(u):Int);Nat.le a (s)→(H=true→((0:Int)≤y∧y<z)∧Blk.read Proofs.Tryz.prog i (48:Nat) (m+Int.toNat y) m=some (AV.agg [k x.1,AV.bool (Wr.s x).1,D d.1,D d.2,D d.3,D d.4,k d.5,k d.6])∧(o=true→((0:Int)≤x.1∧x.1< (↑(u):Int))∧Blk.fits g (m+Int.toNat x.1) m q=true∧Blk.writes g (m+Int.toNat x.1) m q A∧B∧∃(b:Nat),e [some n,some i,some (Blk.mk true (nat_lit 46) (7:Nat) true A)]=Hj F l w b∧Nat.le b (s)∧s+r-b<s+r-a)∧(o=false→B∧∃(c:Nat),e [some n,some i,some g]=Hj F l w c∧Nat.le c (s)∧s+r-c<s+r-a))∧(H=false→u=List.length es∧some g=some (t es)))):=by kernel_rfl

theorem yI:∀e∈lp,eJ Tryz.prog e.1 e.2:=by
 intro e he
 simp only[lp,List.mem_cons,List.not_mem_nil,or_false] at he
 rcases he with rfl|rfl
 ·exact D7
 ·exact JG

theorem oO:eJ Tryz.prog 14 (ey [pSl,pWr] na):=by
 refine eK (eS (l:=lp) yI mixed noNG) fun l R hF=> ?_
 unfold na at hF
 split at hF
 ·rename_i r_l r_w
  obtain⟨hr_l,hl,hF⟩:=hF
  generalize deS r_l=l at hr_l hl hF
  subst hr_l
  obtain⟨hr_w,hw,hF⟩:=hF
  generalize deW r_w=w at hr_w hw hF
  subst hr_w
  refine⟨_,hF,trivial,(gaH (List.map slE) l w), ?_⟩
  show run lp Tryz.prog _ [.vsl 0 0 (l.map slE).length, .vsl 1 0 (w.map wrE).length] [some ⟨false,(pSl.getD (0,0)).1,(pSl.getD (0,0)).2,true,(l.map slE)⟩,some ⟨false,(pWr.getD (0,0)).1,(pWr.getD (0,0)).2,true,(w.map wrE)⟩] _ _
  rw[Bw];(conv=>zeta)
  have hlw:∀q,(apL l (w.take q)).length=l.length:=fun q=>gk _ _
  rw[eT,fG]
  refine⟨by omega,rfl,by omega,⟨rfl,rfl⟩,⟨rfl,Nat.zero_le _⟩, ?_⟩
  intro p (hp:p≤w.length)
  rw[List.length_map (f:=slE)]
  refine⟨fun hlt=> ?_,fun hge=> ?_⟩
  ·have hlt:p<w.length:=by simp only[decide_eq_true_eq,List.length_map] at hlt;omega
   have B:0≤(p:Int)∧(p:Int)< ((w.map wrE).length:Int):=by rw[List.length_map];omega
   have e:apL l (w.take (p+1))=apS (apL l (w.take p)) (at' w p):=by rw[gX hlt,KJ]
   refine⟨B,eL B.1 B.2 (kL _),fun hm=> ?_,fun hm=> ?_⟩
   ·have hm:kY (at' w p) l.length=true:=hm
    have hi:=Lz hm
    have hi2:(at' w p).p< ((apL l (w.take p)).length:Int):=by rw[hlw];exact hi.2
    refine⟨hi,JO hi.1 hi2 rfl,KR (x:=(at' w p).s) hi.1 hi2 rfl ?_,inR (by omega) (by omega),p+1,by unfold Hj;rw[List.length_map (f:=slE)];rfl,hlt,by omega⟩
    rw[e]
    unfold apS
    rw[hlw,if_pos hm]
   ·have hm:kY (at' w p) l.length=false:=hm
    refine⟨inR (by omega) (by omega),p+1, ?_,hlt,by omega⟩
    have e2:apL l (w.take (p+1))=apL l (w.take p):=by
     rw[e];unfold apS;rw[hlw,hm];rfl
    unfold Hj
    rw[e2,List.length_map (f:=slE)];rfl
  ·have hp:p=w.length:=by simp only[decide_eq_false_iff_not,List.length_map] at hge;omega
   subst hp
   rw[List.take_length,List.length_map,gk]
   exact⟨rfl,rfl⟩
 ·exact hF.elim

end Go.Proofs.YtcabofadpheomaaGreat.L1
end

