/-
 Texts in one: L11T L11C L11M L11P L11R.
-/
import Derived.Test.YtcabofadpheomaaGreatL5a
import Derived.Test.YtcabofadpheomaaGreatMa
import Derived.Test.YtcabofadpheomaaGreatL5S

section
namespace Go.Proofs.YtcabofadpheomaaGreat.L1
open Go.Sx Go.Sx.M

def spE(s:Sp):AV:= .agg [.int .i64 s.k, .w64 s.e.v, .w64 s.e.w, .w64 s.e.m, .w64 s.e.n, .int .i64 s.e.len, .int .i64 s.e.act]

def Qg(x:AV):Sp:=⟨cI (x.cells.getD 0 .any),⟨cW (x.cells.getD 1 .any),cW (x.cells.getD 2 .any),cW (x.cells.getD 3 .any),cW (x.cells.getD 4 .any),cI (x.cells.getD 5 .any),cI (x.cells.getD 6 .any)⟩⟩
def deSp(l:List AV):List Sp:=l.map Qg
theorem BW(l:List Sp):deSp (l.map spE)=l:=by
 unfold deSp
 rw[List.map_map]
 exact List.map_id l

def pSp:Par:=some (88,7)

theorem zN(s:Sp):e7 Tryz.prog 88 (spE s).cells 0=some (spE s):=by kernel_rfl
theorem PB(s:Sp):e7 Tryz.prog 3 (spE s).cells 0=some (.int .i64 s.k):=by kernel_rfl

end Go.Proofs.YtcabofadpheomaaGreat.L1
end

section
namespace Go.Proofs.YtcabofadpheomaaGreat.L1
open Go.Sx Go.Sx.M

def tJ:List Arg→(Res→Prop)→Prop
 | [.row r_l],R=>r_l=(deE r_l).map enE∧(deE r_l).length≤1000000∧R (.vrow 44 6 ((onE (deE r_l)).map enE))
 |_,_=>False

def nS:List Arg→(Res→Prop)→Prop
 | [.row r_l, .row r_m],R=>r_l=(deE r_l).map enE∧(deE r_l).length≤1000000∧r_m=(deE r_m).map enE∧(deE r_m).length≤1000000∧R (.vrow 88 7 ((stE (deE r_l) (deE r_m)).map spE))
 |_,_=>False

def suU(a b:List En)(p:Nat):List Sp:=(b.take p).flatMap (stU a)
def suV(a b:List En)(p:Nat):List Sp:=b.flatMap (stU a)++(a.reverse.take p).flatMap (stV b)
def soE(l:List En):List En:=srE (onE l)

theorem HY{a b:List En}{p:Nat}(hp:p<b.length):suU a b (p+1)=suU a b p++stU a (at' b p):=by
 have e:b.take (p+1)=b.take p++[at' b p]:=by rw[List.take_add_one,eZ hp];rfl
 unfold suU
 rw[e,List.flatMap_append]
 simp

theorem HX{a b:List En}{p:Nat}(hp:p<a.length):suV a b (p+1)=suV a b p++stV b (at' a (a.length-1-p)):=by
 have e:a.reverse.take (p+1)=a.reverse.take p++[at' a (a.length-1-p)]:=by
  rw[List.take_add_one]
  congr 1
  rw[List.getElem?_reverse hp,eZ (by omega)];rfl
 unfold suV
 rw[e,List.flatMap_append,List.append_assoc]
 simp

theorem yM{f:En→List Sp}(hf:∀y,(f y).length≤1)(b:List En):(b.flatMap f).length≤b.length:=by
 induction b with
 |nil=>exact Nat.le_refl _
 |cons y b ih=>
  rw[List.flatMap_cons,List.length_append,List.length_cons]
  have:=hf y
  omega

theorem NE(a b:List En)(p:Nat):(suU a b p).length≤p:=Nat.le_trans (yM (xn a) _) (by rw[List.length_take];omega)
theorem ND(a b:List En)(p:Nat):(suV a b p).length≤b.length+p:=by
 unfold suV
 rw[List.length_append]
 have h1:=yM (xn a) b
 have h2:=yM (EP b) (a.reverse.take p)
 rw[List.length_take] at h2
 omega

end Go.Proofs.YtcabofadpheomaaGreat.L1
end

section
namespace Go.Proofs.YtcabofadpheomaaGreat.L1
open Go.Sx Go.Sx.M

def zA(x:En):En:=⟨x.v,x.w,x.m,x.n,x.len,0⟩

theorem Mz{x y:En}:zA x=zA y↔alE x y=true:=by
 unfold zA alE
 simp only[En.mk.injEq,and_true,Bool.and_eq_true,beq_iff_eq]
 constructor
 ·rintro⟨a,b,c,d,e⟩;exact⟨⟨⟨a,b⟩,c,d⟩,e⟩
 ·rintro⟨⟨⟨a,b⟩,c,d⟩,e⟩;exact⟨a,b,c,d,e⟩

def fwL(l:List En)(k:Nat):List (En×Int):=(List.range' k (l.length-k)).map fun i=>(zA (at' l i),(i:Int))

theorem rP(l:List En):fwL l l.length=[]:=by unfold fwL;simp

theorem tS{l:List En}{k:Nat}(h:k<l.length):fwL l k=(zA (at' l k),(k:Int))::fwL l (k+1):=by
 unfold fwL
 obtain⟨d,hd⟩:∃d,l.length-k=d+1:=⟨l.length-k-1,by omega⟩
 rw[hd,List.range'_succ,List.map_cons,show l.length-(k+1)=d from by omega]

theorem JQ(l:List En)(x:En):∀d k,k+d=l.length→(fiG (zA x) (fwL l k)=none∧∀j,k≤j→j<l.length→alE (at' l j) x=false)∨
  ∃i:Nat,k≤i∧i<l.length∧fiG (zA x) (fwL l k)=some (i:Int)∧alE (at' l i) x=true∧∀j,k≤j→j<i→alE (at' l j) x=false
 |0,k,h=>by
  obtain rfl:k=l.length:=by omega
  rw[rP]
  exact .inl ⟨rfl,fun j h1 h2=>by omega⟩
 |d+1,k,h=>by
  rw[tS (by omega),fiG]
  cases ha:alE (at' l k) x with
  |true=>exact .inr ⟨k,Nat.le_refl _,by omega,by rw[if_pos (Mz.2 ha)],ha,fun j h1 h2=>by omega⟩
  |false=>
   rw[if_neg (fun e=>by rw[Mz.1 e] at ha;cases ha)]
   rcases JQ l x d (k+1) (by omega) with⟨h1,h2⟩| ⟨i,h1,h2,h3,h4,h5⟩
   ·refine .inl ⟨h1,fun j hj1 hj2=> ?_⟩
    rcases Nat.eq_or_lt_of_le hj1 with rfl|hj1
    ·exact ha
    ·exact h2 j hj1 hj2
   ·refine .inr ⟨i,by omega,h2,h3,h4,fun j hj1 hj2=> ?_⟩
    rcases Nat.eq_or_lt_of_le hj1 with rfl|hj1
    ·exact ha
    ·exact h5 j hj1 hj2

def fqI(l:List En)(x:En):Int:=(fiG (zA x) (fwL l 0)).getD 0
def fqB(l:List En)(x:En):Bool:=(fiG (zA x) (fwL l 0)).isSome

theorem Fv(l:List En)(x:En):(fqB l x=false∧∀j,j<l.length→alE (at' l j) x=false)∨∃i:Nat,i<l.length∧fqB l x=true∧fqI l x=i∧alE (at' l i) x=true∧∀j,j<i→alE (at' l j) x=false:=by
 unfold fqB fqI
 rcases JQ l x l.length 0 (Nat.zero_add _) with⟨h1,h2⟩| ⟨i,_,h2,h3,h4,h5⟩
 ·exact .inl ⟨by rw[h1];rfl,fun j hj=>h2 j (Nat.zero_le _) hj⟩
 ·exact .inr ⟨i,h2,by rw[h3];rfl,by rw[h3];rfl,h4,fun j hj=>h5 j (Nat.zero_le _) hj⟩

theorem OA{l:List En}{p:Nat}(hp:p<l.length):(fqI l (at' l p)==(p:Int))= !(l.take p).any fun y=>alE y (at' l p):=by
 rcases Fv l (at' l p) with⟨_,h⟩| ⟨i,h1,_,h3,h4,h5⟩
 ·have:=h p hp
  rw[g9] at this;cases this
 ·have hip:i≤p:=Nat.le_of_not_lt fun hlt=>by
   have:=h5 p hlt
   rw[g9] at this;cases this
  rw[h3]
  rcases Nat.eq_or_lt_of_le hip with rfl|hlt
  ·have:(l.take i).any (fun y=>alE y (at' l i))=false:=jf.2 fun y hy=>by
    obtain⟨j,hj,rfl⟩:=fi hy
    rw[List.length_take] at hj
    have e:at' (l.take i) j=at' l j:=by unfold at';rw[List.getD_eq_getElem?_getD,List.getD_eq_getElem?_getD,List.getElem?_take,if_pos (by omega)]
    rw[e];exact h5 j (by omega)
   rw[this];simp
  ·have:(l.take p).any (fun y=>alE y (at' l p))=true:=by
    refine List.any_eq_true.2 ⟨at' l i, ?_,h4⟩
    have e:(l.take p)[i]?=some (at' l i):=by rw[List.getElem?_take,if_pos hlt,eZ h1]
    exact List.mem_of_getElem? e
   rw[this]
   simp only[Bool.not_true,beq_eq_false_iff_ne]
   omega

theorem Ln(out:List En)(x:En):∀y∈out,y∈onS out x:=fun y hy=>by
 unfold onS
 split
 ·exact hy
 ·exact List.mem_append_left _ hy

theorem E5:∀(m out:List En),∀y∈out,y∈m.foldl onS out
 | [],_,_,hy=>hy
 |x::m,out,y,hy=>E5 m (onS out x) y (Ln out x y hy)

theorem JP{l:List En}{i:Nat}{x:En}(hi:i<l.length)(ha:alE (at' l i) x=true)(hn:∀j,j<i→alE (at' l j) x=false):at' l i∈onE l:=by
 have h1:at' l i∈onE (l.take (i+1)):=by
  rw[s9 hi,if_neg]
  ·simp
  ·rw[Bool.not_eq_true]
   refine jf.2 fun y hy=> ?_
   obtain⟨j,hj,rfl⟩:=fi hy
   rw[List.length_take] at hj
   have e:at' (l.take i) j=at' l j:=by unfold at';rw[List.getD_eq_getElem?_getD,List.getD_eq_getElem?_getD,List.getElem?_take,if_pos (by omega)]
   rw[e]
   have h2:=hn j (by omega)
   cases h3:alE (at' l j) (at' l i) with
   |false=>rfl
   |true=>rw[gF h3 ha] at h2;cases h2
 have h2:onE l=(l.drop (i+1)).foldl onS (onE (l.take (i+1))):=by
  unfold onE
  rw[←List.foldl_append,List.take_append_drop]
 rw[h2]
 exact E5 _ _ _ h1

theorem JN(l:List En)(x:En):(fqB l x=false∧fiE (soE l) x<0)∨(fqB l x=true∧¬fiE (soE l) x<0∧0≤fqI l x∧fqI l x<l.length∧at' (soE l) (fiE (soE l) x).toNat=at' l (fqI l x).toNat):=by
 have hp:(soE l).Perm (onE l):=e9 _
 have hu:UqE (soE l):=(N2 l).perm hp.symm
 rcases Fv l x with⟨h1,h2⟩| ⟨i,h1,h2,h3,h4,h5⟩
 ·refine .inl ⟨h1, ?_⟩
  have:(soE l).any (fun y=>alE y x)=false:=jf.2 fun y hy=>by
   have:=(iQ l).2.1.subset (hp.subset hy)
   obtain⟨j,hj,rfl⟩:=fi this
   exact h2 j hj
  rw[yO] at this
  simpa using this
 ·have hm:at' l i∈soE l:=hp.symm.subset (JP h1 h4 h5)
  have hany:(soE l).any (fun y=>alE y x)=true:=List.any_eq_true.2 ⟨_,hm,h4⟩
  have hneg:¬fiE (soE l) x<0:=by
   rw[yO] at hany
   simpa using hany
  refine .inr ⟨h2,hneg,by omega,by omega, ?_⟩
  have hf:=uh.2 hneg
  rw[h3,Int.toNat_natCast]
  refine hu.one (List.mem_of_find?_eq_some hf) hm ?_
  have h6:alE (at' (soE l) (fiE (soE l) x).toNat) x=true:=List.find?_some (p:=fun y=>alE y x) hf
  exact gF h6 (by rw[gz];exact h4)

theorem xV{es es':List AV}{k v:AV}(L:List (En×Int))(q:En)(n:Int)(h1:es=List.map fiA L)(h2:k=enA q)(h3:v= .int .i64 n)(h4:es'=List.map fiA ((q,n)::L)):mupd fiT es k v es':=by
 first
  |exact⟨rfl,L,q,n,h1,h2,h3,h4⟩
  |exact .inl ⟨rfl,L,q,n,h1,h2,h3,h4⟩

end Go.Proofs.YtcabofadpheomaaGreat.L1
end

section
namespace Go.Proofs.YtcabofadpheomaaGreat.L1
open Go.Sx Go.Sx.M

def fnD:FuncId:=75

def fiR(L:List (En×Int)):List AV:=List.map fiA L

def t7(l:List En)(h:Hp)(r n:Nat)(y:Nat)(k:Nat):St:=
 ⟨[.func (.yield y) [] [], .ptr (r+2) 0 0 true, .any, .int .i64 ((k:Int)-1), .any, .any, .any, .any, .any, .any, .any, .any, .any, .any, .any, .any, .any, .any, .any],h++[some ⟨true,141,0,true,fiR (fwL l k)⟩,some ⟨true,141,1,false,[.mp r]⟩,some ⟨true,29,1,false,[.vsl n 0 (l.map enE).length]⟩]⟩
def LU:Modes:=⟨[1,1,0,1,0,0,0,0,0,0,0,0,0,0,0,0,0,0,0],[],[],[],[]⟩
def P8:Modes:=⟨[1,1,0,0,0,0,0,0,0,0,0,0,0,0,0,0,0,0,0],[],[],[],[]⟩
def fqH(l:List En)(h:Hp)(r n:Nat):Hint:= .inl fun y=>[.nw, .linv _ l.length (t7 l h r n y) (fun k=>k≤l.length) (fun k=>k) LU LU P8 (fun _=>[]) fun k=>
  [.fork [.dy, .cell (enE (at' l (k-1))), .rows (fiR (fwL l (k-1))), .nw] []]]

def GN(F:List En→List AV)(l:List En)(p:Nat):St:=
 ⟨[.any, .any, .any, .vsl 3 0 (onE (l.take p)).length, .func (.func fnD) [] [.ptr 1 0 0 true], .any, .any, .any, .any, .any, .any, .vsl 0 0 (l.map enE).length, .int .i64 (l.map enE).length, .int .i64 p, .any, .any, .any, .any, .any, .any, .any, .any, .any, .any, .any, .any, .any, .any, .any, .any, .any, .any, .any],
  [some ⟨false,44,6,true,l.map enE⟩,some ⟨true,141,1,false,[.mp 2]⟩,some ⟨true,141,0,true,fiR (fwL l 0)⟩,some ⟨true,44,6,true,F (onE (l.take p))⟩]⟩
def Ra:Modes:=⟨[0,0,0,1,1,0,0,0,0,0,0,1,1,2,0,0,0,0,0,0,0,0,0,0,0,0,0,0,0,0,0,0,0],[],[],[],[(3,44,6)]⟩
def oqM:Modes:=⟨[0,0,0,1,1,0,0,0,0,0,0,1,1,1,0,0,0,0,0,0,0,0,0,0,0,0,0,0,0,0,0,0,0],[0,1,2,3],[1,1,1,1],[],[]⟩
def oqN:Modes:=⟨[0,0,0,1,1,0,0,0,0,0,0,1,1,1,0,0,0,0,0,0,0,0,0,0,0,0,0,0,0,0,0,0,0],[0,1,2,7],[1,1,1,1],[],[]⟩
def Rb:Modes:=⟨[0,0,0,1,0,0,0,0,0,0,0,0,0,0,0,0,0,0,0,0,0,0,0,0,0,0,0,0,0,0,0,0,0],[],[],[],[]⟩
def oqH(F:List En→List AV)(l:List En):List Hint:=
 [fqH l [some ⟨false,44,6,true,l.map enE⟩] 1 0,
  .linv _ 0 (GN F l) (fun p=>p≤l.length) (fun p=>l.length+1-p) Ra oqM Rb (fun _=>[]) fun p=>
  [.fork [.dy, .cell (enE (at' l p)), .cell (.tuple [.int .i64 (fqI l (at' l p)), .bool (fqB l (at' l p))]), .fork [.rows (F (onE (l.take (p+1)))), .nw, .md oqN] [.nw]] []]]

theorem Bb(l:List En)(F:List En→List AV)(es:List AV):run [] Tryz.prog 40 [.vsl 0 0 (l.map enE).length] [some ⟨false,(pEn.getD (0,0)).1,(pEn.getD (0,0)).2,true,(l.map enE)⟩] (oqH F l) (eM (.vrow 44 6 es))=
  (let G:=(0:Int);let E:=inRange IntKind.i64;let B:=AV.w64;let u:=(1:Int);let r:=List.length l;let q:=Blk.mk true;let w:=q (44:TypeId) (6:Nat) true;let m:=AV.int IntKind.i64;let k:=List.length (List.map enE l);let y:=(↑k:Int);let j:=(0:Nat);let J:=AV.vsl j j k;let A:=q (141:TypeId) j true;let i:=(1:Nat);let P:=[AV.ptr (j+i) j j true];let L:=q (nat_lit 29) i false [J];let I:=j+i+i+i;let H:=q (nat_lit 141) i false;let D:=AV.func (Fn.func (nat_lit 75)) [] P;let t:=H [AV.mp (j+i+i)];let h:=AV.any;let g:=Blk.mk false (44:TypeId) (6:Nat) true (List.map enE l);(∀(a:Nat),let O:=AV.func (Fn.yield a) [] [];E (y-u)∧(St.mk [O,AV.ptr I j j true,h,m (y-u),h,h,h,h,h,h,h,h,h,h,h,h,h,h,h] [some g,some (q (141:Nat) j true []),some (H [AV.mp (j+i)]),some L]=t7 l [some g] i j a (r)∧Nat.le (r) (r))∧∀(b:Nat),let R:=fiR (fwL l (b-i));let K:=[some g,some t,some (A (fiR (fwL l b)))];let C:=(↑b:Int);let N:=Decidable.decide (C-u≥G);let s:=at' l (b-i);Nat.le b (r)→(N=true→(G≤C-u∧C-u<y)∧Blk.read Proofs.Tryz.prog g (44:Nat) (j+Int.toNat (C-u)) j=some (AV.agg [B s.1,B s.2,B s.3,B s.4,m s.5,m s.6])∧a=a∧mupd (141:Nat) (List.map fiA (fwL l b)) (AV.agg [B s.1,B s.2,B s.3,B s.4,m s.5,m G]) (m (C-u)) R∧E (C-u-u)∧∃(c:Nat),St.mk [O,AV.ptr I j j true,h,m (C-u-u),h,h,h,h,h,h,h,h,h,h,h,h,h,h,h] [some g,some (q (nat_lit 141) j true R),some (H [AV.mp (j+i)]),some L]=t7 l [some g] i j a c∧Nat.le c (r)∧c<b)∧(N=false→(St.mk [h,h,h,AV.vsl (List.length K) j j,AV.func (Fn.func (75:Nat)) [] P,h,h,h,h,h,h,J,m y,m G,h,h,h,h,h,h,h,h,h,h,h,h,h,h,h,h,h,h,h] (K++[some (w [])])=GN F l j∧Nat.le j (r))∧∀(d:Nat),let M:=F (onE (List.take (d+i) l));let x:=(↑d:Int);let Q:=Decidable.decide (x<y);let v:=at' l d;let o:=onE (List.take d l);let z:=List.length o;let n:=AV.agg [B v.1,B v.2,B v.3,B v.4,m v.5,m v.6];Nat.le d (r)→(Q=true→(G≤x∧x<y)∧Blk.read Proofs.Tryz.prog g (44:Nat) (j+Int.toNat x) j=some (n)∧mlook (141:Nat) (List.map fiA (fwL l j)) (AV.agg [B v.1,B v.2,B v.3,B v.4,m v.5,m G]) true (AV.tuple [m (fqI l v),AV.bool (fqB l v)])∧((fqI l v==x)=true→((z+i)*(48:Nat)≤(140737488355328:Nat)∧z+i≤(9223372036854775807:Nat)∧j+i≤List.length [n]∧z≤List.length (F o))∧List.take (z) (F o)++[n]=M∧E (x+u)∧∃(e:Nat),St.mk [h,h,h,AV.vsl I j (z+i),D,h,h,h,h,h,h,J,m y,m (x+u),h,h,h,h,h,h,h,h,h,h,h,h,h,h,h,h,h,h,h] [some g,some t,some (A (fiR (fwL l j))),some (q (44:Nat) (6:Nat) true (M))]=GN F l e∧Nat.le e (r)∧r+i-e<r+i-d)∧((fqI l v==x)=false→E (x+u)∧∃(f:Nat),St.mk [h,h,h,AV.vsl I j (z),D,h,h,h,h,h,h,J,m y,m (x+u),h,h,h,h,h,h,h,h,h,h,h,h,h,h,h,h,h,h,h] [some g,some t,some (A (fiR (fwL l j))),some (w (F o))]=GN F l f∧Nat.le f (r)∧r+i-f<r+i-d))∧(Q=false→z=List.length es∧some (w (F o))=some (w es))))):=by kernel_rfl

theorem DQ:eJ Tryz.prog 40 (ey [pEn] tJ):=by
 refine eK fq fun l R hF=> ?_
 unfold tJ at hF
 split at hF
 ·rename_i r_l
  obtain⟨hr_l,hl,hF⟩:=hF
  generalize deE r_l=l at hr_l hl hF
  subst hr_l
  refine⟨_,hF,trivial,(oqH (List.map enE) l), ?_⟩
  show run [] Tryz.prog _ [.vsl 0 0 (l.map enE).length] [some ⟨false,(pEn.getD (0,0)).1,(pEn.getD (0,0)).2,true,(l.map enE)⟩] _ _
  rw[Bb];(conv=>zeta)
  intro y
  have hlm:(l.map enE).length=l.length:=List.length_map _
  refine⟨inR (by omega) (by omega),⟨by unfold t7;rw[rP,hlm];rfl,Nat.le_refl _⟩, ?_⟩
  intro k (hk0:k≤l.length)
  refine⟨fun hge=> ?_,fun hlt=> ?_⟩
  ·have hk:0<k:=by have:=of_decide_eq_true hge;omega
   have ej:((k:Int)-1).toNat=k-1:=by omega
   have ek:((k-1:Nat):Int)=(k:Int)-1:=by omega
   have B:0≤(k:Int)-1∧(k:Int)-1< ((l.map enE).length:Int):=by omega
   refine⟨B,eL B.1 B.2 (by rw[ej];exact fK _),rfl,xV (fwL l k) (zA (at' l (k-1))) ((k:Int)-1) rfl rfl rfl ?_,inR (by omega) (by omega),k-1, ?_, ?_,by omega⟩
   ·have e:=tS (l:=l) (k:=k-1) (by omega)
    rw[show k-1+1=k from by omega,ek] at e
    unfold fiR
    rw[e]
   ·unfold t7
    rw[ek];rfl
   ·show k-1≤l.length
    omega
  ·obtain rfl:k=0:=by have:=of_decide_eq_false hlt;omega
   refine⟨⟨rfl,Nat.zero_le _⟩, ?_⟩
   intro p (hp0:p≤l.length)
   have ho:(onE (l.take p)).length≤p:=Nat.le_trans (iQ _).2.1.length_le (by rw[List.length_take];omega)
   have hom:((onE (l.take p)).map enE).length=(onE (l.take p)).length:=List.length_map _
   have i1:inRange .i64 ((p:Int)+1):=inR (by omega) (by omega)
   refine⟨fun hlt=> ?_,fun hge=> ?_⟩
   ·have hp:p<l.length:=by have:=of_decide_eq_true hlt;omega
    have B:0≤(p:Int)∧(p:Int)< ((l.map enE).length:Int):=by omega
    have hx:=s9 hp
    have hf:=OA hp
    refine⟨B,eL B.1 B.2 (fK _),⟨rfl,fwL l 0,zA (at' l p),rfl,rfl,rfl⟩,fun h=> ?_,fun h=> ?_⟩
    ·rw[hf] at h
     rw[if_neg (by simpa using h)] at hx
     have hl1:(onE (l.take (p+1))).length=(onE (l.take p)).length+1:=by rw[hx,List.length_append];rfl
     refine⟨⟨by omega,by omega,Nat.le_refl _,by omega⟩, ?_,i1,p+1, ?_,hp,by omega⟩
     ·rw[List.take_of_length_le (by omega),hx,List.map_append];rfl
     ·unfold GN
      rw[hl1];rfl
    ·rw[hf] at h
     rw[if_pos (by simpa using h)] at hx
     refine⟨i1,p+1, ?_,hp,by omega⟩
     unfold GN
     rw[hx];rfl
   ·have hp:p=l.length:=by have:=of_decide_eq_false hge;omega
    subst hp
    rw[List.take_length]
    exact⟨(List.length_map _).symm,rfl⟩
 ·exact hF.elim

end Go.Proofs.YtcabofadpheomaaGreat.L1
end

section
namespace Go.Proofs.YtcabofadpheomaaGreat.L1
open Go.Sx Go.Sx.M

theorem QC(o:List En)(y:En):stU (soE o) y=if fqB o y=false then [⟨0,y⟩] else if (at' o (fqI o y).toNat).act=y.act then [] else [⟨1,y⟩]:=by
 rw[NH]
 rcases JN o y with⟨h1,h2⟩| ⟨h1,h2,_,_,h5⟩
 ·rw[if_pos h2,if_pos h1]
 ·rw[if_neg h2,if_neg (show¬fqB o y=false by rw[h1];simp),h5]

theorem Pw(n:List En)(x:En):stV (soE n) x=if fqB n x=false then [⟨2,x⟩] else []:=by
 rw[NG]
 rcases JN n x with⟨h1,h2⟩| ⟨h1,h2,_,_,_⟩
 ·rw[if_pos h2,if_pos h1]
 ·rw[if_neg h2,if_neg (show¬fqB n x=false by rw[h1];simp)]

def enR(L:List En):List AV:=List.map enE L
def spR(L:List Sp):List AV:=List.map spE L

def sgU(o n:List En)(p:Nat):List Sp:=suU (soE o) (soE n) p
def sgV(o n:List En)(k:Nat):List Sp:=suV (soE o) (soE n) ((soE o).length-k)

def sgO(o:List En):Option Blk:=some ⟨false,44,6,true,o.map enE⟩
def sgE(l:List En):Option Blk:=some ⟨true,44,6,true,enR l⟩
def sgP(l:List Sp):Option Blk:=some ⟨true,88,7,true,spR l⟩
def sgF(l:List En):Option Blk:=some ⟨true,141,0,true,fiR (fwL l 0)⟩
def sgC(r:Nat):Option Blk:=some ⟨true,141,1,false,[.mp r]⟩
def sgB(r n:Nat):Option Blk:=some ⟨true,29,1,false,[.vsl r 0 n]⟩
def sgN:Option Blk:=some ⟨true,38,1,true,[.lit (.slice none 0 0)]⟩
def sgS(r n:Nat):Option Blk:=some ⟨true,38,1,false,[.vsl r 0 n]⟩
def sgG(r:Nat):Option Blk:=some ⟨true,94,1,false,[.func (.func fnD) [] [.ptr r 0 0 true]]⟩

def zU(o n:List En)(p:Nat):St:=
 ⟨[.vsl 0 0 (o.map enE).length, .any, .any, .any, .any, .ptr 2 0 0 true, .func (.func fnD) [] [.ptr 3 0 0 true], .ptr 4 0 0 true, .any, .any, .any, .any, .any, .any, .any, .any, .any, .any, .any, .any, .any, .any, .vsl 5 0 (enR (soE n)).length, .int .i64 (enR (soE n)).length, .int .i64 p, .any, .any, .any, .any, .any, .any, .any, .any, .any, .any, .any, .any, .any, .any, .any, .any, .any, .any, .any, .any, .any, .any, .any, .any, .any, .any, .any, .any, .any, .any, .any, .any, .any, .any, .any, .any, .any, .any, .any, .any, .any, .any, .any, .any, .any, .any, .any, .any, .any, .any, .any, .any],
  [sgO o,sgO n,sgS 9 (sgU o n p).length,sgC 6,sgG 7,sgE (soE n),sgF o,sgC 8,sgF n,sgP (sgU o n p)]⟩
def QK:Modes:=⟨[1,0,0,0,0,1,1,1,0,0,0,0,0,0,0,0,0,0,0,0,0,0,1,1,2,0,0,0,0,0,0,0,0,0,0,0,0,0,0,0,0,0,0,0,0,0,0,0,0,0,0,0,0,0,0,0,0,0,0,0,0,0,0,0,0,0,0,0,0,0,0,0,0,0,0,0,0],[],[],[],[(5,88,7)]⟩
def sgM:Modes:=⟨[1,0,0,0,0,1,1,1,0,0,0,0,0,0,0,0,0,0,0,0,0,0,1,1,1,0,0,0,0,0,0,0,0,0,0,0,0,0,0,0,0,0,0,0,0,0,0,0,0,0,0,0,0,0,0,0,0,0,0,0,0,0,0,0,0,0,0,0,0,0,0,0,0,0,0,0,0],[0,1,2,3,4,5,6,7,8,9],[1,1,1,1,1,1,1,1,1,1],[],[]⟩
def QJ:Modes:=⟨[1,0,0,0,0,1,1,1,0,0,0,0,0,0,0,0,0,0,0,0,0,0,1,1,1,0,0,0,0,0,0,0,0,0,0,0,0,0,0,0,0,0,0,0,0,0,0,0,0,0,0,0,0,0,0,0,0,0,0,0,0,0,0,0,0,0,0,0,0,0,0,0,0,0,0,0,0],[0,1,2,3,4,5,6,7,8,13],[1,1,1,1,1,1,1,1,1,1],[],[]⟩
def QL:Modes:=⟨[1,0,0,0,0,1,0,1,0,0,0,0,0,0,0,0,0,0,0,0,0,0,0,0,0,0,0,0,0,0,0,0,0,0,0,0,0,0,0,0,0,0,0,0,0,0,0,0,0,0,0,0,0,0,0,0,0,0,0,0,0,0,0,0,0,0,0,0,0,0,0,0,0,0,0,0,0],[],[],[],[]⟩
def sgX(o n:List En)(p:Nat):List Hint:=[.rows (spR (sgU o n (p+1))), .nw, .md QJ]

def K7(o n:List En)(y:Nat)(k:Nat):St:=
 ⟨[.func (.yield y) [] [], .ptr 9 0 0 true, .any, .int .i64 ((k:Int)-1), .any, .any, .any, .any, .any, .any, .any, .any, .any, .any, .any, .any, .any, .any, .any],
  [sgO o,sgO n,sgS 4 (sgV o n k).length,sgG 5,sgP (sgV o n k),sgC 6,sgF n,sgE (onE o),sgE (soE o),sgB 8 (enR (soE o)).length]⟩
def H3(o n:List En)(y:Nat)(k:Nat):St:=
 ⟨[.func (.yield y) [] [], .ptr 9 0 0 true, .any, .int .i64 ((k:Int)-1), .any, .any, .any, .any, .any, .any, .any, .any, .any, .any, .any, .any, .any, .any, .any],
  [sgO o,sgO n,sgS 10 (sgV o n k).length,sgG 5,none,sgC 6,sgF n,sgE (onE o),sgE (soE o),sgB 8 (enR (soE o)).length,sgP (sgV o n k)]⟩
def Px(r:Nat):Modes:=⟨[1,1,0,1,0,0,0,0,0,0,0,0,0,0,0,0,0,0,0],[0,1,2,3,4,5,6,7,8,9,r],[1,1,1,1,0,1,1,1,1,1,1],[],[]⟩
def QI:Modes:=⟨[1,1,0,0,0,0,0,0,0,0,0,0,0,0,0,0,0,0,0],[0,1,2,3,4,5,6,7,8,9,10],[1,1,1,1,0,1,1,1,1,1,1],[],[]⟩
def sgY(o n:List En)(k r:Nat)(b x:List Hint):List Hint:=[.fork [.dy, .cell (enE (at' (soE o) (k-1))), .cell (.tuple [.int .i64 (fqI n (at' (soE o) (k-1))), .bool (fqB n (at' (soE o) (k-1)))]), .fork [.rows (spR (sgV o n (k-1))), .nw, .md (Px r)] b] x]

def sgH(o n:List En):List Hint:=
 [fqH o [sgO o,sgO n,sgN] 3 0,fqH n [sgO o,sgO n,sgN,sgF o,sgC 3,sgB 0 (o.map enE).length] 6 1, .nm (enR (onE n)), .nm (enR (soE n)),
  .linv _ 0 (zU o n) (fun p=>p≤(soE n).length) (fun p=>(soE n).length+1-p) QK sgM QL (fun _=>[]) fun p=>
  [.fork [.dy, .cell (enE (at' (soE n) p)), .cell (.tuple [.int .i64 (fqI o (at' (soE n) p)), .bool (fqB o (at' (soE n) p))]), .fork (sgX o n p) [.dy, .cell (.int .i64 (at' o (fqI o (at' (soE n) p)).toNat).act), .fork (sgX o n p) [.nw]]] []],
  .nm (enR (onE o)), .nm (enR (soE o)),
  .inl fun y=>[.nw, .linw _ _ (soE o).length (K7 o n y) (H3 o n y) (fun k=>k≤(soE o).length) (fun k=>k≤(soE o).length) (fun k=>k) (fun k=>k) LU LU P8 (fun _=>[]) (fun _=>[])
  (fun k=>sgY o n k 13 [.nw] []) (fun k=>sgY o n k 14 [.nw, .md (Px 10)] [.md QI])]]

theorem OM(x:En):e7 Tryz.prog 3 (enE x).cells 5=some (.int .i64 x.act):=by kernel_rfl

noncomputable def jH:List (FuncId×Sx.Spec):=[(40,ey [pEn] tJ),
 (39,ey [pEn] ja)]

theorem yp(o n:List En)(es:List AV):run jH Tryz.prog 12 [.vsl 0 0 (o.map enE).length, .vsl 1 0 (n.map enE).length] [some ⟨false,(pEn.getD (0,0)).1,(pEn.getD (0,0)).2,true,(o.map enE)⟩,some ⟨false,(pEn.getD (0,0)).1,(pEn.getD (0,0)).2,true,(n.map enE)⟩] (sgH o n) (eM (.vrow 88 7 es))=
  (let bT:=nat_lit 29;let bS:=soE n;let bJ:=St.mk;let bG:=(56:Nat);let bB:=soE o;let bA:=enR (onE o);let br:=AV.func (Fn.func (75:Nat)) [];let bq:=(6:Nat);let bm:=nat_lit 94;let bl:=(44:Nat);let bj:=(44:TypeId);let bh:=List.map spE;let bg:=List.map fiA;let bf:=(1000000:Nat);let bb:=nat_lit 141;let a6:=List.length n;let a5:=List.length o;let a3:=(141:Nat);let a2:=AV.ptr;let a1:=AV.vsl;let aT:=(141:TypeId);let aS:=sgV o n;let aR:=(140737488355328:Nat);let aP:=AV.agg;let aO:=List.length (enR (onE n));let aN:=List.length (bA);let aM:=nat_lit 38;let aK:=(9223372036854775807:Nat);let aJ:=(7:Nat);let aH:=(88:TypeId);let aG:=AV.func (Fn.func (nat_lit 75)) [];let aA:=List.length (enR bB);let bk:=(↑(aA):Int);let an:=(0:Int);let am:=List.length (enR bS);let bc:=(↑(am):Int);let ak:=List.length bS;let ah:=inRange IntKind.i64;let ac:=List.length bB;let V:=AV.w64;let S:=(1:Int);let H:=List.map enE;let bp:=List.length (H o);let aD:=List.length (H n);let bL:=(↑(aD):Int);let W:=bp;let bE:=(↑W:Int);let G:=AV.int IntKind.i64;let E:=Blk.mk true;let aj:=E bj bq true (bA);let ai:=E bj bq true (enR bS);let X:=E bj bq true (enR bB);let D:=Blk.mk false bj bq true;let aB:=D (H n);let ay:=D (H o);let C:=AV.any;let B:=(0:Nat);let b0:=mlook a3 (bg (fwL n B));let bs:=[AV.lit (Value.slice none B B)];let az:=List.take W (List.drop B (H o));let bH:=deE (az);let ag:=List.take (aD) (List.drop B (H n));let bF:=deE (ag);let ab:=E aT B true (fiR (fwL n B));let aa:=E aT B true (fiR (fwL o B));let Z:=List.take (aN) (List.drop B (bA));let bR:=deE (Z);let Y:=List.take (aO) (List.drop B (enR (onE n)));let bQ:=deE (Y);let A:=(1:Nat);let bZ:=a2 (B+A+A) B B true;let bu:=B+A+A+A;let be:=E bT A false [a1 (B+A) B (aD)];let a7:=B+A+A+A+A;let aI:=B+A+A+A+A+A;let bI:=a2 aI B B true;let aF:=a1 (B+A+A+A+A+A+A+A+A+A+A) B;let aE:=B+A+A+A+A+A+A+A+A;let aC:=E bT A false [a1 B B W];let ap:=[a2 (B+A+A+A+A+A+A+A) B B true];let bU:=E bm A false [aG ap];let aU:=E bm A false [br ap];let ao:=E bb A false [AV.mp bu];let af:=E bb A false [AV.mp aE];let ad:=B+A+A+A+A+A+A+A+A+A;let bO:=a2 ad B B true;let U:=E (38:TypeId) A true bs;let T:=E bT A false [a1 aE B (aA)];let R:=E bm A false [aG [bI]];let N:=E bb A false [AV.mp (B+A+A+A+A+A+A)];(∀(a:Nat),let bK:=AV.func (Fn.yield a) [] [];let bd:=t7 o [some ay,some aB,some U] (3:Nat) B a;ah (bE-S)∧(bJ [bK,bI,C,G (bE-S),C,C,C,C,C,C,C,C,C,C,C,C,C,C,C] [some ay,some aB,some (E (38:Nat) A true bs),some (E a3 B true []),some ao,some aC]=bd a5∧Nat.le a5 a5)∧∀(b:Nat),let bX:=fiR (fwL o (b-A));let aV:=(↑b:Int);let bv:=Decidable.decide (aV-S≥an);let aq:=at' o (b-A);Nat.le b a5→(bv=true→(an≤aV-S∧aV-S<bE)∧Blk.read Proofs.Tryz.prog ay bl (B+Int.toNat (aV-S)) B=some (aP [V aq.1,V aq.2,V aq.3,V aq.4,G aq.5,G aq.6])∧a=a∧mupd a3 (bg (fwL o b)) (aP [V aq.1,V aq.2,V aq.3,V aq.4,G aq.5,G an]) (G (aV-S)) bX∧ah (aV-S-S)∧∃(c:Nat),bJ [bK,bI,C,G (aV-S-S),C,C,C,C,C,C,C,C,C,C,C,C,C,C,C] [some ay,some aB,some U,some (E bb B true bX),some ao,some aC]=bd c∧Nat.le c a5∧c<b)∧(bv=false→∀(d:Nat),let bM:=AV.func (Fn.yield d) [] [];let al:=t7 n [some ay,some aB,some U,some aa,some (E aT A false [AV.mp (3:Nat)]),some (E (29:TypeId) A false [a1 B B W])] bq A d;ah (bL-S)∧(bJ [bM,a2 aE B B true,C,G (bL-S),C,C,C,C,C,C,C,C,C,C,C,C,C,C,C] [some ay,some aB,some U,some (E aT B true (fiR (fwL o b))),some ao,some aC,some (E a3 B true []),some N,some be]=al a6∧Nat.le a6 a6)∧∀(e:Nat),let bY:=fiR (fwL n (e-A));let bt:=E aT B true (fiR (fwL n e));let aW:=(↑e:Int);let bw:=Decidable.decide (aW-S≥an);let ar:=at' n (e-A);Nat.le e a6→(bw=true→(an≤aW-S∧aW-S<bL)∧Blk.read Proofs.Tryz.prog aB bl (B+Int.toNat (aW-S)) B=some (aP [V ar.1,V ar.2,V ar.3,V ar.4,G ar.5,G ar.6])∧d=d∧mupd a3 (bg (fwL n e)) (aP [V ar.1,V ar.2,V ar.3,V ar.4,G ar.5,G an]) (G (aW-S)) bY∧ah (aW-S-S)∧∃(f:Nat),bJ [bM,a2 aE B B true,C,G (aW-S-S),C,C,C,C,C,C,C,C,C,C,C,C,C,C,C] [some ay,some aB,some U,some aa,some ao,some aC,some (E bb B true bY),some N,some be]=al f∧Nat.le f a6∧f<e)∧(bw=false→B+aD≤aD∧ag=H bF∧List.length bF≤bf∧(H (onE bF)=enR (onE n)∧List.length (H (onE bF))=aO)∧B+aO≤aO∧Y=H bQ∧List.length bQ≤bf∧(H (srE bQ)=enR bS∧List.length (H (srE bQ))=am)∧(bJ [a1 B B W,C,C,C,C,bZ,br [a2 bu B B true],a2 a7 B B true,C,C,C,C,C,C,C,C,C,C,C,C,C,C,a1 aI B (am),G bc,G an,C,C,C,C,C,C,C,C,C,C,C,C,C,C,C,C,C,C,C,C,C,C,C,C,C,C,C,C,C,C,C,C,C,C,C,C,C,C,C,C,C,C,C,C,C,C,C,C,C,C,C,C] ([some ay,some aB,some (E aM A false [a1 (List.length [some ay,some aB,some U,some N,some aU,some ai,some aa,some af,some bt]) B B]),some N,some aU,some ai,some aa,some af,some bt]++[some (E aH aJ true [])])=zU o n B∧Nat.le B (ak))∧∀(g:Nat),let bn:=E aH aJ true (spR (sgU o n g));let bi:=spR (sgU o n (g+A));let aQ:=(↑g:Int);let bN:=Decidable.decide (aQ<bc);let aL:=bh (sgU o n g);let ae:=List.length (sgU o n g);let O:=bJ [a1 B B W,C,C,C,C,bZ,aG [a2 bu B B true],a2 a7 B B true,C,C,C,C,C,C,C,C,C,C,C,C,C,C,a1 aI B (am),G bc,G (aQ+S),C,C,C,C,C,C,C,C,C,C,C,C,C,C,C,C,C,C,C,C,C,C,C,C,C,C,C,C,C,C,C,C,C,C,C,C,C,C,C,C,C,C,C,C,C,C,C,C,C,C,C,C];let M:=at' bS g;let a9:=[aP [G S,V M.1,V M.2,V M.3,V M.4,G M.5,G M.6]];let a8:=[aP [G an,V M.1,V M.2,V M.3,V M.4,G M.5,G M.6]];let a4:=at' o (Int.toNat (fqI o M));let F:=O [some ay,some aB,some (E aM A false [a1 ad B (ae+A)]),some N,some bU,some ai,some aa,some af,some ab,some (E (88:Nat) aJ true (bi))];Nat.le g (ak)→(bN=true→(an≤aQ∧aQ<bc)∧Blk.read Proofs.Tryz.prog ai bl (B+Int.toNat aQ) B=some (aP [V M.1,V M.2,V M.3,V M.4,G M.5,G M.6])∧mlook a3 (bg (fwL o B)) (aP [V M.1,V M.2,V M.3,V M.4,G M.5,G an]) true (AV.tuple [G (fqI o M),AV.bool (fqB o M)])∧((!fqB o M)=true→((ae+A)*bG≤aR∧ae+A≤aK∧B+A≤List.length a8∧ae≤List.length aL)∧List.take (ae) aL++a8=bi∧ah (aQ+S)∧∃(h:Nat),F=zU o n h∧Nat.le h (ak)∧ak+A-h<ak+A-g)∧((!fqB o M)=false→(an≤fqI o M∧fqI o M<bE)∧Blk.read Proofs.Tryz.prog ay (3:Nat) (B+Int.toNat (fqI o M)) (B+(5:Nat))=some (G a4.6)∧((a4.6 !=M.6)=true→((ae+A)*bG≤aR∧ae+A≤aK∧B+A≤List.length a9∧ae≤List.length aL)∧List.take (ae) aL++a9=bi∧ah (aQ+S)∧∃(i:Nat),F=zU o n i∧Nat.le i (ak)∧ak+A-i<ak+A-g)∧((a4.6 !=M.6)=false→ah (aQ+S)∧∃(j:Nat),O [some ay,some aB,some (E aM A false [a1 ad B (ae)]),some N,some bU,some ai,some aa,some af,some ab,some bn]=zU o n j∧Nat.le j (ak)∧ak+A-j<ak+A-g)))∧(bN=false→B+bp≤bp∧az=H bH∧List.length bH≤bf∧(H (onE bH)=bA∧List.length (H (onE bH))=aN)∧B+aN≤aN∧Z=H bR∧List.length bR≤bf∧(H (srE bR)=enR bB∧List.length (H (srE bR))=aA)∧∀(k:Nat),let bP:=H3 o n k;let bo:=K7 o n k;let ba:=AV.func (Fn.yield k) [] [];ah (bk-S)∧(bJ [ba,bO,C,G (bk-S),C,C,C,C,C,C,C,C,C,C,C,C,C,C,C] [some ay,some aB,some (E aM A false [a1 a7 B (ae)]),some R,some bn,some N,some ab,some aj,some X,some T]=bo ac∧Nat.le ac ac)∧(∀(m:Nat),let bC:=E aH aJ true (spR (aS m));let aX:=(↑m:Int);let bV:=aX-S-S;let bx:=Decidable.decide (aX-S≥an);let aw:=bJ [ba,bO,C,G bV,C,C,C,C,C,C,C,C,C,C,C,C,C,C,C];let au:=List.length (aS m);let P:=at' bB (m-A);let aY:=[aP [G (2:Int),V P.1,V P.2,V P.3,V P.4,G P.5,G P.6]];let L:=aw [some ay,some aB,some (E aM A false [a1 a7 B (au)]),some R,some bC,some N,some ab,some aj,some X,some T];let I:=aw [some ay,some aB,some (E aM A false [aF (au+A)]),some R,none,some N,some ab,some aj,some X,some T,some (E (88:Nat) aJ true (spR (aS (m-A))))];Nat.le m ac→(bx=true→(an≤aX-S∧aX-S<bk)∧Blk.read Proofs.Tryz.prog X bl (B+Int.toNat (aX-S)) B=some (aP [V P.1,V P.2,V P.3,V P.4,G P.5,G P.6])∧k=k∧b0 (aP [V P.1,V P.2,V P.3,V P.4,G P.5,G an]) true (AV.tuple [G (fqI n P),AV.bool (fqB n P)])∧((!fqB n P)=true→((au+A)*bG≤aR∧au+A≤aK∧B+A≤List.length aY∧au≤List.length (bh (aS m)))∧List.take (au) (bh (aS m))++aY=spR (aS (m-A))∧ah bV∧((∃(r:Nat),I=bo r∧Nat.le r ac∧r<m)∨∃(s:Nat),I=bP s∧Nat.le s ac∧s<m))∧((!fqB n P)=false→ah bV∧((∃(t:Nat),L=bo t∧Nat.le t ac∧t<m)∨∃(u:Nat),L=bP u∧Nat.le u ac∧u<m)))∧(bx=false→au=List.length es∧some bC=some (E aH aJ true es)))∧∀(v:Nat),let bD:=E aH aJ true (spR (aS v));let aZ:=(↑v:Int);let bW:=aZ-S-S;let bz:=Decidable.decide (aZ-S≥an);let ax:=bJ [ba,bO,C,G bW,C,C,C,C,C,C,C,C,C,C,C,C,C,C,C];let av:=List.length (aS v);let Q:=at' bB (v-A);let a0:=[aP [G (2:Int),V Q.1,V Q.2,V Q.3,V Q.4,G Q.5,G Q.6]];let K:=ax [some ay,some aB,some (E aM A false [aF (av)]),some R,none,some N,some ab,some aj,some X,some T,some bD];let J:=ax [some ay,some aB,some (E aM A false [aF (av+A)]),some R,none,some N,some ab,some aj,some X,some T,some (E (88:Nat) aJ true (spR (aS (v-A))))];Nat.le v ac→(bz=true→(an≤aZ-S∧aZ-S<bk)∧Blk.read Proofs.Tryz.prog X bl (B+Int.toNat (aZ-S)) B=some (aP [V Q.1,V Q.2,V Q.3,V Q.4,G Q.5,G Q.6])∧k=k∧b0 (aP [V Q.1,V Q.2,V Q.3,V Q.4,G Q.5,G an]) true (AV.tuple [G (fqI n Q),AV.bool (fqB n Q)])∧((!fqB n Q)=true→((av+A)*bG≤aR∧av+A≤aK∧B+A≤List.length a0∧av≤List.length (bh (aS v)))∧List.take (av) (bh (aS v))++a0=spR (aS (v-A))∧ah bW∧((∃(w:Nat),J=bo w∧Nat.le w ac∧w<v)∨∃(x:Nat),J=bP x∧Nat.le x ac∧x<v))∧((!fqB n Q)=false→ah bW∧((∃(y:Nat),K=bo y∧Nat.le y ac∧y<v)∨∃(z:Nat),K=bP z∧Nat.le z ac∧z<v)))∧(bz=false→av=List.length es∧some bD=some (E aH aJ true es))))))):=by kernel_rfl

theorem vj:∀e∈jH,eJ Tryz.prog e.1 e.2:=by
 intro e he
 simp only[jH,List.mem_cons,List.not_mem_nil,or_false] at he
 rcases he with rfl|rfl
 ·exact DQ
 ·exact uk

theorem rf:eJ Tryz.prog 12 (ey [pEn,pEn] nS):=by
 refine eK (eS (l:=jH) vj mixed noNG) fun l R hF=> ?_
 unfold nS at hF
 split at hF
 ·rename_i r_o r_n
  obtain⟨hr_o,ho,hF⟩:=hF
  generalize deE r_o=o at hr_o ho hF
  subst hr_o
  obtain⟨hr_n,hn,hF⟩:=hF
  generalize deE r_n=n at hr_n hn hF
  subst hr_n
  refine⟨_,hF,trivial,(sgH o n), ?_⟩
  show run jH Tryz.prog _ [.vsl 0 0 (o.map enE).length, .vsl 1 0 (n.map enE).length] [some ⟨false,(pEn.getD (0,0)).1,(pEn.getD (0,0)).2,true,(o.map enE)⟩,some ⟨false,(pEn.getD (0,0)).1,(pEn.getD (0,0)).2,true,(n.map enE)⟩] _ _
  rw[yp];(conv=>zeta)
  have hom:(o.map enE).length=o.length:=List.length_map _
  have hnm:(n.map enE).length=n.length:=List.length_map _
  have dR:∀L,deE (enR L)=L:=gg
  have lR:∀L,(enR L).length=L.length:=fun L=>List.length_map _
  have lS:∀L,(List.map spE L).length=L.length:=fun L=>List.length_map _
  have hoo:=(iQ o).2.1.length_le
  have hon:=(iQ n).2.1.length_le
  have hso:(soE o).length=(onE o).length:=fj _
  have hsn:(soE n).length=(onE n).length:=fj _
  have hu:∀p,(sgU o n p).length≤p:=NE _ _
  have hv:∀k,(sgV o n k).length≤(soE n).length+((soE o).length-k):=fun k=>ND _ _ _
  have round:∀{l:List En} {k:Nat},l.length≤1000000→k≤l.length→decide ((k:Int)-1≥0)=true→0<k∧((k-1:Nat):Int)=(k:Int)-1∧((k:Int)-1).toNat=k-1∧(0≤(k:Int)-1∧(k:Int)-1<l.length)∧inRange .i64 ((k:Int)-1-1)∧k-1≤l.length∧k-1<k:=fun h1 h2 h=>by
   have hk:=of_decide_eq_true h
   exact⟨by omega,by omega,by omega,⟨by omega,by omega⟩,inR (by omega) (by omega),by omega,by omega⟩
  have put:∀{l:List En} {k:Nat},k≤l.length→0<k→((k-1:Nat):Int)=(k:Int)-1→fiR (fwL l (k-1))=List.map fiA ((zA (at' l (k-1)),(k:Int)-1)::fwL l k):=fun {l k} h1 h2 ek=>by
   have e:=tS (l:=l) (k:=k-1) (by omega)
   rw[show k-1+1=k from by omega,ek] at e
   unfold fiR
   rw[e]
  intro y
  refine⟨inR (by omega) (by omega),⟨by unfold t7;rw[rP,hom];rfl,Nat.le_refl _⟩, ?_⟩
  intro k (hk0:k≤o.length)
  refine⟨fun hge=> ?_,fun hlt=> ?_⟩
  ·obtain⟨hk,ek,ej,B,hi,hle,hlt⟩:=round ho hk0 hge
   rw[←hom] at B
   exact⟨B,eL B.1 B.2 (by rw[ej];exact fK _),rfl,xV (fwL o k) (zA (at' o (k-1))) ((k:Int)-1) rfl rfl rfl (put hk0 hk ek),hi,k-1,by unfold t7;rw[ek];rfl,hle,hlt⟩
  ·obtain rfl:k=0:=by have:=of_decide_eq_false hlt;omega
   intro y2
   refine⟨inR (by omega) (by omega),⟨by unfold t7;rw[rP,hnm];rfl,Nat.le_refl _⟩, ?_⟩
   intro k (hk0:k≤n.length)
   refine⟨fun hge=> ?_,fun hlt=> ?_⟩
   ·obtain⟨hk,ek,ej,B,hi,hle,hlt⟩:=round hn hk0 hge
    rw[←hnm] at B
    exact⟨B,eL B.1 B.2 (by rw[ej];exact fK _),rfl,xV (fwL n k) (zA (at' n (k-1))) ((k:Int)-1) rfl rfl rfl (put hk0 hk ek),hi,k-1,by unfold t7;rw[ek];rfl,hle,hlt⟩
   ·obtain rfl:k=0:=by have:=of_decide_eq_false hlt;omega
    clear hlt hk0
    have wR:∀L,List.take (enR L).length (List.drop 0 (enR L))=enR L:=eT enE
    simp only[eT,gg,wR,dR,zLe,true_and,eq_self]
    refine⟨by omega,⟨rfl,by rw[lR,List.length_map]⟩,rfl,by omega,⟨rfl,by rw[lR,List.length_map];rfl⟩,⟨rfl,Nat.zero_le _⟩, ?_⟩
    intro p (hp0:p≤(soE n).length)
    have hup:=hu p
    have i1:inRange .i64 ((p:Int)+1):=inR (by omega) (by omega)
    refine⟨fun hlt=> ?_,fun hge=> ?_⟩
    ·have hp:p< (soE n).length:=by have:=of_decide_eq_true hlt;rw[lR] at this;omega
     have B:0≤(p:Int)∧(p:Int)< (((soE n).map enE).length:Int):=by rw[List.length_map];omega
     have hx:sgU o n (p+1)=sgU o n p++stU (soE o) (at' (soE n) p):=HY hp
     rw[QC] at hx
     have add:∀j:Int,sgU o n (p+1)=sgU o n p++[⟨j,at' (soE n) p⟩]→(((sgU o n p).length+1)*56≤140737488355328∧(sgU o n p).length+1≤9223372036854775807∧0+1≤List.length [spE ⟨j,at' (soE n) p⟩]∧(sgU o n p).length≤(List.map spE (sgU o n p)).length)∧
       List.take (sgU o n p).length (List.map spE (sgU o n p))++[spE ⟨j,at' (soE n) p⟩]=spR (sgU o n (p+1))∧(sgU o n (p+1)).length=(sgU o n p).length+1:=fun j e=>by
      refine⟨⟨by omega,by omega,Nat.le_refl _,by rw[lS];exact Nat.le_refl _⟩, ?_,by rw[e,List.length_append];rfl⟩
      rw[List.take_of_length_le (by rw[lS];exact Nat.le_refl _),e]
      show _=List.map spE _
      rw[List.map_append];rfl
     refine⟨B,eL B.1 B.2 (fK _),⟨rfl,fwL o 0,zA (at' (soE n) p),rfl,rfl,rfl⟩,fun h=> ?_,fun h=> ?_⟩
     ·rw[if_pos (kg h)] at hx
      obtain⟨a1,a2,a3⟩:=add 0 hx
      exact⟨a1,a2,i1,p+1,by unfold zU sgS sgP;rw[a3];rfl,hp,by omega⟩
     ·have h:=iR h
      rw[if_neg (by rw[h];simp)] at hx
      rcases JN o (at' (soE n) p) with⟨h1,_⟩| ⟨_,_,q1,q2,_⟩
      ·rw[h] at h1;cases h1
      have Bq:0≤fqI o (at' (soE n) p)∧fqI o (at' (soE n) p)< ((o.map enE).length:Int):=by omega
      refine⟨Bq,eL Bq.1 Bq.2 (OM _),fun hne=> ?_,fun he=> ?_⟩
      ·rw[if_neg (by simpa using hne)] at hx
       obtain⟨a1,a2,a3⟩:=add 1 hx
       exact⟨a1,a2,i1,p+1,by unfold zU sgS sgP;rw[a3];rfl,hp,by omega⟩
      ·rw[if_pos (by simpa using he),List.append_nil] at hx
       exact⟨i1,p+1,by unfold zU sgS sgP;rw[hx];rfl,hp,by omega⟩
    ·have hp:p=(soE n).length:=by have:=of_decide_eq_false hge;rw[lR] at this;omega
     subst hp
     have e0:sgV o n (soE o).length=sgU o n (soE n).length:=by
      show suV _ _ _=suU _ _ _
      unfold suV suU
      rw[Nat.sub_self,List.take_zero,List.flatMap_nil,List.append_nil,List.take_length]
     refine⟨by omega,⟨rfl,by rw[lR,List.length_map]⟩,rfl,by omega,⟨rfl,by rw[lR,List.length_map];rfl⟩, ?_⟩
     intro y3
     have step:∀k,0<k→k≤(soE o).length→sgV o n (k-1)=sgV o n k++stV (soE n) (at' (soE o) (k-1)):=fun k h1 h2=>by
      have e:=HX (a:=soE o) (b:=soE n) (p:=(soE o).length-k) (by omega)
      rw[show (soE o).length-k+1=(soE o).length-(k-1) from by omega,show (soE o).length-1-((soE o).length-k)=k-1 from by omega] at e
      exact e
     have add:∀k,sgV o n (k-1)=sgV o n k++[⟨2,at' (soE o) (k-1)⟩]→(((sgV o n k).length+1)*56≤140737488355328∧(sgV o n k).length+1≤9223372036854775807∧0+1≤List.length [spE ⟨2,at' (soE o) (k-1)⟩]∧(sgV o n k).length≤(List.map spE (sgV o n k)).length)∧
       List.take (sgV o n k).length (List.map spE (sgV o n k))++[spE ⟨2,at' (soE o) (k-1)⟩]=spR (sgV o n (k-1))∧(sgV o n (k-1)).length=(sgV o n k).length+1:=fun k e=>by
      have hvk:=hv k
      refine⟨⟨by omega,by omega,Nat.le_refl _,by rw[lS];exact Nat.le_refl _⟩, ?_,by rw[e,List.length_append];rfl⟩
      rw[List.take_of_length_le (by rw[lS];exact Nat.le_refl _),e]
      show _=List.map spE _
      rw[List.map_append];rfl
     have fin:sgV o n 0=stE o n:=by
      show suV _ _ _=stS _ _
      unfold suV stS
      rw[Nat.sub_zero,←List.length_reverse,List.take_length];rfl
     refine⟨inR (by rw[lR];omega) (by rw[lR];omega),⟨by unfold K7;rw[e0,lR];rfl,Nat.le_refl _⟩,fun k hk0=>⟨fun hge=> ?_,fun hlt=> ?_⟩,fun k hk0=>⟨fun hge=> ?_,fun hlt=> ?_⟩⟩
     ·have hk0:k≤(soE o).length:=hk0
      obtain⟨hk,ek,ej,B,hi,hle,hlt⟩:=round (by omega) hk0 hge
      have B:0≤(k:Int)-1∧(k:Int)-1< (((soE o).map enE).length:Int):=by rw[List.length_map];exact B
      have hx:=step k hk hk0
      rw[Pw] at hx
      refine⟨B,eL B.1 B.2 (by rw[ej];exact fK _),⟨rfl,fwL n 0,zA (at' (soE o) (k-1)),rfl,rfl,rfl⟩,fun h=> ?_,fun h=> ?_⟩
      ·rw[if_pos (kg h)] at hx
       obtain⟨a1,a2,a3⟩:=add k hx
       exact⟨a1,a2,hi, .inr ⟨k-1,by unfold H3 sgS sgP;rw[a3,ek];rfl,hle,hlt⟩⟩
      ·rw[if_neg (by rw[iR h];simp),List.append_nil] at hx
       exact⟨hi, .inl ⟨k-1,by unfold K7 sgS sgP;rw[hx,ek];rfl,hle,hlt⟩⟩
     ·obtain rfl:k=0:=by have:=of_decide_eq_false hlt;omega
      rw[fin]
      exact⟨(List.length_map _).symm,rfl⟩
     ·have hk0:k≤(soE o).length:=hk0
      obtain⟨hk,ek,ej,B,hi,hle,hlt⟩:=round (by omega) hk0 hge
      have B:0≤(k:Int)-1∧(k:Int)-1< (((soE o).map enE).length:Int):=by rw[List.length_map];exact B
      have hx:=step k hk hk0
      rw[Pw] at hx
      refine⟨B,eL B.1 B.2 (by rw[ej];exact fK _),⟨rfl,fwL n 0,zA (at' (soE o) (k-1)),rfl,rfl,rfl⟩,fun h=> ?_,fun h=> ?_⟩
      ·rw[if_pos (kg h)] at hx
       obtain⟨a1,a2,a3⟩:=add k hx
       exact⟨a1,a2,hi, .inr ⟨k-1,by unfold H3 sgS sgP;rw[a3,ek];rfl,hle,hlt⟩⟩
      ·rw[if_neg (by rw[iR h];simp),List.append_nil] at hx
       exact⟨hi, .inr ⟨k-1,by unfold H3 sgS sgP;rw[hx,ek];rfl,hle,hlt⟩⟩
     ·obtain rfl:k=0:=by have:=of_decide_eq_false hlt;omega
      rw[fin]
      exact⟨(List.length_map _).symm,rfl⟩
 ·exact hF.elim

end Go.Proofs.YtcabofadpheomaaGreat.L1
end

