/-
 Layer 10: the program's entries of a table, Build, Mode.
-/
import Derived.Test.YtcabofadpheomaaGreatL10b
import Derived.Test.YtcabofadpheomaaGreatL5S
import Derived.Test.YtcabofadpheomaaGreatL9b
namespace Go.Proofs.YtcabofadpheomaaGreat.L1
open Go.Sx Go.Sx.M

theorem Bc:eJ Tryz.prog 36 (ey [pEn] nU):=Bd uk

def gnT(l:List Ro)(i:Nat):List En:=(l.take i).map fu
def gnA(l:List Ro):List En:=srE (l.map fu)
def gnS(F:List En→List AV)(l:List Ro)(i:Nat):St:=
 ⟨[.any, .any, .lit (.slice none 0 0), .vsl 1 0 (F (gnT l i)).length, .any, .any, .vsl 0 0 (l.map roE).length, .int .i64 (l.map roE).length, .int .i64 i, .any, .any, .any, .any, .any, .any, .any, .any, .any, .any, .any, .any, .any, .any],[some ⟨false,66,4,true,l.map roE⟩,some ⟨true,44,6,true,F (gnT l i)⟩]⟩
def LQ:Modes:=⟨[0,0,1,1,0,0,1,1,2,0,0,0,0,0,0,0,0,0,0,0,0,0,0],[],[],[],[(3,44,6)]⟩
def Ox:Modes:=⟨[0,0,1,1,0,0,1,1,1,0,0,0,0,0,0,0,0,0,0,0,0,0,0],[],[],[],[]⟩
def LR:Modes:=⟨[0,0,1,1,0,0,0,0,0,0,0,0,0,0,0,0,0,0,0,0,0,0,0],[],[],[],[]⟩
def JJ(F:List En→List AV)(l:List Ro):List Hint:=[.linv _ 0 (gnS F l) (fun i=>i≤l.length) (fun i=>l.length+1-i) LQ Ox LR (fun _=>[]) fun i=>
 [.fork [.dy, .cell (roE (at' l i)), .rows (F (gnT l (i+1))), .nw] []]]

def m6:List Arg→(Res→Prop)→Prop
 | [.row r_l],R=>r_l=(deR r_l).map roE∧(deR r_l).length≤1000000∧R (.vrow 44 6 ((gnA (deR r_l)).map enE))
 |_,_=>False

noncomputable def ir:List (FuncId×Sx.Spec):=[(31,ey [none,none] L5),
 (39,ey [pEn] ja)]

theorem tQ(l:List Ro)(F:List En→List AV)(es:List AV):run ir Tryz.prog 34 [.vsl 0 0 (l.map roE).length] [some ⟨false,(pRo.getD (0,0)).1,(pRo.getD (0,0)).2,true,(l.map roE)⟩] (JJ F l) (eM (.vrow 44 6 es))=
  (let q:=List.length l;let n:=(1:Nat);let m:=Blk.mk true (44:TypeId) (6:Nat) true;let k:=AV.int IntKind.i64;let i:=(0:Nat);let t:=AV.lit (Value.slice none i i);let h:=AV.any;let g:=List.length (List.map roE l);let r:=(↑g:Int);let f:=Blk.mk false (66:TypeId) (4:Nat) true (List.map roE l);((St.mk [h,h,t,AV.vsl (List.length [some f]) i i,h,h,AV.vsl i i g,k r,k (0:Int),h,h,h,h,h,h,h,h,h,h,h,h,h,h] ([some f]++[some (m [])])=gnS F l i∧Nat.le i (q))∧∀(a:Nat),let u:=F (gnT l a);let o:=(↑a:Int);let v:=Decidable.decide (o<r);let j:=Ro.p (at' l a);let e:=List.length u;let d:=List.take (e) (List.drop i u);let s:=List.map enE (srE (deE (d)));let c:=[AV.agg [AV.w64 (j.1&&&mkW j.3),AV.w64 (j.2&&&mkW (j.3-(64:Int))),AV.w64 (mkW j.3),AV.w64 (mkW (j.3-(64:Int))),k (clamp j.3),k (at' l a).2]];Nat.le a (q)→(v=true→((0:Int)≤o∧o<r)∧Blk.read Proofs.Tryz.prog f (66:Nat) (i+Int.toNat o) i=some (AV.agg [AV.w64 j.1,AV.w64 j.2,k j.3,k (at' l a).2])∧((e+n)*(48:Nat)≤(140737488355328:Nat)∧e+n≤(9223372036854775807:Nat)∧i+n≤List.length c∧e≤e)∧List.take (e) u++c=F (gnT l (a+n))∧inRange IntKind.i64 (o+(1:Int))∧∃(b:Nat),St.mk [h,h,t,AV.vsl (i+n) i (e+n),h,h,AV.vsl i i g,k r,k (o+(1:Int)),h,h,h,h,h,h,h,h,h,h,h,h,h,h] [some f,some (Blk.mk true (44:Nat) (6:Nat) true (F (gnT l (a+n))))]=gnS F l b∧Nat.le b (q)∧q+n-b<q+n-a)∧(v=false→i+e≤e∧d=List.map enE (deE (d))∧List.length (deE (d))≤(1000000:Nat)∧List.length s=List.length es∧some (m s)=some (m es)))):=by kernel_rfl

theorem rA:∀e∈ir,eJ Tryz.prog e.1 e.2:=by
 intro e he
 simp only[ir,List.mem_cons,List.not_mem_nil,or_false] at he
 rcases he with rfl|rfl
 ·exact J0
 ·exact uk

theorem vp:eJ Tryz.prog 34 (ey [pRo] m6):=by
 refine eK (eS (l:=ir) rA mixed noNG) fun l R hF=> ?_
 unfold m6 at hF
 split at hF
 ·rename_i r_l
  obtain⟨hr_l,hl,hF⟩:=hF
  generalize deR r_l=l at hr_l hl hF
  subst hr_l
  refine⟨_,hF,trivial,(JJ (List.map enE) l), ?_⟩
  show run ir Tryz.prog _ [.vsl 0 0 (l.map roE).length] [some ⟨false,(pRo.getD (0,0)).1,(pRo.getD (0,0)).2,true,(l.map roE)⟩] _ _
  rw[tQ];(conv=>zeta)
  simp only[eT,gg]
  have hT:∀i,i≤l.length→(gnT l i).length=i:=fun i hi=>by unfold gnT;rw[List.length_map,List.length_take];omega
  refine⟨⟨rfl,Nat.zero_le _⟩,fun i hi=>⟨fun hlt=> ?_,fun hge=> ?_⟩⟩
  ·replace hi:i≤l.length:=hi
   replace hlt:=of_decide_eq_true hlt
   rw[List.length_map] at hlt
   have hTi:=hT i hi
   refine⟨⟨by omega,by rw[List.length_map];omega⟩,eL (by omega) (by rw[List.length_map];omega) (il _),⟨by rw[List.length_map];omega,by rw[List.length_map];omega,Nat.le_refl _,Nat.le_refl _⟩, ?_,inR (by omega) (by omega),i+1, ?_,(by omega:i+1≤l.length),by omega⟩
   ·rw[List.take_length]
    unfold gnT
    rw[gX (show i<l.length by omega),List.map_append,List.map_append]
    rfl
   ·unfold gnS
    rw[show ((gnT l (i+1)).map enE).length=((gnT l i).map enE).length+1 by rw[List.length_map,List.length_map,hTi,hT (i+1) (by omega)]]
    rfl
  ·replace hi:i≤l.length:=hi
   replace hge:=of_decide_eq_false hge
   rw[List.length_map] at hge
   have hil:i=l.length:=by omega
   subst hil
   have hTl:=hT l.length (Nat.le_refl _)
   have hTT:gnT l l.length=l.map fu:=by unfold gnT;rw[List.take_length]
   exact⟨by omega,trivial,by omega,by rw[hTT];rfl,by rw[hTT];rfl⟩
 ·exact hF.elim

noncomputable def jK:List (FuncId×Sx.Spec):=[(34,ey [pRo] m6),
 (35,ey [pRo] yz),
 (36,ey [pEn] nU)]

theorem yH(l:List Ro)(m:Int)(es:List AV):run jK Tryz.prog 9 [.vsl 0 0 (l.map roE).length, .int .i64 m] [some ⟨false,(pRo.getD (0,0)).1,(pRo.getD (0,0)).2,true,(l.map roE)⟩] [.fork [] [.fork [] [.fork [] []]]] (eM (.vrow 44 6 es))=
  (let r:=List.length es;let n:=(1000000:Nat);let k:=(0:Nat);let j:=List.map enE;let e:=List.map roE;let p:=List.length (e l);let h:=k+p≤p;let d:=Blk.mk true (44:TypeId) (6:Nat) true;let b:=List.take (p) (List.drop k (e l));let i:=deR (b);let t:=tbR (128:Int) i=true;let g:=List.length (e (kpR i));let a:=List.take (g) (List.drop k (e (kpR i)));let q:=deR (a);let f:=j (gnA q);let o:=List.length f;let c:=List.take (o) (List.drop k f);let s:=deE (c);(((m==(0:Int))=true→h∧b=e i∧List.length i≤n∧List.length (j (gnA i))=r∧some (d (j (gnA i)))=some (d es))∧((m==(0:Int))=false→((m==(1:Int))=true→h∧b=e i∧t∧k+g≤g∧a=e q∧List.length q≤n∧o=r∧some (d f)=some (d es))∧((m==(1:Int))=false→((m==(2:Int))=true→h∧b=e i∧t∧k+g≤g∧a=e q∧List.length q≤n∧k+o≤o∧c=j s∧List.length s≤n∧List.length (j (mrE s))=r∧some (d (j (mrE s)))=some (d es))∧((m==(2:Int))=false→es=[]))))):=by kernel_rfl

theorem vq:∀e∈jK,eJ Tryz.prog e.1 e.2:=by
 intro e he
 simp only[jK,List.mem_cons,List.not_mem_nil,or_false] at he
 rcases he with rfl|rfl|rfl
 ·exact vp
 ·exact Ha
 ·exact Bc

theorem m8:eJ Tryz.prog 9 (ey [pRo,none] lm):=by
 refine eK (eS (l:=jK) vq mixed noNG) fun l R hF=> ?_
 unfold lm at hF
 split at hF
 ·rename_i r_l m
  obtain⟨hr_l,hl,hF⟩:=hF
  generalize deR r_l=l at hr_l hl hF
  subst hr_l
  refine⟨_,hF,trivial,[.fork [] [.fork [] [.fork [] []]]], ?_⟩
  show run jK Tryz.prog _ [.vsl 0 0 (l.map roE).length, .int .i64 m] [some ⟨false,(pRo.getD (0,0)).1,(pRo.getD (0,0)).2,true,(l.map roE)⟩] _ _
  rw[yH];(conv=>zeta)
  obtain⟨hl1,hl2⟩:=hl
  have hk:=(pD l).length_le
  have hg:∀m:List Ro,(gnA m).length=m.length:=fun m=>by unfold gnA;rw[fj,List.length_map]
  have hgk:=hg (kpR l)
  simp only[eT,iL,gg,beq_iff_eq,beq_eq_false_iff_ne]
  refine⟨fun h=> ?_,fun h=>⟨fun h1=> ?_,fun h1=>⟨fun h2=> ?_,fun h2=> ?_⟩⟩⟩
  ·have e:bdE l m=gnA l:=by unfold bdE gnA;rw[if_pos h]
   rw[e]
   exact⟨by omega,trivial,hl1,rfl,rfl⟩
  ·have e:bdE l m=gnA (kpR l):=by unfold bdE gnA;rw[if_neg h,if_pos h1]
   rw[e]
   exact⟨by omega,trivial,hl2,by omega,trivial,by omega,rfl,rfl⟩
  ·have e:bdE l m=mrE (gnA (kpR l)):=by
    unfold bdE gnA
    rw[if_neg h,if_neg h1,if_pos h2]
    unfold mrE
    rw[fj,show srE (srE ((kpR l).map fu))=srE ((kpR l).map fu) from (kN (fW _) (List.Perm.refl _)).symm]
   rw[e]
   exact⟨by omega,trivial,hl2,by omega,trivial,by omega,by omega,trivial,by omega,rfl,rfl⟩
  ·rw[EF (by omega)]
   rfl
 ·exact hF.elim

end Go.Proofs.YtcabofadpheomaaGreat.L1
