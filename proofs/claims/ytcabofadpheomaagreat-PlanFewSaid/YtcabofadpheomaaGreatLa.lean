/-
 Texts in one: LRa L2a.
-/
import Derived.Test.YtcabofadpheomaaGreatL1a
import Derived.Test.YtcabofadpheomaaGreatSxc
import Derived.Test.YtcabofadpheomaaGreatMa

section
section
namespace Go.Proofs.YtcabofadpheomaaGreat.L1
open Go.Sx Go.Sx.M

def cW:AV→BitVec 64
 | .w64 x=>x
 |_=>0#64
def cI:AV→Int
 | .int _ n=>n
 |_=>0

theorem eT{T:Type}(de:T→AV)(l:List T):List.take (l.map de).length (List.drop 0 (l.map de))=l.map de:=by rw[List.drop_zero,List.take_length]

theorem eL{T:Type}[Inhabited T]{de:T→AV}{l:List T}{b:Bool}{ty:TypeId}{esz:Nat}{t:TypeId}{o:Nat}{k:Int}{y:AV}(h0:0≤k)(h1:k< ((l.map de).length:Int))(hp:e7 Tryz.prog t (de (at' l k.toNat)).cells o=some y):
  (Blk.mk b ty esz true (l.map de)).read Tryz.prog t (0+k.toNat) o=some y:=by
 rw[List.length_map] at h1
 unfold Blk.read
 rw[Nat.zero_add,List.getElem?_map,eZ (show k.toNat<l.length by omega)]
 exact hp

theorem up{P:Nat→Prop}{k:Nat}(h:∀i,i<k→P i)(hk:P k):∀i,i<k+1→P i:=fun i hi=>by
 rcases Nat.lt_or_eq_of_le (Nat.le_of_lt_succ hi) with h'|rfl
 ·exact h i h'
 ·exact hk

theorem Lu{b:Bool}{Φ:Prop}(h:b=true↔Φ)(hn:¬Φ):b=false:=by
 cases b with
 |false=>rfl
 |true=>exact absurd (h.1 rfl) hn

theorem zF{T:Type}{en:T→AV}{l:List T}{k:Nat}(h:l.length=k):List.take k (List.drop 0 (l.map en))=l.map en:=by
 rw[List.drop_zero,List.take_of_length_le (by rw[List.length_map];omega)]

theorem zLe(n:Nat):(0+n≤n)=True:=by simp

theorem iR{b:Bool}(h:(!b)=false):b=true:=by cases b<;>simp_all
theorem kg{b:Bool}(h:(!b)=true):b=false:=by cases b<;>simp_all

theorem gX{T:Type}[Inhabited T]{l:List T}{k:Nat}(h:k<l.length):l.take (k+1)=l.take k++[at' l k]:=by
 rw[List.take_add_one,eZ h];rfl

end Go.Proofs.YtcabofadpheomaaGreat.L1
end

section
namespace Go.Proofs.YtcabofadpheomaaGreat.L1
open Go.Sx Go.Sx.M

def Am(x:BitVec 64):BitVec 64:=(x>>>Int.toNat 1&&&BitVec.ofInt 64 6148914691236517205)+(x&&&BitVec.ofInt 64 6148914691236517205)
def Db(x:BitVec 64):BitVec 64:=(x>>>Int.toNat 2&&&BitVec.ofInt 64 3689348814741910323)+(x&&&BitVec.ofInt 64 3689348814741910323)
def GH(x:BitVec 64):BitVec 64:=(x>>>Int.toNat 4+x)&&&BitVec.ofInt 64 1085102592571150095
def In(x:BitVec 64):BitVec 64:=x+x>>>Int.toNat 8
def Le(x:BitVec 64):BitVec 64:=x+x>>>Int.toNat 16
def NS(x:BitVec 64):BitVec 64:=x+x>>>Int.toNat 32
def pop(x:BitVec 64):BitVec 64:=NS (Le (In (GH (Db (Am x)))))

theorem GF(x:BitVec 64):(pop x).toNat%128=cnt 64 x.toNat:=by
 have hx:=x.isLt
 obtain⟨r1,r2,r3,r4⟩:=Im x.toNat hx _ _ _ _ _ _ rfl rfl rfl rfl rfl rfl
 have t1:(Am x).toNat=(x.toNat/2&&&6148914691236517205)+(x.toNat&&&6148914691236517205):=by
  unfold Am
  rw[BitVec.toNat_add,BitVec.toNat_and,BitVec.toNat_and,BitVec.toNat_ushiftRight,show (BitVec.ofInt 64 6148914691236517205).toNat=6148914691236517205 from by decide,Nat.shiftRight_eq_div_pow]
  exact Nat.mod_eq_of_lt r1
 generalize hp1:(x.toNat/2&&&6148914691236517205)+(x.toNat&&&6148914691236517205)=p1 at*
 have t2:(Db (Am x)).toNat=(p1/4&&&3689348814741910323)+(p1&&&3689348814741910323):=by
  unfold Db
  rw[BitVec.toNat_add,BitVec.toNat_and,BitVec.toNat_and,BitVec.toNat_ushiftRight,t1,show (BitVec.ofInt 64 3689348814741910323).toNat=3689348814741910323 from by decide,Nat.shiftRight_eq_div_pow]
  exact Nat.mod_eq_of_lt (by
   have:p1/2^Int.toNat 2=p1/4:=rfl
   rw[this];omega)
 generalize hp2:(p1/4&&&3689348814741910323)+(p1&&&3689348814741910323)=p2 at*
 have t3:(GH (Db (Am x))).toNat=(p2/16+p2)&&&1085102592571150095:=by
  unfold GH
  rw[BitVec.toNat_and,BitVec.toNat_add,BitVec.toNat_ushiftRight,t2,show (BitVec.ofInt 64 1085102592571150095).toNat=1085102592571150095 from by decide,Nat.shiftRight_eq_div_pow]
  congr 1
  exact Nat.mod_eq_of_lt r2
 generalize hp3:(p2/16+p2)&&&1085102592571150095=p3 at*
 have t4:(In (GH (Db (Am x)))).toNat=p3+p3/256:=by
  unfold In
  rw[BitVec.toNat_add,BitVec.toNat_ushiftRight,t3,Nat.shiftRight_eq_div_pow,show 2^Int.toNat 8=256 from rfl]
  omega
 generalize hp4:p3+p3/256=p4 at*
 have t5:(Le (In (GH (Db (Am x))))).toNat=p4+p4/65536:=by
  unfold Le
  rw[BitVec.toNat_add,BitVec.toNat_ushiftRight,t4,Nat.shiftRight_eq_div_pow,show 2^Int.toNat 16=65536 from rfl]
  omega
 generalize hp5:p4+p4/65536=p5 at*
 have t6:(pop x).toNat=p5+p5/4294967296:=by
  show (NS (Le (In (GH (Db (Am x)))))).toNat=_
  unfold NS
  rw[BitVec.toNat_add,BitVec.toNat_ushiftRight,t5,Nat.shiftRight_eq_div_pow,show 2^Int.toNat 32=4294967296 from rfl]
  omega
 rw[t6];exact r4

theorem y7:∀n x,cnt n x≤n
 |0,_=>Nat.le_refl _
 |n+1,x=>by have:=y7 n x;simp only[cnt];split<;>omega

theorem N3(x:BitVec 64):BitVec.ofInt 64 (IntKind.i64.wrap (x.toNat:Int))=x:=by
 apply BitVec.eq_of_toNat_eq
 rw[BitVec.toNat_ofInt]
 have:=x.isLt
 simp[IntKind.wrap,IntKind.bits,IntKind.signed]
 split<;>omega

def xT:List Arg→(Res→Prop)→Prop
 | [.v (.w64 x)],R=>R (.v (.int .i64 (cnt 64 x.toNat)))
 |_,_=>False

theorem Dl(x:BitVec 64)(r:AV):run [] Tryz.prog 151 [.w64 x] [] [] (eM (.v r))=
  (AV.int .i64 (IntKind.i64.wrap ((BitVec.ofInt 64 (IntKind.i64.wrap ((pop x).toNat:Int))&&&BitVec.ofInt 64 127).toNat:Int))=r):=by kernel_rfl

theorem GO:eJ Tryz.prog 151 (ey [none] xT):=by
 refine eK fq fun l R hF=> ?_
 unfold xT at hF
 split at hF
 ·rename_i x
  refine⟨_,hF,rfl,[], ?_⟩
  show run [] Tryz.prog _ [.w64 x] [] [] _
  rw[Dl,N3]
  congr 1
  have h1:(pop x&&&BitVec.ofInt 64 127).toNat=cnt 64 x.toNat:=by
   rw[BitVec.toNat_and,show (BitVec.ofInt 64 127).toNat=2^7-1 from by decide,Nat.and_two_pow_sub_one_eq_mod]
   exact GF x
  rw[h1]
  have:=y7 64 x.toNat
  exact lE (inR (by omega) (by omega))
 ·exact hF.elim

def IH:List Arg→(Res→Prop)→Prop
 | [.v (.agg [.w64 a, .w64 b])],R=>R (.v (.int .i64 (cnt 64 a.toNat+cnt 64 b.toNat)))
 |_,_=>False

noncomputable def xS:List (FuncId×Sx.Spec):=[(151,ey [none] xT)]

theorem IG(a b:BitVec 64)(r:AV):run xS Tryz.prog 135 [.agg [.w64 a, .w64 b]] [] [.nw] (eM (.v r))=
  (inRange .i64 ((cnt 64 a.toNat:Int)+(cnt 64 b.toNat:Int))∧AV.int .i64 (cnt 64 a.toNat+cnt 64 b.toNat)=r):=by kernel_rfl

theorem Lk:eJ Tryz.prog 135 (ey [none] IH):=by
 refine eK (eS (l:=xS) (by simp only[xS,List.mem_cons,List.not_mem_nil,or_false];rintro _ rfl;exact GO) mixed noNG) fun l R hF=> ?_
 unfold IH at hF
 split at hF
 ·rename_i a b
  refine⟨_,hF,rfl,[.nw], ?_⟩
  show run xS Tryz.prog _ [.agg [.w64 a, .w64 b]] [] [.nw] _
  rw[IG]
  have:=y7 64 a.toNat
  have:=y7 64 b.toNat
  exact⟨inR (by omega) (by omega),rfl⟩
 ·exact hF.elim

end Go.Proofs.YtcabofadpheomaaGreat.L1
end
end

section
section
namespace Go.Proofs.YtcabofadpheomaaGreat.L1
open Go.Sx Go.Sx.M

def gh(w:Int)(a b:BitVec 64)(n:Int):Bool:=(w==32||w==128)&&(decide (0≤n)&&(decide (n≤w)&&(a&&&mkW n==a&&b&&&mkW (n-64)==b)))

def matchB(a b:BitVec 64)(n:Int)(c d:BitVec 64):Bool:=a&&&mkW n==c&&&mkW n&&b&&&mkW (n-64)==d&&&mkW (n-64)

def AE:List Arg→(Res→Prop)→Prop
 | [.v (.agg [.w64 a, .w64 b]), .v (.int .i64 n)],R=>R (.v (.agg [.w64 (a&&&mkW n), .w64 (b&&&mkW (n-64)), .int .i64 (clamp n)]))
 |_,_=>False

def qm:List Arg→(Res→Prop)→Prop
 | [.v (.int .i64 w), .v (.agg [.w64 a, .w64 b, .int .i64 n])],R=>R (.v (.bool (gh w a b n)))
 |_,_=>False

def x8:List Arg→(Res→Prop)→Prop
 | [.v (.agg [.w64 a, .w64 b, .int .i64 n]), .v (.agg [.w64 c, .w64 d])],R=>R (.v (.bool (matchB a b n c d)))
 |_,_=>False

def rS:List Arg→(Res→Prop)→Prop
 | [.v (.agg [.w64 a, .w64 b, .int .i64 n]), .v (.agg [.w64 c, .w64 d, .int .i64 m])],R=>R (.v (.bool (decide (n≤m)&&matchB a b n c d)))
 |_,_=>False

noncomputable def ka:List (FuncId×Sx.Spec):=[(105,ey [none,none] OR)]

noncomputable def mH:List (FuncId×Sx.Spec):=[(62,ey [none,none] AE)]

noncomputable def kU:List (FuncId×Sx.Spec):=[(82,ey [none,none] x8)]

theorem GI(a b:BitVec 64)(n:Int)(r:AV):run ka Tryz.prog 62 [.agg [.w64 a, .w64 b], .int .i64 n] [] [] (eM (.v r))=
  (Go.Sx.AV.agg (List.map Go.Sx.canon1 (List.take (3:Nat) (List.drop (0:Nat) [Go.Sx.AV.w64 (a&&&Go.Proofs.YtcabofadpheomaaGreat.L1.mkW n),Go.Sx.AV.w64 (b&&&Go.Proofs.YtcabofadpheomaaGreat.L1.mkW (n-(64:Int))),Go.Sx.AV.int Go.IntKind.i64 (if (128:Int)<if (0:Int)>n then (0:Int) else n then (128:Int) else if (0:Int)>n then (0:Int) else n)])))=r):=by kernel_rfl

theorem C8(w:Int)(a b:BitVec 64)(n:Int)(r:AV):run mH Tryz.prog 49 [.int .i64 w, .agg [.w64 a, .w64 b, .int .i64 n]] [] [.fork [.fork [] []] [.fork [.fork [] []] []]] (eM (.v r))=
  (let f:=Go.Sx.AV.bool Bool.false;let e:=Decidable.decide (n≤w);let d:=e=Bool.false→f=r;let c:=e=Bool.true→Go.Sx.AV.bool (a&&&Go.Proofs.YtcabofadpheomaaGreat.L1.mkW n==a&&b&&&Go.Proofs.YtcabofadpheomaaGreat.L1.mkW (n-(64:Int))==b&&Go.Proofs.YtcabofadpheomaaGreat.L1.clamp n==n)=r;(((w==(32:Int))=Bool.true→c∧d)∧((w==(32:Int))=Bool.false→((w==(128:Int))=Bool.true→c∧d)∧((w==(128:Int))=Bool.false→f=r)))):=by kernel_rfl

theorem Dc(a b:BitVec 64)(n:Int)(c d:BitVec 64)(r:AV):run ka Tryz.prog 82 [.agg [.w64 a, .w64 b, .int .i64 n], .agg [.w64 c, .w64 d]] [] [] (eM (.v r))=
  (Go.Sx.AV.bool (c&&&Go.Proofs.YtcabofadpheomaaGreat.L1.mkW n==a&&&Go.Proofs.YtcabofadpheomaaGreat.L1.mkW n&&d&&&Go.Proofs.YtcabofadpheomaaGreat.L1.mkW (n-(64:Int))==b&&&Go.Proofs.YtcabofadpheomaaGreat.L1.mkW (n-(64:Int)))=r):=by kernel_rfl

theorem Ap(a b:BitVec 64)(n:Int)(c d:BitVec 64)(m:Int)(r:AV):run kU Tryz.prog 53 [.agg [.w64 a, .w64 b, .int .i64 n], .agg [.w64 c, .w64 d, .int .i64 m]] [] [.fork [] []] (eM (.v r))=
  ((Decidable.decide (m≥n)=Bool.true→Go.Sx.AV.bool (Go.Proofs.YtcabofadpheomaaGreat.L1.matchB a b n c d)=r)∧(Decidable.decide (m≥n)=Bool.false→Go.Sx.AV.bool Bool.false=r)):=by kernel_rfl

theorem sO:∀e∈ka,eJ Tryz.prog e.1 e.2:=by
 intro e he
 simp only[ka,List.mem_cons,List.not_mem_nil,or_false] at he
 rcases he with rfl
 exact OQ

theorem sN:eJ Tryz.prog 62 (ey [none,none] AE):=by
 refine eK (eS (l:=ka) sO mixed noNG) fun l R hF=> ?_
 unfold AE at hF
 split at hF
 ·rename_i a b n
  refine⟨_,hF,rfl,[], ?_⟩
  show run ka Tryz.prog _ [.agg [.w64 a, .w64 b], .int .i64 n] [] _ _
  rw[GI,Cc]
  rfl
 ·exact hF.elim

theorem wI{n:Int}:clamp n=n↔0≤n∧n≤128:=by unfold clamp;omega

theorem Al:∀e∈mH,eJ Tryz.prog e.1 e.2:=by
 intro e he
 simp only[mH,List.mem_cons,List.not_mem_nil,or_false] at he
 rcases he with rfl
 exact sN

theorem GE:eJ Tryz.prog 49 (ey [none,none] qm):=by
 refine eK (eS (l:=mH) Al mixed noNG) fun l R hF=> ?_
 unfold qm at hF
 split at hF
 ·rename_i w a b n
  refine⟨_,hF,rfl,[.fork [.fork [] []] [.fork [.fork [] []] []]], ?_⟩
  show run mH Tryz.prog _ [.int .i64 w, .agg [.w64 a, .w64 b, .int .i64 n]] [] _ _
  rw[C8];(conv=>zeta)
  have key:w≤128→n≤w→(a&&&mkW n==a&&b&&&mkW (n-64)==b&&clamp n==n)=(decide (0≤n)&&(a&&&mkW n==a&&b&&&mkW (n-64)==b)):=fun hw hn=>by
   have:(clamp n==n)=decide (0≤n):=by
    rw[Bool.eq_iff_iff,beq_iff_eq,decide_eq_true_eq,wI];omega
   rw[this,Bool.and_comm]
  refine⟨fun h=>⟨fun h1=> ?_,fun h1=> ?_⟩,fun h=>⟨fun h2=>⟨fun h1=> ?_,fun h1=> ?_⟩,fun h2=> ?_⟩⟩
  all_goals
   congr 1
   unfold gh
   rw[h]
  ·have e:w=32:=by simpa using h
   rw[key (by omega) (by simpa using h1),h1];simp
  ·rw[h1];simp
  ·have e:w=128:=by simpa using h2
   rw[h2,key (by omega) (by simpa using h1),h1];simp
  ·rw[h2,h1];simp
  ·rw[h2];simp
 ·exact hF.elim

theorem AB{a b c d:BitVec 64}{n:Int}:matchB a b n c d=matchB c d n a b:=by
 unfold matchB
 rw[Bool.eq_iff_iff]
 simp only[Bool.and_eq_true,beq_iff_eq]
 exact⟨fun h=>⟨h.1.symm,h.2.symm⟩,fun h=>⟨h.1.symm,h.2.symm⟩⟩

theorem vR:eJ Tryz.prog 82 (ey [none,none] x8):=by
 refine eK (eS (l:=ka) sO mixed noNG) fun l R hF=> ?_
 unfold x8 at hF
 split at hF
 ·rename_i a b n c d
  refine⟨_,hF,rfl,[], ?_⟩
  show run ka Tryz.prog _ [.agg [.w64 a, .w64 b, .int .i64 n], .agg [.w64 c, .w64 d]] [] _ _
  rw[Dc,AB]
  rfl
 ·exact hF.elim

theorem xQ:∀e∈kU,eJ Tryz.prog e.1 e.2:=by
 intro e he
 simp only[kU,List.mem_cons,List.not_mem_nil,or_false] at he
 rcases he with rfl
 exact vR

theorem sZ:eJ Tryz.prog 53 (ey [none,none] rS):=by
 refine eK (eS (l:=kU) xQ mixed noNG) fun l R hF=> ?_
 unfold rS at hF
 split at hF
 ·rename_i a b n c d m
  refine⟨_,hF,rfl,[.fork [] []], ?_⟩
  show run kU Tryz.prog _ [.agg [.w64 a, .w64 b, .int .i64 n], .agg [.w64 c, .w64 d, .int .i64 m]] [] _ _
  rw[Ap]
  refine⟨fun h=> ?_,fun h=> ?_⟩
  ·rw[show decide (n≤m)=true from h,Bool.true_and]
  ·rw[show decide (n≤m)=false from h,Bool.false_and]
 ·exact hF.elim

end Go.Proofs.YtcabofadpheomaaGreat.L1
end

section
namespace Go.Proofs.YtcabofadpheomaaGreat.L1
open Go.Sx Go.Sx.M

def K9(_:Int)(a b:BitVec 64)(k:Int):St:=
 ⟨[.any, .any, .any, .any, .lit (.bool false), .slice 1 0 128 false, .int .i64 k, .any, .any, .any, .any, .any, .any, .any, .any, .any, .any, .any, .any, .any, .any, .any, .any, .any, .any, .any, .any, .any, .any, .any, .any, .any, .any, .any, .any, .any, .any],[none,some ⟨true,4,1,true,fY a b⟩]⟩

def rrM:Modes:=⟨[0,0,0,0,1,1,1,0,0,0,0,0,0,0,0,0,0,0,0,0,0,0,0,0,0,0,0,0,0,0,0,0,0,0,0,0,0],[0,1],[0,1],[],[]⟩

def rrI(a b:BitVec 64)(n:Int)(k:Int):Prop:=n≤k∧0≤k∧k≤128∧∀i:Nat,n≤(i:Int)→(i:Int)<k→eH a b i=false

def rrL(w:Int)(a b:BitVec 64)(n:Int):List Hint:=[.linv _ n (K9 w a b) (rrI a b n) (fun k=>(200-k).toNat) rrM rrM rrM (fun _=>[]) fun k=>
 [.fork [.dy, .cell (.bool (eH a b k.toNat)), .fork [] [.nw]] []]]

def rrH(w:Int)(a b:BitVec 64)(n:Int):List Hint:=
 [.fork [.fork [] [.fork [] [.fork [] (rrL w a b n)]]] [.fork [] [.fork [] (rrL w a b n)]]]

noncomputable def qa:List (FuncId×Sx.Spec):=[(120,ey [none] Cs)]

theorem C5(w:Int)(a b:BitVec 64)(n:Int)(r:AV):run qa Tryz.prog 94 [.int .i64 w, .agg [.w64 a, .w64 b, .int .i64 n]] [] (rrH w a b n) (eM (.v r))=
  (let C:=(1:Int);let A:=rrI a b n;let z:=(200:Int);let y:=(128:Nat);let x:=AV.int IntKind.i64;let u:=(0:Nat);let q:=AV.lit (Value.bool false);let o:=(128:Int);let m:=Decidable.decide (n>w);let l:=AV.slice (u+(1:Nat)) u;let k:=AV.bool false=r;let j:=Decidable.decide (n< (0:Int));let i:=Blk.mk true (4:TypeId) (1:Nat) true (fY a b);let B:=[none,some i];let g:=AV.any;let h:=St.mk [g,g,g,g,q,l (List.length (fY a b)) false,x n,g,g,g,g,g,g,g,g,g,g,g,g,g,g,g,g,g,g,g,g,g,g,g,g,g,g,g,g,g,g] B=K9 w a b n∧A n;(((w !=(32:Int))=true→((w !=o)=true→k)∧((w !=o)=false→(j=true→k)∧(j=false→(m=true→k)∧(m=false→h∧∀(c:Int),let D:=Decidable.decide (c<o);let s:=eH a b (Int.toNat c);A c→(D=true→((0:Int)≤c∧c< (↑y:Int))∧Blk.read Proofs.Tryz.prog i (4:Nat) (u+Int.toNat c) u=some (AV.bool (s))∧(s=true→k)∧(s=false→inRange IntKind.i64 (c+C)∧∃(d:Int),St.mk [g,g,g,g,q,l y false,x (c+C),g,g,g,g,g,g,g,g,g,g,g,g,g,g,g,g,g,g,g,g,g,g,g,g,g,g,g,g,g,g] B=K9 w a b d∧A d∧Int.toNat (z-d)<Int.toNat (z-c)))∧(D=false→AV.bool true=r)))))∧((w !=(32:Int))=false→(j=true→k)∧(j=false→(m=true→k)∧(m=false→h∧∀(e:Int),let E:=Decidable.decide (e<o);let t:=eH a b (Int.toNat e);A e→(E=true→((0:Int)≤e∧e< (↑y:Int))∧Blk.read Proofs.Tryz.prog i (4:Nat) (u+Int.toNat e) u=some (AV.bool (t))∧(t=true→k)∧(t=false→inRange IntKind.i64 (e+C)∧∃(f:Int),St.mk [g,g,g,g,q,l y false,x (e+C),g,g,g,g,g,g,g,g,g,g,g,g,g,g,g,g,g,g,g,g,g,g,g,g,g,g,g,g,g,g] B=K9 w a b f∧A f∧Int.toNat (z-f)<Int.toNat (z-e)))∧(E=false→AV.bool true=r)))))):=by kernel_rfl

theorem ED:∀e∈qa,eJ Tryz.prog e.1 e.2:=by
 intro e he
 simp only[qa,List.mem_cons,List.not_mem_nil,or_false] at he
 rcases he with rfl
 exact zd

theorem Gu:eJ Tryz.prog 94 (ey [none,none] qm):=by
 refine eK (eS (l:=qa) ED mixed noNG) fun l R hF=> ?_
 unfold qm at hF
 split at hF
 ·rename_i w a b n
  refine⟨_,hF,rfl,rrH w a b n, ?_⟩
  show run qa Tryz.prog _ [.int .i64 w, .agg [.w64 a, .w64 b, .int .i64 n]] [] _ _
  rw[C5];(conv=>zeta)
  have hL:(w=32∨w=128)→0≤n→n≤w→rrI a b n n∧(∀k,rrI a b n k→k<128→eH a b k.toNat=true→gh w a b n=false)∧(∀k,rrI a b n k→k<128→eH a b k.toNat=false→rrI a b n (k+1))∧∀k,rrI a b n k→¬k<128→gh w a b n=true:=by
   intro hw h0 hn
   refine⟨⟨by omega,by omega,by omega,fun i h1 h2=>by omega⟩,fun k ⟨h1,h2,h3,h4⟩ hk hb=> ?_,fun k ⟨h1,h2,h3,h4⟩ hk hb=>⟨by omega,by omega,by omega,fun i h5 h6=> ?_⟩,fun k ⟨h1,h2,h3,h4⟩ hk=> ?_⟩
   ·cases hr:gh w a b n with
    |false=>rfl
    |true=>
     unfold gh at hr
     simp only[Bool.and_eq_true] at hr
     have:=uu.1 (by simpa using hr.2.2.2) k.toNat (by omega) (by omega)
     rw[this] at hb;cases hb
   ·rcases Int.lt_or_eq_of_le (show (i:Int)≤k from by omega) with h|h
    ·exact h4 i h5 h
    ·rw[show i=k.toNat from by omega];exact hb
   ·unfold gh
    rw[uu.2 fun i hi h=>h4 i h (by omega),decide_eq_true h0,decide_eq_true hn]
    rcases hw with rfl|rfl<;>rfl
  have bad:¬((w=32∨w=128)∧0≤n∧n≤w)→AV.bool false=AV.bool (gh w a b n):=by
   intro h
   cases hr:gh w a b n with
   |false=>rfl
   |true=>
    unfold gh at hr
    simp only[Bool.and_eq_true,Bool.or_eq_true,beq_iff_eq,decide_eq_true_eq] at hr
    exact absurd ⟨hr.1,hr.2.1,hr.2.2.1⟩ h
  refine⟨fun a1=>⟨fun a2=>bad ?_,fun a2=>⟨fun a3=>bad ?_,fun a3=>⟨fun a4=>bad ?_,fun a4=> ?_⟩⟩⟩,fun a1=>⟨fun a3=>bad ?_,fun a3=>⟨fun a4=>bad ?_,fun a4=> ?_⟩⟩⟩
  all_goals
   simp only[bne_iff_ne,ne_eq,decide_eq_true_eq,decide_eq_false_iff_not,bne_eq_false_iff_eq] at*
  ·omega
  ·omega
  ·omega
  ·obtain⟨l0,l1,l2,l3⟩:=hL (by omega) (by omega) (by omega)
   refine⟨⟨rfl,l0⟩,fun k hk=>⟨fun hlt=>⟨⟨hk.2.1,by omega⟩,kR hk.2.1 (by omega) rfl,fun hb=>by rw[l1 k hk hlt hb],fun hb=>⟨inR (by have:=hk.2.1;omega) (by omega),k+1,rfl,l2 k hk hlt hb,by omega⟩⟩,fun hge=>by rw[l3 k hk hge]⟩⟩
  ·omega
  ·omega
  ·obtain⟨l0,l1,l2,l3⟩:=hL (by omega) (by omega) (by omega)
   refine⟨⟨rfl,l0⟩,fun k hk=>⟨fun hlt=>⟨⟨hk.2.1,by omega⟩,kR hk.2.1 (by omega) rfl,fun hb=>by rw[l1 k hk hlt hb],fun hb=>⟨inR (by have:=hk.2.1;omega) (by omega),k+1,rfl,l2 k hk hlt hb,by omega⟩⟩,fun hge=>by rw[l3 k hk hge]⟩⟩
 ·exact hF.elim

end Go.Proofs.YtcabofadpheomaaGreat.L1
end

section
namespace Go.Proofs.YtcabofadpheomaaGreat.L1
open Go.Sx Go.Sx.M

end Go.Proofs.YtcabofadpheomaaGreat.L1
end

section
namespace Go.Proofs.YtcabofadpheomaaGreat.L1
open Go.Sx Go.Sx.M

def cmpI(m n:Int):Int:=if m=n then 0 else if m<n then-1 else 1

def orI(m n:Int):Int:=if m=0 then n else m

def rB(a b:BitVec 64)(n:Int)(c d:BitVec 64)(m:Int):Int:=orI (cmpV (V a b) (V c d)) (cmpI n m)

def wA:List Arg→(Res→Prop)→Prop
 | [.v (.agg [.w64 a, .w64 b, .int .i64 n]), .v (.agg [.w64 c, .w64 d, .int .i64 m])],R=>R (.v (.int .i64 (rB a b n c d m)))
 |_,_=>False

def PP:Par:=some (3,1)

theorem Kj(m n:Int)(r:AV):run [] Tryz.prog 98 [.int .i64 m, .int .i64 n] [] [.br false, .br false, .fork [] [.fork [] []]] (eM (.v r))=
  ((m !=m)=Bool.false∧(n !=n)=Bool.false∧(Decidable.decide (m<n)=Bool.true→Go.Sx.AV.int Go.IntKind.i64 (-1:Int)=r)∧(Decidable.decide (m<n)=Bool.false→(Decidable.decide (m>n)=Bool.true→Go.Sx.AV.int Go.IntKind.i64 (1:Int)=r)∧(Decidable.decide (m>n)=Bool.false→Go.Sx.AV.int Go.IntKind.i64 (0:Int)=r))):=by kernel_rfl

theorem NY(m n:Int)(r:AV):run [] Tryz.prog 115 [.vsl 0 0 2] [some ⟨false,3,1,true,[.int .i64 m, .int .i64 n]⟩] [.loop 3, .br true, .cell (.int .i64 m), .fork [] [.br true, .cell (.int .i64 n), .fork [] [.br false]]] (eM (.v r))=
  (let f:=(1:Int);let e:=(0:Nat);let d:=(↑(2:Nat):Int);let b:=(0:Int);let a:=Go.Sx.AV.int Go.IntKind.i64;let c:=Go.Sx.Blk.mk Bool.false (3:Go.TypeId) (1:Nat) Bool.true [a m,a n];(Decidable.decide (b<d)=Bool.true∧(b≤b∧b<d)∧Go.Sx.Blk.read Go.Proofs.Tryz.prog c (3:Nat) (e+Int.toNat b) e=Option.some (a m)∧((m !=b)=Bool.true→a m=r)∧((m !=b)=Bool.false→Decidable.decide (f<d)=Bool.true∧(b≤f∧f<d)∧Go.Sx.Blk.read Go.Proofs.Tryz.prog c (3:Nat) (e+Int.toNat f) e=Option.some (a n)∧((n !=b)=Bool.true→a n=r)∧((n !=b)=Bool.false→Decidable.decide ((2:Int)<d)=Bool.false∧a b=r)))):=by kernel_rfl

def Kk:List Arg→(Res→Prop)→Prop
 | [.v (.int .i64 m), .v (.int .i64 n)],R=>R (.v (.int .i64 (cmpI m n)))
 |_,_=>False

theorem Mi:eJ Tryz.prog 98 (ey [none,none] Kk):=by
 refine eK fq fun l R hF=> ?_
 unfold Kk at hF
 split at hF
 ·rename_i m n
  refine⟨_,hF,rfl,[.br false, .br false, .fork [] [.fork [] []]], ?_⟩
  show run [] Tryz.prog _ [.int .i64 m, .int .i64 n] [] _ _
  rw[Kj]
  simp only[decide_eq_true_eq,decide_eq_false_iff_not]
  refine⟨by simp,by simp,fun h=> ?_,fun h=>⟨fun h2=> ?_,fun h2=> ?_⟩⟩
  all_goals
   congr 1
   unfold cmpI
  ·rw[if_neg (by omega),if_pos h]
  ·rw[if_neg (by omega),if_neg h]
  ·rw[if_pos (by omega)]
 ·exact hF.elim

def orF:List Arg→(Res→Prop)→Prop
 | [.row es],R=>∃m n,es=[.int .i64 m, .int .i64 n]∧R (.v (.int .i64 (orI m n)))
 |_,_=>False

theorem PQ:eJ Tryz.prog 115 (ey [PP] orF):=by
 refine eK fq fun l R hF=> ?_
 unfold orF at hF
 split at hF
 ·obtain⟨m,n,rfl,hF⟩:=hF
  refine⟨_,hF,rfl,[.loop 3, .br true, .cell (.int .i64 m), .fork [] [.br true, .cell (.int .i64 n), .fork [] [.br false]]], ?_⟩
  show run [] Tryz.prog _ [.vsl 0 0 2] [some ⟨false,3,1,true,[.int .i64 m, .int .i64 n]⟩] _ _
  rw[NY];(conv=>zeta)
  refine⟨by decide,by decide,by kernel_rfl,fun h=> ?_,fun h=>⟨by decide,by decide,by kernel_rfl,fun h2=> ?_,fun h2=>⟨by decide, ?_⟩⟩⟩
  all_goals
   congr 1
   unfold orI
   simp only[bne_iff_ne,ne_eq,bne_eq_false_iff_eq] at*
  ·rw[if_neg h]
  ·rw[if_pos h]
  ·rw[if_pos h,h2]
 ·exact hF.elim

noncomputable def uy:List (FuncId×Sx.Spec):=[(116,ey [none,none] B9),(98,ey [none,none] Kk),(115,ey [PP] orF)]

theorem Ki(a b:BitVec 64)(n:Int)(c d:BitVec 64)(m:Int)(r:AV):run uy Tryz.prog 93 [.agg [.w64 a, .w64 b, .int .i64 n], .agg [.w64 c, .w64 d, .int .i64 m]] [] [] (eM (.v r))=
  (∃(m_1:Int),∃(n_1:Int),[Go.Sx.AV.int Go.IntKind.i64 (Go.Sx.M.cmpV (Go.Sx.M.V a b) (Go.Sx.M.V c d)),Go.Sx.AV.int Go.IntKind.i64 (Go.Proofs.YtcabofadpheomaaGreat.L1.cmpI n m)]=[Go.Sx.AV.int Go.IntKind.i64 m_1,Go.Sx.AV.int Go.IntKind.i64 n_1]∧Go.Sx.AV.int Go.IntKind.i64 (Go.Proofs.YtcabofadpheomaaGreat.L1.orI m_1 n_1)=r):=by kernel_rfl

theorem Hu:∀e∈uy,eJ Tryz.prog e.1 e.2:=by
 intro e he
 simp only[uy,List.mem_cons,List.not_mem_nil,or_false] at he
 rcases he with rfl|rfl|rfl
 ·exact F5
 ·exact Mi
 ·exact PQ

theorem Mh:eJ Tryz.prog 93 (ey [none,none] wA):=by
 refine eK (eS (l:=uy) Hu mixed noNG) fun l R hF=> ?_
 unfold wA at hF
 split at hF
 ·rename_i a b n c d m
  refine⟨_,hF,rfl,[], ?_⟩
  show run uy Tryz.prog _ [.agg [.w64 a, .w64 b, .int .i64 n], .agg [.w64 c, .w64 d, .int .i64 m]] [] _ _
  rw[Ki]
  exact⟨_,_,rfl,rfl⟩
 ·exact hF.elim

end Go.Proofs.YtcabofadpheomaaGreat.L1
end

section
namespace Go.Proofs.YtcabofadpheomaaGreat.L1
open Go.Sx Go.Sx.M

theorem GR{a b c d:BitVec 64}{n:Int}:matchB a b n c d=true↔∀i:Nat,i<128→(i:Int)<n→eH a b i=eH c d i:=Mb

theorem Gw{w:Int}{a b:BitVec 64}{n:Int}:gh w a b n=true↔(w=32∨w=128)∧0≤n∧n≤w∧∀i:Nat,i<128→n≤(i:Int)→eH a b i=false:=by
 unfold gh
 rw[Bool.and_eq_true,Bool.and_eq_true,Bool.and_eq_true,Bool.or_eq_true,beq_iff_eq,beq_iff_eq,decide_eq_true_eq,decide_eq_true_eq,uu]

theorem Nn{a b c d:BitVec 64}(h:∀i:Nat,i<128→eH a b i=true→eH c d i=true):V a b≤V c d:=by
 have hs:=lv (eH a b) (eH c d)
 by_cases h128:com (eH a b) (eH c d)=128
 ·obtain⟨rfl,rfl⟩:=Kd.1 h128
  exact Nat.le_refl _
 ·have hlt:com (eH a b) (eH c d)<128:=by have:=hs.le;omega
  have ho:=hs.other hlt
  have hh:=h _ hlt
  cases ha:eH a b (com (eH a b) (eH c d)) with
  |true=>rw[ha,hh ha] at ho;exact absurd rfl ho
  |false=>
   cases hc:eH c d (com (eH a b) (eH c d)) with
   |false=>rw[ha,hc] at ho;exact absurd rfl ho
   |true=>exact Nat.le_of_lt (uS hlt hs.same ha hc)

theorem Hv{a b:BitVec 64}{n:Int}{c d:BitVec 64}{m:Int}:rB a b n c d m=0↔a=c∧b=d∧n=m:=by
 have h:cmpV (V a b) (V c d)=0↔a=c∧b=d:=by
  rw[←KO];unfold cmpV;split
  ·simp[*]
  ·split<;>simp[*]
 have h2:cmpI n m=0↔n=m:=by
  unfold cmpI;split
  ·simp[*]
  ·split<;>simp[*]
 unfold rB orI
 by_cases h3:cmpV (V a b) (V c d)=0
 ·rw[if_pos h3,h2]
  obtain⟨e1,e2⟩:=h.1 h3
  exact⟨fun h=>⟨e1,e2,h⟩,fun h=>h.2.2⟩
 ·rw[if_neg h3]
  exact⟨fun h4=>absurd h4 h3,fun h4=>absurd (h.2 ⟨h4.1,h4.2.1⟩) h3⟩

end Go.Proofs.YtcabofadpheomaaGreat.L1
end
end

