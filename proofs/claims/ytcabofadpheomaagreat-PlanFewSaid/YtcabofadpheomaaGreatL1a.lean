/-
 Texts in one: L1Base L1Ref L1Op L1Mask L1Bit L1Com L1Cmp.
-/
import Derived.Test.YtcabofadpheomaaGreatSxL
import Derived.Test.YtcabofadpheomaaGreatL10c
import Derived.Test.YtcabofadpheomaaGreatRows
import Derived.Test.YtcabofadpheomaaGreatSxM
import Derived.Test.YtcabofadpheomaaGreatMa

section
namespace Go.Proofs.YtcabofadpheomaaGreat.L1
open Go.Sx

theorem own:ownKnob Tryz.prog.godebug=none:=by kernel_rfl
theorem gQ:laidOutB Tryz.prog=true:=by kernel_rfl
theorem noNG:Sx.noNG Tryz.prog=true:=by kernel_rfl
theorem mixed:Fol Tryz.prog:=⟨by kernel_rfl,LA⟩

theorem fq:COK Tryz.prog false (run [] Tryz.prog):=eS (by simp) mixed noNG

end Go.Proofs.YtcabofadpheomaaGreat.L1
end

section
namespace Go.Proofs.YtcabofadpheomaaGreat.L1
open Go.Sx Go.Sx.M

def fY(a b:BitVec 64):List AV:=(List.range 128).map fun k=> .bool (eH a b k)

def Cs:List Arg→(Res→Prop)→Prop
 | [.v (.agg [.w64 a, .w64 b])],R=>R (.row 4 1 (fY a b))
 |_,_=>False

theorem Ku(a b:BitVec 64):run [] Tryz.prog 120 [.agg [.w64 a, .w64 b]] [] [.loop 3, .loop 65, .loop 65] (eM (.row 4 1 (fY a b)))=
  (128=(fY a b).length∧some (Blk.mk true 4 1 true ((List.range 128).map fun k=> .bool (EE a b k)))=some (Blk.mk true 4 1 true (fY a b))):=by
 kernel_rfl

theorem zd:eJ Tryz.prog 120 (ey [none] Cs):=by
 refine eK fq fun l R hF=> ?_
 unfold Cs at hF
 split at hF
 ·rename_i a b
  refine⟨_,hF,trivial,[.loop 3, .loop 65, .loop 65], ?_⟩
  show run [] Tryz.prog _ [.agg [.w64 a, .w64 b]] [] [.loop 3, .loop 65, .loop 65] _
  rw[Ku]
  refine⟨by simp[fY], ?_⟩
  congr 2
  unfold fY
  apply List.map_congr_left
  intro k hk
  rw[Hx (by simpa using hk)]
 ·exact hF.elim

end Go.Proofs.YtcabofadpheomaaGreat.L1
end

section
namespace Go.Proofs.YtcabofadpheomaaGreat.L1
open Go.Sx Go.Sx.M

theorem sG(a b:BitVec 64){n:Nat}(hn:n<128):(fY a b)[n]?=some (.bool (eH a b n)):=by
 unfold fY
 rw[List.getElem?_map,List.getElem?_range hn]
 rfl

theorem kR{a b:BitVec 64}{k:Int}{v w:Bool}(h0:0≤k)(hk:k<128)(hv:eH a b k.toNat=v):(Blk.mk w 4 1 true (fY a b)).read Tryz.prog 4 (0+k.toNat) 0=some (.bool v):=by
 rw[←hv]
 exact PG (sG a b (by omega)) (by kernel_rfl)

end Go.Proofs.YtcabofadpheomaaGreat.L1
end

section
namespace Go.Proofs.YtcabofadpheomaaGreat.L1
open Go.Sx Go.Sx.M

def mkW(n:Int):BitVec 64:=W (fun i=>decide ((i:Int)<n)) 64

theorem pA(n:Int){i:Nat}(hi:i<64):(mkW n).getMsbD i=decide ((i:Int)<n):=Qq _ hi

theorem iz(n:Int){k:Nat}(hk:k<128):eH (mkW n) (mkW (n-64)) k=decide ((k:Int)<n):=by
 unfold eH
 split
 ·rw[pA n (by omega)]
 ·rw[pA _ (by omega)]
  congr 1
  apply propext
  omega

def Fd:List Arg→(Res→Prop)→Prop
 | [.v (.int .i64 n)],R=>R (.v (.agg [.w64 (mkW n), .w64 (mkW (n-64))]))
 |_,_=>False

theorem Hy(n:Int)(r:AV):run [] Tryz.prog 106 [.int .i64 n] [] [.nw] (eM (.v r))=
  (let f:=BitVec.ofInt (64:Nat) (18446744073709551615:Int);let e:=(64:Int);let c:=(128:Int);let b:=(0:Int);let d:=if c<if b>n then b else n then c else if b>n then b else n;let a:=d-if e<if c<if b>n then b else n then c else if b>n then b else n then e else if c<if b>n then b else n then c else if b>n then b else n;((b≤if e<if c<if b>n then b else n then c else if b>n then b else n then e else if c<if b>n then b else n then c else if b>n then b else n)∧Go.Sx.inRange Go.IntKind.i64 a∧(b≤d-if e<if c<if b>n then b else n then c else if b>n then b else n then e else if c<if b>n then b else n then c else if b>n then b else n)∧Go.Sx.AV.agg (List.map Go.Sx.canon1 (List.take (2:Nat) (List.drop (0:Nat) [Go.Sx.AV.w64 (~~~(f>>>Int.toNat (if e<if c<if b>n then b else n then c else if b>n then b else n then e else if c<if b>n then b else n then c else if b>n then b else n))),Go.Sx.AV.w64 (~~~(f>>>Int.toNat a))])))=r)):=by kernel_rfl

def clamp(n:Int):Int:=max 0 (min n 128)

theorem Cc(n:Int):(if 128< (if 0>n then 0 else n) then 128 else if 0>n then 0 else n)=clamp n:=by
 unfold clamp
 split<;>split<;>omega

theorem HS{n:Int}(h0:0≤n): ~~~(BitVec.ofInt 64 18446744073709551615>>>n.toNat)=mkW n:=by
 refine xW fun i hi=> ?_
 rw[pA n hi,BitVec.getMsbD_not,BitVec.getMsbD_ushiftRight,show BitVec.ofInt 64 18446744073709551615=BitVec.allOnes 64 from by decide,BitVec.getMsbD_allOnes]
 by_cases h:(i:Int)<n
 ·simp[h,hi,show i<n.toNat from by omega]
 ·simp[h,hi,show¬i<n.toNat from by omega]
  omega

theorem jp{n m:Int}(h:∀i:Nat,i<64→((i:Int)<n↔(i:Int)<m)):mkW n=mkW m:=
 xW fun i hi=>by rw[pA _ hi,pA _ hi];congr 1;exact propext (h i hi)

theorem CB:eJ Tryz.prog 106 (ey [none] Fd):=by
 refine eK fq fun l R hF=> ?_
 unfold Fd at hF
 split at hF
 ·rename_i n
  refine⟨_,hF,rfl,[.nw], ?_⟩
  show run [] Tryz.prog _ [.int .i64 n] [] _ _
  rw[Hy];(conv=>zeta)
  simp only[Cc]
  have hc:(if 64<clamp n then 64 else clamp n)=min (clamp n) 64:=by split<;>omega
  rw[hc]
  have b:0≤clamp n∧clamp n≤128:=by unfold clamp;omega
  refine⟨by omega,inR (by omega) (by omega),by omega, ?_⟩
  show AV.agg [.w64 _, .w64 _]=_
  rw[HS (by omega),HS (by omega)]
  rw[show mkW (min (clamp n) 64)=mkW n from jp fun i hi=>by unfold clamp;omega,
   show mkW (clamp n-min (clamp n) 64)=mkW (n-64) from jp fun i hi=>by unfold clamp;omega]
 ·exact hF.elim

noncomputable def BZ:List (FuncId×Sx.Spec):=[(106,ey [none] Fd)]

theorem Ka:∀e∈BZ,eJ Tryz.prog e.1 e.2:=by
 intro e he
 simp only[BZ,List.mem_cons,List.not_mem_nil,or_false] at he
 rcases he with rfl
 exact CB

def OR:List Arg→(Res→Prop)→Prop
 | [.v (.agg [.w64 a, .w64 b]), .v (.int .i64 n)],R=>R (.v (.agg [.w64 (a&&&mkW n), .w64 (b&&&mkW (n-64))]))
 |_,_=>False

theorem Ma(a b:BitVec 64)(n:Int)(r:AV):run BZ Tryz.prog 105 [.agg [.w64 a, .w64 b], .int .i64 n] [] [] (eM (.v r))=
  (Go.Sx.AV.agg (List.map Go.Sx.canon1 (List.take (2:Nat) (List.drop (0:Nat) [Go.Sx.AV.w64 (a&&&Go.Proofs.YtcabofadpheomaaGreat.L1.mkW n),Go.Sx.AV.w64 (b&&&Go.Proofs.YtcabofadpheomaaGreat.L1.mkW (n-(64:Int)))])))=r):=by kernel_rfl

theorem OQ:eJ Tryz.prog 105 (ey [none,none] OR):=by
 refine eK (eS (l:=BZ) Ka mixed noNG) fun l R hF=> ?_
 unfold OR at hF
 split at hF
 ·rename_i a b n
  refine⟨_,hF,rfl,[], ?_⟩
  show run BZ Tryz.prog _ [.agg [.w64 a, .w64 b], .int .i64 n] [] _ _
  rw[Ma]
  first|rfl|exact⟨rfl,rfl⟩
 ·exact hF.elim

theorem fU(a b:BitVec 64)(n:Int){i:Nat}(hi:i<128):eH (a&&&mkW n) (b&&&mkW (n-64)) i=(eH a b i&&decide ((i:Int)<n)):=by
 rw[←iz n hi]
 unfold eH
 split<;>rw[BitVec.getMsbD_and]

theorem Mb{a b c d:BitVec 64}{n:Int}:(a&&&mkW n==c&&&mkW n&&b&&&mkW (n-64)==d&&&mkW (n-64))=true↔∀i:Nat,i<128→(i:Int)<n→eH a b i=eH c d i:=by
 rw[Bool.and_eq_true,beq_iff_eq,beq_iff_eq]
 refine⟨fun⟨h1,h2⟩ i hi hn=> ?_,fun h=>iA fun i hi=> ?_⟩
 ·have e1:=fU a b n hi
  have e2:=fU c d n hi
  rw[decide_eq_true hn,Bool.and_true] at e1 e2
  rw[←e1,←e2,h1,h2]
 ·rw[fU a b n hi,fU c d n hi]
  by_cases hn:(i:Int)<n
  ·rw[h i hi hn]
  ·rw[decide_eq_false hn,Bool.and_false,Bool.and_false]

theorem uu{a b:BitVec 64}{n:Int}:(a&&&mkW n==a&&b&&&mkW (n-64)==b)=true↔∀i:Nat,i<128→n≤(i:Int)→eH a b i=false:=by
 rw[Bool.and_eq_true,beq_iff_eq,beq_iff_eq]
 refine⟨fun⟨h1,h2⟩ i hi hn=> ?_,fun h=>iA fun i hi=> ?_⟩
 ·have e1:=fU a b n hi
  rw[h1,h2,decide_eq_false (by omega),Bool.and_false] at e1
  exact e1
 ·rw[fU a b n hi]
  by_cases hn:(i:Int)<n
  ·rw[decide_eq_true hn,Bool.and_true]
  ·rw[decide_eq_false hn,Bool.and_false,h i hi (by omega)]

end Go.Proofs.YtcabofadpheomaaGreat.L1
end

section
namespace Go.Proofs.YtcabofadpheomaaGreat.L1
open Go.Sx Go.Sx.M

end Go.Proofs.YtcabofadpheomaaGreat.L1
end

section
namespace Go.Proofs.YtcabofadpheomaaGreat.L1
open Go.Sx Go.Sx.M

end Go.Proofs.YtcabofadpheomaaGreat.L1
end

section
namespace Go.Proofs.YtcabofadpheomaaGreat.L1
open Go.Sx Go.Sx.M

def Ke(a b c d:BitVec 64)(p:Nat):St:=
 ⟨[.any, .any, .any, .any, .any, .slice 2 0 128 false, .slice 3 0 128 false, .int .i64 p, .any, .any, .any, .any, .any, .any, .any, .any, .any, .any, .any, .any, .any, .any, .any, .any, .any, .any, .any, .any],
  [none,none,some ⟨true,4,1,true,fY a b⟩,some ⟨true,4,1,true,fY c d⟩]⟩

def Qi:Modes:=⟨[0,0,0,0,0,1,1,2,0,0,0,0,0,0,0,0,0,0,0,0,0,0,0,0,0,0,0,0],[0,1,2,3],[0,0,1,1],[],[]⟩
def Qj:Modes:=⟨[0,0,0,0,0,1,1,1,0,0,0,0,0,0,0,0,0,0,0,0,0,0,0,0,0,0,0,0],[0,1,2,3],[0,0,1,1],[],[]⟩

def Mg(a b c d:BitVec 64)(p:Nat):Prop:=p≤128∧∀i,i<p→eH a b i=eH c d i

def Qk(a b c d:BitVec 64):List Hint:=[.linv _ 0 (Ke a b c d) (Mg a b c d) (fun p=>200-p) Qi Qj Qj (fun _=>[]) fun p=>
 [.fork [.dy, .cell (.bool (eH a b p)), .dy, .cell (.bool (eH c d p)), .fork [.nw] []] [.br false]]]

noncomputable def B6:List (FuncId×Sx.Spec):=[(120,ey [none] Cs)]

theorem Me(a b c d:BitVec 64)(r:AV):run B6 Tryz.prog 119 [.agg [.w64 a, .w64 b], .agg [.w64 c, .w64 d]] [] (Qk a b c d) (eM (.v r))=
  (let u:=fY c d;let t:=fY a b;let m:=AV.int IntKind.i64;let k:=(1:Nat);let i:=(0:Nat);let s:=AV.slice (i+k+k+k) i;let h:=Blk.mk true (4:TypeId) k true;let l:=[none,none,some (h t),some (h u)];let g:=AV.any;((St.mk [g,g,g,g,g,AV.slice (i+k+k) i (List.length t) false,s (List.length u) false,m (0:Int),g,g,g,g,g,g,g,g,g,g,g,g,g,g,g,g,g,g,g,g] l=Ke a b c d i∧Mg a b c d i)∧∀(e:Nat),let q:=eH a b e==eH c d e;let j:=(↑e:Int);let o:=Decidable.decide (j< (128:Int));let n:=(0:Int)≤j∧j< (↑(128:Nat):Int);Mg a b c d e→(o=true→n∧Blk.read Proofs.Tryz.prog (h t) (4:Nat) (i+Int.toNat j) i=some (AV.bool (eH a b e))∧n∧Blk.read Proofs.Tryz.prog (h u) (4:Nat) (i+Int.toNat j) i=some (AV.bool (eH c d e))∧(q=true→inRange IntKind.i64 (j+(1:Int))∧∃(f:Nat),St.mk [g,g,g,g,g,AV.slice (i+k+k) i (128:Nat) false,s (128:Nat) false,m (j+(1:Int)),g,g,g,g,g,g,g,g,g,g,g,g,g,g,g,g,g,g,g,g] l=Ke a b c d f∧Mg a b c d f∧(200:Nat)-f< (200:Nat)-e)∧(q=false→m j=r))∧(o=false→m j=r))):=by kernel_rfl

def OW:List Arg→(Res→Prop)→Prop
 | [.v (.agg [.w64 a, .w64 b]), .v (.agg [.w64 c, .w64 d])],R=>R (.v (.int .i64 (com (eH a b) (eH c d):Nat)))
 |_,_=>False

noncomputable def Ca:List (FuncId×Sx.Spec):=[(120,ey [none] Cs),(119,ey [none,none] OW)]

theorem Mj(a b c d:BitVec 64)(r:AV):run Ca Tryz.prog 87 [.agg [.w64 a, .w64 b], .agg [.w64 c, .w64 d]] [] [.fork [] [.dy, .cell (.bool (eH c d (com (eH a b) (eH c d)))), .fork [] []]] (eM (.v r))=
  (let h:=eH c d;let g:=AV.int IntKind.i64;let e:=com (eH a b) (h);let f:=(↑e:Int);(((f==(128:Int))=true→g (0:Int)=r)∧((f==(128:Int))=false→((0:Int)≤f∧f< (↑(List.length (fY c d)):Int))∧Blk.read Proofs.Tryz.prog (Blk.mk true (4:TypeId) (1:Nat) true (fY c d)) (4:Nat) ((0:Nat)+Int.toNat f) (0:Nat)=some (AV.bool (h e))∧(h e=true→g (-1:Int)=r)∧(h e=false→g (1:Int)=r)))):=by kernel_rfl

theorem KM(a b c d:BitVec 64)(r:AV):run [] Tryz.prog 116 [.agg [.w64 a, .w64 b], .agg [.w64 c, .w64 d]] [] [.fork [.br false, .br false, .fork [] [.fork [] []]] [.br false, .br false, .fork [] [.fork [] []]]] (eM (.v r))=
  (let i:=Decidable.decide (d<b);let h:=Decidable.decide (b<d);let g:=Decidable.decide (c<a);let f:=Decidable.decide (a<c);let e:=AV.int IntKind.i64;(((a !=c)=true→(a !=a)=false∧(c !=c)=false∧(f=true→e (-1:Int)=r)∧(f=false→(g=true→e (1:Int)=r)∧(g=false→e (0:Int)=r)))∧((a !=c)=false→(b !=b)=false∧(d !=d)=false∧(h=true→e (-1:Int)=r)∧(h=false→(i=true→e (1:Int)=r)∧(i=false→e (0:Int)=r))))):=by kernel_rfl

theorem Kf:∀e∈B6,eJ Tryz.prog e.1 e.2:=by
 intro e he
 simp only[B6,List.mem_cons,List.not_mem_nil,or_false] at he
 rcases he with rfl
 exact zd

theorem OV:eJ Tryz.prog 119 (ey [none,none] OW):=by
 refine eK (eS (l:=B6) Kf mixed noNG) fun l R hF=> ?_
 unfold OW at hF
 split at hF
 ·rename_i a b c d
  refine⟨_,hF,rfl,Qk a b c d, ?_⟩
  show run B6 Tryz.prog _ [.agg [.w64 a, .w64 b], .agg [.w64 c, .w64 d]] [] _ _
  rw[Me];(conv=>zeta)
  refine⟨⟨rfl,by decide,fun i hi=>absurd hi (by omega)⟩, ?_⟩
  rintro p ⟨h1,h2⟩
  refine⟨fun hlt=> ?_,fun hge=> ?_⟩
  ·have hp:p<128:=by simp only[decide_eq_true_eq] at hlt;omega
   refine⟨by omega,kR (by omega) (by omega) rfl,by omega,kR (by omega) (by omega) rfl,fun he=> ?_,fun he=> ?_⟩
   ·refine⟨inR (by omega) (by omega),p+1,rfl,⟨by omega,fun i hi=> ?_⟩,by omega⟩
    rcases Nat.lt_or_eq_of_le (Nat.le_of_lt_succ hi) with h|rfl
    ·exact h2 i h
    ·simpa using he
   ·have:p=com (eH a b) (eH c d):=IsCom.uniq (f:=eH a b) (g:=eH c d) ⟨h1,h2,fun _=>by simpa using he⟩ (lv _ _)
    rw[this]
  ·have hp:p=128:=by simp only[decide_eq_false_iff_not] at hge;omega
   have:p=com (eH a b) (eH c d):=IsCom.uniq (f:=eH a b) (g:=eH c d) ⟨h1,h2,fun h=>by omega⟩ (lv _ _)
   rw[this]
 ·exact hF.elim

def B9:List Arg→(Res→Prop)→Prop
 | [.v (.agg [.w64 a, .w64 b]), .v (.agg [.w64 c, .w64 d])],R=>R (.v (.int .i64 (cmpV (V a b) (V c d))))
 |_,_=>False

theorem Km:∀e∈Ca,eJ Tryz.prog e.1 e.2:=by
 intro e he
 simp only[Ca,List.mem_cons,List.not_mem_nil,or_false] at he
 rcases he with rfl|rfl
 ·exact zd
 ·exact OV

theorem Kl:eJ Tryz.prog 87 (ey [none,none] B9):=by
 refine eK (eS (l:=Ca) Km mixed noNG) fun l R hF=> ?_
 unfold B9 at hF
 split at hF
 ·rename_i a b c d
  refine⟨_,hF,rfl,[.fork [] [.dy, .cell (.bool (eH c d (com (eH a b) (eH c d)))), .fork [] []]], ?_⟩
  show run Ca Tryz.prog _ [.agg [.w64 a, .w64 b], .agg [.w64 c, .w64 d]] [] _ _
  rw[Mj];(conv=>zeta);rw[Mf]
  have hle:=(lv (eH a b) (eH c d)).le
  refine⟨fun h=> ?_,fun h=> ?_⟩
  ·have:com (eH a b) (eH c d)=128:=by simp only[beq_iff_eq] at h;omega
   rw[if_pos this]
  ·have hne:com (eH a b) (eH c d)≠128:=by simp only[beq_eq_false_iff_ne,ne_eq] at h;omega
   rw[if_neg hne]
   refine⟨⟨by omega,by simp only[fY,List.length_map,List.length_range];omega⟩,kR (by omega) (by omega) rfl,fun hb=> ?_,fun hb=> ?_⟩
   ·rw[if_pos hb]
   ·rw[if_neg (by rw[hb];simp)]
 ·exact hF.elim

theorem F5:eJ Tryz.prog 116 (ey [none,none] B9):=by
 refine eK fq fun l R hF=> ?_
 unfold B9 at hF
 split at hF
 ·rename_i a b c d
  refine⟨_,hF,rfl,[.fork [.br false, .br false, .fork [] [.fork [] []]] [.br false, .br false, .fork [] [.fork [] []]]], ?_⟩
  show run [] Tryz.prog _ [.agg [.w64 a, .w64 b], .agg [.w64 c, .w64 d]] [] _ _
  rw[KM];(conv=>zeta)
  have hb:=b.isLt
  have hd:=d.isLt
  have self:∀x:BitVec 64,(x !=x)=false:=fun x=>by simp
  refine⟨fun h=>⟨self a,self c,fun h1=> ?_,fun h1=>⟨fun h2=> ?_,fun h2=> ?_⟩⟩,fun h=>⟨self b,self d,fun h1=> ?_,fun h1=>⟨fun h2=> ?_,fun h2=> ?_⟩⟩⟩
  all_goals
   simp only[bne_iff_ne,ne_eq,decide_eq_true_eq,decide_eq_false_iff_not,BitVec.lt_def,←BitVec.toNat_inj,bne_eq_false_iff_eq] at*
   congr 1
   unfold cmpV V
  ·rw[if_neg (by omega),if_pos (by omega)]
  ·rw[if_neg (by omega),if_neg (by omega)]
  ·omega
  ·rw[if_neg (by omega),if_pos (by omega)]
  ·rw[if_neg (by omega),if_neg (by omega)]
  ·rw[if_pos (by omega)]
 ·exact hF.elim

end Go.Proofs.YtcabofadpheomaaGreat.L1
end

