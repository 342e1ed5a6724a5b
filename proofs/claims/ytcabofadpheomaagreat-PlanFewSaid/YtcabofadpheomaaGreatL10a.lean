/-
 Texts in one: L10A L10B L10M L10D.
-/
import Derived.Test.YtcabofadpheomaaGreatMa
import Derived.Test.YtcabofadpheomaaGreatL4a
import Derived.Test.YtcabofadpheomaaGreatL5a
import Derived.Test.YtcabofadpheomaaGreatL9a
import Derived.Test.YtcabofadpheomaaGreatL2S

section
namespace Go.Proofs.YtcabofadpheomaaGreat.L1
open Go.Sx Go.Sx.M

end Go.Proofs.YtcabofadpheomaaGreat.L1
end

section
namespace Go.Proofs.YtcabofadpheomaaGreat.L1
open Go.Sx Go.Sx.M

def fu(r:Ro):En:=⟨r.p.a&&&mkW r.p.len,r.p.b&&&mkW (r.p.len-64),mkW r.p.len,mkW (r.p.len-64),clamp r.p.len,r.act⟩

def bdE(l:List Ro)(m:Int):List En:=
 if m=0 then srE (l.map fu) else if m=1 then srE ((kpR l).map fu) else if m=2 then mrE ((kpR l).map fu) else []

theorem EF{l:List Ro}{m:Int}(h:m<0∨m>2):bdE l m=[]:=by
 unfold bdE
 rw[if_neg (by omega),if_neg (by omega),if_neg (by omega)]

end Go.Proofs.YtcabofadpheomaaGreat.L1
end

section
namespace Go.Proofs.YtcabofadpheomaaGreat.L1
open Go.Sx Go.Sx.M

theorem sD(r:Ro)(c d:BitVec 64):mtE (fu r) c d=mtP r.p c d:=by
 rw[Bool.eq_iff_iff,fR]
 unfold mtE
 rw[jX]
 refine forall_congr' fun i=>forall_congr' fun hi=> ?_
 show eH (mkW r.p.len) (mkW (r.p.len-64)) i=true→eH (r.p.a&&&mkW r.p.len) (r.p.b&&&mkW (r.p.len-64)) i=eH c d i↔_
 rw[fU _ _ _ hi,iz _ hi,decide_eq_true_eq]
 exact⟨fun h hk=>by have:=h hk;rw[decide_eq_true hk,Bool.and_true] at this;exact this,fun h hk=>by rw[decide_eq_true hk,Bool.and_true];exact h hk⟩

theorem kB{w:Int}{r:Ro}(h:riP w r.p=true)(hw:w≤128):(fu r).len=r.p.len:=by
 obtain⟨_,h0,h1,_⟩:=jd.1 h
 exact wI.2 ⟨h0,by omega⟩

theorem H7{l:List Ro}(h:TB 128 l){x y:Ro}(hx:x∈l)(hy:y∈l)(hl:(fu x).len=(fu y).len)(hm:meE (fu x) (fu y)=true):x=y:=by
 have hrx:=h.rip hx
 have hry:=h.rip hy
 rw[kB hrx (Int.le_refl _),kB hry (Int.le_refl _)] at hl
 have key:mtP y.p x.p.a x.p.b=true:=fR.2 fun i hi hil=>by
  unfold meE at hm
  rw[gI] at hm
  have:=hm i hi (by show eH (mkW x.p.len) (mkW (x.p.len-64)) i=true;rw[iz _ hi,decide_eq_true_eq];omega) (by show eH (mkW y.p.len) (mkW (y.p.len-64)) i=true;rw[iz _ hi,decide_eq_true_eq];exact hil)
  have this:eH (x.p.a&&&mkW x.p.len) (x.p.b&&&mkW (x.p.len-64)) i=eH (y.p.a&&&mkW y.p.len) (y.p.b&&&mkW (y.p.len-64)) i:=this
  rw[fU _ _ _ hi,fU _ _ _ hi,decide_eq_true (show (i:Int)<x.p.len by omega),decide_eq_true hil,Bool.and_true,Bool.and_true] at this
  exact this.symm
 have:=qn hrx hry hl (E9 x.p) key
 exact h.one hx hy this

theorem nN{l:List Ro}(h:TB 128 l):siE (l.map fu)=true:=by
 rw[pj,List.pairwise_map]
 refine h.sorted.imp_of_mem fun {x y} hx hy hxy hl=> ?_
 cases e:meE (fu x) (fu y) with
 |false=>rfl
 |true=>
  have:=H7 h hx hy hl e
  subst this
  rw[fa] at hxy;omega

theorem EU{l:List Ro}(h:TB 128 l)(c d:BitVec 64):tlI (l.map fu) c d=tlR l c d:=by
 have hc:=fS (nN h) c d
 unfold tlR
 rcases uF h c d with⟨h1,h2⟩| ⟨x,hx,h1,h2,h3⟩
 ·rw[h1]
  rcases jz (l.map fu) c d with⟨e,_⟩| ⟨u,hu,hum,_,_⟩
  ·exact e
  ·obtain⟨r,hr,rfl⟩:=List.mem_map.1 hu
   rw[sD,h2 r hr] at hum;cases hum
 ·rw[h1]
  refine vH hc (x:=fu x) (List.mem_map_of_mem hx) (by rw[sD];exact h2) fun u hu hum=> ?_
  obtain⟨r,hr,rfl⟩:=List.mem_map.1 hu
  rw[sD] at hum
  rw[kB (h.rip hr) (Int.le_refl _),kB (h.rip hx) (Int.le_refl _)]
  exact h3 r hr hum

theorem rX{l:List Ro}(h:TB 128 l){m:Int}(h0:0≤m)(h1:m≤2):siE (bdE l m)=true∧orE (bdE l m)=true∧∀c d,tlI (bdE l m) c d=tlR l c d:=by
 have sorted:∀k:List En,siE k=true→siE (srE k)=true∧orE (srE k)=true∧∀c d,tlI (srE k) c d=tlI k c d:=fun k hk=>by
  have hs:siE (srE k)=true:=by rw[gY (e9 k)];exact hk
  exact⟨hs,mF (fW k),fun c d=>ig (e9 k) (fS hs c d)⟩
 have hk:=kF h
 have ht:∀c d,tlI ((kpR l).map fu) c d=tlR l c d:=fun c d=>by rw[EU hk,Jq h]
 unfold bdE
 split
 ·obtain⟨a,b,c⟩:=sorted _ (nN h)
  exact⟨a,b,fun x y=>by rw[c,EU h]⟩
 ·split
  ·obtain⟨a,b,c⟩:=sorted _ (nN hk)
   exact⟨a,b,fun x y=>by rw[c,ht]⟩
  ·rw[if_pos (by omega)]
   obtain⟨a,c⟩:=Du (nN hk)
   exact⟨a,mF (Dt _),fun x y=>by rw[c,ht]⟩

theorem Mt(l:List Ro):(bdE l 0).length=l.length:=by
 unfold bdE
 rw[if_pos rfl,fj,List.length_map]
theorem Ms(l:List Ro):(bdE l 1).length=(kpR l).length:=by
 unfold bdE
 rw[if_neg (by decide),if_pos rfl,fj,List.length_map]
theorem Mr(l:List Ro):(bdE l 2).length≤(kpR l).length:=by
 unfold bdE
 rw[if_neg (by decide),if_neg (by decide),if_pos rfl]
 have:=(Dv ((kpR l).map fu)).1
 rw[List.length_map] at this
 exact this
theorem oY(l:List Ro)(m:Int):(bdE l m).length≤l.length:=by
 have hk:=(pD l).length_le
 by_cases h0:m=0
 ·subst h0;rw[Mt];exact Nat.le_refl _
 ·by_cases h1:m=1
  ·subst h1;rw[Ms];exact hk
  ·by_cases h2:m=2
   ·subst h2;exact Nat.le_trans (Mr l) hk
   ·rw[show bdE l m=[] from by unfold bdE;rw[if_neg h0,if_neg h1,if_neg h2]]
    exact Nat.zero_le _

end Go.Proofs.YtcabofadpheomaaGreat.L1
end

section
namespace Go.Proofs.YtcabofadpheomaaGreat.L1
open Go.Sx Go.Sx.M

def nU:List Arg→(Res→Prop)→Prop
 | [.row r_l],R=>r_l=(deE r_l).map enE∧(deE r_l).length≤1000000∧R (.vrow 44 6 ((mrE (deE r_l)).map enE))
 |_,_=>False

def lm:List Arg→(Res→Prop)→Prop
 | [.row r_l, .v (.int .i64 m)],R=>r_l=(deR r_l).map roE∧((deR r_l).length≤1000000∧tbR 128 (deR r_l)=true)∧R (.vrow 44 6 ((bdE (deR r_l) m).map enE))
 |_,_=>False

end Go.Proofs.YtcabofadpheomaaGreat.L1
end

