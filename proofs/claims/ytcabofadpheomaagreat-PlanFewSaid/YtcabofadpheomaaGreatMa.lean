/-
 Texts in one: M01 M02 M03 M04 M09 M10 M11 M12 M13 M14 M15 M16 M17 M18 M19 M22 M23 M24 M31.
-/
import Derived.Laws.Small

section
namespace Go.Sx.M

def eH(a b:BitVec 64)(k:Nat):Bool:=if k<64 then a.getMsbD k else b.getMsbD (k-64)

def Es(a:BitVec 64):Nat→BitVec 64
 |0=>a
 |j+1=>Es a j/BitVec.ofInt 64 2

def EE(a b:BitVec 64)(k:Nat):Bool:=
 match decide (k<64) with
 |true=>Es a (63-k)%BitVec.ofInt 64 2==BitVec.ofInt 64 1
 |false=>Es b (127-k)%BitVec.ofInt 64 2==BitVec.ofInt 64 1

theorem uq(a:BitVec 64):∀j,(Es a j).toNat=a.toNat/2^j
 |0=>by simp[Es]
 |j+1=>by
  rw[Es,BitVec.toNat_udiv,uq a j,show (BitVec.ofInt 64 2).toNat=2 from by decide,Nat.div_div_eq_div_mul,Nat.pow_succ]

theorem BV(a:BitVec 64)(j:Nat):(Es a j%BitVec.ofInt 64 2==BitVec.ofInt 64 1)=a.getLsbD j:=by
 rw[Bool.eq_iff_iff,beq_iff_eq,←BitVec.toNat_inj,BitVec.toNat_umod,uq,show (BitVec.ofInt 64 2).toNat=2 from by decide,show (BitVec.ofInt 64 1).toNat=1 from by decide,
  BitVec.getLsbD,Nat.testBit_eq_decide_div_mod_eq,decide_eq_true_eq]

theorem Hx{a b:BitVec 64}{k:Nat}(hk:k<128):EE a b k=eH a b k:=by
 unfold EE eH
 by_cases h:k<64
 ·simp only[h,decide_true,if_true,BV,BitVec.getMsbD,Bool.true_and]
 ·simp only[h,decide_false,if_false,BV,BitVec.getMsbD]
  rw[show decide (k-64<64)=true from by simp;omega,Bool.true_and]
  congr 1
  omega

def W(f:Nat→Bool):Nat→BitVec 64
 |0=>0#64
 |n+1=>if f n then W f n*2#64+1#64 else W f n*2#64

theorem Ly(x:BitVec 64):x*2#64=x<<<1:=by
 apply BitVec.eq_of_toNat_eq
 rw[BitVec.toNat_mul,BitVec.toNat_shiftLeft,Nat.shiftLeft_eq]
 rfl

theorem C0(x:BitVec 64):x<<<1+1#64=x<<<1|||1#64:=by
 apply BitVec.add_eq_or_of_and_eq_zero
 apply BitVec.eq_of_getLsbD_eq
 intro i hi
 cases i<;>simp[BitVec.getLsbD_one]

theorem Nm(f:Nat→Bool):∀n,n≤64→∀j,(W f n).getLsbD j=(decide (j<n)&&f (n-1-j))
 |0,_,j=>by simp[W]
 |n+1,hn,j=>by
  have ih:=Nm f n (by omega)
  have e:W f (n+1)=(W f n<<<1)||| (if f n then 1#64 else 0#64):=by
   show (if f n then W f n*2#64+1#64 else W f n*2#64)=_
   rw[Ly]
   cases f n
   ·simp
   ·exact C0 _
  rw[e,BitVec.getLsbD_or,BitVec.getLsbD_shiftLeft]
  rcases Nat.eq_zero_or_pos j with h0|h0
  ·subst h0
   simp only[Nat.sub_zero,Nat.add_sub_cancel]
   cases f n<;>simp
  ·rw[ih (j-1)]
   have h1:(if f n=true then 1#64 else 0#64).getLsbD j=false:=by
    split
    ·rw[BitVec.getLsbD_one];simp;omega
    ·simp
   rw[h1,Bool.or_false]
   by_cases hj:j<n+1
   ·have a1:decide (j<64)=true:=by simp;omega
    have a2:decide (j<1)=false:=by simp;omega
    have a3:decide (j-1<n)=true:=by simp;omega
    have a4:decide (j<n+1)=true:=by simp;omega
    rw[a1,a2,a3,a4]
    simp only[Bool.not_false,Bool.true_and]
    congr 1;omega
   ·have a3:decide (j-1<n)=false:=by simp;omega
    have a4:decide (j<n+1)=false:=by simp;omega
    rw[a3,a4];simp

theorem xW{a b:BitVec 64}(h:∀i,i<64→a.getMsbD i=b.getMsbD i):a=b:=by
 apply BitVec.eq_of_getMsbD_eq
 intro i hi
 exact h i hi

theorem Qq(f:Nat→Bool){i:Nat}(hi:i<64):(W f 64).getMsbD i=f i:=by
 rw[BitVec.getMsbD,Nm f 64 (by omega)]
 have a1:decide (i<64)=true:=by simpa using hi
 have a2:decide (64-1-i<64)=true:=by simp;omega
 rw[a1,a2]
 simp only[Bool.true_and]
 congr 1;omega

def one(j:Nat):BitVec 64:=BitVec.ofInt 64 1<<<j

def put(a:BitVec 64)(k:Int)(c:Bool):BitVec 64:=
 if 0≤k∧k<64 then (match c with|true=>a|||one (63-k.toNat)|false=>a&&& ~~~one (63-k.toNat)) else a

end Go.Sx.M
end

section
namespace Go.Sx.M

theorem lA(v M u m:Nat)(hu:u<256)(hm:m<256):(256*v+u)&&&(256*M+m)=256*(v&&&M)+(u&&&m):=by
 apply Nat.eq_of_testBit_eq
 intro i
 have e:∀a b:Nat,b<256→(256*a+b).testBit i=if i<8 then b.testBit i else a.testBit (i-8):=fun a b hb=>by
  have:=Nat.testBit_two_pow_mul_add (i:=8) a (b:=b) (by simpa using hb) i
  simpa using this
 have hum:u&&&m<256:=Nat.lt_of_le_of_lt Nat.and_le_left hu
 rw[Nat.testBit_and,e v u hu,e M m hm,e (v&&&M) (u&&&m) hum]
 split<;>simp[Nat.testBit_and]

def val:List Nat→Nat
 | []=>0
 |u::l=>256*val l+u

def vL(l:List Nat):Prop:=∀u∈l,u<256

theorem QH(v u:Nat):(256*v+u)/2=256*(v/2)+(u/2+128*(v%2)):=by omega
theorem QG(v u:Nat):(256*v+u)/4=256*(v/4)+(u/4+64*(v%4)):=by omega
theorem QF(v u:Nat):(256*v+u)/16=256*(v/16)+(u/16+16*(v%16)):=by omega

def s1(u:Nat):Nat:=(u/2&&&85)+(u&&&85)
def s2(u:Nat):Nat:=(u/4&&&51)+(u&&&51)
def s3(u:Nat):Nat:=u/16+u&&&15

theorem a1:∀u:Fin 256,∀c:Fin 2,(u.val/2+128*c.val)&&&85=u.val/2&&&85:=by decide+kernel
theorem a2:∀u:Fin 256,∀c:Fin 4,(u.val/4+64*c.val)&&&51=u.val/4&&&51:=by decide+kernel
theorem b1:∀u:Fin 256,s1 u.val<256:=by decide+kernel
theorem b2:∀u:Fin 256,s2 (s1 u.val)<69∧s2 (s1 u.val)%16<5:=by decide+kernel
theorem a3:∀u:Fin 69,∀c:Fin 5,(u.val/16+16*c.val+u.val)&&&15=(u.val/16+u.val)&&&15:=by decide+kernel

theorem step1:∀l:List Nat,vL l→(val l/2&&&val (l.map fun _=>85))+(val l&&&val (l.map fun _=>85))=val (l.map s1)
 | [],_=>by simp[val]
 |u::l,h=>by
  have hu:u<256:=h u (by simp)
  have ih:=step1 l fun x hx=>h x (by simp[hx])
  simp only[val,List.map_cons]
  rw[QH,lA _ _ _ _ (by omega) (by omega),lA _ _ _ _ hu (by omega)]
  have e:=a1 ⟨u,hu⟩ ⟨val l%2,by omega⟩
  dsimp only at e
  rw[e,←ih,s1]
  omega

theorem MF:∀l:List Nat,vL l→(val l/4&&&val (l.map fun _=>51))+(val l&&&val (l.map fun _=>51))=val (l.map s2)
 | [],_=>by simp[val]
 |u::l,h=>by
  have hu:u<256:=h u (by simp)
  have ih:=MF l fun x hx=>h x (by simp[hx])
  simp only[val,List.map_cons]
  rw[QG,lA _ _ _ _ (by omega) (by omega),lA _ _ _ _ hu (by omega)]
  have e:=a2 ⟨u,hu⟩ ⟨val l%4,by omega⟩
  dsimp only at e
  rw[e,←ih,s2]
  omega

theorem Nz:∀l:List Nat,(∀u∈l,u<69∧u%16<5)→val l%16<5
 | [],_=>by simp[val]
 |u::l,h=>by
  have:=h u (by simp)
  simp only[val];omega

theorem ME:∀l:List Nat,(∀u∈l,u<69∧u%16<5)→(val l/16+val l)&&&val (l.map fun _=>15)=val (l.map s3)
 | [],_=>by simp[val]
 |u::l,h=>by
  have hu:=h u (by simp)
  have hl:∀x∈l,x<69∧x%16<5:=fun x hx=>h x (by simp[hx])
  have ih:=ME l hl
  have hv:=Nz l hl
  simp only[val,List.map_cons]
  rw[QF,show 256*(val l/16)+(u/16+16*(val l%16))+(256*val l+u)=256*(val l/16+val l)+(u/16+16*(val l%16)+u) from by omega,
   lA _ _ _ _ (by omega) (by omega),ih]
  have e:=a3 ⟨u,hu.1⟩ ⟨val l%16,hv⟩
  dsimp only at e
  rw[e,s3]

def cnt:Nat→Nat→Nat
 |0,_=>0
 |n+1,x=>cnt n x+(if x.testBit n then 1 else 0)

theorem c3:∀u:Fin 256,s3 (s2 (s1 u.val))=cnt 8 u.val:=by decide+kernel

theorem last(c0 c1 c2 c3 c4 c5 c6 c7:Nat)(h0:c0<9)(h1:c1<9)(h2:c2<9)(h3:c3<9)(h4:c4<9)(h5:c5<9)(h6:c6<9)(h7:c7<9)(y y1 y2 y3:Nat)
  (hy:y=val [c0,c1,c2,c3,c4,c5,c6,c7]) (hy1:y1=y+y/256) (hy2:y2=y1+y1/65536) (hy3:y3=y2+y2/4294967296):
  y3<18446744073709551616∧y3%128=c0+c1+c2+c3+c4+c5+c6+c7:=by
 simp only[val] at hy
 have q1:y/256=val [c1,c2,c3,c4,c5,c6,c7]:=by simp only[val];omega
 simp only[val] at q1
 have e1:y1=val [c0+c1,c1+c2,c2+c3,c3+c4,c4+c5,c5+c6,c6+c7,c7]:=by simp only[val];omega
 clear hy1 q1 hy
 simp only[val] at e1
 have q2:y1/65536=val [c2+c3,c3+c4,c4+c5,c5+c6,c6+c7,c7]:=by simp only[val];omega
 simp only[val] at q2
 have e2:y2=val [c0+c1+c2+c3,c1+c2+c3+c4,c2+c3+c4+c5,c3+c4+c5+c6,c4+c5+c6+c7,c5+c6+c7,c6+c7,c7]:=by simp only[val];omega
 clear hy2 q2 e1
 simp only[val] at e2
 have q3:y2/4294967296=val [c4+c5+c6+c7,c5+c6+c7,c6+c7,c7]:=by simp only[val];omega
 simp only[val] at q3
 have e3:y3=val [c0+c1+c2+c3+c4+c5+c6+c7,c1+c2+c3+c4+c5+c6+c7,c2+c3+c4+c5+c6+c7,c3+c4+c5+c6+c7,c4+c5+c6+c7,c5+c6+c7,c6+c7,c7]:=by simp only[val];omega
 clear hy3 q3 e2
 simp only[val] at e3
 constructor<;>omega

theorem ij(u v:Nat)(hu:u<256):∀n,cnt (8+n) (256*v+u)=cnt 8 u+cnt n v:=by
 have e:∀i,(256*v+u).testBit i=if i<8 then u.testBit i else v.testBit (i-8):=fun i=>by
  have:=Nat.testBit_two_pow_mul_add (i:=8) v (b:=u) (by simpa using hu) i
  simpa using this
 intro n
 induction n with
 |zero=>simp[cnt,e]
 |succ n ih=>
  show cnt (8+n) (256*v+u)+(if (256*v+u).testBit (8+n)=true then 1 else 0)=cnt 8 u+(cnt n v+if v.testBit n=true then 1 else 0)
  have h8:(256*v+u).testBit (8+n)=v.testBit n:=by rw[e,if_neg (by omega)];congr 1;omega
  rw[ih,h8]
  omega

theorem B8:∀u:Fin 256,cnt 8 u.val<9:=by decide+kernel

theorem s12{u:Nat}(h:u<256):s2 (s1 u)<69∧s2 (s1 u)%16<5:=b2 ⟨u,h⟩
theorem s11{u:Nat}(h:u<256):s1 u<256:=b1 ⟨u,h⟩
theorem zX{u:Nat}(h:u<256):s3 (s2 (s1 u))=cnt 8 u:=c3 ⟨u,h⟩

theorem HN:∀{l:List Nat},vL l→val l<256^l.length
 | [],_=>by simp[val]
 |u::l,h=>by
  have hu:u<256:=h u (by simp)
  have ih:=HN (l:=l) fun x hx=>h x (by simp[hx])
  simp only[val,List.length_cons,Nat.pow_succ]
  omega

theorem Im(x:Nat)(hx:x<18446744073709551616)(x1 x2 y y1 y2 y3:Nat)
  (h1:x1=(x/2&&&6148914691236517205)+(x&&&6148914691236517205)) (h2:x2=(x1/4&&&3689348814741910323)+(x1&&&3689348814741910323))
  (hy:y=(x2/16+x2)&&&1085102592571150095) (hy1:y1=y+y/256) (hy2:y2=y1+y1/65536) (hy3:y3=y2+y2/4294967296):
  x1<18446744073709551616∧x2/16+x2<18446744073709551616∧y3<18446744073709551616∧y3%128=cnt 64 x:=by
 obtain⟨l,hl,hlen,rfl⟩:∃l:List Nat,vL l∧l.length=8∧x=val l:=by
  refine⟨[x%256,x/256%256,x/65536%256,x/16777216%256,x/4294967296%256,x/1099511627776%256,x/281474976710656%256,x/72057594037927936%256], ?_,rfl, ?_⟩
  ·intro u hu
   simp only[List.mem_cons,List.not_mem_nil,or_false] at hu
   omega
  ·simp only[val];omega
 match l,hlen with
 | [c0,c1,c2,c3,c4,c5,c6,c7],_=>
  have k0:c0<256:=hl _ (by simp)
  have k1:c1<256:=hl _ (by simp)
  have k2:c2<256:=hl _ (by simp)
  have k3:c3<256:=hl _ (by simp)
  have k4:c4<256:=hl _ (by simp)
  have k5:c5<256:=hl _ (by simp)
  have k6:c6<256:=hl _ (by simp)
  have k7:c7<256:=hl _ (by simp)
  have hl1:vL [s1 c0,s1 c1,s1 c2,s1 c3,s1 c4,s1 c5,s1 c6,s1 c7]:=by
   intro u hu
   simp only[List.mem_cons,List.not_mem_nil,or_false] at hu
   rcases hu with rfl|rfl|rfl|rfl|rfl|rfl|rfl|rfl<;>exact s11 (by assumption)
  have hl2:∀u∈[s2 (s1 c0),s2 (s1 c1),s2 (s1 c2),s2 (s1 c3),s2 (s1 c4),s2 (s1 c5),s2 (s1 c6),s2 (s1 c7)],u<69∧u%16<5:=by
   intro u hu
   simp only[List.mem_cons,List.not_mem_nil,or_false] at hu
   rcases hu with rfl|rfl|rfl|rfl|rfl|rfl|rfl|rfl<;>exact s12 (by assumption)
  have e1:x1=val [s1 c0,s1 c1,s1 c2,s1 c3,s1 c4,s1 c5,s1 c6,s1 c7]:=by rw[h1,show 6148914691236517205=val ([c0,c1,c2,c3,c4,c5,c6,c7].map fun _=>85) from by simp[val]];exact step1 _ hl
  have e2:x2=val [s2 (s1 c0),s2 (s1 c1),s2 (s1 c2),s2 (s1 c3),s2 (s1 c4),s2 (s1 c5),s2 (s1 c6),s2 (s1 c7)]:=by rw[h2,e1,show 3689348814741910323=val ([s1 c0,s1 c1,s1 c2,s1 c3,s1 c4,s1 c5,s1 c6,s1 c7].map fun _=>51) from by simp[val]];exact MF _ hl1
  have e3:y=val [s3 (s2 (s1 c0)),s3 (s2 (s1 c1)),s3 (s2 (s1 c2)),s3 (s2 (s1 c3)),s3 (s2 (s1 c4)),s3 (s2 (s1 c5)),s3 (s2 (s1 c6)),s3 (s2 (s1 c7))]:=by rw[hy,e2,show 1085102592571150095=val ([s2 (s1 c0),s2 (s1 c1),s2 (s1 c2),s2 (s1 c3),s2 (s1 c4),s2 (s1 c5),s2 (s1 c6),s2 (s1 c7)].map fun _=>15) from by simp[val]];exact ME _ hl2
  rw[zX k0,zX k1,zX k2,zX k3,zX k4,zX k5,zX k6,zX k7] at e3
  have hlast:=last _ _ _ _ _ _ _ _ (B8 ⟨c0,k0⟩) (B8 ⟨c1,k1⟩) (B8 ⟨c2,k2⟩) (B8 ⟨c3,k3⟩) (B8 ⟨c4,k4⟩) (B8 ⟨c5,k5⟩) (B8 ⟨c6,k6⟩) (B8 ⟨c7,k7⟩) y y1 y2 y3 e3 hy1 hy2 hy3
  refine⟨?_, ?_,hlast.1, ?_⟩
  ·have h:=HN hl1
   simp only[List.length_cons,List.length_nil] at h
   rw[e1]
   exact Nat.lt_of_lt_of_le h (by decide)
  ·have:x2<69*72057594037927936+72057594037927936:=by
    rw[e2]
    have:=(s12 k0).1;have:=(s12 k1).1;have:=(s12 k2).1;have:=(s12 k3).1;have:=(s12 k4).1;have:=(s12 k5).1;have:=(s12 k6).1;have:=(s12 k7).1
    simp only[val];omega
   omega
  ·rw[hlast.2]
   simp only[val]
   have j0:=ij c0 (val [c1,c2,c3,c4,c5,c6,c7]) k0 56
   have j1:=ij c1 (val [c2,c3,c4,c5,c6,c7]) k1 48
   have j2:=ij c2 (val [c3,c4,c5,c6,c7]) k2 40
   have j3:=ij c3 (val [c4,c5,c6,c7]) k3 32
   have j4:=ij c4 (val [c5,c6,c7]) k4 24
   have j5:=ij c5 (val [c6,c7]) k5 16
   have j6:=ij c6 (val [c7]) k6 8
   have j7:=ij c7 (val []) k7 0
   simp only[val,Nat.reduceAdd,Nat.add_zero] at j0 j1 j2 j3 j4 j5 j6 j7⊢
   rw[j0,j1,j2,j3,j4,j5,j6,j7]
   show _=cnt 8 c0+(cnt 8 c1+(cnt 8 c2+(cnt 8 c3+(cnt 8 c4+(cnt 8 c5+(cnt 8 c6+(cnt 8 c7+0)))))))
   omega

end Go.Sx.M
end

section
namespace Go.Sx.M

def cf(f:Nat→Bool):Nat→Nat
 |0=>0
 |n+1=>cf f n+(if f n then 1 else 0)

theorem nv{f g:Nat→Bool}:∀{n:Nat},(∀i,i<n→f i=g i)→cf f n=cf g n
 |0,_=>rfl
 |n+1,h=>by simp only[cf];rw[nv fun i hi=>h i (by omega),h n (by omega)]

theorem Ch(f:Nat→Bool):∀n,cf f (n+1)=(if f 0 then 1 else 0)+cf (fun i=>f (i+1)) n
 |0=>by simp[cf]
 |n+1=>by
  have ih:=Ch f n
  rw[show cf f (n+1+1)=cf f (n+1)+(if f (n+1) then 1 else 0) from rfl,ih]
  simp only[cf]
  omega

theorem FL(f:Nat→Bool):∀n,cf (fun i=>f (n-1-i)) n=cf f n
 |0=>rfl
 |n+1=>by
  rw[Ch]
  have h:cf (fun i=>f (n+1-1-(i+1))) n=cf (fun i=>f (n-1-i)) n:=nv fun i hi=>by congr 1;omega
  rw[h,FL f n]
  simp only[cf,Nat.add_sub_cancel,Nat.sub_zero]
  omega

theorem Ew(f:Nat→Bool)(m:Nat):∀n,cf f (m+n)=cf f m+cf (fun i=>f (m+i)) n
 |0=>rfl
 |n+1=>by
  rw[show cf f (m+(n+1))=cf f (m+n)+(if f (m+n) then 1 else 0) from rfl,Ew f m n]
  simp only[cf];omega

theorem Kg(x:Nat):∀n,cnt n x=cf (fun i=>x.testBit i) n
 |0=>rfl
 |n+1=>by simp only[cnt,cf];rw[Kg x n]

theorem B7(a:BitVec 64):cnt 64 a.toNat=cf (fun i=>a.getMsbD i) 64:=by
 rw[Kg,←FL]
 refine nv fun i hi=> ?_
 rw[BitVec.getMsbD,show decide (i<64)=true from by simpa using hi,Bool.true_and]
 rfl

theorem Ht(a b:BitVec 64):cnt 64 a.toNat+cnt 64 b.toNat=cf (eH a b) 128:=by
 have h1:cf (eH a b) 64=cf (fun i=>a.getMsbD i) 64:=nv fun i hi=>by rw[eH,if_pos hi]
 have h2:cf (fun i=>eH a b (64+i)) 64=cf (fun i=>b.getMsbD i) 64:=nv fun i hi=>by
  rw[eH,if_neg (by omega),Nat.add_sub_cancel_left]
 rw[show 128=64+64 from rfl,Ew,B7,B7,h1,h2]

end Go.Sx.M
end

section
namespace Go.Sx.M

def ux(f g:Nat→Bool):Nat→Nat→Nat
 |0,k=>k
 |n+1,k=>if f k=g k then ux f g n (k+1) else k

def com(f g:Nat→Bool):Nat:=ux f g 128 0

structure IsCom(f g:Nat→Bool)(n:Nat):Prop where
 le:n≤128
 same:∀i,i<n→f i=g i
 other:n<128→f n≠g n

theorem wz(f g:Nat→Bool):∀n k,k≤ux f g n k∧ux f g n k≤k+n∧(∀i,k≤i→i<ux f g n k→f i=g i)∧(ux f g n k<k+n→f (ux f g n k)≠g (ux f g n k))
 |0,k=>⟨Nat.le_refl _,Nat.le_refl _,fun i h1 h2=>absurd h2 (by simp only[ux];omega),fun h=>absurd h (by simp only[ux];omega)⟩
 |n+1,k=>by
  simp only[ux]
  split
  ·rename_i h
   obtain⟨h1,h2,h3,h4⟩:=wz f g n (k+1)
   refine⟨by omega,by omega,fun i h5 h6=> ?_,fun h5=>h4 (by omega)⟩
   rcases Nat.eq_or_lt_of_le h5 with rfl|h7
   ·exact h
   ·exact h3 i h7 h6
  ·rename_i h
   exact⟨Nat.le_refl _,by omega,fun i h5 h6=>by omega,fun _=>h⟩

theorem lv(f g:Nat→Bool):IsCom f g (com f g):=by
 obtain⟨_,h2,h3,h4⟩:=wz f g 128 0
 exact⟨by simpa [com] using h2,fun i hi=>h3 i (Nat.zero_le _) hi,fun h=>h4 (by simpa [com] using h)⟩

theorem IsCom.uniq{f g:Nat→Bool}{n m:Nat}(h:IsCom f g n)(h':IsCom f g m):n=m:=by
 rcases Nat.lt_trichotomy n m with hlt|h0|hlt
 ·exact absurd (h'.same n hlt) (h.other (by have:=h'.le;omega))
 ·exact h0
 ·exact absurd (h.same m hlt) (h'.other (by have:=h.le;omega))

theorem IsCom.symm{f g:Nat→Bool}{n:Nat}(h:IsCom f g n):IsCom g f n:=⟨h.le,fun i hi=>(h.same i hi).symm,fun hn e=>h.other hn e.symm⟩

def V(a b:BitVec 64):Nat:=a.toNat*2^64+b.toNat

theorem Qr(a b:BitVec 64):V a b<2^128:=by
 have:=a.isLt
 have:=b.isLt
 unfold V;omega

theorem KO{a b c d:BitVec 64}:V a b=V c d↔a=c∧b=d:=by
 have h1:=b.isLt
 have h2:=d.isLt
 refine⟨fun h=> ?_,fun h=>by rw[h.1,h.2]⟩
 unfold V at h
 exact⟨BitVec.eq_of_toNat_eq (by omega),BitVec.eq_of_toNat_eq (by omega)⟩

theorem wV(a b:BitVec 64){k:Nat}(hk:k<128):(V a b).testBit (127-k)=eH a b k:=by
 unfold V eH
 rw[Nat.mul_comm,Nat.testBit_two_pow_mul_add _ b.isLt]
 split
 ·rename_i h
  rw[if_neg (by omega),BitVec.getMsbD,show decide (k-64<64)=true from by simp;omega,Bool.true_and,BitVec.getLsbD,show 64-1-(k-64)=127-k from by omega]<;>try omega
 ·rename_i h
  rw[if_pos (by omega),BitVec.getMsbD,show decide (k<64)=true from by simp;omega,Bool.true_and,BitVec.getLsbD]
  congr 1;omega

theorem iA{a b c d:BitVec 64}(h:∀k,k<128→eH a b k=eH c d k):a=c∧b=d:=by
 refine⟨xW fun i hi=> ?_,xW fun i hi=> ?_⟩
 ·have:=h i (by omega)
  unfold eH at this
  rwa [if_pos hi,if_pos hi] at this
 ·have:=h (64+i) (by omega)
  unfold eH at this
  rwa [if_neg (by omega),if_neg (by omega),Nat.add_sub_cancel_left] at this

theorem GV{m n i:Nat}(hm:m.testBit i=false)(hn:n.testBit i=true)(h:∀j,i<j→m.testBit j=n.testBit j):m<n:=by
 have e:m/2^(i+1)=n/2^(i+1):=Nat.eq_of_testBit_eq fun j=>by
  rw[Nat.testBit_div_two_pow,Nat.testBit_div_two_pow];exact h _ (by omega)
 rw[Nat.testBit_eq_decide_div_mod_eq,decide_eq_false_iff_not] at hm
 rw[Nat.testBit_eq_decide_div_mod_eq,decide_eq_true_eq] at hn
 rw[Nat.pow_succ,←Nat.div_div_eq_div_mul,←Nat.div_div_eq_div_mul] at e
 have h2:m/2^i<n/2^i:=by omega
 refine Nat.lt_of_not_le fun hle=> ?_
 have:=Nat.div_le_div_right (c:=2^i) hle
 omega

theorem uS{a b c d:BitVec 64}{n:Nat}(hn:n<128)(hs:∀i,i<n→eH a b i=eH c d i)(h0:eH a b n=false)(h1:eH c d n=true):V a b<V c d:=by
 refine GV (i:=127-n) (by rw[wV a b hn,h0]) (by rw[wV c d hn,h1]) fun j hj=> ?_
 by_cases h:j<128
 ·have e:j=127-(127-j):=by omega
  rw[e,wV a b (by omega),wV c d (by omega)]
  exact hs _ (by omega)
 ·rw[Nat.testBit_lt_two_pow (Nat.lt_of_lt_of_le (Qr a b) (Nat.pow_le_pow_right (by omega) (by omega))),Nat.testBit_lt_two_pow (Nat.lt_of_lt_of_le (Qr c d) (Nat.pow_le_pow_right (by omega) (by omega)))]

def cmpV(m n:Nat):Int:=if m=n then 0 else if m<n then-1 else 1

theorem Kd{a b c d:BitVec 64}:com (eH a b) (eH c d)=128↔a=c∧b=d:=by
 have hs:=lv (eH a b) (eH c d)
 refine⟨fun h=>iA fun k hk=>hs.same k (by omega),fun⟨h1,h2⟩=> ?_⟩
 subst h1;subst h2
 rcases Nat.lt_or_ge (com (eH a b) (eH a b)) 128 with h|h
 ·exact absurd rfl (hs.other h)
 ·have:=hs.le;omega

theorem Mf(a b c d:BitVec 64):cmpV (V a b) (V c d)=if com (eH a b) (eH c d)=128 then 0 else if eH c d (com (eH a b) (eH c d))=true then-1 else 1:=by
 have hs:=lv (eH a b) (eH c d)
 by_cases h:com (eH a b) (eH c d)=128
 ·rw[if_pos h]
  obtain⟨rfl,rfl⟩:=Kd.1 h
  unfold cmpV
  rw[if_pos rfl]
 ·rw[if_neg h]
  have hlt:com (eH a b) (eH c d)<128:=by have:=hs.le;omega
  have ho:=hs.other hlt
  cases hb:eH c d (com (eH a b) (eH c d)) with
  |true=>
   have ha:eH a b (com (eH a b) (eH c d))=false:=by
    rw[hb] at ho;cases hx:eH a b (com (eH a b) (eH c d)) with
    |true=>rw[hx] at ho;exact absurd rfl ho
    |false=>rfl
   have:=uS hlt hs.same ha hb
   unfold cmpV
   rw[if_neg (by omega),if_pos this,if_pos rfl]
  |false=>
   have ha:eH a b (com (eH a b) (eH c d))=true:=by
    rw[hb] at ho;cases hx:eH a b (com (eH a b) (eH c d)) with
    |true=>rfl
    |false=>rw[hx] at ho;exact absurd rfl ho
   have:=uS hlt (fun i hi=>(hs.same i hi).symm) hb ha
   unfold cmpV
   rw[if_neg (by omega),if_neg (by omega),if_neg (by simp)]

end Go.Sx.M
end

section
namespace Go.Sx.M

theorem fm(a b c d:BitVec 64)(k:Nat):eH (a&&&c) (b&&&d) k=(eH a b k&&eH c d k):=by
 unfold eH;split<;>rw[BitVec.getMsbD_and]

theorem gS(a b c d:BitVec 64)(k:Nat):eH (a^^^c) (b^^^d) k=(eH a b k^^eH c d k):=by
 unfold eH;split<;>rw[BitVec.getMsbD_xor]

theorem uI(k:Nat):eH 0#64 0#64 k=false:=by
 unfold eH;split<;>simp

theorem Aq{a b c d:BitVec 64}:(a==c&&b==d)=true↔∀k,k<128→eH a b k=eH c d k:=by
 rw[Bool.and_eq_true,beq_iff_eq,beq_iff_eq]
 exact⟨fun⟨h1,h2⟩ k _=>by rw[h1,h2],fun h=>iA h⟩

def wmB(v w m n a b:BitVec 64):Bool:=a&&&m==v&&&m&&b&&&n==w&&&n

theorem jX{v w m n a b:BitVec 64}:wmB v w m n a b=true↔∀k,k<128→eH m n k=true→eH v w k=eH a b k:=by
 unfold wmB
 rw[Aq]
 refine⟨fun h k hk hm=> ?_,fun h k hk=> ?_⟩
 ·have:=h k hk
  rw[fm,fm,hm] at this
  simpa using this.symm
 ·rw[fm,fm]
  cases hm:eH m n k with
  |true=>rw[h k hk hm]
  |false=>simp

def wtB(v w m n c d p q:BitVec 64):Bool:=(v^^^c)&&&(m&&&p)==0#64&&(w^^^d)&&&(n&&&q)==0#64

theorem gI{v w m n c d p q:BitVec 64}:wtB v w m n c d p q=true↔∀k,k<128→eH m n k=true→eH p q k=true→eH v w k=eH c d k:=by
 unfold wtB
 rw[Aq]
 refine⟨fun h k hk h1 h2=> ?_,fun h k hk=> ?_⟩
 ·have:=h k hk
  rw[fm,fm,gS,uI,h1,h2] at this
  revert this
  cases eH v w k<;>cases eH c d k<;>simp
 ·rw[fm,fm,gS,uI]
  cases h1:eH m n k with
  |false=>simp
  |true=>cases h2:eH p q k with
   |false=>simp
   |true=>rw[h k hk h1 h2];simp

theorem HC{v w m n c d p q:BitVec 64}:wtB c d p q v w m n=wtB v w m n c d p q:=by
 rw[Bool.eq_iff_iff,gI,gI]
 exact⟨fun h k hk h1 h2=>(h k hk h2 h1).symm,fun h k hk h1 h2=>(h k hk h2 h1).symm⟩

def selW(b:Bool)(x:BitVec 64):BitVec 64:=if b then x else 0#64

def mgB(v w m n c d p q:BitVec 64):Bool:=(m==p&&n==q)&&cf (eH ((v^^^c)&&&m) ((w^^^d)&&&n)) 128==1

end Go.Sx.M
end

section
namespace Go.Sx.M

def fr(m n:BitVec 64)(i:Nat):Nat:=cf (fun j=> !eH m n (127-j)) (127-i)

theorem FO(f:Nat→Bool):∀{a b:Nat},a≤b→cf f a≤cf f b
 |a,b,h=>by
  obtain⟨d,rfl⟩:=Nat.exists_eq_add_of_le h
  rw[Ew];omega

end Go.Sx.M
end

section
namespace Go.Sx.M

structure En where
 v:BitVec 64
 w:BitVec 64
 m:BitVec 64
 n:BitVec 64
 len:Int
 act:Int
 deriving DecidableEq,Inhabited

def mtE(x:En)(a b:BitVec 64):Bool:=wmB x.v x.w x.m x.n a b

def meE(x y:En):Bool:=wtB x.v x.w x.m x.n y.v y.w y.m y.n

def abE(x y:En):Bool:=decide (x.len>y.len)&&meE x y

theorem mM(x y:En):meE x y=meE y x:=HC

def at'{T:Type}[Inhabited T](l:List T)(k:Nat):T:=l.getD k default

theorem eZ{T:Type}[Inhabited T]{l:List T}{k:Nat}(h:k<l.length):l[k]?=some (at' l k):=by
 unfold at';rw[List.getD_eq_getElem?_getD,List.getElem?_eq_getElem h];rfl

theorem fb{T:Type}[Inhabited T]{l:List T}{k:Nat}(h:k<l.length):at' l k∈l:=List.mem_of_getElem? (eZ h)

theorem fi{T:Type}[Inhabited T]{l:List T}{x:T}(h:x∈l):∃k,k<l.length∧at' l k=x:=by
 obtain⟨k,hk⟩:=List.mem_iff_getElem?.1 h
 have hl:=(List.getElem?_eq_some_iff.1 hk).1
 exact⟨k,hl,by rw[eZ hl] at hk;exact Option.some_inj.1 hk⟩

def fsG(p:En→Bool)(l:List En):Nat→Nat→Int
 |0,_=> -1
 |n+1,k=>if p (at' l k) then (k:Int) else fsG p l n (k+1)

def fsI(l:List En)(a b:BitVec 64):Int:=fsG (fun x=>mtE x a b) l l.length 0

theorem tT(p:En→Bool)(l:List En):∀n k,(fsG p l n k= -1∧∀j,k≤j→j<k+n→p (at' l j)=false)∨
  ∃i:Nat,fsG p l n k=i∧k≤i∧i<k+n∧p (at' l i)=true∧∀j,k≤j→j<i→p (at' l j)=false
 |0,k=> .inl ⟨rfl,fun j h1 h2=>by omega⟩
 |n+1,k=>by
  unfold fsG
  cases hp:p (at' l k) with
  |true=>right;exact⟨k,by simp,Nat.le_refl _,by omega,hp,fun j h1 h2=>by omega⟩
  |false=>
   simp only[Bool.false_eq_true,if_false]
   rcases tT p l n (k+1) with⟨h1,h2⟩| ⟨i,h1,h2,h3,h4,h5⟩
   ·left
    refine⟨h1,fun j h3 h4=> ?_⟩
    rcases Nat.lt_or_eq_of_le h3 with h|rfl
    ·exact h2 j h (by omega)
    ·exact hp
   ·right
    refine⟨i,h1,by omega,by omega,h4,fun j h6 h7=> ?_⟩
    rcases Nat.lt_or_eq_of_le h6 with h|rfl
    ·exact h5 j h h7
    ·exact hp

def r6(l:List En)(a b:BitVec 64)(r:Int):Prop:=
 (r= -1∧∀j,j<l.length→mtE (at' l j) a b=false)∨∃i:Nat,r=i∧i<l.length∧mtE (at' l i) a b=true∧∀j,j<i→mtE (at' l j) a b=false

theorem BA(l:List En)(a b:BitVec 64):r6 l a b (fsI l a b):=by
 rcases tT (fun x=>mtE x a b) l l.length 0 with⟨h1,h2⟩| ⟨i,h1,h2,h3,h4,h5⟩
 ·exact .inl ⟨h1,fun j hj=>h2 j (by omega) (by omega)⟩
 ·exact .inr ⟨i,h1,by omega,h4,fun j hj=>h5 j (by omega) hj⟩

theorem r6.uniq{l:List En}{a b:BitVec 64}{r s:Int}(h:r6 l a b r)(h':r6 l a b s):r=s:=by
 rcases h with⟨rfl,h⟩| ⟨i,rfl,hi,h1,h2⟩<;>rcases h' with⟨rfl,g⟩| ⟨k,rfl,hk,g1,g2⟩
 ·rfl
 ·rw[h k hk] at g1;cases g1
 ·rw[g i hi] at h1;cases h1
 ·rcases Nat.lt_trichotomy i k with h|h|h
  ·rw[g2 i h] at h1;cases h1
  ·rw[h]
  ·rw[h2 k h] at g1;cases g1

def bsG(l:List En)(a b:BitVec 64):Nat→Int
 |0=> -1
 |n+1=>if mtE (at' l (l.length-1-n)) a b&&(decide (bsG l a b n<0)||decide ((at' l (l.length-1-n)).len≥(at' l (bsG l a b n).toNat).len)) then ((l.length-1-n:Nat):Int) else bsG l a b n

def bsI(l:List En)(a b:BitVec 64):Int:=bsG l a b l.length

def lD(l:List En)(a b:BitVec 64)(k:Nat)(r:Int):Prop:=
 (r= -1∧∀j,k≤j→j<l.length→mtE (at' l j) a b=false)∨
 ∃i:Nat,r=i∧k≤i∧i<l.length∧mtE (at' l i) a b=true∧∀j,k≤j→j<l.length→mtE (at' l j) a b=true→(at' l j).len≤(at' l i).len∧(j<i→(at' l j).len< (at' l i).len)

theorem Cq(l:List En)(a b:BitVec 64):∀n,n≤l.length→lD l a b (l.length-n) (bsG l a b n)
 |0,_=> .inl ⟨rfl,fun j h1 h2=>by omega⟩
 |n+1,hn=>by
  have ih:=Cq l a b n (by omega)
  generalize hr:bsG l a b n=r at ih
  have e1:l.length-(n+1)=l.length-1-n:=by omega
  have e2:l.length-n=(l.length-1-n)+1:=by omega
  rw[e2] at ih
  rw[e1]
  unfold bsG
  rw[hr]
  generalize hk:l.length-1-n=k at*
  have hkl:k<l.length:=by omega
  cases hm:mtE (at' l k) a b with
  |false=>
   simp only[Bool.false_and,Bool.false_eq_true,if_false]
   rcases ih with⟨h1,h2⟩| ⟨i,h1,h2,h3,h4,h5⟩
   ·left
    refine⟨h1,fun j h3 h4=> ?_⟩
    rcases Nat.lt_or_eq_of_le h3 with h|rfl
    ·exact h2 j h h4
    ·exact hm
   ·right
    refine⟨i,h1,by omega,h3,h4,fun j h6 h7 h8=> ?_⟩
    rcases Nat.lt_or_eq_of_le h6 with h|rfl
    ·exact h5 j h h7 h8
    ·rw[hm] at h8;cases h8
  |true=>
   rcases ih with⟨rfl,h2⟩| ⟨i,rfl,h2,h3,h4,h5⟩
   ·right
    refine⟨k,by simp,Nat.le_refl _,hkl,hm,fun j h6 h7 h8=> ?_⟩
    rcases Nat.lt_or_eq_of_le h6 with h|rfl
    ·rw[h2 j h h7] at h8;cases h8
    ·exact⟨Int.le_refl _,fun h=>by omega⟩
   ·have e3:((i:Int)).toNat=i:=by omega
    rw[e3,show decide ((i:Int)<0)=false from by simp]
    simp only[Bool.true_and,Bool.false_or]
    by_cases hl:(at' l k).len≥(at' l i).len
    ·rw[if_pos (by simpa using hl)]
     right
     refine⟨k,rfl,Nat.le_refl _,hkl,hm,fun j h6 h7 h8=> ?_⟩
     rcases Nat.lt_or_eq_of_le h6 with h|rfl
     ·have:=(h5 j h h7 h8).1
      exact⟨by omega,fun h'=>by omega⟩
     ·exact⟨Int.le_refl _,fun h=>by omega⟩
    ·rw[if_neg (by simpa using hl)]
     right
     refine⟨i,rfl,by omega,h3,h4,fun j h6 h7 h8=> ?_⟩
     rcases Nat.lt_or_eq_of_le h6 with h|rfl
     ·exact h5 j h h7 h8
     ·exact⟨by omega,fun _=>by omega⟩

theorem uG(l:List En)(a b:BitVec 64):lD l a b 0 (bsI l a b):=by
 have:=Cq l a b l.length (Nat.le_refl _)
 rwa [Nat.sub_self] at this

theorem lD.uniq{l:List En}{a b:BitVec 64}{r s:Int}(h:lD l a b 0 r)(h':lD l a b 0 s):r=s:=by
 rcases h with⟨rfl,h⟩| ⟨i,rfl,_,hi,h1,h2⟩<;>rcases h' with⟨rfl,g⟩| ⟨k,rfl,_,hk,g1,g2⟩
 ·rfl
 ·rw[h k (by omega) hk] at g1;cases g1
 ·rw[g i (by omega) hi] at h1;cases h1
 ·have a1:=h2 k (by omega) hk g1
  have a2:=g2 i (by omega) hi h1
  rcases Nat.lt_trichotomy i k with h|h|h
  ·have:=a2.2 h;omega
  ·rw[h]
  ·have:=a1.2 h;omega

def tlI(l:List En)(a b:BitVec 64):Int:=if bsI l a b<0 then 0 else (at' l (bsI l a b).toNat).act

def orE(l:List En):Bool:=decide (∀i,i<l.length→∀k,k<l.length→i<k→abE (at' l k) (at' l i)=false)

theorem pt{l:List En}:orE l=true↔∀i,i<l.length→∀k,k<l.length→i<k→abE (at' l k) (at' l i)=false:=by
 unfold orE;rw[decide_eq_true_eq]

theorem Ed{l:List En}(h:orE l=true)(a b:BitVec 64):fsI l a b=bsI l a b:=by
 rw[pt] at h
 refine lD.uniq ?_ (uG l a b)
 rcases BA l a b with⟨h1,h2⟩| ⟨i,h1,hi,h2,h3⟩
 ·exact .inl ⟨h1,fun j _ hj=>h2 j hj⟩
 ·refine .inr ⟨i,h1,by omega,hi,h2,fun j _ hj hm=> ?_⟩
  rcases Nat.lt_trichotomy j i with hlt|rfl|hgt
  ·rw[h3 j hlt] at hm;cases hm
  ·exact⟨Int.le_refl _,fun h=>by omega⟩
  ·have ho:=h i hi j hj hgt
   have hme:meE (at' l j) (at' l i)=true:=by
    unfold meE
    rw[gI]
    intro k hk k1 k2
    exact (jX.1 hm k hk k1).trans (jX.1 h2 k hk k2).symm
   unfold abE at ho
   rw[hme,Bool.and_true,decide_eq_false_iff_not] at ho
   exact⟨by omega,fun h=>by omega⟩

end Go.Sx.M
end

section
namespace Go.Sx.M

def rtE(x:En):Bool:=(x.v&&&x.m==x.v&&x.w&&&x.n==x.w)&&(decide (x.len≥0)&&(decide (x.len≤128)&&(decide (x.act≥1)&&decide (x.act≤255))))

def alE(x y:En):Bool:=(x.v==y.v&&x.w==y.w&&(x.m==y.m&&x.n==y.n))&&x.len==y.len

def mx0(n:Int):Int:=if 0>n then 0 else n

def jS(m n:Int):Int:=if m<n then-1 else if n<m then 1 else 0
def orZ(m n:Int):Int:=if m=0 then n else m

def cpE(x y:En):Int:=orZ (jS y.len x.len) (orZ (cmpV (V x.v x.w) (V y.v y.w)) (orZ (cmpV (V x.m x.n) (V y.m y.n)) (jS x.act y.act)))

theorem wH(m n:Nat):cmpV m n= -cmpV n m:=by
 unfold cmpV
 rcases Nat.lt_trichotomy m n with h|h|h
 ·rw[if_neg (by omega),if_pos h,if_neg (by omega),if_neg (by omega)]
 ·rw[if_pos h,if_pos h.symm];rfl
 ·rw[if_neg (by omega),if_neg (by omega),if_neg (by omega),if_pos h];rfl

theorem wF{m n:Nat}:cmpV m n=0↔m=n:=by
 unfold cmpV
 split
 ·simp[*]
 ·split<;>simp[*]

theorem wE(m n:Int):jS m n= -jS n m:=by
 unfold jS
 rcases Int.lt_trichotomy m n with h|h|h
 ·rw[if_pos h,if_neg (by omega),if_pos h]
 ·rw[if_neg (by omega),if_neg (by omega),if_neg (by omega),if_neg (by omega)];rfl
 ·rw[if_neg (by omega),if_pos h,if_pos h];rfl

theorem wB{m n:Int}:jS m n=0↔m=n:=by
 unfold jS
 split
 ·simp;omega
 ·split
  ·simp;omega
  ·simp;omega

theorem s4{m n m' n':Int}(h1:m= -m')(h2:n= -n'):orZ m n= -orZ m' n':=by
 unfold orZ;split<;>split<;>omega

theorem s0{m n:Int}:orZ m n=0↔m=0∧n=0:=by
 unfold orZ;split<;>simp[*]

theorem i4(x y:En):cpE x y= -cpE y x:=
 s4 (wE _ _) (s4 (wH _ _) (s4 (wH _ _) (wE _ _)))

theorem gx{x y:En}:cpE x y=0↔x=y:=by
 unfold cpE
 rw[s0,s0,s0,wB,wF,wF,wB,KO,KO]
 constructor
 ·rintro⟨h1,⟨h2,h3⟩,⟨h4,h5⟩,h6⟩
  cases x;cases y;simp_all
 ·rintro rfl;simp

theorem wG(m n:Nat):(cmpV m n= -1∧m<n)∨(cmpV m n=0∧m=n)∨(cmpV m n=1∧n<m):=by
 unfold cmpV
 rcases Nat.lt_trichotomy m n with h|h|h
 ·left;rw[if_neg (by omega),if_pos h];exact⟨rfl,h⟩
 ·right;left;rw[if_pos h];exact⟨rfl,h⟩
 ·right;right;rw[if_neg (by omega),if_neg (by omega)];exact⟨rfl,h⟩

theorem wD(m n:Int):(jS m n= -1∧m<n)∨(jS m n=0∧m=n)∨(jS m n=1∧n<m):=by
 unfold jS
 rcases Int.lt_trichotomy m n with h|h|h
 ·left;rw[if_pos h];exact⟨rfl,h⟩
 ·right;left;rw[if_neg (by omega),if_neg (by omega)];exact⟨rfl,h⟩
 ·right;right;rw[if_neg (by omega),if_pos h];exact⟨rfl,h⟩

theorem uv{x y:En}:cpE x y≤0↔y.len<x.len∨(y.len=x.len∧(V x.v x.w<V y.v y.w∨(V x.v x.w=V y.v y.w∧(V x.m x.n<V y.m y.n∨(V x.m x.n=V y.m y.n∧x.act≤y.act))))):=by
 unfold cpE orZ
 rcases wD y.len x.len with⟨a,a'⟩| ⟨a,a'⟩| ⟨a,a'⟩<;>rw[a]
 ·simp;omega
 ·rcases wG (V x.v x.w) (V y.v y.w) with⟨b,b'⟩| ⟨b,b'⟩| ⟨b,b'⟩<;>rw[b]
  ·simp;omega
  ·rcases wG (V x.m x.n) (V y.m y.n) with⟨c,c'⟩| ⟨c,c'⟩| ⟨c,c'⟩<;>rw[c]
   ·simp;omega
   ·rcases wD x.act y.act with⟨d,d'⟩| ⟨d,d'⟩| ⟨d,d'⟩<;>rw[d]<;>simp<;>omega
   ·simp;omega
  ·simp;omega
 ·simp;omega

theorem gR{x y z:En}(h1:cpE x y≤0)(h2:cpE y z≤0):cpE x z≤0:=by
 rw[uv] at*
 omega

theorem n9(x y:En):cpE x y≤0∨cpE y x≤0:=by
 have:=i4 x y;omega

theorem nt{x y:En}(h1:cpE x y≤0)(h2:cpE y x≤0):x=y:=by
 have:=i4 x y
 exact gx.1 (by omega)

def Sorted:List En→Prop:=List.Pairwise fun x y=>cpE x y≤0

theorem jZ:∀{l m:List En},l.Perm m→Sorted l→Sorted m→l=m
 | [],m,h,_,_=>(List.nil_perm.1 h).symm
 |x::l,[],h,_,_=>absurd (List.perm_nil.1 h) (by simp)
 |x::l,y::m,h,hl,hm=>by
  have hl':=List.pairwise_cons.1 hl
  have hm':=List.pairwise_cons.1 hm
  have e:x=y:=by
   have hx:x∈y::m:=h.mem_iff.1 (by simp)
   have hy:y∈x::l:=h.mem_iff.2 (by simp)
   rcases List.mem_cons.1 hx with e|hx
   ·exact e
   ·rcases List.mem_cons.1 hy with e|hy
    ·exact e.symm
    ·exact nt (hl'.1 y hy) (hm'.1 x hx)
  subst e
  rw[jZ (List.Perm.cons_inv h) hl'.2 hm'.2]

def tD(out:List En)(x:En):List En:=out.takeWhile (fun y=>decide (cpE y x≤0))++x::out.dropWhile (fun y=>decide (cpE y x≤0))

def srE:List En→List En:=List.foldl tD []

theorem G1(out:List En)(x:En):(tD out x).Perm (out++[x]):=by
 unfold tD
 refine List.perm_middle.trans ?_
 rw[List.takeWhile_append_dropWhile]
 exact (List.perm_append_singleton x out).symm

theorem AU{out:List En}(h:Sorted out)(x:En):Sorted (tD out x):=by
 unfold tD
 induction out with
 |nil=>simp[Sorted]
 |cons y l ih=>
  have hh:=List.pairwise_cons.1 h
  by_cases hc:cpE y x≤0
  ·rw[List.takeWhile_cons_of_pos (by simpa using hc),List.dropWhile_cons_of_pos (by simpa using hc)]
   refine List.pairwise_cons.2 ⟨fun z hz=> ?_,ih hh.2⟩
   rcases List.mem_append.1 hz with h1|h1
   ·exact hh.1 z ((List.takeWhile_sublist _).subset h1)
   ·rcases List.mem_cons.1 h1 with rfl|h1
    ·exact hc
    ·exact hh.1 z ((List.dropWhile_sublist _).subset h1)
  ·rw[List.takeWhile_cons_of_neg (by simpa using hc),List.dropWhile_cons_of_neg (by simpa using hc)]
   have hyx:cpE x y≤0:=by rcases n9 x y with h1|h1;(· exact h1);(· exact absurd h1 hc)
   refine List.pairwise_cons.2 ⟨fun z hz=> ?_,h⟩
   rcases List.mem_cons.1 hz with rfl|hz
   ·exact hyx
   ·exact gR hyx (hh.1 z hz)

theorem qI:∀(l out:List En),Sorted out→Sorted (l.foldl tD out)∧(l.foldl tD out).Perm (out++l)
 | [],out,h=>⟨h,by simp⟩
 |x::l,out,h=>by
  obtain⟨h1,h2⟩:=qI l (tD out x) (AU h x)
  refine⟨h1,h2.trans ?_⟩
  have:=(G1 out x).append_right l
  simpa using this

theorem fW(l:List En):Sorted (srE l):=(qI l [] (by simp[Sorted])).1
theorem e9(l:List En):(srE l).Perm l:=(qI l [] (by simp[Sorted])).2

theorem kN{l m:List En}(h:Sorted m)(hp:m.Perm l):m=srE l:=jZ (hp.trans (e9 l).symm) h (fW l)

theorem fj(l:List En):(srE l).length=l.length:=(e9 l).length_eq

theorem zM(l:List En)(x:En):srE (l++[x])=tD (srE l) x:=by unfold srE;rw[List.foldl_append];rfl

theorem Fq{out:List En}{x:En}:∀{k:Nat},k≤out.length→(∀j,j<k→cpE (at' out j) x≤0)→(k<out.length→¬cpE (at' out k) x≤0)→tD out x=out.take k++x::out.drop k:=by
 intro k hk h1 h2
 have key:∀(out:List En) (k:Nat),k≤out.length→(∀j,j<k→cpE (at' out j) x≤0)→(k<out.length→¬cpE (at' out k) x≤0)→
   out.takeWhile (fun y=>decide (cpE y x≤0))=out.take k∧out.dropWhile (fun y=>decide (cpE y x≤0))=out.drop k:=by
  intro out
  induction out with
  |nil=>intro k hk _ _;simp at hk;subst hk;simp
  |cons y l ih=>
   intro k hk h1 h2
   cases k with
   |zero=>
    have:¬cpE y x≤0:=h2 (by simp)
    rw[List.takeWhile_cons_of_neg (by simpa using this),List.dropWhile_cons_of_neg (by simpa using this)]
    simp
   |succ k=>
    have h0:cpE y x≤0:=h1 0 (by omega)
    rw[List.takeWhile_cons_of_pos (by simpa using h0),List.dropWhile_cons_of_pos (by simpa using h0)]
    obtain⟨a,b⟩:=ih k (by simpa using hk) (fun j hj=>h1 (j+1) (by omega)) (fun h=>h2 (by simpa using h))
    rw[a,b];simp
 obtain⟨a,b⟩:=key out k hk h1 h2
 unfold tD
 rw[a,b]

theorem mF{l:List En}(h:Sorted l):orE l=true:=by
 rw[pt]
 intro i hi k hk hik
 have hp:=List.pairwise_iff_getElem.1 h i k hi hk hik
 have e1:l[i]=at' l i:=by have:=eZ hi;rw[List.getElem?_eq_getElem hi] at this;exact Option.some_inj.1 this
 have e2:l[k]=at' l k:=by have:=eZ hk;rw[List.getElem?_eq_getElem hk] at this;exact Option.some_inj.1 this
 rw[e1,e2,uv] at hp
 unfold abE
 rw[Bool.and_eq_false_iff]
 left
 rw[decide_eq_false_iff_not]
 omega

end Go.Sx.M
end

section
namespace Go.Sx.M

def fbG(l:List En)(a b:BitVec 64):Nat→Int
 |0=> -1
 |n+1=>if (decide (fbG l a b n<0)||decide ((at' l n).len>(at' l (fbG l a b n).toNat).len))&&mtE (at' l n) a b then (n:Int) else fbG l a b n

theorem JR(l:List En)(a b:BitVec 64):∀n,(fbG l a b n= -1∧∀j,j<n→mtE (at' l j) a b=false)∨
  ∃i:Nat,fbG l a b n=i∧i<n∧mtE (at' l i) a b=true∧∀j,j<n→mtE (at' l j) a b=true→(at' l j).len≤(at' l i).len∧(j<i→(at' l j).len< (at' l i).len)
 |0=> .inl ⟨rfl,fun j h=>by omega⟩
 |n+1=>by
  have ih:=JR l a b n
  unfold fbG
  generalize fbG l a b n=r at ih
  cases hm:mtE (at' l n) a b with
  |false=>
   rw[Bool.and_false,if_neg (by simp)]
   rcases ih with⟨h1,h2⟩| ⟨i,h1,h2,h3,h4⟩
   ·exact .inl ⟨h1,fun j hj=>by
     rcases Nat.lt_or_eq_of_le (Nat.le_of_lt_succ hj) with h|rfl
     ·exact h2 j h
     ·exact hm⟩
   ·exact .inr ⟨i,h1,by omega,h3,fun j hj hj2=>by
     rcases Nat.lt_or_eq_of_le (Nat.le_of_lt_succ hj) with h|rfl
     ·exact h4 j h hj2
     ·rw[hm] at hj2;cases hj2⟩
  |true=>
   rw[Bool.and_true]
   rcases ih with⟨rfl,h2⟩| ⟨i,rfl,h2,h3,h4⟩
   ·rw[if_pos (by simp)]
    exact .inr ⟨n,rfl,by omega,hm,fun j hj hj2=>by
     rcases Nat.lt_or_eq_of_le (Nat.le_of_lt_succ hj) with h|rfl
     ·rw[h2 j h] at hj2;cases hj2
     ·exact⟨Int.le_refl _,fun h=>by omega⟩⟩
   ·have e3:((i:Int)).toNat=i:=by omega
    rw[e3,show decide ((i:Int)<0)=false from by simp,Bool.false_or]
    by_cases hl:(at' l n).len>(at' l i).len
    ·rw[if_pos (by simpa using hl)]
     exact .inr ⟨n,rfl,by omega,hm,fun j hj hj2=>by
      rcases Nat.lt_or_eq_of_le (Nat.le_of_lt_succ hj) with h|rfl
      ·have:=(h4 j h hj2).1
       exact⟨by omega,fun _=>by omega⟩
      ·exact⟨Int.le_refl _,fun h=>by omega⟩⟩
    ·rw[if_neg (by simpa using hl)]
     exact .inr ⟨i,rfl,by omega,h3,fun j hj hj2=>by
      rcases Nat.lt_or_eq_of_le (Nat.le_of_lt_succ hj) with h|rfl
      ·exact h4 j h hj2
      ·exact⟨by omega,fun h=>by omega⟩⟩

def mnG(l:List En):Nat→Int
 |0=>9223372036854775807
 |n+1=>if (at' l n).len<mnG l n then (at' l n).len else mnG l n

theorem I4(l:List En):∀n j,j<n→mnG l n≤(at' l j).len
 |0,j,h=>by omega
 |n+1,j,h=>by
  unfold mnG
  rcases Nat.lt_or_eq_of_le (Nat.le_of_lt_succ h) with h'|rfl
  ·have:=I4 l n j h'
   split<;>omega
  ·split<;>omega

def nH(l:List En)(n:Nat):Prop:=∀k,k<n→∀i,i<k→abE (at' l k) (at' l i)=false

theorem nH.all{l:List En}:orE l=true↔nH l l.length:=by
 rw[pt]
 exact⟨fun h k hk i hi=>h i (by omega) k hk hi,fun h i _ k hk hik=>h k hk i hik⟩

theorem nH.short{l:List En}{n:Nat}(h:nH l n)(hs:¬(at' l n).len>mnG l n):nH l (n+1):=fun k hk i hi=>by
 rcases Nat.lt_or_eq_of_le (Nat.le_of_lt_succ hk) with h'|rfl
 ·exact h k h' i hi
 ·have:=I4 l k i hi
  unfold abE
  rw[show decide ((at' l k).len>(at' l i).len)=false from by simp;omega,Bool.false_and]

theorem nH.next{l:List En}{n:Nat}(h:nH l n)(hs:∀i,i<n→abE (at' l n) (at' l i)=false):nH l (n+1):=fun k hk i hi=>by
 rcases Nat.lt_or_eq_of_le (Nat.le_of_lt_succ hk) with h'|rfl
 ·exact h k h' i hi
 ·exact hs i hi

end Go.Sx.M
end

section
namespace Go.Sx.M

def F8(l:List En)(a b:BitVec 64):Prop:=∀x,x∈l→∀y,y∈l→mtE x a b=true→mtE y a b=true→x.len=y.len→x.act=y.act

theorem ig{l m:List En}{a b:BitVec 64}(hp:l.Perm m)(hc:F8 l a b):tlI l a b=tlI m a b:=by
 have cases':∀k:List En,(bsI k a b<0∧∀x∈k,mtE x a b=false)∨∃x,x∈k∧mtE x a b=true∧tlI k a b=x.act∧∀y∈k,mtE y a b=true→y.len≤x.len:=by
  intro k
  rcases uG k a b with⟨h1,h2⟩| ⟨i,h1,_,h2,h3,h4⟩
  ·left
   refine⟨by omega,fun x hx=> ?_⟩
   obtain⟨j,hj,rfl⟩:=fi hx
   exact h2 j (by omega) hj
  ·right
   refine⟨at' k i,fb h2,h3, ?_,fun y hy hm=> ?_⟩
   ·unfold tlI
    rw[if_neg (by omega),h1];rfl
   ·obtain⟨j,hj,rfl⟩:=fi hy
    exact (h4 j (by omega) hj hm).1
 rcases cases' l with⟨h1,h2⟩| ⟨x,hx,hxm,hxa,hxl⟩<;>rcases cases' m with⟨g1,g2⟩| ⟨y,hy,hym,hya,hyl⟩
 ·unfold tlI;rw[if_pos h1,if_pos g1]
 ·rw[h2 y (hp.mem_iff.2 hy)] at hym;cases hym
 ·rw[g2 x (hp.mem_iff.1 hx)] at hxm;cases hxm
 ·rw[hxa,hya]
  have hy':=hp.mem_iff.2 hy
  have hx':=hp.mem_iff.1 hx
  exact hc x hx y hy' hxm hym (Int.le_antisymm (hyl x hx' hxm) (hxl y hy' hym))

def F7(l:List En)(a b:BitVec 64)(n:Nat):Prop:=∀i,i<n→∀k,k<i→(at' l i).len=(at' l k).len→mtE (at' l i) a b=true→mtE (at' l k) a b=true→(at' l i).act=(at' l k).act

theorem F7.all{l:List En}{a b:BitVec 64}(h:F7 l a b l.length):F8 l a b:=by
 intro x hx y hy hxm hym hl
 obtain⟨i,hi,rfl⟩:=fi hx
 obtain⟨k,hk,rfl⟩:=fi hy
 rcases Nat.lt_trichotomy i k with hlt|rfl|hgt
 ·exact (h k hk i hlt hl.symm hym hxm).symm
 ·rfl
 ·exact h i hi k hgt hl hxm hym

end Go.Sx.M
end

section
namespace Go.Sx.M

structure Sl where
 ok:Bool
 e:En
 deriving DecidableEq,Inhabited

structure Wr where
 p:Int
 s:Sl
 deriving DecidableEq,Inhabited

def zS:Sl:=⟨false,⟨0#64,0#64,0#64,0#64,0,0⟩⟩

def mtS(a b:BitVec 64)(x:Sl):Bool:=x.ok&&mtE x.e a b

def inS(p n:Int):Bool:=decide (0≤p)&&decide (p<n)
def rtS(x:Sl):Bool:=decide (x=zS)|| (x.ok&&rtE x.e)
def kY(x:Wr)(n:Int):Bool:=inS x.p n&&rtS x.s

theorem yg{p n:Int}:inS p n=true↔0≤p∧p<n:=by
 unfold inS
 rw[Bool.and_eq_true,decide_eq_true_eq,decide_eq_true_eq]

theorem LK{p n:Int}(h:¬(0≤p∧p<n)):inS p n=false:=by
 cases e:inS p n with
 |false=>rfl
 |true=>exact absurd (yg.1 e) h

theorem I7{x:Wr}{n:Int}(h:¬(0≤x.p∧x.p<n)):kY x n=false:=by
 unfold kY
 rw[LK h,Bool.false_and]

theorem x7{x:Wr}{n:Int}(h:0≤x.p∧x.p<n):kY x n=rtS x.s:=by
 unfold kY
 rw[yg.2 h,Bool.true_and]

theorem Lz{x:Wr}{n:Int}(h:kY x n=true):0≤x.p∧x.p<n:=by
 unfold kY at h
 rw[Bool.and_eq_true] at h
 exact yg.1 h.1

theorem Qc{o:Bool}{v w m n:BitVec 64}{k j:Int}:(o==false&&(v==BitVec.ofInt 64 0&&w==BitVec.ofInt 64 0&&(m==BitVec.ofInt 64 0&&n==BitVec.ofInt 64 0)&&(k==0&&j==0)))=decide ((⟨o,⟨v,w,m,n,k,j⟩⟩:Sl)=zS):=by
 have e:BitVec.ofInt 64 0=0#64:=rfl
 rw[Bool.eq_iff_iff,decide_eq_true_eq,e]
 unfold zS
 simp only[Bool.and_eq_true,beq_iff_eq,Sl.mk.injEq,En.mk.injEq]
 constructor
 ·rintro⟨a,⟨⟨b,c⟩,d,e⟩,f,g⟩
  exact⟨a,b,c,d,e,f,g⟩
 ·rintro⟨a,b,c,d,e,f,g⟩
  exact⟨a,⟨⟨b,c⟩,d,e⟩,f,g⟩

theorem Qd{x y:Sl}:(x.ok==y.ok&&(x.e.v==y.e.v&&x.e.w==y.e.w&&(x.e.m==y.e.m&&x.e.n==y.e.n)&&(x.e.len==y.e.len&&x.e.act==y.e.act)))=decide (x=y):=by
 obtain⟨o,v,w,m,n,k,j⟩:=x
 obtain⟨o',v',w',m',n',k',j'⟩:=y
 rw[Bool.eq_iff_iff,decide_eq_true_eq]
 simp only[Bool.and_eq_true,beq_iff_eq,Sl.mk.injEq,En.mk.injEq]
 constructor
 ·rintro⟨a,⟨⟨b,c⟩,d,e⟩,f,g⟩
  exact⟨a,b,c,d,e,f,g⟩
 ·rintro⟨a,b,c,d,e,f,g⟩
  exact⟨a,⟨⟨b,c⟩,d,e⟩,f,g⟩

def apS(l:List Sl)(x:Wr):List Sl:=if kY x l.length then l.set x.p.toNat x.s else l
def apL(l:List Sl)(w:List Wr):List Sl:=w.foldl apS l

theorem EH(l:List Sl)(x:Wr):(apS l x).length=l.length:=by unfold apS;split<;>simp

theorem gk:∀(w:List Wr) (l:List Sl),(apL l w).length=l.length
 | [],_=>rfl
 |x::w,l=>by
  have:apL l (x::w)=apL (apS l x) w:=rfl
  rw[this,gk w,EH]

theorem KJ(l:List Sl)(w:List Wr)(x:Wr):apL l (w++[x])=apS (apL l w) x:=by
 unfold apL
 rw[List.foldl_append];rfl

theorem Mw(l:List Sl)(x:Wr):apL l [x]=apS l x:=rfl

def ensS(l:List Sl):List En:=(l.filter Sl.ok).map Sl.e

theorem fJ(l:List Sl):(ensS l).length≤l.length:=by
 unfold ensS
 rw[List.length_map]
 exact List.length_filter_le _ _

theorem lu(l:List Sl)(x:Sl):ensS (l++[x])=if x.ok then ensS l++[x.e] else ensS l:=by
 unfold ensS
 rw[List.filter_append,List.map_append,List.filter_cons,List.filter_nil]
 split
 ·rfl
 ·rw[List.map_nil,List.append_nil]

def fnS(l:List Sl)(a b:BitVec 64):Int:=match l.findIdx? (mtS a b) with|some k=>k|none=> -1

def zt(l:List Sl)(a b:BitVec 64)(r:Int):Prop:=
 (r= -1∧∀j,j<l.length→mtS a b (at' l j)=false)∨∃k:Nat,r=k∧k<l.length∧mtS a b (at' l k)=true∧∀j,j<k→mtS a b (at' l j)=false

theorem fx{T:Type}[Inhabited T]{l:List T}{k:Nat}(h:k<l.length):at' l k=l[k]:=by
 have:=eZ h
 rw[List.getElem?_eq_getElem h] at this
 exact (Option.some_inj.1 this).symm

theorem pP(l:List Sl)(a b:BitVec 64):zt l a b (fnS l a b):=by
 unfold fnS
 cases h:l.findIdx? (mtS a b) with
 |none=>
  rw[List.findIdx?_eq_none_iff] at h
  exact .inl ⟨rfl,fun j hj=>h _ (fb hj)⟩
 |some k=>
  rw[List.findIdx?_eq_some_iff_getElem] at h
  obtain⟨hk,h1,h2⟩:=h
  refine .inr ⟨k,rfl,hk,by rw[fx hk];exact h1,fun j hj=> ?_⟩
  rw[fx (Nat.lt_trans hj hk)]
  have:=h2 j hj
  simpa using this

theorem zt.uniq{l:List Sl}{a b:BitVec 64}{r s:Int}(h:zt l a b r)(h':zt l a b s):r=s:=by
 rcases h with⟨rfl,h⟩| ⟨k,rfl,hk,h1,h2⟩<;>rcases h' with⟨rfl,h'⟩| ⟨k',rfl,hk',h1',h2'⟩
 ·rfl
 ·rw[h k' hk'] at h1';cases h1'
 ·rw[h' k hk] at h1;cases h1
 ·rcases Nat.lt_trichotomy k k' with hlt|rfl|hlt
  ·rw[h2' k hlt] at h1;cases h1
  ·rfl
  ·rw[h2 k' hlt] at h1';cases h1'

def tlS(l:List Sl)(a b:BitVec 64):Int:=if fnS l a b<0 then 0 else (at' l (fnS l a b).toNat).e.act

theorem HT(l:List Sl)(a b:BitVec 64):tlS l a b=match l.find? (mtS a b) with|some x=>x.e.act|none=>0:=by
 unfold tlS
 rcases pP l a b with⟨h,hn⟩| ⟨k,h,hk,h1,h2⟩
 ·have:l.find? (mtS a b)=none:=List.find?_eq_none.2 fun x hx=>by
   obtain⟨j,hj,rfl⟩:=fi hx
   rw[hn j hj];decide
  rw[this,h];rfl
 ·have:l.find? (mtS a b)=some (at' l k):=by
   rw[List.find?_eq_some_iff_getElem]
   refine⟨h1,k,hk,(fx hk).symm,fun j hj=> ?_⟩
   rw[←fx (Nat.lt_trans hj hk),h2 j hj];rfl
  rw[this,h,if_neg (by omega)];rfl

theorem Ec(l:List En)(a b:BitVec 64):(if fsI l a b<0 then 0 else (at' l (fsI l a b).toNat).act)=match l.find? (fun x=>mtE x a b) with|some x=>x.act|none=>0:=by
 rcases BA l a b with⟨h,hn⟩| ⟨k,h,hk,h1,h2⟩
 ·have:l.find? (fun x=>mtE x a b)=none:=List.find?_eq_none.2 fun x hx=>by
   obtain⟨j,hj,rfl⟩:=fi hx
   rw[hn j hj];decide
  rw[this,h];rfl
 ·have:l.find? (fun x=>mtE x a b)=some (at' l k):=by
   rw[List.find?_eq_some_iff_getElem]
   refine⟨h1,k,hk,(fx hk).symm,fun j hj=> ?_⟩
   rw[←fx (Nat.lt_trans hj hk),h2 j hj];rfl
  rw[this,h,if_neg (by omega)];rfl

theorem Gk(l:List Sl)(a b:BitVec 64):tlS l a b=if fsI (ensS l) a b<0 then 0 else (at' (ensS l) (fsI (ensS l) a b).toNat).act:=by
 rw[HT,Ec]
 induction l with
 |nil=>rfl
 |cons x l ih=>
  rw[List.find?_cons]
  unfold ensS at ih⊢
  rw[List.filter_cons]
  unfold mtS at ih⊢
  cases hx:x.ok with
  |false=>simpa using ih
  |true=>
   simp only[Bool.true_and,if_true,List.map_cons,List.find?_cons]
   cases hm:mtE x.e a b with
   |true=>rfl
   |false=>exact ih

theorem mB{l:List Sl}(h:orE (ensS l)=true)(a b:BitVec 64):tlS l a b=tlI (ensS l) a b:=by
 rw[Gk,Ed h];rfl

def frS(l:List Sl):Int:=(l.length:Int)-(ensS l).length

theorem JM(l:List Sl)(x:Sl):frS (l++[x])=if x.ok then frS l else frS l+1:=by
 unfold frS
 rw[lu,List.length_append,List.length_singleton]
 split
 ·rw[List.length_append,List.length_singleton];omega
 ·omega

theorem gH{T:Type}[Inhabited T](l:List T)(k:Nat)(x:T)(j:Nat):at' (l.set k x) j=if k=j∧j<l.length then x else at' l j:=by
 unfold at'
 rw[List.getD_eq_getElem?_getD,List.getD_eq_getElem?_getD]
 by_cases h:k=j
 ·subst h
  by_cases hk:k<l.length
  ·rw[List.getElem?_set_self hk,if_pos ⟨rfl,hk⟩];rfl
  ·rw[List.getElem?_eq_none (by simpa using hk),List.getElem?_eq_none (by simpa using hk),if_neg fun h=>hk h.2]
 ·rw[List.getElem?_set_ne h,if_neg fun g=>h g.1]

theorem OI{l m:List Sl}(h:l.length=m.length)(hj:∀j,j<l.length→at' l j=at' m j):l=m:=by
 apply List.ext_getElem h
 intro j h1 h2
 rw[←fx h1,←fx h2]
 exact hj j h1

end Go.Sx.M
end

section
namespace Go.Sx.M

def dfB(v w m n c d:BitVec 64):Nat→Bool:=eH ((v^^^c)&&&m) ((w^^^d)&&&n)

theorem J5(v w m n c d:BitVec 64)(i:Nat):dfB v w m n c d i=(eH m n i&&(!eH v w i==eH c d i)):=by
 unfold dfB
 rw[fm,gS]
 cases eH m n i<;>cases eH v w i<;>cases eH c d i<;>rfl

theorem FN{f:Nat→Bool}{i j N:Nat}(hij:i<j)(hj:j<N)(hi:f i=true)(hf:f j=true):2≤cf f N:=by
 have h1:cf f (i+1)=cf f i+(if f i=true then 1 else 0):=rfl
 have h2:cf f (j+1)=cf f j+(if f j=true then 1 else 0):=rfl
 have h3:=FO f (show i+1≤j by omega)
 have h4:=FO f (show j+1≤N by omega)
 rw[if_pos hi] at h1
 rw[if_pos hf] at h2
 omega

theorem FM{f:Nat→Bool}:∀{N:Nat},1≤cf f N→∃i,i<N∧f i=true
 |0,h=>by simp[cf] at h
 |N+1,h=>by
  have e:cf f (N+1)=cf f N+(if f N=true then 1 else 0):=rfl
  by_cases hf:f N=true
  ·exact⟨N,by omega,hf⟩
  ·rw[if_neg hf] at e
   obtain⟨i,h1,h2⟩:=FM (f:=f) (N:=N) (by omega)
   exact⟨i,by omega,h2⟩

def mgE(x y:En):Bool:=decide (x.len=y.len)&&(decide (x.act=y.act)&&mgB x.v x.w x.m x.n y.v y.w y.m y.n)

def jnE(x y:En):En:=⟨x.v&&&(x.m^^^(x.v^^^y.v)&&&x.m),x.w&&&(x.n^^^(x.w^^^y.w)&&&x.n),x.m^^^(x.v^^^y.v)&&&x.m,x.n^^^(x.w^^^y.w)&&&x.n,x.len,x.act⟩

theorem kj{x y:En}:mgE x y=true↔x.len=y.len∧x.act=y.act∧mgB x.v x.w x.m x.n y.v y.w y.m y.n=true:=by
 unfold mgE
 rw[Bool.and_eq_true,Bool.and_eq_true,decide_eq_true_eq,decide_eq_true_eq]

theorem lP{x y:En}(h:mgE x y=true):x.m=y.m∧x.n=y.n∧∃j,j<128∧eH x.m x.n j=true∧eH y.v y.w j=(!eH x.v x.w j)∧
  (∀i,i<128→(eH (jnE x y).m (jnE x y).n i=true↔eH x.m x.n i=true∧i≠j))∧
  ∀i,i<128→i≠j→eH x.m x.n i=true→eH (jnE x y).v (jnE x y).w i=eH x.v x.w i∧eH y.v y.w i=eH x.v x.w i:=by
 obtain⟨_,_,h⟩:=kj.1 h
 unfold mgB at h
 simp only[Bool.and_eq_true,beq_iff_eq] at h
 obtain⟨⟨h1,h2⟩,h3⟩:=h
 have h3:cf (dfB x.v x.w x.m x.n y.v y.w) 128=1:=h3
 obtain⟨j,hj,hD⟩:=FM (f:=dfB x.v x.w x.m x.n y.v y.w) (N:=128) (by omega)
 have hu:∀i,i<128→i≠j→dfB x.v x.w x.m x.n y.v y.w i=false:=fun i hi hne=>by
  cases hh:dfB x.v x.w x.m x.n y.v y.w i with
  |false=>rfl
  |true=>
   rcases Nat.lt_or_gt_of_ne hne with hl|hl
   ·have:=FN hl hj hh hD;omega
   ·have:=FN hl hi hD hh;omega
 have hDj:=J5 x.v x.w x.m x.n y.v y.w j
 rw[hD] at hDj
 have hmj:eH x.m x.n j=true:=(Bool.and_eq_true_iff.1 hDj.symm).1
 have hvj:(!eH x.v x.w j==eH y.v y.w j)=true:=(Bool.and_eq_true_iff.1 hDj.symm).2
 have em:∀i,eH (jnE x y).m (jnE x y).n i=(eH x.m x.n i^^dfB x.v x.w x.m x.n y.v y.w i):=fun i=>gS _ _ _ _ _
 have hm:∀i,i<128→(eH (jnE x y).m (jnE x y).n i=true↔eH x.m x.n i=true∧i≠j):=fun i hi=>by
  rw[em]
  by_cases hij:i=j
  ·subst hij;rw[hmj,hD];simp
  ·rw[hu i hi hij];simp[hij]
 refine⟨h1,h2,j,hj,hmj, ?_,hm,fun i hi hne hmi=>⟨?_, ?_⟩⟩
 ·revert hvj
  cases eH x.v x.w j<;>cases eH y.v y.w j<;>simp
 ·have e:eH (jnE x y).v (jnE x y).w i=(eH x.v x.w i&&eH (jnE x y).m (jnE x y).n i):=fm _ _ _ _ _
  rw[e,(hm i hi).2 ⟨hmi,hne⟩,Bool.and_true]
 ·have:=J5 x.v x.w x.m x.n y.v y.w i
  rw[hu i hi hne,hmi] at this
  revert this
  cases eH x.v x.w i<;>cases eH y.v y.w i<;>simp

theorem Jr{x y:En}(h:mgE x y=true)(a b:BitVec 64):mtE (jnE x y) a b=(mtE x a b||mtE y a b):=by
 obtain⟨h1,h2,j,hj,hmj,hd,hm,hs⟩:=lP h
 unfold mtE
 rw[Bool.eq_iff_iff,Bool.or_eq_true,jX,jX,jX,←h1,←h2]
 constructor
 ·intro hz
  have hz:∀i,i<128→i≠j→eH x.m x.n i=true→eH x.v x.w i=eH a b i:=fun i hi hne hmi=>by
   rw[←(hs i hi hne hmi).1];exact hz i hi ((hm i hi).2 ⟨hmi,hne⟩)
  by_cases hx:eH x.v x.w j=eH a b j
  ·left
   intro i hi hmi
   by_cases hij:i=j
   ·rw[hij];exact hx
   ·exact hz i hi hij hmi
  ·right
   intro i hi hmi
   by_cases hij:i=j
   ·rw[hij,hd]
    revert hx
    cases eH x.v x.w j<;>cases eH a b j<;>simp
   ·rw[(hs i hi hij hmi).2];exact hz i hi hij hmi
 ·rintro hz i hi hmi
  obtain⟨hmi,hne⟩:=(hm i hi).1 hmi
  obtain⟨e1,e2⟩:=hs i hi hne hmi
  rw[e1]
  rcases hz with hz|hz
  ·exact hz i hi hmi
  ·rw[←e2];exact hz i hi hmi

theorem LH{x y:En}(h:mgE x y=true)(z:En):meE (jnE x y) z=(meE x z||meE y z):=by
 obtain⟨h1,h2,j,hj,hmj,hd,hm,hs⟩:=lP h
 unfold meE
 rw[Bool.eq_iff_iff,Bool.or_eq_true,gI,gI,gI,←h1,←h2]
 constructor
 ·intro hz
  have hz:∀i,i<128→i≠j→eH x.m x.n i=true→eH z.m z.n i=true→eH x.v x.w i=eH z.v z.w i:=fun i hi hne hmi hzi=>by
   rw[←(hs i hi hne hmi).1];exact hz i hi ((hm i hi).2 ⟨hmi,hne⟩) hzi
  by_cases hx:eH x.v x.w j=eH z.v z.w j
  ·left
   intro i hi hmi hzi
   by_cases hij:i=j
   ·rw[hij];exact hx
   ·exact hz i hi hij hmi hzi
  ·right
   intro i hi hmi hzi
   by_cases hij:i=j
   ·rw[hij,hd]
    revert hx
    cases eH x.v x.w j<;>cases eH z.v z.w j<;>simp
   ·rw[(hs i hi hij hmi).2];exact hz i hi hij hmi hzi
 ·rintro hz i hi hmi hzi
  obtain⟨hmi,hne⟩:=(hm i hi).1 hmi
  obtain⟨e1,e2⟩:=hs i hi hne hmi
  rw[e1]
  rcases hz with hz|hz
  ·exact hz i hi hmi hzi
  ·rw[←e2];exact hz i hi hmi hzi

def m1E:List En→Option (En×List En)
 | []=>none
 |x::l=>match l.find? (mgE x) with
  |some y=>some (jnE x y,l.eraseP (mgE x))
  |none=>match m1E l with
   |some (j,r)=>some (j,x::r)
   |none=>none

def m2E(l:List En):Option (List En):=match m1E l with
 |some (j,r)=>some (srE (j::r))
 |none=>none

def mrG:Nat→List En→List En
 |0,l=>l
 |n+1,l=>match m2E l with
  |some m=>mrG n m
  |none=>l

def mrE(l:List En):List En:=mrG l.length (srE l)

def siE(l:List En):Bool:=decide (∀i,i<l.length→∀k,k<i→(at' l i).len=(at' l k).len→meE (at' l i) (at' l k)=false)

theorem tp:∀{l:List En} {j:En} {r:List En},m1E l=some (j,r)→∃x y,mgE x y=true∧j=jnE x y∧l.Perm (x::y::r)
 |x::l,j,r,h=>by
  unfold m1E at h
  split at h
  ·rename_i y hy
   cases h
   have hp:=List.find?_some hy
   refine⟨x,y,hp,rfl,List.Perm.cons _ ?_⟩
   have key:∀(l:List En),l.find? (mgE x)=some y→l.Perm (y::l.eraseP (mgE x)):=by
    intro l
    induction l with
    |nil=>intro h;cases h
    |cons z l ih=>
     intro h
     rw[List.find?_cons] at h
     split at h
     ·rename_i hz
      cases h
      rw[List.eraseP_cons_of_pos hz]
     ·rename_i hz
      rw[List.eraseP_cons_of_neg (by rw[hz];simp)]
      exact ((ih h).cons z).trans (List.Perm.swap _ _ _)
   exact key l hy
  ·split at h
   ·rename_i j' r' h'
    cases h
    obtain⟨x',y',h1,h2,h3⟩:=tp h'
    refine⟨x',y',h1,h2,(h3.cons x).trans ?_⟩
    exact (List.Perm.swap _ _ _).trans ((List.Perm.swap _ _ _).cons _)
   ·cases h

theorem tq:∀{l:List En},m1E l=none↔l.Pairwise fun x y=>mgE x y=false
 | []=>by simp[m1E]
 |x::l=>by
  rw[List.pairwise_cons]
  unfold m1E
  split
  ·rename_i y hy
   have hp:=List.find?_some hy
   have hm:=List.mem_of_find?_eq_some hy
   constructor
   ·intro h;cases h
   ·intro h
    have:=h.1 y hm
    rw[hp] at this;cases this
  ·rename_i hy
   have hn:∀y∈l,mgE x y=false:=fun y hm=>by
    have:=List.find?_eq_none.1 hy y hm
    simpa using this
   split
   ·rename_i j r h'
    constructor
    ·intro h;cases h
    ·intro h
     have:=tq.2 h.2
     rw[this] at h';cases h'
   ·rename_i h'
    exact⟨fun _=>⟨hn,tq.1 h'⟩,fun _=>rfl⟩

theorem Dy{l:List En}{j:En}{r:List En}(h:m1E l=some (j,r)):l.length=r.length+2:=by
 obtain⟨x,y,_,_,hp⟩:=tp h
 have:=hp.length_eq
 simpa using this

theorem Dx{l m:List En}(h:m2E l=some m):l.length=m.length+1:=by
 unfold m2E at h
 split at h
 ·rename_i j r h'
  cases h
  rw[fj,Dy h',List.length_cons]
 ·cases h

theorem py{Q:List En→Prop}(hs:∀l x y r,mgE x y=true→l.Perm (x::y::r)→Q l→Q (srE (jnE x y::r))):∀(n:Nat) {l:List En},Q l→Q (mrG n l)
 |0,_,h=>h
 |n+1,l,h=>by
  unfold mrG
  split
  ·rename_i m hm
   refine py hs n ?_
   unfold m2E at hm
   split at hm
   ·rename_i j r h'
    cases hm
    obtain⟨x,y,h1,rfl,h3⟩:=tp h'
    exact hs l x y r h1 h3 h
   ·cases hm
  ·exact h

theorem I1{n:Nat}{l:List En}(h:m2E l=none):mrG n l=l:=by
 cases n with
 |zero=>rfl
 |succ n=>unfold mrG;rw[h]

theorem Dr(n:Nat){l:List En}(h:Sorted l):Sorted (mrG n l):=py (Q:=Sorted) (fun _ _ _ _ _ _ _=>fW _) n h

theorem Dt(l:List En):Sorted (mrE l):=Dr _ (fW l)

theorem qY{l m:List En}(h:l.Perm m):srE l=srE m:=kN (fW l) ((e9 l).trans h)

theorem Dv(l:List En):(mrE l).length≤l.length∧(l.length=0∨0< (mrE l).length):=by
 have:=py (Q:=fun m=>m.length≤l.length∧(l.length=0∨0<m.length)) (fun m x y r _ hp hq=>by
  have:=hp.length_eq
  rw[fj]
  simp only[List.length_cons] at this⊢
  omega) l.length (l:=srE l) (by rw[fj];omega)
 exact this

theorem pj{l:List En}:siE l=true↔l.Pairwise fun x y=>x.len=y.len→meE x y=false:=by
 unfold siE
 rw[decide_eq_true_eq,List.pairwise_iff_getElem]
 have e:∀i (hi:i<l.length),l[i]=at' l i:=fun i hi=>by have:=eZ hi;rw[List.getElem?_eq_getElem hi] at this;exact Option.some_inj.1 this
 constructor
 ·intro h i j hi hj hij
  rw[e i hi,e j hj,mM]
  exact fun hl=>h j hj i hij hl.symm
 ·intro h i hi k hk hl
  have:=h k i (by omega) hi hk
  rw[e k (by omega),e i hi,mM] at this
  exact this hl.symm

theorem gY{l m:List En}(h:l.Perm m):siE l=siE m:=by
 have key:∀{l m:List En},l.Perm m→siE l=true→siE m=true:=fun hp hs=>by
  rw[pj] at hs⊢
  exact hp.pairwise hs fun {x y} hh hl=>by rw[mM];exact hh hl.symm
 rw[Bool.eq_iff_iff]
 exact⟨key h,key h.symm⟩

theorem fS{l:List En}(h:siE l=true)(a b:BitVec 64):F8 l a b:=by
 unfold siE at h
 rw[decide_eq_true_eq] at h
 have key:∀i k,i<l.length→k<i→mtE (at' l i) a b=true→mtE (at' l k) a b=true→(at' l i).len=(at' l k).len→False:=fun i k hi hk h1 h2 hl=>by
  have:=h i hi k hk hl
  have hme:meE (at' l i) (at' l k)=true:=by
   unfold meE
   rw[gI]
   intro t ht k1 k2
   exact (jX.1 h1 t ht k1).trans (jX.1 h2 t ht k2).symm
  rw[hme] at this;cases this
 intro x hx y hy hxm hym hl
 obtain⟨i,hi,rfl⟩:=fi hx
 obtain⟨k,hk,rfl⟩:=fi hy
 rcases Nat.lt_trichotomy i k with hlt|rfl|hgt
 ·exact (key k i hk hlt hym hxm hl.symm).elim
 ·rfl
 ·exact (key i k hi hgt hxm hym hl).elim

theorem qX{x y:En}{r:List En}(h:mgE x y=true)(hs:siE (x::y::r)=true):siE (jnE x y::r)=true:=by
 obtain⟨hl,_,_⟩:=kj.1 h
 rw[pj] at hs⊢
 obtain⟨h1,h2⟩:=List.pairwise_cons.1 hs
 obtain⟨h3,h4⟩:=List.pairwise_cons.1 h2
 refine List.pairwise_cons.2 ⟨fun z hz he=> ?_,h4⟩
 have he:x.len=z.len:=he
 rw[LH h,h1 z (List.mem_cons_of_mem _ hz) he,h3 z hz (hl.symm.trans he)];rfl

theorem jz(k:List En)(a b:BitVec 64):(tlI k a b=0∧∀x∈k,mtE x a b=false)∨∃x,x∈k∧mtE x a b=true∧tlI k a b=x.act∧∀y∈k,mtE y a b=true→y.len≤x.len:=by
 rcases uG k a b with⟨h1,h2⟩| ⟨i,h1,_,h2,h3,h4⟩
 ·left
  refine⟨by unfold tlI;rw[if_pos (by omega)],fun x hx=> ?_⟩
  obtain⟨j,hj,rfl⟩:=fi hx
  exact h2 j (by omega) hj
 ·right
  refine⟨at' k i,fb h2,h3, ?_,fun y hy hm=> ?_⟩
  ·unfold tlI
   rw[if_neg (by omega),h1];rfl
  ·obtain⟨j,hj,rfl⟩:=fi hy
   exact (h4 j (by omega) hj hm).1

theorem vH{k:List En}{a b:BitVec 64}(hc:F8 k a b){x:En}(hx:x∈k)(hm:mtE x a b=true)(hl:∀y∈k,mtE y a b=true→y.len≤x.len):tlI k a b=x.act:=by
 rcases jz k a b with⟨_,h⟩| ⟨y,hy,hym,e,hyl⟩
 ·rw[h x hx] at hm;cases hm
 ·rw[e]
  exact hc y hy x hx hym hm (Int.le_antisymm (hl y hy hym) (hyl x hx hm))

theorem Gm{x y:En}{r:List En}(h:mgE x y=true)(hs:siE (x::y::r)=true)(a b:BitVec 64):tlI (jnE x y::r) a b=tlI (x::y::r) a b:=by
 obtain⟨hl,ha,_⟩:=kj.1 h
 have hc:=fS hs a b
 have hc':=fS (qX h hs) a b
 have hj:=Jr h a b
 rcases jz (x::y::r) a b with⟨e,hn⟩| ⟨z,hz,hzm,e,hzl⟩
 ·rw[e]
  rcases jz (jnE x y::r) a b with⟨e',_⟩| ⟨u,hu,hum,_,_⟩
  ·exact e'
  ·rcases List.mem_cons.1 hu with rfl|hu
   ·rw[hj,hn x (by simp),hn y (by simp)] at hum;cases hum
   ·rw[hn u (by simp[hu])] at hum;cases hum
 ·rw[e]
  have le:∀u∈jnE x y::r,mtE u a b=true→u.len≤z.len:=fun u hu hum=>by
   rcases List.mem_cons.1 hu with rfl|hu
   ·rw[hj,Bool.or_eq_true] at hum
    rcases hum with hm|hm
    ·exact hzl x (by simp) hm
    ·have:=hzl y (by simp) hm
     show x.len≤z.len
     omega
   ·exact hzl u (by simp[hu]) hum
  rcases List.mem_cons.1 hz with rfl|hz'
  ·exact vH hc' (x:=jnE z y) (by simp) (by rw[hj,hzm];rfl) le
  ·rcases List.mem_cons.1 hz' with rfl|hz'
   ·exact (vH hc' (x:=jnE x z) (by simp) (by rw[hj,hzm,Bool.or_true]) (fun u hu hum=>by show u.len≤x.len;rw[hl];exact le u hu hum)).trans ha
   ·exact vH hc' (by simp[hz']) hzm le

theorem Du{l:List En}(h:siE l=true):siE (mrE l)=true∧∀a b,tlI (mrE l) a b=tlI l a b:=by
 have hs:siE (srE l)=true:=by rw[gY (e9 l)];exact h
 refine py (Q:=fun m=>siE m=true∧∀a b,tlI m a b=tlI l a b) (fun m x y r hg hp hq=> ?_) l.length ⟨hs,fun a b=>ig (e9 l) (fS hs a b)⟩
 have h1:siE (x::y::r)=true:=by rw[←gY hp];exact hq.1
 have h2:=qX hg h1
 have h3:siE (srE (jnE x y::r))=true:=by rw[gY (e9 _)];exact h2
 refine⟨h3,fun a b=> ?_⟩
 rw[ig (e9 _) (fS h3 a b),Gm hg h1,←hq.2 a b]
 exact (ig hp (fS hq.1 a b)).symm

def exL(m:List En)(i k n:Nat):List En:=((List.range n).filter fun t=> !decide (t=i)&& !decide (t=k)).map (at' m)
def ex1(m:List En)(k n:Nat):List En:=((List.range n).filter fun t=> !decide (t=k)).map (at' m)

theorem I9(l:List En):(List.range l.length).map (at' l)=l:=by
 refine List.ext_getElem? fun i=> ?_
 rw[List.getElem?_map]
 by_cases hi:i<l.length
 ·rw[List.getElem?_range hi,eZ hi];rfl
 ·rw[List.getElem?_eq_none (by simpa using hi),List.getElem?_eq_none (by omega)];rfl

theorem Fw{p:En→Bool}:∀{l:List En} {k:Nat},k<l.length→p (at' l k)=true→(∀t,t<k→p (at' l t)=false)→l.find? p=some (at' l k)∧l.eraseP p=ex1 l k l.length
 |z::l,0,_,h1,_=>by
  have h1:p z=true:=h1
  rw[List.find?_cons_of_pos h1,List.eraseP_cons_of_pos h1]
  refine⟨rfl, ?_⟩
  unfold ex1
  rw[List.length_cons,List.range_succ_eq_map,List.filter_cons,if_neg (by simp),List.filter_map,List.map_map]
  have:((fun t=> !decide (t=0)) ∘ Nat.succ)=fun _=>true:=by
   funext t
   simp
  rw[this,List.filter_eq_self.2 (fun _ _=>rfl)]
  exact (I9 l).symm
 |z::l,k+1,hk,h1,h2=>by
  have h0:p z=false:=h2 0 (by omega)
  obtain⟨a,b⟩:=Fw (l:=l) (k:=k) (by simpa using hk) h1 fun t ht=>h2 (t+1) (by omega)
  rw[List.find?_cons_of_neg (by rw[h0];simp),List.eraseP_cons_of_neg (by rw[h0];simp),a,b]
  refine⟨rfl, ?_⟩
  unfold ex1
  rw[List.length_cons,List.range_succ_eq_map,List.filter_cons,if_pos (by simp),List.map_cons,List.filter_map,List.map_map]
  have:((fun t=> !decide (t=k+1)) ∘ Nat.succ)=fun t=> !decide (t=k):=by
   funext t
   simp
  rw[this]
  rfl

theorem I2{m m':List En}(h:m2E m=some m'):mrG m.length m=mrG m'.length m':=by
 have hl:=Dx h
 rw[hl]
 show (match m2E m with|some k=>mrG m'.length k|none=>m)=_
 rw[h]

theorem I3{m:List En}(h:m2E m=none):mrG m.length m=m:=I1 h

theorem GQ(l:List En):mrE l=mrG (srE l).length (srE l):=by rw[fj];rfl

end Go.Sx.M
end

section
namespace Go.Sx.M

theorem h9{x y:En}:alE x y=true↔x.v=y.v∧x.w=y.w∧x.m=y.m∧x.n=y.n∧x.len=y.len:=by
 unfold alE
 simp only[Bool.and_eq_true,beq_iff_eq]
 constructor
 ·rintro⟨⟨⟨h1,h2⟩,h3,h4⟩,h5⟩;exact⟨h1,h2,h3,h4,h5⟩
 ·rintro⟨h1,h2,h3,h4,h5⟩;exact⟨⟨⟨h1,h2⟩,h3,h4⟩,h5⟩

theorem g9(x:En):alE x x=true:=h9.2 ⟨rfl,rfl,rfl,rfl,rfl⟩
theorem fZ{x y:En}(h:alE x y=true):alE y x=true:=by
 obtain⟨h1,h2,h3,h4,h5⟩:=h9.1 h
 exact h9.2 ⟨h1.symm,h2.symm,h3.symm,h4.symm,h5.symm⟩
theorem gz(x y:En):alE x y=alE y x:=by
 rw[Bool.eq_iff_iff];exact⟨fZ,fZ⟩
theorem gF{x y z:En}(h:alE x y=true)(h':alE y z=true):alE x z=true:=by
 obtain⟨h1,h2,h3,h4,h5⟩:=h9.1 h
 obtain⟨g1,g2,g3,g4,g5⟩:=h9.1 h'
 exact h9.2 ⟨h1.trans g1,h2.trans g2,h3.trans g3,h4.trans g4,h5.trans g5⟩
theorem zn{x y:En}(h:alE x y=true)(ha:x.act=y.act):x=y:=by
 obtain⟨h1,h2,h3,h4,h5⟩:=h9.1 h
 cases x;cases y;simp_all
theorem rY{x y z:En}(h:alE x y=true)(h':alE x z=false):alE y z=false:=by
 cases e:alE y z with
 |false=>rfl
 |true=>rw[gF h e] at h';cases h'
theorem rZ{x y:En}(h:alE x y=true):x.len=y.len:=(h9.1 h).2.2.2.2
theorem wQ{x y:En}(h:alE x y=true)(a b:BitVec 64):mtE x a b=mtE y a b:=by
 obtain⟨h1,h2,h3,h4,_⟩:=h9.1 h
 unfold mtE
 rw[h1,h2,h3,h4]
theorem CE{x y:En}(h:alE x y=true):meE x y=true:=by
 obtain⟨h1,h2,h3,h4,_⟩:=h9.1 h
 unfold meE
 rw[gI,h1,h2,h3,h4]
 exact fun _ _ _ _=>rfl

def UqE:List En→Prop:=List.Pairwise fun x y=>alE x y=false

theorem UqE.perm{l m:List En}(h:UqE l)(hp:l.Perm m):UqE m:=hp.pairwise h fun {x y} hh=>by rw[gz];exact hh

theorem UqE.one{l:List En}(h:UqE l){x y:En}(hx:x∈l)(hy:y∈l)(ha:alE x y=true):x=y:=by
 induction l with
 |nil=>cases hx
 |cons z l ih=>
  obtain⟨h1,h2⟩:=List.pairwise_cons.1 h
  rcases List.mem_cons.1 hx with e1|hx'<;>rcases List.mem_cons.1 hy with e2|hy'
  ·rw[e1,e2]
  ·rw[e1,h1 y hy'] at ha;cases ha
  ·rw[e2,gz,h1 x hx'] at ha;cases ha
  ·exact ih h2 hx' hy'

theorem UqE.nodup{l:List En}(h:UqE l):l.Nodup:=h.imp fun {x y} hh e=>by subst e;rw[g9] at hh;cases hh

theorem UqE.ext{l m:List En}(h:UqE l)(hm:UqE m)(he:∀x,x∈l↔x∈m):l.Perm m:=(List.perm_ext_iff_of_nodup h.nodup hm.nodup).2 fun x=>he x

theorem qk{l:List En}(h:siE l=true):UqE l:=(pj.1 h).imp fun {x y} hh=>by
 cases e:alE x y with
 |false=>rfl
 |true=>
  have:=hh (rZ e)
  rw[CE e] at this;cases this

def onS(out:List En)(x:En):List En:=if out.any (fun y=>alE y x) then out else out++[x]

def onE(l:List En):List En:=l.foldl onS []

theorem As(l:List En)(x:En):onE (l++[x])=onS (onE l) x:=by unfold onE;rw[List.foldl_append];rfl

theorem jf{out:List En}{x:En}:out.any (fun y=>alE y x)=false↔∀y∈out,alE y x=false:=by
 rw[List.any_eq_false]
 exact forall_congr' fun y=>forall_congr' fun _=>by simp

theorem iQ(l:List En):UqE (onE l)∧(onE l).Sublist l∧∀x∈l,∃y∈onE l,alE y x=true:=by
 have key:∀(r l:List En),l=r.reverse→UqE (onE l)∧(onE l).Sublist l∧∀x∈l,∃y∈onE l,alE y x=true:=by
  intro r
  induction r with
  |nil=>rintro l rfl;exact⟨.nil, .slnil,fun x hx=>by cases hx⟩
  |cons z r ih=>
   rintro l rfl
   obtain⟨h1,h2,h3⟩:=ih r.reverse rfl
   rw[List.reverse_cons,As]
   unfold onS
   cases e:(onE r.reverse).any (fun y=>alE y z) with
   |true=>
    rw[if_pos rfl]
    refine⟨h1,h2.trans (List.sublist_append_left _ _),fun x hx=> ?_⟩
    rcases List.mem_append.1 hx with hx|hx
    ·exact h3 x hx
    ·rw[List.mem_singleton.1 hx]
     obtain⟨y,hy,hya⟩:=List.any_eq_true.1 e
     exact⟨y,hy,hya⟩
   |false=>
    rw[if_neg (by simp)]
    have hn:=jf.1 e
    refine⟨?_,h2.append (List.Sublist.refl _),fun x hx=> ?_⟩
    ·unfold UqE
     rw[List.pairwise_append]
     refine⟨h1,List.pairwise_singleton _ _,fun a ha b hb=> ?_⟩
     rw[List.mem_singleton.1 hb]
     exact hn a ha
    ·rcases List.mem_append.1 hx with hx|hx
     ·obtain⟨y,hy,hya⟩:=h3 x hx
      exact⟨y,List.mem_append_left _ hy,hya⟩
     ·rw[List.mem_singleton.1 hx]
      exact⟨z,by simp,g9 _⟩
 exact key l.reverse l (List.reverse_reverse l).symm

theorem N2(l:List En):UqE (onE l):=(iQ l).1

theorem Lo(l:List En)(x:En):(onE l).any (fun y=>alE y x)=l.any (fun y=>alE y x):=by
 obtain⟨_,h2,h3⟩:=iQ l
 rw[Bool.eq_iff_iff,List.any_eq_true,List.any_eq_true]
 constructor
 ·rintro⟨y,hy,h⟩;exact⟨y,h2.subset hy,h⟩
 ·rintro⟨y,hy,h⟩
  obtain⟨z,hz,hza⟩:=h3 y hy
  exact⟨z,hz,gF hza h⟩

theorem s9{l:List En}{i:Nat}(hi:i<l.length):onE (l.take (i+1))=if (l.take i).any (fun y=>alE y (at' l i)) then onE (l.take i) else onE (l.take i)++[at' l i]:=by
 rw[List.take_add_one,eZ hi]
 show onE (l.take i++[at' l i])=_
 rw[As]
 unfold onS
 rw[Lo]

theorem Dm{l:List En}(h:UqE l):onE l=l:=by
 have key:∀n,n≤l.length→onE (l.take n)=l.take n:=by
  intro n
  induction n with
  |zero=>intro _;rfl
  |succ n ih=>
   intro hn
   rw[s9 hn,ih (by omega),List.take_add_one,eZ hn,if_neg]
   ·rfl
   ·rw[Bool.not_eq_true,jf]
    intro y hy
    obtain⟨j,hj,rfl⟩:=fi hy
    rw[List.length_take] at hj
    have e:at' (l.take n) j=at' l j:=by
     unfold at'
     rw[List.getD_eq_getElem?_getD,List.getD_eq_getElem?_getD,List.getElem?_take,if_pos (by omega)]
    rw[e]
    have:=List.pairwise_iff_getElem.1 h j n (by omega) hn (by omega)
    have e1:∀i (hi:i<l.length),l[i]=at' l i:=fun i hi=>by have:=eZ hi;rw[List.getElem?_eq_getElem hi] at this;exact Option.some_inj.1 this
    rw[e1 j (by omega),e1 n hn] at this
    exact this
 have:=key l.length (Nat.le_refl _)
 rwa [List.take_length] at this

structure Sp where
 k:Int
 e:En
 deriving DecidableEq,Inhabited

def stU(a:List En)(y:En):List Sp:=match a.find? (fun x=>alE x y) with
 |none=>[⟨0,y⟩]
 |some x=>if x.act=y.act then [] else [⟨1,y⟩]
def stV(b:List En)(x:En):List Sp:=if b.any (fun y=>alE y x) then [] else [⟨2,x⟩]

def stS(a b:List En):List Sp:=b.flatMap (stU a)++a.reverse.flatMap (stV b)

def stE(o n:List En):List Sp:=stS (srE (onE o)) (srE (onE n))

def doE(l:List En)(s:Sp):List En:=
 if s.k=0 then l++[s.e] else if s.k=1 then l.map (fun x=>if alE x s.e then s.e else x) else if s.k=2 then l.filter (fun x=> !alE x s.e) else l

theorem OO{l:List En}{y:En}(h:UqE l)(hn:∀x∈l,alE x y=false):UqE (doE l ⟨0,y⟩)∧∀x,x∈doE l ⟨0,y⟩↔x∈l∨x=y:=by
 have e:doE l ⟨0,y⟩=l++[y]:=rfl
 rw[e]
 refine⟨?_,fun x=>by rw[List.mem_append,List.mem_singleton]⟩
 unfold UqE
 rw[List.pairwise_append]
 exact⟨h,List.pairwise_singleton _ _,fun a ha b hb=>by rw[List.mem_singleton.1 hb];exact hn a ha⟩

theorem J4{l:List En}{y z:En}(h:UqE l)(hz:z∈l)(hy:alE z y=true):UqE (doE l ⟨1,y⟩)∧∀x,x∈doE l ⟨1,y⟩↔x=y∨(x∈l∧alE x y=false):=by
 have e:doE l ⟨1,y⟩=l.map fun x=>if alE x y then y else x:=rfl
 rw[e]
 have al:∀x,alE (if alE x y then y else x) x=true:=fun x=>by
  cases e:alE x y with
  |true=>rw[if_pos rfl];exact fZ e
  |false=>rw[if_neg (by simp)];exact g9 x
 refine⟨?_,fun x=> ?_⟩
 ·unfold UqE
  rw[List.pairwise_map]
  refine h.imp fun {a b} hab=> ?_
  cases e:alE (if alE a y then y else a) (if alE b y then y else b) with
  |false=>rfl
  |true=>rw[gF (gF (fZ (al a)) e) (al b)] at hab;cases hab
 ·rw[List.mem_map]
  constructor
  ·rintro⟨u,hu,rfl⟩
   cases e:alE u y with
   |true=>left;rw[if_pos rfl]
   |false=>right;rw[if_neg (by simp)];exact⟨hu,e⟩
  ·rintro (rfl| ⟨hx,hn⟩)
   ·exact⟨z,hz,by rw[hy,if_pos rfl]⟩
   ·exact⟨x,hx,by rw[hn,if_neg (by simp)]⟩

theorem FE{l:List En}{y:En}(h:UqE l):UqE (doE l ⟨2,y⟩)∧∀x,x∈doE l ⟨2,y⟩↔x∈l∧alE x y=false:=by
 have e:doE l ⟨2,y⟩=l.filter fun x=> !alE x y:=rfl
 rw[e]
 refine⟨List.Pairwise.filter _ h,fun x=>by rw[List.mem_filter];simp⟩

theorem xn(a:List En)(y:En):(stU a y).length≤1:=by
 unfold stU
 split
 ·exact Nat.le_refl _
 ·split<;>simp
theorem EP(b:List En)(x:En):(stV b x).length≤1:=by unfold stV;split<;>simp

theorem pb{a b l0:List En}(ha:UqE a)(hb:UqE b)(h0:UqE l0)(hm:∀x,x∈l0↔x∈a):∀i,i≤b.length→
  UqE (((b.take i).flatMap (stU a)).foldl doE l0)∧∀x,x∈((b.take i).flatMap (stU a)).foldl doE l0↔x∈b.take i∨(x∈a∧∀y∈b.take i,alE y x=false)
 |0,_=>⟨h0,fun x=>by rw[List.take_zero];simp[hm]⟩
 |i+1,hi=>by
  obtain⟨h1,h2⟩:=pb ha hb h0 hm i (by omega)
  have et:b.take (i+1)=b.take i++[at' b i]:=by rw[List.take_add_one,eZ hi];rfl
  rw[et,List.flatMap_append,List.foldl_append]
  generalize hL:((b.take i).flatMap (stU a)).foldl doE l0=L at h1 h2
  generalize hy:at' b i=y
  have hyb:y∈b:=hy▸fb hi
  have hyn:∀z∈b.take i,alE z y=false:=fun z hz=>by
   obtain⟨j,hj,rfl⟩:=fi hz
   rw[List.length_take] at hj
   have e:at' (b.take i) j=at' b j:=by
    unfold at'
    rw[List.getD_eq_getElem?_getD,List.getD_eq_getElem?_getD,List.getElem?_take,if_pos (by omega)]
   rw[e,←hy]
   have:=List.pairwise_iff_getElem.1 hb j i (by omega) hi (by omega)
   have e1:∀i (hi:i<b.length),b[i]=at' b i:=fun i hi=>by have:=eZ hi;rw[List.getElem?_eq_getElem hi] at this;exact Option.some_inj.1 this
   rw[e1 j (by omega),e1 i hi] at this
   exact this
  have es:[y].flatMap (stU a)=stU a y:=by simp
  rw[es]
  --what is asked,of what the step leaves
  have fin:∀L',UqE L'→(∀x,x∈L'↔x=y∨(x∈L∧alE x y=false))→UqE L'∧∀x,x∈L'↔x∈b.take i++[y]∨(x∈a∧∀z∈b.take i++[y],alE z x=false):=fun L' hu hx=>by
   refine⟨hu,fun x=> ?_⟩
   rw[hx,h2]
   constructor
   ·rintro (rfl| ⟨hx| ⟨hx,hn⟩,hxy⟩)
    ·exact .inl (by simp)
    ·exact .inl (List.mem_append_left _ hx)
    ·refine .inr ⟨hx,fun z hz=> ?_⟩
     rcases List.mem_append.1 hz with hz|hz
     ·exact hn z hz
     ·rw[List.mem_singleton.1 hz,gz];exact hxy
   ·rintro (hx| ⟨hx,hn⟩)
    ·rcases List.mem_append.1 hx with hx|hx
     ·exact .inr ⟨.inl hx,hyn x hx⟩
     ·exact .inl (List.mem_singleton.1 hx)
    ·exact .inr ⟨.inr ⟨hx,fun z hz=>hn z (List.mem_append_left _ hz)⟩,by rw[gz];exact hn y (by simp)⟩
  unfold stU
  split
  ·rename_i hf
   have hna:∀x∈a,alE x y=false:=fun x hx=>by simpa using List.find?_eq_none.1 hf x hx
   have hnL:∀x∈L,alE x y=false:=fun x hx=>by
    rcases (h2 x).1 hx with hx| ⟨hx,_⟩
    ·exact hyn x hx
    ·exact hna x hx
   obtain⟨u,m⟩:=OO h1 hnL
   refine fin _ u fun x=> ?_
   show x∈doE L ⟨0,y⟩↔_
   rw[m]
   exact⟨fun h=>h.elim (fun h=> .inr ⟨h,hnL x h⟩) .inl,fun h=>h.elim .inr fun h=> .inl h.1⟩
  ·rename_i z hf
   have hza:alE z y=true:=List.find?_some (p:=fun x=>alE x y) hf
   have hz:z∈a:=List.mem_of_find?_eq_some hf
   have hzL:z∈L:=(h2 z).2 (.inr ⟨hz,fun u hu=>by rw[gz];exact rY (fZ hza) (by rw[gz];exact hyn u hu)⟩)
   split
   ·rename_i hact
    have hzy:=zn hza hact
    refine fin L h1 fun x=> ?_
    constructor
    ·intro hx
     cases e:alE x y with
     |false=>exact .inr ⟨hx,rfl⟩
     |true=>exact .inl ((h1.one hx hzL (gF e (fZ hza))).trans hzy)
    ·rintro (rfl| ⟨hx,_⟩)
     ·rw[←hzy];exact hzL
     ·exact hx
   ·obtain⟨u,m⟩:=J4 h1 hzL hza
    exact fin _ u m

theorem l4{a b l0:List En}(ha:UqE a)(h0:UqE l0)(hm:∀x,x∈l0↔x∈b∨(x∈a∧∀y∈b,alE y x=false)):∀i,i≤a.length→
  UqE (((a.reverse.take i).flatMap (stV b)).foldl doE l0)∧∀x,x∈((a.reverse.take i).flatMap (stV b)).foldl doE l0↔x∈b∨(x∈a∧(∀y∈b,alE y x=false)∧x ∉ a.reverse.take i)
 |0,_=>⟨h0,fun x=>by rw[List.take_zero];simp[hm]⟩
 |i+1,hi=>by
  have hi:i<a.reverse.length:=by rw[List.length_reverse];exact hi
  obtain⟨h1,h2⟩:=l4 ha h0 hm i (by rw[List.length_reverse] at hi;omega)
  have et:a.reverse.take (i+1)=a.reverse.take i++[at' a.reverse i]:=by rw[List.take_add_one,eZ hi];rfl
  rw[et,List.flatMap_append,List.foldl_append]
  generalize ((a.reverse.take i).flatMap (stV b)).foldl doE l0=L at h1 h2
  generalize hy:at' a.reverse i=y
  have hya:y∈a:=List.mem_reverse.1 (hy▸fb hi)
  have es:[y].flatMap (stV b)=stV b y:=by simp
  rw[es]
  unfold stV
  cases e:b.any (fun u=>alE u y) with
  |true=>
   rw[if_pos rfl]
   refine⟨h1,fun x=> ?_⟩
   show x∈L↔_
   rw[h2]
   obtain⟨u,hu,hua⟩:=List.any_eq_true.1 e
   constructor
   ·rintro (hx| ⟨hx,hn,hd⟩)
    ·exact .inl hx
    ·refine .inr ⟨hx,hn,fun hc=> ?_⟩
     rcases List.mem_append.1 hc with hc|hc
     ·exact hd hc
     ·rw[List.mem_singleton.1 hc] at hn
      rw[hn u hu] at hua;cases hua
   ·rintro (hx| ⟨hx,hn,hd⟩)
    ·exact .inl hx
    ·exact .inr ⟨hx,hn,fun hc=>hd (List.mem_append_left _ hc)⟩
  |false=>
   rw[if_neg (by simp)]
   have hyn:=jf.1 e
   obtain⟨u,m⟩:=FE (y:=y) h1
   refine⟨u,fun x=> ?_⟩
   show x∈doE L ⟨2,y⟩↔_
   rw[m,h2]
   constructor
   ·rintro⟨hx| ⟨hx,hn,hd⟩,hxy⟩
    ·exact .inl hx
    ·refine .inr ⟨hx,hn,fun hc=> ?_⟩
     rcases List.mem_append.1 hc with hc|hc
     ·exact hd hc
     ·rw[List.mem_singleton.1 hc,g9] at hxy;cases hxy
   ·rintro (hx| ⟨hx,hn,hd⟩)
    ·exact⟨.inl hx,hyn x hx⟩
    ·refine⟨.inr ⟨hx,hn,fun hc=>hd (List.mem_append_left _ hc)⟩, ?_⟩
     cases e2:alE x y with
     |false=>rfl
     |true=>exact absurd (List.mem_append_right _ (List.mem_singleton.2 (ha.one hx hya e2))) hd

theorem xf{a b l:List En}(ha:siE a=true)(hb:siE b=true){c d:BitVec 64}
  (hz:∀z∈l,(z∈b∧∀y∈b,z.len<y.len→y∈l)∨(z∈a∧∀x∈a,z.len<x.len→x∈l∨∃y∈l,alE y x=true))
  (h0:(∀x∈a,x∈l∨∃y∈l,alE y x=true)∨∀y∈b,y∈l):tlI l c d=tlI a c d∨tlI l c d=tlI b c d:=by
 rcases jz l c d with⟨e,hn⟩| ⟨z,hzl,hzm,e,hzb⟩
 ·rw[e]
  rcases h0 with h0|h0
  ·left
   rcases jz a c d with⟨e',_⟩| ⟨x,hx,hxm,_,_⟩
   ·exact e'.symm
   ·rcases h0 x hx with h| ⟨y,hy,hyx⟩
    ·rw[hn x h] at hxm;cases hxm
    ·rw[←wQ hyx,hn y hy] at hxm;cases hxm
  ·right
   rcases jz b c d with⟨e',_⟩| ⟨y,hy,hym,_,_⟩
   ·exact e'.symm
   ·rw[hn y (h0 y hy)] at hym;cases hym
 ·rw[e]
  rcases hz z hzl with⟨hzb',hl⟩| ⟨hza,hl⟩
  ·right
   refine (vH (fS hb c d) hzb' hzm fun y hy hym=> ?_).symm
   by_cases h:z.len<y.len
   ·exact hzb y (hl y hy h) hym
   ·omega
  ·left
   refine (vH (fS ha c d) hza hzm fun x hx hxm=> ?_).symm
   by_cases h:z.len<x.len
   ·rcases hl x hx h with h'| ⟨y,hy,hyx⟩
    ·exact hzb x h' hxm
    ·have:=hzb y hy (by rw[wQ hyx];exact hxm)
     rw[rZ hyx] at this;exact this
   ·omega

theorem sz{l:List En}(h:Sorted l){i j:Nat}(hij:i<j)(hj:j<l.length):(at' l j).len≤(at' l i).len:=by
 have hp:=List.pairwise_iff_getElem.1 h i j (by omega) hj hij
 have e:∀i (hi:i<l.length),l[i]=at' l i:=fun i hi=>by have:=eZ hi;rw[List.getElem?_eq_getElem hi] at this;exact Option.some_inj.1 this
 rw[e i (by omega),e j hj,uv] at hp
 omega

theorem zO{l:List En}(h:Sorted l){i:Nat}{z y:En}(hz:z∈l.take i)(hy:y∈l)(hl:z.len<y.len):y∈l.take i:=by
 obtain⟨j,hj,rfl⟩:=fi hz
 obtain⟨k,hk,rfl⟩:=fi hy
 rw[List.length_take] at hj
 have e:∀{j},j<i→at' (l.take i) j=at' l j:=fun hj=>by
  unfold at'
  rw[List.getD_eq_getElem?_getD,List.getD_eq_getElem?_getD,List.getElem?_take,if_pos hj]
 rw[e (by omega)] at hl
 by_cases hki:k<i
 ·have:at' (l.take i) k=at' l k:=e hki
  rw[←this]
  exact fb (by rw[List.length_take];omega)
 ·have:=sz h (i:=j) (j:=k) (by omega) hk
  omega

theorem CZ{l:List En}(h:Sorted l){i:Nat}{z x:En}(hz:z∈l)(hzn:z ∉ l.reverse.take i)(hx:x∈l.reverse.take i):x.len≤z.len:=by
 obtain⟨j,hj,rfl⟩:=fi hz
 have e:l.reverse.take i=(l.drop (l.length-i)).reverse:=by rw[List.take_reverse]
 rw[e,List.mem_reverse] at hzn hx
 have hjl:j<l.length-i:=by
  by_cases hlt:j<l.length-i
  ·exact hlt
  ·refine absurd ?_ hzn
   refine List.mem_iff_getElem?.2 ⟨j-(l.length-i), ?_⟩
   rw[List.getElem?_drop,show l.length-i+(j-(l.length-i))=j from by omega,eZ hj]
 obtain⟨k,hk⟩:=List.mem_iff_getElem?.1 hx
 rw[List.getElem?_drop] at hk
 have hkl:=(List.getElem?_eq_some_iff.1 hk).1
 rw[eZ hkl] at hk
 rw[←Option.some_inj.1 hk]
 exact sz h (by omega) hkl

end Go.Sx.M
end

section
namespace Go.Sx.M

theorem oA(o n:List En):(stE o n).length≤n.length+o.length:=by
 have key:∀{f:En→List Sp},(∀y,(f y).length≤1)→∀b:List En,(b.flatMap f).length≤b.length:=fun hf b=>by
  induction b with
  |nil=>exact Nat.le_refl _
  |cons y b ih=>
   rw[List.flatMap_cons,List.length_append,List.length_cons]
   have:=hf y
   omega
 unfold stE stS
 rw[List.length_append]
 have h1:=key (xn (srE (onE o))) (srE (onE n))
 have h2:=key (EP (srE (onE n))) (srE (onE o)).reverse
 rw[List.length_reverse] at h2
 rw[fj] at h1 h2
 have h3:=(iQ o).2.1.length_le
 have h4:=(iQ n).2.1.length_le
 omega

def fiE(l:List En)(y:En):Int:=fsG (fun x=>alE x y) l l.length 0

theorem BF(l:List En)(y:En):(fiE l y= -1∧∀j,j<l.length→alE (at' l j) y=false)∨∃i:Nat,fiE l y=i∧i<l.length∧alE (at' l i) y=true∧∀j,j<i→alE (at' l j) y=false:=by
 rcases tT (fun x=>alE x y) l l.length 0 with⟨h1,h2⟩| ⟨i,h1,_,h3,h4,h5⟩
 ·exact .inl ⟨h1,fun j hj=>h2 j (by omega) (by omega)⟩
 ·exact .inr ⟨i,h1,by omega,h4,fun j hj=>h5 j (by omega) hj⟩

theorem yO(l:List En)(y:En):l.any (fun x=>alE x y)= !decide (fiE l y<0):=by
 rcases BF l y with⟨h1,h2⟩| ⟨k,h1,hk,h3,_⟩
 ·rw[h1]
  show _=false
  rw[jf]
  intro x hx
  obtain⟨j,hj,rfl⟩:=fi hx
  exact h2 j hj
 ·rw[h1,decide_eq_false (by omega)]
  exact List.any_eq_true.2 ⟨_,fb hk,h3⟩

theorem uh{l:List En}{y:En}:(fiE l y<0→l.find? (fun x=>alE x y)=none)∧(¬fiE l y<0→l.find? (fun x=>alE x y)=some (at' l (fiE l y).toNat)):=by
 rcases BF l y with⟨h1,h2⟩| ⟨k,h1,hk,h3,h4⟩
 ·refine⟨fun _=>List.find?_eq_none.2 fun x hx=> ?_,fun h=>by omega⟩
  obtain⟨j,hj,rfl⟩:=fi hx
  rw[h2 j hj];simp
 ·refine⟨fun h=>by omega,fun _=> ?_⟩
  rw[(Fw (p:=fun x=>alE x y) hk h3 h4).1,h1];rfl

theorem NH(a:List En)(y:En):stU a y=if fiE a y<0 then [⟨0,y⟩] else if (at' a (fiE a y).toNat).act=y.act then [] else [⟨1,y⟩]:=by
 unfold stU
 by_cases h:fiE a y<0
 ·rw[if_pos h,uh.1 h]
 ·rw[if_neg h,uh.2 h]

theorem NG(b:List En)(x:En):stV b x=if fiE b x<0 then [⟨2,x⟩] else []:=by
 unfold stV
 rw[yO]
 by_cases h:fiE b x<0
 ·rw[if_pos h,decide_eq_true h];rfl
 ·rw[if_neg h,decide_eq_false h];rfl

end Go.Sx.M
end

section
namespace Go.Sx.M

def tdE(x:En):En:=⟨x.v&&&x.m,x.w&&&x.n,x.m,x.n,x.len,x.act⟩

def plE(p:En)(L:List En):List En:=(L.filter fun y=>decide (tdE y=p)).reverse

theorem iI{p y:En}{L:List En}:y∈plE p L↔y∈L∧tdE y=p:=by simp[plE]

def fM(p:En)(L:List En):Option En:=L.find? fun y=>decide (tdE y=p)

theorem kM{p y:En}{L:List En}(h:fM p L=some y):y∈L∧tdE y=p:=⟨List.mem_of_find?_eq_some h,by simpa using List.find?_some h⟩

theorem iC{p:En}{L:List En}:fM p L=none↔plE p L=[]:=by
 unfold fM plE
 rw[List.find?_eq_none,List.reverse_eq_nil_iff,List.filter_eq_nil_iff]

theorem nK{p:En}{L:List En}:(plE p L).getLast?=fM p L:=by
 unfold fM plE
 rw[List.getLast?_reverse,List.head?_filter]

def lK(x:En)(L:List En):List En:=srE (x::L)

theorem nO(x:En)(L:List En):(lK x L).Perm (x::L):=e9 _
theorem j9(x:En)(L:List En):Sorted (lK x L):=fW _

theorem iK{p:En→Bool}{L:List En}(h:Sorted L):Sorted (L.filter p):=h.filter _

theorem EZ{x:En}{L:List En}(hs:Sorted L)(hle:∀y∈L,tdE y=tdE x→cpE x y≤0):plE (tdE x) (lK x L)=plE (tdE x) L++[x]:=by
 unfold plE
 rw[←List.reverse_cons]
 congr 1
 have hp:=(nO x L).filter fun y=>decide (tdE y=tdE x)
 rw[List.filter_cons_of_pos (by simp)] at hp
 refine jZ hp (iK (j9 x L)) ?_
 refine List.pairwise_cons.2 ⟨fun y hy=> ?_,iK hs⟩
 rw[List.mem_filter,decide_eq_true_eq] at hy
 exact hle y hy.1 hy.2

theorem Df{x p:En}{L:List En}(hs:Sorted L)(hne:p≠tdE x):plE p (lK x L)=plE p L:=by
 unfold plE
 congr 1
 have hp:=(nO x L).filter fun y=>decide (tdE y=p)
 rw[List.filter_cons_of_neg (by simpa using fun e=>hne e.symm)] at hp
 exact jZ hp (iK (j9 x L)) (iK hs)

def drL(p:En)(L:List En):List En:=L.eraseP fun y=>decide (tdE y=p)

theorem Er{p:En}{L:List En}(h:Sorted L):Sorted (drL p L):=h.sublist List.eraseP_sublist

theorem Iy(p:En):∀L:List En,plE p (drL p L)=(plE p L).dropLast
 | []=>rfl
 |y::L=>by
  unfold drL plE
  by_cases h:tdE y=p
  ·rw[List.eraseP_cons_of_pos (by simpa using h),List.filter_cons_of_pos (by simpa using h),List.reverse_cons,List.dropLast_concat]
  ·rw[List.eraseP_cons_of_neg (by simpa using h),List.filter_cons_of_neg (by simpa using h),List.filter_cons_of_neg (by simpa using h)]
   exact Iy p L

theorem qu{p q:En}(hne:q≠p):∀L:List En,plE q (drL p L)=plE q L
 | []=>rfl
 |y::L=>by
  unfold drL plE
  by_cases h:tdE y=p
  ·rw[List.eraseP_cons_of_pos (by simpa using h),List.filter_cons_of_neg (by simpa [h] using fun e=>hne e.symm)]
  ·rw[List.eraseP_cons_of_neg (by simpa using h)]
   have ih:=qu hne L
   unfold drL plE at ih
   have ih:=List.reverse_inj.1 ih
   rw[List.filter_cons,List.filter_cons,ih]

theorem wo{x:En}{L:List En}(h:fM (tdE x) L=some x):drL (tdE x) L=L.erase x:=by
 unfold drL
 induction L with
 |nil=>rfl
 |cons y L ih=>
  unfold fM at h ih
  rw[List.find?_cons] at h
  by_cases hy:tdE y=tdE x
  ·rw[show decide (tdE y=tdE x)=true by simpa using hy] at h
   cases h
   rw[List.eraseP_cons_of_pos (by simp),List.erase_cons_head]
  ·rw[show decide (tdE y=tdE x)=false by simpa using hy] at h
   rw[List.eraseP_cons_of_neg (by simpa using hy),List.erase_cons_tail (by simpa using fun e=>hy (by rw[e])),ih h]

theorem uo{p:En}{L:List En}(h:plE p L≠[]):(drL p L).length+1=L.length:=by
 obtain⟨y,hy⟩:=List.exists_mem_of_ne_nil _ h
 rw[iI] at hy
 have:=List.length_eraseP_of_mem (p:=fun y=>decide (tdE y=p)) hy.1 (by simpa using hy.2)
 have h2:=List.length_pos_of_mem hy.1
 unfold drL
 omega

def u0(j:Nat):BitVec 64:=if j<64 then BitVec.twoPow 64 (63-j) else 0#64
def u1(j:Nat):BitVec 64:=if j<64 then 0#64 else BitVec.twoPow 64 (127-j)

theorem ze{i j:Nat}(hi:i<128)(hj:j<128):eH (u0 j) (u1 j) i=decide (i=j):=by
 unfold eH u0 u1
 by_cases h1:i<64<;>by_cases h2:j<64
 ·rw[if_pos h1,if_pos h2,BitVec.getMsbD_eq_getLsbD,BitVec.getLsbD_twoPow]
  simp only[h1,decide_true,Bool.true_and]
  by_cases e:i=j
  ·subst e;simp;omega
  ·rw[decide_eq_false e];simp;omega
 ·rw[if_pos h1,if_neg h2]
  have:i≠j:=by omega
  simp[this]
 ·rw[if_neg h1,if_pos h2]
  have:i≠j:=by omega
  simp[this]
 ·rw[if_neg h1,if_neg h2,BitVec.getMsbD_eq_getLsbD,BitVec.getLsbD_twoPow]
  by_cases e:i=j
  ·subst e;simp;omega
  ·rw[decide_eq_false e];simp;omega

def nbE(x:En)(j:Nat):En:=⟨(x.v&&&x.m)^^^u0 j,(x.w&&&x.n)^^^u1 j,x.m,x.n,x.len,x.act⟩

theorem Kq{f:Nat→Bool}{j:Nat}:∀{N:Nat},j<N→(∀i,i<N→f i=decide (i=j))→cf f N=1
 |0,h,_=>by omega
 |N+1,h,hf=>by
  have e:cf f (N+1)=cf f N+(if f N=true then 1 else 0):=rfl
  rw[e,hf N (by omega)]
  by_cases hN:N=j
  ·subst hN
   have h0:∀M,M≤N→cf f M=0:=by
    intro M
    induction M with
    |zero=>intro _;rfl
    |succ M ih=>
     intro hM
     have e:cf f (M+1)=cf f M+(if f M=true then 1 else 0):=rfl
     rw[e,ih (by omega),hf M (by omega),decide_eq_false (by omega)]
     rfl
   rw[h0 N (Nat.le_refl _)];simp
  ·rw[Kq (N:=N) (by omega) fun i hi=>hf i (by omega),decide_eq_false hN];rfl

theorem qy{x y:En}:mgE x y=true↔∃j,j<128∧eH x.m x.n j=true∧tdE y=nbE x j:=by
 constructor
 ·intro h
  obtain⟨hl,ha,_⟩:=kj.1 h
  obtain⟨hm,hn,j,hj,hb,hd,_,hs⟩:=lP h
  refine⟨j,hj,hb, ?_⟩
  have hbits:∀i,i<128→eH (y.v&&&y.m) (y.w&&&y.n) i=eH ((x.v&&&x.m)^^^u0 j) ((x.w&&&x.n)^^^u1 j) i:=fun i hi=>by
   rw[fm,gS,fm,ze hi hj,←hm,←hn]
   by_cases e:i=j
   ·subst e
    rw[hb,hd];simp
   ·rw[decide_eq_false e]
    by_cases hmi:eH x.m x.n i=true
    ·rw[hmi,(hs i hi e hmi).2];simp
    ·have:eH x.m x.n i=false:=by simpa using hmi
     rw[this];simp
  obtain⟨e1,e2⟩:=iA hbits
  simp only[tdE,nbE]
  rw[e1,e2,←hm,←hn,←hl,←ha]
 ·rintro⟨j,hj,hb,e⟩
  simp only[tdE,nbE,En.mk.injEq] at e
  obtain⟨e1,e2,e3,e4,e5,e6⟩:=e
  refine kj.2 ⟨e5.symm,e6.symm, ?_⟩
  unfold mgB
  rw[Bool.and_eq_true,Bool.and_eq_true,beq_iff_eq,beq_iff_eq,beq_iff_eq]
  refine⟨⟨e3.symm,e4.symm⟩,Kq hj fun i hi=> ?_⟩
  have h1:eH (y.v&&&y.m) (y.w&&&y.n) i=eH ((x.v&&&x.m)^^^u0 j) ((x.w&&&x.n)^^^u1 j) i:=by rw[e1,e2]
  rw[e3,e4,fm,gS,fm,ze hi hj] at h1
  rw[fm,gS]
  by_cases e:i=j
  ·subst e
   rw[hb] at h1⊢
   revert h1
   cases eH x.v x.w i<;>cases eH y.v y.w i<;>simp
  ·rw[decide_eq_false e] at h1⊢
   revert h1
   cases eH x.v x.w i<;>cases eH y.v y.w i<;>cases eH x.m x.n i<;>simp

theorem iT{x y:En}(h:mgE x y=true):mgE y x=true:=by
 obtain⟨hl,ha,_⟩:=kj.1 h
 obtain⟨hm,hn,j,hj,hb,hd,_,hs⟩:=lP h
 refine qy.2 ⟨j,hj,by rw[←hm,←hn];exact hb, ?_⟩
 have hbits:∀i,i<128→eH (x.v&&&x.m) (x.w&&&x.n) i=eH ((y.v&&&y.m)^^^u0 j) ((y.w&&&y.n)^^^u1 j) i:=fun i hi=>by
  rw[fm,gS,fm,ze hi hj,←hm,←hn]
  by_cases e:i=j
  ·subst e
   rw[hb,hd];cases eH x.v x.w i<;>simp
  ·rw[decide_eq_false e]
   by_cases hmi:eH x.m x.n i=true
   ·rw[hmi,(hs i hi e hmi).2];simp
   ·have:eH x.m x.n i=false:=by simpa using hmi
    rw[this];simp
 obtain⟨e1,e2⟩:=iA hbits
 simp only[tdE,nbE]
 rw[e1,e2,←hm,←hn,←hl,←ha]

theorem xY{x y z:En}(h:mgE x y=true)(e:tdE z=tdE y):mgE x z=true:=by
 obtain⟨j,h1,h2,h3⟩:=qy.1 h
 exact qy.2 ⟨j,h1,h2,e.trans h3⟩

theorem AA{x y z:En}(h:mgE x y=true)(e:tdE z=tdE x):mgE z y=true:=iT (xY (iT h) e)

theorem oG(x:En):mgE x x=false:=by
 cases h:mgE x x with
 |false=>rfl
 |true=>
  obtain⟨_,_,j,hj,_,hd,_⟩:=lP h
  revert hd
  cases eH x.v x.w j<;>simp

theorem Oi{x y:En}(h:mgE x y=true):x≠y∧tdE x≠tdE y:=by
 refine⟨fun e=> ?_,fun e=> ?_⟩
 ·subst e;rw[oG] at h;cases h
 ·have:=xY h e
  rw[oG] at this;cases this

theorem Jt{x y:En}(h:mgE x y=true):jnE x y=jnE y x:=by
 obtain⟨hl,ha,_⟩:=kj.1 h
 obtain⟨hm,hn,j,hj,hb,hd,_,hs⟩:=lP h
 have e1:x.v^^^y.v=y.v^^^x.v:=BitVec.xor_comm _ _
 have e2:x.w^^^y.w=y.w^^^x.w:=BitVec.xor_comm _ _
 have hbits:∀i,i<128→eH (x.v&&&(x.m^^^(x.v^^^y.v)&&&x.m)) (x.w&&&(x.n^^^(x.w^^^y.w)&&&x.n)) i=eH (y.v&&&(x.m^^^(x.v^^^y.v)&&&x.m)) (y.w&&&(x.n^^^(x.w^^^y.w)&&&x.n)) i:=fun i hi=>by
  simp only[fm,gS]
  by_cases e:i=j
  ·subst e
   rw[hb,hd];cases eH x.v x.w i<;>simp
  ·by_cases hmi:eH x.m x.n i=true
   ·rw[hmi,(hs i hi e hmi).2]
   ·have:eH x.m x.n i=false:=by simpa using hmi
    rw[this];simp
 obtain⟨b1,b2⟩:=iA hbits
 unfold jnE
 rw[b1,b2,e1,e2,hm,hn,hl,ha]

theorem Js(x y:En):tdE (jnE x y)=jnE x y:=by simp[tdE,jnE,BitVec.and_assoc]

theorem OU{x z:En}(hx:tdE x=x)(h:tdE z=x):cpE x z≤0:=by
 have hv:∀a b c d:BitVec 64,V (a&&&b) (c&&&d)≤V a c:=fun a b c d=>by
  unfold V
  have h1:(a&&&b).toNat≤a.toNat:=by rw[BitVec.toNat_and];exact Nat.and_le_left
  have h2:(c&&&d).toNat≤c.toNat:=by rw[BitVec.toNat_and];exact Nat.and_le_left
  exact Nat.add_le_add (Nat.mul_le_mul_right _ h1) h2
 subst h
 have hV:=hv z.v z.m z.w z.n
 rw[uv]
 refine .inr ⟨rfl, ?_⟩
 rcases Nat.lt_or_eq_of_le hV with h|h
 ·exact .inl h
 ·exact .inr ⟨h, .inr ⟨rfl,Int.le_refl _⟩⟩

theorem Np(a b c d:BitVec 64):V (a&&&b) (c&&&d)≤V a c:=by
 unfold V
 have h1:(a&&&b).toNat≤a.toNat:=by rw[BitVec.toNat_and];exact Nat.and_le_left
 have h2:(c&&&d).toNat≤c.toNat:=by rw[BitVec.toNat_and];exact Nat.and_le_left
 exact Nat.add_le_add (Nat.mul_le_mul_right _ h1) h2

theorem G0{x y:En}(h:mgE x y=true):cpE (jnE x y) x≤0∧jnE x y≠x:=by
 obtain⟨hm,hn,j,hj,hb,hd,hj2,hs⟩:=lP h
 have hne:¬(V (jnE x y).m (jnE x y).n=V x.m x.n):=fun e=>by
  have h1:=wV (jnE x y).m (jnE x y).n hj
  have h2:=wV x.m x.n hj
  rw[e,h2,hb] at h1
  exact ((hj2 j hj).1 h1.symm).2 rfl
 have hVm:V (jnE x y).m (jnE x y).n<V x.m x.n:=by
  refine Nat.lt_of_le_of_ne ?_ hne
  have hbits:∀i,i<128→eH (jnE x y).m (jnE x y).n i=eH (x.m&&&(jnE x y).m) (x.n&&&(jnE x y).n) i:=fun i hi=>by
   rw[fm]
   cases hh:eH (jnE x y).m (jnE x y).n i with
   |false=>simp
   |true=>rw[((hj2 i hi).1 hh).1];rfl
  obtain⟨e1,e2⟩:=iA hbits
  rw[e1,e2]
  exact Np _ _ _ _
 refine⟨uv.2 (.inr ⟨rfl, ?_⟩),fun e=>hne (by rw[e])⟩
 have hV:V (jnE x y).v (jnE x y).w≤V x.v x.w:=Np _ _ _ _
 rcases Nat.lt_or_eq_of_le hV with h|h
 ·exact .inl h
 ·exact .inr ⟨h, .inl hVm⟩

def paE(x:En)(L:List En):Option En:=L.find? (mgE x)

theorem pr{x y:En}{L:List En}(h:paE x L=some y):y∈L∧mgE x y=true:=⟨List.mem_of_find?_eq_some h,List.find?_some h⟩

theorem Dj{x y:En}{L:List En}(hs:Sorted L)(h:paE x L=some y){z:En}(hz:z∈L)(hm:mgE x z=true):cpE y z≤0:=by
 unfold paE at h
 induction L with
 |nil=>cases h
 |cons a L ih=>
  obtain⟨h1,h2⟩:=List.pairwise_cons.1 hs
  rw[List.find?_cons] at h
  cases ha:mgE x a with
  |true=>
   rw[ha] at h
   cases h
   rcases List.mem_cons.1 hz with rfl|hz
   ·rw[gx.2 rfl];exact Int.le_refl _
   ·exact h1 z hz
  |false=>
   rw[ha] at h
   rcases List.mem_cons.1 hz with rfl|hz
   ·rw[ha] at hm;cases hm
   ·exact ih h2 h hz

theorem ue{p:En→Bool}:∀{l:List En} {y:En},l.find? p=some y→l.Perm (y::l.eraseP p)
 | [],_,h=>by cases h
 |z::l,y,h=>by
  rw[List.find?_cons] at h
  split at h
  ·rename_i hz
   cases h
   rw[List.eraseP_cons_of_pos hz]
  ·rename_i hz
   rw[List.eraseP_cons_of_neg (by rw[hz];simp)]
   exact ((ue h).cons z).trans (List.Perm.swap _ _ _)

theorem wb:∀{L:List En} {a b:En},Sorted L→a∈L→(∀c∈L,∀d∈L,mgE c d=true→cpE a c≤0)→paE a L=some b→∃r,m1E L=some (jnE a b,r)∧L.Perm (a::b::r)
 | [],_,_,_,ha,_,_=>by cases ha
 |h::t,a,b,hs,ha,hmin,hpa=>by
  obtain⟨h1,h2⟩:=List.pairwise_cons.1 hs
  unfold m1E
  by_cases e:h=a
  ·subst e
   unfold paE at hpa
   rw[List.find?_cons,oG] at hpa
   dsimp only at hpa
   rw[hpa]
   exact⟨_,rfl,(ue hpa).cons _⟩
  ·have hat:a∈t:=(List.mem_cons.1 ha).resolve_left fun e2=>e e2.symm
   have hno:∀d∈t,mgE h d=false:=fun d hd=>by
    cases hh:mgE h d with
    |false=>rfl
    |true=>exact absurd (nt (h1 a hat) (hmin h List.mem_cons_self d (List.mem_cons_of_mem _ hd) hh)) e
   have hf:t.find? (mgE h)=none:=List.find?_eq_none.2 fun d hd=>by rw[hno d hd];simp
   rw[hf]
   have hah:mgE a h=false:=by
    cases hh:mgE a h with
    |false=>rfl
    |true=>rw[←hno a hat,iT hh]
   have hpt:paE a t=some b:=by
    unfold paE at hpa⊢
    rw[List.find?_cons,hah] at hpa
    exact hpa
   obtain⟨r,e1,e2⟩:=wb h2 hat (fun c hc d hd hm=>hmin c (List.mem_cons_of_mem _ hc) d (List.mem_cons_of_mem _ hd) hm) hpt
   rw[e1]
   exact⟨h::r,rfl,(e2.cons h).trans ((List.Perm.swap _ _ _).trans ((List.Perm.swap _ _ _).cons _))⟩

def NoP(L R:List En):Prop:=∀a∈L,∀b∈L,mgE a b=true→L.count a≤R.count a

structure AtH(L:List En)(x:En)(R:List En):Prop where
 sorted:Sorted L
 top:fM (tdE x) L=some x
 le:∀r∈R,cpE x r≤0
 no:NoP (L.erase x) R

theorem NoP.start(L:List En):NoP L L:=fun _ _ _ _ _=>Nat.le_refl _

theorem ww{a:En}{R:List En}{n:Nat}(h:1≤n)(h2:n≤R.count a):a∈R:=List.count_pos_iff.1 (by omega)

theorem NoP.hand{L:List En}{x:En}{R:List En}(hs:Sorted L)(hR:Sorted (x::R))(h:NoP L (x::R))(ht:fM (tdE x) L=some x):AtH L x R:=by
 have hx:=(kM ht).1
 refine⟨hs,ht,(List.pairwise_cons.1 hR).1,fun a ha b hb hm=> ?_⟩
 have h1:=h a (List.mem_of_mem_erase ha) b (List.mem_of_mem_erase hb) hm
 by_cases e:a=x
 ·subst e
  rw[List.count_erase_self]
  rw[List.count_cons_self] at h1
  omega
 ·rw[List.count_erase_of_ne e]
  rwa [List.count_cons_of_ne (fun e2=>e e2.symm)] at h1

theorem NoP.skip{L:List En}{x:En}{R:List En}(hs:Sorted L)(hR:Sorted (x::R))(h:NoP L (x::R))(ht:fM (tdE x) L≠some x):NoP L R:=by
 intro a ha b hb hm
 have h1:=h a ha b hb hm
 by_cases e:a=x
 ·subst e
  exfalso
  cases htop:fM (tdE a) L with
  |none=>
   have:=iC.1 htop
   have hmem:a∈plE (tdE a) L:=iI.2 ⟨ha,rfl⟩
   rw[this] at hmem;cases hmem
  |some t=>
   obtain⟨ht1,ht2⟩:=kM htop
   have hta:t≠a:=fun e=>ht (by rw[htop,e])
   have hle:cpE t a≤0:=by
    --the first of its kind
    have:∀{L:List En},Sorted L→fM (tdE a) L=some t→a∈L→cpE t a≤0:=by
     intro L hs h ha
     unfold fM at h
     induction L with
     |nil=>cases h
     |cons z L ih=>
      obtain⟨h1,h2⟩:=List.pairwise_cons.1 hs
      rw[List.find?_cons] at h
      split at h
      ·cases h
       rcases List.mem_cons.1 ha with e|ha
       ·rw[e,gx.2 rfl];exact Int.le_refl _
       ·exact h1 a ha
      ·rename_i hz
       rcases List.mem_cons.1 ha with e|ha
       ·rw[e] at hz;simp at hz
       ·exact ih h2 h ha
    exact this hs htop ha
   have hmt:mgE t b=true:=AA hm ht2
   have h2:=h t ht1 b hb hmt
   have hmem:t∈a::R:=ww (List.count_pos_iff.2 ht1) h2
   rcases List.mem_cons.1 hmem with e|hmem
   ·exact hta e
   ·exact hta (nt hle ((List.pairwise_cons.1 hR).1 t hmem))
 ·rwa [List.count_cons_of_ne (fun e2=>e e2.symm)] at h1

theorem AtH.done{L:List En}{x:En}{R:List En}(h:AtH L x R)(hp:paE x L=none):NoP L R:=by
 intro a ha b hb hm
 have hno:∀z∈L,mgE x z=false:=fun z hz=>by
  have:=List.find?_eq_none.1 hp z hz
  simpa using this
 have hax:a≠x:=fun e=>by rw[e,hno b hb] at hm;cases hm
 have hbx:b≠x:=fun e=>by have:=iT hm;rw[e,hno a ha] at this;cases this
 have:=h.no a ((List.mem_erase_of_ne hax).2 ha) b ((List.mem_erase_of_ne hbx).2 hb) hm
 rwa [List.count_erase_of_ne hax] at this

theorem AtH.step{L:List En}{x y:En}{R:List En}(h:AtH L x R)(hp:paE x L=some y):
  fM (tdE y) (drL (tdE x) L)=some y∧(∀z∈drL (tdE y) (drL (tdE x) L),tdE z=tdE (jnE x y)→cpE (jnE x y) z≤0)∧
  m2E L=some (lK (jnE x y) (drL (tdE y) (drL (tdE x) L)))∧AtH (lK (jnE x y) (drL (tdE y) (drL (tdE x) L))) (jnE x y) R:=by
 obtain⟨hyL,hm⟩:=pr hp
 obtain⟨hxL,_⟩:=kM h.top
 obtain⟨hne,htd⟩:=Oi hm
 have e1:=wo h.top
 have hs1:Sorted (L.erase x):=h.sorted.sublist List.erase_sublist
 --y is on top of its pile
 have topy:fM (tdE y) L=some y:=by
  cases htop:fM (tdE y) L with
  |none=>
   have:=iC.1 htop
   have hmem:y∈plE (tdE y) L:=iI.2 ⟨hyL,rfl⟩
   rw[this] at hmem;cases hmem
  |some t=>
   obtain⟨ht1,ht2⟩:=kM htop
   have hmt:mgE x t=true:=xY hm ht2
   --both are the first one
   have key:∀{L:List En},L.find? (mgE x)=some y→L.find? (fun z=>decide (tdE z=tdE y))=some t→mgE x y=true→t=y:=by
    intro L
    induction L with
    |nil=>intro h;cases h
    |cons z L ih=>
     intro h1 h2 hm
     rw[List.find?_cons] at h1 h2
     by_cases hz:tdE z=tdE y
     ·rw[show decide (tdE z=tdE y)=true by simpa using hz] at h2
      rw[xY hm hz] at h1
      cases h1;cases h2;rfl
     ·rw[show decide (tdE z=tdE y)=false by simpa using hz] at h2
      cases hmz:mgE x z with
      |true=>rw[hmz] at h1;cases h1;exact absurd rfl hz
      |false=>rw[hmz] at h1;exact ih h1 h2 hm
   rw[key hp htop hm]
 have topy1:fM (tdE y) (L.erase x)=some y:=by
  have:plE (tdE y) (drL (tdE x) L)=plE (tdE y) L:=qu (fun e=>htd e.symm) L
  rw[e1] at this
  rw[←nK,this,nK];exact topy
 have e2:=wo topy1
 rw[e1,e2]
 have hsub:∀z∈(L.erase x).erase y,z∈L:=fun z hz=>List.mem_of_mem_erase (List.mem_of_mem_erase hz)
 have hle:∀z∈(L.erase x).erase y,tdE z=tdE (jnE x y)→cpE (jnE x y) z≤0:=fun z _ hz=>OU (Js x y) (by rw[hz,Js])
 have hs2:Sorted ((L.erase x).erase y):=hs1.sublist List.erase_sublist
 have hyx:y∈L.erase x:=(List.mem_erase_of_ne fun e=>hne e.symm).2 hyL
 have hpm:L.Perm (x::y::(L.erase x).erase y):=(List.perm_cons_erase hxL).trans ((List.perm_cons_erase hyx).cons x)
 refine⟨topy1,hle, ?_, ?_⟩
 ·--the first two by the row
  have first:∀{a b:En},(a=x∧b=y∨a=y∧b=x)→(∀c∈L,∀d∈L,mgE c d=true→cpE a c≤0)→paE a L=some b→m2E L=some (lK (jnE x y) ((L.erase x).erase y)):=by
   intro a b hab hmin hpa
   have haL:a∈L:=by rcases hab with⟨rfl,_⟩| ⟨rfl,_⟩;exact hxL;exact hyL
   obtain⟨r,h1,h2⟩:=wb h.sorted haL hmin hpa
   unfold m2E
   rw[h1]
   dsimp only
   have hj:jnE a b=jnE x y:=by
    rcases hab with⟨rfl,rfl⟩| ⟨rfl,rfl⟩
    ·rfl
    ·exact Jt (iT hm)
   have hr:r.Perm ((L.erase x).erase y):=by
    have h3:(a::b::r).Perm (x::y::(L.erase x).erase y):=h2.symm.trans hpm
    rcases hab with⟨rfl,rfl⟩| ⟨rfl,rfl⟩
    ·exact (List.perm_cons _).1 ((List.perm_cons _).1 h3)
    ·exact (List.perm_cons _).1 ((List.perm_cons _).1 (h3.trans (List.Perm.swap _ _ _)))
   rw[hj]
   unfold lK
   rw[qY (hr.cons _)]
  have inR:∀{a b:En},a∈L→b∈L→a≠x→b≠x→mgE a b=true→a∈R:=fun {a b} ha hb hax hbx hab=>by
   have:=h.no a ((List.mem_erase_of_ne hax).2 ha) b ((List.mem_erase_of_ne hbx).2 hb) hab
   exact ww (List.count_pos_iff.2 ((List.mem_erase_of_ne hax).2 ha)) this
  rcases n9 x y with hxy|hyx'
  ·refine first (.inl ⟨rfl,rfl⟩) (fun c hc d hd hcd=> ?_) hp
   by_cases ec:c=x
   ·rw[ec,gx.2 rfl];exact Int.le_refl _
   ·by_cases ed:d=x
    ·exact gR hxy (Dj h.sorted hp hc (by rw[ed] at hcd;exact iT hcd))
    ·exact h.le c (inR hc hd ec ed hcd)
  ·refine first (.inr ⟨rfl,rfl⟩) (fun c hc d hd hcd=> ?_) ?_
   ·by_cases ec:c=x
    ·rw[ec];exact hyx'
    ·by_cases ed:d=x
     ·exact Dj h.sorted hp hc (by rw[ed] at hcd;exact iT hcd)
     ·exact gR hyx' (h.le c (inR hc hd ec ed hcd))
   ·cases hpy:paE y L with
    |none=>
     have:=List.find?_eq_none.1 hpy x hxL
     rw[iT hm] at this
     exact absurd rfl this
    |some b=>
     obtain⟨hb1,hb2⟩:=pr hpy
     by_cases eb:b=x
     ·rw[eb]
     ·have hyR:=inR hyL hb1 (fun e=>hne e.symm) eb hb2
      exact absurd (nt (h.le y hyR) hyx') hne
 ·refine⟨j9 _ _, ?_,fun r hr=>gR (G0 hm).1 (h.le r hr),fun a ha b hb hab=> ?_⟩
  ·have hpl:=EZ (x:=jnE x y) hs2 hle
   rw[←nK,hpl]
   simp
  ·have hpe:((lK (jnE x y) ((L.erase x).erase y)).erase (jnE x y)).Perm ((L.erase x).erase y):=by
    have:=(nO (jnE x y) ((L.erase x).erase y)).erase (jnE x y)
    rwa [List.erase_cons_head] at this
   rw[hpe.count_eq]
   have ha':=(hpe.mem_iff).1 ha
   have hb':=(hpe.mem_iff).1 hb
   have:=h.no a (List.mem_of_mem_erase ha') b (List.mem_of_mem_erase hb') hab
   exact Nat.le_trans ((List.erase_sublist).count_le a) this

theorem NoP.none{L:List En}(h:NoP L []):m2E L=none:=by
 unfold m2E
 have:m1E L=Option.none:=tq.2 ((List.pairwise_iff_forall_sublist).2 fun {a b} hab=>by
  cases hh:mgE a b with
  |false=>rfl
  |true=>
   have ha:a∈L:=hab.subset List.mem_cons_self
   have hb:b∈L:=hab.subset (List.mem_cons_of_mem _ List.mem_cons_self)
   have h1:=h a ha b hb hh
   have h2:=List.count_pos_iff.2 ha
   rw[List.count_nil] at h1
   omega)
 rw[this]

end Go.Sx.M
end

section
namespace Go.Sx.M

def brS(x y:Sl):Bool:=y.ok&&x.ok&&decide (x.e.len<y.e.len)
def KpS(l:List Sl):Prop:=∀i,i<l.length→∀k,k<i→brS (at' l k) (at' l i)=false
instance(l:List Sl):Decidable (KpS l):=by unfold KpS;infer_instance
def kpS(l:List Sl):Bool:=decide (KpS l)

theorem nQ{l:List Sl}:kpS l=true↔KpS l:=decide_eq_true_iff

def loS(n:Int)(x:Sl):Bool:=x.ok&&decide (n<x.e.len)
def shS(n:Int)(x:Sl):Bool:=x.ok&&decide (x.e.len<n)

def gpF(l:List Sl)(n:Int):Nat→Nat
 |0=>0
 |i+1=>if loS n (at' l i) then i+1 else gpF l n i
def gpT(l:List Sl)(n:Int):Nat→Nat
 |0=>l.length
 |d+1=>if shS n (at' l (l.length-1-d)) then l.length-1-d else gpT l n d
def gfS(l:List Sl)(n:Int):Nat:=gpF l n l.length
def gtS(l:List Sl)(n:Int):Nat:=gpT l n l.length

theorem A9(l:List Sl)(n:Int):∀i,gpF l n i≤i∧(∀j,gpF l n i≤j→j<i→loS n (at' l j)=false)∧(gpF l n i=0∨loS n (at' l (gpF l n i-1))=true)
 |0=>⟨Nat.le_refl _,fun j h1 h2=>absurd h2 (Nat.not_lt_zero _), .inl rfl⟩
 |i+1=>by
  unfold gpF
  cases h:loS n (at' l i) with
  |true=>exact⟨Nat.le_refl _,fun j h1 h2=>absurd h2 (Nat.not_lt.2 h1), .inr h⟩
  |false=>
   rw[if_neg (by simp)]
   obtain⟨h1,h2,h3⟩:=A9 l n i
   refine⟨by omega,fun j hj1 hj2=> ?_,h3⟩
   rcases Nat.lt_or_ge j i with hj|hj
   ·exact h2 j hj1 hj
   ·obtain rfl:j=i:=by omega
    exact h

theorem A8(l:List Sl)(n:Int):∀d,d≤l.length→l.length-d≤gpT l n d∧gpT l n d≤l.length∧(∀j,l.length-d≤j→j<gpT l n d→shS n (at' l j)=false)∧(gpT l n d=l.length∨shS n (at' l (gpT l n d))=true)
 |0,_=>⟨Nat.le_refl _,Nat.le_refl _,fun j h1 h2=>absurd h2 (Nat.not_lt.2 h1), .inl rfl⟩
 |d+1,hd=>by
  unfold gpT
  cases h:shS n (at' l (l.length-1-d)) with
  |true=>exact⟨by rw[if_pos rfl];omega,by rw[if_pos rfl];omega,fun j h1 h2=>by rw[if_pos rfl] at h2;omega, .inr (by rw[if_pos rfl];exact h)⟩
  |false=>
   rw[if_neg (by simp)]
   obtain⟨h1,h2,h3,h4⟩:=A8 l n d (by omega)
   refine⟨by omega,h2,fun j hj1 hj2=> ?_,h4⟩
   rcases Nat.lt_or_ge j (l.length-d) with hj|hj
   ·obtain rfl:j=l.length-1-d:=by omega
    exact h
   ·exact h3 j hj hj2

theorem kq(l:List Sl)(n:Int):gfS l n≤l.length∧(∀j,gfS l n≤j→j<l.length→loS n (at' l j)=false)∧(gfS l n=0∨loS n (at' l (gfS l n-1))=true):=A9 l n l.length
theorem io(l:List Sl)(n:Int):gtS l n≤l.length∧(∀j,j<gtS l n→shS n (at' l j)=false)∧(gtS l n=l.length∨shS n (at' l (gtS l n))=true):=by
 obtain⟨_,h2,h3,h4⟩:=A8 l n l.length (Nat.le_refl _)
 exact⟨h2,fun j hj=>h3 j (by omega) hj,h4⟩

theorem yJ{l:List Sl}(hk:KpS l)(n:Int):gfS l n≤gtS l n:=by
 obtain⟨h1,_,h3⟩:=kq l n
 obtain⟨g1,_,g3⟩:=io l n
 refine Nat.le_of_not_lt fun hlt=> ?_
 have h3:=h3.resolve_left (by omega)
 have g3:=g3.resolve_left (by omega)
 unfold loS at h3
 unfold shS at g3
 rw[Bool.and_eq_true,decide_eq_true_eq] at h3 g3
 rcases Nat.lt_or_ge (gtS l n) (gfS l n-1) with h|h
 ·have:=hk (gfS l n-1) (by omega) _ h
  unfold brS at this
  rw[h3.1,g3.1,Bool.and_self,Bool.true_and,decide_eq_false_iff_not] at this
  omega
 ·have:gtS l n=gfS l n-1:=by omega
  rw[this] at g3
  omega

def knS(l:List Sl)(i:Nat):Bool:=(l.take i).any fun y=>y.ok&&decide (y.e.len=(at' l i).e.len)
def lnS(l:List Sl):Nat→Nat
 |0=>0
 |i+1=>if (at' l i).ok&& !knS l i then lnS l i+1 else lnS l i

theorem Hm{l:List Sl}{i:Nat}(hi:i<l.length):(ensS (l.take (i+1))).length=(ensS (l.take i)).length+(if (at' l i).ok then 1 else 0):=by
 have e:l.take (i+1)=l.take i++[at' l i]:=by rw[List.take_add_one,eZ hi];rfl
 rw[e,lu]
 split
 ·rw[List.length_append];rfl
 ·rfl

theorem DA(l:List Sl):∀i,i≤l.length→lnS l i≤(ensS (l.take i)).length
 |0,_=>Nat.zero_le _
 |i+1,h=>by
  have ih:=DA l i (by omega)
  rw[Hm (by omega)]
  unfold lnS
  cases (at' l i).ok<;>cases knS l i<;>simp<;>omega

def blN(l:List Sl)(p:Nat):Nat→Nat
 |0=>p-1
 |d+1=>if (at' l (p-1-d)).e.len=(at' l (p-1)).e.len then p-1-d else blN l p d
def blW(l:List Sl)(t:Nat)(x:En):Nat→Nat→List Wr
 |0,p=>[⟨p,⟨true,x⟩⟩]
 |f+1,p=>if t<p then⟨p,at' l (blN l p (p-t))⟩::blW l t x f (blN l p (p-t)) else [⟨p,⟨true,x⟩⟩]
def zh(l:List Sl)(t:Nat)(x:En)(p:Nat):List Wr:=blW l t x p p

theorem EC(l:List Sl){p:Nat}(hp:0<p):∀d,blN l p d<p
 |0=>by unfold blN;omega
 |d+1=>by
  unfold blN
  split
  ·omega
  ·exact EC l hp d

theorem Cr(l:List Sl)(t:Nat)(x:En):∀f g p,p≤t+f→p≤t+g→blW l t x f p=blW l t x g p
 |0,0,_,_,_=>rfl
 |0,g+1,p,h,_=>by rw[blW,blW,if_neg (by omega)]
 |f+1,0,p,_,h=>by rw[blW,blW,if_neg (by omega)]
 |f+1,g+1,p,h1,h2=>by
  rw[blW,blW]
  split
  ·rename_i hp
   have:=EC l (show 0<p from by omega) (p-t)
   rw[Cr l t x f g _ (by omega) (by omega)]
  ·rfl

theorem qO{l:List Sl}{t:Nat}{x:En}{p:Nat}(h:t<p):zh l t x p=⟨p,at' l (blN l p (p-t))⟩::zh l t x (blN l p (p-t)):=by
 have hlt:=EC l (show 0<p from by omega) (p-t)
 unfold zh
 obtain⟨q,rfl⟩:∃q,p=q+1:=⟨p-1,by omega⟩
 rw[blW,if_pos h]
 congr 1
 exact Cr l t x _ _ _ (by omega) (by omega)

theorem uK{l:List Sl}{t:Nat}{x:En}{p:Nat}(h:¬t<p):zh l t x p=[⟨p,⟨true,x⟩⟩]:=by
 unfold zh
 cases p with
 |zero=>rfl
 |succ p=>rw[blW,if_neg h]

def abN(l:List Sl)(p:Nat):Nat→Nat
 |0=>p+1
 |d+1=>if (at' l (p+1+d)).e.len=(at' l (p+1)).e.len then p+1+d else abN l p d
def abW(l:List Sl)(t:Nat)(x:En):Nat→Nat→List Wr
 |0,p=>[⟨p,⟨true,x⟩⟩]
 |f+1,p=>if p<t then⟨p,at' l (abN l p (t-p))⟩::abW l t x f (abN l p (t-p)) else [⟨p,⟨true,x⟩⟩]
def zp(l:List Sl)(t:Nat)(x:En)(p:Nat):List Wr:=abW l t x (t-p) p

theorem EJ(l:List Sl)(p:Nat):∀d,p<abN l p d
 |0=>by unfold abN;omega
 |d+1=>by
  unfold abN
  split
  ·omega
  ·exact EJ l p d

theorem CG(l:List Sl)(t:Nat)(x:En):∀f g p,t≤p+f→t≤p+g→abW l t x f p=abW l t x g p
 |0,0,_,_,_=>rfl
 |0,g+1,p,h,_=>by rw[abW,abW,if_neg (by omega)]
 |f+1,0,p,_,h=>by rw[abW,abW,if_neg (by omega)]
 |f+1,g+1,p,h1,h2=>by
  rw[abW,abW]
  split
  ·have:=EJ l p (t-p)
   rw[CG l t x f g _ (by omega) (by omega)]
  ·rfl

theorem qT{l:List Sl}{t:Nat}{x:En}{p:Nat}(h:p<t):zp l t x p=⟨p,at' l (abN l p (t-p))⟩::zp l t x (abN l p (t-p)):=by
 have hlt:=EJ l p (t-p)
 unfold zp
 obtain⟨q,hq⟩:∃q,t-p=q+1:=⟨t-p-1,by omega⟩
 rw[hq,abW,if_pos h]
 rw[hq] at hlt
 congr 1
 ·rw[hq]
 ·rw[hq]
  exact CG l t x _ _ _ (by omega) (by omega)

theorem uR{l:List Sl}{t:Nat}{x:En}{p:Nat}(h:¬p<t):zp l t x p=[⟨p,⟨true,x⟩⟩]:=by
 unfold zp
 rw[show t-p=0 from by omega];rfl

def geS(l:List Sl):Nat→Nat→Int
 |0,_=> -1
 |n+1,k=>if (at' l k).ok then geS l n (k+1) else (k:Int)
def upS(l:List Sl):Nat→Int
 |0=> -1
 |i+1=>if (at' l i).ok then upS l i else (i:Int)

theorem fp(l:List Sl):∀n k,(geS l n k= -1∧∀j,k≤j→j<k+n→(at' l j).ok=true)∨∃i:Nat,geS l n k=i∧k≤i∧i<k+n∧(at' l i).ok=false∧∀j,k≤j→j<i→(at' l j).ok=true
 |0,k=> .inl ⟨rfl,fun j h1 h2=>by omega⟩
 |n+1,k=>by
  unfold geS
  cases hp:(at' l k).ok with
  |false=>exact .inr ⟨k,by simp,Nat.le_refl _,by omega,hp,fun j h1 h2=>by omega⟩
  |true=>
   rw[if_pos rfl]
   rcases fp l n (k+1) with⟨h1,h2⟩| ⟨i,h1,h2,h3,h4,h5⟩
   ·refine .inl ⟨h1,fun j hj1 hj2=> ?_⟩
    rcases Nat.eq_or_lt_of_le hj1 with rfl|h
    ·exact hp
    ·exact h2 j h (by omega)
   ·refine .inr ⟨i,h1,by omega,by omega,h4,fun j hj1 hj2=> ?_⟩
    rcases Nat.eq_or_lt_of_le hj1 with rfl|h
    ·exact hp
    ·exact h5 j h hj2

theorem jy(l:List Sl):∀i,(upS l i= -1∧∀j,j<i→(at' l j).ok=true)∨∃k:Nat,upS l i=k∧k<i∧(at' l k).ok=false∧∀j,k<j→j<i→(at' l j).ok=true
 |0=> .inl ⟨rfl,fun j h=>absurd h (Nat.not_lt_zero _)⟩
 |i+1=>by
  unfold upS
  cases hp:(at' l i).ok with
  |false=>exact .inr ⟨i,by simp,Nat.lt_succ_self _,hp,fun j h1 h2=>by omega⟩
  |true=>
   rw[if_pos rfl]
   rcases jy l i with⟨h1,h2⟩| ⟨k,h1,h2,h3,h4⟩
   ·refine .inl ⟨h1,fun j hj=> ?_⟩
    rcases Nat.lt_or_ge j i with h|h
    ·exact h2 j h
    ·obtain rfl:j=i:=by omega
     exact hp
   ·refine .inr ⟨k,h1,by omega,h3,fun j hj1 hj2=> ?_⟩
    rcases Nat.lt_or_ge j i with h|h
    ·exact h4 j hj1 h
    ·obtain rfl:j=i:=by omega
     exact hp

def inG(l:List Sl)(n:Int):Int:=geS l (gtS l n-gfS l n) (gfS l n)
def dnG(l:List Sl)(n:Int):Int:=geS l (l.length-gtS l n) (gtS l n)
def upG(l:List Sl)(n:Int):Int:=upS l (gfS l n)
def bel(l:List Sl)(x:En):List Wr:=zh l (gtS l x.len) x (dnG l x.len).toNat
def abo(l:List Sl)(x:En):List Wr:=zp l (gfS l x.len-1) x (upG l x.len).toNat

def inO(l:List Sl)(x:En):List Wr:=
 if inG l x.len<0 then
  if dnG l x.len<0 then (if upG l x.len<0 then [] else abo l x)
  else if 0≤upG l x.len∧(abo l x).length< (bel l x).length then abo l x else bel l x
 else [⟨inG l x.len,⟨true,x⟩⟩]
def inW(l:List Sl)(x:En):List Wr:=if rtE x&&kpS l then inO l x else []
def inE(l:List Sl)(x:En):Int:=if rtE x then (if kpS l then (if inG l x.len<0∧dnG l x.len<0∧upG l x.len<0 then 3 else 0) else 7) else 1

theorem Jv{l:List Sl}{x:En}:inG l x.len<0∧dnG l x.len<0∧upG l x.len<0→inO l x=[]:=fun⟨h1,h2,h3⟩=>by
 unfold inO
 rw[if_pos h1,if_pos h2,if_pos h3]

theorem BS{l:List Sl}(h:∀j,j<l.length→(at' l j).ok=true):(ensS l).length=l.length:=by
 unfold ensS
 rw[List.length_map]
 congr 1
 refine List.filter_eq_self.2 fun x hx=> ?_
 obtain⟨j,hj,rfl⟩:=fi hx
 exact h j hj

theorem rn{l:List Sl}(h:(ensS l).length=l.length):∀j,j<l.length→(at' l j).ok=true:=fun j hj=>by
 unfold ensS at h
 rw[List.length_map] at h
 have:=List.filter_eq_self.1 (List.Sublist.eq_of_length List.filter_sublist h) (at' l j) (fb hj)
 exact this

theorem Bz(l:List Sl)(n:Int)(hk:KpS l):(inG l n<0∧dnG l n<0∧upG l n<0)↔(ensS l).length=l.length:=by
 obtain⟨f1,_,_⟩:=kq l n
 obtain⟨t1,_,_⟩:=io l n
 have hle:=yJ hk n
 constructor
 ·rintro⟨h1,h2,h3⟩
  refine BS fun j hj=> ?_
  rcases fp l (gtS l n-gfS l n) (gfS l n) with⟨_,a⟩| ⟨i,e,_⟩
  ·rcases fp l (l.length-gtS l n) (gtS l n) with⟨_,b⟩| ⟨i,e,_⟩
   ·rcases jy l (gfS l n) with⟨_,c⟩| ⟨i,e,_⟩
    ·rcases Nat.lt_or_ge j (gfS l n) with h|h
     ·exact c j h
     ·rcases Nat.lt_or_ge j (gtS l n) with h'|h'
      ·exact a j h (by omega)
      ·exact b j h' (by omega)
    ·unfold upG at h3;omega
   ·unfold dnG at h2;omega
  ·unfold inG at h1;omega
 ·intro h
  have ha:=rn h
  refine⟨?_, ?_, ?_⟩
  ·rcases fp l (gtS l n-gfS l n) (gfS l n) with⟨e,_⟩| ⟨i,e,h1,h2,h3,_⟩
   ·unfold inG;omega
   ·rw[ha i (by omega)] at h3;cases h3
  ·rcases fp l (l.length-gtS l n) (gtS l n) with⟨e,_⟩| ⟨i,e,h1,h2,h3,_⟩
   ·unfold dnG;omega
   ·rw[ha i (by omega)] at h3;cases h3
  ·rcases jy l (gfS l n) with⟨e,_⟩| ⟨i,e,h1,h3,_⟩
   ·unfold upG;omega
   ·rw[ha i (by omega)] at h3;cases h3

theorem Fg{n:Int}{x:Sl}(h:x.ok=false):loS n x=false:=by unfold loS;rw[h];rfl
theorem ER{n:Int}{x:Sl}(h:x.ok=false):shS n x=false:=by unfold shS;rw[h];rfl

theorem Jn{l:List Sl}(hk:KpS l):orE (ensS l)=true:=by
 have key:∀m:List Sl,m.Sublist l→(ensS m).Pairwise fun x y=>y.len≤x.len:=by
  have hp:l.Pairwise fun x y=>brS x y=false:=by
   rw[List.pairwise_iff_getElem]
   intro i j hi hj hij
   have:=hk j hj i hij
   rwa [fx hi,fx hj] at this
  intro m hm
  have hpm:=hp.sublist hm
  unfold ensS
  rw[List.pairwise_map]
  refine List.Pairwise.imp_of_mem ?_ (hpm.filter Sl.ok)
  intro x y hx hy h
  have hx:=(List.mem_filter.1 hx).2
  have hy:=(List.mem_filter.1 hy).2
  unfold brS at h
  rw[hx,hy,Bool.and_self,Bool.true_and,decide_eq_false_iff_not] at h
  omega
 have hp:=key l (List.Sublist.refl _)
 rw[pt]
 intro i hi k hk2 hik
 rw[List.pairwise_iff_getElem] at hp
 have:=hp i k hi hk2 hik
 unfold abE
 rw[fx hi,fx hk2,decide_eq_false (by omega),Bool.false_and]

end Go.Sx.M
end

section
namespace Go.Sx.M

def afS(x:En)(s:Sl):Bool:=s.ok&&abE x s.e
def bfS(x:En)(s:Sl):Bool:=s.ok&&abE s.e x

theorem F4{x:En}{s:Sl}(h:s.ok=false):afS x s=false:=by unfold afS;rw[h];rfl
theorem FT{x:En}{s:Sl}(h:s.ok=false):bfS x s=false:=by unfold bfS;rw[h];rfl

def gpP(l:List Sl)(p:Sl→Bool):Nat→Nat
 |0=>0
 |i+1=>if p (at' l i) then i+1 else gpP l p i
def gpQ(l:List Sl)(p:Sl→Bool):Nat→Nat
 |0=>l.length
 |d+1=>if p (at' l (l.length-1-d)) then l.length-1-d else gpQ l p d
def gfC(l:List Sl)(x:En):Nat:=gpP l (bfS x) l.length
def gtC(l:List Sl)(x:En):Nat:=gpQ l (afS x) l.length

theorem lf(l:List Sl)(p:Sl→Bool):∀i,gpP l p i≤i∧(∀j,gpP l p i≤j→j<i→p (at' l j)=false)∧(gpP l p i=0∨p (at' l (gpP l p i-1))=true)
 |0=>⟨Nat.le_refl _,fun _ _ h2=>absurd h2 (Nat.not_lt_zero _), .inl rfl⟩
 |i+1=>by
  unfold gpP
  cases h:p (at' l i) with
  |true=>exact⟨Nat.le_refl _,fun j h1 h2=>absurd h2 (Nat.not_lt.2 h1), .inr h⟩
  |false=>
   rw[if_neg (by simp)]
   obtain⟨h1,h2,h3⟩:=lf l p i
   refine⟨by omega,fun j hj1 hj2=> ?_,h3⟩
   rcases Nat.lt_or_ge j i with hj|hj
   ·exact h2 j hj1 hj
   ·obtain rfl:j=i:=by omega
    exact h

theorem ld(l:List Sl)(p:Sl→Bool):∀d,d≤l.length→l.length-d≤gpQ l p d∧gpQ l p d≤l.length∧(∀j,l.length-d≤j→j<gpQ l p d→p (at' l j)=false)∧(gpQ l p d=l.length∨p (at' l (gpQ l p d))=true)
 |0,_=>⟨Nat.le_refl _,Nat.le_refl _,fun _ h1 h2=>absurd h2 (Nat.not_lt.2 h1), .inl rfl⟩
 |d+1,hd=>by
  unfold gpQ
  cases h:p (at' l (l.length-1-d)) with
  |true=>exact⟨by rw[if_pos rfl];omega,by rw[if_pos rfl];omega,fun j h1 h2=>by rw[if_pos rfl] at h2;omega, .inr (by rw[if_pos rfl];exact h)⟩
  |false=>
   rw[if_neg (by simp)]
   obtain⟨h1,h2,h3,h4⟩:=ld l p d (by omega)
   refine⟨by omega,h2,fun j hj1 hj2=> ?_,h4⟩
   rcases Nat.lt_or_ge j (l.length-d) with hj|hj
   ·obtain rfl:j=l.length-1-d:=by omega
    exact h
   ·exact h3 j hj hj2

theorem iq(l:List Sl)(x:En):gfC l x≤l.length∧(∀j,gfC l x≤j→j<l.length→bfS x (at' l j)=false)∧(gfC l x=0∨bfS x (at' l (gfC l x-1))=true):=lf l (bfS x) l.length
theorem iU(l:List Sl)(x:En):gtC l x≤l.length∧(∀j,j<gtC l x→afS x (at' l j)=false)∧(gtC l x=l.length∨afS x (at' l (gtC l x))=true):=by
 obtain⟨_,h2,h3,h4⟩:=ld l (afS x) l.length (Nat.le_refl _)
 exact⟨h2,fun j hj=>h3 j (by omega) hj,h4⟩

def OrS(l:List Sl):Prop:=∀i,i<l.length→∀k,k<i→((at' l k).ok&&(at' l i).ok&&abE (at' l i).e (at' l k).e)=false

theorem xR{l:List Sl}:orE (ensS l)=true↔OrS l:=by
 have h1:orE (ensS l)=true↔(ensS l).Pairwise fun x y=>abE y x=false:=by
  rw[pt,List.pairwise_iff_getElem]
  constructor
  ·intro h i j hi hj hij
   have:=h i hi j hj hij
   rwa [fx hi,fx hj] at this
  ·intro h i hi k hk hik
   have:=h i k hi hk hik
   rwa [fx hi,fx hk]
 rw[h1]
 unfold ensS
 rw[List.pairwise_map,List.pairwise_filter,List.pairwise_iff_getElem]
 constructor
 ·intro h i hi k hk
  have:=h k i (by omega) hi hk
  rw[fx hi,fx (show k<l.length by omega)]
  cases h1:l[k].ok with
  |false=>rfl
  |true=>
   cases h2:l[i].ok with
   |false=>rfl
   |true=>exact this h1 h2
 ·intro h i j hi hj hij h1 h2
  have:=h j hj i hij
  rw[fx hi,fx hj,h1,h2] at this
  exact this

def PfE(x:En):Prop:=∀k:Nat,k<128→eH x.m x.n k=decide ((k:Int)<x.len)

theorem tn{x y z:En}(hy:PfE y)(hz:PfE z)(h1:abE x y=true)(h2:abE y z=true):abE x z=true:=by
 unfold abE at h1 h2⊢
 rw[Bool.and_eq_true,decide_eq_true_eq] at h1 h2⊢
 refine⟨by omega, ?_⟩
 have a1:=gI.1 h1.2
 have a2:=gI.1 h2.2
 refine gI.2 fun k hk b1 b2=> ?_
 have b3:eH y.m y.n k=true:=by
  rw[hz k hk,decide_eq_true_eq] at b2
  rw[hy k hk,decide_eq_true_eq]
  omega
 exact (a1 k hk b1 b3).trans (a2 k hk b3 b2)

theorem LT{l:List Sl}(hk:OrS l){x:En}(hx:PfE x)(hl:∀j,j<l.length→(at' l j).ok=true→PfE (at' l j).e):gfC l x≤gtC l x:=by
 obtain⟨h1,_,h3⟩:=iq l x
 obtain⟨g1,_,g3⟩:=iU l x
 refine Nat.le_of_not_lt fun hlt=> ?_
 have h3:=h3.resolve_left (by omega)
 have g3:=g3.resolve_left (by omega)
 unfold bfS at h3
 unfold afS at g3
 rw[Bool.and_eq_true] at h3 g3
 have hT:=tn hx (hl _ (by omega) g3.1) h3.2 g3.2
 rcases Nat.lt_or_ge (gtC l x) (gfC l x-1) with h|h
 ·have:=hk (gfC l x-1) (by omega) _ h
  rw[h3.1,g3.1,hT] at this
  cases this
 ·have e:gtC l x=gfC l x-1:=by omega
  rw[e] at hT
  unfold abE at hT
  rw[Bool.and_eq_true,decide_eq_true_eq] at hT
  omega

def enW(l:List Sl)(x:En):List Nat→Nat→List Wr
 | [],k=>[⟨k,⟨true,x⟩⟩]
 |j::r,k=>⟨k,at' l j⟩::enW l x r j

theorem hX(l:List Sl)(x:En):∀r k,(enW l x r k).length=r.length+1
 | [],_=>rfl
 |_::r,_=>congrArg (· +1) (hX l x r _)

def bwC(l:List Sl)(x:En):Nat→Nat→List Nat→List Wr
 |0,_,_=>[]
 |f+1,a,r=>
  let i:=l.length-1-f
  if i=a then (if (at' l i).ok then bwC l x f (gpQ l (afS (at' l i).e) f) (i::r) else enW l x (i::r) i)
  else (if (at' l i).ok then bwC l x f a r else enW l x r i)

def avC(l:List Sl)(x:En):Nat→Nat→List Nat→List Wr
 |0,_,_=>[]
 |i+1,a,r=>
  if i+1=a then (if (at' l i).ok then avC l x i (gpP l (bfS (at' l i).e) i) (i::r) else enW l x (i::r) i)
  else (if (at' l i).ok then avC l x i a r else enW l x r i)

def qP(l:List Sl)(x:En):List Wr:=bwC l x (l.length-gtC l x) (gtC l x) []
def qS(l:List Sl)(x:En):List Wr:=avC l x (gfC l x) (gfC l x) []

theorem zc(l:List Sl)(x:En):∀f a r,(bwC l x f a r).length≤f+r.length+1
 |0,_,_=>Nat.zero_le _
 |f+1,a,r=>by
  unfold bwC
  dsimp only
  split
  ·split
   ·exact Nat.le_trans (zc l x f _ _) (by rw[List.length_cons];omega)
   ·rw[hX,List.length_cons];omega
  ·split
   ·exact Nat.le_trans (zc l x f _ _) (by omega)
   ·rw[hX];omega

theorem zj(l:List Sl)(x:En):∀i a r,(avC l x i a r).length≤i+r.length+1
 |0,_,_=>Nat.zero_le _
 |i+1,a,r=>by
  unfold avC
  split
  ·split
   ·exact Nat.le_trans (zj l x i _ _) (by rw[List.length_cons];omega)
   ·rw[hX,List.length_cons];omega
  ·split
   ·exact Nat.le_trans (zj l x i _ _) (by omega)
   ·rw[hX];omega

theorem Cn(l:List Sl)(x:En):∀f a r,f≤l.length→((bwC l x f a r).length=0↔∀j,l.length-f≤j→j<l.length→(at' l j).ok=true)
 |0,_,_,_=>⟨fun _ j h1 h2=>absurd h2 (Nat.not_lt.2 h1),fun _=>rfl⟩
 |f+1,a,r,hf=>by
  have go:∀a r,((at' l (l.length-1-f)).ok=true)→((bwC l x f a r).length=0↔∀j,l.length-(f+1)≤j→j<l.length→(at' l j).ok=true):=fun a r h=>by
   rw[Cn l x f a r (by omega)]
   constructor
   ·intro g j h1 h2
    rcases Nat.lt_or_ge j (l.length-f) with hj|hj
    ·obtain rfl:j=l.length-1-f:=by omega
     exact h
    ·exact g j hj h2
   ·exact fun g j h1 h2=>g j (by omega) h2
  have no:∀r k,(at' l (l.length-1-f)).ok≠true→((enW l x r k).length=0↔∀j,l.length-(f+1)≤j→j<l.length→(at' l j).ok=true):=fun r k h=>by
   rw[hX]
   exact⟨fun e=>absurd e (Nat.succ_ne_zero _),fun g=>absurd (g _ (by omega) (by omega)) h⟩
  unfold bwC
  dsimp only
  split
  ·split
   ·rename_i h;exact go _ _ h
   ·rename_i h;exact no _ _ h
  ·split
   ·rename_i h;exact go _ _ h
   ·rename_i h;exact no _ _ h

theorem uN(l:List Sl)(x:En):∀i a r,((avC l x i a r).length=0↔∀j,j<i→(at' l j).ok=true)
 |0,_,_=>⟨fun _ j h=>absurd h (Nat.not_lt_zero _),fun _=>rfl⟩
 |i+1,a,r=>by
  have go:∀a r,((at' l i).ok=true)→((avC l x i a r).length=0↔∀j,j<i+1→(at' l j).ok=true):=fun a r h=>by
   rw[uN l x i a r]
   constructor
   ·intro g j h1
    rcases Nat.lt_or_ge j i with hj|hj
    ·exact g j hj
    ·obtain rfl:j=i:=by omega
     exact h
   ·exact fun g j h1=>g j (by omega)
  have no:∀r k,(at' l i).ok≠true→((enW l x r k).length=0↔∀j,j<i+1→(at' l j).ok=true):=fun r k h=>by
   rw[hX]
   exact⟨fun e=>absurd e (Nat.succ_ne_zero _),fun g=>absurd (g _ (by omega)) h⟩
  unfold avC
  split
  ·split
   ·rename_i h;exact go _ _ h
   ·rename_i h;exact no _ _ h
  ·split
   ·rename_i h;exact go _ _ h
   ·rename_i h;exact no _ _ h

def inC(l:List Sl)(x:En):Int:=geS l (gtC l x-gfC l x) (gfC l x)

def oC(l:List Sl)(x:En):List Wr:=
 if inC l x<0 then
  if (qP l x).length=0∨0< (qS l x).length∧(qS l x).length< (qP l x).length then qS l x else qP l x
 else [⟨inC l x,⟨true,x⟩⟩]
def okC(l:List Sl)(x:En):Bool:=orE (ensS l)&&decide (gfC l x≤gtC l x)
def wC(l:List Sl)(x:En):List Wr:=if rtE x&&okC l x then oC l x else []
def eC(l:List Sl)(x:En):Int:=if rtE x then (if okC l x then (if (oC l x).length=0 then 3 else 0) else 7) else 1

theorem Ny(l:List Sl)(x:En):(wC l x).length≤l.length+1:=by
 have h1:=(iq l x).1
 have h2:=zc l x (l.length-gtC l x) (gtC l x) []
 have h3:=zj l x (gfC l x) (gfC l x) []
 rw[List.length_nil] at h2 h3
 unfold wC
 split
 ·unfold oC
  split
  ·split
   ·unfold qS;omega
   ·unfold qP;omega
  ·exact Nat.le_add_left 1 _
 ·exact Nat.zero_le _

theorem Lt{l:List Sl}{x:En}(hle:gfC l x≤gtC l x):(oC l x).length=0↔(ensS l).length=l.length:=by
 obtain⟨f1,_,_⟩:=iq l x
 obtain⟨t1,_,_⟩:=iU l x
 have hb:=Cn l x (l.length-gtC l x) (gtC l x) [] (Nat.sub_le _ _)
 have ha:=uN l x (gfC l x) (gfC l x) []
 unfold oC
 constructor
 ·intro h
  refine BS fun j hj=> ?_
  split at h
  ·rename_i hi
   have e1:(qP l x).length=0:=by
    split at h
    ·rename_i h'
     rcases h' with h'|h'
     ·exact h'
     ·omega
    ·exact h
   have e2:(qS l x).length=0:=by
    rw[if_pos (.inl e1)] at h
    exact h
   rcases Nat.lt_or_ge j (gfC l x) with h1|h1
   ·exact ha.1 e2 j h1
   ·rcases Nat.lt_or_ge j (gtC l x) with h2|h2
    ·rcases fp l (gtC l x-gfC l x) (gfC l x) with⟨_,a⟩| ⟨i,e,_⟩
     ·exact a j h1 (by omega)
     ·unfold inC at hi;omega
    ·exact hb.1 e1 j (by omega) hj
  ·cases h
 ·intro h
  have hv:=rn h
  have e1:(qP l x).length=0:=hb.2 fun j _ h2=>hv j h2
  have e2:(qS l x).length=0:=ha.2 fun j h1=>hv j (by omega)
  have e3:inC l x<0:=by
   unfold inC
   rcases fp l (gtC l x-gfC l x) (gfC l x) with⟨e,_⟩| ⟨i,e,h1,h2,h3,_⟩
   ·omega
   ·rw[hv i (by omega)] at h3;cases h3
  rw[if_pos e3,if_pos (.inl e1)]
  exact e2

end Go.Sx.M
end

section
namespace Go.Sx.M

theorem AL{l:List Sl}:kpS l=true↔∀j,j+1< (ensS l).length→(at' (ensS l) (j+1)).len≤(at' (ensS l) j).len:=by
 have hp:KpS l↔(ensS l).Pairwise fun x y=>y.len≤x.len:=by
  unfold ensS
  rw[List.pairwise_map,List.pairwise_filter,List.pairwise_iff_getElem]
  constructor
  ·intro h i j hi hj hij h1 h2
   have:=h j hj i hij
   rw[fx hi,fx hj] at this
   unfold brS at this
   rw[h1,h2,Bool.and_self,Bool.true_and,decide_eq_false_iff_not] at this
   omega
  ·intro h i hi j hij
   have:=h j i (by omega) hi hij
   rw[fx hi,fx (show j<l.length from by omega)]
   unfold brS
   cases h1:(l[i]).ok with
   |false=>rfl
   |true=>
    cases h2:(l[j]'(by omega)).ok with
    |false=>simp
    |true=>
     have:=this h2 h1
     simp only[Bool.and_self,Bool.true_and,decide_eq_false_iff_not]
     omega
 rw[nQ,hp]
 generalize ensS l=E
 rw[List.pairwise_iff_getElem]
 constructor
 ·intro h j hj
  rw[fx hj,fx (show j<E.length from by omega)]
  exact h j (j+1) (by omega) hj (Nat.lt_succ_self j)
 ·intro h i j hi hj hij
  rw[←fx hi,←fx hj]
  obtain⟨d,rfl⟩:∃d,j=i+1+d:=⟨j-i-1,by omega⟩
  clear hij
  induction d with
  |zero=>exact h i hj
  |succ d ih=>
   have:=ih (by omega)
   have h2:=h (i+1+d) (by omega)
   rw[show i+1+d+1=i+1+(d+1) from by omega] at h2
   omega

theorem tw{l:List Sl}(hk:KpS l){i j:Nat}(hij:i≤j)(hj:j<l.length)(h1:(at' l i).ok=true)(h2:(at' l j).ok=true):(at' l j).e.len≤(at' l i).e.len:=by
 rcases Nat.eq_or_lt_of_le hij with rfl|h
 ·exact Int.le_refl _
 ·have:=hk j hj i h
  unfold brS at this
  rw[h1,h2,Bool.and_self,Bool.true_and,decide_eq_false_iff_not] at this
  omega

theorem P6{l:List Sl}{n:Int}{k:Nat}(hk:k≤l.length)(h:∀j,k≤j→j<l.length→loS n (at' l j)=false):gfS l n=gpF l n k:=by
 unfold gfS
 obtain⟨d,hd⟩:∃d,l.length=k+d:=⟨l.length-k,by omega⟩
 rw[hd] at h⊢
 clear hd hk
 induction d with
 |zero=>rfl
 |succ d ih=>
  show (if loS n (at' l (k+d)) then k+d+1 else gpF l n (k+d))=gpF l n k
  rw[h (k+d) (by omega) (by omega)]
  exact ih fun j h1 h2=>h j h1 (by omega)

theorem P4{l:List Sl}{n:Int}{k:Nat}(hs:shS n (at' l k)=true)(h:∀j,j<k→shS n (at' l j)=false):gtS l n=k:=by
 obtain⟨h1,h2,h3⟩:=io l n
 rcases Nat.lt_trichotomy (gtS l n) k with hlt|e|hgt
 ·rcases h3 with e|e
  ·have:(at' l k).ok=true:=by unfold shS at hs;rw[Bool.and_eq_true] at hs;exact hs.1
   have hk:k<l.length:=Nat.lt_of_not_le fun hle=>by
    unfold at' at this
    rw[List.getD_eq_getElem?_getD,List.getElem?_eq_none hle] at this
    cases this
   omega
  ·rw[h _ hlt] at e;cases e
 ·exact e
 ·rw[h2 k hgt] at hs;cases hs

theorem Ou{l:List Sl}{n:Int}(h:∀j,j<l.length→shS n (at' l j)=false):gtS l n=l.length:=by
 obtain⟨h1,h2,h3⟩:=io l n
 rcases h3 with e|e
 ·exact e
 ·rcases Nat.lt_or_ge (gtS l n) l.length with hlt|hge
  ·rw[h _ hlt] at e;cases e
  ·omega

theorem GW{l:List Sl}(hk:KpS l){n:Int}{k:Nat}(hs:shS n (at' l k)=true):∀j,k≤j→j<l.length→loS n (at' l j)=false:=fun j h1 h2=>by
 unfold shS at hs
 rw[Bool.and_eq_true,decide_eq_true_eq] at hs
 unfold loS
 cases hj:(at' l j).ok with
 |false=>rfl
 |true=>
  have:=tw hk h1 h2 hs.1 hj
  rw[Bool.true_and,decide_eq_false_iff_not]
  omega

theorem qc{l:List Sl}{f k j:Nat}(hj:j<k):at' ((l.drop f).take k) j=at' l (f+j):=by
 unfold at'
 rw[List.getD_eq_getElem?_getD,List.getD_eq_getElem?_getD,List.getElem?_take,if_pos hj,List.getElem?_drop]

theorem gN{l:List Sl}{f k:Nat}(h:f+k≤l.length):((l.drop f).take k).length=k:=by
 rw[List.length_take,List.length_drop];omega

theorem Fu{l:List Sl}{f k:Nat}:geS ((l.drop f).take k) k 0=if 0≤geS l k f then geS l k f-f else-1:=by
 rcases fp l k f with⟨h1,h2⟩| ⟨i,h1,h2,h3,h4,h5⟩
 ·rw[h1,if_neg (by omega)]
  rcases fp ((l.drop f).take k) k 0 with⟨g1,_⟩| ⟨j,_,_,g2,g3,_⟩
  ·exact g1
  ·rw[qc (by omega),h2 _ (by omega) (by omega)] at g3;cases g3
 ·rw[h1,if_pos (by omega)]
  rcases fp ((l.drop f).take k) k 0 with⟨_,g1⟩| ⟨j,g0,_,g2,g3,g4⟩
  ·have:=g1 (i-f) (by omega) (by omega)
   rw[qc (by omega),show f+(i-f)=i from by omega,h4] at this;cases this
  ·rw[g0]
   rw[qc (by omega)] at g3
   rcases Nat.lt_trichotomy (f+j) i with h|h|h
   ·rw[h5 _ (by omega) h] at g3;cases g3
   ·omega
   ·have:=g4 (i-f) (by omega) (by omega)
    rw[qc (by omega),show f+(i-f)=i from by omega,h4] at this;cases this

theorem EM{l:List Sl}{k:Nat}:∀i,i≤k→upS ((l.drop 0).take k) i=upS l i
 |0,_=>rfl
 |i+1,h=>by
  rw[upS,upS,qc (by omega),EM i (by omega),Nat.zero_add]

def wgS(f:Nat→Int)(d:Nat):Nat→List Nat
 |0=>[d+1]
 |n+1=>if f (d+1)≠f (d+2) then (d+1)::wgS f (d+1) n else wgS f (d+1) n

theorem qg{f:Nat→Int}{m e:Nat}(hc:∀a b c,1≤a→a≤b→b≤c→c≤m→f a=f c→f b=f a)(he:e≤m):∀n d,m=d+n+1→d<e→f e=f (d+1)→(∀j,e<j→j≤m→f j≠f (d+1))→
  wgS f d n=e::(if e=m then [] else wgS f e (m-1-e))
 |0,d,hm,h1,_,_=>by
  obtain rfl:e=d+1:=by omega
  rw[wgS,if_pos (by omega)]
 |n+1,d,hm,h1,h2,h3=>by
  rw[wgS]
  by_cases h:f (d+1)=f (d+2)
  ·rw[if_neg (by rw[h];simp)]
   have hlt:d+1<e:=Nat.lt_of_not_le fun hle=>h3 (d+2) (by omega) (by omega) h.symm
   exact qg hc he n (d+1) (by omega) hlt (h2.trans h) fun j a b=>fun e'=>h3 j a b (e'.trans h.symm)
  ·rw[if_pos h]
   obtain rfl:e=d+1:=Nat.le_antisymm (Nat.le_of_not_lt fun hlt=>h (hc (d+1) (d+2) e (by omega) (by omega) (by omega) he h2.symm).symm) (by omega)
   rw[if_neg (by omega),show m-1-(d+1)=n from by omega]

theorem oy(f:Nat→Int):∀n d,(wgS f d n).length≤n+1
 |0,d=>Nat.le_refl _
 |n+1,d=>by
  have:=oy f n (d+1)
  rw[wgS]
  split
  ·rw[List.length_cons];omega
  ·omega

theorem xb(f:Nat→Int):∀n d,∀e∈wgS f d n,d<e∧e≤d+n+1
 |0,d,e,h=>by
  rw[wgS,List.mem_singleton] at h;omega
 |n+1,d,e,h=>by
  rw[wgS] at h
  split at h
  ·rcases List.mem_cons.1 h with rfl|h
   ·omega
   ·have:=xb f n (d+1) e h;omega
  ·have:=xb f n (d+1) e h;omega

def wyF(l:List Sl)(t s:Int)(d:Nat):Int:=(at' l (t+s*d).toNat).e.len
def wyP(t s:Int)(d:Nat):Int:=t+s*d
def wyS(l:List Sl)(t s:Int)(d n:Nat):List Int:=(wgS (wyF l t s) d n).map (wyP t s)
def wyL(l:List Sl)(t s:Int)(n:Nat):List Int:=t::wyS l t s 0 n

def wwL(l:List Sl)(x:En):List Int→List Wr
 | []=>[]
 | [p]=>[⟨p,⟨true,x⟩⟩]
 |p::q::r=>⟨p,at' l q.toNat⟩::wwL l x (q::r)

theorem jw(l:List Sl)(x:En):∀w,(wwL l x w).length=w.length
 | []=>rfl
 | [p]=>rfl
 |p::q::r=>by rw[wwL,List.length_cons,List.length_cons,jw l x (q::r)]

theorem p9(l:List Sl)(p:Nat):∀d,0<d→d≤p→p-d≤blN l p d∧blN l p d<p∧(at' l (blN l p d)).e.len=(at' l (p-1)).e.len∧∀j,p-d≤j→j<blN l p d→(at' l j).e.len≠(at' l (p-1)).e.len
 |0,h,_=>absurd h (Nat.lt_irrefl _)
 |d+1,_,hp=>by
  unfold blN
  split
  ·rename_i h
   exact⟨by omega,by omega,h,fun j h1 h2=>by omega⟩
  ·rename_i h
   rcases Nat.eq_zero_or_pos d with rfl|hd
   ·exact absurd rfl h
   ·obtain⟨h1,h2,h3,h4⟩:=p9 l p d hd (by omega)
    refine⟨by omega,h2,h3,fun j a b=> ?_⟩
    rcases Nat.lt_or_ge j (p-d) with hj|hj
    ·obtain rfl:j=p-1-d:=by omega
     exact h
    ·exact h4 j hj b

theorem qf(l:List Sl)(p:Nat):∀d,0<d→p<abN l p d∧abN l p d≤p+d∧(at' l (abN l p d)).e.len=(at' l (p+1)).e.len∧∀j,abN l p d<j→j≤p+d→(at' l j).e.len≠(at' l (p+1)).e.len
 |0,h=>absurd h (Nat.lt_irrefl _)
 |d+1,_=>by
  unfold abN
  split
  ·rename_i h
   exact⟨by omega,by omega,h,fun j h1 h2=>by omega⟩
  ·rename_i h
   rcases Nat.eq_zero_or_pos d with rfl|hd
   ·exact absurd rfl h
   ·obtain⟨h1,h2,h3,h4⟩:=qf l p d hd
    refine⟨h1,by omega,h3,fun j a b=> ?_⟩
    rcases Nat.lt_or_ge (p+d) j with hj|hj
    ·obtain rfl:j=p+1+d:=by omega
     exact h
    ·exact h4 j a hj

theorem Mq{l:List Sl}{t:Nat}{x:En}{p:Nat}(hc:∀i j,t≤i→i≤j→j<p→(at' l j).e.len≤(at' l i).e.len):∀n d,p=t+d+n+1→zh l t x (p-d)=wwL l x (wyP p (-1) d::wyS l p (-1) d n):=by
 have eP:∀d,d≤p→wyP p (-1) d=((p-d:Nat):Int):=fun d h=>by unfold wyP;omega
 have eF:∀d,d≤p→wyF l p (-1) d=(at' l (p-d)).e.len:=fun d h=>by
  unfold wyF
  rw[show ((p:Int)+ -1*d).toNat=p-d from by omega]
 intro n
 induction n using Nat.strongRecOn with
 |_ n ih=>
  intro d hp
  obtain⟨h1,h2,h3,h4⟩:=p9 l (p-d) (p-d-t) (by omega) (by omega)
  have hq:=qO (l:=l) (t:=t) (x:=x) (p:=p-d) (by omega)
  rw[hq]
  generalize blN l (p-d) (p-d-t)=q at h1 h2 h3 h4
  obtain⟨e,he,hqe⟩:∃e,e≤p-t∧q=p-e:=⟨p-q,by omega,by omega⟩
  subst hqe
  have hde:d<e:=by omega
  have hf:=qg (f:=wyF l p (-1)) (m:=p-t) (e:=e) (fun a b c a1 a2 a3 a4 a5=>by
   rw[eF _ (by omega),eF _ (by omega)] at a5
   rw[eF _ (by omega),eF _ (by omega)]
   have b1:=hc (p-b) (p-a) (by omega) (by omega) (by omega)
   have b2:=hc (p-c) (p-b) (by omega) (by omega) (by omega)
   omega) he n d (by omega) hde (by rw[eF _ (by omega),eF _ (by omega),show p-(d+1)=p-d-1 from by omega];exact h3) fun j a b=>by
    rw[eF _ (by omega),eF _ (by omega),show p-(d+1)=p-d-1 from by omega]
    exact h4 (p-j) (by omega) (by omega)
  unfold wyS
  rw[hf,List.map_cons,wwL,eP d (by omega),eP e (by omega),Int.toNat_natCast]
  congr 1
  split
  ·rename_i em
   rw[uK (by omega)];rfl
  ·rename_i em
   have:=ih (p-t-1-e) (by omega) e (by omega)
   rw[this,eP e (by omega)];rfl

theorem My{l:List Sl}{t:Nat}{x:En}{p:Nat}(hc:∀i j,p<i→i≤j→j≤t→(at' l j).e.len≤(at' l i).e.len):∀n d,t=p+d+n+1→zp l t x (p+d)=wwL l x (wyP p 1 d::wyS l p 1 d n):=by
 have eP:∀d:Nat,wyP p 1 d=((p+d:Nat):Int):=fun d=>by unfold wyP;omega
 have eF:∀d:Nat,wyF l p 1 d=(at' l (p+d)).e.len:=fun d=>by
  unfold wyF
  rw[show ((p:Int)+1*d).toNat=p+d from by omega]
 intro n
 induction n using Nat.strongRecOn with
 |_ n ih=>
  intro d ht
  obtain⟨h1,h2,h3,h4⟩:=qf l (p+d) (t-(p+d)) (by omega)
  have hq:=qT (l:=l) (t:=t) (x:=x) (p:=p+d) (by omega)
  rw[hq]
  generalize abN l (p+d) (t-(p+d))=q at h1 h2 h3 h4
  obtain⟨e,hqe⟩:∃e,q=p+e:=⟨q-p,by omega⟩
  subst hqe
  have hde:d<e:=by omega
  have hf:=qg (f:=wyF l p 1) (m:=t-p) (e:=e) (fun a b c a1 a2 a3 a4 a5=>by
   rw[eF,eF] at a5
   rw[eF,eF]
   have b1:=hc (p+a) (p+b) (by omega) (by omega) (by omega)
   have b2:=hc (p+b) (p+c) (by omega) (by omega) (by omega)
   omega) (by omega) n d (by omega) hde (by rw[eF,eF,show p+(d+1)=p+d+1 from by omega];exact h3) fun j a b=>by
    rw[eF,eF,show p+(d+1)=p+d+1 from by omega]
    exact h4 (p+j) (by omega) (by omega)
  unfold wyS
  rw[hf,List.map_cons,wwL,eP d,eP e,Int.toNat_natCast]
  congr 1
  split
  ·rename_i em
   rw[uR (by omega)];rfl
  ·rename_i em
   have:=ih (t-p-1-e) (by omega) e (by omega)
   rw[this,eP e];rfl

def wbL(l:List Sl)(n:Int):List Int:=wyL l (dnG l n) (-1) ((dnG l n).toNat-gtS l n-1)
def waL(l:List Sl)(n:Int):List Int:=wyL l (upG l n) 1 (gfS l n-1-(upG l n).toNat-1)
def wsL(l:List Sl)(n:Int):List Int:=
 if 0≤inG l n then [inG l n] else if dnG l n<0 then waL l n else if 0≤upG l n∧(waL l n).length< (wbL l n).length then waL l n else wbL l n

theorem ws{l:List Sl}{n:Int}(h:0≤dnG l n):∃p:Nat,dnG l n=p∧gtS l n<p∧p<l.length∧∀j,gtS l n≤j→j<p→(at' l j).ok=true:=by
 obtain⟨t1,_,t3⟩:=io l n
 unfold dnG at h⊢
 rcases fp l (l.length-gtS l n) (gtS l n) with⟨e,_⟩| ⟨i,e,h1,h2,h3,h4⟩
 ·omega
 ·refine⟨i,e,Nat.lt_of_le_of_ne h1 fun he=> ?_,by omega,h4⟩
  rcases t3 with t3|t3
  ·omega
  ·rw[he,ER h3] at t3;cases t3

theorem vF{l:List Sl}{n:Int}(h:0≤upG l n):∃p:Nat,upG l n=p∧p+1<gfS l n∧gfS l n≤l.length∧∀j,p<j→j<gfS l n→(at' l j).ok=true:=by
 obtain⟨f1,_,f3⟩:=kq l n
 unfold upG at h⊢
 rcases jy l (gfS l n) with⟨e,_⟩| ⟨i,e,h1,h3,h4⟩
 ·omega
 ·refine⟨i,e,Nat.lt_of_le_of_ne h1 fun he=> ?_,f1,h4⟩
  have f3:=f3.resolve_left (by omega)
  rw[show gfS l n-1=i from by omega,Fg h3] at f3;cases f3

theorem Nx{l:List Sl}(hk:KpS l){x:En}(h:0≤dnG l x.len):wwL l x (wbL l x.len)=bel l x:=by
 obtain⟨p,e,h1,h2,h3⟩:=ws h
 have:=Mq (l:=l) (t:=gtS l x.len) (x:=x) (p:=p) (fun i j a b c=>tw hk b (by omega) (h3 i a (by omega)) (h3 j (by omega) c)) (p-gtS l x.len-1) 0 (by omega)
 unfold wbL bel wyL
 rw[e,Int.toNat_natCast,show p=p-0 from rfl,this]
 unfold wyP
 simp

theorem HK{l:List Sl}(hk:KpS l){x:En}(h:0≤upG l x.len):wwL l x (waL l x.len)=abo l x:=by
 obtain⟨p,e,h1,h2,h3⟩:=vF h
 have:=My (l:=l) (t:=gfS l x.len-1) (x:=x) (p:=p) (fun i j a b c=>tw hk b (by omega) (h3 i a (by omega)) (h3 j (by omega) (by omega))) (gfS l x.len-1-p-1) 0 (by omega)
 unfold waL abo wyL
 rw[e,Int.toNat_natCast,show p=p+0 from rfl,this]
 unfold wyP
 simp

theorem Pc{l:List Sl}(hk:KpS l){x:En}(h:¬(inG l x.len<0∧dnG l x.len<0∧upG l x.len<0)):wwL l x (wsL l x.len)=inO l x:=by
 unfold wsL inO
 by_cases hi:inG l x.len<0
 ·rw[if_neg (by omega),if_pos hi]
  by_cases hd:dnG l x.len<0
  ·rw[if_pos hd,if_pos hd,if_neg (fun h3=>h ⟨hi,hd,h3⟩),HK hk (by omega)]
  ·rw[if_neg hd,if_neg hd]
   have eb:=Nx hk (x:=x) (by omega)
   by_cases hu:0≤upG l x.len
   ·have ea:=HK hk hu
    rw[←eb,←ea,jw,jw]
    split<;>rfl
   ·rw[if_neg (fun h=>hu h.1),if_neg (fun h=>hu h.1),eb]
 ·rw[if_pos (by omega),if_neg hi];rfl

end Go.Sx.M
end

section
namespace Go.Sx.M

def mvC(l:List Sl)(x:En):List Nat→Sl
 | []=>⟨true,x⟩
 |j::_=>at' l j
def wsC(l:List Sl)(x:En):List Nat→List Wr
 | []=>[]
 |j::r=>wsC l x r++[⟨j,mvC l x r⟩]

theorem jV(l:List Sl)(x:En):∀r,(wsC l x r).length=r.length
 | []=>rfl
 |j::r=>by unfold wsC;rw[List.length_append,jV l x r];rfl

theorem CI(l:List Sl)(x:En):∀r k,(wsC l x (k::r)).reverse=enW l x r k
 | [],k=>rfl
 |j::r,k=>by
  rw[wsC,List.reverse_append,CI l x r j];rfl

def bwS(l:List Sl)(x:En)(r:List Nat)(i:Nat):List Wr:=bwC l x (l.length-i) (gpQ l (afS (mvC l x r).e) (l.length-i)) r
def awS(l:List Sl)(x:En)(r:List Nat)(i:Nat):List Wr:=avC l x i (gpP l (bfS (mvC l x r).e) i) r

theorem OY(l:List Sl)(x:En)(r:List Nat):bwS l x r l.length=[]:=by
 unfold bwS
 rw[Nat.sub_self];rfl

theorem EB{l:List Sl}{x:En}{r:List Nat}{i:Nat}(h:i<l.length):bwS l x r i=
  if i=gpQ l (afS (mvC l x r).e) (l.length-i) then (if (at' l i).ok then bwS l x (i::r) (i+1) else enW l x (i::r) i)
  else (if (at' l i).ok then bwC l x (l.length-(i+1)) (gpQ l (afS (mvC l x r).e) (l.length-i)) r else enW l x r i):=by
 obtain⟨f,hf⟩:∃f,l.length-i=f+1:=⟨l.length-i-1,by omega⟩
 have e1:l.length-1-f=i:=by omega
 have e2:l.length-(i+1)=f:=by omega
 unfold bwS
 rw[e2,hf,bwC,e1]
 rfl

theorem zb{l:List Sl}{p:Sl→Bool}{i:Nat}(h:i<l.length):gpQ l p (l.length-i)=if p (at' l i) then i else gpQ l p (l.length-(i+1)):=by
 obtain⟨f,hf⟩:∃f,l.length-i=f+1:=⟨l.length-i-1,by omega⟩
 have e1:l.length-1-f=i:=by omega
 have e2:l.length-(i+1)=f:=by omega
 rw[e2,hf,gpQ,e1]

theorem Cm{l:List Sl}{p:Sl→Bool}{i:Nat}(h:i<l.length):i<gpQ l p (l.length-(i+1)):=by
 have:=(ld l p (l.length-(i+1)) (by omega)).1
 omega

theorem FQ{l:List Sl}{x:En}{r:List Nat}{i:Nat}(h:i<l.length)(ho:(at' l i).ok=true)(ha:abE (mvC l x r).e (at' l i).e=false):bwS l x r i=bwS l x r (i+1):=by
 have hs:afS (mvC l x r).e (at' l i)=false:=by unfold afS;rw[ho,ha];rfl
 have hg:=Cm (p:=afS (mvC l x r).e) h
 have he:gpQ l (afS (mvC l x r).e) (l.length-i)=gpQ l (afS (mvC l x r).e) (l.length-(i+1)):=by rw[zb h,hs];rfl
 rw[EB h,he,if_neg (by omega),if_pos ho];rfl

theorem FR{l:List Sl}{x:En}{r:List Nat}{i:Nat}(h:i<l.length)(ho:(at' l i).ok=false):bwS l x r i=(wsC l x (i::r)).reverse:=by
 have hs:afS (mvC l x r).e (at' l i)=false:=F4 ho
 have hg:=Cm (p:=afS (mvC l x r).e) h
 have he:gpQ l (afS (mvC l x r).e) (l.length-i)=gpQ l (afS (mvC l x r).e) (l.length-(i+1)):=by rw[zb h,hs];rfl
 rw[EB h,he,if_neg (by omega),ho,if_neg (by simp),CI]

theorem Mm{l:List Sl}{x:En}{r:List Nat}{i:Nat}(h:i<l.length)(ho:(at' l i).ok=true)(ha:abE (mvC l x r).e (at' l i).e=true):bwS l x r i=bwS l x (i::r) (i+1):=by
 have hs:afS (mvC l x r).e (at' l i)=true:=by unfold afS;rw[ho,ha];rfl
 have he:gpQ l (afS (mvC l x r).e) (l.length-i)=i:=by rw[zb h,hs];rfl
 rw[EB h,he,if_pos rfl,if_pos ho]

theorem uC{l:List Sl}{x:En}{r:List Nat}{i:Nat}:∀d,i+d≤l.length→(∀j,i≤j→j<i+d→(at' l j).ok=true∧abE (mvC l x r).e (at' l j).e=false)→bwS l x r i=bwS l x r (i+d)
 |0,_,_=>rfl
 |d+1,hd,hj=>by
  rw[uC d (by omega) fun j h1 h2=>hj j h1 (by omega)]
  obtain⟨h1,h2⟩:=hj (i+d) (by omega) (by omega)
  exact FQ (by omega) h1 h2

theorem O0(l:List Sl)(x:En)(r:List Nat):awS l x r 0=[]:=rfl

theorem FZ{l:List Sl}{x:En}{r:List Nat}{i:Nat}(ho:(at' l i).ok=true)(ha:abE (at' l i).e (mvC l x r).e=false):awS l x r (i+1)=awS l x r i:=by
 have hs:bfS (mvC l x r).e (at' l i)=false:=by unfold bfS;rw[ho,ha];rfl
 have hg:=(lf l (bfS (mvC l x r).e) i).1
 unfold awS
 rw[gpP,hs,if_neg (by simp),avC,if_neg (by omega),if_pos ho]

theorem Mv{l:List Sl}{x:En}{r:List Nat}{i:Nat}(ho:(at' l i).ok=false):awS l x r (i+1)=(wsC l x (i::r)).reverse:=by
 have hs:bfS (mvC l x r).e (at' l i)=false:=FT ho
 have hg:=(lf l (bfS (mvC l x r).e) i).1
 unfold awS
 rw[gpP,hs,if_neg (by simp),avC,if_neg (by omega),ho,if_neg (by simp),CI]

theorem Mu{l:List Sl}{x:En}{r:List Nat}{i:Nat}(ho:(at' l i).ok=true)(ha:abE (at' l i).e (mvC l x r).e=true):awS l x r (i+1)=awS l x (i::r) i:=by
 have hs:bfS (mvC l x r).e (at' l i)=true:=by unfold bfS;rw[ho,ha];rfl
 unfold awS
 rw[gpP,hs,if_pos rfl,avC,if_pos rfl,if_pos ho];rfl

theorem Cx{l:List Sl}{x:En}{r:List Nat}{i:Nat}:∀d,(∀j,i≤j→j<i+d→(at' l j).ok=true∧abE (at' l j).e (mvC l x r).e=false)→awS l x r (i+d)=awS l x r i
 |0,_=>rfl
 |d+1,hj=>by
  obtain⟨h1,h2⟩:=hj (i+d) (by omega) (by omega)
  rw[show i+(d+1)=i+d+1 from rfl,FZ h1 h2,Cx d fun j h1 h2=>hj j h1 (by omega)]

def blP(l:List Sl)(x:En):List Wr:=bwS l x [] (gfC l x)
def avP(l:List Sl)(x:En):List Wr:=awS l x [] (gtC l x)

theorem wh{l:List Sl}{p:Sl→Bool}{i:Nat}:∀d,i+d≤l.length→(∀j,i≤j→j<i+d→p (at' l j)=false)→gpQ l p (l.length-i)=gpQ l p (l.length-(i+d))
 |0,_,_=>rfl
 |d+1,hd,hj=>by
  rw[wh d (by omega) fun j h1 h2=>hj j h1 (by omega),zb (show i+d<l.length by omega),hj (i+d) (by omega) (by omega)]
  rfl

theorem wi{l:List Sl}{p:Sl→Bool}{i:Nat}:∀d,(∀j,i≤j→j<i+d→p (at' l j)=false)→gpP l p (i+d)=gpP l p i
 |0,_=>rfl
 |d+1,hj=>by
  rw[show i+(d+1)=i+d+1 from rfl,gpP,hj (i+d) (by omega) (by omega),if_neg (by simp),wi d fun j h1 h2=>hj j h1 (by omega)]

def gpM(l:List Sl)(p:Sl→Bool):Nat→Nat
 |0=>l.length
 |i+1=>if p (at' l i) then (if i<gpM l p i then i else gpM l p i) else gpM l p i

theorem tG(l:List Sl)(p:Sl→Bool):∀i,i≤l.length→(gpM l p i=l.length∧∀j,j<i→p (at' l j)=false)∨(gpM l p i<i∧p (at' l (gpM l p i))=true∧∀j,j<gpM l p i→p (at' l j)=false)
 |0,_=> .inl ⟨rfl,fun j h=>absurd h (Nat.not_lt_zero _)⟩
 |i+1,hi=>by
  unfold gpM
  cases h:p (at' l i) with
  |true=>
   rw[if_pos rfl]
   rcases tG l p i (by omega) with⟨a,b⟩| ⟨a,b,c⟩
   ·rw[if_pos (by omega)]
    exact .inr ⟨by omega,h,fun j hj=>b j hj⟩
   ·rw[if_neg (by omega)]
    exact .inr ⟨by omega,b,c⟩
  |false=>
   rw[if_neg (by simp)]
   rcases tG l p i (by omega) with⟨a,b⟩| ⟨a,b,c⟩
   ·refine .inl ⟨a,fun j hj=> ?_⟩
    rcases Nat.lt_or_ge j i with h1|h1
    ·exact b j h1
    ·obtain rfl:j=i:=by omega
     exact h
   ·exact .inr ⟨by omega,b,c⟩

theorem LN(l:List Sl)(p:Sl→Bool):gpM l p l.length=gpQ l p l.length:=by
 obtain⟨_,h2,h3,h4⟩:=ld l p l.length (Nat.le_refl _)
 rw[Nat.sub_self] at h3
 rcases tG l p l.length (Nat.le_refl _) with⟨a,b⟩| ⟨a,b,c⟩
 ·rcases h4 with h4|h4
  ·rw[a,h4]
  ·rcases Nat.lt_or_ge (gpQ l p l.length) l.length with h|h
   ·rw[b _ h] at h4;cases h4
   ·omega
 ·rcases Nat.lt_trichotomy (gpM l p l.length) (gpQ l p l.length) with h|h|h
  ·rw[h3 _ (Nat.zero_le _) h] at b;cases b
  ·exact h
  ·rcases h4 with h4|h4
   ·omega
   ·rw[c _ h] at h4;cases h4

theorem Ls{l:List Sl}{x:En}(hle:gfC l x≤gtC l x):oC l x=if (blP l x).length=0∨0< (avP l x).length∧(avP l x).length< (blP l x).length then avP l x else blP l x:=by
 obtain⟨f1,f2,f3⟩:=iq l x
 obtain⟨t1,t2,t3⟩:=iU l x
 have nB:∀j,(at' l j).ok=true→j<gtC l x→abE x (at' l j).e=false:=fun j ho hj=>by
  have:=t2 j hj
  unfold afS at this
  rw[ho] at this
  exact this
 have nA:∀j,(at' l j).ok=true→gfC l x≤j→j<l.length→abE (at' l j).e x=false:=fun j ho h1 h2=>by
  have:=f2 j h1 h2
  unfold bfS at this
  rw[ho] at this
  exact this
 unfold oC
 split
 ·rename_i hn
  have hall:∀j,gfC l x≤j→j<gtC l x→(at' l j).ok=true:=by
   unfold inC at hn
   rcases fp l (gtC l x-gfC l x) (gfC l x) with⟨_,a⟩| ⟨q,e,_⟩
   ·exact fun j h1 h2=>a j h1 (by omega)
   ·omega
  have eB:blP l x=qP l x:=by
   unfold blP qP
   rw[uC (l:=l) (x:=x) (r:=[]) (gtC l x-gfC l x) (by omega) fun j h1 h2=>⟨hall j h1 (by omega),nB j (hall j h1 (by omega)) (by omega)⟩,show gfC l x+(gtC l x-gfC l x)=gtC l x by omega]
   unfold bwS
   have:=wh (l:=l) (p:=afS x) (i:=0) (gtC l x) (by omega) fun j _ h2=>t2 j (by omega)
   rw[Nat.zero_add,Nat.sub_zero] at this
   show bwC l x _ (gpQ l (afS x) (l.length-gtC l x)) []=_
   rw[←this];rfl
  have eA:avP l x=qS l x:=by
   unfold avP qS
   have:=Cx (l:=l) (x:=x) (r:=[]) (i:=gfC l x) (gtC l x-gfC l x) fun j h1 h2=>⟨hall j h1 (by omega),nA j (hall j h1 (by omega)) h1 (by omega)⟩
   rw[show gfC l x+(gtC l x-gfC l x)=gtC l x by omega] at this
   rw[this]
   unfold awS
   have:=wi (l:=l) (p:=bfS x) (i:=gfC l x) (l.length-gfC l x) fun j h1 h2=>f2 j h1 (by omega)
   rw[show gfC l x+(l.length-gfC l x)=l.length by omega] at this
   show avC l x _ (gpP l (bfS x) (gfC l x)) []=_
   rw[←this];rfl
  rw[eB,eA]
 ·rename_i hn
  obtain⟨q,eq,q1,q2,q3,q4⟩:∃q:Nat,inC l x=q∧gfC l x≤q∧q<gtC l x∧(at' l q).ok=false∧∀j,gfC l x≤j→j<q→(at' l j).ok=true:=by
   unfold inC at hn⊢
   rcases fp l (gtC l x-gfC l x) (gfC l x) with⟨e,_⟩| ⟨q,e,a,b,c,d⟩
   ·rw[e] at hn;exact absurd (by decide) hn
   ·exact⟨q,e,a,by omega,c,d⟩
  have eB:blP l x=[⟨q,⟨true,x⟩⟩]:=by
   unfold blP
   rw[uC (l:=l) (x:=x) (r:=[]) (q-gfC l x) (by omega) fun j h1 h2=>⟨q4 j h1 (by omega),nB j (q4 j h1 (by omega)) (by omega)⟩,show gfC l x+(q-gfC l x)=q by omega,FR (by omega) q3]
   rfl
  have nA:(avP l x).length≠0:=fun h=>by
   unfold avP awS at h
   have:=(uN l x _ _ _).1 h q q2
   rw[q3] at this;cases this
  rw[eB,eq,if_neg]
  rintro (h| ⟨_,h⟩)
  ·cases h
  ·have h:(avP l x).length<1:=h
   omega

def rvS(W:List Wr)(i:Nat):List Wr:=(List.range W.length).map fun k=>if k<i∨W.length≤k+i then at' W (W.length-1-k) else at' W k
def rvT(W:List Wr)(i:Nat):List Wr:=(rvS W i).set i (at' W (W.length-1-i))

theorem gJ(W:List Wr)(i:Nat):(rvS W i).length=W.length:=by unfold rvS;rw[List.length_map,List.length_range]
theorem xu(W:List Wr)(i:Nat):(rvT W i).length=W.length:=by unfold rvT;rw[List.length_set,gJ]

theorem pl{W:List Wr}{i k:Nat}(h:k<W.length):(rvS W i)[k]'(by rw[gJ];exact h)=if k<i∨W.length≤k+i then at' W (W.length-1-k) else at' W k:=by
 unfold rvS
 rw[List.getElem_map,List.getElem_range]

theorem xx{W:List Wr}{i k:Nat}(h:k<W.length)(h1:i≤k)(h2:k+i<W.length):at' (rvS W i) k=at' W k:=by
 rw[fx (by rw[gJ];exact h),pl h,if_neg (by omega)]

theorem zZ(W:List Wr):rvS W 0=W:=List.ext_getElem (gJ W 0) fun k h1 h2=>by
 rw[pl h2,if_neg (by omega),fx h2]

theorem z7{W:List Wr}{i:Nat}(h:W.length≤2*i+1):rvS W i=W.reverse:=List.ext_getElem (by rw[gJ,List.length_reverse]) fun k h1 h2=>by
 have hk:k<W.length:=by rw[gJ] at h1;exact h1
 rw[pl hk,List.getElem_reverse]
 split
 ·rw[fx (by omega)]
 ·have:W.length-1-k=k:=by omega
  rw[fx hk]
  congr 1
  exact this.symm

theorem z6{W:List Wr}{i:Nat}(h:2*i+1<W.length):(rvT W i).set (W.length-1-i) (at' W i)=rvS W (i+1):=List.ext_getElem (by rw[List.length_set,xu,gJ]) fun k h1 h2=>by
 have hk:k<W.length:=by rw[gJ] at h2;exact h2
 rw[pl hk,List.getElem_set]
 unfold rvT
 split
 ·rename_i e
  subst e
  rw[if_pos (by omega),show W.length-1-(W.length-1-i)=i by omega]
 ·rename_i e
  rw[List.getElem_set]
  split
  ·rename_i e2
   subst e2
   rw[if_pos (by omega)]
  ·rename_i e2
   rw[pl hk]
   by_cases hc:k<i∨W.length≤k+i
   ·rw[if_pos hc,if_pos (by omega)]
   ·rw[if_neg hc,if_neg (by omega)]

end Go.Sx.M
end

