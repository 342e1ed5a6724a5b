/-
 Texts in one: L14R L14S L14U.
-/
import Derived.Test.YtcabofadpheomaaGreatL14b
import Derived.Test.YtcabofadpheomaaGreatL14N
import Derived.Test.YtcabofadpheomaaGreatL12a

section
namespace Go.Proofs.YtcabofadpheomaaGreat.L1
open Go.Sx Go.Sx.M

theorem oS{f:En→List Sp}{z:En}:∀{b:List En},b.Nodup→z∈b→(∀y∈b,y≠z→f y=[])→b.flatMap f=f z
 | [],_,h,_=>by cases h
 |y::b,hd,hz,h=>by
  rw[List.flatMap_cons]
  have hn:=List.nodup_cons.1 hd
  by_cases e:y=z
  ·subst e
   rw[List.flatMap_eq_nil_iff.2 fun x hx=>h x (List.mem_cons_of_mem _ hx) fun e=>hn.1 (e▸hx),List.append_nil]
  ·rw[h y List.mem_cons_self e,List.nil_append]
   exact oS hn.2 ((List.mem_cons.1 hz).resolve_left fun h'=>e h'.symm) fun x hx=>h x (List.mem_cons_of_mem _ hx)

theorem H0{a:List En}(ha:UqE a){y:En}(hy:y∈a):stU a y=[]:=by
 unfold stU
 split
 ·rename_i h
  have:=List.find?_eq_none.1 h y hy
  rw[g9] at this
  exact absurd rfl this
 ·rename_i x h
  have e:alE x y=true:=List.find?_some (p:=fun x=>alE x y) h
  rw[ha.one (List.mem_of_find?_eq_some h) hy e,if_pos rfl]

theorem CY{b:List En}{x y:En}(hy:y∈b)(h:alE y x=true):stV b x=[]:=by
 unfold stV
 rw[if_pos (List.any_eq_true.2 ⟨y,hy,h⟩)]

theorem NF{a b:List En}(ha:UqE a)(hb:UqE b){z:En}(h:∀e,e∈b↔e=z∨(e∈a∧alE e z=false)):stS a b=stU a z:=by
 unfold stS
 have hV:a.reverse.flatMap (stV b)=[]:=List.flatMap_eq_nil_iff.2 fun x hx=> ?_
 ·rw[hV,List.append_nil]
  exact oS hb.nodup ((h z).2 (.inl rfl)) fun y hy hne=>H0 ha (((h y).1 hy).resolve_left hne).1
 ·have hx:=List.mem_reverse.1 hx
  cases e:alE x z with
  |true=>exact CY ((h z).2 (.inl rfl)) (fZ e)
  |false=>exact CY ((h x).2 (.inr ⟨hx,e⟩)) (g9 x)

theorem K0{a b:List En}(ha:UqE a){z:En}(hz:z∈a)(h:∀e,e∈b↔e∈a∧alE e z=false):stS a b=[⟨2,z⟩]:=by
 unfold stS
 rw[List.flatMap_eq_nil_iff.2 fun y hy=>H0 ha ((h y).1 hy).1,List.nil_append]
 rw[oS ((List.reverse_perm a).nodup_iff.2 ha.nodup) (List.mem_reverse.2 hz) fun x hx hne=> ?_]
 ·unfold stV
  rw[if_neg]
  intro g
  obtain⟨y,hy,e⟩:=List.any_eq_true.1 g
  rw[((h y).1 hy).2] at e;cases e
 ·have hx:=List.mem_reverse.1 hx
  refine CY ((h x).2 ⟨hx, ?_⟩) (g9 x)
  cases e:alE x z with
  |false=>rfl
  |true=>exact absurd (ha.one hx hz e) hne

theorem K3{a:List En}{z:En}(h:∀x∈a,alE x z=false):stU a z=[⟨0,z⟩]:=by
 unfold stU
 rw[List.find?_eq_none.2 fun x hx=>by rw[h x hx];simp]

theorem K1{a:List En}(ha:UqE a){x z:En}(hx:x∈a)(h:alE x z=true):stU a z=if x.act=z.act then [] else [⟨1,z⟩]:=by
 unfold stU
 split
 ·rename_i g
  have:=List.find?_eq_none.1 g x hx
  exact absurd h this
 ·rename_i y g
  have e:alE y z=true:=List.find?_some (p:=fun x=>alE x z) g
  rw[ha.one (List.mem_of_find?_eq_some g) hx (gF e (fZ h))]

theorem vM{x y:Ro}(hx:riP 128 x.p=true)(hy:riP 128 y.p=true):alE (fu x) (fu y)=true↔x.p=y.p:=by
 refine⟨fun h=> ?_,fun h=> ?_⟩
 ·have hl:=rZ h
  have hm:=CE h
  rw[kB hx (Int.le_refl _),kB hy (Int.le_refl _)] at hl
  have key:mtP y.p x.p.a x.p.b=true:=fR.2 fun i hi hil=>by
   unfold meE at hm
   rw[gI] at hm
   have:=hm i hi (by show eH (mkW x.p.len) (mkW (x.p.len-64)) i=true;rw[iz _ hi,decide_eq_true_eq];omega) (by show eH (mkW y.p.len) (mkW (y.p.len-64)) i=true;rw[iz _ hi,decide_eq_true_eq];exact hil)
   have this:eH (x.p.a&&&mkW x.p.len) (x.p.b&&&mkW (x.p.len-64)) i=eH (y.p.a&&&mkW y.p.len) (y.p.b&&&mkW (y.p.len-64)) i:=this
   rw[fU _ _ _ hi,fU _ _ _ hi,decide_eq_true (show (i:Int)<x.p.len by omega),decide_eq_true hil,Bool.and_true,Bool.and_true] at this
   exact this.symm
  exact qn hx hy hl (E9 x.p) key
 ·unfold fu
  rw[h]
  exact h9.2 ⟨rfl,rfl,rfl,rfl,rfl⟩

theorem iM{l:List Ro}{e:En}:e∈bdE l 0↔∃x∈l,fu x=e:=by
 unfold bdE
 rw[if_pos rfl,(e9 _).mem_iff,List.mem_map]

theorem uL{l:List Ro}(h:TB 128 l):UqE (bdE l 0):=qk (rX h (by decide) (by decide)).1

theorem KA{l m:List Ro}(h:TB 128 l)(hm:TB 128 m):stE (bdE l 0) (bdE m 0)=stS (bdE l 0) (bdE m 0):=by
 have e:∀{l:List Ro},TB 128 l→srE (onE (bdE l 0))=bdE l 0:=fun {l} h=>by
  rw[Dm (uL h)]
  refine (kN ?_ (List.Perm.refl _)).symm
  unfold bdE
  rw[if_pos rfl]
  exact fW _
 unfold stE
 rw[e h,e hm]

theorem FX{l:List Ro}{r:Ro}(h:TB 128 l)(hl:l.length<256)(hr:riR 128 r=true):stE (bdE l 0) (bdE (ptR l r) 0)=stU (bdE l 0) (fu r):=by
 have hp:=xL h hl hr
 have hrp:riP 128 r.p=true:=hp.rip (iH.2 (.inl rfl))
 rw[KA h hp]
 refine NF (uL h) (uL hp) fun e=> ?_
 rw[iM]
 refine⟨fun⟨x,hx,he⟩=> ?_,fun g=> ?_⟩
 ·rcases iH.1 hx with rfl| ⟨h1,h2⟩
  ·exact .inl he.symm
  ·refine .inr ⟨iM.2 ⟨x,h1,he⟩, ?_⟩
   rw[←he]
   cases g:alE (fu x) (fu r) with
   |false=>rfl
   |true=>exact absurd ((vM (h.rip h1) hrp).1 g) h2
 ·rcases g with rfl| ⟨h1,h2⟩
  ·exact⟨r,iH.2 (.inl rfl),rfl⟩
  ·obtain⟨x,hx,rfl⟩:=iM.1 h1
   refine⟨x,iH.2 (.inr ⟨hx,fun g=> ?_⟩),rfl⟩
   rw[(vM (h.rip hx) hrp).2 g] at h2;cases h2

theorem KB{l:List Ro}{x:Ro}(h:TB 128 l)(hx:x∈l):stE (bdE l 0) (bdE (drR l x.p) 0)=[⟨2,fu x⟩]:=by
 rw[KA h (un h _)]
 refine K0 (uL h) (iM.2 ⟨x,hx,rfl⟩) fun e=> ?_
 rw[iM]
 refine⟨fun⟨y,hy,he⟩=> ?_,fun⟨h1,h2⟩=> ?_⟩
 ·obtain⟨g1,g2⟩:=nP.1 hy
  refine⟨iM.2 ⟨y,g1,he⟩, ?_⟩
  rw[←he]
  cases g:alE (fu y) (fu x) with
  |false=>rfl
  |true=>exact absurd ((vM (h.rip g1) (h.rip hx)).1 g) g2
 ·obtain⟨y,hy,rfl⟩:=iM.1 h1
  refine⟨y,nP.2 ⟨hy,fun g=> ?_⟩,rfl⟩
  rw[(vM (h.rip hy) (h.rip hx)).2 g] at h2;cases h2

theorem E4{o:Int}{L:List Sl}{a:List En}(ha:UqE a)(hp:(ensS L).Perm a){s:Sp}(hk:okP o s=true)(h0:s.k≠0){x:En}(hx:x∈a)(he:alE x s.e=true):
  gG o L s=0∧(fE o L s).length=if s.k=2 then 1 else if s.k=1∧x.act≠s.e.act then 1 else 0:=by
 have hu:UqE (ensS L):=ha.perm hp.symm
 obtain⟨i,hi,hok,hie⟩:=gn.1 (hp.mem_iff.2 hx)
 have e1:tcW L s L.length=qh s i (at' L i):=xg L.length hi fun j hj hne hjo=>by
  cases g:alE (at' L j).e s.e with
  |false=>rfl
  |true=>exact absurd ((mA.1 hu).two hj hi hjo hok (gF g (by rw[hie];exact fZ he))) hne
 unfold gG fE
 rw[if_pos hk,if_pos hk,if_neg h0,if_neg h0,e1]
 refine⟨rfl, ?_⟩
 unfold qh
 rw[hok,hie,he,Bool.and_self,if_pos rfl]
 split
 ·rfl
 ·split<;>rfl

theorem zm(o:Int)(s:Sp)(L:List Sl):gq o [s] L=gG o L s∧(gG o L s=0→gy o [s] L=fE o L s):=by
 refine⟨?_,fun h=> ?_⟩
 ·rw[gq,gq]
  split
  ·rename_i h;exact h.symm
  ·rfl
 ·rw[gy,gy,gq,if_pos ⟨h,rfl⟩,List.append_nil]

theorem LV{l:List Ro}{x r:Ro}{o:Int}{L:List Sl}(hT:TB 128 l)(hl:l.length<256)(hr:riR 128 r=true)(hx:x∈l)(hp:x.p=r.p)(ho:isO o=true)(hL:(ensS L).Perm (bdE l 0)):
  gq o (stE (bdE l 0) (bdE (ptR l r) 0)) L=0∧(gy o (stE (bdE l 0) (bdE (ptR l r) 0)) L).length=(if x.act=r.act then 0 else 1)∧
  gq o (stE (bdE l 0) (bdE (drR l r.p) 0)) L=0∧(gy o (stE (bdE l 0) (bdE (drR l r.p) 0)) L).length=1:=by
 have hrp:riP 128 r.p=true:=(xL hT hl hr).rip (iH.2 (.inl rfl))
 have hxa:alE (fu x) (fu r)=true:=(vM (hT.rip hx) hrp).2 hp
 have hxm:fu x∈bdE l 0:=iM.2 ⟨x,hx,rfl⟩
 have hu:=uL hT
 refine (and_assoc.1 ⟨?_, ?_⟩:_)
 ·rw[FX hT hl hr,K1 hu hxm hxa]
  by_cases ha:x.act=r.act
  ·rw[if_pos (show (fu x).act=(fu r).act from ha),if_pos ha];exact⟨rfl,rfl⟩
  ·rw[if_neg (show¬(fu x).act=(fu r).act from ha),if_neg ha]
   obtain⟨g1,g2⟩:=E4 (o:=o) (s:=⟨1,fu r⟩) hu hL (ta ho (Ad hr) (.inr (.inl rfl))) (show (1:Int)≠0 by decide) hxm hxa
   obtain⟨c1,c2⟩:=zm o ⟨1,fu r⟩ L
   rw[c1,c2 g1]
   refine⟨g1, ?_⟩
   rw[g2,if_neg (show¬(1:Int)=2 by decide),if_pos ⟨rfl,ha⟩]
 ·rw[←hp,KB hT hx]
  obtain⟨g1,g2⟩:=E4 (o:=o) (s:=⟨2,fu x⟩) hu hL (ta ho (Ad (hT.right x hx)) (.inr (.inr rfl))) (show (2:Int)≠0 by decide) hxm (g9 _)
  obtain⟨c1,c2⟩:=zm o ⟨2,fu x⟩ L
  rw[c1,c2 g1]
  refine⟨g1, ?_⟩
  rw[g2,if_pos rfl]

theorem Ig{x y:Ro}(hx:riP 128 x.p=true)(hy:riP 128 y.p=true)(h:abE (fu y) (fu x)=true):y.p≠x.p∧cvP x.p y.p=true:=by
 unfold abE at h
 rw[Bool.and_eq_true,decide_eq_true_eq,kB hx (Int.le_refl _),kB hy (Int.le_refl _)] at h
 obtain⟨hl,hm⟩:=h
 refine⟨fun e=>by rw[e] at hl;omega,fI.2 ⟨by omega,fun i hi hil=> ?_⟩⟩
 unfold meE at hm
 rw[gI] at hm
 have:=hm i hi (by show eH (mkW y.p.len) (mkW (y.p.len-64)) i=true;rw[iz _ hi,decide_eq_true_eq];omega) (by show eH (mkW x.p.len) (mkW (x.p.len-64)) i=true;rw[iz _ hi,decide_eq_true_eq];exact hil)
 have this:eH (y.p.a&&&mkW y.p.len) (y.p.b&&&mkW (y.p.len-64)) i=eH (x.p.a&&&mkW x.p.len) (x.p.b&&&mkW (x.p.len-64)) i:=this
 rw[fU _ _ _ hi,fU _ _ _ hi,decide_eq_true (show (i:Int)<y.p.len by omega),decide_eq_true hil,Bool.and_true,Bool.and_true] at this
 exact this.symm

theorem EW{l:List Ro}:∀E:List En,(∀e∈E,e∈bdE l 0)→∃s:List Ro,s.map fu=E∧∀x∈s,x∈l
 | [],_=>⟨[],rfl,fun x hx=>by cases hx⟩
 |e::E,h=>by
  obtain⟨s,h1,h2⟩:=EW E fun y hy=>h y (List.mem_cons_of_mem _ hy)
  obtain⟨x,hx,he⟩:=iM.1 (h e List.mem_cons_self)
  refine⟨x::s,by rw[List.map_cons,he,h1],fun y hy=> ?_⟩
  rcases List.mem_cons.1 hy with rfl|hy
  ·exact hx
  ·exact h2 y hy

theorem Ev{l:List Ro}(hT:TB 128 l){E:List En}(hE:∀e∈E,e∈bdE l 0)(hc:E.Pairwise fun e d=>abE d e=true):(E.length:Int)≤chR l:=by
 obtain⟨s,h1,h2⟩:=EW E hE
 have hch:og s:=by
  unfold og
  rw[←h1,List.pairwise_map] at hc
  exact hc.imp_of_mem fun {x y} hx hy h=>Ig (hT.rip (h2 x hx)) (hT.rip (h2 y hy)) h
 have:=oc hch h2
 rw[←h1,List.length_map]
 exact this

theorem BG{l:List Ro}{r:Ro}{o:Int}{L:List Sl}(hT:TB 128 l)(hl:l.length<256)(hr:riR 128 r=true)(hn:∀x∈l,x.p≠r.p)(ho:isO o=true)(hOr:OrB (ji o) L)(hRt:RtL L)(hL:(ensS L).Perm (bdE l 0)):
  (gq o (stE (bdE l 0) (bdE (ptR l r) 0)) L=3∧frS L=0)∨
  (gq o (stE (bdE l 0) (bdE (ptR l r) 0)) L=0∧1≤(gy o (stE (bdE l 0) (bdE (ptR l r) 0)) L).length∧((gy o (stE (bdE l 0) (bdE (ptR l r) 0)) L).length:Int)≤(if o=0 then (lnS L L.length:Int) else chR (ptR l r))+1):=by
 have hrp:riP 128 r.p=true:=(xL hT hl hr).rip (iH.2 (.inl rfl))
 have hS:stE (bdE l 0) (bdE (ptR l r) 0)=[⟨0,fu r⟩]:=by
  rw[FX hT hl hr,K3 fun e he=> ?_]
  obtain⟨x,hx,rfl⟩:=iM.1 he
  cases g:alE (fu x) (fu r) with
  |false=>rfl
  |true=>exact absurd ((vM (hT.rip hx) hrp).1 g) (hn x hx)
 have hk:okP o ⟨0,fu r⟩=true:=ta ho (Ad hr) (.inl rfl)
 have e1:gG o L ⟨0,fu r⟩=eO o L (fu r):=by unfold gG;rw[if_pos hk,if_pos rfl]
 have e2:fE o L ⟨0,fu r⟩=wO o L (fu r):=by unfold fE;rw[if_pos hk,if_pos rfl]
 obtain⟨c1,c2⟩:=zm o ⟨0,fu r⟩ L
 have pf:∀e∈ensS L,PfE e:=fun e he=>FW hT (k:=0) (by decide) e (hL.mem_iff.1 he)
 rw[hS,c1,e1]
 rcases Ot ho hOr hRt (Ad hr) (fun _=>⟨MM hr,pf⟩) with⟨h1,h2⟩| ⟨h1,h2⟩
 ·refine .inl ⟨h1, ?_⟩
  unfold frS
  omega
 ·refine .inr ⟨h1, ?_⟩
  rw[c2 (e1.trans h1),e2]
  refine⟨h2.some, ?_⟩
  by_cases h:o=0
  ·rw[if_pos h]
   have:=Fr L (fu r)
   unfold wO
   rw[if_pos h]
   unfold inW
   split
   ·omega
   ·simp only[List.length_nil];omega
  ·rw[if_neg h]
   obtain⟨E,g1,g2,g3⟩:=Oc (l:=L) (x:=fu r) pf
   have g4:=Ev hT (fun e he=>hL.mem_iff.1 (g2 e he)) g3
   have g5:=(Ml l r).1
   unfold wO
   rw[if_neg h]
   split
   ·unfold wC
    split
    ·omega
    ·simp only[List.length_nil];omega
   ·simp only[List.length_nil];omega

end Go.Proofs.YtcabofadpheomaaGreat.L1
end

section
namespace Go.Proofs.YtcabofadpheomaaGreat.L1
open Go.Sx Go.Sx.M

noncomputable def sW:List (FuncId×Sx.Spec):=[(8,lz),(6,ey [pRo] pg),(7,ey [none] jt),(21,ey [none,none] Gt),(9,ey [pRo,none] lm),(22,ey [pRo,none] JB),(10,ey [none,none,pEn] pC),
 (12,ey [pEn,pEn] nS),(11,ey [none,pSl,pSp] rO),(23,ey [pRo,none] D0),(24,ey [pRo,none] D4),(25,ey [pSl] rN),(26,ey [pRo] yF),(27,ey [pSl] tK)]

def Q8(o n:Int)(l:List Ro)(r:Ro):St:=
 ⟨[.int .i64 o, .int .i64 n, .vsl 0 0 (l.map roE).length, .any, .any, .any, .any, .ptr 1 0 0 true, .any, .vsl 2 0 ((bdE l 0).map enE).length, .vsl 3 0 ((bdE (ptR l r) 0).map enE).length, .any, .any, .any, .any, .any, .any, .any, .any, .any, .any, .any, .any, .any, .any, .any, .any, .any, .any, .any, .any, .any, .any, .any, .any, .any, .any, .any, .any, .any, .any, .any, .any, .any, .any, .any, .any, .any, .any, .any, .any, .any, .any, .any, .any, .any, .any, .any, .any, .any, .any, .any, .any, .any, .any, .any, .any, .any, .any, .any, .any, .any, .any, .any, .any, .any, .any, .any, .any, .any, .any, .any, .any, .any, .any, .any, .any, .any, .any, .any, .any, .any, .any, .any, .any, .any, .any, .any, .any, .any, .any, .any, .any, .any, .any, .any, .any, .any, .any, .any, .any, .any, .any, .any, .any, .any, .any, .any, .any, .any, .any, .any, .any, .any, .any, .any, .any, .any, .any, .any, .any, .any, .any, .any, .any, .any, .any, .any, .any, .any, .any, .any, .any, .any, .any, .any, .any, .any, .any, .any, .any, .any],[some ⟨false,66,4,true,l.map roE⟩,some ⟨true,66,4,true,[roE r]⟩,some ⟨true,44,6,true,(bdE l 0).map enE⟩,some ⟨true,44,6,true,(bdE (ptR l r) 0).map enE⟩]⟩
def Q9:Modes:=⟨[1,1,1,0,0,0,0,1,0,1,1,0,0,0,0,0,0,0,0,0,0,0,0,0,0,0,0,0,0,0,0,0,0,0,0,0,0,0,0,0,0,0,0,0,0,0,0,0,0,0,0,0,0,0,0,0,0,0,0,0,0,0,0,0,0,0,0,0,0,0,0,0,0,0,0,0,0,0,0,0,0,0,0,0,0,0,0,0,0,0,0,0,0,0,0,0,0,0,0,0,0,0,0,0,0,0,0,0,0,0,0,0,0,0,0,0,0,0,0,0,0,0,0,0,0,0,0,0,0,0,0,0,0,0,0,0,0,0,0,0,0,0,0,0,0,0,0,0,0,0,0,0],[],[],[],[]⟩
def PO:List Hint:=[.br true, .nw, .br true]
def pfH(o n:Int)(l:List Ro)(r:Ro):List Hint:=[.fork [] [.fork [] [.fork [] [.fork [] [.fork [] [.mrg true Unit (fun _=>Q8 o n l r) (fun _=>True) Q9 [] (fun _=>[]),
 .fork [] [.nm ((stE (bdE l 0) (bdE (ptR l r) 0)).map spE), .fork
  [.nm ((drR l r.p).map roE), .nm ((bdE (drR l r.p) 0).map enE), .nm ((stE (bdE l 0) (bdE (drR l r.p) 0)).map spE), .br true, .br true, .br true, .br true, .br true]
  [.fork [.br true, .br true] [.nm ((ptR l r).map roE), .fork PO PO]]]]]]]]]

theorem u9(o n:Int)(l:List Ro)(r:Ro):run sW Tryz.prog 4 [.int .i64 o, .int .i64 n, .vsl 0 0 (l.map roE).length, .agg [.w64 r.p.a, .w64 r.p.b, .int .i64 r.p.len, .int .i64 r.act]] [some ⟨false,66,4,true,l.map roE⟩] (pfH o n l r) i9=
  (let au:=(9223372036854775807:Nat);let an:=ptR l r;let al:=Decidable.decide (n>(20:Int));let ah:=drR l r.1;let ac:=(1000:Nat);let aa:=(1:Nat);let T:=(1:Int);let S:=Ro.p r;let Q:=List.map spE;let O:=true=true;let N:=(1000000:Nat);let K:=(128:Int);let J:=AV.int IntKind.i64;let Z:=[AV.agg [AV.w64 S.1,AV.w64 S.2,J S.3,J r.2]];let I:=Blk.mk true (44:TypeId) (6:Nat) true;let H:=(0:Int);let am:=bdE l H;let G:=List.map enE;let w:=List.length (G am);let v:=Q (stE am (bdE an H));let af:=List.length (v);let u:=Pf.mk S.1 S.2 S.3;let Y:=Ro.mk u r.2;let s:=G (bdE ah H);let ad:=List.length (s);let q:=G (bdE an H);let aj:=List.length q;let m:=(0:Nat);let aC:=m+w≤w;let F:=List.take (aj) (List.drop m q);let ay:=deE (F);let B:=List.take (ad) (List.drop m (s));let az:=deE (B);let k:=List.map roE;let W:=Blk.mk false (66:TypeId) (4:Nat) true (k l);let R:=List.length (k an);let P:=List.length (k ah);let z:=List.length (k l);let ai:=m+z≤z;let ab:=Decidable.decide ((↑(z):Int)>(10:Int));let y:=List.take (R) (List.drop m (k an));let aA:=deR (y);let t:=List.take (P) (List.drop m (k ah));let ap:=deR (t);let j:=Q (stE am (bdE ah H));let ae:=List.length (j);let C:=List.take (ae) (List.drop m (j));let aw:=deSp (C);let i:=AV.any;let f:=List.take (w) (List.drop m (G am));let M:=deE (f);let ak:=List.length M;let e:=List.take (af) (List.drop m (v));let av:=deSp (e);let d:=List.take (z) (List.drop m (k l));let E:=deR (d);let aB:=Option.isSome (fdR E u);let ax:=d=k E;let X:=tbR K E=true;let h:=k (ptR E Y);let ag:=List.length (h);let A:=List.take (ag) (List.drop m (h));let ao:=deR (A);let c:=List.map slE (ldA o n M (ak));let L:=List.length c;let aD:=m+L≤L;let ar:=List.take (L) (List.drop m c);let g:=deS (ar);let V:=gq o av g;let U:=List.length g;let D:=ar=List.map slE g;let x:=(↑(List.length (List.map wrE (gy o av g))):Int);let aq:=Decidable.decide (x≥T)=true;(ai∧ax∧List.length E≤au∧((!tb9 E)=true→True∧O)∧((!tb9 E)=false→(ab=true→True∧O)∧(ab=false→(al=true→True∧O)∧(al=false→((!isO o)=true→True∧O)∧((!isO o)=false→((!riR K Y)=true→True∧O)∧((!riR K Y)=false→(ai∧ax∧(List.length E≤N∧X)∧ai∧ax∧X∧riR K Y=true∧m+ag≤ag∧A=k ao∧(List.length ao≤N∧tbR K ao=true)∧∃(_:Unit),St.mk [J o,J n,AV.vsl m m (z),i,i,i,i,AV.ptr (m+aa) m m true,i,AV.vsl (m+aa+aa) m (List.length (G (bdE E H))),AV.vsl (m+aa+aa+aa) m (List.length (G (bdE ao H))),i,i,i,i,i,i,i,i,i,i,i,i,i,i,i,i,i,i,i,i,i,i,i,i,i,i,i,i,i,i,i,i,i,i,i,i,i,i,i,i,i,i,i,i,i,i,i,i,i,i,i,i,i,i,i,i,i,i,i,i,i,i,i,i,i,i,i,i,i,i,i,i,i,i,i,i,i,i,i,i,i,i,i,i,i,i,i,i,i,i,i,i,i,i,i,i,i,i,i,i,i,i,i,i,i,i,i,i,i,i,i,i,i,i,i,i,i,i,i,i,i,i,i,i,i,i,i,i,i,i,i,i,i,i,i,i,i,i,i,i,i] [some W,some (Blk.mk true (66:Nat) (4:Nat) true Z),some (I (G (bdE E H))),some (I (G (bdE ao H)))]=St.mk [J o,J n,AV.vsl m m (z),i,i,i,i,AV.ptr aa m m true,i,AV.vsl (2:Nat) m (w),AV.vsl (3:Nat) m (aj),i,i,i,i,i,i,i,i,i,i,i,i,i,i,i,i,i,i,i,i,i,i,i,i,i,i,i,i,i,i,i,i,i,i,i,i,i,i,i,i,i,i,i,i,i,i,i,i,i,i,i,i,i,i,i,i,i,i,i,i,i,i,i,i,i,i,i,i,i,i,i,i,i,i,i,i,i,i,i,i,i,i,i,i,i,i,i,i,i,i,i,i,i,i,i,i,i,i,i,i,i,i,i,i,i,i,i,i,i,i,i,i,i,i,i,i,i,i,i,i,i,i,i,i,i,i,i,i,i,i,i,i,i,i,i,i,i,i,i,i,i] [some W,some (Blk.mk true (66:TypeId) (4:Nat) true Z),some (I (G am)),some (I q)]∧True)∧∀(_:Unit),True→aC∧f=G M∧ak≤ac∧((!ldB o n M)=true→True∧O)∧((!ldB o n M)=false→aC∧m+aj≤aj∧f=G M∧ak≤N∧F=G ay∧List.length ay≤N∧(Q (stE M ay)=v∧List.length (Q (stE M ay))=af)∧aD∧m+af≤af∧D∧U≤ac∧e=Q av∧List.length av≤ac∧ai∧ax∧X∧(aB=true→ai∧ax∧X∧(k (drR E u)=k ah∧List.length (k (drR E u))=P)∧m+P≤P∧t=k ap∧(List.length ap≤N∧tbR K ap=true)∧(G (bdE ap H)=s∧List.length (G (bdE ap H))=ad)∧aC∧m+ad≤ad∧f=G M∧ak≤N∧B=G az∧List.length az≤N∧(Q (stE M az)=j∧List.length (Q (stE M az))=ae)∧aD∧m+ae≤ae∧D∧U≤ac∧C=Q aw∧List.length aw≤ac∧(V==H)=true∧(gq o aw g==H)=true∧((↑(List.length (List.map wrE (gy o aw g))):Int)==T)=true∧((x==T)==((roO (fdR E (Pf.mk (Pf.a S) (Pf.b S) (Pf.len S)))).2 !=r.2))=true∧Decidable.decide (x≤T)=true∧True∧O)∧(aB=false→((V !=H)=true→(V==(3:Int))=true∧aD∧D∧U≤au∧(frS g==H)=true∧True∧O)∧((V !=H)=false→ai∧ax∧X∧riR K Y=true∧(h=k an∧ag=R)∧m+R≤R∧y=k aA∧tbR K aA=true∧((o==H)=true→aD∧D∧U≤N∧aq∧inRange IntKind.i64 ((↑(lnS g (U)):Int)+T)∧Decidable.decide (x≤(↑(lnS g (U)):Int)+T)=true∧True∧O)∧((o==H)=false→aq∧inRange IntKind.i64 (chR aA+T)∧Decidable.decide (x≤chR aA+T)=true∧True∧O))))))))))):=by kernel_rfl

end Go.Proofs.YtcabofadpheomaaGreat.L1
end

section
namespace Go.Proofs.YtcabofadpheomaaGreat.L1
open Go.Sx Go.Sx.M

set_option maxRecDepth 100000 in
theorem vf(o n:Int)(l:List Ro)(r:Ro)(hL:l.length≤9223372036854775807):∃hs,run sW Tryz.prog 4 [.int .i64 o, .int .i64 n, .vsl 0 0 (l.map roE).length, .agg [.w64 r.p.a, .w64 r.p.b, .int .i64 r.p.len, .int .i64 r.act]] [some ⟨false,66,4,true,l.map roE⟩] hs i9:=by
 refine⟨pfH o n l r, ?_⟩
 rw[u9];(conv=>zeta)
 have exp:(⟨r.p.a,r.p.b,r.p.len⟩:Pf)=r.p:=rfl
 have exr:(⟨r.p,r.act⟩:Ro)=r:=rfl
 simp only[exp,exr,eT,iL,gg,fG,BW,zLe,true_and,and_true,eq_self,implies_true,eq_true hL]
 intro ht hl hn ho hr
 obtain⟨_,hT⟩:=xi (iR ht)
 have hl:l.length≤10:=by have:=of_decide_eq_false hl;rw[List.length_map] at this;omega
 have ho:=iR ho
 have hr:=iR hr
 have hP:=xL hT (show l.length<256 by omega) hr
 have hD:=un hT r.p
 have hl2:=oY l 0
 have hl3:=oY (ptR l r) 0
 have hl4:=oY (drR l r.p) 0
 have hpl:=hP.most
 have hdl:=hD.most
 obtain⟨_,p2⟩:=qb hT hl (o:=o) (k:=0) (n:=n) ho (fun _=>by decide)
 have h64:ldN n≤64:=by unfold ldN;omega
 have hs1:=oA (bdE l 0) (bdE (ptR l r) 0)
 have hs2:=oA (bdE l 0) (bdE (drR l r.p) 0)
 simp only[eq_true (show l.length≤1000000 by omega),eq_true (show (ptR l r).length≤1000000 by omega),eq_true (show (drR l r.p).length≤1000000 by omega),eq_true (gm.2 hT),eq_true (gm.2 hP),eq_true (gm.2 hD),eq_true hr,eq_true (show (bdE l 0).length≤1000 by omega),eq_true (show (bdE l 0).length≤1000000 by omega),eq_true (show (bdE (ptR l r) 0).length≤1000000 by omega),eq_true (show (bdE (drR l r.p) 0).length≤1000000 by omega),
  eq_true (show (stE (bdE l 0) (bdE (ptR l r) 0)).length≤1000 by omega),eq_true (show (stE (bdE l 0) (bdE (drR l r.p) 0)).length≤1000 by omega),true_and,and_true]
 refine⟨⟨(),trivial⟩,fun _ _ hb=> ?_⟩
 have hb:=iR hb
 obtain⟨u1,u2,u3,u4⟩:=p2 hb
 generalize ldA o n (bdE l 0) (bdE l 0).length=L at u1 u2 u3 u4⊢
 have hc:=OX (ptR l r)
 have hln:=DA L L.length (Nat.le_refl _)
 rw[List.take_length] at hln
 have hln2:=fJ L
 simp only[eq_true (show L.length≤1000 by omega),eq_true (show L.length≤1000000 by omega),eq_true (show L.length≤9223372036854775807 by omega),true_and]
 rcases qJ l r.p with⟨e,hno⟩| ⟨x,hx,hxp,e⟩
 ·rw[e]
  refine⟨fun h=>(by cases h),fun _=>⟨fun he=> ?_,fun he=> ?_⟩⟩
  ·rcases BG hT (show l.length<256 by omega) hr hno ho u2 u3 u4 with⟨g1,g2⟩| ⟨g1,_⟩
   ·rw[g1,g2];exact⟨rfl,rfl⟩
   ·rw[g1] at he;cases he
  ·rcases BG hT (show l.length<256 by omega) hr hno ho u2 u3 u4 with⟨g1,_⟩| ⟨_,g2,g3⟩
   ·rw[g1] at he;cases he
   ·rw[List.length_map]
    refine⟨fun h=> ?_,fun h=> ?_⟩
    ·have h:o=0:=by simpa using h
     rw[if_pos h] at g3
     exact⟨decide_eq_true (by omega),inR (by omega) (by omega),decide_eq_true g3⟩
    ·have h:¬o=0:=by simpa using h
     rw[if_neg h] at g3
     exact⟨decide_eq_true (by omega),inR (by omega) (by omega),decide_eq_true g3⟩
 ·rw[e]
  refine⟨fun _=> ?_,fun h=>(by cases h)⟩
  obtain⟨g1,g2,g3,g4⟩:=LV hT (show l.length<256 by omega) hr hx hxp ho u4
  rw[g1,g3,List.length_map,List.length_map,g2,g4]
  show _∧_∧_∧((_==_)==(x.act !=r.act))=true∧_
  by_cases ha:x.act=r.act
  ·rw[if_pos ha,ha];simp
  ·rw[if_neg ha];simp[ha]

end Go.Proofs.YtcabofadpheomaaGreat.L1
end

