/-
 Texts in one: L10J Mo.
-/
import Derived.Test.YtcabofadpheomaaGreatProg
import Derived.Test.YtcabofadpheomaaGreatSxd
import Derived.WalkKit
import Derived.KernelRfl
import Derived.Laws.StructEq
import Derived.WideKeyEntry
import Derived.Test.YtcabofadpheomaaGreatSxG
import Derived.Maps.RangeRun

section
namespace Go.Proofs.YtcabofadpheomaaGreat.L1
open Go Go.Proofs Go.RowKit Go.Sx Go.Sx.M

theorem hZ(em:Bool)(x:En)(w:World):(Instr.checkKey em 10000 44 (eV x)).run Tryz.prog w= .ok () w:=by kernel_rfl

theorem xm(x:En)(w:World):(Instr.keyThatStays (eV x) (eV x)).run Tryz.prog w= .ok (eV x) w:=by
 simp[Instr.keyThatStays,Instr.sameBits,eV,encV]

theorem iN{x y:En}(h:eV x=eV y):x=y:=by
 have h1:(encV x).toArray=(encV y).toArray:=Value.agg.inj h
 have h2:encV x=encV y:=by simpa using congrArg Array.toList h1
 simp only[encV,List.cons.injEq,Value.int.injEq,true_and,and_true,Int.natCast_inj] at h2
 obtain⟨a,b,c,d,e,f⟩:=h2
 cases x;cases y
 simp only[En.mk.injEq]
 exact⟨BitVec.eq_of_toNat_eq a,BitVec.eq_of_toNat_eq b,BitVec.eq_of_toNat_eq c,BitVec.eq_of_toNat_eq d,e,f⟩

theorem oW(x:En):AVR [] (enA x) (eV x):= .agg (.cons (.w64 _) (.cons (.w64 _) (.cons (.w64 _) (.cons (.w64 _) (.cons (.int _ _) (.cons (.int _ _) .nil))))))

theorem Qe(p q:En):Sx.eqT Tryz.prog 8 44 (enA p) (enA q)=some ((p.v==q.v&&p.w==q.w&&(p.m==q.m&&p.n==q.n))&&(p.len==q.len&&p.act==q.act)):=by kernel_rfl

theorem JZ(x y:En):(x.v==y.v&&x.w==y.w&&(x.m==y.m&&x.n==y.n)&&(x.len==y.len&&x.act==y.act))=decide (x=y):=by
 rw[Bool.eq_iff_iff]
 simp only[Bool.and_eq_true,beq_iff_eq,decide_eq_true_eq]
 constructor
 ·rintro⟨⟨⟨a,b⟩,c,d⟩,e,f⟩
  cases x;cases y
  simp_all
 ·rintro rfl;simp

theorem OL(p q:En)(w:World):(Op.equal 44 (eV p) (eV q)).run Tryz.prog w= .ok (decide (p=q)) w:=by
 have h:=nY (ρ:=[]) 8 (Qe p q) (oW p) (oW q) 10000 (by omega) w
 rw[JZ] at h;exact h

theorem KG(p:En)(w:World):∀(l:List MapEntry) (i:Nat),(∀e∈l,∃q,e.key=eV q)→
  ((Instr.findAsking 44 (eV p) l i).run Tryz.prog w= .ok none w∧∀e∈l,e.key≠eV p)∨∃j e,(Instr.findAsking 44 (eV p) l i).run Tryz.prog w= .ok (some (i+j,e.val)) w∧l[j]?=some e∧e.key=eV p
 | [],i,_=> .inl ⟨rfl,by simp⟩
 |e::l,i,h=>by
  obtain⟨q,hq⟩:=h e List.mem_cons_self
  by_cases hpq:p=q
  ·subst hpq
   refine .inr ⟨0,e, ?_,rfl,hq⟩
   simp[Instr.findAsking,hq,OL,Result.andThen]
  ·have hne:e.key≠eV p:=fun h=>hpq (iN (hq▸h)).symm
   rcases KG p w l (i+1) fun e he=>h e (List.mem_cons_of_mem _ he) with⟨h1,h2⟩| ⟨j,e',h1,h2,h3⟩
   ·refine .inl ⟨?_,fun e' he'=> ?_⟩
    ·simp[Instr.findAsking,hq,OL,Result.andThen,hpq,h1]
    ·rcases List.mem_cons.1 he' with rfl|he'
     ·exact hne
     ·exact h2 e' he'
   ·refine .inr ⟨j+1,e', ?_,by simpa using h2,h3⟩
    simp only[Instr.findAsking,hq,Sem.run_bind,OL,Result.andThen,hpq,decide_false,Bool.false_eq_true,if_false,h1]
    rw[Nat.add_assoc,Nat.add_comm 1 j]

theorem uf(p:En)(w:World)(l:List MapEntry)(h:∀e∈l,∃q,e.key=eV q):
  ((Instr.findKey 44 (eV p) l).run Tryz.prog w= .ok none w∧∀e∈l,e.key≠eV p)∨∃j e,(Instr.findKey 44 (eV p) l).run Tryz.prog w= .ok (some (j,e.val)) w∧l[j]?=some e∧e.key=eV p:=by
 cases l with
 |nil=>
  refine .inl ⟨?_,by simp⟩
  simp[Instr.findKey,run_underlying Tryz.underlying44,Instr.findNow,Result.andThen]
 |cons e l=>
  have hr:(Instr.findKey 44 (eV p) (e::l)).run Tryz.prog w=(Instr.findAsking 44 (eV p) (e::l)).run Tryz.prog w:=by
   simp[Instr.findKey,run_underlying Tryz.underlying44,Instr.findNow,Instr.sameNow,Result.andThen,eV]
  rw[hr]
  simpa using KG p w (e::l) 0 h

theorem FD{ρ:List Sx.Loc}{x:En}{v:Value}(h:AVR ρ (enA x) v):v=eV x:=by
 unfold enA at h
 cases h with
 |agg h=>
  cases h with|cons a h=>cases h with|cons b h=>cases h with|cons c h=>cases h with|cons d h=>cases h with|cons e h=>cases h with|cons f h=>
   cases h;cases a;cases b;cases c;cases d;cases e;cases f;rfl

end Go.Proofs.YtcabofadpheomaaGreat.L1
end

section
namespace Go.Proofs.YtcabofadpheomaaGreat.L1
open Go Go.Proofs Go.RowKit Go.Sx Go.Sx.M Go.ChangeMaps Go.MapKept Go.WideElems

theorem Fy:∀{L L':List (En×Int)},L.map fiA=L'.map fiA→L=L'
 | [],[],_=>rfl
 | [],_::_,h=>by cases h
 |_::_,[],h=>by cases h
 |x::L,y::L',h=>by
  rw[List.map_cons,List.map_cons,List.cons.injEq] at h
  obtain⟨h1,h2⟩:=h
  obtain⟨⟨a,b,c,d,e,f⟩,n⟩:=x
  obtain⟨⟨a',b',c',d',e',f'⟩,n'⟩:=y
  simp only[fiA,enA,AV.tuple.injEq,List.cons.injEq,AV.agg.injEq,AV.w64.injEq,AV.int.injEq,true_and,and_true] at h1
  obtain⟨⟨rfl,rfl,rfl,rfl,rfl,rfl⟩,rfl⟩:=h1
  rw[Fy h2]

theorem Fx{es:List AV}{b:Nat}{own:List Nat}{w:World}{L:List (En×Int)}(h:ObjR fiT es b own w)(hes:es=L.map fiA):own=[b]∧∃l c,w.heap[b]?=some (.map l c)∧MapF l c L:=by
 cases h with
 |raw m hm=>exact absurd hm (by rintro (⟨h1,_⟩|h1);exact absurd h1 (by decide);exact h1)
 |mk h0 ρ0 o0 hrep=>exact hrep.elim
 |ext hx=>
  rcases hx with⟨h1,_⟩| ⟨_,h2,L',l,c,h3,h4,h5⟩| ⟨h1,_⟩
  ·exact absurd h1 (by decide)
  ·obtain rfl:=Fy (hes▸h3)
   exact⟨h2,l,c,h4,h5⟩
  ·exact absurd h1 (by decide)

theorem wa{es:Array MapEntry}{c:Nat}{L:List (En×Int)}(h:MapF es c L):∀e∈es.toList,∃q,e.key=eV q:=fun e he=>let ⟨q,_,h1,_⟩:=h.is e he;⟨q,h1⟩

theorem AD{es es':Array MapEntry}{c c':Nat}{L:List (En×Int)}(h:MapF es c L){q:En}{n:Int}(hb:(es'.toList.map (·.born)).Nodup)(ho:∀x∈es'.toList,x.born<c')(hp:es'.toList.Pairwise fun x y=>x.key≠y.key)
  (h1:∀x∈es'.toList,(x.key=eV q∧x.val= .int .i64 n)∨(x∈es.toList∧x.key≠eV q)) (h2:∃x∈es'.toList,x.key=eV q) (h3:∀x∈es.toList,x.key≠eV q→x∈es'.toList):MapF es' c' ((q,n)::L):=by
 refine⟨hb,ho,fun x hx=> ?_,fun p hp=> ?_,hp⟩
 ·rcases h1 x hx with⟨e1,e2⟩| ⟨e1,e2⟩
  ·exact⟨q,n,e1,e2,by simp[fiG]⟩
  ·obtain⟨p,m,g1,g2,g3⟩:=h.is x e1
   refine⟨p,m,g1,g2, ?_⟩
   rw[fiG,if_neg (fun e=>e2 (by rw[g1];exact congrArg eV e.symm))]
   exact g3
 ·by_cases e:q=p
  ·subst e;exact h2
  ·rw[fiG,if_neg e] at hp
   obtain⟨x,hx,hk⟩:=h.all p hp
   exact⟨x,h3 x hx (fun hk'=>e (iN (hk'▸hk))),hk⟩

theorem Lv{L L':List Int}(h:L.map noA=L'.map noA):L=L':=
 List.map_inj_right (f:=noA) (fun _ _ h=>by simpa [noA] using h)|>.1 h

theorem E6{es:List AV}{b:Nat}{own:List Nat}{w:World}{L:List Int}(h:ObjR noT es b own w)(hes:es=L.map noA):own=[b]∧∃l c,w.heap[b]?=some (.map l c)∧MapK l c L:=by
 cases h with
 |raw m hm=>exact absurd hm (by rintro (⟨h1,_⟩|h1);exact absurd h1 (by decide);exact h1)
 |mk h0 ρ0 o0 hrep=>exact hrep.elim
 |ext hx=>
  rcases hx with⟨h1,_⟩| ⟨h1,_⟩| ⟨_,h2,L',l,c,h3,h4,h5⟩
  ·exact absurd h1 (by decide)
  ·exact absurd h1 (by decide)
  ·obtain rfl:=Lv (hes▸h3)
   exact⟨h2,l,c,h4,h5⟩

theorem Et:∀(L K:List Int),K.Nodup→(∀q,q∈K↔q∈L)→K.length=dfN L
 | [],K,_,h=>by
  cases K with
  |nil=>rfl
  |cons x K=>exact absurd ((h x).1 List.mem_cons_self) (by simp)
 |x::L,K,hn,h=>by
  rw[dfN]
  by_cases hx:x∈L
  ·rw[if_pos hx]
   refine Et L K hn fun q=>(h q).trans ⟨fun hq=> ?_,fun hq=>List.mem_cons_of_mem _ hq⟩
   rcases List.mem_cons.1 hq with rfl|hq
   ·exact hx
   ·exact hq
  ·rw[if_neg hx]
   have hk:x∈K:=(h x).2 List.mem_cons_self
   have:=Et L (K.erase x) (hn.erase x) fun q=>by
    rw[hn.mem_erase_iff,h q,List.mem_cons]
    constructor
    ·rintro⟨h1,h2⟩
     exact h2.resolve_left h1
    ·exact fun hq=>⟨fun e=>hx (e▸hq), .inr hq⟩
   rw[←this,List.length_erase_of_mem hk]
   have:0<K.length:=List.length_pos_of_mem hk
   omega

theorem GU{es:Array MapEntry}{c:Nat}{L:List Int}(h:MapK es c L):es.size=dfN L:=by
 have hk:∀l:List MapEntry,(∀x∈l,∃q,x.key=Value.int .i64 q∧q∈L)→∃K:List Int,l.map (·.key)=K.map (Value.int .i64):=by
  intro l
  induction l with
  |nil=>exact fun _=>⟨[],rfl⟩
  |cons x l ih=>
   intro hl
   obtain⟨q,hq,_⟩:=hl x List.mem_cons_self
   obtain⟨K,hK⟩:=ih fun y hy=>hl y (List.mem_cons_of_mem _ hy)
   exact⟨q::K,by rw[List.map_cons,List.map_cons,hq,hK]⟩
 obtain⟨K,hK⟩:=hk _ h.is
 have hlen:es.size=K.length:=by
  have:=congrArg List.length hK
  simpa using this
 rw[hlen]
 refine Et L K ?_ fun q=>⟨fun hq=> ?_,fun hq=> ?_⟩
 ·have:(es.toList.map (·.key)).Nodup:=List.pairwise_map.2 h.apart
  rw[hK] at this
  exact (List.pairwise_map.1 this).imp fun hne e=>hne (by rw[e])
 ·have:Value.int .i64 q∈es.toList.map (·.key):=by rw[hK];exact List.mem_map_of_mem hq
  obtain⟨x,hx,hxk⟩:=List.mem_map.1 this
  obtain⟨q',h1,h2⟩:=h.is x hx
  rw[h1] at hxk
  cases hxk
  exact h2
 ·obtain⟨x,hx,hxk⟩:=h.all q hq
  have:Value.int .i64 q∈es.toList.map (·.key):=List.mem_map.2 ⟨x,hx,hxk⟩
  rw[hK] at this
  obtain⟨q',h1,h2⟩:=List.mem_map.1 this
  cases h2
  exact h1

theorem FK(em:Bool)(q:Int)(w:World):(Instr.checkKey em 10000 3 (.int .i64 q)).run Tryz.prog w= .ok () w:=by kernel_rfl

theorem KY(q:Int)(w:World):(Instr.keyThatStays (.int .i64 q) (.int .i64 q)).run Tryz.prog w= .ok (.int .i64 q) w:=by
 simp[Instr.keyThatStays,Instr.sameBits]

theorem MS(q:Int)(d:TypeDesc)(hd:∃k,d= .int k):∀(l:List MapEntry) (i:Nat),(∀e∈l,∃q,e.key= .int .i64 q)→
  (Instr.findNow d (.int .i64 q) l i=some none∧∀e∈l,e.key≠ .int .i64 q)∨∃j e,Instr.findNow d (.int .i64 q) l i=some (some (i+j,e.val))∧l[j]?=some e∧e.key= .int .i64 q
 | [],i,_=> .inl ⟨rfl,by simp⟩
 |e::l,i,h=>by
  obtain⟨k,rfl⟩:=hd
  obtain⟨p,hp⟩:=h e List.mem_cons_self
  by_cases hq:q=p
  ·subst hq
   exact .inr ⟨0,e,by simp[Instr.findNow,Instr.sameNow,hp],rfl,hp⟩
  ·have hne:e.key≠ .int .i64 q:=fun h=>hq (by rw[hp] at h;cases h;rfl)
   rcases MS q (.int k) ⟨k,rfl⟩ l (i+1) fun e he=>h e (List.mem_cons_of_mem _ he) with⟨h1,h2⟩| ⟨j,e',h1,h2,h3⟩
   ·refine .inl ⟨?_,fun e' he'=> ?_⟩
    ·simp only[Instr.findNow,Instr.sameNow,hp,if_true,beq_eq_false_iff_ne.2 hq,h1]
    ·rcases List.mem_cons.1 he' with rfl|he'
     ·exact hne
     ·exact h2 e' he'
   ·refine .inr ⟨j+1,e', ?_,by simpa using h2,h3⟩
    simp only[Instr.findNow,Instr.sameNow,hp,if_true,beq_eq_false_iff_ne.2 hq,h1]
    rw[Nat.add_assoc,Nat.add_comm 1 j]

theorem OB(q:Int)(w:World)(l:List MapEntry)(h:∀e∈l,∃q,e.key= .int .i64 q):
  ((Instr.findKey 3 (.int .i64 q) l).run Tryz.prog w= .ok none w∧∀e∈l,e.key≠ .int .i64 q)∨∃j e,(Instr.findKey 3 (.int .i64 q) l).run Tryz.prog w= .ok (some (j,e.val)) w∧l[j]?=some e∧e.key= .int .i64 q:=by
 rcases MS q (.int .i64) ⟨_,rfl⟩ l 0 h with⟨h1,h2⟩| ⟨j,e,h1,h2,h3⟩
 ·exact .inl ⟨by simp[Instr.findKey,run_underlying Tryz.underlying3,h1,Result.andThen],h2⟩
 ·exact .inr ⟨j,e,by simp[Instr.findKey,run_underlying Tryz.underlying3,h1,Result.andThen],h2,h3⟩

theorem AC{es es':Array MapEntry}{c c':Nat}{L:List Int}(h:MapK es c L){q:Int}(hb:(es'.toList.map (·.born)).Nodup)(ho:∀x∈es'.toList,x.born<c')(hp:es'.toList.Pairwise fun x y=>x.key≠y.key)
  (h1:∀x∈es'.toList,x.key= .int .i64 q∨x∈es.toList) (h2:∃x∈es'.toList,x.key= .int .i64 q) (h3:∀x∈es.toList,x.key≠ .int .i64 q→x∈es'.toList):MapK es' c' (q::L):=by
 refine⟨hb,ho,fun x hx=> ?_,fun p hp=> ?_,hp⟩
 ·rcases h1 x hx with e|e
  ·exact⟨q,e,List.mem_cons_self⟩
  ·obtain⟨p,g1,g2⟩:=h.is x e
   exact⟨p,g1,List.mem_cons_of_mem _ g2⟩
 ·by_cases e:p=q
  ·subst e;exact h2
  ·obtain⟨x,hx,hk⟩:=h.all p ((List.mem_cons.1 hp).resolve_left e)
   exact⟨x,h3 x hx (fun hk'=>e (by rw[hk] at hk';cases hk';rfl)),hk⟩

theorem GT{L:List (En×Int)}{q:En}{n:Int}{b:Nat}{own:List Nat}{w:World}{kv vv:Value}(ho:ObjR fiT (List.map fiA L) b own w)(hown:∀g∈own,g<w.heap.size)(hk:AVR [] (enA q) kv)(hv:AVR [] (.int .i64 n) vv):
  ∃w' own',(Instr.mapUpdate fiT (.map (some b)) kv vv).run Tryz.prog w= .ok () w'∧ObjR fiT (List.map fiA ((q,n)::L)) b own' w'∧(∀g∈own',g<w'.heap.size∧(g∈own∨w.heap.size≤g))∧Bel (but w.heap.size own) w w':=by
 obtain⟨rfl,l,c,hb,hF⟩:=Fx ho rfl
 rw[FD hk]
 cases hv
 have fin:∀l' c',MapF l' c' ((q,n)::L)→ObjR fiT (List.map fiA ((q,n)::L)) b [b] (setBlock w b (.map l' c'))∧(∀g∈[b],g< (setBlock w b (.map l' c')).heap.size∧(g∈[b]∨w.heap.size≤g))∧Bel (but w.heap.size [b]) w (setBlock w b (.map l' c')):=fun l' c' h=>by
  have hs:(setBlock w b (.map l' c')).heap.size=w.heap.size:=by unfold setBlock;simp
  refine⟨.ext (.inr (.inl ⟨rfl,rfl,(q,n)::L,l',c',rfl,heap_setBlock_same hb _,h⟩)),fun g hg=>⟨by rw[hs];exact hown g hg, .inl hg⟩,⟨⟨rfl,rfl,rfl,by rw[hs];exact Nat.le_refl _,fun g hg=>heap_setBlock_other hb _ (fun e=>hg.2 (List.mem_singleton.2 e))⟩,fun _=>Nat.le_refl _⟩⟩
 rcases uf q w l.toList (wa hF) with⟨h1,h2⟩| ⟨j,e0,h1,h2,h3⟩
 ·have hl:(l.push ⟨eV q, .int .i64 n,c⟩).toList=l.toList++[⟨eV q, .int .i64 n,c⟩]:=by simp
  have hM:MapF (l.push ⟨eV q, .int .i64 n,c⟩) (c+1) ((q,n)::L):=by
   refine AD hF ?_ (fun x hx=> ?_) ?_ (fun x hx=> ?_) ⟨⟨eV q, .int .i64 n,c⟩,by simp,rfl⟩ fun x hx _=>by rw[hl];exact List.mem_append_left _ hx
   ·rw[hl,List.map_append,List.map_cons,List.map_nil,List.nodup_append]
    refine⟨hF.born,by simp,fun a ha d hd e=> ?_⟩
    have hd:d=c:=by simpa using hd
    obtain⟨x,hx,rfl⟩:=List.mem_map.1 ha
    have:=hF.old x hx
    omega
   ·rw[hl] at hx
    rcases List.mem_append.1 hx with hx|hx
    ·exact Nat.lt_succ_of_lt (hF.old x hx)
    ·rw[List.mem_singleton] at hx;subst hx;exact Nat.lt_succ_self _
   ·rw[hl,List.pairwise_append]
    refine⟨hF.apart,List.pairwise_singleton _ _,fun x hx y hy=> ?_⟩
    rw[List.mem_singleton] at hy;subst hy
    exact h2 x hx
   ·rw[hl] at hx
    rcases List.mem_append.1 hx with hx|hx
    ·exact .inr ⟨hx,h2 x hx⟩
    ·rw[List.mem_singleton] at hx;subst hx;exact .inl ⟨rfl,rfl⟩
  refine⟨_,[b], ?_,fin _ _ hM⟩
  simp[fiT,Instr.mapUpdate,run_underlying Tryz.underlying141,MapKept.run_getObj_map hb,hZ,h1,MapKept.run_setObj_map _ hb,Result.andThen,setBlock]
 ·have hj:l[j]?=some e0:=by simpa using h2
  have hset:(l.modify j (fun e'=>{ e' with key:=eV q,val:= .int .i64 n})).toList=l.toList.set j { e0 with val:= .int .i64 n}:=by
   rw[Array.toList_modify,modify_eq_set _ _ _ _ h2,←h3]
  obtain⟨hlt,hje⟩:=List.getElem?_eq_some_iff.1 h2
  have hsplit:l.toList=l.toList.take j++e0::l.toList.drop (j+1):=by
   rw[←hje,List.getElem_cons_drop,List.take_append_drop]
  have hl:(l.modify j (fun e'=>{ e' with key:=eV q,val:= .int .i64 n})).toList=l.toList.take j++{ e0 with val:= .int .i64 n}::l.toList.drop (j+1):=by
   rw[hset,List.set_eq_take_append_cons_drop,if_pos hlt]
  have hap0:=hF.apart
  have hb0:=hF.born
  have hm0:∀x,x∈l.toList↔x∈l.toList.take j++e0::l.toList.drop (j+1):=fun x=>by rw[←hsplit]
  rw[hsplit] at hap0 hb0
  generalize l.toList.take j=l1 at hl hap0 hb0 hm0
  generalize l.toList.drop (j+1)=l2 at hl hap0 hb0 hm0
  obtain⟨q1,q2,q3⟩:=List.pairwise_append.1 hap0
  obtain⟨q4,q5⟩:=List.pairwise_cons.1 q2
  have hM:MapF (l.modify j (fun e'=>{ e' with key:=eV q,val:= .int .i64 n})) c ((q,n)::L):=by
   refine AD hF ?_ (fun x hx=> ?_) ?_ (fun x hx=> ?_) ⟨{ e0 with val:= .int .i64 n},by rw[hl];simp,h3⟩ fun x hx hk=> ?_
   ·rw[hl];simpa using hb0
   ·rw[hl] at hx
    rcases List.mem_append.1 hx with hx|hx
    ·exact hF.old x ((hm0 x).2 (List.mem_append_left _ hx))
    ·rcases List.mem_cons.1 hx with rfl|hx
     ·exact hF.old e0 (List.mem_of_getElem? h2)
     ·exact hF.old x ((hm0 x).2 (List.mem_append_right _ (List.mem_cons_of_mem _ hx)))
   ·rw[hl,List.pairwise_append]
    refine⟨q1,List.pairwise_cons.2 ⟨q4,q5⟩,fun x hx y hy=> ?_⟩
    rcases List.mem_cons.1 hy with rfl|hy
    ·exact q3 x hx e0 List.mem_cons_self
    ·exact q3 x hx y (List.mem_cons_of_mem _ hy)
   ·rw[hl] at hx
    rcases List.mem_append.1 hx with hx|hx
    ·exact .inr ⟨(hm0 x).2 (List.mem_append_left _ hx),fun e=>q3 x hx e0 List.mem_cons_self (e.trans h3.symm)⟩
    ·rcases List.mem_cons.1 hx with rfl|hx
     ·exact .inl ⟨h3,rfl⟩
     ·exact .inr ⟨(hm0 x).2 (List.mem_append_right _ (List.mem_cons_of_mem _ hx)),fun e=>q4 x hx (h3.trans e.symm)⟩
   ·rw[hl]
    rcases List.mem_append.1 ((hm0 x).1 hx) with hx|hx
    ·exact List.mem_append_left _ hx
    ·rcases List.mem_cons.1 hx with rfl|hx
     ·exact absurd h3 hk
     ·exact List.mem_append_right _ (List.mem_cons_of_mem _ hx)
  refine⟨_,[b], ?_,fin _ _ hM⟩
  simp[fiT,Instr.mapUpdate,run_underlying Tryz.underlying141,MapKept.run_getObj_map hb,hZ,h1,hj,h3,xm,MapKept.run_setObj_map _ hb,Result.andThen,setBlock]

theorem GS{L:List Int}{q:Int}{b:Nat}{own:List Nat}{w:World}{kv vv:Value}(ho:ObjR noT (List.map noA L) b own w)(hown:∀g∈own,g<w.heap.size)(hk:AVR [] (.int .i64 q) kv)(_:AVR [] (.agg []) vv):
  ∃w' own',(Instr.mapUpdate noT (.map (some b)) kv vv).run Tryz.prog w= .ok () w'∧ObjR noT (List.map noA (q::L)) b own' w'∧(∀g∈own',g<w'.heap.size∧(g∈own∨w.heap.size≤g))∧Bel (but w.heap.size own) w w':=by
 obtain⟨rfl,l,c,hb,hF⟩:=E6 ho rfl
 cases hk
 have keys:∀e∈l.toList,∃q,e.key= .int .i64 q:=fun e he=>let ⟨q,h1,_⟩:=hF.is e he;⟨q,h1⟩
 have fin:∀l' c',MapK l' c' (q::L)→ObjR noT (List.map noA (q::L)) b [b] (setBlock w b (.map l' c'))∧(∀g∈[b],g< (setBlock w b (.map l' c')).heap.size∧(g∈[b]∨w.heap.size≤g))∧Bel (but w.heap.size [b]) w (setBlock w b (.map l' c')):=fun l' c' h=>by
  have hs:(setBlock w b (.map l' c')).heap.size=w.heap.size:=by unfold setBlock;simp
  refine⟨.ext (.inr (.inr ⟨rfl,rfl,q::L,l',c',rfl,heap_setBlock_same hb _,h⟩)),fun g hg=>⟨by rw[hs];exact hown g hg, .inl hg⟩,⟨⟨rfl,rfl,rfl,by rw[hs];exact Nat.le_refl _,fun g hg=>heap_setBlock_other hb _ (fun e=>hg.2 (List.mem_singleton.2 e))⟩,fun _=>Nat.le_refl _⟩⟩
 rcases OB q w l.toList keys with⟨h1,h2⟩| ⟨j,e0,h1,h2,h3⟩
 ·have hl:(l.push ⟨.int .i64 q,vv,c⟩).toList=l.toList++[⟨.int .i64 q,vv,c⟩]:=by simp
  have hM:MapK (l.push ⟨.int .i64 q,vv,c⟩) (c+1) (q::L):=by
   refine AC hF ?_ (fun x hx=> ?_) ?_ (fun x hx=> ?_) ⟨⟨.int .i64 q,vv,c⟩,by simp,rfl⟩ fun x hx _=>by rw[hl];exact List.mem_append_left _ hx
   ·rw[hl,List.map_append,List.map_cons,List.map_nil,List.nodup_append]
    refine⟨hF.born,by simp,fun a ha d hd e=> ?_⟩
    have hd:d=c:=by simpa using hd
    obtain⟨x,hx,rfl⟩:=List.mem_map.1 ha
    have:=hF.old x hx
    omega
   ·rw[hl] at hx
    rcases List.mem_append.1 hx with hx|hx
    ·exact Nat.lt_succ_of_lt (hF.old x hx)
    ·rw[List.mem_singleton] at hx;subst hx;exact Nat.lt_succ_self _
   ·rw[hl,List.pairwise_append]
    refine⟨hF.apart,List.pairwise_singleton _ _,fun x hx y hy=> ?_⟩
    rw[List.mem_singleton] at hy;subst hy
    exact h2 x hx
   ·rw[hl] at hx
    rcases List.mem_append.1 hx with hx|hx
    ·exact .inr hx
    ·rw[List.mem_singleton] at hx;subst hx;exact .inl rfl
  refine⟨_,[b], ?_,fin _ _ hM⟩
  simp[noT,Instr.mapUpdate,run_underlying Tryz.underlying116,MapKept.run_getObj_map hb,FK,h1,MapKept.run_setObj_map _ hb,Result.andThen,setBlock]
 ·have hj:l[j]?=some e0:=by simpa using h2
  have hset:(l.modify j (fun e'=>{ e' with key:= .int .i64 q,val:=vv})).toList=l.toList.set j { e0 with val:=vv}:=by
   rw[Array.toList_modify,modify_eq_set _ _ _ _ h2,←h3]
  obtain⟨hlt,hje⟩:=List.getElem?_eq_some_iff.1 h2
  have hsplit:l.toList=l.toList.take j++e0::l.toList.drop (j+1):=by
   rw[←hje,List.getElem_cons_drop,List.take_append_drop]
  have hl:(l.modify j (fun e'=>{ e' with key:= .int .i64 q,val:=vv})).toList=l.toList.take j++{ e0 with val:=vv}::l.toList.drop (j+1):=by
   rw[hset,List.set_eq_take_append_cons_drop,if_pos hlt]
  have hap0:=hF.apart
  have hb0:=hF.born
  have hm0:∀x,x∈l.toList↔x∈l.toList.take j++e0::l.toList.drop (j+1):=fun x=>by rw[←hsplit]
  rw[hsplit] at hap0 hb0
  generalize l.toList.take j=l1 at hl hap0 hb0 hm0
  generalize l.toList.drop (j+1)=l2 at hl hap0 hb0 hm0
  obtain⟨q1,q2,q3⟩:=List.pairwise_append.1 hap0
  obtain⟨q4,q5⟩:=List.pairwise_cons.1 q2
  have hM:MapK (l.modify j (fun e'=>{ e' with key:= .int .i64 q,val:=vv})) c (q::L):=by
   refine AC hF ?_ (fun x hx=> ?_) ?_ (fun x hx=> ?_) ⟨{ e0 with val:=vv},by rw[hl];simp,h3⟩ fun x hx hk=> ?_
   ·rw[hl];simpa using hb0
   ·rw[hl] at hx
    rcases List.mem_append.1 hx with hx|hx
    ·exact hF.old x ((hm0 x).2 (List.mem_append_left _ hx))
    ·rcases List.mem_cons.1 hx with rfl|hx
     ·exact hF.old e0 (List.mem_of_getElem? h2)
     ·exact hF.old x ((hm0 x).2 (List.mem_append_right _ (List.mem_cons_of_mem _ hx)))
   ·rw[hl,List.pairwise_append]
    refine⟨q1,List.pairwise_cons.2 ⟨q4,q5⟩,fun x hx y hy=> ?_⟩
    rcases List.mem_cons.1 hy with rfl|hy
    ·exact q3 x hx e0 List.mem_cons_self
    ·exact q3 x hx y (List.mem_cons_of_mem _ hy)
   ·rw[hl] at hx
    rcases List.mem_append.1 hx with hx|hx
    ·exact .inr ((hm0 x).2 (List.mem_append_left _ hx))
    ·rcases List.mem_cons.1 hx with rfl|hx
     ·exact .inl h3
     ·exact .inr ((hm0 x).2 (List.mem_append_right _ (List.mem_cons_of_mem _ hx)))
   ·rw[hl]
    rcases List.mem_append.1 ((hm0 x).1 hx) with hx|hx
    ·exact List.mem_append_left _ hx
    ·rcases List.mem_cons.1 hx with rfl|hx
     ·exact absurd h3 hk
     ·exact List.mem_append_right _ (List.mem_cons_of_mem _ hx)
  refine⟨_,[b], ?_,fin _ _ hM⟩
  simp[noT,Instr.mapUpdate,run_underlying Tryz.underlying116,MapKept.run_getObj_map hb,FK,h1,hj,h3,KY,MapKept.run_setObj_map _ hb,Result.andThen,setBlock]

theorem LA:MapsOK Tryz.prog:=by
 refine⟨?_, ?_, ?_, ?_, ?_⟩
 ·rintro t es k v ok b own w kv ⟨rfl,L,q,rfl,rfl,rfl⟩ ho hk
  obtain⟨_,l,c,hb,hF⟩:=Fx ho rfl
  rw[FD hk]
  rcases uf q w l.toList (wa hF) with⟨h1,h2⟩| ⟨j,e,h1,h2,h3⟩
  ·have hg:fiG q L=none:=Classical.byContradiction fun hn=>by
    obtain⟨x,hx,e⟩:=hF.all q hn
    exact h2 x hx e
   rw[hg]
   cases ok with
   |true=>exact⟨.tuple #[.int .i64 0, .bool false],by simp[fiT,Instr.lookup,run_underlying Tryz.underlying141,MapKept.run_getObj_map hb,hZ,h1,Result.andThen], .tuple (.cons (.int _ _) (.cons (.bool _) .nil))⟩
   |false=>exact⟨.int .i64 0,by simp[fiT,Instr.lookup,run_underlying Tryz.underlying141,MapKept.run_getObj_map hb,hZ,h1,Result.andThen], .int _ _⟩
  ·obtain⟨p,n,e1,e2,e3⟩:=hF.is e (List.mem_of_getElem? h2)
   obtain rfl:=iN (e1▸h3)
   rw[e3]
   rw[e2] at h1
   cases ok with
   |true=>exact⟨.tuple #[.int .i64 n, .bool true],by simp[fiT,Instr.lookup,run_underlying Tryz.underlying141,MapKept.run_getObj_map hb,hZ,h1,Result.andThen], .tuple (.cons (.int _ _) (.cons (.bool _) .nil))⟩
   |false=>exact⟨.int .i64 n,by simp[fiT,Instr.lookup,run_underlying Tryz.underlying141,MapKept.run_getObj_map hb,hZ,h1,Result.andThen], .int _ _⟩
 ·rintro t es v b own w ty ⟨rfl,L,rfl,rfl⟩ ho
  obtain⟨_,l,c,hb,hF⟩:=E6 ho rfl
  refine⟨.int .i64 (dfN L), ?_, .int _ _⟩
  simp[noT,Builtin.len_,run_underlying Tryz.underlying116,MapKept.run_getObj_map hb,Result.andThen,goInt,GU hF]
 ·rintro t es es' k v b own w kv vv (⟨rfl,L,q,n,rfl,rfl,rfl,rfl⟩| ⟨rfl,L,q,rfl,rfl,rfl,rfl⟩) ho hown hk hv
  ·exact GT ho hown hk hv
  ·exact GS ho hown hk hv
 ·rintro t es k v ok ⟨rfl,L,q,rfl,rfl,rfl⟩;rfl
 ·rintro t es es' k v (⟨rfl,L,q,n,rfl,rfl,rfl,rfl⟩| ⟨rfl,L,n,rfl,rfl,rfl,rfl⟩)<;>exact⟨rfl,rfl⟩

end Go.Proofs.YtcabofadpheomaaGreat.L1
end

