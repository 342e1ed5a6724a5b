/-
 Texts in one: SxC SxD.
-/
import Derived.Test.YtcabofadpheomaaGreatSxB

section
namespace Go.Sx

section
variable {P:Program}

theorem eQ{t:TypeId}{d:TypeDesc}(h:P.underlying t=some d)(w:World):(underlying t).run P w= .ok d w:=run_underlying h w

theorem fC{t:TypeId}{i:TypeInfo}(h:P.info? t=some i)(w:World):(typeInfo t).run P w= .ok i w:=by
 simp[typeInfo,h]

theorem qZ{t:TypeId}{s:Nat}(h:fo P t=some s):∃i,P.info? t=some i∧i.size=s:=by
 unfold fo at h
 split at h
 ·rename_i i hi;simp at h;exact⟨i,hi,h⟩
 ·simp at h

theorem fk{t:TypeId}{s:Nat}(h:fo P t=some s)(w:World):(sizeOf t).run P w= .ok s w:=by
 obtain⟨i,hi,rfl⟩:=qZ h
 simp[sizeOf,fC hi]

theorem jk{t:TypeId}{b:Bool}(h:mQ P t=some b)(w:World):(isAgg t).run P w= .ok b w:=by
 unfold mQ at h
 unfold isAgg
 split at h<;>simp at h<;>subst h
 ·rename_i hu;simp[eQ hu]
 ·rename_i hu;simp[eQ hu]
 ·rename_i d hs ha hu
  rw[Sem.run_bind,eQ hu]
  cases d<;>simp_all

theorem AVRs.drop{ρ:List Loc}:∀{xs:List AV} {vs:List Value} (n:Nat),AVRs ρ xs vs→AVRs ρ (xs.drop n) (vs.drop n)
 |_,_,0,h=>by simpa using h
 |_,_,_+1, .nil=> .nil
 |_,_,n+1, .cons _ h=>by simpa using AVRs.drop n h

theorem AVRs.take{ρ:List Loc}:∀{xs:List AV} {vs:List Value} (n:Nat),AVRs ρ xs vs→AVRs ρ (xs.take n) (vs.take n)
 |_,_,0,_=>by simpa using AVRs.nil
 |_,_,_+1, .nil=> .nil
 |_,_,n+1, .cons h0 h=>by simpa using AVRs.cons h0 (AVRs.take n h)

theorem lL{ρ:List Loc}{t:TypeId}{cs:List AV}{vs:List Value}{o:Nat}{x:AV}(h:e7 P t cs o=some x)(hr:AVRs ρ cs vs):
  ∃u,AVR ρ x u∧∀w,(part t vs.toArray o).run P w= .ok u w:=by
 unfold e7 at h
 split at h
 ·rename_i i hi hag
  split at h
  ·simp at h;subst h
   refine⟨.agg ((vs.drop o).take i.size).toArray, .agg ((hr.drop o).take i.size),fun w=> ?_⟩
   simp[part,jk hag,sizeOf,fC hi,List.extract_eq_take_drop]
  ·simp at h
 ·rename_i i hi hag
  obtain⟨v,hv,hx⟩:=hr.get h
  exact⟨v,hx,fun w=>by simp[part,jk hag,hv]⟩
 ·simp at h

theorem EV{ρ:List Loc}{cur:Array Value}:∀{L:List AV} {base:Nat},(∀(j:Nat) c,L[j]?=some c→∃v,cur[base+j]?=some v∧AVR ρ c v)→
  ∃vs:List Value,AVRs ρ L vs∧∀(j:Nat) v,vs[j]?=some v→cur[base+j]?=some v
 | [],_,_=>⟨[], .nil,by simp⟩
 |c::L,base,h=>by
  obtain⟨v,hv,hc⟩:=h 0 c (by simp)
  obtain⟨vs,hvs,hg⟩:=EV (L:=L) (base:=base+1) fun j c' hj=>by
   obtain⟨u,hu,hr⟩:=h (j+1) c' (by simpa using hj)
   exact⟨u,by rw[←hu];congr 1;omega,hr⟩
  refine⟨v::vs, .cons hc hvs,fun j u hu=> ?_⟩
  cases j with
  |zero=>simp at hu;subst hu;simpa using hv
  |succ j=>have:=hg j u (by simpa using hu);rw[←this];congr 1;omega

theorem BlkR.cellsOf{ρ:List Loc}{B:Gd}{w:World}{l:Loc}{k:Blk}(hb:BlkR ρ B w l k){i:Nat}{e:AV}(he:k.elems[i]?=some e):
  ∃vs:List Value,AVRs ρ e.cells vs∧vs.length=k.esz∧∀w':World,w'.heap[l.b]?=w.heap[l.b]?→∀(j:Nat) v,vs[j]?=some v→w'.cell? ⟨l.b,l.off+i*l.esz+j,none⟩=some v:=by
 obtain⟨hesz,cur,ty,fr,hrow,hel,_⟩:=hb
 obtain⟨hlen,hs,hc⟩:=hel i e he
 obtain⟨vs,hvs,hg⟩:=EV (ρ:=ρ) (cur:=cur) (L:=e.cells) (base:=l.off+i*k.esz) fun j c hj=>by
  obtain⟨v,hv,hr⟩:=hc j c hj
  refine⟨v,hv, ?_⟩
  split at hr
  ·exact hr.of_nil
  ·exact hr
 refine⟨vs,hvs,by rw[←hvs.length,hlen],fun w' hw j v hj=> ?_⟩
 rw[cell_of_row w' l.b _ cur ty fr (hw.trans hrow),hesz]
 exact hg j v hj

theorem sI{ρ:List Loc}{B:Gd}{w0:World}{l:Loc}{k:Blk}(hb:BlkR ρ B w0 l k){t:TypeId}{i o:Nat}{x:AV}(h:k.read P t i o=some x):
  ∃u,AVR ρ x u∧∀w,w.heap[l.b]?=w0.heap[l.b]?→(loadVar t ⟨l.b,l.off+i*l.esz+o,none⟩).run P w= .ok u w:=by
 unfold Blk.read at h
 split at h
 ·rename_i e he
  obtain⟨vs,hvs,_,hcell⟩:=hb.cellsOf he
  unfold e7 at h
  split at h
  ·rename_i ti hi hag
   split at h
   ·rename_i hle
    simp at h;subst h
    have hle:=of_decide_eq_true hle
    refine⟨.agg ((vs.drop o).take ti.size).toArray, .agg ((hvs.drop o).take ti.size),fun w hw=> ?_⟩
    have hl:=run_loadCells_list (P:=P) w ⟨l.b,l.off+i*l.esz+o,none⟩ ((vs.drop o).take ti.size) fun j v hj=>by
     rw[List.getElem?_take] at hj
     split at hj
     ·rw[List.getElem?_drop] at hj
      have:=hcell w hw _ _ hj
      rw[show (⟨l.b,l.off+i*l.esz+o,none⟩:Addr).add j=⟨l.b,l.off+i*l.esz+(o+j),none⟩ from by
       unfold Addr.add;split
       ·rename_i h0;subst h0;rfl
       ·simp[Nat.add_assoc]]
      exact this
     ·simp at hj
    have hn:((vs.drop o).take ti.size).length=ti.size:=by
     rw[List.length_take,List.length_drop,←hvs.length];omega
    rw[hn] at hl
    simp[loadVar,jk hag,sizeOf,fC hi,hl]
   ·simp at h
  ·rename_i ti hi hag
   obtain⟨v,hv,hx⟩:=hvs.get h
   refine⟨v,hx,fun w hw=> ?_⟩
   have:=hcell w hw o v hv
   simp[loadVar,jk hag,this]
  ·simp at h
 ·simp at h

theorem lw(a b:BitVec 64):(((a.toNat:Int))==(b.toNat:Int))=(a==b):=by
 rw[Bool.eq_iff_iff,beq_iff_eq,beq_iff_eq,Int.ofNat_inj,BitVec.toNat_inj]

theorem jD{ρ:List Loc}{x:AV}{u:Value}{c:Bool}(hc:x.nilPtr=some c)(hr:AVR ρ x u):∃p,u= .pointer p∧p.isNone=c:=by
 unfold AV.nilPtr at hc
 split at hc<;>simp at hc<;>subst hc<;>cases hr<;>exact⟨_,rfl,rfl⟩

theorem yT{ρ:List Loc}{t:TypeId}{dsc:TypeDesc}(ht:P.underlying t=some dsc){x y:AV}{u v:Value}{b:Bool}(h:ul dsc x y=some b)(hx:AVR ρ x u)(hy:AVR ρ y v)(D:Nat)(w:World):
  (Op.equalIn (D+1) t u v).run P w= .ok b w:=by
 unfold ul at h
 split at h
 ·split at h
  ·rename_i h1 h2
   simp at h;subst h
   rw[gj hx h1,gj hy h2]
   exact run_equalIn_bool' w D t _ _ ht
  ·simp at h
 ·split at h
  ·rename_i h1 h2
   simp at h;subst h
   rw[gT hx h1,gT hy h2]
   simp[Op.equalIn,eQ ht,lw]
  ·split at h
   ·rename_i h1 h2
    split at h
    ·rename_i hk
     simp at h;subst h
     have hk:=of_decide_eq_true hk
     subst hk
     rw[eX hx h1,eX hy h2]
     simp[Op.equalIn,eQ ht]
    ·simp at h
   ·simp at h
 ·split at h
  ·rename_i h1 h2
   simp at h;subst h
   rw[gE hx h1,gE hy h2]
   simp[Op.equalIn,eQ ht]
  ·simp at h
 ·split at h
  ·rename_i c h1
   obtain⟨p,rfl,hp⟩:=jD h1 hx
   cases hy
   simp at h;subst h
   rw[←hp]
   cases p<;>simp[Op.equalIn,eQ ht]
  ·rename_i h1
   obtain⟨p,rfl,hp⟩:=jD h1 hx
   obtain⟨q,rfl,hq⟩:=jD h hy
   cases p<;>simp at hp
   rw[←hq]
   cases q<;>simp[Op.equalIn,eQ ht]
  ·simp at h
 ·simp at h

theorem nE(b:Bool)(bs:List Bool):jb (b::bs)=(b&&jb bs):=by
 cases bs<;>simp[jb]

theorem jP{xs ys:List Value}{D:Nat}(f:Field→Option Bool)
  (hf:∀fd b,f fd=some b→∀w,(do let a←part fd.type xs.toArray fd.offset;let c←part fd.type ys.toArray fd.offset;Op.equalIn D fd.type a c:Sem Bool).run P w= .ok b w):
  ∀ (fs : List Field) (bs : List Bool), fc (fs.map fun fd => match decide (fd.name = "_") with | true => some true | false => f fd) = some bs →
   ∀w,(Op.eqFields D xs.toArray ys.toArray fs).run P w= .ok (jb bs) w
 | [],bs,h,w=>by simp[fc] at h;subst h;simp[Op.eqFields,jb]
 |fd::fs,bs,h,w=>by
  simp only[List.map_cons] at h
  by_cases hn : fd.name = "_"
  ·simp only[hn,decide_true] at h
   simp only[fc] at h
   split at h
   ·rename_i r hr
    simp at h;subst h
    rw[nE,Bool.true_and]
    simp only[Op.eqFields,hn,ne_eq,not_true,if_false]
    exact jP f hf fs r hr w
   ·simp at h
  ·simp only[hn,decide_false] at h
   cases hb:f fd with
   |none=>simp[hb,fc] at h
   |some b=>
    simp only[hb,fc] at h
    split at h
    ·rename_i r hr
     simp at h;subst h
     have h1:=hf fd b hb w
     have h2:=jP f hf fs r hr w
     simp only[Op.eqFields,ne_eq,hn,not_false_iff,if_true]
     simp only[Sem.run_bind] at h1⊢
     generalize hp1:(part fd.type xs.toArray fd.offset).run P w=r1 at h1
     cases r1 with
     |halt _ _=>simp[Result.andThen] at h1
     |ok a w1=>
      simp only[Result.andThen_ok] at h1⊢
      generalize hp2:(part fd.type ys.toArray fd.offset).run P w1=r2 at h1
      cases r2 with
      |halt _ _=>simp[Result.andThen] at h1
      |ok c w2=>
       simp only[Result.andThen_ok] at h1⊢
       rw[h1]
       simp only[Result.andThen_ok]
       rw[nE]
       cases b<;>simp[h2]
    ·simp at h

theorem oo{xs ys:Array Value}{e:TypeId}{D s:Nat}(f:Nat→Option Bool)
  (hf:∀j b,f j=some b→∀w,(do let a←part e xs (j*s);let c←part e ys (j*s);Op.equalIn D e a c:Sem Bool).run P w= .ok b w):
  ∀(js:List Nat) (bs:List Bool),fc (js.map f)=some bs→∀w,
   ((forIn js ((none,()):Option Bool×PUnit) fun j _=>do
     let a←part e xs (j*s)
     let c←part e ys (j*s)
     let r←Op.equalIn D e a c
     if (!r)=true then pure (ForInStep.done (some false,())) else pure (ForInStep.yield (none,())):Sem (Option Bool×PUnit))).run P w= .ok (if jb bs then (none,()) else (some false,())) w
 | [],bs,h,w=>by simp[fc] at h;subst h;simp[jb]
 |j::js,bs,h,w=>by
  simp only[List.map_cons] at h
  cases hb:f j with
  |none=>simp[hb,fc] at h
  |some b=>
   simp only[hb,fc] at h
   split at h
   ·rename_i r hr
    simp at h;subst h
    have h1:=hf j b hb w
    have h2:=oo f hf js r hr w
    simp only[List.forIn_cons,Sem.run_bind] at h1⊢
    generalize hp1:(part e xs (j*s)).run P w=r1 at h1
    cases r1 with
    |halt _ _=>simp[Result.andThen] at h1
    |ok a w1=>
     simp only[Result.andThen_ok] at h1⊢
     generalize hp2:(part e ys (j*s)).run P w1=r2 at h1
     cases r2 with
     |halt _ _=>simp[Result.andThen] at h1
     |ok c w2=>
      simp only[Result.andThen_ok] at h1⊢
      rw[h1]
      simp only[Result.andThen_ok]
      rw[nE]
      cases b
      ·simp
      ·simpa using h2
   ·simp at h

theorem nY{ρ:List Loc}:∀(d:Nat) {t:TypeId} {x y:AV} {u v:Value} {b:Bool},eqT P d t x y=some b→AVR ρ x u→AVR ρ y v→∀(D:Nat),d≤D→∀w,(Op.equalIn D t u v).run P w= .ok b w
 |0,_,_,_,_,_,_,h,_,_,_,_,_=>by simp[eqT] at h
 |d+1,t,x,y,u,v,b,h,hx,hy,0,hD,w=>by omega
 |d+1,t,x,y,u,v,b,h,hx,hy,D+1,hD,w=>by
  have hsub:∀(e:TypeId) (o:Nat) (xs ys:List AV) (us vs:List Value),AVRs ρ xs us→AVRs ρ ys vs→∀b,(match e7 P e xs o,e7 P e ys o with|some a,some b=>eqT P d e a b|_,_=>none)=some b→
    ∀w,(do let a←part e us.toArray o;let c←part e vs.toArray o;Op.equalIn D e a c:Sem Bool).run P w= .ok b w:=by
   intro e o xs ys us vs hxs hys b hb w
   split at hb
   ·rename_i a c ha hc
    obtain⟨ua,hua,hra⟩:=lL (P:=P) ha hxs
    obtain⟨uc,huc,hrc⟩:=lL (P:=P) hc hys
    simp only[Sem.run_bind,hra,hrc,Result.andThen_ok]
    exact nY d hb hua huc D (by omega) w
   ·simp at hb
  unfold eqT at h
  split at h
  ·rename_i fs ht
   split at h
   ·simp at h
   ·rename_i hp
    split at h
    ·rename_i xs ys
     split at h
     ·rename_i bs hbs
      simp at h;subst h
      cases hx with
      |agg hx=>cases hy with
       |agg hy=>
        have hfo:P.fieldsOf t=fs:=by simp[Program.fieldsOf,ht]
        rw[run_equalIn_struct w D t _ _ (by rw[hfo];exact ht) hp,hfo]
        exact jP (fun fd=>match e7 P fd.type xs fd.offset,e7 P fd.type ys fd.offset with|some a,some b=>eqT P d fd.type a b|_,_=>none)
         (fun fd b hb w=>hsub fd.type fd.offset xs ys _ _ hx hy b hb w) fs.toList bs hbs w
     ·simp at h
    ·simp at h
  ·rename_i n e ht
   split at h
   ·rename_i xs ys i hi
    split at h
    ·rename_i bs hbs
     simp at h;subst h
     cases hx with
     |agg hx=>cases hy with
      |agg hy=>
       have:=oo (P:=P) (D:=D) (s:=i.size) (e:=e) (fun j=>match e7 P e xs (j*i.size),e7 P e ys (j*i.size) with|some a,some b=>eqT P d e a b|_,_=>none)
        (fun j b hb w=>hsub e (j*i.size) xs ys _ _ hx hy b hb w) (List.range n) bs hbs w
       simp only[Op.equalIn,Sem.run_bind,eQ ht,Result.andThen_ok,sizeOf,fC hi,Sem.run_pure]
       rw[Std.Legacy.Range.forIn_eq_forIn_range']
       simp only[Std.Legacy.Range.size,Nat.sub_zero,Nat.add_sub_cancel,Nat.div_one,←List.range_eq_range']
       rw[this]
       cases jb bs<;>simp
    ·simp at h
   ·simp at h
  ·rename_i dsc _ _ ht
   exact yT ht h hx hy D w
  ·simp at h

end
end Go.Sx
end

section
namespace Go.Sx

section
variable {P:Program}

theorem lE{k:IntKind}{n:Int}(h:inRange k n):k.wrap n=n:=by
 unfold inRange at h
 cases k<;>simp only[IntKind.min,IntKind.max,IntKind.signed,IntKind.bits,Bool.false_eq_true,if_false,if_true] at h<;>simp[IntKind.wrap,IntKind.signed,IntKind.bits]<;>omega

theorem i5{ρ:List Loc}{s:Bool}{k:IntKind}{n:Int}{hs:List Hint}{K:AV→List Hint→Prop}(h:uO s k n hs K):∃z hs',K z hs'∧AVR ρ z (.int k (k.wrap n)):=by
 unfold uO at h
 split at h
 ·exact⟨_,_,h, .lit _⟩
 ·split at h
  ·obtain⟨hr,h⟩:=h
   exact⟨_,_,h,by rw[lE hr];exact .int _ _⟩
  ·exact⟨_,_,h, .int _ _⟩

theorem zf{ρ:List Loc}{op:BinOp}{s s':Bool}{k k':IntKind}{x y:Int}{hs:List Hint}{K:AV→List Hint→Prop}(h:qN op s s' k k' x y hs K)(t:TypeId):
  ∃z hs' r,K z hs'∧AVR ρ z r∧∀w,(_root_.Go.binOp op t (.int k x) (.int k' y)).run P w= .ok r w:=by
 have sh1:op= .shl→∃z hs' r,K z hs'∧AVR ρ z r∧∀w,(_root_.Go.binOp op t (.int k x) (.int k' y)).run P w= .ok r w:=by
  rintro rfl
  simp only[qN] at h
  obtain⟨h0,h⟩:=fP h
  obtain⟨z,hs',hk,hz⟩:=i5 (ρ:=ρ) h
  exact⟨_,_,_,hk,hz,fun w=>by simp[_root_.Go.binOp,Op.shift,Int.not_lt.2 h0]⟩
 have sh2:op= .shr→∃z hs' r,K z hs'∧AVR ρ z r∧∀w,(_root_.Go.binOp op t (.int k x) (.int k' y)).run P w= .ok r w:=by
  rintro rfl
  simp only[qN] at h
  obtain⟨h0,h⟩:=fP h
  exact⟨_,_,_,h,fy _ _ _,fun w=>by simp[_root_.Go.binOp,Op.shift,Int.not_lt.2 h0]⟩
 by_cases hk:k=k'
 ·subst hk
  cases op<;>simp only[qN,decide_true,fY,Ng] at h
  case shl=>exact sh1 rfl
  case shr=>exact sh2 rfl
  case add=>obtain⟨z,hs',hk,hz⟩:=i5 (ρ:=ρ) h;exact⟨_,_,_,hk,hz,fun w=>by simp[_root_.Go.binOp,Op.intArith]⟩
  case sub=>obtain⟨z,hs',hk,hz⟩:=i5 (ρ:=ρ) h;exact⟨_,_,_,hk,hz,fun w=>by simp[_root_.Go.binOp,Op.intArith]⟩
  case mul=>obtain⟨z,hs',hk,hz⟩:=i5 (ρ:=ρ) h;exact⟨_,_,_,hk,hz,fun w=>by simp[_root_.Go.binOp,Op.intArith]⟩
  case quo=>obtain⟨h0,h⟩:=fP h;obtain⟨z,hs',hk,hz⟩:=i5 (ρ:=ρ) h;exact⟨_,_,_,hk,hz,fun w=>by simp[_root_.Go.binOp,Op.intDiv,h0]⟩
  case rem=>obtain⟨h0,h⟩:=fP h;exact⟨_,_,_,h,fy _ _ _,fun w=>by simp[_root_.Go.binOp,Op.intDiv,h0]⟩
  all_goals first
   |exact⟨_,_,_,h,fy _ _ _,fun w=>by simp[_root_.Go.binOp,Op.intBits,Op.intCmp]⟩
   |exact⟨_,_,_,h,tf _ _,fun w=>by simp[_root_.Go.binOp,Op.intCmp]⟩
 ·cases op<;>simp only[qN,hk,decide_false] at h
  case shl=>exact sh1 rfl
  case shr=>exact sh2 rfl

theorem jx(n:Int):IntKind.u64.wrap n=n%18446744073709551616:=by
 simp[IntKind.wrap,IntKind.bits,IntKind.signed]

theorem ge(x:BitVec 64):BitVec.ofInt 64 (x.toNat:Int)=x:=by
 apply BitVec.eq_of_toNat_eq
 have:=x.isLt
 rw[BitVec.toNat_ofInt]
 omega

theorem ia(x:BitVec 64):IntKind.u64.wrap (x.toNat:Int)=(x.toNat:Int):=by
 rw[jx];have:=x.isLt;omega

theorem Pr(x y:BitVec 64):IntKind.u64.wrap ((x.toNat:Int)+y.toNat)=((x+y).toNat:Int):=by
 rw[jx,BitVec.toNat_add];omega
theorem Ph(x y:BitVec 64):IntKind.u64.wrap ((x.toNat:Int)-y.toNat)=((x-y).toNat:Int):=by
 rw[jx,BitVec.toNat_sub];have:=x.isLt;have:=y.isLt;omega
theorem Po(x:BitVec 64):IntKind.u64.wrap (0-(x.toNat:Int))=((-x).toNat:Int):=by
 rw[jx,BitVec.toNat_neg];have:=x.isLt;omega
theorem Pp(x y:BitVec 64):IntKind.u64.wrap ((x.toNat:Int)*y.toNat)=((x*y).toNat:Int):=by
 rw[jx,BitVec.toNat_mul];simp
theorem Pm(x y:BitVec 64):IntKind.u64.wrap ((x.toNat:Int).tdiv y.toNat)=((x/y).toNat:Int):=by
 rw[show (x.toNat:Int).tdiv (y.toNat:Int)=((x/y).toNat:Int) from by rw[BitVec.toNat_udiv];simp,ia]
theorem Pk(x y:BitVec 64):(x.toNat:Int).tmod y.toNat=((x%y).toNat:Int):=by
 rw[BitVec.toNat_umod,Int.tmod_eq_emod_of_nonneg (by omega)];simp
theorem Pq(x y:BitVec 64):IntKind.u64.wrap ((BitVec.ofInt IntKind.u64.bits x.toNat&&&BitVec.ofInt IntKind.u64.bits y.toNat).toNat:Int)=((x&&&y).toNat:Int):=by
 show IntKind.u64.wrap ((BitVec.ofInt 64 x.toNat&&&BitVec.ofInt 64 y.toNat).toNat:Int)=_
 rw[ge,ge,ia]
theorem QA(x y:BitVec 64):IntKind.u64.wrap ((BitVec.ofInt IntKind.u64.bits x.toNat|||BitVec.ofInt IntKind.u64.bits y.toNat).toNat:Int)=((x|||y).toNat:Int):=by
 show IntKind.u64.wrap ((BitVec.ofInt 64 x.toNat|||BitVec.ofInt 64 y.toNat).toNat:Int)=_
 rw[ge,ge,ia]
theorem Pg(x y:BitVec 64):IntKind.u64.wrap ((BitVec.ofInt IntKind.u64.bits x.toNat^^^BitVec.ofInt IntKind.u64.bits y.toNat).toNat:Int)=((x^^^y).toNat:Int):=by
 show IntKind.u64.wrap ((BitVec.ofInt 64 x.toNat^^^BitVec.ofInt 64 y.toNat).toNat:Int)=_
 rw[ge,ge,ia]
theorem HL(x y:BitVec 64):IntKind.u64.wrap ((BitVec.ofInt IntKind.u64.bits x.toNat&&& ~~~(BitVec.ofInt IntKind.u64.bits y.toNat)).toNat:Int)=((x&&& ~~~y).toNat:Int):=by
 show IntKind.u64.wrap ((BitVec.ofInt 64 x.toNat&&& ~~~(BitVec.ofInt 64 y.toNat)).toNat:Int)=_
 rw[ge,ge,ia]
theorem Pn(x:BitVec 64):IntKind.u64.wrap ((BitVec.ofInt IntKind.u64.bits (if IntKind.u64.signed then-1 else IntKind.u64.max)^^^BitVec.ofInt IntKind.u64.bits x.toNat).toNat:Int)=((~~~x).toNat:Int):=by
 show IntKind.u64.wrap ((BitVec.ofInt 64 IntKind.u64.max^^^BitVec.ofInt 64 x.toNat).toNat:Int)=_
 rw[ge,show BitVec.ofInt 64 IntKind.u64.max=BitVec.allOnes 64 from by decide]
 rw[BitVec.allOnes_xor,ia]
theorem Pj(x:BitVec 64)(n:Nat):IntKind.u64.wrap ((x.toNat:Int)*2^(min n 64))=((x<<<n).toNat:Int):=by
 rw[jx,BitVec.toNat_shiftLeft,Nat.shiftLeft_eq]
 rcases Nat.le_total n 64 with h|h
 ·rw[Nat.min_eq_left h];simp
 ·rw[Nat.min_eq_right h]
  obtain⟨d,rfl⟩:∃d,n=64+d:=⟨n-64,by omega⟩
  rw[Nat.pow_add,←Nat.mul_assoc,Nat.mul_right_comm,Nat.mul_mod_left]
  omega
theorem Pi(x:BitVec 64)(n:Nat):(x.toNat:Int).fdiv (2^(min n 64))=((x>>>n).toNat:Int):=by
 rw[BitVec.toNat_ushiftRight,Nat.shiftRight_eq_div_pow,Int.fdiv_eq_ediv_of_nonneg _ (by exact Int.pow_nonneg (by decide))]
 rcases Nat.le_total n 64 with h|h
 ·rw[Nat.min_eq_left h];simp
 ·rw[Nat.min_eq_right h]
  have hx:=x.isLt
  have h1:x.toNat/2^n=0:=Nat.div_eq_of_lt (Nat.lt_of_lt_of_le hx (Nat.pow_le_pow_right (by decide) h))
  rw[h1]
  omega

theorem AF(x y:BitVec 64):decide ((x.toNat:Int)<y.toNat)=decide (x<y):=by
 rw[decide_eq_decide,BitVec.lt_def];omega
theorem AJ(x y:BitVec 64):decide ((x.toNat:Int)≤y.toNat)=decide (x≤y):=by
 rw[decide_eq_decide,BitVec.le_def];omega

theorem uJ{ρ:List Loc}{op:BinOp}{s':Bool}{x y:BitVec 64}{K:AV→Prop}(h:Mp op s' x y K)(t:TypeId):
  ∃z r,K z∧AVR ρ z r∧∀w,(_root_.Go.binOp op t (.int .u64 x.toNat) (.int .u64 y.toNat)).run P w= .ok r w:=by
 cases op<;>simp only[Mp] at h<;>try exact h.elim
 case add=>exact⟨_,_,h, .w64 _,fun w=>by simp only[_root_.Go.binOp,Op.intArith,←Pr];rfl⟩
 case sub=>exact⟨_,_,h, .w64 _,fun w=>by simp only[_root_.Go.binOp,Op.intArith,←Ph];rfl⟩
 case mul=>exact⟨_,_,h, .w64 _,fun w=>by simp only[_root_.Go.binOp,Op.intArith,←Pp];rfl⟩
 case quo=>
  obtain⟨h0,h⟩:=fP h
  have:(y.toNat:Int)≠0:=fun e=>h0 (BitVec.eq_of_toNat_eq (by simpa using e))
  exact⟨_,_,h, .w64 _,fun w=>by simp only[_root_.Go.binOp,Op.intDiv,if_neg this,←Pm];rfl⟩
 case rem=>
  obtain⟨h0,h⟩:=fP h
  have:(y.toNat:Int)≠0:=fun e=>h0 (BitVec.eq_of_toNat_eq (by simpa using e))
  exact⟨_,_,h, .w64 _,fun w=>by simp only[_root_.Go.binOp,Op.intDiv,if_neg this,←Pk];rfl⟩
 case and=>exact⟨_,_,h, .w64 _,fun w=>congrArg (fun n=>Result.ok (Value.int .u64 n) w) (Pq x y)⟩
 case or=>exact⟨_,_,h, .w64 _,fun w=>congrArg (fun n=>Result.ok (Value.int .u64 n) w) (QA x y)⟩
 case xor=>exact⟨_,_,h, .w64 _,fun w=>congrArg (fun n=>Result.ok (Value.int .u64 n) w) (Pg x y)⟩
 case andNot=>exact⟨_,_,h, .w64 _,fun w=>congrArg (fun n=>Result.ok (Value.int .u64 n) w) (HL x y)⟩
 case eql=>exact⟨_,_,h, .bool _,fun w=>by simp[_root_.Go.binOp,Op.intCmp,lw]⟩
 case neq=>exact⟨_,_,h, .bool _,fun w=>by simp[_root_.Go.binOp,Op.intCmp,bne,lw]⟩
 case lss=>exact⟨_,_,h, .bool _,fun w=>by simp only[_root_.Go.binOp,Op.intCmp,←AF];rfl⟩
 case leq=>exact⟨_,_,h, .bool _,fun w=>by simp only[_root_.Go.binOp,Op.intCmp,←AJ];rfl⟩
 case gtr=>exact⟨_,_,h, .bool _,fun w=>by simp only[_root_.Go.binOp,Op.intCmp,←AF];rfl⟩
 case geq=>exact⟨_,_,h, .bool _,fun w=>by simp only[_root_.Go.binOp,Op.intCmp,←AJ];rfl⟩

theorem nD{ρ:List Loc}{op:BinOp}{x:BitVec 64}{s:Bool}{k:IntKind}{n:Int}{K:AV→Prop}
  (h:FS op s x n K) (t:TypeId):∃z r,K z∧AVR ρ z r∧∀w,(_root_.Go.binOp op t (.int .u64 x.toNat) (.int k n)).run P w= .ok r w:=by
 unfold FS at h
 split at h
 ·obtain⟨h0,h⟩:=fP h
  refine⟨_,_,h, .w64 _,fun w=> ?_⟩
  simp only[_root_.Go.binOp,Op.shift,Int.not_lt.2 h0,if_false,IntKind.bits,←Pj];rfl
 ·obtain⟨h0,h⟩:=fP h
  refine⟨_,_,h, .w64 _,fun w=> ?_⟩
  simp only[_root_.Go.binOp,Op.shift,Int.not_lt.2 h0,if_false,IntKind.bits,←Pi];rfl
 ·exact h.elim

theorem iZ(op:BinOp)(t:TypeId)(xo yo:Operand)(k k':IntKind)(a b:Int)(w:World):(eqGuard op t xo yo (.int k a) (.int k' b)).run P w= .ok () w:=by
 unfold eqGuard;split<;>simp

theorem gi(op:BinOp)(t:TypeId)(xo yo:Operand)(u v:Value)(w:World)(hn:(match u,v with| .nilIface, .nilIface=>false| .agg _, .agg _=> !P.eqGuardType P.depth t|_,_=>true)=true):(eqGuard op t xo yo u v).run P w= .ok () w:=by
 have h0:∀op',(eqGuard op' t xo yo u v).run P w= .ok () w∨op'= .eql∨op'= .neq:=by
  intro op'
  cases op'<;>first|exact .inr (.inl rfl)|exact .inr (.inr rfl)| (left;simp[eqGuard];done)
 rcases h0 op with h|rfl|rfl
 ·exact h
 all_goals
  unfold eqGuard
  dsimp only
  split at hn
  ·simp at hn
  ·simp at hn
   simp[hn]
  ·rename_i h1 h2
   simp only[Bool.not_true,Bool.false_eq_true,if_false]
   rfl

theorem BP{t e:TypeId}(ht:P.underlying t=some (.slice e))(n m n' m':Nat)(b:Option Addr)(D:Nat)(w:World):
  (Op.equalIn (D+1) t (.slice none n m) (.slice b n' m')).run P w= .ok b.isNone w:=by
 simp[Op.equalIn,eQ ht]

theorem BO{t e:TypeId}(ht:P.underlying t=some (.slice e))(n m n' m':Nat)(b:Option Addr)(D:Nat)(w:World):
  (Op.equalIn (D+1) t (.slice b n m) (.slice none n' m')).run P w= .ok b.isNone w:=by
 cases b<;>simp[Op.equalIn,eQ ht]

theorem nX{ρ:List Loc}{t:TypeId}{x y:AV}{u v:Value}{b:Bool}(h:eqV P t x y=some b)(hx:AVR ρ x u)(hy:AVR ρ y v)(w:World):
  (_root_.Go.binOp .eql t u v).run P w= .ok (.bool b) w∧(_root_.Go.binOp .neq t u v).run P w= .ok (.bool (!b)) w∧∀op xo yo,(eqGuard op t xo yo u v).run P w= .ok () w:=by
 unfold eqV at h
 have agg:∀xs ys,x= .agg xs→y= .agg ys→P.eqGuardType P.depth t=false→eqT P 8 t x y=some b→(_root_.Go.binOp .eql t u v).run P w= .ok (.bool b) w∧(_root_.Go.binOp .neq t u v).run P w= .ok (.bool (!b)) w∧∀op xo yo,(eqGuard op t xo yo u v).run P w= .ok () w:=by
  rintro xs ys rfl rfl hg he
  have h1:=nY 8 he hx hy 10000 (by omega) w
  cases hx with
  |agg hx=>cases hy with
   |agg hy=>
    refine⟨by rw[run_eql_struct,h1];rfl,by rw[run_neq_struct,h1];rfl,fun op xo yo=>gi op t xo yo _ _ w (by simp[hg])⟩
 split at h
 ·rename_i e ht
  have key:∀(a c:Option Addr) n m n' m',u= .slice a n m→v= .slice c n' m'→(Op.equal t u v).run P w= .ok b w→
    (_root_.Go.binOp .eql t u v).run P w= .ok (.bool b) w∧(_root_.Go.binOp .neq t u v).run P w= .ok (.bool (!b)) w∧∀op xo yo,(eqGuard op t xo yo u v).run P w= .ok () w:=by
   rintro a c n m n' m' rfl rfl he
   exact⟨by simp[_root_.Go.binOp,he],by simp[_root_.Go.binOp,he],fun op xo yo=>gi op t xo yo _ _ w rfl⟩
  have nilS:∀{x:AV} {u:Value} {c:Bool},x.nilSlice=some c→AVR ρ x u→∃a n m,u= .slice a n m∧a.isNone=c:=by
   intro x u c hc hr
   unfold AV.nilSlice at hc
   split at hc<;>simp at hc<;>subst hc
   ·cases hr;exact⟨_,_,_,rfl,rfl⟩
   ·cases hr;exact⟨_,_,_,rfl,rfl⟩
  split at h
  ·rename_i c h1 h2
   obtain⟨a,n,m,rfl,ha⟩:=nilS h1 hx
   obtain⟨a',n',m',rfl,ha'⟩:=nilS h2 hy
   simp at h;subst h
   cases a<;>simp at ha
   exact key _ _ _ _ _ _ rfl rfl (by rw[←ha'];exact BP ht _ _ _ _ _ 9999 w)
  ·rename_i c h0 h1 h2
   obtain⟨a,n,m,rfl,ha⟩:=nilS h1 hx
   obtain⟨a',n',m',rfl,ha'⟩:=nilS h2 hy
   simp at h;subst h
   cases a'<;>simp at ha'
   exact key _ _ _ _ _ _ rfl rfl (by rw[←ha];exact BO ht _ _ _ _ _ 9999 w)
  ·simp at h
 ·rename_i fs ht
  split at h
  ·simp at h
  ·rename_i hg
   have he:=h
   unfold eqT at h
   simp only[ht] at h
   split at h
   ·simp at h
   ·split at h
    ·exact agg _ _ rfl rfl hg he
    ·simp at h
 ·rename_i n e ht
  split at h
  ·simp at h
  ·rename_i hg
   have he:=h
   unfold eqT at h
   simp only[ht] at h
   split at h
   ·exact agg _ _ rfl rfl hg he
   ·simp at h
 ·rename_i dsc h1 h2 h3 ht
  have he:=nY 8 h hx hy 10000 (by omega) w
  unfold eqT at h
  rw[ht] at h
  have hc:ul dsc x y=some b:=by
   split at h<;>simp_all
  unfold ul at hc
  split at hc
  ·split at hc
   ·rename_i g1 g2
    rw[gj hx g1,gj hy g2] at he⊢
    exact⟨by simp[_root_.Go.binOp,Op.equal,Op.maxDepth,he],by simp[_root_.Go.binOp,Op.equal,Op.maxDepth,he],fun op xo yo=>gi op t xo yo _ _ w rfl⟩
   ·simp at hc
  ·split at hc
   ·rename_i g1 g2
    simp at hc;subst hc
    rw[gT hx g1,gT hy g2] at he⊢
    exact⟨by simp[_root_.Go.binOp,Op.intCmp,lw],by simp[_root_.Go.binOp,Op.intCmp,bne,lw],fun op xo yo=>gi op t xo yo _ _ w rfl⟩
   ·split at hc
    ·rename_i g1 g2
     split at hc
     ·rename_i hk
      have hk:=of_decide_eq_true hk
      subst hk
      simp at hc;subst hc
      rw[eX hx g1,eX hy g2] at he⊢
      exact⟨by simp[_root_.Go.binOp,Op.intCmp],by simp[_root_.Go.binOp,Op.intCmp,bne],fun op xo yo=>gi op t xo yo _ _ w rfl⟩
     ·simp at hc
    ·simp at hc
  ·split at hc
   ·rename_i g1 g2
    simp at hc;subst hc
    rw[gE hx g1,gE hy g2] at he⊢
    exact⟨by simp[_root_.Go.binOp,Op.stringOp,beq_toListBytes],by simp[_root_.Go.binOp,Op.stringOp,beq_toListBytes],fun op xo yo=>gi op t xo yo _ _ w rfl⟩
   ·simp at hc
  ·have ptr:∀{c d:Bool},x.nilPtr=some c→y.nilPtr=some d→(_root_.Go.binOp .eql t u v).run P w= .ok (.bool b) w∧(_root_.Go.binOp .neq t u v).run P w= .ok (.bool (!b)) w∧∀op xo yo,(eqGuard op t xo yo u v).run P w= .ok () w:=fun g1 g2=>by
    obtain⟨p,rfl,_⟩:=jD g1 hx
    obtain⟨q,rfl,_⟩:=jD g2 hy
    exact⟨by simp[_root_.Go.binOp,Op.equal,Op.maxDepth,he],by simp[_root_.Go.binOp,Op.equal,Op.maxDepth,he],fun op xo yo=>gi op t xo yo _ _ w rfl⟩
   split at hc
   ·rename_i c g1;exact ptr g1 (d:=true) rfl
   ·rename_i g1;exact ptr g1 hc
   ·simp at hc
  ·simp at hc
 ·simp at h

theorem qW{ρ:List Loc}{neg:Bool}{t:TypeId}{x y:AV}{u v:Value}{hs:List Hint}{K:AV→List Hint→Prop}(h:EL P neg t x y hs K)(hx:AVR ρ x u)(hy:AVR ρ y v):
  ∃z hs' b,K z hs'∧AVR ρ z (.bool (b !=neg))∧∀w,(_root_.Go.binOp .eql t u v).run P w= .ok (.bool b) w∧(_root_.Go.binOp .neq t u v).run P w= .ok (.bool (!b)) w∧∀op xo yo,(eqGuard op t xo yo u v).run P w= .ok () w:=by
 unfold EL at h
 split at h
 ·split at h
  ·rename_i b c hb hc
   cases hx with
   |vslS h1 h2 h3 h4=>exact⟨_,_,b,h.2, .lit _,fun w=>nX hb (.slice h1 h2 h3 h4) hy w⟩
   |vslN h0=>exact⟨_,_,c,h.1 h0, .lit _,fun w=>nX hc (.lit _) hy w⟩
  ·exact h.elim
 ·exact h.elim

theorem Ct{ρ:List Loc}{op:BinOp}{t:TypeId}{x y:AV}{u v:Value}{hs:List Hint}{K:AV→List Hint→Prop}(h:binOp P op t x y hs K)(hx:AVR ρ x u)(hy:AVR ρ y v)(xo yo:Operand):
  ∃z hs' r,K z hs'∧AVR ρ z r∧∀w,(do eqGuard op t xo yo u v;_root_.Go.binOp op t u v:Sem Value).run P w= .ok r w:=by
 unfold binOp at h
 split at h
 ·rename_i k _ ho h1 h2
  rw[gT hx h1,eX hy h2]
  obtain⟨z,r,hk,hz,hr⟩:=nD (P:=P) (ρ:=ρ) (k:=k) h t
  exact⟨z,_,r,hk,hz,fun w=>by simp[iZ,hr]⟩
 ·rename_i k _ ho h1 h2
  rw[gT hx h1,eX hy h2]
  obtain⟨z,r,hk,hz,hr⟩:=nD (P:=P) (ρ:=ρ) (k:=k) h t
  exact⟨z,_,r,hk,hz,fun w=>by simp[iZ,hr]⟩
 ·rename_i ho h1 h2
  rw[gT hx h1,gT hy h2]
  obtain⟨z,r,hk,hz,hr⟩:=uJ (P:=P) (ρ:=ρ) h t
  exact⟨z,_,r,hk,hz,fun w=>by simp[iZ,hr]⟩
 ·rename_i ho h1 h2
  rw[gT hx h1,gT hy h2]
  obtain⟨z,r,hk,hz,hr⟩:=uJ (P:=P) (ρ:=ρ) h t
  exact⟨z,_,r,hk,hz,fun w=>by simp[iZ,hr]⟩
 ·rename_i h1 h2 _ _ _ _
  rw[eX hx h1,eX hy h2]
  obtain⟨z,hs',r,hk,hz,hr⟩:=zf (P:=P) (ρ:=ρ) h t
  exact⟨z,hs',r,hk,hz,fun w=>by simp[iZ,hr]⟩
 ·split at h
  ·split at h
   ·rename_i b hb
    exact⟨_,_,_,h, .bool b,fun w=>by have:=nX hb hx hy w;simp[this.2.2,this.1]⟩
   ·obtain⟨z,hs',b,hk,hz,hr⟩:=qW h hx hy
    exact⟨z,hs',_,hk,hz,fun w=>by simp[(hr w).2.2,(hr w).1]⟩
  ·split at h
   ·rename_i b hb
    exact⟨_,_,_,h, .bool (!b),fun w=>by have:=nX hb hx hy w;simp[this.2.2,this.2.1]⟩
   ·obtain⟨z,hs',b,hk,hz,hr⟩:=qW h hx hy
    exact⟨z,hs',_,hk,hz,fun w=>by simp[(hr w).2.2,(hr w).2.1]⟩
  ·split at h
   ·rename_i c1 b1 c2 b2 h1 h2
    obtain⟨hl,hk⟩:=fP h
    rw[gE hx h1,gE hy h2]
    refine⟨_,_,_,hk,vZ _ _,fun w=> ?_⟩
    have hm:IntKind.i64.max=9223372036854775807:=by decide
    have hc:¬(((b1.size+b2.size:Nat):Int)>9223372036854775807):=by omega
    simp[eqGuard,_root_.Go.binOp,Op.stringOp,hm]
    omega
   ·exact h.elim
  ·exact h.elim

theorem CU{ρ:List Loc}{op:UnOp}{x:AV}{u:Value}{K:AV→Prop}(h:unOp op x K)(hx:AVR ρ x u):
  ∃z r,K z∧AVR ρ z r∧∀w,(Op.unary op u).run P w= .ok r w:=by
 unfold unOp at h
 split at h
 ·split at h
  ·rename_i x' h1
   rw[gT hx h1]
   exact⟨_,_,h, .w64 _,fun w=>by simp only[Op.unary,Op.intArith,←Po];rfl⟩
  ·split at h
   ·rename_i h1
    rw[eX hx h1]
    exact⟨_,_,h,fy _ _ _,fun w=>by simp[Op.unary,Op.intArith]⟩
   ·exact h.elim
 ·split at h
  ·rename_i x' h1
   rw[gT hx h1]
   exact⟨_,_,h, .w64 _,fun w=>congrArg (fun n=>Result.ok (Value.int .u64 n) w) (Pn x')⟩
  ·split at h
   ·rename_i h1
    rw[eX hx h1]
    exact⟨_,_,h,fy _ _ _,fun w=>by simp[Op.unary,Op.intBits]⟩
   ·exact h.elim
 ·split at h
  ·rename_i h1
   rw[gj hx h1]
   exact⟨_,_,h,tf _ _,fun w=>by simp[Op.unary]⟩
  ·exact h.elim
 ·exact h.elim

theorem om:∀(l:List AV) (cs:List AV) (o:Nat),(jM cs o l).length=cs.length
 | [],_,_=>rfl
 |v::l,cs,o=>by simp[jM,om l]

def mm(cs:List Value)(o:Nat):List Value→List Value
 | []=>cs
 |v::vs=>mm (cs.set o v) (o+1) vs

theorem AVRs.set{ρ:List Loc}:∀{xs:List AV} {vs:List Value} (o:Nat) {x:AV} {v:Value},AVRs ρ xs vs→AVR ρ x v→AVRs ρ (xs.set o x) (vs.set o v)
 |_,_,_,_,_, .nil,_=> .nil
 |_,_,0,_,_, .cons _ h,h'=> .cons h' h
 |_,_,o+1,_,_, .cons h0 h,h'=> .cons h0 (AVRs.set o h h')

theorem ug{ρ:List Loc}:∀{l:List AV} {us:List Value} {cs:List AV} {vs:List Value} (o:Nat),AVRs ρ l us→AVRs ρ cs vs→AVRs ρ (jM cs o l) (mm vs o us)
 |_,_,_,_,_, .nil,h=>h
 |_,_,_,_,o, .cons h0 h1,h=>ug (o+1) h1 (h.set o h0)

theorem nj:∀(l:List Value) (vs:Array Value) (o j:Nat),(l.zipIdx j).foldl (fun (cs:Array Value) (p:Value×Nat)=>cs.setIfInBounds (o+p.2) p.1) vs=(mm vs.toList (o+j) l).toArray
 | [],vs,o,j=>by simp[mm]
 |v::l,vs,o,j=>by
  rw[List.zipIdx_cons,List.foldl_cons,nj l]
  simp[mm,Nat.add_assoc]

theorem pT:∀(l:List Value) (cs:List Value) (o:Nat),(mm cs o l).length=cs.length
 | [],_,_=>rfl
 |v::l,cs,o=>by simp[mm,pT l]

theorem oT{ρ:List Loc}{place:Nat→Option (Nat×Nat)}:∀{parts:List (Nat×AV)} {vals:List (Nat×Value)} {cs:List AV} {vs:List Value} {r:List AV},
  fill place cs parts=some r→AVRs ρ cs vs→parts.map (·.1)=vals.map (·.1)→AVRs ρ (parts.map (·.2)) (vals.map (·.2))→(parts.all fun p=>p.2.sound)=true→
  ∃us,AVRs ρ r us∧Instr.fill place vs.toArray vals=some us.toArray
 | [],[],cs,vs,r,h,hr,_,_,_=>by simp[fill] at h;subst h;exact⟨vs,hr,rfl⟩
 | [],_::_,_,_,_,_,_,h,_,_=>by simp at h
 |_::_,[],_,_,_,_,_,h,_,_=>by simp at h
 | (i,x)::parts,(j,v)::vals,cs,vs,r,h,hr,hi,hv,hs=>by
  simp only[List.map_cons,List.cons.injEq] at hi
  obtain⟨rfl,hi⟩:=hi
  simp only[List.map_cons] at hv
  simp only[List.all_cons,Bool.and_eq_true] at hs
  cases hv with
  |cons hv0 hv1=>
   have hc:=AVR.cells hs.1 hv0
   unfold fill at h
   unfold Instr.fill
   split at h
   ·simp at h
   ·rename_i off size hp
    simp only[hp]
    split at h
    ·rename_i h1 h2
     have h1:=of_decide_eq_true h1
     have h2:=of_decide_eq_true h2
     have e1:v.cells.size=size:=by have:=hc.length;simp at this;omega
     have e2:¬(off+v.cells.size>vs.toArray.size):=by have:=hr.length;have:=hc.length;simp at this⊢;omega
     have:=oT h (ug off hc hr) hi hv1 hs.2
     obtain⟨us,hus,hf⟩:=this
     refine⟨us,hus, ?_⟩
     simp only[e1,ne_eq,not_true,decide_false,Bool.false_or]
     rw[if_neg (by rw[←e1];simpa using e2),←hf]
     congr 1
     rw[←Array.foldl_toList,Array.toList_zipIdx]
     have:=nj v.cells.toList vs.toArray off 0
     simpa using this
    ·simp at h

theorem gr{t:TypeId}{z:AV}(h:jv P t=some z):∃i zv,P.info? t=some i∧i.zero=some zv∧zv.cells.size=i.size∧z=liftV zv:=by
 unfold jv at h
 split at h
 ·rename_i i hi
  split at h
  ·rename_i zv hz
   split at h
   ·rename_i hs
    simp at h
    exact⟨i,zv,hi,hz,of_decide_eq_true hs,h.symm⟩
   ·simp at h
  ·simp at h
 ·simp at h

theorem jB{t:TypeId}{i:TypeInfo}{zv:Value}(hi:P.info? t=some i)(hz:i.zero=some zv)(w:World):(zeroValue t).run P w= .ok zv w:=by
 simp[zeroValue,fC hi,hz]

theorem mO{ρ:List Loc}(v:Value):AVRs ρ (liftV v).cells v.cells.toList:=by
 cases v<;>first|exact .cons (.lit _) .nil|skip
 rename_i cs
 simpa [liftV,AV.cells,Value.cells] using AVRs.map_lit (ρ:=ρ) cs.toList

theorem Dw{fs:List Field}{places:List (Nat×Nat)}(h:fc (fs.map fun f=>match fo P f.type with|some s=>some (f.offset,s)|none=>none)=some places)(w:World):
  (fs.mapM fun f=>(do pure (f.offset,←sizeOf f.type):Sem (Nat×Nat))).run P w= .ok places w:=by
 induction fs generalizing places with
 |nil=>simp[fc] at h;subst h;simp
 |cons f fs ih=>
  simp only[List.map_cons] at h
  cases hs:fo P f.type with
  |none=>simp[hs,fc] at h
  |some s=>
   simp only[hs,fc] at h
   split at h
   ·rename_i r hr
    simp at h;subst h
    have:=ih hr
    simp at this
    simp[List.mapM_cons,fk hs,this]
   ·simp at h

theorem Co{ρ:List Loc}{t:TypeId}{parts:List (Nat×AV)}{vals:List (Nat×Value)}{K:AV→Prop}(h:build P t parts K)
  (hi:parts.map (·.1)=vals.map (·.1)) (hv:AVRs ρ (parts.map (·.2)) (vals.map (·.2))):
  ∃z r,K z∧AVR ρ z r∧∀w,(Instr.build t vals.toArray).run P w= .ok r w:=by
 unfold build at h
 split at h
 ·exact h.elim
 ·rename_i hs
  split at h
  ·rename_i fs z ht hz
   obtain⟨i,zv,hin,hzv,hzs,rfl⟩:=gr hz
   split at h
   ·rename_i places hp
    split at h
    ·rename_i cs hf
     obtain⟨us,hus,hfv⟩:=oT hf (mO (ρ:=ρ) zv) hi hv hs
     refine⟨_,_,h, .agg hus,fun w=> ?_⟩
     have hm:=Dw hp w
     have hm':(Array.mapM (fun f=>(do pure (f.offset,←sizeOf f.type):Sem (Nat×Nat))) fs).run P w= .ok places.toArray w:=by
      rw[Array.mapM_eq_mapM_toList,Sem.run_map,hm]
      simp
     simp only[Instr.build,Sem.run_bind,jB hin hzv,Result.andThen_ok,eQ ht,hm']
     simp only[List.getElem?_toArray,Array.toArray_toList] at hfv⊢
     simp[hfv]
    ·exact h.elim
   ·exact h.elim
  ·rename_i n e z ht hz
   obtain⟨i,zv,hin,hzv,hzs,rfl⟩:=gr hz
   split at h
   ·rename_i s hsz
    split at h
    ·rename_i cs hf
     obtain⟨us,hus,hfv⟩:=oT hf (mO (ρ:=ρ) zv) hi hv hs
     refine⟨_,_,h, .agg hus,fun w=> ?_⟩
     simp only[Instr.build,Sem.run_bind,jB hin hzv,Result.andThen_ok,eQ ht,fk hsz]
     simp only[Array.toArray_toList] at hfv⊢
     simp[hfv]
    ·exact h.elim
   ·exact h.elim
  ·exact h.elim

end
end Go.Sx
end

