import PyProof.Rows.All
import Wide.All
import OpenK.AllK
import Wide.FinOn
import Lean
import PyProof.EqAt
import PyProof.EqKinds
import PyProof.TupleCall
import PyProof.NeKinds
import KE.KSortKey
import KE.KMinKey
import PyProof.StrBlockG
import PyProof.StrBlockI
import KE.KRevSl
import PyProof.MeetsStr
import KE.KLam
import KE.KNestM
import PyProof.Rows.ZipForRows
import PyProof.Rows.FactsT2
import PyProof.StrOps2
import PyProof.Rows.SumAny
import KE.KDictSum
import PyProof.WalkInts
import PyProof.Rows.MinMaxN
import PyProof.TupleKey
import PyProof.DictRoadsH
import KE.KDictIter
import PyProof.ListRange
import PyProof.DictUpdate
import KE.KDictList
import PyProof.Rows.Range3
import KE.KRevIter
import PyProof.FactsAll.range
import PyProof.StrLawsIn
import PyProof.ListMulRoad
import PySem.Challenge.RW_tonguenest_k28_whole_books_told_otherwis
set_option maxHeartbeats 0
set_option Elab.async false
set_option linter.all false
set_option maxRecDepth 100000
-- CHANGE: your row's module here,as the last of these rows
theorem J.{u}{a:Sort u}{b:a}:b=b:=rfl
namespace L2
open PySem PySem.Spec PyProof.Rows
noncomputable abbrev Key:=Sum Int Str
noncomputable def keyIs:Key->Value->Bool
 |.inl k,v=>Value.isInt k v
 |.inr x,v=>Value.isStrOf x v
noncomputable def keyH(w:World):Key->Int
 |.inl k=>hashInt k
 |.inr x=>hashStr w x
theorem zaQ:∀ {k:Key}{v:Value},keyIs k v=true->(∃i t,k=Sum.inl i/\v=Value.int i t)∨(∃x t,k=Sum.inr x/\v=Value.str x t)
 |.inl i,v,h=>by
  obtain⟨t,e⟩:=Value.isInt_shape (k:=i) (v:=v) h;exact .inl ⟨i,t,J,e⟩
 |.inr x,v,h=>by
  obtain⟨t,e⟩:=Value.isStrOf_shape (x:=x) (v:=v) h;exact .inr ⟨x,t,J,e⟩
theorem zgX(i:Int)(t:Tok):keyIs (.inl i) (.int i t)=true:=by simp[keyIs,Value.isInt]
theorem zgY(x:Str)(t:Tok):keyIs (.inr x) (.str x t)=true:=by simp[keyIs,Value.isStrOf]
theorem zla(a b:Int):decide ((Sum.inl a:Key)=Sum.inl b)=(a==b):=by
 by_cases e:a=b
 .subst e;simp
 .have h:¬(Sum.inl a:Key)=Sum.inl b:=λq=>e (Sum.inl.inj q);rw[decide_eq_false h];exact(beq_eq_false_iff_ne.mpr e).symm
theorem zlb(a b:Str):decide ((Sum.inr a:Key)=Sum.inr b)=decide (a=b):=by
 by_cases e:a=b
 .subst e;simp
 .have h:¬(Sum.inr a:Key)=Sum.inr b:=λq=>e (Sum.inr.inj q);rw[decide_eq_false h,decide_eq_false e]
theorem zlc(a:Int)(b:Str):decide ((Sum.inl a:Key)=Sum.inr b)=false:=decide_eq_false (λq=>nomatch q)
theorem zld(a:Str)(b:Int):decide ((Sum.inr a:Key)=Sum.inl b)=false:=decide_eq_false (λq=>nomatch q)
noncomputable def zav(prog:Program)(w:World):PySem.KeyKind prog w Key where
 is:=keyIs
 hash:=keyH w
 inj:=λv a b G F=>by
  rcases zaQ G with⟨i,t,rfl,rfl⟩|⟨x,t,rfl,rfl⟩
  .rcases zaQ F with⟨j,u,rfl,e⟩|⟨y,u,rfl,e⟩
   .injection e with B _;rw[B]
   .exact nomatch e
  .rcases zaQ F with⟨j,u,rfl,e⟩|⟨y,u,rfl,e⟩
   .exact nomatch e
   .injection e with B _;rw[B]
 byValue:=λk v h=>by
  rcases zaQ h with⟨i,t,rfl,rfl⟩|⟨x,t,rfl,rfl⟩<;>rfl
 pyHash:=λD h=>by
  rcases zaQ D with⟨i,t,rfl,rfl⟩|⟨x,t,rfl,rfl⟩
  .exact wpAny_pyHash_int h
  .exact wpAny_pyHash_str h
 eqBool:=λI D h=>by
  rcases zaQ I with⟨i,t,rfl,rfl⟩|⟨x,t,rfl,rfl⟩
  .rcases zaQ D with⟨j,u,rfl,rfl⟩|⟨y,u,rfl,rfl⟩
   .rw[zla] at h;exact wpAny_eqBool_int h
   .rw[zlc] at h;exact SeqAt.EqAt.int_str i t y u _ _ _ _ h
  .rcases zaQ D with⟨j,u,rfl,rfl⟩|⟨y,u,rfl,rfl⟩
   .rw[zld] at h;exact SeqAt.EqAt.str_int x t j u _ _ _ _ h
   .rw[zlb] at h;exact wpAny_eqBool_str h
 «strs»:=λk x t v h=>by
  rcases zaQ h with⟨i,u,rfl,e⟩|⟨y,u,rfl,e⟩
  .exact nomatch e
  .injection e with B _;subst B;cases v<;>rfl
theorem zfi(prog:Program)(w:World)(i:Int)(t:Tok):(zav prog w).is (.inl i) (.int i t)=true:=zgX i t
theorem zfj(prog:Program)(w:World)(x:Str)(t:Tok):(zav prog w).is (.inr x) (.str x t)=true:=zgY x t
inductive V where
 |non|bl (b:Bool)|int (i:Int)|str (x:Str)|byt (b:Array UInt8)|flt (b:UInt64)|ref (a:Addr)|ty (n:String)
 deriving DecidableEq
noncomputable def RelV:V->Value->Prop
 |.non,u=>u=Value.none
 |.bl b,u=>u=Value.bool b
 |.int i,u=>∃t,u=Value.int i t
 |.str x,u=>∃t,u=Value.str x t
 |.byt b,u=>∃t,u=Value.bytes b t
 |.flt b,u=>∃t,u=Value.float b t
 |.ref a,u=>u=Value.ref a
 |.ty n,u=>u=Value.type n
noncomputable abbrev Vals:List V->List Value->Prop:=Paired RelV
theorem Vals.length{xs:List V}{us:List Value}(r:Vals xs us):xs.length=us.length:=Paired.length r
theorem Vals.get:∀ {xs:List V}{us:List Value}{i:Nat}{x:V},Vals xs us->xs[i]?=some x->∃u,us[i]?=some u/\RelV x u
 |_,_,_,_,.nil,e=>by simp at e
 |_,_,0,_,.cons r _,e=>by simp at e;subst e;exact⟨_,J,r⟩
 |_,_,i+1,x,.cons _ t,e=>by
  obtain⟨u,h1,h2⟩:=Vals.get (i:=i) (x:=x) t (by simpa using e);exact⟨u,by simpa using h1,h2⟩
theorem Vals.set{x:V}{u:Value}(r:RelV x u):∀ {xs:List V}{us:List Value}(i:Nat),Vals xs us->Vals (xs.set i x) (us.set i u)
 |_,_,_,.nil=>.nil
 |_,_,0,.cons _ t=>.cons r t
 |_,_,i+1,.cons q t=>.cons q (Vals.set r i t)
theorem Vals.append:∀ {xs ys:List V}{us j:List Value},Vals xs us->Vals ys j->Vals (xs++ys) (us++j)
 |_,_,_,_,.nil,s=>s
 |_,_,_,_,.cons r t,s=>.cons r (Vals.append t s)
theorem Vals.take:∀ {xs:List V}{us:List Value}(n:Nat),Vals xs us->Vals (xs.take n) (us.take n)
 |_,_,0,_=>.nil
 |_,_,_+1,.nil=>.nil
 |_,_,n+1,.cons r t=>.cons r (Vals.take n t)
theorem Vals.drop:∀ {xs:List V}{us:List Value}(n:Nat),Vals xs us->Vals (xs.drop n) (us.drop n)
 |_,_,0,r=>r
 |_,_,_+1,.nil=>.nil
 |_,_,n+1,.cons _ t=>Vals.drop n t
noncomputable def RelO:Option V->Option Value->Prop
 |some v,some u=>RelV v u
 |none,none=>True
 |_,_=>False
noncomputable def KV{κ:Type}:List (κ×V)->List (κ×Value)->Prop:=Paired λ(p:κ×V) (q:κ×Value)=>p.1=q.1/\RelV p.2 q.2
noncomputable def kV:Key->V
 |.inl i=>.int i
 |.inr x=>.str x
inductive HO where
 /-- a list -/
 |lst (xs:List V)
 /-- a tuple (never changes) -/
 |tup (xs:List V)
 /-- a dict whose keys are ints and texts;one whose keys are tuples of ints and texts (the empty one is both) -/
 |dK (kvs:List (Key×V))|dT (kvs:List (List Key×V))
 /-- a set of ints: its members,its size -/
 |set (S:Int->Bool) (n:Nat)
 /-- an instance of the class at C,its dict at dx,its attributes -/
 |ins (C dx:Addr) (fs:List (Str×V))
 /-- the dict of the instance at x -/
 |own (x:Addr)
 /-- the dict of an exception -/
 |xd (fs:List (Str×V))
 /-- a bound method,f of x -/
 |met (f x:Addr)
 /-- a range object lo,lo+1,.. below hi -/
 |rng (lo hi:Int)
 /-- a thing that is known to the object (the script;a dict while a loop walks it): read,never written while it is so -/
 |frz (o:Obj) (u:HO)
 /-- a code object's table -/
 |tbl (ps:Array Value)
 /-- any other thing,by what is true of its one object (a def of one's own: SetO a S n:=HO.ext λh=>..) -/
 |ext (φ:Heap->Prop)
noncomputable abbrev Hp:=Addr->Option HO
noncomputable def upd(H:Hp)(a:Addr)(o:HO):Hp:=λb=>if b=a then some o else H b
theorem zab{H:Hp}{a:Addr}{o:HO}:upd H a o a=some o:=by unfold upd;rw[if_pos rfl]
theorem zan{H:Hp}{a b:Addr}{o:HO}(h:b≠a):upd H a o b=H b:=by unfold upd;rw[if_neg h]
theorem zaI{H:Hp}{a b:Addr}{o u:HO}(h:H a=some o)(h':H b=some u)(d:o≠u):a≠b:=by
 intro e;subst e;rw[h] at h';exact d (Option.some.inj h')
theorem zae{H:Hp}{a b:Addr}{o:HO}(h:H a=some o)(h':H b=none):a≠b:=by
 intro e;subst e;rw[h] at h';cases h'
section
variable (P:Program) (w:World)
noncomputable def ObjOk(H:Hp)(h:Heap)(a:Addr):HO->Prop
 |.lst xs=>xs.length<=sizeLine/\∃(its:List Value) (n:Nat),Vals xs its/\h.get? a=some { cls:=.type "list",data:=.seq its.toArray n }
 |.tup xs=>xs.length<=sizeLine/\∃its:List Value,Vals xs its/\IsTup h a its.toArray
 |.dK kvs=>kvs.length<=sizeLine/\(a==sysModules)=false/\∃vs,KV kvs vs/\h.DictOf (zav P w) a vs
 |.dT kvs=>kvs.length<=sizeLine/\(a==sysModules)=false/\∃xs:List (List Key×Addr×Value),
   Paired (λ(p:List Key×V) (q:List Key×Addr×Value)=>p.1=q.1/\H q.2.1=some (.tup (p.1.map kV))/\RelV p.2 q.2.2) kvs xs /\
   ∃o es ep,h.get? a=some o/\o.ExactDict/\o.data=.dict es ep/\es.toList=xs.map (entryOfKey (tupleKind (zav P w)))/\(xs.map (·.1)).Nodup
 |.set S n=>h.SetOf (intKind P w) a S n
 |.ins C dx fs=>H dx=some (.own a)/\fs.length<=1000/\dx≠a/\h.get? a=some (W.instObj C dx) /\
   ∃mA,h.Ns1 dx mA/\(∀f,RelO (fs.lookup f) (mA f))/\PySem.Within mA (fs.map (·.1))
 |.own _=>∃o,h.get? a=some o
 |.xd fs=>∃mA,h.Ns1 a mA/\∀f,RelO (fs.lookup f) (mA f)
 |.rng lo hi=>∃t u v,h.get? a=some { cls:=.type "range",data:=.fields #[.int lo t,.int hi u,.int 1 v] }
 |.frz o u=>h.get? a=some o/\ObjOk H h a u
 |.tbl ps=>h.get? a=some { cls:=.none,data:=.fields ps }
 |.met f x=>h.get? a=some (W.methodObj (.ref f) (.ref x))
 |.ext j=>j h/\(∃o,h.get? a=some o)/\∀h1 h2:Heap,j h1->(∀o,h1.get? a=some o->h2.get? a=some o)->j h2
noncomputable def HOk(H:Hp)(h:Heap):Prop:=∀a o,H a=some o->ObjOk P w H h a o
end
section
variable {P:Program}{w:World}{H H':Hp}{h h':Heap}{a:Addr}{o:HO}
theorem ObjOk.lt(x:ObjOk P w H h a o):a<h.objs.size:=by
 cases o with
 |lst xs=>obtain⟨_,_,_,_,e⟩:=x;exact Heap.lt_size e
 |tup xs=>obtain⟨_,_,_,p⟩:=x;exact p.lt
 |dK kvs=>obtain⟨_,_,_,_,o,_,_,e,_⟩:=x;exact Heap.lt_size e
 |dT kvs=>obtain⟨_,_,_,_,o,_,_,e,_⟩:=x;exact Heap.lt_size e
 |set S n=>obtain⟨o,_,_,_,e,_⟩:=x;exact Heap.lt_size e
 |ins C dx fs=>obtain⟨_,_,_,e,_⟩:=x;exact Heap.lt_size e
 |own y=>obtain⟨_,e⟩:=x;exact Heap.lt_size e
 |xd fs=>obtain⟨_,⟨_,_,_,e,_⟩,_⟩:=x;exact Heap.lt_size e
 |rng lo hi=>obtain⟨_,_,_,e⟩:=x;exact Heap.lt_size e
 |frz ob u=>obtain⟨e,_⟩:=x;exact Heap.lt_size e
 |tbl ps=>exact Heap.lt_size (show h.get? a=some _ from x)
 |met f y=>exact Heap.lt_size (show h.get? a=some _ from x)
 |ext j=>obtain⟨_,⟨_,e⟩,_⟩:=x;exact Heap.lt_size e
theorem Paired.mapP{j B:Type}{F D:j->B->Prop}:∀ {G:List j}{I:List B},Paired F G I->(∀a b,F a b->D a b)->Paired D G I
 |_,_,.nil,_=>.nil
 |_,_,.cons r t,f=>.cons (f _ _ r) (Paired.mapP t f)
theorem ObjOk.stay(x:ObjOk P w H h a o)(k:∀b u,(b=a∨H b=some (.own a))->h.get? b=some u->h'.get? b=some u)(j:∀b,H b=some (.own a)->H' b=some (.own a))(B:∀b xs,H b=some (.tup xs)->H' b=some (.tup xs)):ObjOk P w H' h' a o:=by
 induction o with
 |lst xs=>obtain⟨z,its,n,r,e⟩:=x;exact⟨z,its,n,r,k _ _ (.inl J) e⟩
 |tup xs=>obtain⟨z,its,r,ob,e,c⟩:=x;exact⟨z,its,r,ob,k _ _ (.inl J) e,c⟩
 |dK kvs=>obtain⟨z,y,vs,r,ob,es,ep,e,c⟩:=x;exact⟨z,y,vs,r,ob,es,ep,k _ _ (.inl J) e,c⟩
 |dT kvs=>
  obtain⟨z,y,xs,r,ob,es,ep,e,c⟩:=x;exact⟨z,y,xs,Paired.mapP r λp q z=>⟨z.1,B _ _ z.2.1,z.2.2⟩,ob,es,ep,k _ _ (.inl J) e,c⟩
 |set S n=>obtain⟨ob,es,ep,t,e,c⟩:=x;exact⟨ob,es,ep,t,k _ _ (.inl J) e,c⟩
 |ins C dx fs=>
  obtain⟨d,z,D,e,mA,⟨od,es,ep,F,c⟩,r⟩:=x;exact⟨j _ d,z,D,k _ _ (.inl J) e,mA,⟨od,es,ep,k _ _ (.inr d) F,c⟩,r⟩
 |own y=>obtain⟨ob,e⟩:=x;exact⟨ob,k _ _ (.inl J) e⟩
 |xd fs=>obtain⟨mA,⟨od,es,ep,e,c⟩,r⟩:=x;exact⟨mA,⟨od,es,ep,k _ _ (.inl J) e,c⟩,r⟩
 |rng lo hi=>obtain⟨t,u,v,e⟩:=x;exact⟨t,u,v,k _ _ (.inl J) e⟩
 |frz ob u G=>obtain⟨e,q⟩:=x;exact⟨k _ _ (.inl J) e,G q⟩
 |tbl ps=>
  have e:h.get? a=some { cls:=.none,data:=.fields ps }:=x;show h'.get? a=some { cls:=.none,data:=.fields ps };exact k a _ (.inl J) e
 |met f y=>
  have e:h.get? a=some (W.methodObj (.ref f) (.ref y)):=x;show h'.get? a=some (W.methodObj (.ref f) (.ref y));exact k a _ (.inl J) e
 |ext I=>obtain⟨p,⟨o,e⟩,st⟩:=x;exact⟨st _ _ p λo q=>k _ _ (.inl J) q,⟨o,k _ _ (.inl J) e⟩,st⟩
theorem HOk.lt(x:HOk P w H h)(e:H a=some o):a<h.objs.size:=(x a o e).lt
theorem HOk.fresh(x:HOk P w H h)(e:h.objs.size<=a):H a=none:=by
 cases q:H a with
 |none=>rfl
 |some u=>exact absurd (Nat.lt_of_lt_of_le (x.lt q) e) (Nat.lt_irrefl _)
theorem HOk.kept(x:HOk P w H h)(k:∀b u,h.get? b=some u->h'.get? b=some u):HOk P w H h':=λa o e=>
 (x a o e).stay (λb u _ q=>k b u q) (λ_ q=>q) λ_ _ q=>q
theorem HOk.laid(x:HOk P w H h)(k:∀b u,h.get? b=some u->h'.get? b=some u)(D:h.objs.size<=a)(F:ObjOk P w (upd H a o) h' a o):HOk P w (upd H a o) h':=λb u e=>by
 have j:=x.fresh D;by_cases B:b=a
 .subst B;rw[zab] at e;cases e;exact F
 .rw[zan B] at e;exact(x b u e).stay (λc v _ q=>k c v q) (λc q=>by rw[zan (zae q j)];exact q) λc xs q=>by rw[zan (zae q j)];exact q
end
noncomputable def Rd(H:Hp)(a:Addr)(u:HO):Prop:=H a=some u∨∃o,H a=some (.frz o u)
theorem Rd.ok{P:Program}{w:World}{H:Hp}{h:Heap}{a:Addr}{u:HO}(r:Rd H a u)(x:HOk P w H h):ObjOk P w H h a u:=by
 rcases r with r|⟨o,r⟩
 .exact x a u r
 .obtain⟨_,q⟩:=x a _ r;exact q
noncomputable def Mut:Option HO->Prop
 |some (.lst _)=>True
 |some (.dK _)=>True
 |some (.dT _)=>True
 |some (.set _ _)=>True
 |some (.ins _ _ _)=>True
 |some (.ext _)=>True
 |_=>False
section
variable {P:Program}{w:World}{H:Hp}{h h':Heap}{x e:Addr}{o':HO}
theorem HOk.write(ok:HOk P w H h)(j:Mut (H x))(F:e=x∨H e=some (.own x))(k:∀b u,b≠e->h.get? b=some u->h'.get? b=some u)(J0:∃u,h'.get? e=some u)(O:ObjOk P w (upd H x o') h' x o'):HOk P w (upd H x o') h':=λb u q=>by
 have G:∀c y,H c=some (.own y)->c≠x:=λc y r z=>by subst z;rw[r] at j;exact j
 have U:∀c xs,H c=some (.tup xs)->c≠x:=λc xs r z=>by subst z;rw[r] at j;exact j
 by_cases B:b=x
 .subst B;rw[zab] at q;cases q;exact O
 .rw[zan B] at q;by_cases D:b=e
  .have I:H b=some (.own x):=by
    rcases F with z|z
    .exact absurd (D.trans z) B
    .rw[D];exact z
   rw[q] at I;cases I;obtain⟨v,V⟩:=J0;exact⟨v,by rw[D];exact V⟩
  .refine(ok b u q).stay (λc v hc r=>k c v ?_ r) (λc r=>by rw[zan (G c b r)];exact r) λc xs r=>by rw[zan (U c xs r)];exact r
   rcases hc with rfl|hc
   .exact D
   .rintro rfl;rcases F with z|z
    .exact G c b hc z
    .rw[hc] at z;cases z;exact B rfl
end
structure Un(fs ex:List Addr)(H H':Hp)(h h':Heap):Prop where
 keep:∀b o,h.get? b=some o->H b=none->b∉fs->b∉ex->h'.get? b=some o
 slot:∀b o,h.get? b=some o->H b=none->b∈fs->b∉ex->∃sl,h'.get? b=some { o with slots:=sl }
 free:∀b o,h.get? b=some o->H b=none->b∉ex->H' b=none
 there:∀b o,h.get? b=some o->b∉ex->∃o',h'.get? b=some o'
 tups:∀b xs,H b=some (.tup xs)->H' b=some (.tup xs)
 frzs:∀b o u,H b=some (.frz o u)->H' b=some (.frz o u)
 tbls:∀b ps,H b=some (.tbl ps)->∃more,H' b=some (.tbl (ps++more))
section
variable {fs fs' ex ex':List Addr}{H H1 H2:Hp}{h h1 h2 h':Heap}{a x e:Addr}{o:HO}
theorem Un.any(u:Un fs ex H H1 h h1){b:Addr}{ob:Obj}(q:h.get? b=some ob)(n:H b=none)(j:b∉ex):∃D,h1.get? b=some { ob with slots:=D }:=by
 by_cases B:b∈fs
 .exact u.slot b ob q n B j
 .exact⟨ob.slots,u.keep b ob q n B j⟩
theorem Un.trans(a:Un fs ex H H1 h h1)(b:Un fs ex H1 H2 h1 h2):Un fs ex H H2 h h2 where
 keep:=λc ob q n D j=>b.keep c ob (a.keep c ob q n D j) (a.free c ob q n j) D j
 slot:=λc ob q n D j=>by
  obtain⟨O,B⟩:=a.slot c ob q n D j;obtain⟨G,F⟩:=b.slot c _ B (a.free c ob q n j) D j;exact⟨G,F⟩
 free:=λc ob q n j=>by
  obtain⟨o',B⟩:=a.there c ob q j;exact b.free c o' B (a.free c ob q n j) j
 there:=λc ob q j=>by
  obtain⟨o',B⟩:=a.there c ob q j;exact b.there c o' B j
 tups:=λc xs q=>b.tups c xs (a.tups c xs q)
 frzs:=λc ob xs q=>b.frzs c ob xs (a.frzs c ob xs q)
 tbls:=λc ps q=>by
  obtain⟨I,B⟩:=a.tbls c ps q;obtain⟨J0,F⟩:=b.tbls c _ B;exact⟨I++J0,by rw[F,Array.append_assoc]⟩
theorem Un.kept(k:∀b u,h.get? b=some u->h'.get? b=some u):Un fs ex H H h h':=
 ⟨λb ob q _ _ _=>k b ob q,λb ob q _ _ _=>⟨ob.slots,k b ob q⟩,λ_ _ _ n _=>n,λb ob q _=>⟨ob,k b ob q⟩,λ_ _ q=>q,λ_ _ _ q=>q,λ_ ps q=>⟨#[],by rw[q];simp⟩⟩
theorem Un.refl:Un fs ex H H h h:=Un.kept λ_ _ q=>q
theorem Un.laid(k:∀b u,h.get? b=some u->h'.get? b=some u)(B:h.objs.size<=a)(j:H a=none):Un fs ex H (upd H a o) h h' where
 keep:=λb u q _ _ _=>k b u q
 slot:=λb u q _ _ _=>⟨u.slots,k b u q⟩
 free:=λb u q n _=>by rw[zan (Nat.ne_of_lt (Nat.lt_of_lt_of_le (Heap.lt_size q) B))];exact n
 there:=λb u q _=>⟨u,k b u q⟩
 tups:=λb xs q=>by rw[zan (zae q j)];exact q
 frzs:=λb u xs q=>by rw[zan (zae q j)];exact q
 tbls:=λb ps q=>⟨#[],by rw[zan (zae q j),q];simp⟩
theorem Un.write(j:Mut (H x))(I:e=x∨H e=some (.own x))(k:∀b u,b≠e->h.get? b=some u->h'.get? b=some u)(J0:∃u,h'.get? e=some u):Un fs ex H (upd H x o) h h':=by
 have D:∀b,H b=none->b≠x:=λb n z=>by subst z;rw[n] at j;exact j
 have F:∀b,H b=none->b≠e:=λb n z=>by
  subst z;rcases I with r|r
  .exact D b n r
  .rw[n] at r;cases r
 have B:∀b u,H b=some u->¬Mut (some u)->b≠x:=λb u q nm z=>by subst z;rw[q] at j;exact nm j
 refine⟨λb u q n _ _=>k b u (F b n) q,λb u q n _ _=>⟨u.slots,k b u (F b n) q⟩,λb u q n _=>by rw[zan (D b n)];exact n,λb u q _=>?_,
  λb xs q=>by rw[zan (B b _ q λz=>z)];exact q,λb u xs q=>by rw[zan (B b _ q λz=>z)];exact q,λb ps q=>⟨#[],by rw[zan (B b _ q λz=>z),q];simp⟩⟩
 by_cases G:b=e
 .subst G;exact J0
 .exact⟨u,k b u G q⟩
theorem Un.mono(u:Un fs ex H H1 h h1)(D:∀b∈fs,b∈fs')(B:∀b∈ex,b∈ex'):Un fs' ex' H H1 h h1:=
 ⟨λb ob q n F j=>u.keep b ob q n (λz=>F (D b z)) λz=>j (B b z),λ_ _ q n _ j=>u.any q n λz=>j (B _ z),λb ob q n j=>u.free b ob q n λz=>j (B b z),λb ob q j=>u.there b ob q λz=>j (B b z),u.tups,u.frzs,u.tbls⟩
end
noncomputable def trk(h:Heap)(H:Hp):List Addr:=(List.range h.objs.size).filter λa=>(H a).isSome
noncomputable def hidT(h:Heap)(H:Hp):Heap:=W.hideAll h (trk h H)
theorem zgZ(h:Heap)(H:Hp):(hidT h H).objs.size=h.objs.size:=W.hideAll_size _ _
theorem ziA{h:Heap}{H:Hp}{b:Addr}{o:Obj}(e:h.get? b=some o)(n:H b=none):(hidT h H).get? b=some o:=
 W.hideAll_get _ e λj=>by
  have q:(H b).isSome=true:=(List.mem_filter.mp j).2;rw[n] at q;simp at q
theorem zj1{h:Heap}{H:Hp}{b:Addr}{o:Obj}(e:(hidT h H).get? b=some o):h.get? b=some o/\H b=none:=by
 have j:h.get? b=some o:=W.of_hideAll (trk h H) e;refine⟨j,?_⟩;cases q:H b with
 |none=>rfl
 |some x=>
  have B:b∈trk h H:=List.mem_filter.mpr ⟨List.mem_range.mpr (Heap.lt_size j),by simp[q]⟩;have z:(hidT h H).get? b=none:=W.hideAll_none (trk h H) B;rw[z] at e;cases e
structure Mod(K:W.Frag)(mg:Str->Option Value)(base:Heap):Prop where
 kin:K.In base
 glob:base.Ns mainGlobals mg
 blt:∃mb,base.Ns builtinsNs mb/\∀x:Str,x≠"__name__"->mb x=bootBuiltins x
 nolimit:base.NoLimit
structure Cx where
 prog:Program
 w:World
 K:W.Frag
 mg:Str->Option Value
 base:Heap
 A:Around
 N:List Str
 s₀:Shared
 H₀:Hp
 env:Env
 outer:List Env
 stack:List Env
 ex:List Addr
 fn:Str->Bool
 calm:Bool
 pn:List (Addr×Obj)
 xe:Value->Shared->Prop
noncomputable def frs(l:List Env):List Addr:=l.filterMap (·.frame)
noncomputable abbrev Cx.fs(X:Cx):List Addr:=frs X.outer
noncomputable def Vis(sc:Scope)(x:Str):Prop:=sc.names.lookup x=some .local∨sc.names.lookup x=some .cell∨sc.names.lookup x=some .free
noncomputable def Loc(sc:Scope)(x:Str):Prop:=sc.names.lookup x=some .local∨sc.names.lookup x=some .cell
noncomputable def Look(env:Env)(h:Heap)(m:Str->Option Value)(x:Str)(u:Value):Prop:=
 (env.kindOf x=some .local/\m x=some u)∨((env.kindOf x=some .cell∨env.kindOf x=some .free)/\∃c,env.cells.lookup x=some c/\h.IsCell c (some u))
structure Cx.Ok(X:Cx):Prop where
 mod:Mod X.K X.mg X.base
 kind:X.env.scope.kind=.function
 glob:X.env.globals=mainGlobals
 blt:X.env.builtins=builtinsNs
 above:X.s₀.heap.objs.size<=X.env.locals
 inj:∀x y c,X.env.cells.lookup x=some c->X.env.cells.lookup y=some c->x=y
 has:∀x,(X.env.kindOf x=some .cell∨X.env.kindOf x=some .free)->∃c,X.env.cells.lookup x=some c
 cab:∀x c,X.fn x=true->X.env.cells.lookup x=some c->X.s₀.heap.objs.size<=c
 hd:X.calm=true->X.A.handled=none
 frames:X.A.frames=some X.stack
 stk:X.stack=X.outer∨(X.stack=X.env::X.outer/\X.env.frame=some X.env.locals)
 exf:∀b∈X.ex,b≠X.env.locals/\∀x c,X.env.cells.lookup x=some c->c≠b
 bs:∀b o,X.base.get? b=some o->X.s₀.heap.get? b=some o/\X.H₀ b=none
 bsz:X.base.objs.size<=X.s₀.heap.objs.size
 noex:∀b o,X.base.get? b=some o->b∉X.ex
 exfs:∀b∈X.ex,b∉X.fs
 funs:X.s₀.heap.FunFrames X.base X.outer
 frf:∀b∈X.fs,X.H₀ b=none
structure Inv(X:Cx)(pins:List (Addr×Obj))(σ:List (Option V))(H:Hp)(s:Shared):Prop where
 ok:X.Ok
 os:s.os=X.s₀.os
 bare:AllBare s.gens
 base:Un X.fs X.ex X.H₀ H X.s₀.heap s.heap
 loc:∃m,s.heap.Ns X.env.locals m/\∀(i:Nat) (x:Str) (v:V),X.N[i]?=some x->σ[i]?=some (some v)->Vis X.env.scope x->∃u,RelV v u/\Look X.env s.heap m x u
 cell:∀x c,X.env.cells.lookup x=some c->∃v,s.heap.IsCell c v
 free:H X.env.locals=none
 freeC:∀x c,X.env.cells.lookup x=some c->H c=none
 pin:∀p∈X.pn++pins,s.heap.get? p.1=some p.2/\H p.1=none/\p.1≠X.env.locals/\p.1∉X.fs/\∀v,p.2.data≠.cell v
 hok:HOk X.prog X.w H s.heap
 len:σ.length=X.N.length
section
variable {X:Cx}{pins:List (Addr×Obj)}{σ:List (Option V)}{H H':Hp}{s:Shared}{h':Heap}
theorem Cx.Ok.nofr(ok:X.Ok){b:Addr}{o:Obj}(e:X.base.get? b=some o):b∉X.fs:=λj=>by
 have:=(ok.funs.mem j).1;rw[e] at this;cases this
theorem Inv.bs(j:Inv X pins σ H s):∀b o,X.base.get? b=some o->s.heap.get? b=some o/\H b=none:=λb o e=>
 ⟨j.base.keep b o (j.ok.bs b o e).1 (j.ok.bs b o e).2 (j.ok.nofr e) (j.ok.noex b o e),j.base.free b o (j.ok.bs b o e).1 (j.ok.bs b o e).2 (j.ok.noex b o e)⟩
theorem Inv.bk(j:Inv X pins σ H s):∀b o,X.base.get? b=some o->s.heap.get? b=some o:=λb o e=>(j.bs b o e).1
theorem Inv.mod(j:Inv X pins σ H s):Mod X.K X.mg X.base:=j.ok.mod
theorem Inv.kIn(j:Inv X pins σ H s):X.K.In s.heap:=j.ok.mod.kin.keeps j.bk
theorem Inv.lt(j:Inv X pins σ H s):X.env.locals<s.heap.objs.size:=let ⟨_,B,_⟩:=j.loc;B.lt
theorem Inv.sz(j:Inv X pins σ H s):X.s₀.heap.objs.size<=s.heap.objs.size:=Nat.le_trans j.ok.above (Nat.le_of_lt j.lt)
theorem Inv.nofs(j:Inv X pins σ H s){a:Addr}(h:s.heap.objs.size<=a):a∉X.fs:=λB=>by
 obtain⟨_,o,D,_⟩:=j.ok.funs.mem B;exact absurd (Nat.lt_of_lt_of_le (Heap.lt_size D) (Nat.le_trans j.sz h)) (Nat.lt_irrefl _)
theorem Inv.cne(j:Inv X pins σ H s):∀x c,X.env.cells.lookup x=some c->c≠X.env.locals:=λx c e z=>by
 obtain⟨v,o,B,D⟩:=j.cell x c e;obtain⟨m,⟨o',es,ep,F,G,_⟩,_⟩:=j.loc;rw[z,F] at B;cases B;rw[G] at D;cases D
theorem Inv.funs(j:Inv X pins σ H s):s.heap.FunFrames X.base X.outer:=by
 have I:∀(l:List Env),(∀b∈frs l,b∈X.fs)->X.s₀.heap.FunFrames X.base l->s.heap.FunFrames X.base l:=by
  intro l;induction l with
  |nil=>intro _ _;trivial
  |cons env r J0=>
   intro G O;obtain⟨U,⟨L,o,B,V,W,Y⟩,Z⟩:=O;have D:L∈X.fs:=G L (by unfold frs;rw[List.filterMap_cons,B];exact List.mem_cons_self);obtain⟨aa,e⟩:=j.base.slot L o W (j.ok.frf L D) D λz=>j.ok.exfs L z D;exact⟨U,⟨L,_,B,V,e,Y⟩,J0 (λb F=>G b (by unfold frs;rw[List.filterMap_cons,B];exact List.mem_cons_of_mem _ F)) Z⟩
 exact I X.outer (λ_ F=>F) j.ok.funs
theorem Inv.stack(j:Inv X pins σ H s):s.heap.FunFrames X.base X.stack:=by
 rcases j.ok.stk with e|⟨e,B⟩
 .rw[e];exact j.funs
 .rw[e];obtain⟨m,D,_⟩:=j.loc;refine .cons (by rw[j.ok.kind];decide) B D ?_ j.funs;exact Heap.get?_none_of_le (Nat.le_trans j.ok.bsz j.ok.above)
theorem Inv.stkSub(B:Inv X pins σ H s):∀b∈frs X.stack,b∈X.env.locals::X.fs:=λb j=>by
 rcases B.ok.stk with e|⟨e,D⟩
 .rw[e] at j;exact List.mem_cons_of_mem _ j
 .rw[e] at j;unfold frs at j;rw[List.filterMap_cons,D] at j;exact j
theorem Inv.stkFree(j:Inv X pins σ H s):∀b∈frs X.stack,H b=none:=λb hb=>by
 rcases List.mem_cons.mp (j.stkSub b hb) with e|hb
 .rw[e];exact j.free
 .obtain⟨_,o,B,_⟩:=j.ok.funs.mem hb;exact j.base.free b o B (j.ok.frf b hb) λz=>j.ok.exfs b z hb
theorem Inv.step{g':Array GenState}{t':Nat}{d':Drawn}{ch:List Addr}(j:Inv X pins σ H s)(I:∀b∈ch,(b∈X.ex∨X.s₀.heap.objs.size<=b)/\b≠X.env.locals/\(∀x c,X.env.cells.lookup x=some c->c≠b)/\∀p∈X.pn++pins,p.1≠b)(keep:∀b o,b≠X.env.locals->b∉X.fs->b∉ch->s.heap.get? b=some o->H b=none->h'.get? b=some o)(slot:∀b o,b≠X.env.locals->b∈X.fs->b∉ch->s.heap.get? b=some o->H b=none->∃V,h'.get? b=some { o with slots:=V })(free:∀b o,b∉ch->s.heap.get? b=some o->H b=none->H' b=none)(there:∀b o,b∉ch->s.heap.get? b=some o->∃o',h'.get? b=some o')(tups:∀b xs,H b=some (.tup xs)->H' b=some (.tup xs))(frzs:∀b o u,H b=some (.frz o u)->H' b=some (.frz o u))(tbls:∀b ps,H b=some (.tbl ps)->∃ae,H' b=some (.tbl (ps++ae)))(af:∀m,s.heap.Ns X.env.locals m->h'.Ns X.env.locals m)(ag:HOk X.prog X.w H' h')(ah:AllBare g') :
  Inv X pins σ H' { s with heap:=h',gens:=g',drawn:=d',toks:=t' }:=by
 have Y:∀b o,X.s₀.heap.get? b=some o->b≠X.env.locals:=λb o e=>Nat.ne_of_lt (Nat.lt_of_lt_of_le (Heap.lt_size e) j.ok.above);have U:∀b o,X.s₀.heap.get? b=some o->b∉X.ex->b∉ch:=λb o e B F=>by
  rcases(I b F).1 with z|z
  .exact B z
  .exact absurd (Nat.lt_of_lt_of_le (Heap.lt_size e) z) (Nat.lt_irrefl _)
 have Z:∀x c,X.env.cells.lookup x=some c->∀v,s.heap.IsCell c v->h'.IsCell c v:=λx c e v ⟨o,G,W⟩=>by
  have J0:c∉ch:=λz=>(I c z).2.2.1 x c e rfl;by_cases aa:c∈X.fs
  .obtain⟨V,q⟩:=slot c o (j.cne x c e) aa J0 G (j.freeC x c e);exact⟨_,q,W⟩
  .exact⟨o,keep c o (j.cne x c e) aa J0 G (j.freeC x c e),W⟩
 refine⟨j.ok,j.os,ah,⟨λb o e n F B=>?_,λb o e n F B=>?_,λb o e n B=>?_,λb o e B=>?_,λb xs e=>tups b xs (j.base.tups b xs e),λb o xs e=>frzs b o xs (j.base.frzs b o xs e),λb ps e=>?_⟩,?_,λx c e=>?_,?_,λx c e=>?_,λp ab=>?_,ag,j.len⟩
 .exact keep b o (Y b o e) F (U b o e B) (j.base.keep b o e n F B) (j.base.free b o e n B)
 .obtain⟨V,D⟩:=j.base.slot b o e n F B;obtain⟨ai,O⟩:=slot b _ (Y b o e) F (U b o e B) D (j.base.free b o e n B);exact⟨ai,O⟩
 .obtain⟨o',D⟩:=j.base.there b o e B;exact free b o' (U b o e B) D (j.base.free b o e n B)
 .obtain⟨o',D⟩:=j.base.there b o e B;exact there b o' (U b o e B) D
 .obtain⟨aj,D⟩:=j.base.tbls b ps e;obtain⟨ak,O⟩:=tbls b _ D;exact⟨aj++ak,by rw[O,Array.append_assoc]⟩
 .obtain⟨m,al,am⟩:=j.loc;refine⟨m,af m al,λi x v D O ao=>?_⟩;obtain⟨u,r,l⟩:=am i x v D O ao;refine⟨u,r,?_⟩;rcases l with l|⟨k,c,e,z⟩
  .exact .inl l
  .exact .inr ⟨k,c,e,Z x c e _ z⟩
 .obtain⟨v,z⟩:=j.cell x c e;exact⟨v,Z x c e v z⟩
 .obtain⟨m,⟨o,_,_,G,_⟩,_⟩:=j.loc;exact free _ o (λz=>(I _ z).2.1 rfl) G j.free
 .obtain⟨v,o,G,W⟩:=j.cell x c e;exact free c o (λz=>(I c z).2.2.1 x c e J) G (j.freeC x c e)
 .obtain⟨e,n,ac,ad,d⟩:=j.pin p ab;have J0:p.1∉ch:=λz=>(I p.1 z).2.2.2 p ab rfl;exact⟨keep p.1 p.2 ac ad J0 e n,free p.1 p.2 J0 e n,ac,ad,d⟩
theorem Inv.un{t':Nat}(j:Inv X pins σ H s)(u:Un X.fs [] H H' s.heap h')(G:HOk X.prog X.w H' h'):Inv X pins σ H' { s with heap:=h',toks:=t' }:=by
 obtain⟨m,⟨o,es,ep,D,r⟩,_⟩:=id j.loc;obtain⟨W,I⟩:=u.any D j.free (by simp);exact j.step (g':=s.gens) (d':=s.drawn) (ch:=[]) (λ_ z=>nomatch z) (λb o _ B _ e n=>u.keep b o e n B (by simp)) (λb o _ B _ e n=>u.slot b o e n B (by simp)) (λb o _ e n=>u.free b o e n (by simp)) (λb o _ e=>u.there b o e (by simp)) u.tups u.frzs u.tbls (λY J0=>by
  obtain⟨o',O,U,F,V⟩:=J0;rw[D] at F;cases F;exact⟨_,O,U,I,V⟩) G j.bare
theorem Inv.call{g':Array GenState}{t':Nat}{d':Drawn}{ch:List Addr}(B:Inv X pins σ H s)(u:Un (frs X.stack) ch H H' s.heap h')(J0:HOk X.prog X.w H' h')(O:AllBare g')(F:∀b∈ch,(b∈X.ex∨X.s₀.heap.objs.size<=b)/\b≠X.env.locals/\(∀x c,X.env.cells.lookup x=some c->c≠b)/\∀p∈X.pn++pins,p.1≠b) :
  Inv X pins σ H' { s with heap:=h',gens:=g',drawn:=d',toks:=t' }:=by
 obtain⟨m,⟨o,es,ep,G,r⟩,_⟩:=id B.loc;obtain⟨aa,D⟩:=u.any G B.free λz=>(F _ z).2.1 rfl;exact B.step (ch:=ch) F (λb o D U j e n=>u.keep b o e n (λz=>(List.mem_cons.mp (B.stkSub b z)).elim D U) j) (λb o _ _ j e n=>u.any e n j) (λb o j e n=>u.free b o e n j) (λb o j e=>u.there b o e j) u.tups u.frzs u.tbls (λab V=>by
  obtain⟨o',W,Y,I,Z⟩:=V;rw[G] at I;cases I;exact⟨_,W,Y,D,Z⟩) J0 O
theorem Inv.turned{t':Nat}{it:Addr}(B:Inv X pins σ H s)(k:∀b o,b≠it->s.heap.get? b=some o->h'.get? b=some o)(G:H it=none)(D:it≠X.env.locals)(h1:it∈X.ex∨X.s₀.heap.objs.size<=it)(h2:∀x c,X.env.cells.lookup x=some c->c≠it)(I:∀p∈X.pn++pins,p.1≠it):Inv X pins σ H { s with heap:=h',toks:=t' }:=by
 have F:∀b u,H b=some u->b≠it:=λb u e z=>by rw[z,G] at e;cases e
 refine B.step (g':=s.gens) (d':=s.drawn) (ch:=[it]) (λb J0=>?_) (λb o _ _ j e _=>k b o (λz=>j (by simp[z])) e) (λb o _ _ j e _=>⟨o.slots,k b o (λz=>j (by simp[z])) e⟩) (λ_ _ _ _ n=>n)
  (λb o j e=>⟨o,k b o (λz=>j (by simp[z])) e⟩) (λ_ _ e=>e) (λ_ _ _ e=>e) (λb ps e=>⟨#[],by rw[e];simp⟩) (λm O=>?_) (λb u e=>?_) B.bare
 .have e:b=it:=by simpa using J0
  subst e;exact⟨h1,D,h2,I⟩
 .obtain⟨o,es,ep,U,r⟩:=O;exact⟨o,es,ep,k _ o (Ne.symm D) U,r⟩
 .refine(B.hok b u e).stay (λc v j q=>k c v ?_ q) (λ_ q=>q) λ_ _ q=>q;rcases j with z|z
  .rw[z];exact F b u e
  .exact F c _ z
theorem Inv.tok(j:Inv X pins σ H s)(t:Nat):Inv X pins σ H { s with toks:=t }:=j.un (h':=s.heap) (t':=t) Un.refl j.hok
theorem Inv.kept{t':Nat}(j:Inv X pins σ H s)(k:∀b u,s.heap.get? b=some u->h'.get? b=some u):Inv X pins σ H { s with heap:=h',toks:=t' }:=j.un (Un.kept k) (j.hok.kept k)
theorem Inv.laid{a:Addr}{o:HO}{t':Nat}(j:Inv X pins σ H s)(k:∀b u,s.heap.get? b=some u->h'.get? b=some u)(B:s.heap.objs.size<=a)(D:ObjOk X.prog X.w (upd H a o) h' a o) :
  Inv X pins σ (upd H a o) { s with heap:=h',toks:=t' }:=j.un (Un.laid k B (j.hok.fresh B)) (j.hok.laid k B D)
theorem Inv.write{x e:Addr}{o:HO}{t':Nat}(j:Inv X pins σ H s)(B:Mut (H x))(D:e=x∨H e=some (.own x))(k:∀b u,b≠e->s.heap.get? b=some u->h'.get? b=some u)(F:∃u,h'.get? e=some u)(G:ObjOk X.prog X.w (upd H x o) h' x o):Inv X pins σ (upd H x o) { s with heap:=h',toks:=t' }:=j.un (Un.write B D k F) (j.hok.write B D k F G)
theorem Inv.pins_of{B:List (Addr×Obj)}(j:Inv X pins σ H s)(h:∀p∈B,s.heap.get? p.1=some p.2/\H p.1=none/\p.1≠X.env.locals/\p.1∉X.fs/\∀v,p.2.data≠.cell v):Inv X B σ H s:=
 ⟨j.ok,j.os,j.bare,j.base,j.loc,j.cell,j.free,j.freeC,λp D=>(List.mem_append.mp D).elim (λz=>j.pin p (List.mem_append_left _ z)) (h p),j.hok,j.len⟩
theorem zfG{N:List Str}(B:N.Nodup){i j:Nat}{x:Str}(a:N[i]?=some x)(b:N[j]?=some x):i=j:=by
 obtain⟨h1,D⟩:=List.getElem?_eq_some_iff.mp a;obtain⟨h2,F⟩:=List.getElem?_eq_some_iff.mp b;exact(List.getElem_inj B).mp (D.trans F.symm)
theorem zeC{M:Model}{A:Around}{E:Value->Shared->Prop}{i:Nat}{x:Str}{v:V}{u:Value}{Q:Unit->Shared->Prop}(B:Inv X pins σ H s)(aj:X.N.Nodup)(hi:X.N[i]?=some x)(G:Loc X.env.scope x)(r:RelV v u)(h:∀s',Inv X pins (σ.set i (some v)) H s'->(∃a,Heap.SameBut a s.heap s'.heap/\(a=X.env.locals∨X.env.cells.lookup x=some a))->Q () s')(as:X.fn x=true∨X.env.scope.names.lookup x=some .local:=by first|exact .inl rfl|exact .inr rfl|assumption):wpAny M A (storeName X.env x u) Q E s:=by
 obtain⟨m,Z,ak⟩:=id B.loc;have au:(X.env.scope.kind==.class || (X.env.scope.kind==.module&&X.env.locals != X.env.globals))=false:=by rw[B.ok.kind];rfl
 have al:i<σ.length:=by rw[B.len];exact(List.getElem?_eq_some_iff.mp hi).1
 have aa:=B.cne;have am:∀ {a:Addr} {h':Heap},(∃o,s.heap.get? a=some o/\H a=none)->Heap.SameBut a s.heap h'->HOk X.prog X.w H h':=λ{a h'} av D b ob e=>by
  obtain⟨_,_,ao⟩:=av;refine(B.hok b ob e).stay (λc U hc q=>(D.2 c ?_).trans q) (λ_ q=>q) λ_ _ q=>q;rintro rfl;rcases hc with rfl|hc
  .rw[ao] at e;cases e
  .rw[ao] at hc;cases hc
 rcases G with hk|hk
 .refine wpAny_storeName_local hk Z (λh' aw D=>?_) au;obtain⟨ax,_,_,ay,_⟩:=id Z;refine h _ ⟨B.ok,B.os,B.bare,⟨λb o e n J0 G=>?_,λb o e n J0 G=>?_,B.base.free,λb o e G=>?_,B.base.tups,B.base.frzs,B.base.tbls⟩,⟨_,aw,λj y ab F I ac=>?_⟩,λy c e=>?_,B.free,B.freeC,λp ad=>?_,am ⟨ax,ay,B.free⟩ D,by simpa using B.len⟩ ⟨_,D,.inl J⟩
  .exact(D.2 b (Nat.ne_of_lt (Nat.lt_of_lt_of_le (Heap.lt_size e) B.ok.above))).trans (B.base.keep b o e n J0 G)
  .obtain⟨ae,F⟩:=B.base.slot b o e n J0 G;exact⟨ae,(D.2 b (Nat.ne_of_lt (Nat.lt_of_lt_of_le (Heap.lt_size e) B.ok.above))).trans F⟩
  .obtain⟨o',F⟩:=B.base.there b o e G;exact⟨o',(D.2 b (Nat.ne_of_lt (Nat.lt_of_lt_of_le (Heap.lt_size e) B.ok.above))).trans F⟩
  .by_cases O:j=i
   .subst O;rw[hi] at F;cases F;rw[List.getElem?_set_self al] at I;cases I;exact⟨u,r,.inl ⟨hk,by simp⟩⟩
   .rw[List.getElem?_set_ne (Ne.symm O)] at I;obtain⟨af,ag,q⟩:=ak j y ab F I ac;refine⟨af,ag,?_⟩;rcases q with⟨k,e⟩|⟨k,c,e,z⟩
    .refine .inl ⟨k,?_⟩;have:y≠x:=λe=>O (zfG aj F (e ▸ hi));simp[this,e]
    .exact .inr ⟨k,c,e,z.sameBut D (aa y c e)⟩
  .obtain⟨U,z⟩:=B.cell y c e;exact⟨U,z.sameBut D (aa y c e)⟩
  .obtain⟨e,n,W,ah,d⟩:=B.pin p ad;exact⟨(D.2 p.1 W).trans e,n,W,ah,d⟩
 .have ai:X.fn x=true:=by
   rcases as with z|z
   .exact z
   .rw[z] at hk;cases hk
  obtain⟨c,hc⟩:=B.ok.has x (.inl hk);obtain⟨U,z⟩:=B.cell x c hc;refine wpAny_storeName_cell B.ok.kind hk hc z (λh' ap D=>?_);obtain⟨oc,aq,az⟩:=id z;refine h { s with heap:=h' } ⟨B.ok,B.os,B.bare,⟨λb o e n J0 G=>?_,λb o e n J0 G=>?_,B.base.free,λb o e G=>?_,B.base.tups,B.base.frzs,B.base.tbls⟩,⟨m,Z.sameBut D (Ne.symm (aa x c hc)),λj y ab F I ac=>?_⟩,λy Y e=>?_,B.free,B.freeC,λp ad=>?_,am ⟨oc,aq,B.freeC x c hc⟩ D,by simpa using B.len⟩ ⟨c,D,.inr hc⟩
  .exact(D.2 b (Nat.ne_of_lt (Nat.lt_of_lt_of_le (Heap.lt_size e) (B.ok.cab x c ai hc)))).trans (B.base.keep b o e n J0 G)
  .obtain⟨ae,F⟩:=B.base.slot b o e n J0 G;exact⟨ae,(D.2 b (Nat.ne_of_lt (Nat.lt_of_lt_of_le (Heap.lt_size e) (B.ok.cab x c ai hc)))).trans F⟩
  .obtain⟨o',F⟩:=B.base.there b o e G;exact⟨o',(D.2 b (Nat.ne_of_lt (Nat.lt_of_lt_of_le (Heap.lt_size e) (B.ok.cab x c ai hc)))).trans F⟩
  .by_cases O:j=i
   .subst O;rw[hi] at F;cases F;rw[List.getElem?_set_self al] at I;cases I;exact⟨u,r,.inr ⟨.inl hk,c,hc,ap⟩⟩
   .rw[List.getElem?_set_ne (Ne.symm O)] at I;obtain⟨af,ag,q⟩:=ak j y ab F I ac;refine⟨af,ag,?_⟩;rcases q with q|⟨k,Y,e,z'⟩
    .exact .inl q
    .refine .inr ⟨k,Y,e,z'.sameBut D ?_⟩;rintro rfl;exact O (zfG aj F (B.ok.inj _ _ _ e hc ▸ hi))
  .by_cases ar:Y=c
   .subst ar;exact⟨_,ap⟩
   .obtain⟨aA,aB⟩:=B.cell y Y e;exact⟨aA,aB.sameBut D ar⟩
  .obtain⟨e,n,W,ah,d⟩:=B.pin p ad;refine⟨(D.2 p.1 ?_).trans e,n,W,ah,d⟩;intro q;rw[q,aq] at e;have aC:oc=p.2:=Option.some.inj e;exact d U (by rw[←aC];exact az)
theorem zda{M:Model}{A:Around}{E:Value->Shared->Prop}{i:Nat}{x:Str}{v:V}{u:Value}{Q:Unit->Shared->Prop}(j:Inv X pins σ H s)(B:X.N.Nodup)(hi:X.N[i]?=some x)(D:Loc X.env.scope x)(r:RelV v u)(h:∀s',Inv X pins (σ.set i (some v)) H s'->Q () s')(F:X.fn x=true∨X.env.scope.names.lookup x=some .local:=by first|exact .inl rfl|exact .inr rfl|assumption):wpAny M A (storeName X.env x u) Q E s:=
 zeC j B hi D r (λs' G _=>h s' G) F
theorem Inv.call'{s':Shared}{ch:List Addr}(j:Inv X pins σ H s)(B:s'.os=s.os)(u:Un (frs X.stack) ch H H' s.heap s'.heap)(D:HOk X.prog X.w H' s'.heap)(F:AllBare s'.gens)(G:∀b∈ch,(b∈X.ex∨X.s₀.heap.objs.size<=b)/\b≠X.env.locals/\(∀x c,X.env.cells.lookup x=some c->c≠b)/\∀p∈X.pn++pins,p.1≠b):Inv X pins σ H' s':=by
 obtain⟨h',g',d',t',o'⟩:=s';have e:o'=s.os:=B;subst e;exact j.call (g':=g') (t':=t') (d':=d') u D F G
end
noncomputable abbrev XK:=Value->Option Addr->Hp->Prop
noncomputable abbrev St:=List (Option V)
noncomputable abbrev VK:=V->Hp->Prop
noncomputable abbrev TE:=St->Hp->VK->Prop
noncomputable abbrev TT:=St->Hp->(Bool->Hp->Prop)->Prop
noncomputable abbrev TA:=St->Hp->(List V->Hp->Prop)->Prop
structure Ends where
 nx:St->Hp->Prop
 rt:VK
 bk:St->Hp->Prop:=λ_ _=>False
 ct:St->Hp->Prop:=λ_ _=>False
noncomputable abbrev TS:=Ends->St->Hp->Prop
noncomputable def EP(X:Cx)(pins:List (Addr×Obj))(σ:St)(Q:VK)(u:Value)(s':Shared):Prop:=∃v H',Inv X pins σ H' s'/\RelV v u/\Q v H'
noncomputable def TP(X:Cx)(pins:List (Addr×Obj))(σ:St)(Q:Bool->Hp->Prop)(b:Bool)(s':Shared):Prop:=∃H',Inv X pins σ H' s'/\Q b H'
noncomputable def AP(X:Cx)(pins:List (Addr×Obj))(σ:St)(Q:List V->Hp->Prop)(us:List Value)(s':Shared):Prop:=∃vs H',Inv X pins σ H' s'/\Vals vs us/\Q vs H'
noncomputable def SP(X:Cx)(pins:List (Addr×Obj))(D:Ends)(f:Flow)(s':Shared):Prop:=
 match f with
 |.next=>∃σ' H',Inv X pins σ' H' s'/\D.nx σ' H'
 |.brk=>∃σ' H',Inv X pins σ' H' s'/\D.bk σ' H'
 |.cont=>∃σ' H',Inv X pins σ' H' s'/\D.ct σ' H'
 |.ret u=>∃v σ' H',Inv X pins σ' H' s'/\RelV v u/\D.rt v H'
noncomputable def PE(X:Cx)(e:Expr)(t:TE):Prop:=
 ∀(pins:List (Addr×Obj)) (s:Shared) (σ:St) (H:Hp) (Q:VK),Inv X pins σ H s->t σ H Q->wpAny (model X.prog X.w) X.A (eval e X.env) (EP X pins σ Q) X.xe s
noncomputable def PT(X:Cx)(e:Expr)(t:TT):Prop:=
 ∀(pins:List (Addr×Obj)) (s:Shared) (σ:St) (H:Hp) (Q:Bool->Hp->Prop),Inv X pins σ H s->t σ H Q->wpAny (model X.prog X.w) X.A (isTrue e X.env (eval e X.env)) (TP X pins σ Q) X.xe s
noncomputable def PW(X:Cx)(e:Expr)(t:TT):Prop:=
 ∀(j:Sem Value) (pins:List (Addr×Obj)) (s:Shared) (σ:St) (H:Hp) (Q:Bool->Hp->Prop),Inv X pins σ H s->t σ H Q->wpAny (model X.prog X.w) X.A (isTrue e X.env j) (TP X pins σ Q) X.xe s
theorem PW.pt{X:Cx}{e:Expr}{t:TT}(h:PW X e t):PT X e t:=h _
noncomputable def PA(X:Cx)(es:List Expr)(t:TA):Prop:=
 ∀(pos:Pos) (pins:List (Addr×Obj)) (s:Shared) (σ:St) (H:Hp) (Q:List V->Hp->Prop),Inv X pins σ H s->t σ H Q->wpAny (model X.prog X.w) X.A (spliced (backTo pos (starEach es X.env))) (AP X pins σ Q) X.xe s
noncomputable def PS(X:Cx)(st:Stmt)(t:TS):Prop:=
 ∀(pins:List (Addr×Obj)) (s:Shared) (σ:St) (H:Hp) (D:Ends),Inv X pins σ H s->t D σ H->wpAny (model X.prog X.w) X.A (exec st X.env) (SP X pins D) X.xe s
noncomputable def PSs(X:Cx)(st:List Stmt)(t:TS):Prop:=
 ∀(pins:List (Addr×Obj)) (s:Shared) (σ:St) (H:Hp) (D:Ends),Inv X pins σ H s->t D σ H->wpAny (model X.prog X.w) X.A (execs st X.env) (SP X pins D) X.xe s
theorem thn{j:Type}{t:Sem j}{Q B:j->Shared->Prop}{M:Model}{A:Around}{E:Value->Shared->Prop}{s:Shared}(h:wpAny M A t Q E s)(D:∀a s,Q a s->B a s):wpAny M A t B E s:=wpAny_mono h D λ_ _ x=>x
section
variable {X:Cx}
theorem bin{a b:Expr}{ta tb:TE}(F:PE X a ta)(G:PE X b tb){pins:List (Addr×Obj)}{s:Shared}{σ:St}{H:Hp}{R:V->V->Hp->Prop}(I:Inv X pins σ H s)(h:ta σ H λx H1=>tb σ H1 λy H2=>R x y H2){D:Type}{Q:D->Shared->Prop}{f:Value->Value->Sem D}(J0:∀v u j x y H2,Inv X pins σ H2 j->RelV x v->RelV y u->R x y H2->wpAny (model X.prog X.w) X.A (f v u) Q X.xe j) :
  wpAny (model X.prog X.w) X.A (eval a X.env) (λv O=>wpAny (model X.prog X.w) X.A (eval b X.env) (λu U=>wpAny (model X.prog X.w) X.A (f v u) Q X.xe U) X.xe O) X.xe s:=by
 refine thn (F pins s σ H _ I h) λv W B=>?_;obtain⟨x,H1,Y,Z,aa⟩:=B;refine thn (G pins W σ H1 _ Y aa) λu j B=>?_;obtain⟨y,H2,ab,ac,ad⟩:=B;exact J0 v u j x y H2 ab Z ac ad
noncomputable def tVar(i:Nat):TE:=λσ H Q=>∃v,σ[i]?=some (some v)/\Q v H
noncomputable def tC(v:V):TE:=λ_ H Q=>Q v H
theorem zle{i:Nat}{x:Str}{pos:Pos}(I:X.N[i]?=some x)(J0:Vis X.env.scope x)(B:(x==("__debug__":Str))=false:=by decide)(O:(x==("__classdict__":Str))=false:=by decide):PE X (.Name x pos) (tVar i):=by
 intro pins s σ H Q j h;obtain⟨v,e,h⟩:=h;obtain⟨m,U,V⟩:=j.loc;obtain⟨u,r,l⟩:=V i x v I e J0;have D:EP X pins σ Q u s:=⟨v,H,j,r,h⟩;rcases l with⟨hk,W⟩|⟨hk,c,F,G⟩
 .exact wpAny_Name (wpAny_loadName_local j.ok.kind hk U W D) B
 .rcases hk with hk|hk
  .exact wpAny_Name (wpAny_loadName_cell j.ok.kind hk F G D) B
  .exact wpAny_Name (wpAny_loadName_free j.ok.kind hk F G D O) B
theorem zag{i j pos}:PE X (.Constant (.int i) j pos) (tC (.int i)):=λ_ _ _ H _ B h=>wpAny_Constant_int ⟨.int i,H,B.tok _,⟨_,J⟩,h⟩
theorem zcj{b j pos}:PE X (.Constant (.bool b) j pos) (tC (.bl b)):=λ_ _ _ H _ B h=>Constant_bool ⟨.bl b,H,B,J,h⟩
theorem zeD{j pos}:PE X (.Constant .none j pos) (tC .non):=λ_ _ _ H _ B h=>Constant_none ⟨.non,H,B,J,h⟩
theorem zaD{x j pos}:PE X (.Constant (.str x) j pos) (tC (.str x)):=λ_ _ _ H _ B h=>Calls.Constant_str ⟨.str x,H,B.tok _,⟨_,J⟩,h⟩
noncomputable def Gl(X:Cx)(x:Str):Prop:=X.env.kindOf x=some .globalImplicit
theorem zdt{E:Value->Shared->Prop}{pins:List (Addr×Obj)}{s:Shared}{σ:St}{H:Hp}{x:Str}{u:Value}{pos:Pos}{Q:Value->Shared->Prop}(j:Inv X pins σ H s)(B:Gl X x)(D:X.mg x=some u)(h:Q u s)(F:(x==("__debug__":Str))=false:=by decide):wpAny (model X.prog X.w) X.A (eval (.Name x pos) X.env) Q E s:=
 Calls.Name_function_global j.ok.kind B (Calls.loadGlobal_global (by rw[j.ok.glob];exact j.mod.glob.keeps j.bk) D h) F
theorem zbA{E:Value->Shared->Prop}{pins:List (Addr×Obj)}{s:Shared}{σ:St}{H:Hp}{x:Str}{u:Value}{pos:Pos}{Q:Value->Shared->Prop}(j:Inv X pins σ H s)(B:Gl X x)(D:X.mg x=none)(F:bootBuiltins x=some u)(h:Q u s)(G:x≠"__name__":=by decide)(I:(x==("__debug__":Str))=false:=by decide):wpAny (model X.prog X.w) X.A (eval (.Name x pos) X.env) Q E s:=by
 obtain⟨J0,h1,h2⟩:=j.mod.blt;exact Calls.Name_function_global j.ok.kind B (Calls.loadGlobal_builtin (by rw[j.ok.glob];exact j.mod.glob.keeps j.bk) D (by rw[j.ok.blt];exact h1.keeps j.bk) ((h2 x G).trans F) h) I
theorem zea{x:Str}{v:V}{u:Value}{pos:Pos}(B:Gl X x)(D:X.mg x=some u)(r:RelV v u)(F:(x==("__debug__":Str))=false:=by decide):PE X (.Name x pos) (tC v):=
 λ_ _ _ H _ j h=>zdt j B D ⟨v,H,j,r,h⟩ F
theorem zj2{x:Str}{v:V}{u:Value}{pos:Pos}(B:Gl X x)(D:X.mg x=none)(F:bootBuiltins x=some u)(r:RelV v u)(G:x≠"__name__":=by decide)(I:(x==("__debug__":Str))=false:=by decide):PE X (.Name x pos) (tC v):=
 λ_ _ _ H _ j h=>zbA j B D F ⟨v,H,j,r,h⟩ G I
variable {a b:Expr}{ta tb:TE}{pos:Pos}
noncomputable def PC(X:Cx)(op:CmpOp)(a b:Expr)(t:TE):Prop:=
 ∀(pins:List (Addr×Obj)) (s:Shared) (σ:St) (H:Hp) (Q:VK),Inv X pins σ H s->t σ H Q ->
  wpAny (model X.prog X.w) X.A (eval a X.env) (λv j=>wpAny (model X.prog X.w) X.A (eval b X.env) (λu B=>wpAny (model X.prog X.w) X.A (compareOp op v u) (EP X pins σ Q) X.xe B) X.xe j) X.xe s
noncomputable def tB(t:TE):TT:=λσ H Q=>t σ H λx H1=>∃c,x=.bl c/\Q c H1
theorem zmq{op:CmpOp}{t:TE}(h:PC X op a b t)(h1:behindInMarks op b=false:=by first|exact nobehind _ (by decide) (by decide)|rfl):PT X (.Compare a [op] [b] pos) (tB t):=by
 intro pins s σ H Q j hw;refine wpAny_isTrue_Compare1 (thn (h pins s σ H _ j hw) λv I h1=>thn h1 λu J0 h2=>thn h2 λc O B=>?_) h1;obtain⟨x,H1,D,F,G⟩:=B;obtain⟨d,rfl,q⟩:=G;cases F;exact wpAny_truthy_bool ⟨H1,D,q⟩
theorem zck{e:Expr}{t:TE}(h:PE X e t)(B:∀j,isTrue e X.env j=(do let v ← j;standAt e.pos;holding [v] (truthy v)):=by intro _;rfl):PT X e (tB t):=by
 intro pins s σ H Q D hw;refine isTrue_plain (thn (h pins s σ H _ D hw) λv O F=>?_) (B _);obtain⟨x,H1,G,I,J0⟩:=F;obtain⟨d,rfl,q⟩:=J0;cases I;exact wpAny_truthy_bool ⟨H1,G,q⟩
variable {tA tB':TT}{rest:List Expr}
noncomputable def tAnd(t u:TT):TT:=λσ H Q=>t σ H λc H1=>if c=true then u σ H1 Q else Q false H1
noncomputable def tOr(t u:TT):TT:=λσ H Q=>t σ H λc H1=>if c=true then Q true H1 else u σ H1 Q
noncomputable def tNot(t:TT):TT:=λσ H Q=>t σ H λc H1=>Q (!c) H1
theorem zg0(j:PT X a tA):PW X (.BoolOp .And [a] pos) tA:=by
 intro D pins s σ H Q B h;refine isTrue_and (thn (j pins s σ H Q B h) λc F e=>?_);cases c with
 |true=>exact isTrue_and_nil e
 |false=>exact e
theorem zg1(j:PT X a tA):PW X (.BoolOp .Or [a] pos) tA:=by
 intro D pins s σ H Q B h;refine isTrue_or (thn (j pins s σ H Q B h) λc F e=>?_);cases c with
 |false=>exact isTrue_or_nil e
 |true=>exact e
theorem zjB(D:PT X a tA)(F:PW X (.BoolOp .And (b::rest) pos) tB'):PW X (.BoolOp .And (a::b::rest) pos) (tAnd tA tB'):=by
 intro G pins s σ H Q I h;refine isTrue_and (thn (D pins s σ H _ I h) λc J0 O=>?_);obtain⟨H1,j,B⟩:=O;cases c with
 |true=>exact F G pins J0 σ H1 Q j B
 |false=>exact⟨H1,j,B⟩
theorem zj3(D:PT X a tA)(F:PW X (.BoolOp .Or (b::rest) pos) tB'):PW X (.BoolOp .Or (a::b::rest) pos) (tOr tA tB'):=by
 intro G pins s σ H Q I h;refine isTrue_or (thn (D pins s σ H _ I h) λc J0 O=>?_);obtain⟨H1,j,B⟩:=O;cases c with
 |true=>exact⟨H1,j,B⟩
 |false=>exact F G pins J0 σ H1 Q j B
theorem zc0(j:PT X a tA):PT X (.UnaryOp .Not a pos) (tNot tA):=by
 intro pins s σ H Q B h;exact isTrue_not (j pins s σ H (λc H1=>Q (!c) H1) B h)
noncomputable def tOrV(ta tb:TE):TE:=λσ H Q=>ta σ H λx H1=>∃c,x=.bl c/\if c=true then Q (.bl true) H1 else tb σ H1 Q
theorem zlf{op}{t:TE}(h:PE X a t):PE X (.BoolOp op [a] pos) t:=λpins s σ H Q j hw=>BoolOp_one (h pins s σ H Q j hw)
theorem zmb(D:PE X a ta)(F:PE X (.BoolOp .Or (b::rest) pos) tb):PE X (.BoolOp .Or (a::b::rest) pos) (tOrV ta tb):=by
 intro pins s σ H Q G h;refine BoolOp_or (thn (D pins s σ H _ G h) λv I J0=>?_);obtain⟨x,H1,B,O,j⟩:=J0;obtain⟨c,rfl,j⟩:=j;cases O;refine wpAny_truthy_bool ?_;cases c with
 |false=>exact F pins I σ H1 Q B j
 |true=>exact⟨.bl true,H1,B,J,j⟩
noncomputable def tIf(t:TT)(ta tb:TE):TE:=λσ H Q=>t σ H λc H1=>if c=true then ta σ H1 Q else tb σ H1 Q
theorem zdb{c:Expr}(F:PT X c tA)(G:PE X a ta)(I:PE X b tb):PE X (.IfExp c a b pos) (tIf tA ta tb):=by
 intro pins s σ H Q J0 h;refine wpAny_IfExp (thn (F pins s σ H _ J0 h) λd j O=>?_);obtain⟨H1,B,D⟩:=O;cases d with
 |true=>exact G pins j σ H1 Q B D
 |false=>exact I pins j σ H1 Q B D
end
noncomputable def SqL(K:W.Frag)(H:Hp)(a:Addr)(xs:List V):Prop:=
 Rd H a (.lst xs) ∨
  ∃(o:Obj) (its:Array Value) (n:Nat),K.lookup a=some o/\o.cls=.type "list"/\o.dict=none/\o.data=.seq its n/\its.size<=sizeLine/\Vals xs its.toList
noncomputable def SqT(K:W.Frag)(H:Hp)(a:Addr)(xs:List V):Prop:=
 Rd H a (.tup xs) ∨
  ∃(o:Obj) (its:Array Value) (n:Nat),K.lookup a=some o/\o.cls=.type "tuple"/\o.data=.seq its n/\its.size<=sizeLine/\Vals xs its.toList
noncomputable def absV:Value->Option V
 |.none=>some .non
 |.bool b=>some (.bl b)
 |.int i _=>some (.int i)
 |.str x _=>some (.str x)
 |.bytes b _=>some (.byt b)
 |.float b _=>some (.flt b)
 |.ref a=>some (.ref a)
 |.type n=>some (.ty n)
 |_=>none
theorem RelV.abs{x:V}{u:Value}(r:RelV x u):absV u=some x:=by
 cases x with
 |non=>cases r;rfl
 |bl _=>cases r;rfl
 |int _=>obtain⟨t,rfl⟩:=r;rfl
 |str _=>obtain⟨t,rfl⟩:=r;rfl
 |byt _=>obtain⟨t,rfl⟩:=r;rfl
 |flt _=>obtain⟨t,rfl⟩:=r;rfl
 |ref _=>cases r;rfl
 |ty _=>cases r;rfl
theorem RelV.inj{x y:V}{u:Value}(r:RelV x u)(q:RelV y u):x=y:=Option.some.inj (r.abs.symm.trans q.abs)
theorem Vals.inj:∀ {xs ys:List V}{us:List Value},Vals xs us->Vals ys us->xs=ys
 |_,_,_,.nil,.nil=>rfl
 |_,_,_,.cons r t,.cons j t'=>by rw[r.inj j,Vals.inj t t']
section
variable {X:Cx}{pins:List (Addr×Obj)}{σ:St}{H:Hp}{s:Shared}{a:Addr}{xs ys:List V}
theorem SqL.of{K:W.Frag}(h:H a=some (.lst xs)):SqL K H a xs:=.inl (.inl h)
theorem SqT.of{K:W.Frag}(h:H a=some (.tup xs)):SqT K H a xs:=.inl (.inl h)
theorem Inv.list(j:Inv X pins σ H s)(h:SqL X.K H a xs):∃its:List Value,Vals xs its/\PlainL s.heap a its.toArray/\xs.length<=sizeLine:=by
 rcases h with h|⟨o,its,n,B,D,F,G,I,r⟩
 .obtain⟨z,its,n,r,e⟩:=h.ok j.hok;exact⟨its,r,⟨_,n,e,J,J,J⟩,z⟩
 .refine⟨its.toList,r,⟨o,n,j.kIn a o B,D,F,by simpa using G⟩,?_⟩;have e:=r.length;simp only[Array.length_toList] at e;omega
theorem Inv.tuple(j:Inv X pins σ H s)(h:SqT X.K H a xs):∃its:List Value,Vals xs its/\IsTup s.heap a its.toArray/\xs.length<=sizeLine:=by
 rcases h with h|⟨o,its,n,B,D,F,G,r⟩
 .obtain⟨z,its,r,p⟩:=h.ok j.hok;exact⟨its,r,p,z⟩
 .refine⟨its.toList,r,⟨o,j.kIn a o B,D,n,by simpa using F⟩,?_⟩;have e:=r.length;simp only[Array.length_toList] at e;omega
theorem Inv.list_inj(j:Inv X pins σ H s)(h:SqL X.K H a xs)(h':SqL X.K H a ys):xs=ys:=by
 obtain⟨its,r,⟨o,n,e,_,_,d⟩,_⟩:=j.list h;obtain⟨its',D,⟨o',n',B,_,_,d'⟩,_⟩:=j.list h';rw[e] at B;cases B;rw[d] at d';injection d' with F _;have:its=its':=by simpa using congrArg Array.toList F
 subst this;exact r.inj D
theorem Inv.tuple_inj(j:Inv X pins σ H s)(h:SqT X.K H a xs)(h':SqT X.K H a ys):xs=ys:=by
 obtain⟨its,r,⟨o,e,_,n,d⟩,_⟩:=j.tuple h;obtain⟨its',D,⟨o',B,_,n',d'⟩,_⟩:=j.tuple h';rw[e] at B;cases B;rw[d] at d';injection d' with F _;have:its=its':=by simpa using congrArg Array.toList F
 subst this;exact r.inj D
end
noncomputable abbrev Cx.wish(X:Cx)(E:Value->Shared->Prop):Cx:={ X with xe:=E }
noncomputable abbrev Cx.nox(X:Cx):Cx:=X.wish λ_ _=>False
theorem Cx.Ok.wish{X:Cx}(ok:X.Ok)(E:Value->Shared->Prop):(X.wish E).Ok:=
 ⟨ok.mod,ok.kind,ok.glob,ok.blt,ok.above,ok.inj,ok.has,ok.cab,ok.hd,ok.frames,ok.stk,ok.exf,ok.bs,ok.bsz,ok.noex,ok.exfs,ok.funs,ok.frf⟩
theorem Cx.Ok.unwish{X:Cx}{E:Value->Shared->Prop}(ok:(X.wish E).Ok):X.Ok:=
 ⟨ok.mod,ok.kind,ok.glob,ok.blt,ok.above,ok.inj,ok.has,ok.cab,ok.hd,ok.frames,ok.stk,ok.exf,ok.bs,ok.bsz,ok.noex,ok.exfs,ok.funs,ok.frf⟩
section
variable {X:Cx}{pins:List (Addr×Obj)}{σ:St}{H:Hp}{s:Shared}{E:Value->Shared->Prop}
theorem Inv.wish(j:Inv X pins σ H s)(E:Value->Shared->Prop):Inv (X.wish E) pins σ H s:=⟨j.ok.wish E,j.os,j.bare,j.base,j.loc,j.cell,j.free,j.freeC,j.pin,j.hok,j.len⟩
theorem Inv.unwish(j:Inv (X.wish E) pins σ H s):Inv X pins σ H s:=⟨j.ok.unwish,j.os,j.bare,j.base,j.loc,j.cell,j.free,j.freeC,j.pin,j.hok,j.len⟩
theorem SP.unwish{D:Ends}{f:Flow}{s':Shared}(h:SP (X.wish E) pins D f s'):SP X pins D f s':=by
 cases f with
 |next=>obtain⟨σ',H',j,q⟩:=h;exact⟨σ',H',j.unwish,q⟩
 |brk=>obtain⟨σ',H',j,q⟩:=h;exact⟨σ',H',j.unwish,q⟩
 |cont=>obtain⟨σ',H',j,q⟩:=h;exact⟨σ',H',j.unwish,q⟩
 |ret u=>obtain⟨v,σ',H',j,r,q⟩:=h;exact⟨v,σ',H',j.unwish,r,q⟩
theorem PSs.nox{st:List Stmt}{t:TS}(h:PSs X.nox st t):PSs X st t:=λpins s σ H D j hw=>
 wpAny_mono (h pins s σ H D (j.wish _) hw) (λ_ _ q=>q.unwish) λ_ _ z=>False.elim z
end
section
variable {X:Cx}{st:Stmt}{rest:List Stmt}{t u:TS}{e:Expr}{te:TE}{pos:Pos}
noncomputable def tNext:TS:=λD σ H=>D.nx σ H
noncomputable def tSeq(t u:TS):TS:=λD σ H=>t { D with nx:=u D } σ H
theorem zaz:PSs X [] tNext:=λ_ _ σ H _ j h=>wpAny_execs_nil ⟨σ,H,j,h⟩
theorem zac(h1:PS X st t)(h2:PSs X rest u):PSs X (st::rest) (tSeq t u):=by
 intro pins s σ H D j h;refine wpAny_execs_cons (thn (h1 pins s σ H { D with nx:=u D } j h) λf B q=>?_);cases f with
 |next=>
  obtain⟨σ',H',F,q⟩:=q;exact h2 pins B σ' H' D F q
 |ret v=>exact q
 |brk=>exact q
 |cont=>exact q
theorem zaf(h1:PS X st t):PSs X [st] t:=by
 intro pins s σ H D j h;refine wpAny_execs_cons (thn (h1 pins s σ H D j h) λf B q=>?_);cases f with
 |next=>exact wpAny_execs_nil q
 |ret v=>exact q
 |brk=>exact q
 |cont=>exact q
theorem Inv.quiet{pins:List (Addr×Obj)}{σ:St}{H:Hp}{s:Shared}(j:Inv X pins σ H s):interactive X.env=false:=by simp[interactive,j.ok.kind]
noncomputable def tDrop(te:TE):TS:=λD σ H=>te σ H λ_ H1=>D.nx σ H1
theorem za7(B:PE X e te)(F:swapsWith e none pos.line X.env=pure false:=by rfl):PS X (.Expr e pos) (tDrop te):=by
 intro pins s σ H D j h;refine wpAny_Expr_any (thn (B pins s σ H _ j h) λv O G=>?_) j.quiet F;obtain⟨x,H1,I,U,J0⟩:=G;exact⟨σ,H1,I,J0⟩
noncomputable def tRet(te:TE):TS:=λD σ H=>te σ H D.rt
theorem zas(j:PE X e te):PS X (.Return (some e) pos) (tRet te):=by
 intro pins s σ H D B h;refine wpAny_Return_some (thn (j pins s σ H _ B h) λv O F=>?_);obtain⟨x,H1,G,I,J0⟩:=F;exact⟨x,σ,H1,G,I,J0⟩
noncomputable def tIfS(c:TT)(t u:TS):TS:=λD σ H=>c σ H λb H1=>if b=true then t D σ H1 else u D σ H1
theorem zaY{c:Expr}{a b:List Stmt}{tc:TT}(G:PT X c tc)(I:PSs X a t)(J0:PSs X b u):PS X (.If c a b pos) (tIfS tc t u):=by
 intro pins s σ H D O h;refine wpAny_If (thn (G pins s σ H _ O h) λd j U=>?_);obtain⟨H1,B,F⟩:=U;cases d with
 |true=>exact I pins j σ H1 D B F
 |false=>exact J0 pins j σ H1 D B F
end
noncomputable abbrev TG:=V->St->Hp->(St->Hp->Prop)->Prop
noncomputable abbrev TGs:=List V->St->Hp->(St->Hp->Prop)->Prop
noncomputable def PG(X:Cx)(j:Expr)(t:TG):Prop:=
 ∀(pins:List (Addr×Obj)) (s:Shared) (σ:St) (H:Hp) (v:V) (u:Value) (Q:St->Hp->Prop),Inv X pins σ H s->RelV v u->t v σ H Q ->
  wpAny (model X.prog X.w) X.A (assign j X.env u) (λ_ s'=>∃σ' H',Inv X pins σ' H' s'/\Q σ' H') X.xe s
noncomputable def PGs(X:Cx)(ts:List Expr)(t:TGs):Prop:=
 ∀(pins:List (Addr×Obj)) (s:Shared) (σ:St) (H:Hp) (vs:List V) (us:List Value) (Q:St->Hp->Prop),Inv X pins σ H s->Vals vs us->t vs σ H Q ->
  wpAny (model X.prog X.w) X.A (assignInOrder ((assignEach ts X.env).map (·.2)) us) (λ_ s'=>∃σ' H',Inv X pins σ' H' s'/\Q σ' H') X.xe s
noncomputable abbrev TSet:=V->V->V->Hp->(Hp->Prop)->Prop
noncomputable def PSet(X:Cx)(t:TSet):Prop:=
 ∀(pins:List (Addr×Obj)) (s:Shared) (σ:St) (H:Hp) (o i v:V) (j B u:Value) (Q:Hp->Prop),Inv X pins σ H s->RelV o j->RelV i B->RelV v u->t o i v H Q ->
  wpAny (model X.prog X.w) X.A (setItem j B u) (λ_ s'=>∃H',Inv X pins σ H' s'/\Q H') X.xe s
noncomputable abbrev TIp:=V->V->Hp->VK->Prop
noncomputable def PIp(X:Cx)(op:Operator)(t:TIp):Prop:=
 ∀(pins:List (Addr×Obj)) (s:Shared) (σ:St) (H:Hp) (x y:V) (v u:Value) (Q:VK),Inv X pins σ H s->RelV x v->RelV y u->t x y H Q ->
  wpAny (model X.prog X.w) X.A (inplaceOp op v u) (EP X pins σ Q) X.xe s
section
variable {X:Cx}{pos:Pos}
noncomputable def gName(i:Nat):TG:=λv σ H Q=>Q (σ.set i (some v)) H
theorem zai{i:Nat}{x:Str}(j:X.N.Nodup)(hi:X.N[i]?=some x)(B:Loc X.env.scope x)(D:X.fn x=true∨X.env.scope.names.lookup x=some .local:=by first|exact .inl rfl|exact .inr rfl|assumption):PG X (.Name x pos) (gName i):=by
 intro pins s σ H v u Q F r h;exact wpAny_assign_Name (zda F j hi B r (λs' G=>⟨_,H,G,h⟩) D)
noncomputable def gNil:TGs:=λvs σ H Q=>vs=[]/\Q σ H
noncomputable def gCons(t:TG)(u:TGs):TGs:=λvs σ H Q=>∃v r,vs=v::r/\t v σ H λσ' H'=>u r σ' H' Q
theorem zaE:PGs X [] gNil:=by
 intro pins s σ H vs us Q j r h;obtain⟨e,h⟩:=h;subst e;cases r;exact assignInOrder_nil ⟨σ,H,j,h⟩
theorem zam{e:Expr}{es:List Expr}{t:TG}{u:TGs}(h1:PG X e t)(h2:PGs X es u)(j:(assignEach (e::es) X.env).map (·.2)=assign e X.env::(assignEach es X.env).map (·.2):=by rfl):PGs X (e::es) (gCons t u):=by
 intro pins s σ H vs us Q B r h;obtain⟨v,V,D,h⟩:=h;subst D;cases r with
 |cons r F=>
  rw[j];refine assignInOrder_cons (thn (h1 pins s σ H _ _ _ B r h) λ_ G I=>?_);obtain⟨J0,H1,O,U⟩:=I;exact h2 pins G J0 H1 _ _ Q O F U
noncomputable def gTup(K:W.Frag)(n:Nat)(t:TGs):TG:=λv σ H Q=>∃a xs,v=.ref a/\SqT K H a xs/\xs.length=n/\t xs σ H Q
theorem zaZ{es:List Expr}{k:Nat}{t:TGs}{n:Nat}(D:X.calm=true)(h:PGs X es t)(F:(assignEach es X.env).length=n:=by rfl)(G:(assignEach es X.env).findIdx? (·.1)=none:=by rfl):PG X (.Tuple es k pos) (gTup X.K n t):=by
 intro pins s σ H v u Q j r hw;obtain⟨a,xs,I,J0,O,hw⟩:=hw;subst I;cases r;obtain⟨its,B,U,Y⟩:=j.tuple J0;refine assign_Tuple_tuple (j.ok.hd D) U (by simp[F,←O,B.length]) G λh' V=>?_;have W:Inv X pins σ H { s with heap:=h' }:=j.kept (t':=s.toks) λb o e=>V b o (Nat.ne_of_lt (Heap.lt_size e)) e;exact h pins _ σ H xs _ Q W (by simpa using B) hw
noncomputable def gSub(to ti:TE)(t:TSet):TG:=λv σ H Q=>to σ H λo H1=>ti σ H1 λi H2=>t o i v H2 λj=>Q σ j
theorem zfH{o i:Expr}{to ti:TE}{t:TSet}(F:PE X o to)(hi:PE X i ti)(G:PSet X t)(I:∀v,assign (.Subscript o i pos) X.env v=(do
   let j ← holding [v] (eval o X.env);let B ← holding [v,j] (eval i X.env)
   standAt pos
   holding [v,j,B] (setItem j B v)
   release [v,j,B] []):=by intro _;rfl):PG X (.Subscript o i pos) (gSub to ti t):=by
 intro pins s σ H v u Q J0 r h;rw[I];refine wpAny_bind (wpAny_holding (thn (F pins s σ H _ J0 h) λj O D=>?_));obtain⟨x,H1,U,V,W⟩:=D;refine wpAny_bind (wpAny_holding (thn (hi pins O σ H1 _ U W) λB Y D=>?_));obtain⟨y,H2,Z,aa,ab⟩:=D;refine wpAny_bind (wpAny_standAt (wpAny_bind (wpAny_holding (thn (G pins Y σ H2 x y v j B u _ Z V aa r ab) λ_ af D=>?_))));obtain⟨ac,ad,ae⟩:=D;exact wpAny_release ⟨σ,ac,ad,ae⟩
noncomputable def tAsg(te:TE)(g:TG):TS:=λD σ H=>te σ H λx H1=>g x σ H1 D.nx
theorem zba{tg e:Expr}{te:TE}{g:TG}(j:PE X e te)(B:PG X tg g)(F:swapsWithSole [tg] e pos.line X.env=pure false:=by rfl)(hw:swappedStores [tg] e X.env=pure none:=by rfl)(h1:(assignEach [tg] X.env).map (·.2)=[assign tg X.env]:=by rfl):PS X (.Assign [tg] e pos) (tAsg te g):=by
 intro pins s σ H D G h;refine wpAny_Assign_stores (thn (j pins s σ H _ G h) λv I J0=>?_) F hw;obtain⟨x,H1,O,U,V⟩:=J0;rw[h1];exact thn (B pins I σ H1 x v _ O U V) λ_ W q=>q
theorem zaq{i:Nat}{x:Str}{e:Expr}{te:TE}{pos':Pos}(j:X.N.Nodup)(hi:X.N[i]?=some x)(B:Loc X.env.scope x)(F:PE X e te)(G:swapsWith e (some (.Name x pos')) pos.line X.env=pure false:=by rfl)(I:X.fn x=true∨X.env.scope.names.lookup x=some .local:=by first|exact .inl rfl|exact .inr rfl|assumption) :
  PS X (.Assign [.Name x pos'] e pos) (tAsg te (gName i)):=by
 intro pins s σ H D J0 h;refine wpAny_Assign_Name (thn (F pins s σ H _ J0 h) λv Z O=>?_) G;obtain⟨y,H1,U,V,W⟩:=O;exact zda U j hi B V (λaa Y=>⟨_,H1,Y,W⟩) I
noncomputable def tAug(i:Nat)(te:TE)(ti:TIp):TS:=λD σ H=>∃x,σ[i]?=some (some x)/\te σ H λy H1=>ti x y H1 λz H2=>D.nx (σ.set i (some z)) H2
theorem zg2{i:Nat}{x:Str}{e:Expr}{te:TE}{op:Operator}{ti:TIp}{pos':Pos}(G:X.N.Nodup)(hi:X.N[i]?=some x)(B:Loc X.env.scope x)(I:PE X e te)(J0:PIp X op ti)(O:X.fn x=true∨X.env.scope.names.lookup x=some .local:=by first|exact .inl rfl|exact .inr rfl|assumption) :
  PS X (.AugAssign (.Name x pos') op e pos) (tAug i te ti):=by
 intro pins s σ H D j h;obtain⟨v,U,h⟩:=h;obtain⟨m,V,W⟩:=j.loc;have Y:Vis X.env.scope x:=by rcases B with k|k;exact .inl k;exact .inr (.inl k)
 obtain⟨u,r,l⟩:=W i x v hi U Y;refine wpAny_AugAssign_Name ?_;have go:wpAny (model X.prog X.w) X.A (eval e X.env) (λw Z=>wpAny (model X.prog X.w) X.A (inplaceOp op u w) (λr aa=>wpAny (model X.prog X.w) X.A (storeName X.env x r) (λ_=>SP X pins D .next) X.xe aa) X.xe Z) X.xe s:=by
  refine thn (I pins s σ H _ j h) λw ab F=>?_;obtain⟨y,H1,ac,ad,ae⟩:=F;refine thn (J0 pins ab σ H1 v y u w _ ac r ad ae) λz am F=>?_;obtain⟨ao,H2,af,ag,ah⟩:=F;exact zda af G hi B ag (λap ai=>⟨_,H2,ai,ah⟩) O
 rcases l with⟨hk,aj⟩|⟨hk,c,ak,al⟩
 .exact wpAny_loadName_local j.ok.kind hk V aj go
 .rcases hk with hk|hk
  .exact wpAny_loadName_cell j.ok.kind hk ak al go
  .rcases B with k|k
   .have:X.env.scope.names.lookup x=some .free:=hk;rw[k] at this;cases this
   .have:X.env.scope.names.lookup x=some .free:=hk;rw[k] at this;cases this
noncomputable def ipI(f:Int->Int->Int):TIp:=λx y H Q=>∃i j,x=.int i/\y=.int j/\Q (.int (f i j)) H
theorem zg3:PIp X .Add (ipI λi j=>i+j):=by
 intro pins s σ H x y v u Q B D F h;obtain⟨i,j,G,I,q⟩:=h;subst G;subst I;obtain⟨t,rfl⟩:=D;obtain⟨t',rfl⟩:=F;exact iadd_int ⟨.int _,H,B.tok _,⟨_,J⟩,q⟩
end
section
variable {X:Cx}{pos:Pos}
noncomputable def zjC(c:TT)(tb:TS):TS:=λD σ H=>∃W:Nat->St->Hp->Prop,(∃m,W m σ H)/\∀m σ H,W m σ H ->
 c σ H λb H1=>if b=true then ∃N:St->Hp->Prop,(∀σ' H',N σ' H'->∃j,j<m/\W j σ' H')/\tb { D with nx:=N,ct:=N,bk:=D.nx } σ H1 else D.nx σ H1
theorem zeb{c:Expr}{body:List Stmt}{tc:TT}{tb:TS}(Z:PassesOwn (model X.prog X.w) X.A X.env X.xe)(ac:PT X c tc)(ad:PSs X body tb):PS X (.While c body [] pos) (zjC tc tb):=by
 intro pins s σ H D ae h;obtain⟨W,⟨af,ag⟩,turn⟩:=h;refine wpAny_While (codeAny_whileLoop (λn s'=>∃σ' H',Inv X pins σ' H' s'/\W n σ' H') ?_ af ⟨σ,H,ae,ag⟩);rintro n ah ⟨F,H1,ai,aj⟩;refine wpAny_passesOwn Z (thn (ac pins ah F H1 _ ai (turn n F H1 aj)) λb ak al=>?_);obtain⟨H2,aa,G⟩:=al;cases b with
 |true=>
  obtain⟨N,ab,G⟩:=G;rw[if_pos rfl];refine wpAny_passesOwn Z (thn (ad pins ak F H2 _ aa G) λf am I=>?_);cases f with
  |next=>
   obtain⟨j,B,J0,O⟩:=I;obtain⟨U,V,Y⟩:=ab j B O;exact⟨U,V,j,B,J0,Y⟩
  |cont=>
   obtain⟨j,B,J0,O⟩:=I;obtain⟨U,V,Y⟩:=ab j B O;exact⟨U,V,j,B,J0,Y⟩
  |brk=>exact I
  |ret v=>exact I
 |false=>
  rw[if_neg Bool.false_ne_true];exact wpAny_execs_nil ⟨F,H2,aa,G⟩
end
structure It where
 go:Nat->Hp->Prop
 yld:Nat->Hp->V->Hp->Prop
 stop:Nat->Hp->Prop
noncomputable def FpOk(X:Cx)(pins:List (Addr×Obj))(H:Hp)(b:Addr):Prop:=
 H b=none/\b≠X.env.locals/\b∉X.fs/\(b∈X.ex∨X.s₀.heap.objs.size<=b)/\(∀x c,X.env.cells.lookup x=some c->c≠b)/\∀p∈X.pn++pins,p.1≠b
theorem Inv.fpOk{X:Cx}{pins:List (Addr×Obj)}{σ:St}{H H':Hp}{s:Shared}{b:Addr}(j:Inv X pins σ H s)(B:s.heap.objs.size<=b)(D:H' b=none):FpOk X pins H' b:=by
 refine⟨D,Nat.ne_of_gt (Nat.lt_of_lt_of_le j.lt B),j.nofs B,.inr (Nat.le_trans j.sz B),λx c e z=>?_,λp F z=>?_⟩
 .obtain⟨v,q⟩:=j.cell x c e;exact absurd (Nat.lt_of_lt_of_le q.lt (by rw[z];exact B)) (Nat.lt_irrefl _)
 .exact absurd (Nat.lt_of_lt_of_le (Heap.lt_size (j.pin p F).1) (by rw[z];exact B)) (Nat.lt_irrefl _)
structure Turn(P:Program)(w:World)(K:W.Frag)(tg:Expr)(J0:It)(fp:List Addr)(it:Addr)(tn:Nat->Heap->Prop):Prop where
 mem:it∈fp
 obj:∀i h,tn i h->∀b∈fp,∃o,h.get? b=some o/\∀v,o.data≠.cell v
 keep:∀i h h',tn i h->(∀b∈fp,∀o,h.get? b=some o->h'.get? b=some o)->tn i h'
 item:∀(X:Cx),X.prog=P->X.w=w->X.K=K->X.calm=true->∀(i:Nat) (pins:List (Addr×Obj)) (s:Shared) (σ:St) (H:Hp) (E:Value->Shared->Prop),Inv X pins σ H s->(∀b∈fp,FpOk X pins H b)->tn i s.heap->J0.go i H ->
  wpAny (model P w) X.A (pyNext (.ref it)) (λr s1=>∃u,r=some u /\
   wpAny (model P w) X.A (letOwnedTupleGo tg (.ref it) u) (λ_ s2=>∃x H',Inv X pins σ H' s2/\RelV x u/\J0.yld i H x H'/\tn (i+1) s2.heap/\∀b∈fp,H' b=none) E s1) E s
 done:∀(X:Cx),X.prog=P->X.w=w->X.K=K->X.calm=true->∀(i:Nat) (pins:List (Addr×Obj)) (s:Shared) (σ:St) (H:Hp) (E:Value->Shared->Prop),Inv X pins σ H s->(∀b∈fp,FpOk X pins H b)->tn i s.heap->J0.stop i H ->
  wpAny (model P w) X.A (pyNext (.ref it)) (λr s1=>r=none/\Inv X pins σ H s1) E s
 self:∀(A:Around) (i:Nat) (s:Shared) (Q:Value->Shared->Prop) (E:Value->Shared->Prop),tn i s.heap->Q (.ref it) s->wpAny (model P w) A (pyIter (.ref it)) Q E s
noncomputable abbrev TI:=St->Hp->(It->Hp->Prop)->Prop
noncomputable def PIE(X:Cx)(pins:List (Addr×Obj))(σ:St)(tg:Expr)(R:It->Hp->Prop)(B:Value)(j:Shared):Prop:=
 ∃(it:Addr) (fp:List Addr) (tn:Nat->Heap->Prop) (J0:It) (H':Hp),B=.ref it/\Inv X pins σ H' j/\Turn X.prog X.w X.K tg J0 fp it tn/\tn 0 j.heap/\(∀b∈fp,FpOk X pins H' b)/\R J0 H'
noncomputable def PI(X:Cx)(tg iter:Expr)(wi:TI):Prop:=
 ∀(pins:List (Addr×Obj)) (s:Shared) (σ:St) (H:Hp) (R:It->Hp->Prop),Inv X pins σ H s->wi σ H R ->
  wpAny (model X.prog X.w) X.A (eval iter X.env) (λv j=>wpAny (model X.prog X.w) X.A (pyIter v) (PIE X pins σ tg R) X.xe j) X.xe s
theorem zec{M:Model}{A:Around}{E:Value->Shared->Prop}{s:Shared}{tg:Expr}{it:Addr}{u:Value}{o:Obj}{n:String}{vs:Array Value}{Q:Unit->Shared->Prop}(B:s.heap.get? it=some o)(D:o.cls=.type n)(F:o.data=.fields vs)(G:["enumerate","zip","dict_itemiterator","dict_reverseitemiterator","odict_iterator","itertools.zip_longest","itertools.pairwise"].contains n=false)(j:Q () s):wpAny M A (letOwnedTupleGo tg (.ref it) u) Q E s:=by
 unfold letOwnedTupleGo;cases tg<;>first
  |exact wpAny_pure j
  |(cases u<;>first
    |exact wpAny_pure j
    |(refine wpAny_bind (wpAny_load B ?_)
      rw[D,F];show wpAny M A (if (["enumerate","zip","dict_itemiterator","dict_reverseitemiterator","odict_iterator","itertools.zip_longest","itertools.pairwise"].contains n&&vs[0]?==some (rawInt _))=true then _ else _) Q E s;rw[if_neg (by intro h;rw[G,Bool.false_and] at h;cases h)];exact wpAny_pure j))
noncomputable def Itl(K:W.Frag)(a:Addr):It:=
 ⟨λi H=>∃xs x,SqL K H a xs/\xs[i]?=some x,λi H x H'=>H'=H/\∀xs,SqL K H a xs->xs[i]?=some x,λi H=>∃xs,SqL K H a xs/\xs.length<=i⟩
noncomputable def Itt(K:W.Frag)(a:Addr):It:=
 ⟨λi H=>∃xs x,SqT K H a xs/\xs[i]?=some x,λi H x H'=>H'=H/\∀xs,SqT K H a xs->xs[i]?=some x,λi H=>∃xs,SqT K H a xs/\xs.length<=i⟩
noncomputable def Itr(lo:Int)(n:Nat):It:=⟨λi _=>i<n,λi H x H'=>H'=H/\x=.int (lo+i),λi _=>n<=i⟩
theorem zg4{P:Program}{w:World}{K:W.Frag}{tg:Expr}(a it:Addr):Turn P w K tg (Itl K a) [it] it (λi h=>h.IsListIter it a i) where
 mem:=by simp
 obj:=λi h st b j=>by
  have e:b=it:=by simpa using j
  subst e;obtain⟨o,e,c,d⟩:=st;exact⟨o,e,λv z=>by rw[d] at z;cases z⟩
 keep:=λi h h' st k=>st.at λo e=>k it (by simp) o e
 item:=by
  intro X G hw I ac i pins s σ H E B D st J0;subst G hw I;obtain⟨xs,x,F,O⟩:=J0;obtain⟨its,U,p,ae⟩:=B.list F;obtain⟨u,af,ag⟩:=U.get O;obtain⟨V,Y,ah,Z,aa,ab⟩:=D it (by simp);refine wpAny_pyNext_list_item st p.isList (x:=u) (by simpa using af) λh' ad ai=>?_;have aj:Inv X pins σ H { s with heap:=h' }:=B.turned (t':=s.toks) (λb o j e=>(ai.2 b j).trans e) V Y Z aa ab;obtain⟨o,e,c,d⟩:=id ad;exact⟨u,J,zec (s:={ s with heap:=h' }) e c d (by decide) ⟨x,H,aj,ag,⟨J,λys ak=>by rw[B.list_inj ak F];exact O⟩,ad,λb j=>(D b j).1⟩⟩
 done:=by
  intro X G hw I ac i pins s σ H E B D st J0;subst G hw I;obtain⟨xs,F,O⟩:=J0;obtain⟨its,U,p,ae⟩:=B.list F;obtain⟨V,Y,ah,Z,aa,ab⟩:=D it (by simp);have am:=U.length;exact wpAny_pyNext_list_end (B.ok.hd ac) st p.isList (by simp;omega) λh' al=>⟨J,B.turned (t':=s.toks) (λb o j e=>al b o j e) V Y Z aa ab⟩
 self:=λ_ _ _ _ _ st h=>wpAny_pyIter_listiter st h
theorem zgA{P:Program}{w:World}{K:W.Frag}{tg:Expr}(a it:Addr):Turn P w K tg (Itt K a) [it] it (λi h=>h.IsTupleIter it a i) where
 mem:=by simp
 obj:=λi h st b j=>by
  have e:b=it:=by simpa using j
  subst e;obtain⟨o,e,c,d⟩:=st;exact⟨o,e,λv z=>by rw[d] at z;cases z⟩
 keep:=λi h h' st k=>st.at λo e=>k it (by simp) o e
 item:=by
  intro X G hw I ac i pins s σ H E B D st J0;subst G hw I;obtain⟨xs,x,F,O⟩:=J0;obtain⟨its,U,p,ae⟩:=B.tuple F;obtain⟨u,af,ag⟩:=U.get O;obtain⟨V,Y,ah,Z,aa,ab⟩:=D it (by simp);refine wpAny_pyNext_tuple_item st (show s.heap.IsTuple a its.toArray from p) (x:=u) (by simpa using af) λh' ad ai=>?_;have aj:Inv X pins σ H { s with heap:=h' }:=B.turned (t':=s.toks) (λb o j e=>(ai.2 b j).trans e) V Y Z aa ab;obtain⟨o,e,c,d⟩:=id ad;exact⟨u,J,zec (s:={ s with heap:=h' }) e c d (by decide) ⟨x,H,aj,ag,⟨J,λys ak=>by rw[B.tuple_inj ak F];exact O⟩,ad,λb j=>(D b j).1⟩⟩
 done:=by
  intro X G hw I ac i pins s σ H E B D st J0;subst G hw I;obtain⟨xs,F,O⟩:=J0;obtain⟨its,U,p,ae⟩:=B.tuple F;obtain⟨V,Y,ah,Z,aa,ab⟩:=D it (by simp);have am:=U.length;exact wpAny_pyNext_tuple_end (B.ok.hd ac) st (show s.heap.IsTuple a its.toArray from p) (by simp;omega) λh' al=>⟨J,B.turned (t':=s.toks) (λb o j e=>al b o j e) V Y Z aa ab⟩
 self:=λ_ _ _ _ _ st h=>wpAny_pyIter_tupleiter st h
theorem zgB{P:Program}{w:World}{K:W.Frag}{tg:Expr}(it:Addr)(lo:Int)(n:Nat):Turn P w K tg (Itr lo n) [it] it (λi h=>IsRangeIter h it (lo+(i:Nat)*1) ((n:Int)-(i:Nat)) 1) where
 mem:=by simp
 obj:=λi h st b j=>by
  have e:b=it:=by simpa using j
  subst e;exact⟨_,st,λv z=>by
   have z':Data.fields _=Data.cell v:=z;cases z'⟩
 keep:=λi h h' st k=>k it (by simp) _ st
 item:=by
  intro X F hw G I i pins s σ H E B D st J0;subst F hw G;obtain⟨O,U,ab,V,Y,Z⟩:=D it (by simp);have W:=Walks.range (prog:=X.prog) (w:=X.w) (B.ok.hd I) it lo 1 n;refine W.item i s _ _ J0 st λv h' tk ac aa ad=>?_;obtain⟨t,rfl⟩:=ac;have ae:Inv X pins σ H { s with heap:=h',toks:=tk }:=B.turned (λb o j e=>ad b o (by simpa using j) e) O U V Y Z;refine⟨_,J,zec (s:={ s with heap:=h',toks:=tk }) (n:="range_iterator") aa J J (by decide) ⟨.int (lo+i),H,ae,⟨t,?_⟩,⟨J,J⟩,aa,λb j=>(D b j).1⟩⟩;rw[Int.mul_one]
 done:=by
  intro X F hw G I i pins s σ H E B D st J0;subst F hw G;obtain⟨O,U,ab,V,Y,Z⟩:=D it (by simp);exact wpAny_pyNext_range_end (B.ok.hd I) st (by have:n<=i:=J0;omega) λh' af=>⟨J,B.turned (t':=s.toks) (λb o j e=>af b o j e) O U V Y Z⟩
 self:=λ_ _ _ _ _ st h=>wpAny_pyIter_rangeiter st h
section
variable {X:Cx}{tg:Expr}
noncomputable def iList(K:W.Frag)(tl:TE):TI:=λσ H R=>tl σ H λx H1=>∃a,x=.ref a/\(∃xs,SqL K H1 a xs)/\R (Itl K a) H1
noncomputable def iTup(K:W.Frag)(tl:TE):TI:=λσ H R=>tl σ H λx H1=>∃a,x=.ref a/\(∃xs,SqT K H1 a xs)/\R (Itt K a) H1
theorem zbb{l:Expr}{tl:TE}(D:PE X l tl):PI X tg l (iList X.K tl):=by
 intro pins s σ H R F h;refine thn (D pins s σ H _ F h) λv j G=>?_;obtain⟨x,H1,B,I,J0⟩:=G;obtain⟨a,e,⟨xs,O⟩,q⟩:=J0;subst e;cases I;obtain⟨its,V,p,W⟩:=B.list O;refine wpAny_pyIter_list p.isList ?_;refine⟨j.heap.objs.size,[j.heap.objs.size],_,_,H1,J,B.kept (t':=j.toks) λb o e=>Heap.get?_push_of_some _ e,zg4 a _,⟨_,Heap.get?_push_size _ J,J,J⟩,λb U=>?_,q⟩;have e:b=j.heap.objs.size:=by simpa using U
 subst e;exact B.fpOk (Nat.le_refl _) (B.hok.fresh (Nat.le_refl _))
theorem zbm{l:Expr}{tl:TE}(D:PE X l tl):PI X tg l (iTup X.K tl):=by
 intro pins s σ H R F h;refine thn (D pins s σ H _ F h) λv j G=>?_;obtain⟨x,H1,B,I,J0⟩:=G;obtain⟨a,e,⟨xs,O⟩,q⟩:=J0;subst e;cases I;obtain⟨its,V,p,W⟩:=B.tuple O;refine wpAny_pyIter_tuple (show j.heap.IsTuple a its.toArray from p) ?_;refine⟨j.heap.objs.size,[j.heap.objs.size],_,_,H1,J,B.kept (t':=j.toks) λb o e=>Heap.get?_push_of_some _ e,zgA a _,⟨_,Heap.get?_push_size _ J,J,J⟩,λb U=>?_,q⟩;have e:b=j.heap.objs.size:=by simpa using U
 subst e;exact B.fpOk (Nat.le_refl _) (B.hok.fresh (Nat.le_refl _))
theorem ziB{pins:List (Addr×Obj)}{σ:St}{H:Hp}{s:Shared}{R:It->Hp->Prop}{E:Value->Shared->Prop}{lo hi:Int}{t u v:Tok}{tk:Nat}(B:Inv X pins σ H s)(h1:-(2 ^ 62)<=lo)(h2:lo<2 ^ 62)(D:-(2 ^ 62)<=hi)(F:hi<2 ^ 62)(q:R (Itr lo (hi-lo).toNat) H):wpAny (model X.prog X.w) X.A (pyIter (.ref s.heap.objs.size)) (PIE X pins σ tg R) E { s with heap:=s.heap.push { cls:=.type "range",data:=.fields #[.int lo t,.int hi u,.int 1 v] },toks:=tk }:=by
 refine wpAny_pyIter_range (IsRange.new ..) (small_one h1 h2 D F) ?_;have j:Inv X pins σ H { s with heap:=s.heap.push { cls:=.type "range",data:=.fields #[.int lo t,.int hi u,.int 1 v] },toks:=tk }:=B.kept λb o e=>Heap.get?_push_of_some _ e;refine⟨(s.heap.push { cls:=.type "range",data:=.fields #[.int lo t,.int hi u,.int 1 v] }).objs.size,[(s.heap.push { cls:=.type "range",data:=.fields #[.int lo t,.int hi u,.int 1 v] }).objs.size],_,_,H,J,
  j.kept (t':=tk) λb o e=>Heap.get?_push_of_some _ e,zgB _ lo (hi-lo).toNat,?_,λb G=>?_,q⟩
 .have I:lo+((0:Nat):Int)*1=lo:=by simp
  have J0:(((hi-lo).toNat:Nat):Int)-((0:Nat):Int)=Builtin.Range.rangeSize lo hi 1:=by rw[rangeSize_one];split<;>omega
  show IsRangeIter _ _ (lo+((0:Nat):Int)*1) ((((hi-lo).toNat:Nat):Int)-((0:Nat):Int)) 1;rw[I,J0];exact Heap.get?_push_size _ rfl
 .have e:b=(s.heap.push { cls:=.type "range",data:=.fields #[.int lo t,.int hi u,.int 1 v] }).objs.size:=by simpa using G
  subst e;exact j.fpOk (Nat.le_refl _) (j.hok.fresh (Nat.le_refl _))
noncomputable def iRng1(ta:TA):TI:=λσ H R=>ta σ H λvs H1=>∃j:Int,vs=[.int j]/\-(2 ^ 62)<=j/\j<2 ^ 62/\R (Itr 0 j.toNat) H1
theorem zbB{a:Expr}{ta:TA}{p pos:Pos}(F:Gl X "range")(G:X.mg "range"=none)(I:PA X [a] ta)(J0:starEach [a] X.env=[(false,eval a X.env)]:=by rfl):PI X tg (.Call (.Name "range" p) [a] [] pos) (iRng1 ta):=by
 intro pins s σ H R D h;refine Call_ (zbA D F G boot_range (PyProof.Rows.callWith_type1 (thn (I pos pins s σ H _ D h) λus Z O=>?_) J0 J));obtain⟨vs,H1,U,V,B⟩:=O;obtain⟨j,e,B,W,q⟩:=B;subst e;cases V with
 |cons r Y=>
  cases Y;obtain⟨t,rfl⟩:=r;exact call_range_1 (ziB U (by omega) (by omega) B W (by simpa using q))
noncomputable def tFor(wi:TI)(g:TG)(tb:TS):TS:=λD σ H=>wi σ H λJ0 H1=>∃W:Nat->Nat->St->Hp->Prop,(∃m,W 0 m σ H1)/\∀i m σ H,W i m σ H ->
 (J0.stop i H/\D.nx σ H)∨(J0.go i H/\∃N:St->Hp->Prop,(∀σ' H',N σ' H'->∃j,j<m/\W (i+1) j σ' H')/\∀x H',J0.yld i H x H'->g x σ H' λB H2=>tb { D with nx:=N,ct:=N,bk:=D.nx } B H2)
noncomputable def zeE(fp:List Addr)(h:Heap):List (Addr×Obj):=fp.filterMap λb=>(h.get? b).map λo=>(b,o)
theorem zb7{fp:List Addr}{h:Heap}{b:Addr}{o:Obj}(j:b∈fp)(e:h.get? b=some o):(b,o)∈zeE fp h:=List.mem_filterMap.mpr ⟨b,j,by rw[e];rfl⟩
theorem zg5{fp:List Addr}{h:Heap}{p:Addr×Obj}(j:p∈zeE fp h):p.1∈fp/\h.get? p.1=some p.2:=by
 obtain⟨b,B,e⟩:=List.mem_filterMap.mp j;cases q:h.get? b with
 |none=>rw[q] at e;cases e
 |some o=>
  rw[q] at e;have D:(b,o)=p:=Option.some.inj e;subst D;exact⟨B,q⟩
theorem Inv.pinned{pins:List (Addr×Obj)}{σ:St}{H:Hp}{s:Shared}{fp:List Addr}(j:Inv X pins σ H s)(F:∀b∈fp,FpOk X pins H b)(G:∀b∈fp,∃o,s.heap.get? b=some o/\∀v,o.data≠.cell v):Inv X (pins++zeE fp s.heap) σ H s:=
 j.pins_of λp I=>(List.mem_append.mp I).elim (λz=>j.pin p (List.mem_append_right _ z)) λz=>by
  obtain⟨B,e⟩:=zg5 z;obtain⟨J0,O,U,_⟩:=F p.1 B;obtain⟨o,D,d⟩:=G p.1 B;rw[e] at D;cases D;exact⟨e,J0,O,U,d⟩
theorem Inv.unpinned{pins B:List (Addr×Obj)}{σ:St}{H:Hp}{s:Shared}(j:Inv X (pins++B) σ H s):Inv X pins σ H s:=j.pins_of λp D=>j.pin p (List.mem_append_right _ (List.mem_append_left _ D))
theorem za0{iter:Expr}{body:List Stmt}{wi:TI}{g:TG}{tb:TS}{pos:Pos}(O:PassesOwn (model X.prog X.w) X.A X.env X.xe)(ae:X.calm=true)(hi:PI X tg iter wi)(am:PG X tg g)(j:PSs X body tb)(ao:∀x,foldedSetIterable iter X.env x=pure x:=by intro _;rfl):PS X (.For tg iter body [] pos) (tFor wi g tb):=by
 intro pins s σ H D ap h;refine wpAny_For (thn (hi pins s σ H _ ap h) λv aR h1=>thn h1 λaS aT h2=>?_) ao;obtain⟨it,fp,tn,J0,H2,e,aq,T,ar,af,W,⟨as,au⟩,turn⟩:=h2;subst e
 -- what stays true of the iterator's objects through the loop
 have Z:∀ {H':Hp},(∀b∈fp,H' b=none)->∀b∈fp,FpOk X pins H' b:=λav b j=>⟨av b j,(af b j).2⟩;refine codeAny_forLoop_any (λn s'=>∃i σ' H',Inv X pins σ' H' s'/\tn i s'.heap/\(∀b∈fp,H' b=none)/\W i n σ' H') ?_ as ⟨0,σ,H2,aq,ar,λb j=>(af b j).1,au⟩;rintro n ag ⟨i,U,Y,ah,ai,aj,aw⟩;rcases turn i n U Y aw with⟨stop,ax⟩|⟨go,N,ay,step⟩
 .refine wpAny_passesOwn O (thn (T.done X J J J ae i pins ag U Y X.xe ah (Z aj) ai stop) λr az ⟨aa,aA⟩=>?_);subst aa;exact wpAny_execs_nil ⟨U,Y,aA,ax⟩
 .refine wpAny_passesOwn O (thn (T.item X J J J ae i pins ag U Y X.xe ah (Z aj) ai go) λr az ⟨u,aa,aB⟩=>?_);subst aa;refine wpAny_passesOwn O (thn aB λ_ ak ab=>?_);obtain⟨x,al,aC,aD,aE,ac,aF⟩:=ab;have aG:=aC.pinned (Z aF) (T.obj _ _ ac);refine wpAny_passesOwn O (thn (am _ ak U al x u _ aG aD (step x al aE)) λ_ aH ab=>?_);obtain⟨aI,aJ,aK,aL⟩:=ab;refine wpAny_passesOwn O (thn (j _ aH aI aJ _ aK aL) λf ad I=>?_);have again:∀ {B:St} {F:Hp},Inv X (pins++zeE fp ak.heap) B F ad->N B F->∃m,m<n/\∃i σ' H',Inv X pins σ' H' ad/\tn i ad.heap/\(∀b∈fp,H' b=none)/\W i m σ' H':=λ{B F} G V=>by
   obtain⟨aM,aN,aO⟩:=ay B F V;refine⟨aM,aN,i+1,B,F,G.unpinned,T.keep _ _ _ ac λb j o e=>(G.pin (b,o) (List.mem_append_right _ (List.mem_append_right _ (zb7 j e)))).1,λb j=>?_,aO⟩;obtain⟨o,e,d⟩:=T.obj _ _ ac b j;exact(G.pin (b,o) (List.mem_append_right _ (List.mem_append_right _ (zb7 j e)))).2.1
  cases f with
  |next=>obtain⟨B,F,G,V⟩:=I;exact again G V
  |cont=>obtain⟨B,F,G,V⟩:=I;exact again G V
  |brk=>obtain⟨B,F,G,I⟩:=I;exact⟨B,F,G.unpinned,I⟩
  |ret v=>obtain⟨aP,B,F,G,aQ,I⟩:=I;exact⟨aP,B,F,G.unpinned,aQ,I⟩
end
theorem zcv{K:W.Frag}{a:Addr}{xs:List V}{g:TG}{tb:TS}{D:Ends}{σ:St}{H:Hp}(Pv:Nat->St->Hp->Prop)(G:Pv 0 σ H)(I:∀i σ H,i<=xs.length->Pv i σ H->SqL K H a xs)(J0:∀i x σ H,xs[i]?=some x->Pv i σ H->g x σ H λj H2=>tb { D with nx:=Pv (i+1),ct:=Pv (i+1),bk:=D.nx } j H2)(O:∀σ H,Pv xs.length σ H->D.nx σ H) :
  ∃W:Nat->Nat->St->Hp->Prop,(∃m,W 0 m σ H)/\∀i m σ H,W i m σ H ->
   ((Itl K a).stop i H/\D.nx σ H)∨((Itl K a).go i H/\∃N:St->Hp->Prop,(∀σ' H',N σ' H'->∃B,B<m/\W (i+1) B σ' H')/\∀x H',(Itl K a).yld i H x H'->g x σ H' λj H2=>tb { D with nx:=N,ct:=N,bk:=D.nx } j H2):=by
 refine⟨λi m σ H=>m=xs.length-i/\i<=xs.length/\Pv i σ H,⟨xs.length,by simp,Nat.zero_le _,G⟩,?_⟩;rintro i m σ H ⟨rfl,hi,p⟩;have q:=I i σ H hi p;by_cases F:i<xs.length
 .refine .inr ⟨⟨xs,xs[i],q,by simp[F]⟩,Pv (i+1),λσ' H' U=>⟨xs.length-(i+1),by omega,J,F,U⟩,λx H' y=>?_⟩;obtain⟨e,y⟩:=y;subst e;exact J0 i x σ _ (y xs q) p
 .have e:i=xs.length:=by omega
  subst e;exact .inl ⟨⟨xs,q,Nat.le_refl _⟩,O σ H p⟩
theorem zbV{K:W.Frag}{a:Addr}{xs:List V}{g:TG}{tb:TS}{D:Ends}{σ:St}{H:Hp}(Pv:Nat->St->Hp->Prop)(G:Pv 0 σ H)(I:∀i σ H,i<=xs.length->Pv i σ H->SqT K H a xs)(J0:∀i x σ H,xs[i]?=some x->Pv i σ H->g x σ H λj H2=>tb { D with nx:=Pv (i+1),ct:=Pv (i+1),bk:=D.nx } j H2)(O:∀σ H,Pv xs.length σ H->D.nx σ H) :
  ∃W:Nat->Nat->St->Hp->Prop,(∃m,W 0 m σ H)/\∀i m σ H,W i m σ H ->
   ((Itt K a).stop i H/\D.nx σ H)∨((Itt K a).go i H/\∃N:St->Hp->Prop,(∀σ' H',N σ' H'->∃B,B<m/\W (i+1) B σ' H')/\∀x H',(Itt K a).yld i H x H'->g x σ H' λj H2=>tb { D with nx:=N,ct:=N,bk:=D.nx } j H2):=by
 refine⟨λi m σ H=>m=xs.length-i/\i<=xs.length/\Pv i σ H,⟨xs.length,by simp,Nat.zero_le _,G⟩,?_⟩;rintro i m σ H ⟨rfl,hi,p⟩;have q:=I i σ H hi p;by_cases F:i<xs.length
 .refine .inr ⟨⟨xs,xs[i],q,by simp[F]⟩,Pv (i+1),λσ' H' U=>⟨xs.length-(i+1),by omega,J,F,U⟩,λx H' y=>?_⟩;obtain⟨e,y⟩:=y;subst e;exact J0 i x σ _ (y xs q) p
 .have e:i=xs.length:=by omega
  subst e;exact .inl ⟨⟨xs,q,Nat.le_refl _⟩,O σ H p⟩
theorem zbW{lo:Int}{n:Nat}{g:TG}{tb:TS}{D:Ends}{σ:St}{H:Hp}(Pv:Nat->St->Hp->Prop)(G:Pv 0 σ H)(I:∀i σ H,i<n->Pv i σ H->g (.int (lo+i)) σ H λj H2=>tb { D with nx:=Pv (i+1),ct:=Pv (i+1),bk:=D.nx } j H2)(J0:∀σ H,Pv n σ H->D.nx σ H) :
  ∃W:Nat->Nat->St->Hp->Prop,(∃m,W 0 m σ H)/\∀i m σ H,W i m σ H ->
   ((Itr lo n).stop i H/\D.nx σ H)∨((Itr lo n).go i H/\∃N:St->Hp->Prop,(∀σ' H',N σ' H'->∃F,F<m/\W (i+1) F σ' H')/\∀x H',(Itr lo n).yld i H x H'->g x σ H' λj H2=>tb { D with nx:=N,ct:=N,bk:=D.nx } j H2):=by
 refine⟨λi m σ H=>m=n-i/\i<=n/\Pv i σ H,⟨n,by simp,Nat.zero_le _,G⟩,?_⟩;rintro i m σ H ⟨rfl,hi,p⟩;by_cases B:i<n
 .refine .inr ⟨B,Pv (i+1),λσ' H' O=>⟨n-(i+1),by omega,J,B,O⟩,λx H' y=>?_⟩;obtain⟨e,y⟩:=y;subst e y;exact I i σ _ B p
 .have e:i=n:=by omega
  subst e;exact .inl ⟨Nat.le_refl _,J0 σ H p⟩
theorem zed{c:TT}{tb:TS}{D:Ends}{σ:St}{H:Hp}(Pv:St->Hp->Prop)(j:St->Hp->Nat)(F:Pv σ H)(G:∀σ H,Pv σ H->c σ H λb H1=>if b=true then tb { D with nx:=λσ' H'=>Pv σ' H'/\j σ' H'<j σ H,ct:=λσ' H'=>Pv σ' H'/\j σ' H'<j σ H,bk:=D.nx } σ H1 else D.nx σ H1)(I:∀σ H Q B,(∀b H1,Q b H1->B b H1)->c σ H Q->c σ H B):zjC c tb D σ H:=by
 refine⟨λm σ H=>m=j σ H/\Pv σ H,⟨_,J,F⟩,?_⟩;rintro m σ H ⟨rfl,p⟩;refine I σ H _ _ (λb H1 q=>?_) (G σ H p);cases b with
 |true=>exact⟨_,λσ' H' ⟨J0,l⟩=>⟨_,l,J,J0⟩,q⟩
 |false=>exact q
noncomputable abbrev R2:=V->V->Hp->VK->Prop
noncomputable def OpR(X:Cx)(f:Value->Value->Sem Value)(r:R2):Prop:=
 ∀(pins:List (Addr×Obj)) (s:Shared) (σ:St) (H:Hp) (x y:V) (v u:Value) (Q:VK),Inv X pins σ H s->RelV x v->RelV y u->r x y H Q ->
  wpAny (model X.prog X.w) X.A (f v u) (EP X pins σ Q) X.xe s
noncomputable def UnR(X:Cx)(f:Value->Sem Value)(r:V->Hp->VK->Prop):Prop:=
 ∀(pins:List (Addr×Obj)) (s:Shared) (σ:St) (H:Hp) (x:V) (v:Value) (Q:VK),Inv X pins σ H s->RelV x v->r x H Q ->
  wpAny (model X.prog X.w) X.A (f v) (EP X pins σ Q) X.xe s
noncomputable def CallR(X:Cx)(f:Value)(r:List V->Hp->VK->Prop):Prop:=
 ∀(pins:List (Addr×Obj)) (s:Shared) (σ:St) (H:Hp) (xs:List V) (us:List Value) (Q:VK),Inv X pins σ H s->Vals xs us->r xs H Q ->
  wpAny (model X.prog X.w) X.A (call f us) (EP X pins σ Q) X.xe s
noncomputable def TruR(X:Cx)(r:V->Hp->(Bool->Hp->Prop)->Prop):Prop:=
 ∀(pins:List (Addr×Obj)) (s:Shared) (σ:St) (H:Hp) (x:V) (v:Value) (Q:Bool->Hp->Prop),Inv X pins σ H s->RelV x v->r x H Q ->
  wpAny (model X.prog X.w) X.A (truthy v) (TP X pins σ Q) X.xe s
noncomputable def tOp(r:R2)(ta tb:TE):TE:=λσ H Q=>ta σ H λx H1=>tb σ H1 λy H2=>r x y H2 Q
noncomputable def tUn(r:V->Hp->VK->Prop)(ta:TE):TE:=λσ H Q=>ta σ H λx H1=>r x H1 Q
noncomputable def rI(C:Int->Int->Prop)(g:Int->Int->V):R2:=λx y H Q=>∃i j,x=.int i/\y=.int j/\C i j/\Q (g i j) H
noncomputable def rI0(g:Int->Int->V):R2:=λx y H Q=>∃i j,x=.int i/\y=.int j/\Q (g i j) H
noncomputable def rU(g:Int->V):V->Hp->VK->Prop:=λx H Q=>∃i,x=.int i/\Q (g i) H
section
variable {X:Cx}{a b c:Expr}{ta tb tc:TE}{pos:Pos}
theorem binT(D:PE X a ta)(F:PE X b tb){pins:List (Addr×Obj)}{s:Shared}{σ:St}{H:Hp}{R:V->V->Hp->Prop}(G:Inv X pins σ H s)(h:ta σ H λx H1=>tb σ H1 λy H2=>R x y H2){Q:Value->Shared->Prop}{f:Value->Value->Sem Value}(I:∀v u j x y H2,Inv X pins σ H2 j->RelV x v->RelV y u->R x y H2->wpAny (model X.prog X.w) X.A (f v u) Q X.xe j) :
  wpAny (model X.prog X.w) X.A (eval a X.env) (λv J0=>wpAny (model X.prog X.w) X.A (eval b X.env) (λu O=>wpAny (model X.prog X.w) X.A (f v u) Q X.xe O) X.xe J0) X.xe s:=by
 refine thn (D pins s σ H _ G h) λv U B=>?_;obtain⟨x,H1,W,Y,Z⟩:=B;refine thn (F pins U σ H1 _ W Z) λu j B=>?_;obtain⟨y,H2,aa,ab,ac⟩:=B;exact I v u j x y H2 aa Y ab ac
theorem zaC{op:Operator}{r:R2}(j:OpR X (binaryOp op) r)(B:PE X a ta)(D:PE X b tb):PE X (.BinOp a op b pos) (tOp r ta tb):=by
 intro pins s σ H Q F h;exact wpAny_BinOp (binT B D F h λv u G x y H2 I J0 O q=>j pins G σ H2 x y v u Q I J0 O q)
theorem ziC{op:UnaryOp}{r:V->Hp->VK->Prop}(j:UnR X (unaryOp op) r)(B:PE X a ta):PE X (.UnaryOp op a pos) (tUn r ta):=by
 intro pins s σ H Q D h;refine UnaryOp_ (thn (B pins s σ H _ D h) λv F G=>?_);obtain⟨x,H1,I,J0,O⟩:=G;exact j pins F σ H1 x v Q I J0 O
theorem opI{f:Value->Value->Sem Value}{C:Int->Int->Prop}{g:Int->Int->Int}(rule:∀(i j:Int) (t u:Tok) (s:Shared) (Q:Value->Shared->Prop) (E:Value->Shared->Prop),C i j->Q (.int (g i j) s.toks) { s with toks:=s.toks+1 }->wpAny (model X.prog X.w) X.A (f (.int i t) (.int j u)) Q E s) :
  OpR X f (rI C λi j=>.int (g i j)):=by
 intro pins s σ H x y v u Q B D F h;obtain⟨i,j,rfl,rfl,G,q⟩:=h;obtain⟨t,rfl⟩:=D;obtain⟨t',rfl⟩:=F;exact rule i j t t' s _ _ G ⟨.int (g i j),H,B.tok _,⟨_,J⟩,q⟩
theorem opI0{f:Value->Value->Sem Value}{g:Int->Int->Int}(rule:∀(i j:Int) (t u:Tok) (s:Shared) (Q:Value->Shared->Prop) (E:Value->Shared->Prop),Q (.int (g i j) s.toks) { s with toks:=s.toks+1 }->wpAny (model X.prog X.w) X.A (f (.int i t) (.int j u)) Q E s) :
  OpR X f (rI0 λi j=>.int (g i j)):=by
 intro pins s σ H x y v u Q B D F h;obtain⟨i,j,rfl,rfl,q⟩:=h;obtain⟨t,rfl⟩:=D;obtain⟨t',rfl⟩:=F;exact rule i j t t' s _ _ ⟨.int (g i j),H,B.tok _,⟨_,J⟩,q⟩
theorem opB0{f:Value->Value->Sem Value}{g:Int->Int->Bool}(rule:∀(i j:Int) (t u:Tok) (s:Shared) (Q:Value->Shared->Prop) (E:Value->Shared->Prop),Q (.bool (g i j)) s->wpAny (model X.prog X.w) X.A (f (.int i t) (.int j u)) Q E s) :
  OpR X f (rI0 λi j=>.bl (g i j)):=by
 intro pins s σ H x y v u Q B D F h;obtain⟨i,j,rfl,rfl,q⟩:=h;obtain⟨t,rfl⟩:=D;obtain⟨t',rfl⟩:=F;exact rule i j t t' s _ _ ⟨.bl (g i j),H,B,J,q⟩
noncomputable def CDiv(i j:Int):Prop:=0<j/\j<1073741824
noncomputable def CPow(i j:Int):Prop:=0<=j/\j<=1000000/\i.natAbs<2 ^ 64
noncomputable def CMul(i j:Int):Prop:=(-(2 ^ 64)<i/\i<2 ^ 64)∨(-(2 ^ 64)<j/\j<2 ^ 64)
theorem CMul.ok{i j:Int}(h:CMul i j):IntMulOk i j:=by
 rcases h with⟨h1,h2⟩|⟨h1,h2⟩
 .exact .of_left (intBits_le_64 h1 h2)
 .exact .of_right (intBits_le_64 h1 h2)
theorem zbj:OpR X (binaryOp .Add) (rI0 λi j=>.int (i+j)):=opI0 λ_ _ _ _ _ _ _ q=>add_int q
theorem zfI:OpR X (binaryOp .Sub) (rI0 λi j=>.int (i-j)):=opI0 λ_ _ _ _ _ _ _ q=>sub_int q
theorem zdu:OpR X (binaryOp .Mult) (rI CMul λi j=>.int (i*j)):=opI λ_ _ _ _ _ _ _ B q=>mul_int q B.ok
theorem zfk:OpR X (binaryOp .FloorDiv) (rI CDiv λi j=>.int (i / j)):=opI λi j _ _ _ _ _ B q=>by
 have h1:(0:Int)<j:=B.1;have h2:j<1073741824:=B.2;exact floordiv_int (by omega) (by rw[Int.fdiv_eq_ediv_of_nonneg i (by omega)];exact q) (.inl (PyProof.noPylong_small (by omega)))
theorem zcw:OpR X (binaryOp .Mod) (rI (λ_ j=>0<j) λi j=>.int (i % j)):=opI λi j _ _ _ _ _ B q=>by
 have h1:(0:Int)<j:=B;exact mod_int' (by omega) (by rw[Int.fmod_eq_emod_of_nonneg i (by omega)];exact q)
theorem zjD:OpR X (binaryOp .Pow) (rI CPow λi j=>.int (i ^ j.toNat)):=opI λ_ _ _ _ _ _ _ B q=>pow_int_small B.1 B.2.1 B.2.2 q
theorem unI{f:Value->Sem Value}{g:Int->Int}(rule:∀(i:Int) (t:Tok) (s:Shared) (Q:Value->Shared->Prop) (E:Value->Shared->Prop),Q (.int (g i) s.toks) { s with toks:=s.toks+1 }->wpAny (model X.prog X.w) X.A (f (.int i t)) Q E s) :
  UnR X f (rU λi=>.int (g i)):=by
 intro pins s σ H x v Q j B h;obtain⟨i,rfl,q⟩:=h;obtain⟨t,rfl⟩:=B;exact rule i t s _ _ ⟨.int (g i),H,j.tok _,⟨_,J⟩,q⟩
theorem zfJ:UnR X (unaryOp .USub) (rU λi=>.int (-i)):=unI λ_ _ _ _ _ q=>neg_int q
end
noncomputable def scal:V->V->Bool
 |.non,.non=>true|.non,.int _=>true|.int _,.non=>true|.non,.bl _=>true|.bl _,.non=>true|.non,.str _=>true|.str _,.non=>true
 |.int _,.int _=>true|.bl _,.bl _=>true|.str _,.str _=>true|.byt _,.byt _=>true
 |.int _,.str _=>true|.str _,.int _=>true|.bl _,.str _=>true|.str _,.bl _=>true
 |_,_=>false
noncomputable def rEq:R2:=λx y H Q=>scal x y=true/\Q (.bl (decide (x=y))) H
noncomputable def rNe:R2:=λx y H Q=>scal x y=true/\Q (.bl (!decide (x=y))) H
theorem zg6{i j:Int}:decide (V.int i=V.int j)=(i==j):=by
 rw[Bool.eq_iff_iff];simp
theorem zjE{i j:Bool}:decide (V.bl i=V.bl j)=(i==j):=by
 rw[Bool.eq_iff_iff];simp
theorem zg7{i j:Str}:decide (V.str i=V.str j)=(i==j):=by
 rw[Bool.eq_iff_iff];simp
theorem zg8{i j:Array UInt8}:decide (V.byt i=V.byt j)=(i.toList==j.toList):=by
 rw[Bool.eq_iff_iff];cases i;cases j;simp
section
variable {X:Cx}{a b c:Expr}{ta tb tc:TE}{pos:Pos}
theorem zaN{pins:List (Addr×Obj)}{σ:St}{H:Hp}{s:Shared}{Q:VK}{k j:Bool}(B:Inv X pins σ H s)(q:Q (.bl k) H)(e:k=j):EP X pins σ Q (.bool j) s:=by
 subst e;exact⟨.bl k,H,B,J,q⟩
theorem zgC:OpR X (compareOp .Eq) rEq:=by
 intro pins s σ H x y v u Q B G D h;obtain⟨F,q⟩:=h;cases x with
 |non=>
  cases G;cases y with
  |non=>cases D;exact PySem.EqNone.eq_none_none (zaN B q (by simp))
  |bl j=>cases D;exact PySem.EqNone.eq_none_bool (zaN B q (by simp))
  |int j=>obtain⟨t',rfl⟩:=D;exact PySem.EqNone.eq_none_int (zaN B q (by simp))
  |str j=>obtain⟨t',rfl⟩:=D;exact PySem.EqNone.eq_none_str (zaN B q (by simp))
  |_=>exact absurd (show false=true from F) Bool.false_ne_true
 |bl i=>
  cases G;cases y with
  |non=>cases D;exact PySem.EqNone.eq_bool_none (zaN B q (by simp))
  |bl j=>cases D;exact eq_bool (zaN B q zjE)
  |str j=>obtain⟨t',rfl⟩:=D;exact PySem.EqMixed.eq_bool_str (zaN B q (by simp))
  |_=>exact absurd (show false=true from F) Bool.false_ne_true
 |int i=>
  obtain⟨t,rfl⟩:=G;cases y with
  |non=>cases D;exact PySem.EqNone.eq_int_none (zaN B q (by simp))
  |int j=>obtain⟨t',rfl⟩:=D;exact eq_int (zaN B q zg6)
  |str j=>obtain⟨t',rfl⟩:=D;exact PySem.EqMixed.eq_int_str (zaN B q (by simp))
  |_=>exact absurd (show false=true from F) Bool.false_ne_true
 |str i=>
  obtain⟨t,rfl⟩:=G;cases y with
  |non=>cases D;exact PySem.EqNone.eq_str_none (zaN B q (by simp))
  |bl j=>cases D;exact PySem.EqMixed.eq_str_bool (zaN B q (by simp))
  |int j=>obtain⟨t',rfl⟩:=D;exact PySem.EqMixed.eq_str_int (zaN B q (by simp))
  |str j=>obtain⟨t',rfl⟩:=D;exact eq_str (zaN B q zg7)
  |_=>exact absurd (show false=true from F) Bool.false_ne_true
 |byt i=>
  obtain⟨t,rfl⟩:=G;cases y with
  |byt j=>obtain⟨t',rfl⟩:=D;exact W.eq_bytes (zaN B q zg8)
  |_=>exact absurd (show false=true from F) Bool.false_ne_true
 |_=>cases y<;>exact absurd (show false=true from F) Bool.false_ne_true
theorem zeF:OpR X (compareOp .NotEq) rNe:=by
 intro pins s σ H x y v u Q B G D h;obtain⟨F,q⟩:=h;cases x with
 |non=>
  cases G;cases y with
  |non=>cases D;exact PySem.EqNone.ne_none_none (zaN B q (by simp))
  |bl j=>cases D;exact PySem.EqNone.ne_none_bool (zaN B q (by simp))
  |int j=>obtain⟨t',rfl⟩:=D;exact PySem.EqNone.ne_none_int (zaN B q (by simp))
  |str j=>obtain⟨t',rfl⟩:=D;exact PySem.EqNone.ne_none_str (zaN B q (by simp))
  |_=>exact absurd (show false=true from F) Bool.false_ne_true
 |bl i=>
  cases G;cases y with
  |non=>cases D;exact PySem.EqNone.ne_bool_none (zaN B q (by simp))
  |bl j=>cases D;exact ne_bool (zaN B q (congrArg not zjE))
  |str j=>obtain⟨t',rfl⟩:=D;exact PySem.EqMixed.ne_bool_str (zaN B q (by simp))
  |_=>exact absurd (show false=true from F) Bool.false_ne_true
 |int i=>
  obtain⟨t,rfl⟩:=G;cases y with
  |non=>cases D;exact PySem.EqNone.ne_int_none (zaN B q (by simp))
  |int j=>obtain⟨t',rfl⟩:=D;exact ne_int (zaN B q (congrArg not zg6))
  |str j=>obtain⟨t',rfl⟩:=D;exact PySem.EqMixed.ne_int_str (zaN B q (by simp))
  |_=>exact absurd (show false=true from F) Bool.false_ne_true
 |str i=>
  obtain⟨t,rfl⟩:=G;cases y with
  |non=>cases D;exact PySem.EqNone.ne_str_none (zaN B q (by simp))
  |bl j=>cases D;exact PySem.EqMixed.ne_str_bool (zaN B q (by simp))
  |int j=>obtain⟨t',rfl⟩:=D;exact PySem.EqMixed.ne_str_int (zaN B q (by simp))
  |str j=>obtain⟨t',rfl⟩:=D;exact ne_str (zaN B q (congrArg not zg7))
  |_=>exact absurd (show false=true from F) Bool.false_ne_true
 |byt i=>
  obtain⟨t,rfl⟩:=G;cases y with
  |byt j=>obtain⟨t',rfl⟩:=D;exact W.ne_bytes (zaN B q (congrArg not zg8))
  |_=>exact absurd (show false=true from F) Bool.false_ne_true
 |_=>cases y<;>exact absurd (show false=true from F) Bool.false_ne_true
theorem zeG:OpR X (compareOp .Lt) (rI0 λi j=>.bl (decide (i<j))):=opB0 λ_ _ _ _ _ _ _ q=>lt_int q
theorem zmc:OpR X (compareOp .LtE) (rI0 λi j=>.bl (decide (i<=j))):=opB0 λ_ _ _ _ _ _ _ q=>le_int q
theorem ziD:OpR X (compareOp .Gt) (rI0 λi j=>.bl (decide (j<i))):=opB0 λ_ _ _ _ _ _ _ q=>gt_int q
theorem zeH:OpR X (compareOp .In) (λx y H Q=>∃i j,x=.str i/\y=.str j/\Q (.bl (!(Builtin.Str.occurrences j i 0 j.length 1).isEmpty)) H):=by
 intro pins s σ H x y v u Q B D F h;obtain⟨i,j,rfl,rfl,q⟩:=h;obtain⟨t,rfl⟩:=D;obtain⟨t',rfl⟩:=F;exact in_str (zaN B q J)
theorem zjF:OpR X (compareOp .Is) (λx y H Q=>y=.non/\Q (.bl (decide (x=.non))) H):=by
 intro pins s σ H x y v u Q B j D h;obtain⟨rfl,q⟩:=h;cases D;refine is_none_gen (zaN B q ?_);cases x<;>first
  |(cases j;rfl)
  |(obtain⟨t,rfl⟩:=j;rfl)
theorem zaF(b:Expr){op:CmpOp}(h:op≠.In:=by decide)(h2:op≠.NotIn:=by decide):behindInMarks op b=false:=by
 have j:(op==CmpOp.In)=false:=by cases op<;>first|rfl|exact absurd rfl h
 have B:(op==CmpOp.NotIn)=false:=by cases op<;>first|rfl|exact absurd rfl h2
 cases b<;>simp[behindInMarks,j,B]
theorem zg9{op:CmpOp}{r:R2}(j:OpR X (compareOp op) r)(B:PE X a ta)(D:PE X b tb)(F:behindInMarks op b=false):PE X (.Compare a [op] [b] pos) (tOp r ta tb):=by
 intro pins s σ H Q G h;exact wpAny_Compare1 (binT B D G h λv u I x y H2 J0 O U q=>j pins I σ H2 x y v u Q J0 O U q) F
noncomputable def tTest(t:TE):TT:=λσ H Q=>t σ H λx H'=>∃k,x=.bl k/\Q k H'
theorem zax{op:CmpOp}{r:R2}(j:OpR X (compareOp op) r)(B:PE X a ta)(D:PE X b tb)(F:behindInMarks op b=false):PT X (.Compare a [op] [b] pos) (tTest (tOp r ta tb)):=by
 intro pins s σ H Q G h;refine wpAny_isTrue_Compare1 (thn (B pins s σ H _ G h) λv I ⟨x,H1,J0,O,U⟩=>thn (D pins I σ H1 _ J0 U) λu V ⟨y,H2,W,Y,Z⟩=>
  thn (j pins V σ H2 x y v u _ W O Y Z) λc ae ⟨z,aa,ab,ac,k,e,ad⟩=>?_) F
 subst e;cases ac;exact wpAny_truthy_bool ⟨aa,ab,ad⟩
noncomputable def zlg(r B:R2)(ta tb tc:TE):TE:=λσ H Q=>ta σ H λx H1=>tb σ H1 λy H2=>r x y H2 λz j=>∃k,z=.bl k /\
 (if k=true then tc σ j λD F=>B y D F Q else Q (.bl false) j)
theorem ziE{op j:CmpOp}{r B:R2}(J0:OpR X (compareOp op) r)(O:OpR X (compareOp j) B)(U:PE X a ta)(V:PE X b tb)(W:PE X c tc)(Y:lastMarks [op,j] [b,c]=false:=by with_unfolding_all rfl):PE X (.Compare a [op,j] [b,c] pos) (zlg r B ta tb tc):=by
 intro pins s σ H Q Z h;refine Compare_chain (thn (U pins s σ H _ Z h) λv aa ⟨x,H1,ab,ac,ad⟩=>chain_link (thn (V pins aa σ H1 _ ab ad) λu ae ⟨y,H2,af,D,ag⟩=>
  thn (J0 pins ae σ H2 x y v u _ af ac D ag) λd ah ⟨z,F,G,ai,k,e,I⟩=>?_)) Y
 subst e;cases ai;refine wpAny_truthy_bool ?_;cases k with
 |false=>exact ite_ff ⟨.bl false,F,G,J,I⟩
 |true=>exact ite_tt (chain_last (thn (W pins ah σ F _ G I) λaj ak ⟨z',al,am,ao,ap⟩=>O pins ak σ al y z' u aj Q am D ao ap))
noncomputable def TruV(K:W.Frag)(x:V)(H:Hp)(k:Bool):Prop:=
 match x with
 |.non=>k=false
 |.bl b=>k=b
 |.int i=>k=(i != 0)
 |.str y=>y.length<=sizeLine/\k=((y.length:Int) != 0)
 |.byt y=>y.size<=sizeLine/\k=((y.size:Int) != 0)
 |.ref p=>(∃xs,SqL K H p xs/\k=!xs.isEmpty)∨(∃xs,SqT K H p xs/\k=!xs.isEmpty)∨∃kvs,H p=some (.dK kvs)/\k=!kvs.isEmpty
 |_=>False
theorem zgD{κ:Type}{kvs:List (κ×V)}{vs:List (κ×Value)}(r:KV kvs vs):(!vs.isEmpty)=!kvs.isEmpty:=by
 cases r<;>rfl
theorem zdY{xs:List V}{its:List Value}(r:Vals xs its):(!its.toArray.isEmpty)=!xs.isEmpty:=by
 cases r<;>simp
theorem line63:(sizeLine:Nat)<2 ^ 63:=by rw[sizeLine_eq];decide
theorem zlh:TruR X (λx H Q=>∃k,TruV X.K x H k/\Q k H):=by
 intro pins s σ H x v Q B D h;obtain⟨k,e,q⟩:=h;have V:=line63;have Y:sizeLine=16777216:=sizeLine_eq;cases x with
 |non=>
  cases D;have j:k=false:=e;subst j;exact truthy_none ⟨H,B,q⟩
 |bl b=>
  cases D;have j:k=b:=e;subst j;exact wpAny_truthy_bool ⟨H,B,q⟩
 |int i=>
  obtain⟨t,rfl⟩:=D;have j:k=(i != 0):=e;subst j;exact PySem.P.truthy_int ⟨H,B,q⟩
 |str y=>
  obtain⟨t,rfl⟩:=D;obtain⟨O,j⟩:y.length<=sizeLine/\k=((y.length:Int) != 0):=e;subst j;exact PySem.P.truthy_str (by omega) ⟨H,B.tok _,q⟩
 |byt y=>
  obtain⟨t,rfl⟩:=D;obtain⟨O,j⟩:y.size<=sizeLine/\k=((y.size:Int) != 0):=e;subst j;exact W.truthy_bytes (by omega) ⟨H,B.tok _,q⟩
 |ref p=>
  cases D;have j:(∃xs,SqL X.K H p xs/\k=!xs.isEmpty)∨(∃xs,SqT X.K H p xs/\k=!xs.isEmpty)∨∃kvs,H p=some (.dK kvs)/\k=!kvs.isEmpty:=e;rcases j with⟨xs,F,j⟩|⟨xs,F,j⟩|⟨kvs,F,j⟩
  .subst j;obtain⟨its,r,G,I⟩:=B.list F;have J0:=r.length;exact wpAny_truthy_list G.isList (by simp only[List.size_toArray];omega) ⟨H,B.tok _,by rw[zdY r];exact q⟩
  .subst j;obtain⟨its,r,G,I⟩:=B.tuple F;have J0:=r.length;exact truthy_tuple G (by simp only[List.size_toArray];omega) ⟨H,B.tok _,by rw[zdY r];exact q⟩
  .subst j;obtain⟨I,U,vs,r,m⟩:kvs.length<=sizeLine/\(p==sysModules)=false/\∃vs,KV kvs vs/\s.heap.DictOf (zav X.prog X.w) p vs:=B.hok p _ F;have J0:kvs.length=vs.length:=Paired.length r;exact wpAny_truthy_dict U m (by omega) ⟨H,B.tok _,by rw[zgD r];exact q⟩
 |_=>exact(show False from e).elim
theorem zb8(B:PE X a ta)(D:∀j,isTrue a X.env j=(do let v ← j;standAt a.pos;holding [v] (truthy v))) :
  PT X a (λσ H Q=>ta σ H λx H'=>∃k,TruV X.K x H' k/\Q k H'):=by
 intro pins s σ H Q F h;refine isTrue_plain (thn (B pins s σ H _ F h) λv G I=>?_) (D _);obtain⟨x,H1,J0,O,U⟩:=I;exact zlh pins G σ H1 x v Q J0 O U
theorem zbf:OpR X (binaryOp .Add) (λx y H Q=>∃i j,x=.str i/\y=.str j/\i.length+j.length<=sizeLine/\Q (.str (i++j)) H):=by
 intro pins s σ H x y v u Q B D F h;obtain⟨i,j,rfl,rfl,G,q⟩:=h;obtain⟨t,rfl⟩:=D;obtain⟨t',rfl⟩:=F;exact add_str (λt' tk=>⟨.str (i++j),H,B.tok _,⟨_,J⟩,q⟩) G
theorem vals1{x:V}{us:List Value}(r:Vals [x] us):∃u,us=[u]/\RelV x u:=by
 cases r with
 |cons j B=>cases B;exact⟨_,J,j⟩
theorem vals2{x y:V}{us:List Value}(r:Vals [x,y] us):∃u j,us=[u,j]/\RelV x u/\RelV y j:=by
 cases r with
 |cons B D=>
  cases D with
  |cons F G=>cases G;exact⟨_,_,J,B,F⟩
theorem zha(F:X.calm=true):CallR X (.builtin "min") (λxs H Q=>∃i j,xs=[.int i,.int j]/\Q (.int (if j<i then j else i)) H):=by
 intro pins s σ H xs us Q D r h;obtain⟨i,j,rfl,q⟩:=h;obtain⟨u,G,rfl,⟨t,rfl⟩,⟨t',rfl⟩⟩:=vals2 r;refine min_two_ints (D.ok.hd F) λh' tk k=>⟨_,H,D.kept k,?_,q⟩;by_cases B:j<i
 .rw[if_pos B,if_pos B];exact⟨_,J⟩
 .rw[if_neg B,if_neg B];exact⟨_,J⟩
theorem zhb:CallR X (.type "int") (λxs H Q=>(∃i,xs=[.int i]/\Q (.int i) H)∨∃k,xs=[.bl k]/\Q (.int (if k then 1 else 0)) H):=by
 intro pins s σ H xs us Q j r h;rcases h with⟨i,rfl,q⟩|⟨k,rfl,q⟩
 .obtain⟨u,rfl,t,rfl⟩:=vals1 r;exact call_int_int ⟨.int i,H,j,⟨_,J⟩,q⟩
 .obtain⟨u,rfl,B⟩:=vals1 r;cases B;exact call_int_bool ⟨.int (if k then 1 else 0),H,j.tok _,⟨_,J⟩,q⟩
end
structure ObjM(h:Heap)(x dx C:Addr)(mA:Str->Option Value):Prop where
 obj:h.get? x=some (W.instObj C dx)
 ns:h.Ns1 dx mA
 ne:dx≠x
theorem zhc{h:Heap}{dx:Addr}{mA:Str->Option Value}(n:h.Ns1 dx mA):∃od,h.get? dx=some od/\∀name,W.lookIn name od=some (mA name):=by
 obtain⟨o,es,ep,j,B,D,_,F⟩:=n;refine⟨o,j,λname=>?_⟩;have e:=F name;unfold nsFind findBy at e;rw[←Array.find?_toList] at e;unfold W.lookIn;rw[B];dsimp only;split
 .rename_i y q;rw[q] at e;exact congrArg some e
 .rename_i q;rw[q] at e;have a:es.toList.any (·.refKey)=false:=by
   rw[List.any_eq_false];intro y G;obtain⟨z,t,I⟩:=D y (Array.mem_toList_iff.mp G);simp[DictEntry.refKey,I]
  have J0:¬es.toList.any (·.refKey)=true:=by rw[a];exact Bool.false_ne_true
  rw[if_neg J0];exact congrArg some e
theorem ObjM.look{h:Heap}{x dx C:Addr}{mA:Str->Option Value}(j:ObjM h x dx C mA):∃od,W.InstAt h x (W.instObj C dx) C (some od)/\∀name,W.lookIn name od=some (mA name):=
 let ⟨od,B,D⟩:=zhc j.ns
 ⟨od,⟨j.obj,J,J,B⟩,D⟩
section
variable {prog:Program}{w:World}{A:Around}{E:Value->Shared->Prop}{s:Shared}{K:W.Frag}{x dx C f:Addr}{mA:Str->Option Value}{name:Str}{v:Value}
end
theorem RelO.some_of{v:V}{o:Option Value}(r:RelO (some v) o):∃u,o=some u/\RelV v u:=by
 cases o with
 |none=>exact(show False from r).elim
 |some u=>exact⟨u,J,r⟩
section
variable {P:Program}{w:World}{H H':Hp}{h h':Heap}{a C dx:Addr}{fs fs':List (Str×V)}
theorem zj4(j:HOk P w H h)(e:H a=some (.ins C dx fs)):∃mA,ObjM h a dx C mA/\(∀f,RelO (fs.lookup f) (mA f))/\PySem.Within mA (fs.map (·.1))/\fs.length<=1000/\H dx=some (.own a):=by
 obtain⟨d,z,B,ob,mA,n,r,q⟩:=(show ObjOk P w H h a (.ins C dx fs) from j a _ e);exact⟨mA,⟨ob,n,B⟩,r,q,z,d⟩
end
structure Cls(K:W.Frag)(C:Addr):Prop where
 pg:W.plainGet K C Str.empty=true
 hd:W.hasDictIn K C=true
 po:W.plainOver K C=true
 sa:W.findIn K (.ref C) "__setattr__"=some (some (.builtin "object.__setattr__"))
theorem Cls.get{K:W.Frag}{C:Addr}(c:Cls K C)(f:Str):W.plainGet K C f=true:=c.pg
section
variable {X:Cx}{pins:List (Addr×Obj)}{σ:St}{H:Hp}{s:Shared}{a C dx:Addr}{fs:List (Str×V)}{f:Str}{v:V}{A:Around}{E:Value->Shared->Prop}
end
section
variable {X:Cx}{o e value:Expr}{f:Str}{pos pos' tpos:Pos}{ta tv:TE}
end
section
variable {X:Cx}{pins:List (Addr×Obj)}{σ:St}{H:Hp}{s:Shared}{A:Around}{E:Value->Shared->Prop}{Q:Value->Shared->Prop}{c:Value}{b:Bool}
inductive TyOf(K:W.Frag)(H:Hp):V->Value->Prop where
 |non:TyOf K H .non (.type "NoneType")
 |bl (x:Bool):TyOf K H (.bl x) (.type "bool")
 |int (i:Int):TyOf K H (.int i) (.type "int")
 |str (x:Str):TyOf K H (.str x) (.type "str")
 |flt (x:UInt64):TyOf K H (.flt x) (.type "float")
 |lst {a:Addr} {xs:List V} (e:H a=some (.lst xs)):TyOf K H (.ref a) (.type "list")
 |frz {a:Addr} {o:Obj} {xs:List V} (e:H a=some (.frz o (.lst xs))):TyOf K H (.ref a) (.type "list")
 |tup {a:Addr} {xs:List V} (e:H a=some (.tup xs)):TyOf K H (.ref a) (.type "tuple")
 |dK {a:Addr} {kvs:List (Key×V)} (e:H a=some (.dK kvs)):TyOf K H (.ref a) (.type "dict")
 |dT {a:Addr} {kvs:List (List Key×V)} (e:H a=some (.dT kvs)):TyOf K H (.ref a) (.type "dict")
 |ins {a C dx:Addr} {fs:List (Str×V)} (e:H a=some (.ins C dx fs)) (cl:Cls K C) (ha:W.findIn K (.ref C) "__class__"=some (some (.builtin "object.__class__")))
   (hn:W.specialIn K (.builtin "object.__class__") "__get__"=some (some (.builtin "getset_descriptor.__get__"))) (htk:W.takesIn K (.builtin "object.__class__")=some true)
   (hm:W.mroIn K C (.type "object")=some true):TyOf K H (.ref a) (.ref C)
theorem zhd{x:V}{u t:Value}(j:Inv X pins σ H s)(B:RelV x u)(ty:TyOf X.K H x t)(e:W.kitOne X.K t c=some b)(h:∀tk,Q (.bool b) { s with toks:=tk }) :
  wpAny (model X.prog X.w) A (call (.builtin "isinstance") [u,c]) Q E s:=by
 cases ty with
 |non=>cases (show u=Value.none from B);exact W.kia_one W.kitx_none j.kIn True.intro e (λz=>nomatch z) h
 |bl y=>cases (show u=Value.bool y from B);exact W.kia_one W.kitx_bool j.kIn True.intro e (λz=>nomatch z) h
 |int i=>obtain⟨t,q⟩:=(show ∃t,u=Value.int i t from B);cases q;exact W.kia_one W.kitx_int j.kIn True.intro e (λz=>nomatch z) h
 |str y=>obtain⟨t,q⟩:=(show ∃t,u=Value.str y t from B);cases q;exact W.kia_one W.kitx_str j.kIn True.intro e (λz=>nomatch z) h
 |flt y=>obtain⟨t,q⟩:=(show ∃t,u=Value.float y t from B);cases q;exact W.kia_one W.kitx_float j.kIn True.intro e (λz=>nomatch z) h
 |@lst a xs ea=>
  cases (show u=Value.ref a from B);obtain⟨_,_,n,_,h1⟩:=(show ObjOk X.prog X.w H s.heap a (.lst xs) from j.hok a _ ea);exact W.kia_one W.kitx_list j.kIn ⟨_,h1,J⟩ e (λz=>nomatch z) h
 |@frz a ob xs ea=>
  cases (show u=Value.ref a from B);obtain⟨_,_,_,n,_,h1⟩:=(show ObjOk X.prog X.w H s.heap a (.frz ob (.lst xs)) from j.hok a _ ea);exact W.kia_one W.kitx_list j.kIn ⟨_,h1,J⟩ e (λz=>nomatch z) h
 |@tup a xs ea=>
  cases (show u=Value.ref a from B);obtain⟨_,_,_,p⟩:=(show ObjOk X.prog X.w H s.heap a (.tup xs) from j.hok a _ ea);obtain⟨o,h1,h2,_⟩:=p;exact W.kia_one W.kitx_tuple j.kIn ⟨o,h1,h2⟩ e (λz=>nomatch z) h
 |@dK a kvs ea=>
  cases (show u=Value.ref a from B);obtain⟨_,_,vs,_,p⟩:=(show ObjOk X.prog X.w H s.heap a (.dK kvs) from j.hok a _ ea);obtain⟨o,es,ep,h1,h2,_⟩:=p;exact W.kia_one W.kitx_dict j.kIn ⟨o,h1,h2.1⟩ e (λz=>nomatch z) h
 |@dT a kvs ea=>
  cases (show u=Value.ref a from B);obtain⟨_,_,xs,_,o,es,ep,h1,h2,_⟩:=(show ObjOk X.prog X.w H s.heap a (.dT kvs) from j.hok a _ ea);exact W.kia_one W.kitx_dict j.kIn ⟨o,h1,h2.1⟩ e (λz=>nomatch z) h
 |@ins a C dx fs ea cl D F G I=>
  cases (show u=Value.ref a from B);obtain⟨mA,O,_⟩:=zj4 j.hok ea;obtain⟨od,J0,_⟩:=O.look;exact W.kia_one (W.kitx_own (cl.get _) cl.hd D F G I) j.kIn J0 e (λz=>nomatch z) h
end
structure Room(k:Nat)(A:Around):Prop where
 hd:A.handled=none
 dp:A.depth+3*k+5<recursionLimit
 un:A.units+16*k+200<cLine
theorem Room.mono{j k:Nat}{A:Around}(r:Room k A)(h:j<=k):Room j A:=⟨r.hd,by have:=r.dp;omega,by have:=r.un;omega⟩
theorem Room.deeper{k:Nat}{A:Around}(r:Room (k+1) A)(env:Env):Room k (A.deeper env):=
 ⟨r.hd,by have:=r.dp;show A.depth+1+3*k+5<_;omega,by have:=r.un;show A.units+3+16*k+200<_;omega⟩
theorem Room.in1{k:Nat}{A:Around}(r:Room (k+1) A):Room k A.in1:=
 ⟨r.hd,by have:=r.dp;show A.depth+3*k+5<_;omega,by have:=r.un;show A.units+1+16*k+200<_;omega⟩
theorem Room.depth{k:Nat}{A:Around}(r:Room k A):A.depth<recursionLimit:=by have:=r.dp;omega
theorem Room.units0{k:Nat}{A:Around}(r:Room k A):A.units<cLine:=by have:=r.un;omega
noncomputable def tNil:TA:=λ_ H Q=>Q [] H
noncomputable def tCons(ta:TE)(j:TA):TA:=λσ H Q=>ta σ H λx H1=>j σ H1 λxs H2=>Q (x::xs) H2
section
variable {X:Cx}{e:Expr}{es:List Expr}{te:TE}{t:TA}{pos:Pos}
theorem zad:PA X [] tNil:=λ_ _ _ _ H Q j h=>Calls.spliced_nil ⟨[],H,j,.nil,h⟩
theorem zaa(B:PE X e te)(D:PA X es t)(F:starEach (e::es) X.env=(false,eval e X.env)::starEach es X.env:=by rfl):PA X (e::es) (tCons te t):=by
 intro pos pins s σ H Q G h;rw[F];show wpAny _ _ (spliced ((false,eval e X.env)::backTo pos (starEach es X.env))) _ _ s;refine Calls.spliced_cons (thn (B pins s σ H _ G h) λu I j=>?_);obtain⟨x,H1,J0,O,U⟩:=j;refine thn (D pos pins I σ H1 _ J0 U) λus Z j=>?_;obtain⟨xs,H2,V,W,Y⟩:=j;exact⟨x::xs,H2,V,.cons O W,Y⟩
noncomputable def tTup(t:TA):TE:=λσ H Q=>t σ H λxs H1=>xs.length<=sizeLine/\∀p,H1 p=none->Q (.ref p) (upd H1 p (.tup xs))
noncomputable def tLst(t:TA):TE:=λσ H Q=>t σ H λxs H1=>xs.length<=sizeLine/\∀p,H1 p=none->Q (.ref p) (upd H1 p (.lst xs))
theorem zaG{x1}(h:PA X es t):PE X (.Tuple es x1 pos) (tTup t):=by
 intro pins s σ H Q D F;refine wpAny_Tuple_spliced (thn (h pos pins s σ H _ D F) λus j G=>?_);obtain⟨xs,H1,B,r,z,q⟩:=G;refine⟨by rw[←r.length];exact z,?_⟩;have I:H1 j.heap.objs.size=none:=B.hok.fresh (Nat.le_refl _);refine⟨.ref j.heap.objs.size,upd H1 j.heap.objs.size (.tup xs),B.laid (t':=j.toks) (λb u e=>Heap.get?_push_of_some _ e) (Nat.le_refl _) ?_,J,q _ I⟩;exact⟨z,us,r,⟨_,Heap.get?_push_size _ J,J,_,J⟩⟩
theorem zaO(h:PA X es t):PE X (.List es pos) (tLst t):=by
 intro pins s σ H Q D F;refine wpAny_List_spliced (thn (h pos pins s σ H _ D F) λus j G=>?_);obtain⟨xs,H1,B,r,z,q⟩:=G;refine⟨by rw[←r.length];exact z,?_⟩;have I:H1 j.heap.objs.size=none:=B.hok.fresh (Nat.le_refl _);refine⟨.ref j.heap.objs.size,upd H1 j.heap.objs.size (.lst xs),B.laid (t':=j.toks) (λb u e=>Heap.get?_push_of_some _ e) (Nat.le_refl _) ?_,J,q _ I⟩;exact⟨z,us,0,r,Heap.get?_push_size _ J⟩
end
noncomputable abbrev Sp:=List V->Hp->VK->XK->Prop
noncomputable abbrev CXT:=List Env->Hp->Shared->XK->Value->Shared->Prop
structure Env0(P:Program)(w:World)(K:W.Frag)(mg:Str->Option Value)(base:Heap)(A:Around)(outer:List Env)(s:Shared)(H:Hp):Prop where
 frames:A.frames=some outer
 mod:Mod K mg base
 bs:∀b o,base.get? b=some o->s.heap.get? b=some o/\H b=none
 bsz:base.objs.size<=s.heap.objs.size
 funs:s.heap.FunFrames base outer
 frf:∀b∈frs outer,H b=none
 hok:HOk P w H s.heap
 bare:AllBare s.gens
noncomputable def CE(outer:List Env)(P:Program)(w:World)(H:Hp)(s:Shared)(Q:VK)(u:Value)(s':Shared):Prop:=
 ∃v H',s'.os=s.os/\AllBare s'.gens/\Un (frs outer) [] H H' s.heap s'.heap/\HOk P w H' s'.heap/\RelV v u/\Q v H'
noncomputable def CR(CX:CXT)(outer:List Env)(P:Program)(w:World)(H:Hp)(s:Shared)(Q:VK)(E:XK)(r:Result)(s':Shared):Prop:=
 match r with
 |.ok (.ret u)=>CE outer P w H s Q u s'
 |.ok _=>False
 |.error e=>CX outer H s E e s'
structure FnOk(P:Program)(w:World)(K:W.Frag)(mg:Str->Option Value)(base:Heap)(CX:CXT)(k:Nat)(f:Addr)(fd:FuncData)(ps:List Str)(sp:Sp):Prop where
 len:∀vs H Q E,sp vs H Q E->vs.length=ps.length
 run:∀(A:Around) (outer:List Env) (s:Shared) (H:Hp) (args:Args) (us:List Value) (vs:List V) (Q:VK) (E:XK),Room k A->Env0 P w K mg base A outer s H->BindsTo s fd args (ps.zip us)->Vals vs us->sp vs H Q E ->
  codeAny (model P w) A (.call (.ref f) args) (CR CX outer P w H s Q E) s
theorem FnOk.mono{P:Program}{w:World}{K:W.Frag}{mg:Str->Option Value}{base:Heap}{CX:CXT}{j k:Nat}{f:Addr}{fd:FuncData}{ps:List Str}{sp:Sp}(F:FnOk P w K mg base CX j f fd ps sp)(h:j<=k) :
  FnOk P w K mg base CX k f fd ps sp:=⟨F.len,λA outer s H args us vs Q E B=>F.run A outer s H args us vs Q E (B.mono h)⟩
section
variable {X:Cx}{pins:List (Addr×Obj)}{σ:St}{H:Hp}{s s':Shared}
theorem Inv.env0(j:Inv X pins σ H s):Env0 X.prog X.w X.K X.mg X.base X.A X.stack s H:=
 ⟨j.ok.frames,j.ok.mod,j.bs,Nat.le_trans j.ok.bsz j.sz,j.stack,j.stkFree,j.hok,j.bare⟩
theorem Inv.after{Q:VK}{u:Value}(j:Inv X pins σ H s)(h:CE X.stack X.prog X.w H s Q u s'):EP X pins σ Q u s':=by
 obtain⟨v,H',os,B,D,F,r,q⟩:=h;obtain⟨G,g,d,t,I⟩:=s';obtain rfl:I=s.os:=os;exact⟨v,H',j.call (h':=G) (g':=g) (d':=d) (t':=t) (ch:=[]) D F B (λb z=>absurd z (by simp)),r,q⟩
end
noncomputable def tCall(sp:Sp)(dvs:List V)(E:XK)(t:TA):TE:=λσ H Q=>t σ H λvs H1=>sp (vs++dvs) H1 Q E
noncomputable def Binds(K:W.Frag)(fd:FuncData)(ps:List Str)(ds:List Value):Prop:=
 ∀(s:Shared) (us:List Value),K.In s.heap->(us++ds).length=ps.length->BindsTo s fd ⟨us,[]⟩ (ps.zip (us++ds))
theorem Binds.all{K:W.Frag}{fd:FuncData}{ps:List Str}(h:∀us:List Value,us.length=ps.length->bindArgs fd ⟨us,[]⟩=pure (ps.zip us)):Binds K fd ps []:=λs us _ j=>by
 rw[List.append_nil] at j ⊢;exact .of_eq (h us j)
noncomputable def zfK(CX:CXT)(X:Cx)(E:XK):Prop:=∀(pins:List (Addr×Obj)) (σ:St) (H:Hp) (s:Shared) (e:Value) (s':Shared),Inv X pins σ H s->CX X.stack H s E e s'->X.xe e s'
section
variable {X:Cx}{CX:CXT}{k:Nat}{f C:Addr}{fd:FuncData}{ps:List Str}{sp:Sp}{dvs:List V}{ds:List Value}{E:XK}{x m:Str}{p pos apos:Pos}{e o:Expr}{es:List Expr}{ta:TE}{t:TA}
theorem zli{pins:List (Addr×Obj)}{σ:St}{H:Hp}{s:Shared}{Q:VK}{us:List Value}{vs:List V}(F:FnOk X.prog X.w X.K X.mg X.base CX k f fd ps sp)(G:Room k X.A)(I:Binds X.K fd ps ds)(J0:Vals dvs ds)(O:zfK CX X E)(B:Inv X pins σ H s)(r:Vals vs us)(h:sp (vs++dvs) H Q E):wpAny (model X.prog X.w) X.A (call (.ref f) us) (EP X pins σ Q) X.xe s:=by
 have D:Vals (vs++dvs) (us++ds):=r.append J0;have U:(us++ds).length=ps.length:=by rw[←D.length];exact F.len _ _ _ _ h
 refine wpAny_call (codeAny_mono (F.run X.A X.stack s H ⟨us,[]⟩ (us++ds) (vs++dvs) Q E G B.env0 (I s us B.kIn U) D h) λr s' j=>?_);cases r with
 |error e=>exact O pins σ H s e s' B j
 |ok W=>
  cases W with
  |ret u=>exact B.after j
  |next=>exact False.elim j
  |brk=>exact False.elim j
  |cont=>exact False.elim j
theorem zaj(F:FnOk X.prog X.w X.K X.mg X.base CX k f fd ps sp)(D:Room k X.A)(G:Gl X x)(I:X.mg x=some (.ref f))(J0:W.keepIn X.K (.ref f)=true)(O:Binds X.K fd ps ds)(U:Vals dvs ds)(V:zfK CX X E)(Y:PA X (e::es) t)(Z:(x==("__debug__":Str))=false:=by decide)(aa:starEach (e::es) X.env=(false,eval e X.env)::starEach es X.env:=by rfl)(ab:(backTo pos (starEach es X.env)).any (·.1)=false:=by rfl) :
  PE X (.Call (.Name x p) (e::es) [] pos) (tCall sp dvs E t):=by
 intro pins s σ H Q j h;refine wpAny_Call_Name_kw (zdt j G I ?_ Z);refine W.callWith_K (h₀:=X.base) j.ok.mod.kin J0 (thn (Y pos pins s σ H _ j h) λus ad ac=>?_) aa ab;obtain⟨vs,H1,B,r,q⟩:=ac;refine⟨B.kIn,?_⟩;exact zli F D O U V B r q
end
section
variable {X:Cx}{CX:CXT}{k:Nat}{f C:Addr}{fd:FuncData}{ps ks:List Str}{sp:Sp}{E:XK}{x m:Str}{p pos apos kpos:Pos}{e o:Expr}{es:List Expr}{kws:List Keyword}{te ta:TE}{t tk:TA}{nm:Option Str}
variable {g:List Value->List Value->List Value}{gV:List V->List V->List V}
end
structure zau(N P:List Str)(sc:Scope):Prop where
 kind:sc.kind=.function
 co:sc.isCoroutine=false
 gen:sc.isGenerator=false
 nd:N.Nodup
 pre:N.take P.length=P
 par:∀x∈P,sc.names.lookup x=some .local∨sc.names.lookup x=some .cell
 nofree:∀y∈sc.names,y.2≠.free
theorem zeI{kindOf:Str->Option NameKind}{x:Str}:∀ {j:List (Str×Value)}{m:Str->Option Value},(∀v,(x,v)∉j)->bindL kindOf j m x=m x
 |[],_,_=>rfl
 |(n,v)::r,m,h=>by
  unfold bindL;rw[zeI λw hw=>h w (List.mem_cons_of_mem _ hw)];split
  .have:x≠n:=by rintro rfl;exact h v List.mem_cons_self
   simp[this]
  .rfl
theorem zeJ{kindOf:Str->Option NameKind}{x:Str}:∀ {j:List (Str×Value)}{m:Str->Option Value},(∀v,(x,v)∉j)->bindC kindOf j m x=m x
 |[],_,_=>rfl
 |(n,v)::r,m,h=>by
  unfold bindC;rw[zeJ λw hw=>h w (List.mem_cons_of_mem _ hw)];split
  .rfl
  .have:x≠n:=by rintro rfl;exact h v List.mem_cons_self
   simp[this]
theorem zeK{kindOf:Str->Option NameKind}{x:Str}{v:Value}:∀ {P:List Str}{vs:List Value}{i:Nat}{m:Str->Option Value},P.Nodup->P[i]?=some x->vs[i]?=some v->kindOf x=some .local ->
  bindL kindOf (P.zip vs) m x=some v
 |[],_,_,_,_,h,_,_=>by simp at h
 |_::_,[],_,_,_,_,h,_=>by simp at h
 |p::P,w::vs,0,m,j,h1,h2,B=>by
  simp at h1 h2;subst h1;subst h2;show bindL kindOf ((p,w)::P.zip vs) m p=_;unfold bindL;rw[zeI λv D=>(List.nodup_cons.mp j).1 (List.of_mem_zip D).1,if_pos B];simp
 |p::P,w::vs,i+1,m,j,h1,h2,B=>by
  show bindL kindOf ((p,w)::P.zip vs) m x=_;unfold bindL;exact zeK (i:=i) (List.nodup_cons.mp j).2 (by simpa using h1) (by simpa using h2) B
theorem zeL{kindOf:Str->Option NameKind}{x:Str}{v:Value}:∀ {P:List Str}{vs:List Value}{i:Nat}{m:Str->Option Value},P.Nodup->P[i]?=some x->vs[i]?=some v->kindOf x≠some .local ->
  bindC kindOf (P.zip vs) m x=some v
 |[],_,_,_,_,h,_,_=>by simp at h
 |_::_,[],_,_,_,_,h,_=>by simp at h
 |p::P,w::vs,0,m,j,h1,h2,B=>by
  simp at h1 h2;subst h1;subst h2;show bindC kindOf ((p,w)::P.zip vs) m p=_;unfold bindC;rw[zeJ λv D=>(List.nodup_cons.mp j).1 (List.of_mem_zip D).1,if_neg B];simp
 |p::P,w::vs,i+1,m,j,h1,h2,B=>by
  show bindC kindOf ((p,w)::P.zip vs) m x=_;unfold bindC;exact zeL (i:=i) (List.nodup_cons.mp j).2 (by simpa using h1) (by simpa using h2) B
noncomputable def start(N:List Str)(vs:List V):St:=vs.map some++List.replicate (N.length-vs.length) none
noncomputable def cxOf(CX:CXT)(P:Program)(w:World)(K:W.Frag)(mg:Str->Option Value)(base:Heap)(N:List Str)(qual:Str)(scope:Scope)(f:Addr)(cd:Value)(A:Around)(outer:List Env)(s:Shared)(H:Hp)(E:XK):Cx where
 prog:=P
 w:=w
 K:=K
 mg:=mg
 base:=base
 A:=A.deeper (envOfC qual scope s.heap.objs.size f cd)
 N:=N
 s₀:=s
 H₀:=H
 env:=envOfC qual scope s.heap.objs.size f cd
 outer:=outer
 stack:=envOfC qual scope s.heap.objs.size f cd::outer
 ex:=[]
 calm:=true
 fn:=λ_=>true
 pn:=[]
 xe:=λe s'=>wpAny (model P w) (A.deeper (envOfC qual scope s.heap.objs.size f cd)) (leaving (envOfC qual scope s.heap.objs.size f cd) e) (λ_ j=>CX outer H s E e j) (λB j=>CX outer H s E B j) s'
theorem zfL{sc:Scope}{n:Nat}{x:Str}(h:sc.names.lookup x=some .cell):∃c,(cellsFrom n sc.names []).lookup x=some c:=by
 have q:=W.cellsFrom_some sc.names n [] (.inl h);exact Option.isSome_iff_exists.mp q
theorem zhe{CX:CXT}{P:Program}{w:World}{K:W.Frag}{mg:Str->Option Value}{base:Heap}{N ps:List Str}{qual:Str}{scope:Scope}{f:Addr}{cd:Value}{A:Around}{outer:List Env}{s F:Shared}{H:Hp}{E:XK}{us:List Value}{vs:List V}(S:zau N ps scope)(O:A.handled=none)(j:Env0 P w K mg base A outer s H)(Z:vs.length=ps.length)(r:Vals vs us)(x:InCallC s s.heap.objs.size (bindL (envOfC qual scope s.heap.objs.size f cd).kindOf (ps.zip us) λ_=>none) (cellsFrom (s.heap.objs.size+1) scope.names []) (bindC (envOfC qual scope s.heap.objs.size f cd).kindOf (ps.zip us) λ_=>none) F) :
  Inv (cxOf CX P w K mg base N qual scope f cd A outer s H E) [] (start N vs) H F:=by
 have aa:ps.length<=N.length:=by have:=congrArg List.length S.pre;rw[List.length_take] at this;omega
 obtain⟨h1,tk,rfl,G⟩:=x.done;have D:∀b:Addr,b∉(cxOf CX P w K mg base N qual scope f cd A outer s H E).ex:=λb z=>absurd (show b∈([]:List Addr) from z) (by simp);refine⟨⟨j.mod,S.kind,J,J,Nat.le_refl _,λy z c h1 h2=>?_,λy hy=>?_,λy c _ h=>?_,λ_=>O,Around.frames_deeper j.frames,.inr ⟨J,J⟩,λb z=>absurd z (D b),j.bs,j.bsz,λb _ _=>D b,λb z=>absurd z (D b),j.funs,j.frf⟩,
  J,j.bare,Un.kept G,⟨_,x.toInCall.ns,λi y v h1 h2 ab=>?_⟩,λy c h=>⟨_,x.cell y c h⟩,j.hok.fresh (Nat.le_refl _),λy c h=>?_,λp B=>absurd (show p∈([]:List (Addr×Obj)) from B) (by simp),j.hok.kept G,?_⟩
 .exact name_of_addr x.apart (PySem.mem_of_lookup h1) (PySem.mem_of_lookup h2)
 .have hy:scope.names.lookup y=some .cell∨scope.names.lookup y=some .free:=hy;rcases hy with hy|hy
  .exact zfL hy
  .exact absurd rfl (S.nofree _ (PySem.mem_of_lookup hy))
 .exact Nat.le_of_lt (x.above y c (PySem.mem_of_lookup h))
 .have hi:i<vs.length:=by
   unfold start at h2;by_cases hi:i<vs.length
   .exact hi
   .rw[List.getElem?_append_right (by simpa using hi)] at h2;rw[List.getElem?_replicate] at h2;split at h2<;>cases h2
  have U:vs[i]?=some v:=by
   unfold start at h2;rw[List.getElem?_append_left (by simpa using hi),List.getElem?_map] at h2;cases e:vs[i]? with
   |none=>rw[e] at h2;cases h2
   |some a=>rw[e] at h2;cases h2;rfl
  obtain⟨u,I,Y⟩:=r.get U;have B:ps[i]?=some y:=by
   rw[←S.pre,List.getElem?_take_of_lt (by omega)];exact h1
  have J0:ps.Nodup:=by rw[←S.pre];exact S.nd.sublist (List.take_sublist _ _)
  refine⟨u,Y,?_⟩;rcases S.par y (List.mem_of_getElem? B) with k|k
  .exact .inl ⟨k,zeK J0 B I k⟩
  .obtain⟨c,e⟩:=zfL (n:=s.heap.objs.size+1) k;refine .inr ⟨.inl k,c,e,?_⟩;have q:=x.cell y c e;rw[zeL J0 B I (by show scope.names.lookup y≠_;rw[k];decide)] at q;exact q
 .exact j.hok.fresh (Nat.le_of_lt (x.above y c (PySem.mem_of_lookup h)))
 .unfold start;show _=N.length;rw[List.length_append,List.length_map,List.length_replicate];omega
theorem zj5{CX:CXT}{P:Program}{w:World}{K:W.Frag}{mg:Str->Option Value}{base:Heap}{k:Nat}{f:Addr}{name qual:Str}{G:Arguments}{body:List Stmt}{scope:Scope}{I kV doc pm cdv ct oc:Value}{an od:Option Addr}{osl:Array (Option Value)}{N ps:List Str}{sp:Sp}(aa:K.lookup f=some ⟨oc,od,.func (W.fnOf name qual G body scope I kV doc pm an cdv ct),osl⟩)(ab:W.codeIn K cdv qual=true)(S:zau N ps scope)(len:∀vs H Q E,sp vs H Q E->vs.length=ps.length)(ac:∀(A:Around) (outer:List Env) (s:Shared) (H:Hp) (vs:List V) (Q:VK) (E:XK),Room k (A.deeper (envOfC qual scope s.heap.objs.size f cdv))->sp vs H Q E ->
   ∃t,PSs (cxOf CX P w K mg base N qual scope f cdv A outer s H E) body t/\t { nx:=λ_ H'=>Q .non H',rt:=Q } (start N vs) H) :
  FnOk P w K mg base CX (k+1) f (W.fnOf name qual G body scope I kV doc pm an cdv ct) ps sp:=by
 refine⟨len,λA outer s H args us vs Q E D B ad r O=>?_⟩;have ae:=len _ _ _ _ O;have U:K.In s.heap:=B.mod.kin.keeps λb o e=>(B.bs b o e).1;have af:s.heap.NoLimit:=B.mod.nolimit.keeps λb o e=>(B.bs b o e).1;have ag:∀y∈ps.zip us,scope.names.lookup y.1=some .local∨(scope.names.lookup y.1=some .cell/\((cellsFrom (s.heap.objs.size+1) scope.names []).lookup y.1).isSome=true):=λ⟨n,v⟩ ah=>by
  rcases S.par n (List.of_mem_zip ah).1 with q|q
  .exact .inl q
  .exact .inr ⟨q,W.cellsFrom_some _ _ _ (.inl q)⟩
 refine codeAny_call_function D.depth (U _ _ aa) rfl S.co S.gen rfl (W.codeRec_of U ab) (ad _ _ _ _ ?_);refine wpAny_newFunctionEnv_cells S.kind ag λenv ai Y x=>?_;subst ai;refine⟨af.keeps x.toInCall.keep,codeAny_func ?_⟩;obtain⟨t,aj,ak⟩:=ac A outer s H vs Q E (D.deeper _) O;have al:Inv (cxOf CX P w K mg base N qual scope f cdv A outer s H E) [] (start N vs) H Y:=zhe S D.hd B ae r x;refine wpAny_mono (aj [] Y (start N vs) H _ al ak) (λam s' j=>?_) λe s' j=>j;have Z:∀ {σ':St} {H':Hp} {v:V} {u:Value},Inv (cxOf CX P w K mg base N qual scope f cdv A outer s H E) [] σ' H' s'->RelV v u->Q v H'->CE outer P w H s Q u s':=
  λ{σ' H' v u} J0 F q=>⟨v,H',J0.os,J0.bare,J0.base,J0.hok,F,q⟩
 cases am with
 |ret u=>
  obtain⟨v,σ',H',J0,F,q⟩:=j;exact Z J0 F q
 |next=>
  obtain⟨σ',H',J0,q⟩:=j;exact Z (v:=V.non) (u:=Value.none) J0 rfl q
 |brk=>
  obtain⟨_,_,_,q⟩:=j;exact False.elim q
 |cont=>
  obtain⟨_,_,_,q⟩:=j;exact False.elim q
section
variable {X:Cx}{x:Str}{p pos:Pos}{e:Expr}{es:List Expr}{t:TA}{id T:String}{r:List V->Hp->VK->Prop}
noncomputable def tCB(r:List V->Hp->VK->Prop)(t:TA):TE:=λσ H Q=>t σ H λvs H1=>r vs H1 Q
theorem zar(B:CallR X (.builtin id) r)(D:Gl X x)(F:X.mg x=none)(G:bootBuiltins x=some (.builtin id))(I:PA X (e::es) t)(J0:x≠"__name__":=by decide)(O:(x==("__debug__":Str))=false:=by decide)(U:starEach (e::es) X.env=(false,eval e X.env)::starEach es X.env:=by rfl)(V:(backTo pos (starEach es X.env)).any (·.1)=false:=by rfl):PE X (.Call (.Name x p) (e::es) [] pos) (tCB r t):=by
 intro pins s σ H Q j h;refine wpAny_Call_Name_kw (zbA j D F G ?_ J0 O);refine PyProof.Rows.callWith_builtin1 (thn (I pos pins s σ H _ j h) λus W Y=>?_) U V;obtain⟨vs,H1,Z,aa,ab⟩:=Y;exact B pins W σ H1 vs us Q Z aa ab
theorem zaV(B:CallR X (.type T) r)(D:Gl X x)(F:X.mg x=none)(G:bootBuiltins x=some (.type T))(I:PA X (e::es) t)(J0:x≠"__name__":=by decide)(O:(x==("__debug__":Str))=false:=by decide)(U:starEach (e::es) X.env=(false,eval e X.env)::starEach es X.env:=by rfl)(V:(backTo pos (starEach es X.env)).any (·.1)=false:=by rfl):PE X (.Call (.Name x p) (e::es) [] pos) (tCB r t):=by
 intro pins s σ H Q j h;refine wpAny_Call_Name_kw (zbA j D F G ?_ J0 O);refine PyProof.Rows.callWith_type1 (thn (I pos pins s σ H _ j h) λus W Y=>?_) U V;obtain⟨vs,H1,Z,aa,ab⟩:=Y;exact B pins W σ H1 vs us Q Z aa ab
end
end L2
namespace HT
open PySem PyProof.Rows
section
open PySem.SeqAt
open PySem.AutoSeq1 (wpAny_loadPart')
open PySem.MeetsSeq PySem.MeetsSeq2 PySem.MeetsSeq3
end
section
variable {prog:Program}{w:World}{A:Around}{E:Value->Shared->Prop}{s:Shared}
theorem cat_tup{t b:Addr}{vs j:List Value}{Q:Value->Shared->Prop}(Z:IsTup s.heap t vs.toArray)(aa:IsTup s.heap b j.toArray)(F:vs≠[])(h1:j=[]->Q (.ref t) s)(h2:j≠[]->Q (.ref s.heap.objs.size) { s with heap:=s.heap.push { cls:=.type "tuple",data:=.seq (vs++j).toArray } })(hsz:vs.length+j.length<=sizeLine):wpAny (model prog w) A (binaryOp .Add (.ref t) (.ref b)) Q E s:=by
 obtain⟨⟨cls,dd,data,G⟩,B,I,n,J0⟩:=id Z;obtain⟨⟨ab,O,data2,U⟩,D,V,W,Y⟩:=id aa;simp only at I J0 V Y;subst I J0 V Y;have e:vs.toArray++j.toArray=(vs++j).toArray:=by simp
 by_cases hw:j=[]
 .exact concat_meets ⟨_,B,J⟩ ⟨_,D,J⟩ noFill_tuple_add seq_tuple_add PySem.F.slot_tuple_add PySem.F.entry_tuple_add (PySem.F.args_tuple_add_2 _ _)
   (tuple_addW1 t b vs.toArray j.toArray n W dd O G U (by simpa using F) (by simp[hw])) ⟨B,D,h1 hw⟩
 .refine concat_meets ⟨_,B,J⟩ ⟨_,D,J⟩ noFill_tuple_add seq_tuple_add PySem.F.slot_tuple_add PySem.F.entry_tuple_add (PySem.F.args_tuple_add_2 _ _)
   (tuple_addW2 t b vs.toArray j.toArray n W dd O G U (by simpa using F) (by simpa using hw) (by rw[List.size_toArray,List.size_toArray];exact hsz)) ⟨B,D,?_⟩
  rw[e];exact h2 hw
noncomputable def sIx(n d:Nat):Option Int->Nat
 |none=>d
 |some v=>if v<0 then (v+(n:Int)).toNat else min v.toNat n
theorem sIx_nat(n d k:Nat):sIx n d (some (k:Int))=min k n:=by
 show (if (k:Int)<0 then ((k:Int)+(n:Int)).toNat else min (k:Int).toNat n)=min k n;rw[if_neg (by omega),Int.toNat_natCast]
theorem sIx_le(n d:Nat)(B:d<=n)(o:Option Int):sIx n d o<=n:=by
 cases o with
 |none=>exact B
 |some v=>
  show (if v<0 then (v+(n:Int)).toNat else min v.toNat n)<=n;by_cases j:v<0
  .rw[if_pos j];omega
  .rw[if_neg j];exact Nat.min_le_right _ _
theorem zhf(v:Int)(n d:Nat):(if v<0 then max (v+(n:Int)) 0 else min v (n:Int))=((sIx n d (some v):Nat):Int):=by
 show (if v<0 then max (v+(n:Int)) 0 else min v (n:Int))=(((if v<0 then (v+(n:Int)).toNat else min v.toNat n):Nat):Int);by_cases j:v<0
 .simp only[if_pos j];omega
 .simp only[if_neg j];omega
theorem zgE(lo hi:Option Int)(n:Nat):Builtin.Slice.sliceAdjust lo hi 1 (n:Int)=(((sIx n 0 lo:Nat):Int),((sIx n n hi:Nat):Int)):=by
 have h1:¬((1:Int)<0):=by omega
 unfold Builtin.Slice.sliceAdjust;simp only[h1,if_false];refine Prod.ext ?_ ?_
 .cases lo with
  |none=>rfl
  |some v=>exact zhf v n 0
 .cases hi with
  |none=>rfl
  |some v=>exact zhf v n n
theorem zgF(i j:Nat):Builtin.Slice.slicePlaces (i:Int) (j:Int) 1=j-i:=by
 unfold Builtin.Slice.slicePlaces;have h1:(1:Int)>0:=by omega
 simp only[h1,if_true,Int.ediv_one];split<;>omega
theorem zcJ{v:Value}{o:Option Int}{Q:Option Int->Shared->Prop}(p:IsPart v o)(h:Q o s):wpAny (model prog w) A (Builtin.Slice.slicePartIndex v) Q E s:=by
 cases p with
 |none=>exact slicePart_none h
 |int i t=>exact slicePart_int h
theorem zc8{G:Addr}{j B:Value}{lo hi:Option Int}{n:Nat}{Q:Int×Int×Nat->Shared->Prop}(I:s.heap.IsSliceOf G j B .none)(J0:IsPart j lo)(O:IsPart B hi)(h:Q (((sIx n 0 lo:Nat):Int),1,sIx n n hi-sIx n 0 lo) s):wpAny (model prog w) A (Builtin.Slice.sliceApplied (.ref G) (pure (n:Int))) Q E s:=by
 obtain⟨os,D,U,F⟩:=id I;unfold Builtin.Slice.sliceApplied Builtin.Slice.sliceFields;refine wpAny_bind (wpAny_bind (wpAny_field D F (x:=j) J (wpAny_bind (wpAny_field D F (x:=B) J (wpAny_bind (wpAny_field D F (x:=.none) J (wpAny_pure ?_)))))));refine wpAny_bind (slicePart_none ?_);show wpAny _ _ (if ((1:Int)==0)=true then _ else _) _ _ s;rw[if_neg (by decide)];refine wpAny_bind (zcJ J0 (wpAny_bind (zcJ O (wpAny_bind (wpAny_pure ?_)))));show wpAny _ _ (match Builtin.Slice.sliceAdjust lo hi 1 (n:Int) with|(lo,hi)=>pure (lo,(1:Int),Builtin.Slice.slicePlaces lo hi 1)) _ _ s
 rw[zgE lo hi n];show wpAny _ _ (pure (((sIx n 0 lo:Nat):Int),(1:Int),Builtin.Slice.slicePlaces ((sIx n 0 lo:Nat):Int) ((sIx n n hi:Nat):Int) 1)) _ _ s;rw[zgF];exact wpAny_pure h
theorem ziF(xs:Array Value)(i k:Nat):((List.range k).filterMap λ(m:Nat)=>xs[((i:Int)+(m:Int)*1).toNat]?).toArray=((xs.toList.drop i).take k).toArray:=by
 have e:(λ(m:Nat)=>xs[((i:Int)+(m:Int)*1).toNat]?)=λm=>xs[i+m]?:=by
  funext m;have:((i:Int)+(m:Int)*1).toNat=i+m:=by omega
  rw[this]
 rw[e];have:=pick_run xs i k;rw[List.filterMap_map] at this;have j:((λx=>xs[x]?)∘λx=>i+x)=λm=>xs[i+m]?:=rfl;rw[j] at this;rw[this]
theorem getItem_tuple_cut{t F:Addr}{j:Array Value}{G I:Value}{lo hi:Option Int}{Q:Value->Shared->Prop}(B:IsTup s.heap t j)(J0:s.heap.IsSliceOf F G I .none)(O:IsPart G lo)(U:IsPart I hi)(hw:¬(sIx j.size 0 lo=0/\sIx j.size j.size hi=j.size))(h:Q (.ref s.heap.objs.size) { s with heap:=s.heap.push { cls:=.type "tuple",data:=.seq ((j.toList.drop (sIx j.size 0 lo)).take (sIx j.size j.size hi-sIx j.size 0 lo)).toArray } })(hsz:j.size<=sizeLine):wpAny (model prog w) A (getItem (.ref t) (.ref F)) Q E s:=by
 have D:sizeOk (.seq ((j.toList.drop (sIx j.size 0 lo)).take (sIx j.size j.size hi-sIx j.size 0 lo)).toArray):=by
  show ((j.toList.drop (sIx j.size 0 lo)).take (sIx j.size j.size hi-sIx j.size 0 lo)).toArray.size<=sizeLine;rw[List.size_toArray,List.length_take,List.length_drop,Array.length_toList];omega
 have aa:sIx j.size j.size hi<=j.size:=sIx_le _ _ (Nat.le_refl _) hi;obtain⟨os,V,W,ab⟩:=id J0;have Y:s.TypeIs (.ref F) "slice":=⟨os,V,W⟩;unfold getItem
 try with_reducible refine wpAny_holding ?_
 first|refine wpAny_bind (wpAny_pure ?_)|skip
 refine wpAny_bind (wpAny_sequenceKey B.typeIs (by decide) ?_);refine wpAny_bind (wpAny_callSpecial?_slot (name:=Str.ofString "__getitem__") B.typeIs PyProof.Rows.slot_tuple_getitem
  (wpAny_call_entry PyProof.Rows.slot_tuple_getitem B.typeIs entry_tuple_getitem ?_ (args_tuple_getitem _ _)))
 show wpAny _ _ (Builtin.Tuple.tupleItemsOf (.ref t) >>= _) _ _ s;refine wpAny_bind (tupleItemsOf_ B ?_);refine wpAny_bind (wpAny_typeOf Y ?_);rw[if_pos (by decide)];refine wpAny_bind (zc8 J0 O U ?_);have Z:¬((((sIx j.size 0 lo:Nat):Int)==0&&(1:Int)==1&&(sIx j.size j.size hi-sIx j.size 0 lo)==j.size)=true):=by
  intro q;rw[Bool.and_eq_true,Bool.and_eq_true] at q;have ac:((sIx j.size 0 lo:Nat):Int)=0:=eq_of_beq q.1.1;have ad:sIx j.size j.size hi-sIx j.size 0 lo=j.size:=eq_of_beq q.2;exact hw ⟨by omega,by omega⟩
 show wpAny _ _ (if (((sIx j.size 0 lo:Nat):Int)==0&&(1:Int)==1&&(sIx j.size j.size hi-sIx j.size 0 lo)==j.size)=true then _ else _) _ _ s;rw[if_neg Z,ziF]
 first
  |exact wpAny_bind (m:=Builtin.Tuple.tupleExact _) (wpAny_newObj_type (wpAny_pure ⟨_,J,wpAny_pure h⟩) D)
  |exact wpAny_bind (m:=Builtin.Tuple.tupleExact _) (wpAny_newObj_type (wpAny_bind (wpAny_pure (wpAny_pure ⟨_,J,wpAny_pure h⟩))) D)
  |exact wpAny_bind (wpAny_bind (m:=Builtin.Tuple.tupleExact _) (wpAny_newObj_type (wpAny_pure (wpAny_pure ⟨_,J,wpAny_pure h⟩)) D))
  |exact wpAny_bind (wpAny_bind (m:=Builtin.Tuple.tupleExact _) (wpAny_newObj_type (wpAny_pure ⟨_,J,wpAny_pure h⟩) D))
end
end HT
namespace L2
open PySem PySem.Spec PyProof.Rows
noncomputable abbrev TO:=St->Hp->(Option Int->Hp->Prop)->Prop
noncomputable def PO(X:Cx)(e:Option Expr)(t:TO):Prop:=
 ∀(pins:List (Addr×Obj)) (s:Shared) (σ:St) (H:Hp) (Q:Option Int->Hp->Prop),Inv X pins σ H s->t σ H Q ->
  wpAny (model X.prog X.w) X.A (evalPart e X.env) (λu s'=>∃o H',Inv X pins σ H' s'/\IsPart u o/\Q o H') X.xe s
noncomputable def zj6:TO:=λ_ H Q=>Q none H
noncomputable def tPart(t:TE):TO:=λσ H Q=>t σ H λx H1=>∃i,x=.int i/\Q (some i) H1
section
variable {X:Cx}{e:Expr}{te:TE}{lo hi:Option Expr}{tl th:TO}{pos p2:Pos}
theorem zee:PO X none zj6:=by
 intro pins s σ H Q j h;rw[evalPart_none];exact wpAny_pure ⟨none,H,j,.none,h⟩
theorem zcK(h:PE X e te):PO X (some e) (tPart te):=by
 intro pins s σ H Q j hw;rw[evalPart_some];refine thn (h pins s σ H _ j hw) λu I B=>?_;obtain⟨x,H1,D,F,G⟩:=B;obtain⟨i,rfl,q⟩:=G;obtain⟨t,rfl⟩:=F;exact⟨some i,H1,D,.int i t,q⟩
noncomputable def SlR(X:Cx)(r:V->Option Int->Option Int->Hp->VK->Prop):Prop:=
 ∀(pins:List (Addr×Obj)) (s:Shared) (σ:St) (H:Hp) (x:V) (v j B:Value) (lo hi:Option Int) (D:Addr) (Q:VK),Inv X pins σ H s->RelV x v->s.heap.IsSliceOf D j B .none->IsPart j lo->IsPart B hi->r x lo hi H Q ->
  ∃T id,typeLookup (.type T) "__getitem__"=pure (some (.builtin id))/\s.TypeIs v T/\wpAny (model X.prog X.w) X.A (getItem v (.ref D)) (EP X pins σ Q) X.xe s
noncomputable def tSl(r:V->Option Int->Option Int->Hp->VK->Prop)(te:TE)(tl th:TO):TE:=λσ H Q=>te σ H λx H1=>tl σ H1 λl H2=>th σ H2 λu j=>r x l u j Q
theorem zdc{r:V->Option Int->Option Int->Hp->VK->Prop}(I:SlR X r)(J0:PE X e te)(O:PO X lo tl)(U:PO X hi th):PE X (.Subscript e (.Slice lo hi none p2) pos) (tSl r te tl th):=by
 intro pins s σ H Q W h;refine Subscript_ (thn (J0 pins s σ H _ W h) λv Y F=>?_);obtain⟨x,H1,Z,aa,ab⟩:=F;refine wpAny_Slice (thn (O pins Y σ H1 _ Z ab) λB ac F=>?_);obtain⟨l,H2,ad,ae,af⟩:=F;refine thn (U pins ac σ H2 _ ad af) λD j ag=>?_;obtain⟨u,G,ah,ai,aj⟩:=ag;rw[evalPart_none];refine wpAny_pure ?_;have ak:Inv X pins σ G { j with heap:=j.heap.push { cls:=.type "slice",data:=.fields #[B,D,.none] } }:=ah.kept (t':=j.toks) λb ob q=>Heap.get?_push_of_some _ q;obtain⟨T,id,al,am,ao⟩:=I pins { j with heap:=j.heap.push { cls:=.type "slice",data:=.fields #[B,D,.none] } } σ G x v B D l u j.heap.objs.size Q ak aa (Heap.IsSliceOf.new ..) ae ai aj;show wpAny (model X.prog X.w) X.A (subscriptTail e (.Slice lo hi none p2) v (.ref j.heap.objs.size)) (EP X pins σ Q) X.xe { j with heap:=j.heap.push { cls:=.type "slice",data:=.fields #[B,D,.none] } };exact tail_any (ops:=[.ref j.heap.objs.size,v]) am al ao (by with_unfolding_all rfl)
noncomputable def cutV(xs:List V)(lo hi:Option Int):List V:=(xs.drop (HT.sIx xs.length 0 lo)).take (HT.sIx xs.length xs.length hi-HT.sIx xs.length 0 lo)
theorem zdv(xs:List V)(lo hi:Option Int):(cutV xs lo hi).length<=xs.length:=by
 unfold cutV;rw[List.length_take,List.length_drop];omega
noncomputable def rSlT(K:W.Frag):V->Option Int->Option Int->Hp->VK->Prop:=λx lo hi H Q=>∃a xs,x=.ref a/\SqT K H a xs /\
 ¬(HT.sIx xs.length 0 lo=0/\HT.sIx xs.length xs.length hi=xs.length)/\∀p,H p=none->Q (.ref p) (upd H p (.tup (cutV xs lo hi)))
theorem zlj:SlR X (rSlT X.K):=by
 intro pins s σ H x v V W lo hi Y Q j G I J0 O h;obtain⟨a,xs,rfl,U,hw,q⟩:=h;cases G;obtain⟨its,r,D,F⟩:=j.tuple U;have B:its.toArray.size=xs.length:=by rw[List.size_toArray];exact r.length.symm
 refine⟨"tuple",_,PyProof.Rows.slot_tuple_getitem.lookup,D.typeIs,?_⟩;refine HT.getItem_tuple_cut D I J0 O (by rw[B];exact hw) ?_ (by rw[B];exact F);rw[B];refine⟨.ref s.heap.objs.size,_,j.laid (t':=s.toks) (o:=.tup (cutV xs lo hi)) (λb ob q=>Heap.get?_push_of_some _ q) (Nat.le_refl _) ?_,J,q _ (j.hok.fresh (Nat.le_refl _))⟩;exact⟨Nat.le_trans (zdv xs lo hi) F,_,(r.drop (HT.sIx xs.length 0 lo)).take (HT.sIx xs.length xs.length hi-HT.sIx xs.length 0 lo),IsTup.new _ _⟩
noncomputable def rCatT(K:W.Frag):R2:=λx y H Q=>∃a b xs ys,x=.ref a/\y=.ref b/\SqT K H a xs/\SqT K H b ys/\xs≠[]/\xs.length+ys.length<=sizeLine /\
 (ys=[]->Q (.ref a) H)/\(ys≠[]->∀p,H p=none->Q (.ref p) (upd H p (.tup (xs++ys))))
theorem Vals.nil_iff{xs:List V}{us:List Value}(r:Vals xs us):us=[]↔xs=[]:=by
 cases r with
 |nil=>simp
 |cons _ _=>simp
theorem zhg:OpR X (binaryOp .Add) (rCatT X.K):=by
 intro pins s σ H x y v u Q j G I h;obtain⟨a,b,xs,ys,rfl,rfl,J0,O,U,F,V,W⟩:=h;cases G;cases I;obtain⟨its,D,Y,_⟩:=j.tuple J0;obtain⟨Z,B,p2,_⟩:=j.tuple O;refine HT.cat_tup Y p2 (λz=>U (D.nil_iff.mp z)) (λz=>⟨.ref a,H,j,J,V (B.nil_iff.mp z)⟩) (λz=>?_) (by rw[←D.length,←B.length];exact F);refine⟨.ref s.heap.objs.size,_,j.laid (t':=s.toks) (o:=.tup (xs++ys)) (λb ob q=>Heap.get?_push_of_some _ q) (Nat.le_refl _) ?_,J,W (λw=>z (B.nil_iff.mpr w)) _ (j.hok.fresh (Nat.le_refl _))⟩;exact⟨by rw[List.length_append];exact F,_,D.append B,IsTup.new _ _⟩
end
noncomputable def ixN(n:Nat)(i:Int):Option Nat:=if 0<=i then (if i<n then some i.toNat else none) else if -(n:Int)<=i then some (i+n).toNat else none
noncomputable def atI{B:Type}(xs:List B)(i:Int):Option B:=(ixN xs.length i).bind λj=>xs[j]?
theorem zhh{n:Nat}{i:Int}{j:Nat}(h:ixN n i=some j):seqIndex? i n=some j/\j<n/\-(n:Int)<=i/\i<n:=by
 unfold ixN at h;by_cases B:0<=i
 .rw[if_pos B] at h;by_cases h1:i<n
  .rw[if_pos h1] at h;have e:i.toNat=j:=Option.some.inj h;exact⟨by rw[seqIndex_of B h1,e],by omega,by omega,h1⟩
  .rw[if_neg h1] at h;cases h
 .rw[if_neg B] at h;by_cases h1:-(n:Int)<=i
  .rw[if_pos h1] at h;have e:(i+n).toNat=j:=Option.some.inj h;exact⟨by rw[seqIndex_neg (by omega) h1,e],by omega,h1,by omega⟩
  .rw[if_neg h1] at h;cases h
theorem zfl{B:Type}{xs:List B}{i:Int}{v:B}(h:atI xs i=some v):∃j,seqIndex? i xs.length=some j/\xs[j]?=some v/\j<xs.length/\-(xs.length:Int)<=i/\i<xs.length:=by
 unfold atI at h;cases e:ixN xs.length i with
 |none=>rw[e] at h;cases h
 |some j=>
  rw[e] at h;obtain⟨h1,h2,D,F⟩:=zhh e;exact⟨j,h1,h,h2,D,F⟩
theorem zal{B:Type}{xs:List B}{j:Nat}{v:B}(h:xs[j]?=some v):atI xs (j:Int)=some v:=by
 have D:j<xs.length:=(List.getElem?_eq_some_iff.mp h).1;have e:ixN xs.length (j:Int)=some j:=by
  unfold ixN;rw[if_pos (by omega),if_pos (by omega)];simp
 unfold atI;rw[e];exact h
noncomputable def zj7(b:Expr):Prop:=∀o i,subscripted b false o i=operate [o,i] (getItem o i)
noncomputable def IxR(X:Cx)(r:R2):Prop:=
 ∀(value j:Expr) (pins:List (Addr×Obj)) (s:Shared) (σ:St) (H:Hp) (x y:V) (v u:Value) (Q:VK),Inv X pins σ H s->RelV x v->RelV y u->r x y H Q ->
  subscripted j false v u=operate [v,u] (getItem v u)->wpAny (model X.prog X.w) X.A (subscriptTail value j v u) (EP X pins σ Q) X.xe s
noncomputable def MtR(X:Cx)(id:String)(r:V->List V->Hp->VK->Prop):Prop:=
 ∀(pins:List (Addr×Obj)) (s:Shared) (σ:St) (H:Hp) (x:V) (xs:List V) (v:Value) (us:List Value) (Q:VK),Inv X pins σ H s->RelV x v->Vals xs us->r x xs H Q ->
  wpAny (model X.prog X.w) X.A (call (.builtin id) (v::us)) (EP X pins σ Q) X.xe s
section
variable {X:Cx}{a b:Expr}{ta tb:TE}{pos:Pos}
theorem IxR.or{r j:R2}(h:IxR X r)(h':IxR X j):IxR X (λx y H Q=>r x y H Q∨j x y H Q):=by
 intro value B pins s σ H x y v u Q D F G q I;rcases q with q|q
 .exact h value B pins s σ H x y v u Q D F G q I
 .exact h' value B pins s σ H x y v u Q D F G q I
theorem zay{r:R2}(j:IxR X r)(B:PE X a ta)(D:PE X b tb)(F:zj7 b):PE X (.Subscript a b pos) (tOp r ta tb):=by
 intro pins s σ H Q G h;exact Subscript_ (binT B D G h λv u I x y H2 J0 O U q=>j a b pins I σ H2 x y v u Q J0 O U q (F _ _))
noncomputable def rIxL(K:W.Frag):R2:=λx y H Q=>∃p xs i v,x=.ref p/\y=.int i/\SqL K H p xs/\atI xs i=some v/\Q v H
noncomputable def rIxT(K:W.Frag):R2:=λx y H Q=>∃p xs i v,x=.ref p/\y=.int i/\SqT K H p xs/\atI xs i=some v/\Q v H
noncomputable def rIxS:R2:=λx y H Q=>∃z i c,x=.str z/\y=.int i/\z.length<=sizeLine/\atI z.cps.toList i=some c/\Q (.str ⟨#[c]⟩) H
theorem ix_list:IxR X (rIxL X.K):=by
 intro value ad pins s σ H x y v u Q F U V h G;obtain⟨p,xs,i,z,rfl,rfl,W,Y,q⟩:=h;cases U;obtain⟨t,rfl⟩:=V;obtain⟨its,r,B,ae⟩:=F.list W;obtain⟨j,h1,h2,af,Z,aa⟩:=zfl Y;obtain⟨w,I,ab⟩:=r.get h2;have ac:=r.length;have ag:=line63;have J0:EP X pins σ Q w s:=⟨z,H,F,ab,q⟩;by_cases O:0<=i
 .have D:i.toNat=j:=by
   rw[seqIndex_of O aa] at h1;exact Option.some.inj h1
  exact item_listR B.isList O (by omega) (by rw[D];simpa using I) J0 G
 .have D:(i+(its.toArray.size:Int)).toNat=j:=by
   rw[seqIndex_neg (by omega) Z] at h1;rw[List.size_toArray,←ac];exact Option.some.inj h1
  exact subscriptTail_builtinR (x:=w) B.isList.typeIs slot_list_getitem.lookup
   (wpAny_getItem_list_neg (Q:=λr s'=>r=w/\EP X pins σ Q r s') B.isList (by omega) (by rw[List.size_toArray]<;>omega) (by omega) (by rw[D];simpa using I) ⟨J,J0⟩) G
theorem ix_tup:IxR X (rIxT X.K):=by
 intro value Z pins s σ H x y v u Q B F G h I;obtain⟨p,xs,i,z,rfl,rfl,J0,O,q⟩:=h;cases F;obtain⟨t,rfl⟩:=G;obtain⟨its,r,D,aa⟩:=B.tuple J0;obtain⟨j,h1,h2,ab,ac,ad⟩:=zfl O;obtain⟨w,U,V⟩:=r.get h2;have W:=r.length;have ae:=line63;have Y:EP X pins σ Q w s:=⟨z,H,B,V,q⟩;exact subscriptTail_builtinR (x:=w) D.typeIs slot_tuple_getitem.lookup
  (getItem_tuple (j:=j) (Q:=λr s'=>r=w/\EP X pins σ Q r s') D (by omega) (by omega) (by rw[List.size_toArray,←W];exact h1) (by simpa using U) ⟨J,Y⟩) I
theorem zfM:IxR X rIxS:=by
 intro value Y pins s σ H x y v u Q B D F h G;obtain⟨z,i,c,rfl,rfl,Z,I,q⟩:=h;obtain⟨t,rfl⟩:=D;obtain⟨t',rfl⟩:=F;obtain⟨j,h1,h2,aa,J0,O⟩:=zfl I;have U:z.cps.toList.length=z.length:=by simp[Str.length]
 rw[U] at h1 J0 O;have ab:=line63;exact tail_any (typeIs_str s z t) slot_str_getitem.lookup (getItem_str (c:=c) (by
  have V:decide (i < -(2 ^ 63:Int))=false:=decide_eq_false (by omega);have W:decide (i ≥ 2 ^ 63)=false:=decide_eq_false (by omega);rw[V,W,Bool.or_false]) (by rw[h1];simpa using h2) ⟨.str ⟨#[c]⟩,H,B.tok _,⟨_,J⟩,q⟩) G
noncomputable def rIx(K:W.Frag):R2:=λx y H Q=>rIxL K x y H Q∨rIxT K x y H Q∨rIxS x y H Q
theorem zlk:IxR X (rIx X.K):=ix_list.or (ix_tup.or zfM)
theorem zgG(its:List Value)(n j:Nat)(u:Value):Obj.mapSeq (·.setIfInBounds j u) { cls:=.type "list",data:=.seq its.toArray n }={ cls:=.type "list",data:=.seq (its.set j u).toArray n }:=by
 simp[Obj.mapSeq]
theorem Inv.lst{pins:List (Addr×Obj)}{σ:St}{H:Hp}{s:Shared}{p:Addr}{xs:List V}(j:Inv X pins σ H s)(h:H p=some (.lst xs)) :
  ∃(its:List Value) (n:Nat),Vals xs its/\s.heap.get? p=some { cls:=.type "list",data:=.seq its.toArray n }/\xs.length<=sizeLine:=by
 obtain⟨z,its,n,r,e⟩:=j.hok p _ h;exact⟨its,n,r,e,z⟩
theorem Inv.lstUpd{pins:List (Addr×Obj)}{σ:St}{H:Hp}{s:Shared}{p:Addr}{xs ys:List V}{its its':List Value}{n n':Nat}{f:Obj->Obj}(B:Inv X pins σ H s)(h:H p=some (.lst xs))(D:s.heap.get? p=some { cls:=.type "list",data:=.seq its.toArray n })(j:f { cls:=.type "list",data:=.seq its.toArray n }={ cls:=.type "list",data:=.seq its'.toArray n' })(r:Vals ys its')(F:ys.length<=sizeLine)(t:Nat) :
  Inv X pins σ (upd H p (.lst ys)) { s with heap:=s.heap.update p f,toks:=t }:=by
 have e:(s.heap.update p f).get? p=some { cls:=.type "list",data:=.seq its'.toArray n' }:=by
  rw[Heap.get?_update_self f D (by rw[j]<;>rfl),j]
 refine B.write (x:=p) (e:=p) (by rw[h];trivial) (.inl J) (λb u G q=>(Heap.get?_update_other _ _ (Ne.symm G)).trans q) ⟨_,e⟩ ?_;exact⟨F,its',n',r,e⟩
noncomputable def rSetL:V->V->V->Hp->(Hp->Prop)->Prop:=λo i v H Q=>∃p xs k j,o=.ref p/\i=.int k/\H p=some (.lst xs)/\ixN xs.length k=some j/\Q (upd H p (.lst (xs.set j v)))
theorem zef:PSet X rSetL:=by
 intro pins s σ H o i v ad ae u Q G Y Z aa h;obtain⟨p,xs,k,j,rfl,rfl,I,ab,q⟩:=h;cases Y;obtain⟨t,rfl⟩:=Z;obtain⟨its,n,r,B,ac⟩:=G.lst I;obtain⟨h1,h2,J0,O⟩:=zhh ab;have D:=r.length;have af:=line63;have U:Inv X pins σ (upd H p (.lst (xs.set j v))) { s with heap:=s.heap.update p (Obj.mapSeq (·.setIfInBounds j u)) }:=
  G.lstUpd I B (zgG its n j u) (r.set aa j) (by rw[List.length_set];exact ac) s.toks
 by_cases V:0<=k
 .have F:k.toNat=j:=by
   rw[seqIndex_of V O] at h1;exact Option.some.inj h1
  exact W.ki_setAt B V (by omega) (by rw[List.size_toArray,←D];exact O) (by rw[F];exact⟨_,U,q⟩)
 .have F:(k+(its.toArray.size:Int)).toNat=j:=by
   rw[seqIndex_neg (by omega) J0] at h1;rw[List.size_toArray,←D];exact Option.some.inj h1
  exact W.ki_setBack B (by omega) (by rw[List.size_toArray,←D];exact J0) (by omega) (by rw[F];exact⟨_,U,q⟩)
theorem zeM(lo hi:Option Int)(n:Nat):(sliceBounds lo hi none n).1=((HT.sIx n 0 lo:Nat):Int)/\(sliceBounds lo hi none n).2.1=((HT.sIx n n hi:Nat):Int)/\(sliceBounds lo hi none n).2.2=1:=by
 refine⟨?_,?_,J⟩
 .cases lo with
  |none=>simp[sliceBounds,HT.sIx]
  |some i=>
   simp only[sliceBounds,HT.sIx,Option.getD_none,show (1:Int)>0 by decide,if_true];by_cases h:i<0
   .simp only[h,if_true]<;>omega
   .simp only[h,if_false]<;>omega
 .cases hi with
  |none=>simp[sliceBounds,HT.sIx]
  |some i=>
   simp only[sliceBounds,HT.sIx,Option.getD_none,show (1:Int)>0 by decide,if_true];by_cases h:i<0
   .simp only[h,if_true]<;>omega
   .simp only[h,if_false]<;>omega
theorem zeg(its:List Value)(lo hi:Option Int):slicePick its.toArray lo hi none=((its.drop (HT.sIx its.length 0 lo)).take (HT.sIx its.length its.length hi-HT.sIx its.length 0 lo)).toArray:=by
 obtain⟨h1,h2,j⟩:=zeM lo hi its.toArray.size;unfold slicePick;rw[h1,h2,j];simp only[sliceRange_one,pick_run,List.size_toArray]<;>rfl
noncomputable def rSlL(K:W.Frag):V->Option Int->Option Int->Hp->VK->Prop:=λx lo hi H Q=>∃a xs,x=.ref a/\SqL K H a xs/\∀p,H p=none->Q (.ref p) (upd H p (.lst (cutV xs lo hi)))
theorem zmd:SlR X (rSlL X.K):=by
 intro pins s σ H x v V W lo hi Y Q j D F G I h;obtain⟨a,xs,rfl,J0,q⟩:=h;cases D;obtain⟨its,r,B,O⟩:=j.list J0;have U:=r.length;refine⟨"list",_,slot_list_getitem.lookup,B.isList.typeIs,?_⟩;refine wpAny_getItem_list_slice B.isList F G I .none (by simp) ?_ (by rw[List.size_toArray]<;>omega);rw[zeg,←U];refine⟨.ref s.heap.objs.size,_,j.laid (t':=s.toks) (o:=.lst (cutV xs lo hi)) (λb ob q=>Heap.get?_push_of_some _ q) (Nat.le_refl _) ?_,J,q _ (j.hok.fresh (Nat.le_refl _))⟩;exact⟨Nat.le_trans (zdv xs lo hi) O,_,0,(r.drop (HT.sIx xs.length 0 lo)).take (HT.sIx xs.length xs.length hi-HT.sIx xs.length 0 lo),Heap.get?_push_size _ J⟩
noncomputable def flatV:V->Bool
 |.non=>true
 |.bl _=>true
 |.int _=>true
 |.str _=>true
 |_=>false
noncomputable def eqV:V->V->Bool
 |.non,.non=>true
 |.bl a,.bl b=>a==b
 |.bl a,.int b=>(if a then 1 else 0)==b
 |.int a,.bl b=>a==(if b then 1 else 0)
 |.int a,.int b=>a==b
 |.str a,.str b=>a==b
 |_,_=>false
theorem zll{A:Around}{s:Shared}{y x:V}{u v:Value}(B:RelV y u)(j:RelV x v)(F:flatV y=true)(D:flatV x=true):SeqAt.EqAt A s u v (eqV y x):=by
 cases y with
 |non=>
  cases B;cases x with
  |non=>cases j;exact SeqAt.EqAt.same _
  |bl b=>cases j;exact SeqAt.EqAt.none_bool b
  |int b=>obtain⟨t,rfl⟩:=j;exact SeqAt.EqAt.none_int b t
  |str b=>obtain⟨t,rfl⟩:=j;exact SeqAt.EqAt.none_str b t
  |_=>exact absurd (show false=true from D) Bool.false_ne_true
 |bl a=>
  cases B;cases x with
  |non=>cases j;exact SeqAt.EqAt.bool_none a
  |bl b=>cases j;exact SeqAt.EqAt.bool_bool a b
  |int b=>obtain⟨t,rfl⟩:=j;exact SeqAt.EqAt.bool_int a b t
  |str b=>obtain⟨t,rfl⟩:=j;exact SeqAt.EqAt.bool_str a b t
  |_=>exact absurd (show false=true from D) Bool.false_ne_true
 |int a=>
  obtain⟨t',rfl⟩:=B;cases x with
  |non=>cases j;exact SeqAt.EqAt.int_none a t'
  |bl b=>cases j;exact SeqAt.EqAt.int_bool a t' b
  |int b=>obtain⟨t,rfl⟩:=j;exact SeqAt.EqAt.int_int a t' b t
  |str b=>obtain⟨t,rfl⟩:=j;exact SeqAt.EqAt.int_str a t' b t
  |_=>exact absurd (show false=true from D) Bool.false_ne_true
 |str a=>
  obtain⟨t',rfl⟩:=B;cases x with
  |non=>cases j;exact SeqAt.EqAt.str_none a t'
  |bl b=>cases j;exact SeqAt.EqAt.str_bool a t' b
  |int b=>obtain⟨t,rfl⟩:=j;exact SeqAt.EqAt.str_int a t' b t
  |str b=>obtain⟨t,rfl⟩:=j;exact SeqAt.EqAt.str_str a t' b t
  |_=>exact absurd (show false=true from D) Bool.false_ne_true
 |_=>exact absurd (show false=true from F) Bool.false_ne_true
noncomputable def eqU(x:V)(u:Value):Bool:=match u with
 |.none=>eqV .non x
 |.bool b=>eqV (.bl b) x
 |.int i _=>eqV (.int i) x
 |.str z _=>eqV (.str z) x
 |_=>false
theorem zjG{x y:V}{u:Value}(r:RelV y u)(f:flatV y=true):eqU x u=eqV y x:=by
 cases y with
 |non=>cases r;rfl
 |bl b=>cases r;rfl
 |int i=>obtain⟨t,rfl⟩:=r;rfl
 |str z=>obtain⟨t,rfl⟩:=r;rfl
 |_=>exact absurd (show false=true from f) Bool.false_ne_true
theorem zfN{A:Around}{s:Shared}{x:V}{v:Value}(j:RelV x v)(B:flatV x=true):∀ {xs:List V}{us:List Value},Vals xs us->xs.all flatV=true->∀u∈us,SeqAt.EqAt A s u v (eqU x u)
 |_,_,.nil,_=>λu hu=>by cases hu
 |y::xs,u::us,.cons r t,f=>λD hu=>by
  rw[List.all_cons,Bool.and_eq_true] at f;rcases List.mem_cons.mp hu with rfl|hu
  .rw[zjG r f.1];exact zll r j f.1 B
  .exact zfN j B t f.2 D hu
theorem zat:CallR X (.builtin "len") (λxs H Q=>∃p ys,xs=[.ref p]/\(SqL X.K H p ys∨SqT X.K H p ys)/\Q (.int ys.length) H):=by
 intro pins s σ H xs us Q j r h;obtain⟨p,ys,rfl,hq,q⟩:=h;obtain⟨u,rfl,G⟩:=vals1 r;cases G;have J0:=line63;rcases hq with hq|hq
 .obtain⟨its,B,D,I⟩:=j.list hq;have F:=B.length;exact Calls.call_len_list D.isList (by simp only[List.size_toArray]<;>omega) ⟨.int ys.length,H,j.tok _,⟨s.toks+1,by rw[List.size_toArray,F]⟩,q⟩
 .obtain⟨its,B,D,I⟩:=j.tuple hq;have F:=B.length;exact len_tuple D (by simp only[List.size_toArray]<;>omega) ⟨.int ys.length,H,j.tok _,⟨s.toks+1,by rw[List.size_toArray,F]⟩,q⟩
theorem zaw:CallR X (.builtin "len") (λxs H Q=>∃z,xs=[.str z]/\z.length<=sizeLine/\Q (.int z.length) H):=by
 intro pins s σ H xs us Q j r h;obtain⟨z,rfl,B,q⟩:=h;obtain⟨u,rfl,t,rfl⟩:=vals1 r;have D:=line63;exact len_str (by omega) ⟨.int z.length,H,j.tok _,⟨_,J⟩,q⟩
theorem zc1:CallR X (.type "list") (λxs H Q=>∃p ys,xs=[.ref p]/\(SqL X.K H p ys∨SqT X.K H p ys)/\∀l,H l=none->Q (.ref l) (upd H l (.lst ys))):=by
 intro pins s σ H xs us Q G r h;obtain⟨p,ys,rfl,hq,q⟩:=h;obtain⟨u,rfl,W⟩:=vals1 r;cases W;have V:∀(its:List Value),Vals ys its->ys.length<=sizeLine->∀(h':Heap) (j:Nat),(∀b o',s.heap.get? b=some o'->h'.get? b=some o') ->
   h'.get? s.heap.objs.size=some { cls:=.type "list",dict:=none,data:=.seq its.toArray j,slots:=#[] }->EP X pins σ Q (.ref s.heap.objs.size) { s with heap:=h' }:=λits B D h' j F e=>
  ⟨.ref s.heap.objs.size,_,G.laid (t':=s.toks) F (Nat.le_refl _) (show ObjOk X.prog X.w _ h' _ (.lst ys) from ⟨D,its,j,B,e⟩),J,q _ (G.hok.fresh (Nat.le_refl _))⟩
 rcases hq with hq|hq
 .obtain⟨its,B,I,D⟩:=G.list hq;have Y:=B.length;obtain⟨o,J0,O,n,U⟩:=I.isList;exact call_list_seq p (.inl J) J0 O U (λh' j F e=>V its B D h' j F e) (by simp only[List.size_toArray]<;>omega)
 .obtain⟨its,B,I,D⟩:=G.tuple hq;have Y:=B.length;obtain⟨o,J0,O,n,U⟩:=I;exact call_list_seq p (.inr J) J0 O U (λh' j F e=>V its B D h' j F e) (by simp only[List.size_toArray]<;>omega)
theorem zaT:CallR X (.type "tuple") (λxs H Q=>∃p ys,xs=[.ref p]/\((SqL X.K H p ys/\∀l,H l=none->Q (.ref l) (upd H l (.tup ys)))∨(SqT X.K H p ys/\Q (.ref p) H))):=by
 intro pins s σ H xs us Q j r h;obtain⟨p,ys,rfl,h⟩:=h;obtain⟨u,rfl,J0⟩:=vals1 r;cases J0;rcases h with⟨B,q⟩|⟨B,q⟩
 .obtain⟨its,D,F,G⟩:=j.list B;have V:=D.length;refine call_tuple_list F.isList (λh' O=>?_) (by simp only[List.size_toArray]<;>omega);have I:Inv X pins σ H { s with heap:=h' }:=j.kept (t':=s.toks) O;have U:Inv X pins σ (upd H h'.objs.size (.tup ys)) { s with heap:=h'.push { cls:=.type "tuple",data:=.seq its.toArray } }:=
   I.laid (t':=s.toks) (λb o e=>Heap.get?_push_of_some _ e) (Nat.le_refl _) (show ObjOk X.prog X.w _ _ _ (.tup ys) from ⟨G,its,D,IsTup.new _ _⟩)
  exact⟨.ref h'.objs.size,_,U,J,q _ (I.hok.fresh (Nat.le_refl _))⟩
 .obtain⟨its,D,F,G⟩:=j.tuple B;exact call_tuple_same F ⟨.ref p,H,j,J,q⟩
noncomputable def tyV(K:W.Frag)(T:String)(x:V)(H:Hp):Prop:=match x with
 |.str _=>T="str"
 |.int _=>T="int"
 |.ref p=>(T="list"/\∃xs,SqL K H p xs)∨(T="tuple"/\∃o,K.lookup p=some o/\o.cls=.type "tuple"/\o.dict=none) ∨
   (T="dict"/\((∃kvs,H p=some (.dK kvs))∨∃kvs,H p=some (.dT kvs)))∨(T="set"/\∃S n,H p=some (.set S n))
 |_=>False
theorem zjH{pins:List (Addr×Obj)}{σ:St}{H:Hp}{s:Shared}{T:String}{x:V}{v:Value}(B:Inv X pins σ H s)(r:RelV x v)(ty:tyV X.K T x H) :
  s.TypeIs v T/\∀a,v=.ref a->∃ob,s.heap.get? a=some ob/\ob.dict=none:=by
 cases x with
 |str z=>
  obtain⟨t,rfl⟩:=r;cases (show T="str" from ty);exact⟨typeIs_str s z t,λ_ e=>nomatch e⟩
 |int i=>
  obtain⟨t,rfl⟩:=r;cases (show T="int" from ty);exact⟨typeIs_int s i t,λ_ e=>nomatch e⟩
 |ref p=>
  cases r;rcases ty with⟨rfl,xs,I⟩|⟨rfl,o,j,J0,D⟩|⟨rfl,j⟩|⟨rfl,S,n,j⟩
  .obtain⟨its,_,G,_⟩:=B.list I;refine⟨G.isList.typeIs,λa e=>?_⟩;cases e;obtain⟨o,n,e,c,D,_⟩:=G;exact⟨o,e,D⟩
  .refine⟨⟨o,B.kIn p o j,J0⟩,λa e=>?_⟩;cases e;exact⟨o,B.kIn _ o j,D⟩
  .have z:∃o,s.heap.get? p=some o/\o.ExactDict:=by
    rcases j with⟨kvs,j⟩|⟨kvs,j⟩
    .obtain⟨_,_,_,_,o,_,_,e,ex,_⟩:=B.hok p _ j;exact⟨o,e,ex⟩
    .obtain⟨_,_,_,_,o,_,_,e,ex,_⟩:=B.hok p _ j;exact⟨o,e,ex⟩
   obtain⟨o,e,ex⟩:=z;refine⟨⟨o,e,ex.1⟩,λa F=>?_⟩;cases F;exact⟨o,e,ex.2.1⟩
  .obtain⟨o,_,_,_,e,ex,_⟩:=B.hok p _ j;refine⟨⟨o,e,ex.1⟩,λa F=>?_⟩;cases F;exact⟨o,e,ex.2.1⟩
 |_=>exact False.elim ty
noncomputable def tBM0(K:W.Frag)(T:String)(r:V->List V->Hp->VK->Prop)(to:TE):TE:=λσ H Q=>to σ H λx H1=>tyV K T x H1/\r x [] H1 Q
noncomputable def tBM(K:W.Frag)(T:String)(r:V->List V->Hp->VK->Prop)(to:TE)(t:TA):TE:=λσ H Q=>to σ H λx H1=>tyV K T x H1/\t σ H1 λxs H2=>r x xs H2 Q
variable {o e:Expr}{es:List Expr}{to:TE}{t:TA}{name:Str}{apos cpos:Pos}{T id:String}{r:V->List V->Hp->VK->Prop}
theorem zlm(D:PlainAttrs T)(slot:Slot T name id)(F:typeOf (.builtin id)=pure (.type "method_descriptor"))(G:MtR X id r)(I:PE X o to)(J0:attributeBase o name X.env (eval o X.env)=eval o X.env:=by rfl)(O:(apos.endLine==cpos.line)=true:=by rfl):PE X (.Call (.Attribute o name apos) [] [] cpos) (tBM0 X.K T r to):=by
 intro pins s σ H Q U h;refine wpAny_Call_method0_late J0 O (thn (I pins s σ H _ U h) λv V W=>?_);obtain⟨x,H1,j,B,ty,Y⟩:=W;obtain⟨h1,h2⟩:=zjH j B ty;exact⟨T,id,D,slot,F,h1,h2,Calls.callWith_builtin J (PySem.evalArgs_none (G pins V σ H1 x [] v [] Q j B .nil Y))⟩
theorem zcL(G:PlainAttrs T)(slot:Slot T name id)(I:typeOf (.builtin id)=pure (.type "method_descriptor"))(J0:MtR X id r)(O:PE X o to)(U:PA X (e::es) t)(V:attributeBase o name X.env (eval o X.env)=eval o X.env:=by rfl)(W:((backTo cpos (starEach (e::es) X.env)).all (λx=>!x.1)&&(backToKw cpos (keywordEach [] X.env)).all (λx=>x.1.isSome)
   && decide ((e::es).length+([]:List Keyword).length+(if ([]:List Keyword).isEmpty then 0 else 1)<30))=true:=by rfl)(Y:(apos.endLine==cpos.line)=true:=by rfl)(Z:starEach (e::es) X.env=(false,eval e X.env)::starEach es X.env:=by rfl)(aa:(backTo cpos (starEach es X.env)).any (·.1)=false:=by rfl) :
  PE X (.Call (.Attribute o name apos) (e::es) [] cpos) (tBM X.K T r to t):=by
 intro pins s σ H Q ab h;refine wpAny_Call_method_late V W Y rfl (thn (O pins s σ H _ ab h) λv ac j=>?_);obtain⟨x,H1,B,D,ty,ad⟩:=j;obtain⟨h1,h2⟩:=zjH B D ty;refine⟨T,id,G,slot,I,h1,h2,?_⟩;have F:=U cpos pins ac σ H1 _ B ad;rw[Z] at F ⊢;refine Calls.callWith_builtin (by show (false || (backTo cpos (starEach es X.env)).any (·.1))=false;rw[aa]<;>rfl) (Calls.evalArgs_plain ?_);refine thn F λus ae j=>?_;obtain⟨vs,H2,af,ag,ah⟩:=j;exact J0 pins ae σ H2 x vs v us Q af D ag ah
end
noncomputable def MtM(X:Cx)(id:String)(r:V->List V->Hp->VK->Prop):Prop:=
 ∀(pins:List (Addr×Obj)) (s:Shared) (σ:St) (H:Hp) (x:V) (xs:List V) (v:Value) (us:List Value) (Q:VK),Inv X pins σ H s->RelV x v->Vals xs us->r x xs H Q ->
  wpAny (model X.prog X.w) X.A (call (.builtin id) (v::us)) (EP X pins σ Q) X.xe s
theorem Vals.unc{x:V}{xs:List V}{us:List Value}(h:Vals (x::xs) us):∃u r,us=u::r/\RelV x u/\Vals xs r:=by
 cases h with
 |cons r q=>exact⟨_,_,J,r,q⟩
theorem Vals.emp{us:List Value}(h:Vals [] us):us=[]:=by
 cases h;rfl
theorem Vals.one{x:V}{us:List Value}(h:Vals [x] us):∃u,us=[u]/\RelV x u:=by
 obtain⟨u,r,e,h1,h2⟩:=h.unc;exact⟨u,by rw[e,h2.emp],h1⟩
theorem Vals.two{x y:V}{us:List Value}(h:Vals [x,y] us):∃u v,us=[u,v]/\RelV x u/\RelV y v:=by
 obtain⟨u,r,e,h1,h2⟩:=h.unc;obtain⟨v,j,B⟩:=h2.one;exact⟨u,v,by rw[e,j],h1,B⟩
theorem Vals.zero:∀ {us:List Value},Vals [] us->us=[]
 |_,.nil=>rfl
theorem Vals.dropLast{xs:List V}{us:List Value}(h:Vals xs us):Vals xs.dropLast us.dropLast:=by
 induction h with
 |nil=>exact .nil
 |cons r t j=>
  cases t with
  |nil=>exact .nil
  |cons q t'=>exact .cons r j
theorem Vals.reverse{xs:List V}{us:List Value}(h:Vals xs us):Vals xs.reverse us.reverse:=by
 induction h with
 |nil=>exact .nil
 |cons r t j=>rw[List.reverse_cons,List.reverse_cons];exact Vals.append j (.cons r .nil)
theorem zgH{j:Type}(l:List j):l.eraseIdx (l.length-1)=l.dropLast:=by
 induction l with
 |nil=>rfl
 |cons a r B=>
  cases r with
  |nil=>rfl
  |cons b r=>
   have e:(a::b::r).length-1=((b::r).length-1)+1:=by
    have h1:(a::b::r).length=r.length+2:=rfl;have h2:(b::r).length=r.length+1:=rfl;omega
   rw[e,List.eraseIdx_cons_succ,B]
   all_goals rfl
section
variable {X:Cx}{pins:List (Addr×Obj)}{σ:St}{H:Hp}{s:Shared}{l b:Addr}{xs ys zs:List V}
theorem Inv.lset{its its':List Value}{n:Nat}{f:Array Value->Array Value}{t':Nat}(j:Inv X pins σ H s)(B:H l=some (.lst xs))(e:s.heap.get? l=some { cls:=.type "list",data:=.seq its.toArray n })(D:f its.toArray=its'.toArray)(F:Vals ys its')(G:ys.length<=sizeLine) :
  Inv X pins σ (upd H l (.lst ys)) { s with heap:=s.heap.update l (Obj.mapSeq f),toks:=t' }:=by
 have q:=PySem.IsL.update e f;rw[D] at q;refine j.write (x:=l) (e:=l) (by rw[B];exact trivial) (.inl J) (λb' u I J0=>(Heap.get?_update_other s.heap (Obj.mapSeq f) (Ne.symm I)).trans J0) ⟨_,q⟩ ?_;exact⟨G,its',_,F,q⟩
theorem Inv.lnew{its:List Value}{t':Nat}(j:Inv X pins σ H s)(B:Vals ys its)(D:ys.length<=sizeLine) :
  Inv X pins σ (upd H s.heap.objs.size (.lst ys)) { s with heap:=s.heap.push { cls:=.type "list",data:=.seq its.toArray },toks:=t' }:=
 j.laid (λ_ _ q=>Heap.get?_push_of_some _ q) (Nat.le_refl _) ⟨D,its,0,B,Heap.get?_push_size _ J⟩
theorem Inv.fresh(j:Inv X pins σ H s):H s.heap.objs.size=none:=j.hok.fresh (Nat.le_refl _)
theorem Inv.lstM(j:Inv X pins σ H s)(B:H l=some (.lst xs)):xs.length<=sizeLine/\∃(its:List Value) (n:Nat),Vals xs its/\xs.length=its.length/\s.heap.get? l=some { cls:=.type "list",data:=.seq its.toArray n }:=by
 obtain⟨z,its,n,r,e⟩:=j.hok l _ B;exact⟨z,its,n,r,r.length,e⟩
theorem ziG{n:Nat}(h:n<=sizeLine):Builtin.List.listTooLong n=false:=by
 unfold Builtin.List.listTooLong;exact decide_eq_false (by omega)
end
section
variable {X:Cx}
noncomputable def zj8:V->List V->Hp->VK->Prop:=λx vs H Q=>∃l xs y,x=.ref l/\vs=[y]/\H l=some (.lst xs)/\xs.length<sizeLine/\Q .non (upd H l (.lst (xs++[y])))
theorem zaW:MtM X "list.append" zj8:=by
 intro pins s σ H x vs v us Q j D G h;obtain⟨l,xs,y,rfl,rfl,B,J0,q⟩:=h;cases D;obtain⟨u,rfl,I⟩:=G.one;obtain⟨z,its,n,r,O,e⟩:=j.lstM B;refine call_meets F.slot_list_append ⟨_,e,J⟩ F.entry_list_append (F.args_list_append_2 _ _) (PySem.list_append l its.toArray n u (by rw[List.size_toArray];omega)) ⟨e,?_⟩;refine⟨.non,_,j.lset (its':=its++[u]) B e (by simp) (r.append (.cons I .nil)) ?_,J,q⟩;rw[List.length_append,List.length_singleton];omega
noncomputable def zj9:V->List V->Hp->VK->Prop:=λx vs H Q=>∃l b xs zs,x=.ref l/\vs=[.ref b]/\H l=some (.lst xs)/\H b=some (.lst zs)/\xs.length+zs.length<=sizeLine/\Q .non (upd H l (.lst (xs++zs)))
theorem zln:MtM X "list.extend" zj9:=by
 intro pins s σ H x vs v us Q B G I h;obtain⟨l,b,xs,zs,rfl,rfl,D,J0,Z,q⟩:=h;cases G;obtain⟨u,rfl,O⟩:=I.one;cases O;obtain⟨z,its,n,r,aa,e⟩:=B.lstM D;obtain⟨ab,j,U,V,ac,W⟩:=B.lstM J0;have hsz:its.toArray.size+j.toArray.size<=sizeLine:=by rw[List.size_toArray,List.size_toArray];omega
 have Y:¬(!its.toArray.isEmpty&&Builtin.List.listTooLong (its.toArray.size+j.toArray.size))=true:=by
  rw[ziG hsz,Bool.and_false];exact Bool.false_ne_true
 refine call_meets F.slot_list_extend ⟨_,e,J⟩ F.entry_list_extend (F.args_list_extend_2 _ _)
  (AutoSeq1.list_extend_list_list_0 l its.toArray n b j.toArray U Y (by rw[List.size_toArray];omega) (by omega)) ⟨e,W,?_⟩
 refine⟨.non,_,B.lset (its':=its++j) D e (by simp) (r.append V) ?_,J,q⟩;rw[List.length_append];omega
noncomputable def rPop:V->List V->Hp->VK->Prop:=λx vs H Q=>∃l xs y,x=.ref l/\vs=[]/\H l=some (.lst xs)/\xs[xs.length-1]?=some y/\Q y (upd H l (.lst xs.dropLast))
theorem zlo:MtM X "list.pop" rPop:=by
 intro pins s σ H x vs v us Q j D G h;obtain⟨l,xs,y,rfl,rfl,B,I,q⟩:=h;cases D;have J0:=G.zero;subst J0;obtain⟨z,its,n,r,O,e⟩:=j.lstM B;obtain⟨u,U,V⟩:=r.get I;have W:its.toArray[its.toArray.size-1]?=some u:=by
  show its.toArray[its.length-1]?=some u;rw[←Array.getElem?_toList,←O];exact U
 refine call_meets F.slot_list_pop ⟨_,e,J⟩ F.entry_list_pop (F.args_list_pop_1 _) (MeetsSeq.list_pop_last l its.toArray n u W (by rw[List.size_toArray];omega)) ⟨e,?_⟩;refine⟨y,_,j.lset (its':=its.dropLast) B e ?_ r.dropLast ?_,V,q⟩
 .show its.toArray.eraseIdxIfInBounds (its.toArray.size-1)=its.dropLast.toArray;rw[List.size_toArray,List.eraseIdxIfInBounds_toArray,zgH]
 .rw[List.length_dropLast];omega
noncomputable def rCat:R2:=λx y H Q=>∃l b xs zs,x=.ref l/\y=.ref b/\H l=some (.lst xs)/\H b=some (.lst zs)/\xs.length+zs.length<=sizeLine/\∀p,H p=none->Q (.ref p) (upd H p (.lst (xs++zs)))
theorem zfO:OpR X (binaryOp .Add) rCat:=by
 intro pins s σ H x y v u Q j D F h;obtain⟨l,b,xs,zs,rfl,rfl,G,I,U,q⟩:=h;cases D;cases F;obtain⟨z,its,n,r,V,e⟩:=j.lstM G;obtain⟨W,B,Y,J0,Z,O⟩:=j.lstM I;refine PySem.P.add_list e O ?_ (by rw[List.size_toArray,List.size_toArray];omega);have ea:its.toArray++B.toArray=(its++B).toArray:=by simp
 rw[ea];exact⟨.ref _,_,j.lnew (t':=s.toks) (r.append J0) (by rw[List.length_append];omega),J,q _ j.fresh⟩
end
section
variable {prog:Program}{w:World}{A:Around}{E:Value->Shared->Prop}{s:Shared}
end
section
variable {X:Cx}
end
end L2
namespace Att
open PySem PySem.W PySem.Calls PyProof.Rows
theorem zdw{P:Params}{h:Heap}:∀(j:List Int) (vs:List Value),WellAll P h vs (j.map WData.int)->IntsAre vs j:=by
 intro j;induction j with
 |nil=>
  intro vs w;rw[List.map_nil] at w;cases w;exact .nil
 |cons n j B=>
  intro vs w;rw[List.map_cons] at w;cases w with
  |cons a b=>
   cases a;exact .cons _ _ (B _ b)
theorem zhi{l:OpenLaw}{n:Nat}(J0:l.most=some n){P:Params}{h:Heap}{args:List WData}{F:List Value}(G:l.row.toRowW.claim.pre args=true)(O:WellAll P h F args) :
  ∃a vs j,F=[Value.ref a]/\args=[WData.list (j.map WData.int)]/\h.get? a=some { cls:=.type "list",data:=.seq vs.toArray }/\IntsAre vs j/\j.length<=n:=by
 have U:WShape.hasAll [] args [.list .int]=true:=(pre_splitW G).1;have I:l.pre.holds [] { args:=args }=true:=(pre_splitW G).2;obtain⟨d,r,rfl,h1,h2⟩:=hasAllW_cons U;obtain rfl:=hasAllW_nil h2;obtain⟨xs,rfl,V⟩:=hasW_list h1;obtain⟨j,rfl⟩:=items_int V;have W:j.length<=n:=by
  unfold OpenLaw.pre at I;have B:(WTm.not (.lt (.lit (.int (n:Int))) (.len (.arg 0)))).holds [] { args:=[.list (j.map .int)] }=true:=by
   have B:=(holds_andW I).1;rw[J0] at B;exact B
  have D:=condW_of B (w_not (w_lt w_lit (w_len_list (w_arg J))));rw[List.length_map] at D;refine Nat.le_of_not_lt λq=>?_;have Y:(n:Int)<((j.length:Nat):Int):=by omega
  first
   |(rw[decide_eq_true Y] at D;exact absurd D (by decide))
   |(simp at D;omega)
 cases O with
 |cons Z aa=>
  cases aa;cases Z with
  |list ab ac=>exact⟨_,_,j,J,J,ab,zdw j _ ac,W⟩
theorem zhj(l:OpenLaw)(args:List WData):l.row.toRowW.claim.post args (.bool true) args=true:=
 postW_of (r:=l.row.toRowW) (X:=(true==true))
  (show WShape.has [] (.bool true) .bool=true by first|rfl|decide|simp[WShape.has,WShape.arms,WShape.armsAll])
  (show (WTm.eq .res (.lit (.bool true))).value [] { args:=args,res:=some (.bool true),after:=args }=some (.bool (true==true)) from w_eq_bool (w_res J) w_lit) rfl
theorem attach_call{l:OpenLaw}{n:Nat}{q:Program}{G:List Str}{XP:(Str->Option Value)->Heap->Prop}{I:World->Heap->Prop}{d:DefRec}(O:l.most=some n)(U:d.params.defaults=[])(call:∀(w:World) (s₀ j:Shared) (mg F:Str->Option Value) (B:Addr) (o:Obj) (pm cd doc:Value) (a:Addr) (vs:List Value) (D:List Int),
   Ground q G [] XP w s₀ mg F j.heap->I w j.heap ->
   j.heap.get? B=some o->o.data=.func (docDef d.name d.params d.body d.scope pm cd doc)->j.heap.CodeRec cd d.name->mg d.name=some (.ref B) ->
   j.heap.get? a=some { cls:=.type "list",data:=.seq vs.toArray }->IntsAre vs D->D.length<=n->j.gens=#[] ->
   codeAny (model l.prog w) callerA (.call (.ref B) ⟨[.ref a],[]⟩) (λr s'=>r=.ok (.ret (.bool true))/\OldK j.heap s'.heap/\s'.os=j.os/\AllBare s'.gens) j) :
  WalkO q G XP I l.row.toRowW d [] (λf vs=>PySem.call f vs):=by
 intro w s₀ j mg F V W B o pm cd doc Y kV Z aa ab J0 ac ad args ao ap ae aq ar af as;obtain rfl:Y=.none:=Dflts.none J0 U;obtain rfl:kV=.none:=Dflts.noKw J0;obtain⟨a,vs,D,rfl,rfl,ag,ah,ai⟩:=zhi O ae af;refine enter_call (codeAny_mono (call w s₀ j mg F B o pm cd doc a vs D V W Z (fd_plain aa) ab ac ag ah ai ad) λr s' aj=>?_);obtain⟨rfl,h2,ak,al⟩:=aj;exact⟨.inl ⟨.bool true,.bool true,[],J,λ_=>rfl,.bool true,zhj l _,λ_=>⟨List.Pairwise.nil,λ_ am=>(nomatch am)⟩⟩,h2,ak,al⟩
section
variable {prog:Program}{w:World}{A:Around}{E:Value->Shared->Prop}{s:Shared}{K:Frag}
noncomputable def noObjs(h:Heap):Heap:={ h with objs:=#[] }
theorem noObjs_get(h:Heap)(b:Addr):(noObjs h).get? b=none:=by
 cases e:(noObjs h).get? b with
 |none=>rfl
 |some o=>exact absurd (Heap.lt_size e) (Nat.not_lt_zero _)
noncomputable def ledger(h:Heap)(L d:Addr):List (Addr×Obj):=(List.range h.objs.size).filterMap λa=>if a=L∨a=d then none else (h.get? a).map λo=>(a,o)
theorem mem_ledger{h:Heap}{L d a:Addr}{o:Obj}:(a,o)∈ledger h L d↔a≠L/\a≠d/\h.get? a=some o:=by
 unfold ledger;rw[List.mem_filterMap];constructor
 .rintro⟨b,_,e⟩;split at e
  .cases e
  .rename_i B;obtain⟨o',j,D⟩:=Option.map_eq_some_iff.mp e;cases D;exact⟨λq=>B (.inl q),λq=>B (.inr q),j⟩
 .rintro⟨F,G,j⟩;refine⟨a,List.mem_range.mpr (Heap.lt_size j),?_⟩;rw[if_neg (show ¬(a=L∨a=d) from λq=>q.elim F G),j]<;>rfl
theorem fr_all{h:Heap}{L:Addr}{m:Str->Option Value}(n:h.Ns L m):Fr (noObjs h) L h m:=
 ⟨n,λb o e=>(by rw[noObjs_get] at e;cases e),Nat.zero_le _⟩
end
end Att
namespace L2
open PySem PySem.Spec PyProof.Rows
theorem zeN:∀ {vs:List Value}{j:List Int},IntsAre vs j->Vals (j.map V.int) vs
 |_,_,.nil=>.nil
 |_,_,.cons n t h=>.cons ⟨t,J⟩ (zeN h)
noncomputable def zbX(s:Stmt):Arguments:=match s with
 |.FunctionDef _ a _ _ _ _ _ _ _ _=>a
 |_=>{ posonlyargs:=[],args:=[],vararg:=none,kwonlyargs:=[],kw_defaults:=[],kwarg:=none,defaults:=[] }
noncomputable def zbn(s:Stmt):List Stmt:=match s with
 |.FunctionDef _ _ b _ _ _ _ _ _ _=>b
 |_=>[]
noncomputable def zah(s:Stmt):Scope:=match s with
 |.FunctionDef _ _ _ _ _ _ sc _ _ _=>sc
 |_=>{ kind:=.function,names:=[],isGenerator:=false,isCoroutine:=false }
noncomputable abbrev CX0:CXT:=λ_ _ _ _ _ _=>False
noncomputable abbrev E0:XK:=λ_ _ _=>False
theorem pass0{X:Cx}:zfK CX0 X E0:=λ_ _ _ _ _ _ _ h=>h.elim
structure Fun(K:W.Frag)(x qual:Str)(st:Stmt)(f:Addr)(fd:FuncData):Prop where
 ex:∃(oc:Value) (od:Option Addr) (kV doc pm:Value) (an:Option Addr) (cdv ct:Value) (osl:Array (Option Value)),
  fd=W.fnOf x qual (zbX st) (zbn st) (zah st) .none kV doc pm an cdv ct/\K.lookup f=some ⟨oc,od,.func fd,osl⟩/\W.codeIn K cdv qual=true
 kp:W.keepIn K (.ref f)=true
section
variable {P:Program}{w:World}{K:W.Frag}{mg:Str->Option Value}{base:Heap}
theorem Fun.ok{x qual:Str}{st:Stmt}{f:Addr}{fd:FuncData}{N ps:List Str}{k:Nat}{sp:Sp}(F:Fun K x qual st f fd)(S:zau N ps (zah st))(len:∀vs H Q E,sp vs H Q E->vs.length=ps.length)(j:∀(cdv:Value) (A:Around) (outer:List Env) (s:Shared) (H:Hp) (vs:List V) (Q:VK) (E:XK),Room k (A.deeper (envOfC qual (zah st) s.heap.objs.size f cdv))->sp vs H Q E ->
   ∃t,PSs (cxOf CX0 P w K mg base N qual (zah st) f cdv A outer s H E).nox (zbn st) t/\t { nx:=λ_ H'=>Q .non H',rt:=Q } (start N vs) H):FnOk P w K mg base CX0 (k+1) f fd ps sp:=by
 obtain⟨oc,od,kV,doc,pm,an,cdv,ct,osl,rfl,B,D⟩:=F.ex;refine zj5 B D S len λA outer s H vs Q E G I=>?_;obtain⟨t,h,q⟩:=j cdv A outer s H vs Q E G I;exact⟨t,h.nox,q⟩
theorem Fun.binds{x qual:Str}{st:Stmt}{f:Addr}{fd:FuncData}{ps:List Str}(F:Fun K x qual st f fd)(h:∀(kV doc pm:Value) (an:Option Addr) (cdv ct:Value) (us:List Value),us.length=ps.length->bindArgs (W.fnOf x qual (zbX st) (zbn st) (zah st) .none kV doc pm an cdv ct) ⟨us,[]⟩=pure (ps.zip us)):Binds K fd ps []:=by
 obtain⟨oc,od,kV,doc,pm,an,cdv,ct,osl,rfl,j,B⟩:=F.ex;exact .all (h kV doc pm an cdv ct)
theorem zjI{x qual:Str}{st:Stmt}{f:Addr}{oc:Value}{od an:Option Addr}{osl:Array (Option Value)}{kV doc pm cdv ct:Value}(l:K.lookup f=some ⟨oc,od,.func (W.fnOf x qual (zbX st) (zbn st) (zah st) .none kV doc pm an cdv ct),osl⟩)(c:W.codeIn K cdv qual=true)(k:W.keepIn K (.ref f)=true):Fun K x qual st f (W.fnOf x qual (zbX st) (zbn st) (zah st) .none kV doc pm an cdv ct):=⟨⟨oc,od,kV,doc,pm,an,cdv,ct,osl,J,l,c⟩,k⟩
end
section
variable {X:Cx}
theorem pv(i:Nat){x:Str}{pos:Pos}(j:X.N[i]?=some x:=by rfl)(B:Vis X.env.scope x:=by first|exact Or.inl rfl|exact Or.inr (Or.inl J)|exact Or.inr (Or.inr J))(D:(x==("__debug__":Str))=false:=by decide)(F:(x==("__classdict__":Str))=false:=by decide):PE X (.Name x pos) (tVar i):=zle j B D F
end
theorem iteF{A j:Prop}(h:j):if false=true then A else j:=by
 rw[if_neg Bool.false_ne_true];exact h
theorem iteT{A j:Prop}(h:A):if true=true then A else j:=by
 rw[if_pos rfl];exact h
theorem ite2{c A j:Prop} [Decidable c] (h1:c->A) (h2:¬c->j):if c then A else j:=by
 by_cases h:c
 .rw[if_pos h];exact h1 h
 .rw[if_neg h];exact h2 h
noncomputable def Same(H H':Hp):Prop:=∀b o,H b=some o->H' b=some o
theorem Same.refl(H:Hp):Same H H:=λ_ _ h=>h
theorem Same.trans{H H1 H2:Hp}(a:Same H H1)(b:Same H1 H2):Same H H2:=λc o h=>b c o (a c o h)
theorem Same.free{H H':Hp}(e:Same H H'){l:Addr}(h:H' l=Option.none):H l=Option.none:=by
 cases q:H l with
 |none=>rfl
 |some o=>
  rw[e l o q] at h;cases h
theorem zcM(env:Env):∀(names:List (Str×NameKind)) (j:List (Str×Addr)),(∀x∈names,x.2=.free->∃c,env.cells.lookup x.1=some c) ->
  (∀x c,j.lookup x=some c->env.cells.lookup x=some c) ->
  ∃cl:List (Str×Addr),(forIn names j (λ(x:Str×NameKind) r=>(if (x.2==.free)=true then cellOf env x.1 >>= λa=>pure (ForInStep.yield ((x.1,a)::r)) else pure (ForInStep.yield r):Sem (ForInStep (List (Str×Addr))))))=pure cl /\
   (∀x c,cl.lookup x=some c->env.cells.lookup x=some c)/\(∀x c,j.lookup x=some c->∃d,cl.lookup x=some d)/\(∀x∈names,x.2=.free->∃c,cl.lookup x.1=some c)
 |[],j,_,h2=>⟨j,J,h2,λx c e=>⟨c,e⟩,λx hx=>by simp at hx⟩
 |(n,k)::r,j,h1,h2=>by
  rw[List.forIn_cons];by_cases G:k=.free
  .subst G;obtain⟨c,I⟩:=h1 (n,.free) List.mem_cons_self rfl;obtain⟨cl,e,J0,B,O⟩:=zcM env r ((n,c)::j) (λx hx=>h1 x (List.mem_cons_of_mem _ hx)) (λx d e=>by
    rw[List.lookup_cons] at e;cases D:x==n with
    |true=>
     rw[D] at e;have U:x=n:=by simpa using D
     cases e;rw[U];exact I
    |false=>rw[D] at e;exact h2 x d e)
   have V:cellOf env n=pure c:=by unfold cellOf;simp only at I;rw[I]
   refine⟨cl,?_,J0,λx d e=>?_,λx hx F=>?_⟩
   .simp only[beq_self_eq_true,if_true,V,pure_bind];exact e
   .by_cases hx:x=n
    .subst hx;exact B x c (by simp[List.lookup_cons])
    .exact B x d (by rw[List.lookup_cons];have:(x==n)=false:=(by simpa using hx);rw[this];exact e)
   .rcases List.mem_cons.mp hx with rfl|hx
    .exact B n c (by simp[List.lookup_cons])
    .exact O x hx F
  .obtain⟨cl,e,J0,B,O⟩:=zcM env r j (λx hx=>h1 x (List.mem_cons_of_mem _ hx)) h2;have D:(k==NameKind.free)=false:=by simpa using G
   refine⟨cl,?_,J0,B,λx hx F=>?_⟩
   .simp only[D,Bool.false_eq_true,if_false,pure_bind];exact e
   .rcases List.mem_cons.mp hx with rfl|hx
    .exact absurd F G
    .exact O x hx F
theorem zdZ(env:Env)(sc:Scope)(h1:∀x∈sc.names,x.2=.free->∃c,env.cells.lookup x.1=some c) :
  ∃cl:List (Str×Addr),closureFor sc env=pure cl/\(∀x c,cl.lookup x=some c->env.cells.lookup x=some c)/\(∀x∈sc.names,x.2=.free->∃c,cl.lookup x.1=some c):=by
 obtain⟨cl,e,j,_,B⟩:=zcM env sc.names [] h1 (λx c e=>by simp at e);refine⟨cl,?_,j,B⟩;unfold closureFor;simp only[bind_pure];exact e
noncomputable def Cx.blk(X:Cx)(sc:Scope)(cl:List (Str×Addr))(N':List Str)(j:Shared)(B:Hp)(ex:List Addr):Cx:=
 { X with N:=N',s₀:=j,H₀:=B,env:=compEnvC sc cl j.heap.objs.size X.env,outer:=X.stack,stack:=X.stack,ex:=ex,fn:=λ_=>false,pn:=[],xe:=λ_ _=>False }
structure BlkOk(X:Cx)(sc:Scope):Prop where
 kind:sc.kind=.function
 names:∀x∈sc.names,x.2=.local->sc.names.lookup x.1=some .local
 nocell:∀x∈sc.names,x.2≠.cell
 free:∀x∈sc.names,x.2=.free->X.env.kindOf x.1=some .cell
theorem zbc{names:List (Str×NameKind)}{x:Str}{k:NameKind}(h:names.lookup x=some k):(x,k)∈names:=PySem.mem_of_lookup h
theorem zaU{env:Env}:∀ {names:List (Str×NameKind)}{x:Str}{k:NameKind},
  (names.map λ(n,k)=>if (k==NameKind.free&&env.scope.kind==.function&&env.kindOf n==some .cell) then (n,NameKind.cell) else (n,k)).lookup x=some k ->
  names.lookup x=some k∨(k=.cell/\names.lookup x=some .free)
 |[],_,_,h=>by simp at h
 |(n,k0)::r,x,k,h=>by
  have B:=@zaU env r x k;change List.lookup x ((if (k0==NameKind.free&&env.scope.kind==.function&&env.kindOf n==some .cell)=true then (n,NameKind.cell) else (n,k0))::_)=_ at h;cases hx:x==n with
  |true=>
   by_cases j:(k0==NameKind.free&&env.scope.kind==.function&&env.kindOf n==some .cell)=true
   .rw[if_pos j] at h;simp only[List.lookup_cons,hx] at h;have D:k0=.free:=by simp only[Bool.and_eq_true,beq_iff_eq] at j;exact j.1.1
    cases h;exact .inr ⟨J,by simp only[List.lookup_cons,hx,D]⟩
   .rw[if_neg j] at h;simp only[List.lookup_cons,hx] at h;cases h;exact .inl (by simp only[List.lookup_cons,hx])
  |false=>
   have h':List.lookup x (r.map λ(n,k)=>if (k==NameKind.free&&env.scope.kind==.function&&env.kindOf n==some .cell) then (n,NameKind.cell) else (n,k))=some k:=by
    by_cases j:(k0==NameKind.free&&env.scope.kind==.function&&env.kindOf n==some .cell)=true
    .rw[if_pos j] at h;simp only[List.lookup_cons,hx] at h;exact h
    .rw[if_neg j] at h;simp only[List.lookup_cons,hx] at h;exact h
   simp only[List.lookup_cons,hx];exact B h'
section
variable {X:Cx}{pins:List (Addr×Obj)}{σ σ':St}{H:Hp}{s:Shared}{sc:Scope}{cl:List (Str×Addr)}{N':List Str}{fp:List Addr}
theorem zhk(B:Inv X pins σ H s)(U:BlkOk X sc)(D:∀x c,cl.lookup x=some c->X.env.cells.lookup x=some c)(Z:∀x∈sc.names,x.2=.free->∃c,cl.lookup x.1=some c)(G:∀b∈fp,FpOk X pins H b/\b<s.heap.objs.size)(ac:σ'.length=N'.length)(ad:∀(i:Nat) (x:Str) (v:V),N'[i]?=some x->σ'[i]?=some (some v)->Vis (relabel sc X.env) x->∃j:Nat,X.N[j]?=some x/\σ[j]?=some (some v)/\Vis X.env.scope x/\sc.names.lookup x=some .free){h':Heap}{tk:Nat}(ae:h'.Ns s.heap.objs.size (λ_=>none))(af:Heap.SameBut s.heap.objs.size (s.heap.push { cls:=.type "dict",data:=.dict #[] }) h') :
  Inv (X.blk sc cl N' s H fp) [] σ' H { s with heap:=h',toks:=tk }:=by
 have O:∀b u,s.heap.get? b=some u->h'.get? b=some u:=λb u e=>(af.2 b (Nat.ne_of_lt (Heap.lt_size e))).trans (Heap.get?_push_of_some _ e);have ay:∀x c,cl.lookup x=some c->c<s.heap.objs.size:=λx c e=>by
  obtain⟨v,q⟩:=B.cell x c (D x c e);exact q.lt
 have ag:∀x c,cl.lookup x=some c->∃v,h'.IsCell c v:=λx c e=>by
  obtain⟨v,o,I,J0⟩:=B.cell x c (D x c e);exact⟨v,o,O _ _ I,J0⟩
 refine⟨⟨B.ok.mod,U.kind,B.ok.glob,B.ok.blt,Nat.le_refl _,λx y c I J0=>B.ok.inj x y c (D x c I) (D y c J0),λx ah=>?_,λx c z=>(by cases z),B.ok.hd,B.ok.frames,.inl J,λb F=>⟨Nat.ne_of_lt (G b F).2,λx c e=>(G b F).1.2.2.2.2.1 x c (D x c e)⟩,
  B.bs,?_,λb o e F=>?_,λb F ai=>?_,B.stack,B.stkFree⟩,J,B.bare,Un.kept O,⟨_,ae,λi x v I J0 aa=>?_⟩,ag,B.hok.fresh (Nat.le_refl _),λx c e=>B.freeC x c (D x c e),λp aj=>absurd (show p∈([]:List (Addr×Obj)) from aj) (by simp),B.hok.kept O,ac⟩
 .have ak:(relabel sc X.env).names.lookup x=some .cell∨(relabel sc X.env).names.lookup x=some .free:=ah;have:sc.names.lookup x=some .free:=by
   rcases ak with h|h
   .rcases zaU h with h|⟨_,h⟩
    .exact absurd rfl (U.nocell _ (zbc h))
    .exact h
   .rcases zaU h with h|⟨W,h⟩
    .exact h
    .cases W
  exact Z (x,.free) (zbc this) rfl
 .exact Nat.le_trans B.ok.bsz B.sz
 .have:=(G b F).1.2.2.2.1;rcases this with z|z
  .exact B.ok.noex b o e z
  .exact absurd (Nat.lt_of_lt_of_le (Heap.lt_size e) (Nat.le_trans B.ok.bsz z)) (Nat.lt_irrefl _)
 .have:=B.stkSub b ai;rcases List.mem_cons.mp this with z|z
  .exact(G b F).1.2.1 z
  .exact(G b F).1.2.2.1 z
 .obtain⟨j,al,am,ao,Y⟩:=ad i x v I J0 aa;obtain⟨m,az,ap⟩:=B.loc;obtain⟨u,r,l⟩:=ap j x v al am ao;refine⟨u,r,?_⟩;have aq:=U.free (x,.free) (zbc Y) rfl;have ar:X.env.kindOf x=some .cell:=aq;rcases l with⟨k1,_⟩|⟨_,c,as,au⟩
  .rw[ar] at k1;cases k1
  .obtain⟨d,av⟩:=Z (x,.free) (zbc Y) rfl;have ab:cl.lookup x=some d:=av;have:=D x d ab;rw[as] at this;cases this;refine .inr ⟨?_,c,ab,?_⟩
   .rcases aa with z|z|z
    .rcases zaU z with h|⟨W,h⟩
     .rw[Y] at h;cases h
     .cases W
    .exact .inl z
    .exact .inr z
   .obtain⟨o,aw,ax⟩:=au;exact⟨o,O _ _ aw,ax⟩
theorem zka{H':Hp}{U:St}{V:List (Addr×Obj)}{s':Shared}{G:Heap}(W:Inv X pins σ H s)(Y:∀b∈fp,FpOk X pins H b/\b<s.heap.objs.size)(J0:Inv (X.blk sc cl N' s H fp) V U H' s')(F:Heap.SameBut s.heap.objs.size s'.heap G):Inv X pins σ H' { s' with heap:=G }:=by
 have I:∀b o,s.heap.get? b=some o->b≠s.heap.objs.size:=λb o e=>Nat.ne_of_lt (Heap.lt_size e);have O:H' s.heap.objs.size=none:=J0.free;have j:Un (frs X.stack) fp H H' s.heap s'.heap:=J0.base;refine W.call' (ch:=fp) (s':={ s' with heap:=G }) J0.os ⟨λb o e n B D=>?_,λb o e n B D=>?_,j.free,λb o e D=>?_,j.tups,j.frzs,j.tbls⟩ (λb o e=>?_) J0.bare λb B=>?_
 .exact(F.2 b (I b o e)).trans (j.keep b o e n B D)
 .obtain⟨Z,q⟩:=j.slot b o e n B D;exact⟨Z,(F.2 b (I b o e)).trans q⟩
 .obtain⟨o',q⟩:=j.there b o e D;exact⟨o',(F.2 b (I b o e)).trans q⟩
 .refine(J0.hok b o e).stay (λc ae hc q=>(F.2 c ?_).trans q) (λ_ q=>q) λ_ _ q=>q;rintro rfl;rcases hc with rfl|hc
  .rw[O] at e;cases e
  .rw[O] at hc;cases hc
 .obtain⟨af,aa,ag,ab,ac,ad⟩:=(Y b B).1;exact⟨ab,aa,ac,ad⟩
end
noncomputable abbrev TR:=St->Hp->(St->Hp->Prop)->Prop
noncomputable def PR(X:Cx)(rest:Sem Unit)(t:TR):Prop:=
 ∀(pins:List (Addr×Obj)) (s:Shared) (σ:St) (H:Hp) (N:St->Hp->Prop),Inv X pins σ H s->t σ H N->wpAny (model X.prog X.w) X.A rest (λ_ s'=>∃σ' H',Inv X pins σ' H' s'/\N σ' H') X.xe s
noncomputable def PTs(X:Cx)(ifs:List Expr)(t:TT):Prop:=
 ∀(pins:List (Addr×Obj)) (s:Shared) (σ:St) (H:Hp) (Q:Bool->Hp->Prop),Inv X pins σ H s->t σ H Q ->
  wpAny (model X.prog X.w) X.A (forIn ifs true λc r=>if r=true then do let ok ← isTrue c X.env (eval c X.env);pure (ForInStep.yield ok) else pure (ForInStep.yield r)) (TP X pins σ Q) X.xe s
noncomputable def tYes:TT:=λ_ H Q=>Q true H
theorem zbo{X:Cx}:PTs X [] tYes:=λ_ _ _ H _ j h=>wpAny_tests_nil ⟨H,j,h⟩
theorem zeh{X:Cx}{c:Expr}{t:TT}(h:PT X c t):PTs X [c] t:=λpins s σ H Q j q=>wpAny_tests_one (h pins s σ H Q j q)
noncomputable def tLoop(J0:It)(g:TG)(tt:TT)(F:TR)(Qe:St->Hp->Prop)(σ:St)(H:Hp):Prop:=∃W:Nat->Nat->St->Hp->Prop,(∃m,W 0 m σ H)/\∀i m σ H,W i m σ H ->
 (J0.stop i H/\Qe σ H)∨(J0.go i H/\∃N:St->Hp->Prop,(∀σ' H',N σ' H'->∃B,B<m/\W (i+1) B σ' H')/\∀x H',J0.yld i H x H'->g x σ H' λj H2=>tt j H2 λb D=>if b=true then F j D N else N j D)
theorem zhl{X:Cx}(ap:X.xe=λ_ _=>False)(ae:X.calm=true){e:Expr}{d:Nat}{tg iter:Expr}{ifs:List Expr}{B:Value}{rest:Sem Unit}{g:TG}{tt:TT}{af:TR}{J0:It}{fp:List Addr}{it:Addr}{tn:Nat->Heap->Prop}(aq:compTurn e d (.ref it) B X.env=(do
   standAt iter.pos
   match ← pyNext (.ref it) with
   |none=>pure (.done .next)
   |some v=>
    letOwnedTupleGo tg (.ref it) v
    assign tg X.env v
    let mut ok:=true
    for c in ifs do
     if ok then ok ← isTrue c X.env (eval c X.env)
    if ok then rest
    again (.compLoop e d (.ref it) B X.env)))(ar:(Code.compLoop e d (.ref it) B X.env).quiet=true)(as:X.A.under (.compLoop e d (.ref it) B X.env)=X.A)(au:(model X.prog X.w).den (.compLoop e d (.ref it) B X.env)=(compTurn e d (.ref it) B X.env).onRaise (λx=>do noteFrame x X.env;theTreesLotGoes x))(av:PG X tg g)(aw:PTs X ifs tt)(ax:PR X rest af)(T:Turn X.prog X.w X.K tg J0 fp it tn){pins:List (Addr×Obj)}{σ:St}{H:Hp}{s:Shared}{Qe:St->Hp->Prop}{R:Result->Shared->Prop}(ay:Inv X pins σ H s)(st:tn 0 s.heap)(ag:∀b∈fp,FpOk X pins H b)(h:tLoop J0 g tt af Qe σ H)(az:∀s' σ' H',Inv X pins σ' H' s'->Qe σ' H'->R (.ok .next) s') :
  codeAny (model X.prog X.w) X.A (.compLoop e d (.ref it) B X.env) R s:=by
 obtain⟨W,⟨aA,aB⟩,turn⟩:=h;have Z:∀ {H':Hp},(∀b∈fp,H' b=none)->∀b∈fp,FpOk X pins H' b:=λaC b j=>⟨aC b j,(ag b j).2⟩;have G:∀ {aa:Type} {t:Sem aa} {Q:aa->Shared->Prop} {s:Shared} {E:Value->Shared->Prop},wpAny (model X.prog X.w) X.A t Q X.xe s->wpAny (model X.prog X.w) X.A t Q E s:=λ{aa t Q s E} h=>
  wpAny_mono h (λ_ _ x=>x) λ_ _ x=>by rw[ap] at x;exact x.elim
 refine codeAny_loop ar (λn s'=>∃i σ' H',Inv X pins σ' H' s'/\tn i s'.heap/\(∀b∈fp,H' b=none)/\W i n σ' H') (λn ah aD=>?_) aA ⟨0,σ,H,ay,st,λb j=>(ag b j).1,aB⟩;rw[as,au];refine wpAny_noted ?_;rw[aq];obtain⟨i,V,ab,ai,aj,ak,aE⟩:=aD;refine wpAny_bind (wpAny_standAt (wpAny_bind ?_));rcases turn i n V ab aE with⟨stop,aF⟩|⟨go,N,aG,step⟩
 .refine G (thn (T.done X J J J ae i pins ah V ab X.xe ai (Z ak) aj stop) λr aH ⟨ac,aI⟩=>?_);subst ac;exact wpAny_pure (az _ _ _ aI aF)
 .refine G (thn (T.item X J J J ae i pins ah V ab X.xe ai (Z ak) aj go) λr aH ⟨u,ac,aJ⟩=>?_);subst ac;refine wpAny_bind (G (thn aJ λ_ al D=>?_));obtain⟨x,am,aK,aL,aM,ad,aN⟩:=D;have aO:=aK.pinned (Z aN) (T.obj _ _ ad);refine wpAny_bind (G (thn (av _ al V am x u _ aO aL (step x am aM)) λ_ aP D=>?_));obtain⟨ao,aQ,aR,aS⟩:=D;have again:∀ {U:St} {F:Hp} {I:Shared},Inv X (pins++zeE fp al.heap) U F I->N U F->∃m,m<n/\∃i σ' H',Inv X pins σ' H' I/\tn i I.heap/\(∀b∈fp,H' b=none)/\W i m σ' H':=λ{U F I} O aT=>by
   obtain⟨aU,aV,aW⟩:=aG U F aT;refine⟨aU,aV,i+1,U,F,O.unpinned,T.keep _ _ _ ad λb j o e=>(O.pin (b,o) (List.mem_append_right _ (List.mem_append_right _ (zb7 j e)))).1,λb j=>?_,aW⟩;obtain⟨o,e,dd⟩:=T.obj _ _ ad b j;exact(O.pin (b,o) (List.mem_append_right _ (List.mem_append_right _ (zb7 j e)))).2.1
  refine wpAny_bind (G (thn (aw _ aP ao aQ _ aR aS) λok I D=>?_));obtain⟨F,O,Y⟩:=D;cases ok with
  |false=>
   rw[if_neg (by simp)] at Y;exact wpAny_pure ⟨J,again O Y⟩
  |true=>
   rw[if_pos rfl] at Y;refine wpAny_bind (G (thn (ax _ I ao F _ O Y) λ_ aZ D=>?_));obtain⟨a1,a2,aX,aY⟩:=D;exact wpAny_pure ⟨J,again aX aY⟩
noncomputable def tApp(p:Addr)(te:TE):TR:=λσ H N=>te σ H λv j=>∃ys,j p=some (.lst ys)/\ys.length<sizeLine/\N σ (upd j p (.lst (ys++[v])))
theorem zlp{X:Cx}{elt:Expr}{te:TE}{p:Addr}(B:PE X elt te):PR X (do let _ ← call (.builtin "list.append") [.ref p,←eval elt X.env]) (tApp p te):=by
 intro pins s σ H N D h;refine wpAny_bind (thn (B pins s σ H _ D h) λu F j=>?_);obtain⟨v,H1,G,I,ys,J0,O,U⟩:=j;refine wpAny_bind (thn (zaW pins F σ H1 (.ref p) [v] _ [u] (λ_ H2=>N σ H2) G J (.cons I .nil) ⟨p,ys,v,J,J,J0,O,U⟩) λ_ Y j=>?_);obtain⟨_,H2,V,_,W⟩:=j;exact wpAny_pure ⟨σ,H2,V,W⟩
noncomputable def capSt(σ:St):List (Option Nat)->St
 |[]=>[]
 |none::js=>none::capSt σ js
 |some j::js=>(σ[j]?).join::capSt σ js
noncomputable def CapsOk(X:Cx)(sc:Scope):List Str->List (Option Nat)->Prop
 |[],[]=>True
 |_::xs,none::js=>CapsOk X sc xs js
 |x::xs,some j::js=>X.N[j]?=some x/\Vis X.env.scope x/\sc.names.lookup x=some .free/\CapsOk X sc xs js
 |_,_=>False
theorem CapsOk.len{X:Cx}{sc:Scope}{σ:St}:∀ {N':List Str}{js:List (Option Nat)},CapsOk X sc N' js->(capSt σ js).length=N'.length
 |[],[],_=>rfl
 |_::xs,none::js,h=>by simp only[capSt,List.length_cons];rw[CapsOk.len (N':=xs) (js:=js) h]
 |x::xs,some j::js,h=>by simp only[capSt,List.length_cons];rw[CapsOk.len (N':=xs) (js:=js) h.2.2.2]
 |[],_::_,h=>by cases h
 |_::_,[],h=>by cases h
theorem CapsOk.get{X:Cx}{sc:Scope}{σ:St}:∀ {N':List Str}{js:List (Option Nat)}{i:Nat}{x:Str}{v:V},CapsOk X sc N' js->N'[i]?=some x->(capSt σ js)[i]?=some (some v) ->
  ∃j:Nat,X.N[j]?=some x/\σ[j]?=some (some v)/\Vis X.env.scope x/\sc.names.lookup x=some .free
 |[],[],i,x,v,_,h1,_=>by simp at h1
 |y::xs,none::js,0,x,v,h,h1,h2=>by simp[capSt] at h2
 |y::xs,none::js,i+1,x,v,h,h1,h2=>CapsOk.get (N':=xs) (js:=js) (i:=i) h (by simpa using h1) (by simpa [capSt] using h2)
 |y::xs,some j::js,0,x,v,h,h1,h2=>by
  have D:y=x:=by simpa using h1
  subst D;refine⟨j,h.1,?_,h.2.1,h.2.2.1⟩;have B:(σ[j]?).join=some v:=by simpa [capSt] using h2
  cases q:σ[j]? with
  |none=>rw[q] at B;cases B
  |some o=>rw[q] at B;exact congrArg some B
 |y::xs,some j::js,i+1,x,v,h,h1,h2=>CapsOk.get (N':=xs) (js:=js) (i:=i) h.2.2.2 (by simpa using h1) (by simpa [capSt] using h2)
 |[],_::_,_,_,_,h,_,_=>by cases h
 |_::_,[],_,_,_,h,_,_=>by cases h
noncomputable def tComp(js:List (Option Nat))(wi:TI)(g:TG)(tt:TT)(te:TE):TE:=λσ H Q=>wi σ H λJ0 H1=>∀p,H1 p=none->tLoop J0 g tt (tApp p te) (λ_ H'=>Q (.ref p) H') (capSt σ js) (upd H1 p (.lst []))
section
variable {X:Cx}{elt tg iter:Expr}{ifs:List Expr}{sc:Scope}{pos:Pos}{N':List Str}{js:List (Option Nat)}{wi:TI}{g:TG}{tt:TT}{te:TE}
theorem zdx(af:X.calm=true)(O:BlkOk X sc)(C:CapsOk X sc N' js){cl:List (Str×Addr)}(Y:∀x c,cl.lookup x=some c->X.env.cells.lookup x=some c)(ag:∀x∈sc.names,x.2=.free->∃c,cl.lookup x.1=some c)(ah:∀cl s H fp,PG (X.blk sc cl N' s H fp) tg g)(ai:∀cl s H fp,PTs (X.blk sc cl N' s H fp) ifs tt)(aj:∀cl s H fp,PE (X.blk sc cl N' s H fp) elt te){pins:List (Addr×Obj)}{σ:St}{H:Hp}{s:Shared}{Qe:Addr->Hp->Prop}{it:Addr}{fp:List Addr}{tn:Nat->Heap->Prop}{J0:It}{RR:Value->Addr->Result->Shared->Prop}(Z:Inv X pins σ H s)(T:Turn X.prog X.w X.K tg J0 fp it tn)(st:tn 0 s.heap)(ak:∀b∈fp,FpOk X pins H b)(h:∀p,H p=none->tLoop J0 g tt (tApp p te) (λ_ H'=>Qe p H') (capSt σ js) (upd H p (.lst [])))(al:∀p C s' H',C≠p->(∀b o,s.heap.get? b=some o->b≠C)->H' C=none->(∃m,s'.heap.Ns C m)->Qe p H'->(∀D,Heap.SameBut C s'.heap D->Inv X pins σ H' { s' with heap:=D })->FpOk X pins H' C->RR (.ref p) C (.ok .next) s') :
  wpAny (model X.prog X.w) X.A (newList []) (λaa am=>wpAny (model X.prog X.w) X.A (newFunctionEnv sc X.env.globals cl [] X.env.qual none .none (some X.env)) (λab ao=>
   codeAny (model X.prog X.w) X.A (.compStart (.ListComp elt [⟨tg,iter,ifs,0⟩] sc pos) 0 (.ref it) aa { ab with scope:=relabel sc X.env }) (RR aa ab.locals) ao) X.xe am) X.xe s:=by
 refine wpAny_newObj_type ?_;have F:=Z.lnew (ys:=[]) (its:=[]) (t':=s.toks) .nil (by simp);generalize U:({ s with heap:=s.heap.push { cls:=.type "list",data:=.seq ([]:List Value).toArray },toks:=s.toks }:Shared)=j at F;have V:H s.heap.objs.size=none:=Z.fresh;have ap:=h _ V;have W:∀b∈fp,FpOk X pins (upd H s.heap.objs.size (.lst [])) b/\b<j.heap.objs.size:=λb B=>by
  obtain⟨aq,ar⟩:=ak b B;obtain⟨o,e,_⟩:=T.obj _ _ st b B;have G:=Heap.lt_size e;refine⟨⟨by rw[zan (Nat.ne_of_lt G)];exact aq,ar⟩,?_⟩;rw[←U];show b<(s.heap.push _).objs.size;rw[Heap.size_push];exact Nat.lt_succ_of_lt G
 have hsz:j.heap.objs.size=s.heap.objs.size+1:=by rw[←U];exact Heap.size_push ..
 have as:tn 0 j.heap:=by rw[←U];exact T.keep _ _ _ st λb B o e=>Heap.get?_push_of_some _ e
 refine wpAny_newFunctionEnv O.nocell (by intro y au;simp at au) (λh₁ av ac=>?_) O.kind;have aw:=zhk (cl:=cl) (N':=N') (σ':=capSt σ js) (tk:=j.toks+([]:List (Str×Value)).length) F O Y ag W C.len (λi x v ax ay _=>C.get ax ay) (show h₁.Ns j.heap.objs.size (λ_=>none) from av) (show Heap.SameBut j.heap.objs.size (j.heap.push { cls:=.type "dict",data:=.dict #[] }) h₁ from ac);have ad:tn 0 h₁:=T.keep _ _ _ as λb B o e=>(ac.2 b (Nat.ne_of_lt (Heap.lt_size e))).trans (Heap.get?_push_of_some _ e);have az:∀b∈fp,FpOk (X.blk sc cl N' j (upd H s.heap.objs.size (.lst [])) fp) [] (upd H s.heap.objs.size (.lst [])) b:=λb B=>by
  obtain⟨⟨aA,aB,aC,aH,aD,aI⟩,G⟩:=W b B;refine⟨aA,Nat.ne_of_lt G,λz=>?_,.inl B,λx c e=>aD x c (Y x c e),λp V=>absurd (show p∈([]:List (Addr×Obj)) from V) (by simp)⟩;rcases List.mem_cons.mp (F.stkSub b z) with z|z
  .exact aB z
  .exact aC z
 have ae:codeAny (model X.prog X.w) X.A (.compLoop (.ListComp elt [⟨tg,iter,ifs,0⟩] sc pos) 0 (.ref it) (.ref s.heap.objs.size) (compEnvC sc cl j.heap.objs.size X.env)) (RR (.ref s.heap.objs.size) j.heap.objs.size) { j with heap:=h₁,toks:=j.toks+([]:List (Str×Value)).length }:=by
  refine zhl (X:=X.blk sc cl N' j (upd H s.heap.objs.size (.lst [])) fp) rfl af (compTurn_list ..) rfl rfl rfl (ah _ _ _ _) (ai _ _ _ _) (zlp (aj _ _ _ _)) T aw ad az ap λs' σ' H' I q=>?_;have aE:∀D,Heap.SameBut j.heap.objs.size s'.heap D->Inv X pins σ H' { s' with heap:=D }:=λD aF=>zka F W I aF;obtain⟨m,aG,_⟩:=I.loc;refine al _ _ _ H' (by rw[hsz];exact Nat.succ_ne_self _) (λb o e=>?_) I.free ⟨m,aG⟩ q aE (F.fpOk (Nat.le_refl _) I.free);rw[hsz];exact Nat.ne_of_lt (Nat.lt_succ_of_lt (Heap.lt_size e))
 exact codeAny_compStart_list ae (T.self _ 0 _ _ _ ad ae)
theorem zbs(aj:X.xe=λ_ _=>False)(D:X.calm=true)(j:BlkOk X sc)(C:CapsOk X sc N' js)(hi:PI X tg iter wi)(F:∀cl s H fp,PG (X.blk sc cl N' s H fp) tg g)(G:∀cl s H fp,PTs (X.blk sc cl N' s H fp) ifs tt)(I:∀cl s H fp,PE (X.blk sc cl N' s H fp) elt te)(O:∀x,foldedSetIterable iter X.env x=pure x:=by intro _;rfl):PE X (.ListComp elt [⟨tg,iter,ifs,0⟩] sc pos) (tComp js wi g tt te):=by
 intro pins s σ H Q B h;obtain⟨cl,U,V,W⟩:=zdZ X.env sc λx Y Z=>B.ok.has x.1 (.inl (j.free x Y Z));rw[eval_ListComp];refine wpAny_comprehension_free (use:=none) rfl O U j.kind j.names (thn (hi pins s σ H _ B h) λv ak h1=>thn h1 λal am h2=>?_);obtain⟨it,fp,tn,J0,H2,e,aa,T,ab,ac,h2⟩:=h2;subst e;refine zdx (Qe:=λp H'=>Q (.ref p) H') (RR:=λad C=>compPost (model X.prog X.w) X.A X.xe none (EP X pins σ Q) ad C) D j C V W F G I aa T ab ac h2 ?_;intro p C s' H' ao ap aq ae q af _;obtain⟨m,ag⟩:=ae;exact⟨m,ag,λah ai=>⟨.ref p,H',af ah ai,J,q⟩⟩
noncomputable def ziH(i:Nat)(js:List (Option Nat))(wi:TI)(g:TG)(tt:TT)(te:TE):TS:=λD σ H=>tComp js wi g tt te σ H λv H'=>D.nx (σ.set i (some v)) H'
theorem za8{i:Nat}{y:Str}{j G:Pos}(aF:X.xe=λ_ _=>False)(V:X.calm=true)(W:X.N.Nodup)(Y:X.N[i]?=some y)(F:Loc X.env.scope y)(B:BlkOk X sc)(C:CapsOk X sc N' js)(hi:PI X tg iter wi)(Z:∀cl s H fp,PG (X.blk sc cl N' s H fp) tg g)(aa:∀cl s H fp,PTs (X.blk sc cl N' s H fp) ifs tt)(ab:∀cl s H fp,PE (X.blk sc cl N' s H fp) elt te)(ac:swapsWith (.ListComp elt [⟨tg,iter,ifs,0⟩] sc pos) (some (.Name y j)) G.line X.env=pure true:=by rfl)(ad:∀x,foldedSetIterable iter X.env x=pure x:=by intro _;rfl)(ae:X.fn y=true∨X.env.scope.names.lookup y=some .local:=by first|exact .inl rfl|exact .inr rfl|assumption):PS X (.Assign [.Name y j] (.ListComp elt [⟨tg,iter,ifs,0⟩] sc pos) G) (ziH i js wi g tt te):=by
 intro pins s σ H D I h;obtain⟨cl,af,ag,ah⟩:=zdZ X.env sc λx F ai=>I.ok.has x.1 (.inl (B.free x F ai));rw[exec_Assign_Name_used _ _ _ _ ac];refine wpAny_bind (wpAny_standAt (wpAny_bind ?_));show wpAny _ X.A (do let _ ← comprehension (.ListComp elt [⟨tg,iter,ifs,0⟩] sc pos) sc X.env _ (newList []) false (eval iter X.env) (some (assign (.Name y j) X.env))) _ _ s;refine wpAny_bind (thn (wpAny_comprehension_free (use:=some (assign (.Name y j) X.env)) (Q:=λ_ s'=>SP X pins D .next s') J ad af B.kind B.names (thn (hi pins s σ H _ I h) λv aG h1=>thn h1 λaH aI h2=>?_)) λ_ s' aj=>wpAny_pure (wpAny_pure aj));obtain⟨it,fp,tn,J0,H2,e,ak,T,al,am,h2⟩:=h2;subst e;refine zdx (Qe:=λp H'=>D.nx (σ.set i (some (.ref p))) H') (RR:=λao C=>compPost (model X.prog X.w) X.A X.xe (some (assign (.Name y j) X.env)) (λ_ s'=>SP X pins D .next s') ao C) V B C ag ah Z aa ab ak T al am h2 ?_;intro p C s' H' aJ aK aL ap q aq ar;obtain⟨m,as⟩:=ap;have au:Inv X pins σ H' s':=aq s'.heap (.refl ..);obtain⟨av,O,aM,aw,U,ax⟩:=ar;show wpAny _ X.A (assign (.Name y j) X.env (.ref p)) _ _ s';refine wpAny_assign_Name (zeC (v:=.ref p) au W Y F J (λay az aA=>?_) ae);obtain⟨a,aB,ha⟩:=aA;have aC:C≠a:=by
  rcases ha with rfl|ha
  .exact O
  .exact λz=>U y a ha z.symm
 refine⟨m,as.sameBut aB aC,λaN aD=>⟨_,H',az.turned (t':=ay.toks) (it:=C) (λb o aE e=>(aD.2 b aE).trans e) av O aw U ax,q⟩⟩
end
section
variable {X:Cx}{e:Expr}{tg:Expr}{sc:Scope}{N':List Str}{js:List (Option Nat)}
end
noncomputable def Its(x:Str):It:=⟨λi _=>i<x.cps.size,λi H v H'=>H'=H/\∃c,x.cps[i]?=some c/\v=.str ⟨#[c]⟩,λi _=>x.cps.size<=i⟩
theorem zhm{P:Program}{w:World}{K:W.Frag}{tg:Expr}(it:Addr)(x:Str)(t:Tok):Turn P w K tg (Its x) [it] it (λi h=>h.IsStrIter it "str_ascii_iterator" x t i) where
 mem:=by simp
 obj:=λi h st b j=>by
  have e:b=it:=by simpa using j
  subst e;obtain⟨o,e,c,d⟩:=st;exact⟨o,e,λv z=>by rw[d] at z;cases z⟩
 keep:=λi h h' st k=>let ⟨o,ab,r⟩:=st;⟨o,k it (by simp) o ab,r⟩
 item:=by
  intro X F hw G Z i pins s σ H E B D st I;subst F hw G;have hi:i<x.cps.size:=I;obtain⟨J0,O,ac,U,V,Y⟩:=D it (by simp);refine wpAny_pyNext_ascii_item st (c:=x.cps[i]) (by simp[hi]) λh' aa ad=>?_;have ae:Inv X pins σ H { s with heap:=h',toks:=s.toks+1 }:=B.turned (t':=s.toks+1) (λb o j e=>(ad.2 b j).trans e) J0 O U V Y;obtain⟨o,e,c,d⟩:=id aa;exact⟨_,J,zec (s:={ s with heap:=h',toks:=s.toks+1 }) e c d (by decide) ⟨.str ⟨#[x.cps[i]]⟩,H,ae,⟨_,J⟩,⟨J,x.cps[i],by simp[hi],J⟩,aa,λb j=>(D b j).1⟩⟩
 done:=by
  intro X F hw G Z i pins s σ H E B D st I;subst F hw G;have hi:x.cps.size<=i:=I;obtain⟨J0,O,ac,U,V,Y⟩:=D it (by simp);exact wpAny_pyNext_ascii_end (B.ok.hd Z) st (by simp[hi]) λh' af=>⟨J,B.turned (t':=s.toks) (λb o j e=>af b o j e) J0 O U V Y⟩
 self:=λ_ _ _ _ _ st h=>wpAny_pyIter_striter_ascii st h
theorem zhn{P:Program}{w:World}{K:W.Frag}{tg:Expr}(it:Addr)(x:Str)(t:Tok):Turn P w K tg (Its x) [it] it (λi h=>h.IsStrIter it "str_iterator" x t i) where
 mem:=by simp
 obj:=λi h st b j=>by
  have e:b=it:=by simpa using j
  subst e;obtain⟨o,e,c,d⟩:=st;exact⟨o,e,λv z=>by rw[d] at z;cases z⟩
 keep:=λi h h' st k=>let ⟨o,ab,r⟩:=st;⟨o,k it (by simp) o ab,r⟩
 item:=by
  intro X F hw G Z i pins s σ H E B D st I;subst F hw G;have hi:i<x.cps.size:=I;obtain⟨J0,O,ac,U,V,Y⟩:=D it (by simp);refine wpAny_pyNext_wide_item st (c:=x.cps[i]) (by simp[hi]) λh' aa ad=>?_;have ae:Inv X pins σ H { s with heap:=h',toks:=s.toks+1 }:=B.turned (t':=s.toks+1) (λb o j e=>(ad.2 b j).trans e) J0 O U V Y;obtain⟨o,e,c,d⟩:=id aa;exact⟨_,J,zec (s:={ s with heap:=h',toks:=s.toks+1 }) e c d (by decide) ⟨.str ⟨#[x.cps[i]]⟩,H,ae,⟨_,J⟩,⟨J,x.cps[i],by simp[hi],J⟩,aa,λb j=>(D b j).1⟩⟩
 done:=by
  intro X F hw G Z i pins s σ H E B D st I;subst F hw G;have hi:x.cps.size<=i:=I;obtain⟨J0,O,ac,U,V,Y⟩:=D it (by simp);exact wpAny_pyNext_wide_end (B.ok.hd Z) st (by simp[hi]) λh' af=>⟨J,B.turned (t':=s.toks) (λb o j e=>af b o j e) J0 O U V Y⟩
 self:=λ_ _ _ _ _ st h=>wpAny_pyIter_striter_wide st h
noncomputable def iStr(tl:TE):TI:=λσ H R=>tl σ H λv H1=>∃x,v=.str x/\R (Its x) H1
theorem zlq{X:Cx}{tg l:Expr}{tl:TE}(F:PE X l tl):PI X tg l (iStr tl):=by
 intro pins s σ H R G h;refine thn (F pins s σ H _ G h) λv j I=>?_;obtain⟨y,H1,B,J0,O⟩:=I;obtain⟨x,e,q⟩:=O;subst e;obtain⟨t,rfl⟩:=J0;have D:∀b∈[j.heap.objs.size],FpOk X pins H1 b:=λb U=>by
  have e:b=j.heap.objs.size:=by simpa using U
  subst e;exact B.fpOk (Nat.le_refl _) (B.hok.fresh (Nat.le_refl _))
 cases ha:x.cps.all (·<128)
 .exact wpAny_pyIter_wide ha ⟨j.heap.objs.size,[j.heap.objs.size],_,_,H1,J,B.kept (t':=j.toks) λb o e=>Heap.get?_push_of_some _ e,zhn _ x t,⟨_,Heap.get?_push_size _ J,J,J⟩,D,q⟩
 .exact wpAny_pyIter_ascii ha ⟨j.heap.objs.size,[j.heap.objs.size],_,_,H1,J,B.kept (t':=j.toks) λb o e=>Heap.get?_push_of_some _ e,zhm _ x t,⟨_,Heap.get?_push_size _ J,J,J⟩,D,q⟩
section
variable {X:Cx}
theorem zho:∀ {bs:List Bool}{us:List Value},Vals (bs.map V.bl) us->us=bs.map Value.bool
 |[],_,.nil=>rfl
 |b::bs,_,.cons r t=>by
  have e:=zho (bs:=bs) t;cases r;rw[e];rfl
theorem ziI{prog:Program}{w:World}{A:Around}(bs:List Bool):TruthOf prog w A (λi v=>(bs.map Value.bool).toArray[i]?=some v) (λi=>bs.getD i false):=by
 intro i v s Q E B D;have e:(bs.map Value.bool)[i]?=some v:=by simpa using B
 rw[List.getElem?_map] at e;cases hb:bs[i]? with
 |none=>rw[hb] at e;cases e
 |some b=>
  rw[hb] at e;cases e;have:bs.getD i false=b:=by rw[List.getD_eq_getElem?_getD,hb];rfl
  have j:Q (bs.getD i false) s:=D;rw[this] at j;exact wpAny_truthy_bool j
theorem zhp(bs:List Bool):(List.range bs.length).any (λi=>bs.getD i false)=bs.any id:=by
 rw[Bool.eq_iff_iff,List.any_eq_true,List.any_eq_true];constructor
 .rintro⟨i,hi,h⟩;have hi:=List.mem_range.mp hi;exact⟨bs[i],List.getElem_mem hi,by simpa [hi] using h⟩
 .rintro⟨b,j,h⟩;obtain⟨i,hi,rfl⟩:=List.mem_iff_getElem.mp j;exact⟨i,List.mem_range.mpr hi,by simpa [hi] using h⟩
theorem ziJ(D:X.calm=true):CallR X (.builtin "any") (λxs H Q=>∃(p:Addr) (bs:List Bool),xs=[.ref p]/\SqL X.K H p (bs.map V.bl)/\Q (.bl (bs.any id)) H):=by
 intro pins s σ H xs us Q j r h;obtain⟨p,bs,rfl,F,q⟩:=h;obtain⟨u,rfl,G⟩:=vals1 r;cases G;obtain⟨its,I,B,Z⟩:=j.list F;have e:=zho I;subst e;have J0:p<s.heap.objs.size:=by obtain⟨o,n,e,_⟩:=B;exact Heap.lt_size e
 refine call_any_walk (wpAny_pyIter_list B.isList ⟨s.heap.objs.size,_,[s.heap.objs.size],_,_,_,λi=>bs.getD i false,J,Walks.list (A:=X.A.in1) (show X.A.in1.handled=none from j.ok.hd D) _ p (Nat.ne_of_lt J0) (bs.map Value.bool).toArray,⟨⟨_,Heap.get?_push_size _ J,J,J⟩,?_⟩,ziI bs,λh' tk O=>?_⟩)
 .exact B.isList.at λo e=>Heap.get?_push_of_some _ e
 .have U:(bs.map Value.bool).toArray.size=bs.length:=by simp
  rw[U,zhp];refine⟨.bl _,H,j.kept (t':=tk) λb o e=>O b o ?_ (Heap.get?_push_of_some _ e),J,q⟩;intro W;have Y:b=s.heap.objs.size:=by simpa using W
  exact absurd (Y ▸ Heap.lt_size e) (Nat.lt_irrefl _)
noncomputable def stAt(x y:Str)(k:Nat):Bool:=decide (k+y.length<=x.length)&&Builtin.Str.subAt x y k
theorem zbK:MtR X "str.startswith" (λx vs H Q=>∃a b,x=.str a/\vs=[.str b]/\Q (.bl (stAt a b 0)) H):=by
 intro pins s σ H x vs v us Q j B D h;obtain⟨a,b,rfl,rfl,q⟩:=h;obtain⟨t,rfl⟩:=B;obtain⟨u,rfl,t',rfl⟩:=D.one;exact call_gives F.slot_str_startswith (typeIs_str s a t) F.entry_str_startswith (F.args_str_startswith_2 _ _) (gives_str_startswith a b t t') ⟨.bl _,H,j,J,q⟩
theorem zcx:MtR X "str.startswith" (λx vs H Q=>∃a b k,x=.str a/\vs=[.str b,.int (k:Nat)]/\Q (.bl (stAt a b k)) H):=by
 intro pins s σ H x vs v us Q j B D h;obtain⟨a,b,k,rfl,rfl,q⟩:=h;obtain⟨t,rfl⟩:=B;obtain⟨u,I,rfl,⟨t',rfl⟩,⟨G,rfl⟩⟩:=D.two;refine call_gives F.slot_str_startswith (typeIs_str s a t) F.entry_str_startswith (F.args_str_startswith_3 _ _ _) (gives_str_startswith_from a b k t t' G) ?_;have e:fromIndex a.length (k:Int)=k:=by unfold fromIndex;rw[if_neg (by omega)];omega
 rw[e];exact⟨.bl _,H,j,J,q⟩
theorem zfm:CallR X (.builtin "isinstance") (λxs H Q=>∃x n t b,xs=[x,.ty n]/\TyOf X.K H x t/\W.kitOne X.K t (.type n)=some b/\Q (.bl b) H):=by
 intro pins s σ H xs us Q j r h;obtain⟨x,n,t,b,rfl,ty,e,q⟩:=h;obtain⟨u,D,rfl,B,rt⟩:=vals2 r;cases rt;exact zhd j B ty e λtk=>⟨.bl b,H,j.tok tk,J,q⟩
end
section
variable {X:Cx}{e:Expr}{tg:Expr}{sc:Scope}{N':List Str}{js:List (Option Nat)}
end
noncomputable def ddS(j:List Str)(x:Str):List Str:=if x∈j then j else j++[x]
noncomputable def dd(xs:List Str):List Str:=xs.foldl ddS []
theorem zkb(xs:List Str)(x:Str):dd (xs++[x])=ddS (dd xs) x:=by unfold dd;rw[List.foldl_append];rfl
theorem mem_ddS{j:List Str}{x k:Str}:k∈ddS j x↔k∈j∨k=x:=by
 unfold ddS;split
 .constructor
  .exact .inl
  .rintro(h|rfl)
   .exact h
   .assumption
 .simp
theorem zhq{xs:List Str}:∀ {j:List Str}{k:Str},k∈xs.foldl ddS j↔k∈j∨k∈xs:=by
 induction xs with
 |nil=>intro j k;simp
 |cons x r B=>
  intro j k;rw[List.foldl_cons,B,mem_ddS];simp only[List.mem_cons];constructor
  .rintro((h|h)|h)
   .exact .inl h
   .exact .inr (.inl h)
   .exact .inr (.inr h)
  .rintro(h|h|h)
   .exact .inl (.inl h)
   .exact .inl (.inr h)
   .exact .inr h
theorem mem_dd{xs:List Str}{k:Str}:k∈dd xs↔k∈xs:=by unfold dd;rw[zhq];simp
theorem zhr(j:List Str)(x:Str):(ddS j x).length=if x∈j then j.length else j.length+1:=by
 unfold ddS;split<;>simp
theorem zdy:∀(xs j:List Str),(xs.foldl ddS j).length<=j.length+xs.length/\((xs.foldl ddS j).length=j.length+xs.length↔(xs.Nodup/\∀x∈xs,x∉j))
 |[],j=>by simp
 |x::r,j=>by
  obtain⟨h1,h2⟩:=zdy r (ddS j x);rw[List.foldl_cons];have F:=zhr j x;simp only[List.length_cons];by_cases D:x∈j
  .rw[if_pos D] at F;refine⟨by omega,⟨λh=>by omega,λ⟨_,h⟩=>absurd D (h x List.mem_cons_self)⟩⟩
  .rw[if_neg D] at F;refine⟨by omega,?_⟩;constructor
   .intro h;obtain⟨a,b⟩:=h2.mp (by omega);refine⟨List.nodup_cons.mpr ⟨λB=>b x B (mem_ddS.mpr (.inr J)),a⟩,λy hy=>?_⟩;rcases List.mem_cons.mp hy with rfl|hy
    .exact D
    .exact λB=>b y hy (mem_ddS.mpr (.inl B))
   .rintro⟨a,b⟩;obtain⟨G,I⟩:=List.nodup_cons.mp a;have:=h2.mpr ⟨I,λy hy B=>by
     rcases mem_ddS.mp B with h|h
     .exact b y (List.mem_cons_of_mem _ hy) h
     .exact G (h ▸ hy)⟩
    omega
theorem zlr(xs:List Str):(dd xs).length<=xs.length:=by have:=(zdy xs []).1;simpa [dd] using this
theorem zls(xs:List Str):(dd xs).length=xs.length↔xs.Nodup:=by
 have:=(zdy xs []).2;simpa [dd] using this
noncomputable def setL(P:Program)(w:World)(p:Addr)(xs:List Str):HO:=.ext λh=>h.SetOf (strKind P w) p (λk=>decide (k∈xs)) (dd xs).length
theorem zkc{P:Program}{w:World}{H:Hp}{h:Heap}{p:Addr}{xs:List Str}(j:h.SetOf (strKind P w) p (λk=>decide (k∈xs)) (dd xs).length):ObjOk P w H h p (setL P w p xs):=by
 refine⟨j,?_,λh1 h2 q k=>?_⟩
 .obtain⟨o,_,_,_,e,_⟩:=j;exact⟨o,e⟩
 .obtain⟨o,es,ep,t,e,r⟩:=q;exact⟨o,es,ep,t,k o e,r⟩
theorem ziK(xs:List Str)(x:Str):(λk=>decide (k∈xs) || decide (k=x))=λk=>decide (k∈xs++[x]):=by
 funext k;rw[Bool.eq_iff_iff];simp
theorem ziL(xs:List Str)(x:Str):(if decide (x∈xs)=true then (dd xs).length else (dd xs).length+1)=(dd (xs++[x])).length:=by
 rw[zkb,zhr];by_cases h:x∈xs
 .rw[if_pos (decide_eq_true h),if_pos (mem_dd.mpr h)]
 .rw[if_neg (by simp[h]),if_neg (λz=>h (mem_dd.mp z))]
section
variable {X:Cx}
theorem zei:CallR X (.builtin "len") (λvs H Q=>∃p xs,vs=[.ref p]/\H p=some (setL X.prog X.w p xs)/\Q (.int (dd xs).length) H):=by
 intro pins s σ H vs us Q j r h;obtain⟨p,xs,rfl,B,q⟩:=h;obtain⟨u,rfl,D⟩:=vals1 r;cases D;obtain⟨F,_,_⟩:=j.hok p _ B;obtain⟨o,es,ep,t,e,G,I,_,_,J0,O,U⟩:=(show s.heap.SetOf (strKind X.prog X.w) p (λk=>decide (k∈xs)) (dd xs).length from F);refine call_len_set e G I O (by unfold scanBound at J0;omega) ?_;rw[U];exact⟨.int _,H,j.tok _,⟨_,J⟩,q⟩
end
theorem zhs{P:Program}{w:World}{A:Around}{R:Result->Shared->Prop}{B S l:Addr}{its:List Value}{xs:List Str}(Z:A.in1.handled=none)(aa:l≠B)(G:S≠B)(ab:S≠l)(ac:∀(i:Nat) v,its[i]?=some v->∃x t,xs[i]?=some x/\v=.str x t)(ad:its.length=xs.length)(as:xs.length+1<scanBound) :
  ∀(k i:Nat) (s:Shared),xs.length-i=k->i<=xs.length->s.heap.IsListIter B l i->s.heap.IsList l its.toArray->s.heap.SetOf (PySem.strKind P w) S (λj=>decide (j∈xs.take i)) (dd (xs.take i)).length ->
   (∀h' tk,(∀b o,b≠S->b≠B->s.heap.get? b=some o->h'.get? b=some o)->h'.SetOf (PySem.strKind P w) S (λj=>decide (j∈xs)) (dd xs).length->R (.ok (.ret .none)) { s with heap:=h',toks:=tk }) ->
   codeAny (model P w) A (.builtin "set.update.loop" ⟨[.ref S,.ref B],[]⟩) R s:=by
 intro k;induction k with
 |zero=>
  intro i s ae hi it D F I;have e:i=xs.length:=by omega
  subst e;refine codeAny_builtin PyProof.Rows.F.entry_set_update_loop ?_;rw[Around.under_plainId PyProof.Rows.F.plain_set_update_loop _];show wpAny _ A.in1 (pyNext (.ref B) >>= _) _ _ s;refine wpAny_bind (wpAny_pyNext_list_end Z it D (by simp[ad]) λh' V=>?_);show wpAny _ A.in1 (ret Value.none) _ _ _;refine wpAny_pure (I h' s.toks (λb o _ h2 e=>V b o h2 e) ?_);rw[List.take_length] at F;obtain⟨o,es,ep,t,J0,rest⟩:=F;exact⟨o,es,ep,t,V S o G J0,rest⟩
 |succ k af=>
  intro i s ae hi it D F I;have ag:i<xs.length:=by omega
  have lt':i<its.length:=by omega
  refine codeAny_builtin PyProof.Rows.F.entry_set_update_loop ?_;rw[Around.under_plainId PyProof.Rows.F.plain_set_update_loop _];show wpAny _ A.in1 (pyNext (.ref B) >>= _) _ _ s;refine wpAny_bind (wpAny_pyNext_list_item it D (x:=its[i]) (by simp[lt']) λh' ah O=>?_);obtain⟨x,t,ai,ev⟩:=ac i its[i] (by simp[lt']);rw[ev];have aj:h'.SetOf (PySem.strKind P w) S (λj=>decide (j∈xs.take i)) (dd (xs.take i)).length:=by
   obtain⟨o,es,ep,tb,J0,rest⟩:=F;exact⟨o,es,ep,tb,(O.2 S G).trans J0,rest⟩
  have ak:h'.IsList l its.toArray:=D.extBut O.extBut aa;show wpAny _ A.in1 (holding [Value.str x t] (setAdd S (.str x t)) >>= _) _ _ { s with heap:=h' };refine wpAny_bind (wpAny_holding ?_);unfold setAdd;refine wpAny_holding ?_;have W:(PySem.strKind P w).is x (.str x t)=true:=by simp[PySem.strKind,Value.isStrOf]
  refine wpAny_bind ((PySem.strKind P w).pyHash W ?_);have al:(dd (xs.take i)).length+1<scanBound:=by
   have:=zlr (xs.take i);rw[List.length_take] at this;omega
  refine wpAny_setAddHashed_of (knd:=PySem.strKind P w) (s:={ s with heap:=h',toks:=s.toks+1 }) W rfl aj al λh2 U am=>?_;have ao:xs.take i++[x]=xs.take (i+1):=by rw[List.take_add_one,ai];rfl
  have ap:h2.SetOf (PySem.strKind P w) S (λj=>decide (j∈xs.take (i+1))) (dd (xs.take (i+1))).length:=by
   rw[←ao];exact SetOf_congr am (λj=>congrFun (ziK (xs.take i) x) j) (ziL (xs.take i) x)
  refine wpAny_pure ⟨plainId_quiet PyProof.Rows.F.plain_set_update_loop _,af (i+1) _ (by omega) ag (ah.extBut U.extBut (Ne.symm G)) (ak.extBut U.extBut (Ne.symm ab)) ap λaq tk q ar=>?_⟩;exact I aq tk (λb o h1 Y e=>q b o h1 Y ((U.2 b h1).trans ((O.2 b Y).trans e))) ar
section
variable {prog:Program}{w:World}{A:Around}{E:Value->Shared->Prop}{s:Shared}
theorem zeO{l:Addr}{its:List Value}{xs:List Str}{Q:Value->Shared->Prop}(ae:A.handled=none)(af:s.heap.IsList l its.toArray)(ag:∀(i:Nat) v,its[i]?=some v->∃x t,xs[i]?=some x/\v=.str x t)(ah:its.length=xs.length)(ai:xs.length+1<scanBound)(h:∀(h':Heap) (tk:Nat),h'.SetOf (PySem.strKind prog w) s.heap.objs.size (λB=>decide (B∈xs)) (dd xs).length ->
   (∀b o,s.heap.get? b=some o->h'.get? b=some o)->Q (.ref s.heap.objs.size) { s with heap:=h',toks:=tk }) :
  wpAny (model prog w) A (call (.type "set") [.ref l]) Q E s:=by
 obtain⟨c,tl,ax⟩:=F.called_set.mro;have ay:=F.called_set.made;have az:=F.called_set.sub;refine wpAny_call (codeAny_of_tree ?_);show wpAny _ _ (callAny (.type "set") _) _ _ _;refine wpAny_pure ⟨Code.quiet_builtin _ (by decide +kernel),codeAny_builtin F.entry_type_call ?_⟩;rw[Around.under_plain (weight_type_call_type "set" [.ref l] []) rfl];have h1:=F.called_set.notType;have h2:=F.called_set.canCreate;have aA:=F.typeCall_set_1 (.ref l)
 repeat (any_goals (first|assumption|wp_step))
 refine codeAny_mono (code_set_new_1 (.ref l) (E:=E) (Q₁:=λobj O=>∃j:Bool,obj=.ref s.heap.objs.size/\O={ s with heap:=s.heap.push { cls:=.type "set",dict:=none,data:=.set #[] 0 (.fresh 0 0 j) } }) λj=>⟨j,J,J⟩) λr O D=>?_;cases r with
 |error e=>exact D
 |ok aj=>
  cases aj with
  |ret obj=>
   obtain⟨j,rfl,rfl⟩:=D;generalize G:s.heap.push { cls:=.type "set",dict:=none,data:=.set #[] 0 (.fresh 0 0 j) }=H1;have U:H1.get? s.heap.objs.size=some { cls:=.type "set",dict:=none,data:=.set #[] 0 (.fresh 0 0 j) }:=by rw[←G];exact Heap.get?_push_size _ rfl
   have V:∀b o,s.heap.get? b=some o->H1.get? b=some o:=λb o e=>by rw[←G];exact Heap.get?_push_of_some _ e
   have hsz:H1.objs.size=s.heap.objs.size+1:=by rw[←G];exact Heap.size_push ..
   have ak:Shared.TypeIs { s with heap:=H1 } (.ref s.heap.objs.size) "set":=⟨_,U,J⟩;have aB:=F.called_set.init.lookup;have aC:=F.called_set.init.bind (.ref s.heap.objs.size)
   repeat (any_goals (first|assumption|wp_step))
   refine codeAny_mono (codeAny_call_builtin (R:=wants (λr W=>r=.none/\∃h' tk,W={ s with heap:=h',toks:=tk } /\
     h'.SetOf (PySem.strKind prog w) s.heap.objs.size (λB=>decide (B∈xs)) (dd xs).length/\(∀b o,s.heap.get? b=some o->h'.get? b=some o)) E) F.called_set.init.plain F.entry_set_init (check_set_init_1 ak ?_)) λal W I=>?_
   .obtain⟨am,Y,Z,ao,aa⟩:=af;obtain⟨aD,aE,aF,aG⟩:=am;simp only at Z aa;subst Z;subst aa;have ap:=V _ _ Y;have aH:=F.sub_list_set;have aI:=F.sub_list_frozenset;have aJ:(Value.type "list"==Value.type "dict")=false:=by decide
    have ab:H1.IsList l its.toArray:=⟨_,ap,J,ao,J⟩;unfold Builtin.«set.__init__» noKeywords Builtin.Frozenset.updateFrom;generalize aq:pyIter=PI
    wp_walk
    subst aq;refine wpAny_pyIter_list ab ?_;refine wpAny_bind (wpAny_runValue ?_);have ac:l<s.heap.objs.size:=Heap.lt_size Y;have ar:A.in1.in1.in1.handled=none:=by simp[ae]
    refine zhs (P:=prog) (w:=w) (l:=l) (its:=its) (xs:=xs) ar (by rw[hsz];exact Nat.ne_of_lt (Nat.lt_succ_of_lt ac)) (by rw[hsz];exact Nat.ne_of_lt (Nat.lt_succ_self _)) (Nat.ne_of_gt ac) ag ah ai xs.length 0 _ (by omega) (Nat.zero_le _) ⟨_,Heap.get?_push_size _ J,J,J⟩ (ab.push _) ?hS0 ?hR
    case hS0=>
     exact SetOf_congr ((setObjOf_fresh (knd:=PySem.strKind prog w) j).setOf (Heap.get?_push_of_some _ U) (by unfold scanBound;omega)) (λ_=>by simp) rfl
    case hR=>
     intro h' as au J0;show wpAny _ _ _ _ _ _;refine wpAny_pure ?_;show wpAny _ _ (ret Value.none) _ _ _;refine wpAny_pure ⟨J,h',as,J,J0,λb o e=>?_⟩;have ad:=Heap.lt_size e;exact au b o (Nat.ne_of_lt ad) (by rw[hsz];exact Nat.ne_of_lt (Nat.lt_succ_of_lt ad)) (Heap.get?_push_of_some _ (V b o e))
   .cases al with
    |error e=>exact I
    |ok av=>
     cases av with
     |ret r=>
      obtain⟨rfl,h',tk,rfl,J0,aw⟩:=I
      repeat (any_goals (first|assumption|wp_step))
      exact h _ _ J0 aw
     |_=>exact I.elim
  |_=>exact D.elim
end
theorem zeP:∀ {xs:List Str}{us:List Value},Vals (xs.map V.str) us->us.length=xs.length/\∀(i:Nat) v,us[i]?=some v->∃x t,xs[i]?=some x/\v=.str x t
 |[],_,.nil=>⟨J,λi v e=>by simp at e⟩
 |x::xs,_,.cons r t=>by
  obtain⟨h1,h2⟩:=zeP (xs:=xs) t;obtain⟨tk,rfl⟩:=r;refine⟨by simp[h1],λi v e=>?_⟩;cases i with
  |zero=>simp at e;exact⟨x,tk,by simp,e.symm⟩
  |succ i=>simpa using h2 i v (by simpa using e)
theorem zdT{X:Cx}(B:X.calm=true):CallR X (.type "set") (λvs H Q=>∃p xs,vs=[.ref p]/\SqL X.K H p (xs.map V.str)/\xs.length+1<scanBound/\∀q,H q=none->Q (.ref q) (upd H q (setL X.prog X.w q xs))):=by
 intro pins s σ H vs us Q j r h;obtain⟨p,xs,rfl,D,F,q⟩:=h;obtain⟨u,rfl,G⟩:=vals1 r;cases G;obtain⟨its,I,J0,W⟩:=j.list D;obtain⟨h1,h2⟩:=zeP I;refine zeO (j.ok.hd B) J0.isList h2 h1 F λh' tk O U=>?_;exact⟨.ref _,_,j.laid (t':=tk) U (Nat.le_refl _) (zkc O),J,q _ j.fresh⟩
noncomputable def SameX(p:Addr)(H H':Hp):Prop:=∀b o,b≠p->H b=some o->H' b=some o
theorem SameX.refl{p:Addr}{H:Hp}:SameX p H H:=λ_ _ _ e=>e
theorem SameX.trans{p:Addr}{H H1 H2:Hp}(a:SameX p H H1)(b:SameX p H1 H2):SameX p H H2:=λc o n e=>b c o n (a c o n e)
theorem SameX.upd{p:Addr}{H H':Hp}{o:HO}(a:SameX p H H'):SameX p H (upd H' p o):=λc u n e=>by rw[zan n];exact a c u n e
theorem Same.x{p:Addr}{H H':Hp}(a:Same H H'):SameX p H H':=λc o _ e=>a c o e
theorem Same.new{H:Hp}{p:Addr}{o:HO}(h:H p=none):Same H (upd H p o):=λb u e=>by rw[zan (zae e h)];exact e
structure ItOk(J0:It)(n:Nat)(item:Nat->V)(H0:Hp)(p:Addr):Prop where
 go:∀i H,i<n->SameX p H0 H->J0.go i H
 stop:∀H,SameX p H0 H->J0.stop n H
 yld:∀i H x H',i<n->SameX p H0 H->J0.yld i H x H'->H'=H/\x=item i
theorem zb9{K:W.Frag}{a p:Addr}{xs:List V}{B:Hp}(h:B a=some (.tup xs))(j:a≠p):ItOk (Itt K a) xs.length (λi=>xs.getD i .non) B p where
 go:=λi H hi k=>⟨xs,xs[i],SqT.of (k a _ j h),by simp[hi]⟩
 stop:=λH k=>⟨xs,SqT.of (k a _ j h),Nat.le_refl _⟩
 yld:=λi H v H' hi k ⟨e,q⟩=>⟨e,by
  have:=q xs (SqT.of (k a _ j h));rw[List.getD_eq_getElem?_getD,this];rfl⟩
theorem zbt{K:W.Frag}{a p:Addr}{xs:List V}{B:Hp}(h:B a=some (.lst xs))(j:a≠p):ItOk (Itl K a) xs.length (λi=>xs.getD i .non) B p where
 go:=λi H hi k=>⟨xs,xs[i],SqL.of (k a _ j h),by simp[hi]⟩
 stop:=λH k=>⟨xs,SqL.of (k a _ j h),Nat.le_refl _⟩
 yld:=λi H v H' hi k ⟨e,q⟩=>⟨e,by
  have:=q xs (SqL.of (k a _ j h));rw[List.getD_eq_getElem?_getD,this];rfl⟩
noncomputable def flatN(F:Nat->List V):Nat->List V
 |0=>[]
 |i+1=>flatN F i++F i
theorem ziM{J0:It}{g:TG}{tt:TT}{U:TR}{Qe:St->Hp->Prop}{W:St}{j:Hp}{p:Addr}{D:List V}{n:Nat}{item:Nat->V}(F:Nat->List V)(P:St->Prop)(ab:P W)(ac:j p=some (.lst D))(ok:ItOk J0 n item j p)(turn:∀i σ H (N:St->Hp->Prop),i<n->P σ->SameX p j H->H p=some (.lst (D++flatN F i))->(∀B I,P B->SameX p H I->I p=some (.lst (D++flatN F i++F i))->N B I) ->
   g (item i) σ H λB H2=>tt B H2 λb Y=>if b=true then U B Y N else N B Y)(ad:∀σ H,P σ->SameX p j H->H p=some (.lst (D++flatN F n))->Qe σ H):tLoop J0 g tt U Qe W j:=by
 refine⟨λi m σ H=>m=n-i/\i<=n/\P σ/\SameX p j H/\H p=some (.lst (D++flatN F i)),⟨n,J,Nat.zero_le _,ab,.refl,by simpa [flatN] using ac⟩,?_⟩;rintro i m σ H ⟨rfl,hi,Z,G,aa⟩;by_cases O:i<n
 .refine .inr ⟨ok.go i H O G,λσ' H'=>P σ'/\SameX p j H'/\H' p=some (.lst (D++flatN F (i+1))),λσ' H' ⟨a,b,c⟩=>⟨n-(i+1),by omega,J,O,a,b,c⟩,λx H' y=>?_⟩;obtain⟨rfl,rfl⟩:=ok.yld i H x H' O G y;refine turn i σ H' _ O Z G aa λB I ae af ag=>⟨ae,G.trans af,?_⟩;rw[ag];simp only[flatN,List.append_assoc]
 .have e:i=n:=by omega
  subst e;exact .inl ⟨ok.stop H G,ad σ H Z G aa⟩
theorem zfP{F:Nat->List V}{k:Nat}(h:∀i,(F i).length<=k):∀n,(flatN F n).length<=n*k
 |0=>by simp[flatN]
 |n+1=>by
  have:=zfP h n;have h2:=h n;simp only[flatN,List.length_append,Nat.succ_mul];omega
theorem ziN{J0:It}{g:TG}{tt:TT}{te:TE}{Qe:St->Hp->Prop}{O:St}{D:Hp}{p:Addr}{G:List V}{n:Nat}{item:Nat->V}(f:Nat->Option V)(P:St->Prop)(aa:P O)(ab:D p=some (.lst G))(hsz:G.length+n<=100000)(ok:ItOk J0 n item D p)(turn:∀i σ H (C:Option V->St->Hp->Prop),i<n->P σ->SameX p D H->(∀j B,P j->Same H B->C (f i) j B) ->
   g (item i) σ H λj H2=>tt j H2 λb U=>if b=true then te j U λv B=>C (some v) j B else C none j U)(ac:∀σ H,P σ->SameX p D H->H p=some (.lst (G++flatN (λi=>(f i).toList) n))->Qe σ H):tLoop J0 g tt (tApp p te) Qe O D:=by
 refine ziM (λi=>(f i).toList) P aa ab ok (λi σ H N hi ad ae af W=>?_) ac;refine turn i σ H (λo j B=>match o with
  |some v=>∃ys,B p=some (.lst ys)/\ys.length<sizeLine/\N j (upd B p (.lst (ys++[v])))
  |none=>N j B) hi ad ae λj B Y I=>?_
 have Z:=I p _ af;cases e:f i with
 |none=>
  refine W j B Y I.x ?_;rw[e];simpa using Z
 |some v=>
  refine⟨_,Z,?_,W j _ Y (I.x.upd) ?_⟩
  .have h1:=zfP (F:=λi=>(f i).toList) (k:=1) (λi=>by show ((f i).toList).length<=1;cases f i<;>simp) i;have h2:(100000:Nat)<sizeLine:=by rw[sizeLine_eq];decide
   rw[List.length_append];omega
  .rw[zab,e];rfl
theorem zca{J0:It}{g:TG}{tt:TT}{te:TE}{Qe:St->Hp->Prop}{G:St}{j:Hp}{p:Addr}{n:Nat}{item:Nat->V}(f:Nat->Option V)(P:St->Prop)(W:P G)(I:j p=none)(hsz:n<=100000)(ok:ItOk J0 n item (upd j p (.lst [])) p)(turn:∀i σ H (C:Option V->St->Hp->Prop),i<n->P σ->Same j H->(∀B D,P B->Same H D->C (f i) B D) ->
   g (item i) σ H λB H2=>tt B H2 λb O=>if b=true then te B O λv D=>C (some v) B D else C none B O)(Y:∀σ H,Same j H->H p=some (.lst (flatN (λi=>(f i).toList) n))->Qe σ H):tLoop J0 g tt (tApp p te) Qe G (upd j p (.lst [])):=by
 have Z:Same j (upd j p (.lst [])):=Same.new I;have U:∀ {H},SameX p (upd j p (.lst [])) H->Same j H:=λ{H} h b o e=>h b o (zae e I) (Z b o e);refine ziN f P W zab (by simpa using hsz) ok (λi σ H C hi aa F ab=>turn i σ H C hi aa (U F) ab) λσ H _ F ac=>Y σ H (U F) (by simpa using ac)
theorem zbY(f:Nat->V):∀n,flatN (λi=>(some (f i)).toList) n=(List.range n).map f
 |0=>rfl
 |n+1=>by
  have:=zbY f n;simp only[Option.toList_some] at this;simp only[flatN,List.range_succ,List.map_append,this,Option.toList_some,List.map_cons,List.map_nil]
end L2
namespace T1
open PySem L2
inductive D where
 |non|bl (b:Bool)|int (i:Int)|str (x:Str)|tup (xs:List D)|lst (xs:List D)
mutual
/-- the value v stands for d;z is an address apart (the law's bag) -/
inductive Rep(z:Addr)(H:Hp):V->D->Prop where
 |non:Rep z H .non .non
 |bl (b:Bool):Rep z H (.bl b) (.bl b)
 |int (i:Int):Rep z H (.int i) (.int i)
 |str (x:Str) (h:x.length<=1000):Rep z H (.str x) (.str x)
 |tup {a:Addr} {xs:List V} {ds:List D} (h:H a=some (.tup xs)) (j:a≠z) (r:Reps z H xs ds):Rep z H (.ref a) (.tup ds)
 |lst {a:Addr} {xs:List V} {ds:List D} (h:H a=some (.lst xs)) (j:a≠z) (r:Reps z H xs ds):Rep z H (.ref a) (.lst ds)
inductive Reps(z:Addr)(H:Hp):List V->List D->Prop where
 |nil:Reps z H [] []
 |cons {v:V} {d:D} {vs:List V} {ds:List D} (h:Rep z H v d) (t:Reps z H vs ds):Reps z H (v::vs) (d::ds)
end
mutual
theorem Rep.mono{z:Addr}{H H':Hp}(k:SameX z H H'):∀ {v:V}{d:D},Rep z H v d->Rep z H' v d
 |_,_,.non=>.non
 |_,_,.bl b=>.bl b
 |_,_,.int i=>.int i
 |_,_,.str x h=>.str x h
 |_,_,.tup h j r=>.tup (k _ _ j h) j (Reps.mono k r)
 |_,_,.lst h j r=>.lst (k _ _ j h) j (Reps.mono k r)
theorem Reps.mono{z:Addr}{H H':Hp}(k:SameX z H H'):∀ {vs:List V}{ds:List D},Reps z H vs ds->Reps z H' vs ds
 |_,_,.nil=>.nil
 |_,_,.cons h t=>.cons (Rep.mono k h) (Reps.mono k t)
end
theorem Reps.length{z:Addr}{H:Hp}:∀ {vs:List V}{ds:List D},Reps z H vs ds->vs.length=ds.length
 |_,_,.nil=>rfl
 |_,_,.cons _ t=>by simp[Reps.length t]
theorem Reps.get{z:Addr}{H:Hp}:∀ {vs:List V}{ds:List D}{i:Nat},Reps z H vs ds->i<ds.length->Rep z H (vs.getD i .non) (ds.getD i .non)
 |_,_,0,.cons h _,_=>h
 |_,_,i+1,.cons _ t,hi=>by
  have:=Reps.get (i:=i) t (by simpa using hi);simpa using this
noncomputable def D.ty:D->String
 |.non=>"NoneType"|.bl _=>"bool"|.int _=>"int"|.str _=>"str"|.tup _=>"tuple"|.lst _=>"list"
theorem zkd(K:W.Frag)(d:D):W.kitOne K (.type d.ty) (.type "int")=some (match d with|.int _=>true|.bl _=>true|_=>false):=by cases d<;>rfl
theorem ziO(K:W.Frag)(d:D):W.kitOne K (.type d.ty) (.type "bool")=some (match d with|.bl _=>true|_=>false):=by cases d<;>rfl
theorem b_len:bootBuiltins "len"=some (.builtin "len"):=by decide +kernel
theorem zme:bootBuiltins "any"=some (.builtin "any"):=by decide +kernel
theorem ziP:bootBuiltins "isinstance"=some (.builtin "isinstance"):=by decide +kernel
theorem zmf:bootBuiltins "min"=some (.builtin "min"):=by decide +kernel
theorem b_sorted:bootBuiltins "sorted"=some (.builtin "sorted"):=by decide +kernel
theorem zlt:bootBuiltins "int"=some (.type "int"):=by decide +kernel
theorem zlu:bootBuiltins "bool"=some (.type "bool"):=by decide +kernel
theorem zcl:bootBuiltins "tuple"=some (.type "tuple"):=by decide +kernel
theorem zfQ:bootBuiltins "list"=some (.type "list"):=by decide +kernel
theorem zmg:bootBuiltins "set"=some (.type "set"):=by decide +kernel
noncomputable def zjJ(S sc:Scope):Bool:=sc.names.all λx=>(x.2 != .local || sc.names.lookup x.1==some .local)&&x.2 != .cell&&(x.2 != .free || S.names.lookup x.1==some .cell)
theorem zbp{X:Cx}{sc:Scope}(S:Scope)(h:zjJ S sc=true)(B:X.env.scope=S:=by rfl)(D:sc.kind=.function:=by rfl):BlkOk X sc:=by
 unfold zjJ at h;rw[List.all_eq_true] at h;refine⟨D,λx j F=>?_,λx j G=>?_,λx j I=>?_⟩
 .have:=h x j;rw[F] at this;simp at this;exact this
 .have:=h x j;rw[G] at this;simp at this
 .have:=h x j;rw[I] at this;simp at this;show X.env.scope.names.lookup x.1=some .cell;rw[B];exact this
noncomputable def rIsi(K:W.Frag):List V->Hp->VK->Prop:=λxs H Q=>∃x n t b,xs=[x,.ty n]/\TyOf K H x t/\W.kitOne K t (.type n)=some b/\Q (.bl b) H
theorem zjK{X:Cx}{a:Expr}{ta:TE}{T:Str}{n:String}{j p2 pos:Pos}(D:X.mg "isinstance"=none)(F:X.mg T=none)(G:bootBuiltins T=some (.type n))(I:PE X a ta)(J0:Gl X "isinstance":=by rfl)(O:Gl X T:=by rfl)(B:starEach [a,.Name T p2] X.env=(false,eval a X.env)::starEach [.Name T p2] X.env:=by rfl)(U:(backTo pos (starEach [.Name T p2] X.env)).any (·.1)=false:=by rfl)(V:T≠"__name__":=by decide)(W:(T==("__debug__":Str))=false:=by decide) :
  PE X (.Call (.Name "isinstance" j) [a,.Name T p2] [] pos) (tCB (rIsi X.K) (tCons ta (tCons (tC (.ty n)) tNil))):=
 zar (p:=j) (pos:=pos) (X:=X) zfm J0 D ziP (zaa I (zaa (zj2 (v:=.ty n) (pos:=p2) O F G J V W) zad) B) (by decide) (by decide) B U
end T1
namespace L2
open PySem PySem.Spec PyProof.Rows
theorem ziQ{J0:It}{g:TG}{te:TE}{Qe:St->Hp->Prop}{G:St}{D:Hp}{p:Addr}{n:Nat}{item:Nat->V}(f:Nat->V)(P:St->Prop)(O:P G)(U:D p=none)(hsz:n<=100000)(ok:ItOk J0 n item (upd D p (.lst [])) p)(turn:∀i σ H (C:V->St->Hp->Prop),i<n->P σ->Same D H->(∀j B,P j->Same H B->C (f i) j B)->g (item i) σ H λj H2=>te j H2 λv B=>C v j B)(W:∀σ H,Same D H->H p=some (.lst ((List.range n).map f))->Qe σ H):tLoop J0 g tYes (tApp p te) Qe G (upd D p (.lst [])):=
 zca (λi=>some (f i)) P O U hsz ok (λi σ H C hi Y F Z=>turn i σ H (λv j B=>C (some v) j B) hi Y F Z) λσ H F I=>W σ H F (by rw[zbY] at I;exact I)
theorem zht{j:Type} [Inhabited j] (xs:List j) (d:j) (f:j->V):(List.range xs.length).map (λi=>f (xs.getD i d))=xs.map f:=by
 apply List.ext_getElem?;intro i;rw[List.getElem?_map,List.getElem?_map];by_cases h:i<xs.length
 .simp[h]
 .simp[h]
section
variable {X:Cx}{sc:Scope}{cl:List (Str×Addr)}{N':List Str}{s:Shared}{H:Hp}{fp:List Addr}
theorem zej{es:List Expr}{k:Nat}{t:TGs}{pos:Pos}(n:Nat)(j:X.calm=true)(h:PGs (X.blk sc cl N' s H fp) es t)(B:(assignEach es (X.blk sc cl N' s H fp).env).length=n:=by rfl)(D:(assignEach es (X.blk sc cl N' s H fp).env).findIdx? (·.1)=none:=by rfl):PG (X.blk sc cl N' s H fp) (.Tuple es k pos) (gTup X.K n t):=zaZ j h B D
theorem za1:IxR (X.blk sc cl N' s H fp) (rIxT X.K):=ix_tup
theorem ziR:IxR (X.blk sc cl N' s H fp) (rIxL X.K):=ix_list
theorem ziS:OpR (X.blk sc cl N' s H fp) (binaryOp .Add) (rCatT X.K):=zhg
end
section
variable {X:Cx}
noncomputable def zlv:R2:=λx y H Q=>∃p q xs,x=.ref p/\y=.ref q/\H p=some (.lst xs)/\H q=some (.lst [])/\Q (.bl (!xs.isEmpty)) H
theorem zeQ(D:X.A.units<cLine):OpR X (compareOp .NotEq) zlv:=by
 intro pins s σ H x y v u Q B I J0 h;obtain⟨p,q,xs,rfl,rfl,O,U,k⟩:=h;cases I;cases J0;obtain⟨its,V,F,Y⟩:=B.list (SqL.of O);obtain⟨Z,W,G,aa⟩:=B.list (SqL.of U);cases W;show wpAny _ _ (richCompare .NotEq _ _) _ _ _;cases V with
 |nil=>exact SeqAt.RcNeAt.lists (e:=λ_=>true) F.isList G.isList rfl D (λj h1 _=>absurd h1 (by simp)) _ _ _ _ ⟨.bl _,H,B,J,k⟩
 |cons r t=>exact SeqAt.RcNeAt.lists_lengths F.isList G.isList (by simp) D _ _ _ _ ⟨.bl _,H,B,J,k⟩
theorem PI.or{tg l:Expr}{wi j:TI}(h:PI X tg l wi)(h':PI X tg l j):PI X tg l (λσ H R=>wi σ H R∨j σ H R):=by
 intro pins s σ H R B q;rcases q with q|q
 .exact h pins s σ H R B q
 .exact h' pins s σ H R B q
end
section
variable {X:Cx}{pins:List (Addr×Obj)}{σ:St}{H:Hp}{s:Shared}{h':Heap}{m:Str->Option Value}
theorem zfR(L:Addr):News (Att.noObjs s.heap) L s.heap (Att.ledger s.heap L L):=by
 rintro⟨a,o⟩ j;obtain⟨B,_,e⟩:=Att.mem_ledger.mp j;exact⟨e,B,Att.noObjs_get _ _⟩
theorem zdd{L:Addr}(N:News (Att.noObjs s.heap) L h' (Att.ledger s.heap L L)):∀b o,b≠L->s.heap.get? b=some o->h'.get? b=some o:=λb o j e=>(N (b,o) (Att.mem_ledger.mpr ⟨j,j,e⟩)).1
theorem Inv.lib{tk:Nat}(B:Inv X pins σ H s)(G:s.heap.Ns X.env.locals m)(F:Fr (Att.noObjs s.heap) X.env.locals h' m)(N:News (Att.noObjs s.heap) X.env.locals h' (Att.ledger s.heap X.env.locals X.env.locals)):Inv X pins σ H { s with heap:=h',toks:=tk }:=by
 have k:=zdd N;have D:∀b u,H b=some u->b≠X.env.locals:=λb u e z=>by rw[z,B.free] at e;cases e
 refine B.step (g':=s.gens) (d':=s.drawn) (ch:=[]) (λ_ z=>nomatch z) (λb o j _ _ e _=>k b o j e) (λb o j _ _ e _=>⟨o.slots,k b o j e⟩) (λ_ _ _ _ n=>n) (λb o _ e=>?_) (λ_ _ e=>e) (λ_ _ _ e=>e) (λb ps e=>⟨#[],by rw[e];simp⟩) (λI J0=>?_) (λb u e=>?_) B.bare
 .by_cases j:b=X.env.locals
  .obtain⟨o',_,_,O,_⟩:=F.ns;exact⟨o',by rw[j];exact O⟩
  .exact⟨o,k b o j e⟩
 .have:I=m:=funext λx=>J0.agree G x;rw[this];exact F.ns
 .refine(B.hok b u e).stay (λc v U q=>k c v ?_ q) (λ_ q=>q) λ_ _ q=>q;rcases U with z|z
  .rw[z];exact D b u e
  .exact D c _ z
theorem Inv.libNew{tk:Nat}{D:Addr}{ob:Obj}{o:HO}(j:Inv X pins σ H s)(V:s.heap.Ns X.env.locals m)(F:Fr (Att.noObjs s.heap) X.env.locals h' m)(N:News (Att.noObjs s.heap) X.env.locals h' ((D,ob)::Att.ledger s.heap X.env.locals X.env.locals))(W:∀q∈Att.ledger s.heap X.env.locals X.env.locals,q.1<D)(Y:ObjOk X.prog X.w (upd H D o) h' D o):H D=none/\Inv X pins σ (upd H D o) { s with heap:=h',toks:=tk }:=by
 have N':News (Att.noObjs s.heap) X.env.locals h' (Att.ledger s.heap X.env.locals X.env.locals):=λp Z=>N p (List.mem_cons_of_mem _ Z);have k:=zdd N';have I:D≠X.env.locals:=(N (D,ob) List.mem_cons_self).2.1;have J0:∀o',s.heap.get? D≠some o':=λo' e=>absurd (W (D,o') (Att.mem_ledger.mpr ⟨I,I,e⟩)) (Nat.lt_irrefl _);have O:∀b u,H b=some u->b≠X.env.locals:=λb u e z=>by rw[z,j.free] at e;cases e
 have aa:∀b u,H b=some u->∃o',s.heap.get? b=some o':=λb u e=>by
  have af:=(j.hok b u e).lt;cases u with
  |lst xs=>obtain⟨_,_,_,_,q⟩:=j.hok b _ e;exact⟨_,q⟩
  |tup xs=>obtain⟨_,_,_,ob,q,_⟩:=j.hok b _ e;exact⟨ob,q⟩
  |dK kvs=>obtain⟨_,_,_,_,ob,_,_,q,_⟩:=j.hok b _ e;exact⟨ob,q⟩
  |dT kvs=>obtain⟨_,_,_,_,ob,_,_,q,_⟩:=j.hok b _ e;exact⟨ob,q⟩
  |set S n=>obtain⟨ob,_,_,_,q,_⟩:=j.hok b _ e;exact⟨ob,q⟩
  |ins C dx fs=>obtain⟨_,_,_,q,_⟩:=j.hok b _ e;exact⟨_,q⟩
  |own y=>obtain⟨ob,q⟩:=j.hok b _ e;exact⟨ob,q⟩
  |xd fs=>obtain⟨_,⟨ob,_,_,q,_⟩,_⟩:=j.hok b _ e;exact⟨ob,q⟩
  |rng lo hi=>obtain⟨_,_,_,q⟩:=j.hok b _ e;exact⟨_,q⟩
  |frz ob u=>obtain⟨q,_⟩:=j.hok b _ e;exact⟨_,q⟩
  |tbl ps=>exact⟨_,show s.heap.get? b=some _ from j.hok b _ e⟩
  |met f y=>exact⟨_,show s.heap.get? b=some _ from j.hok b _ e⟩
  |ext ag=>obtain⟨_,q,_⟩:=j.hok b _ e;exact q
 have U:H D=none:=by
  cases e:H D with
  |none=>rfl
  |some u=>
   obtain⟨o',q⟩:=aa D u e;exact absurd q (J0 o')
 have G:∀b u,H b=some u->b≠D:=λb u e=>zae e U;refine⟨U,j.step (g':=s.gens) (d':=s.drawn) (ch:=[]) (λ_ z=>nomatch z) (λb o B _ _ e _=>k b o B e) (λb o B _ _ e _=>⟨o.slots,k b o B e⟩) (λb o' _ e n=>?_) (λb o _ e=>?_) (λb xs e=>by rw[zan (G b _ e)];exact e) (λb _ _ e=>by rw[zan (G b _ e)];exact e) (λb ps e=>⟨#[],by rw[zan (G b _ e),e];simp⟩) (λab ac=>?_) (λb u e=>?_) j.bare⟩
 .rw[zan (λz=>J0 o' (by rw[←z];exact e))];exact n
 .by_cases B:b=X.env.locals
  .obtain⟨o',_,_,ad,_⟩:=F.ns;exact⟨o',by rw[B];exact ad⟩
  .exact⟨o,k b o B e⟩
 .have:ab=m:=funext λx=>ac.agree V x;rw[this];exact F.ns
 .by_cases B:b=D
  .subst B;rw[zab] at e;cases e;exact Y
  .rw[zan B] at e;refine(j.hok b u e).stay (λc v ae q=>k c v ?_ q) (λc q=>by rw[zan (G c _ q)];exact q) λc _ q=>by rw[zan (G c _ q)];exact q
   rcases ae with z|z
   .rw[z];exact O b u e
   .exact O c _ z
end
noncomputable def strOf:Value->Str
 |.str x _=>x
 |_=>⟨#[]⟩
theorem zd0:∀ {xs:List Str}{us:List Value},Vals (xs.map V.str) us->us.map strOf=xs/\∀u∈us,∃t,u=.str (strOf u) t
 |[],_,.nil=>⟨J,λu hu=>nomatch hu⟩
 |x::r,_,.cons h t=>by
  obtain⟨j,rfl⟩:=h;obtain⟨e,q⟩:=zd0 t;refine⟨by rw[List.map_cons,e];rfl,λu hu=>?_⟩;rcases List.mem_cons.mp hu with rfl|hu
  .exact⟨j,J⟩
  .exact q u hu
theorem zc2:∀ {us:List Value},(∀u∈us,∃t,u=.str (strOf u) t)->Vals ((us.map strOf).map V.str) us
 |[],_=>.nil
 |u::r,h=>.cons (h u List.mem_cons_self) (zc2 λv j=>h v (List.mem_cons_of_mem _ j))
theorem zfS:∀its:List Value,(its.map λu=>((strOf u).length:Int)).zip its=its.map λu=>(((strOf u).length:Int),u)
 |[]=>rfl
 |a::r=>by rw[List.map_cons,List.zip_cons_cons,List.map_cons,zfS r]
noncomputable def zfT(K:W.Frag)(b:Bool):List V->Hp->VK->Prop:=λvs H Q=>∃(l:Addr) (xs:List Str),vs=[.ref l]/\SqL K H l (xs.map V.str)/\xs.length<64/\(∀y∈xs,y.length<=sizeLine) /\
 ∀(p:Addr) (ys:List Str),H p=none->ys.Perm xs->ys.Pairwise (λa c=>if b then c.length<=a.length else a.length<=c.length)->Q (.ref p) (upd H p (.lst (ys.map V.str)))
theorem zdU{X:Cx}{pins:List (Addr×Obj)}{σ:St}{H:Hp}{s:Shared}{Q:VK}{vs:List V}{us:List Value}{G:List (Str×Value)}{b:Bool}(I:Inv X pins σ H s)(r:Vals vs us)(h:zfT X.K b vs H Q)(ae:∀l,argsOk "sorted" ⟨[.ref l],G⟩)(af:∀x,argsOk "list.sort" ⟨[.ref x],G⟩)(ag:∀x,Builtin.«list.sort» ⟨[.ref x],G⟩=ksk_tree x (.builtin "len") b):wpAny (model X.prog X.w) X.A (call (.builtin "sorted") us G) (EP X pins σ Q) X.xe s:=by
 obtain⟨l,xs,rfl,ah,aE,ai,q⟩:=h;obtain⟨u,rfl,aj⟩:=vals1 r;cases aj;obtain⟨its,ak,al,_⟩:=I.list ah;obtain⟨m,Z,_⟩:=id I.loc;obtain⟨J0,aa⟩:=zd0 ak;have aF:its.length=xs.length:=by rw[←J0,List.length_map]
 have aG:=line63;refine ksk_sorted (b:=b) (kz:=its.map λu=>((strOf u).length:Int)) (f:=.builtin "len") (Att.fr_all Z) (zfR X.env.locals) al.isList (by simp) (by omega) (ae l) af ag (λi v k ab ac h tk aH F N=>?_) (λD h' tk O c F N am ao=>?_)
 .have j:=List.mem_of_getElem? ab;obtain⟨t,ap⟩:=aa v j;have aq:k=((strOf v).length:Int):=by
   rw[List.getElem?_map,ab] at ac;exact(Option.some.inj ac).symm
  have aI:(strOf v).length<=sizeLine:=ai _ (by rw[←J0];exact List.mem_map_of_mem j);rw[ap,aq];refine len_str (by omega) ?_;exact KskEnd.intro F N λp B=>B
 .obtain⟨ps,B,ar,as⟩:=ao;have au:(its.map λu=>((strOf u).length:Int)).zip its=its.map λu=>(((strOf u).length:Int),u):=by
   exact zfS its
  rw[au] at B;have j:∀p∈ps,p.1=((strOf p.2).length:Int)/\p.2∈its:=λp U=>by
   obtain⟨u,W,rfl⟩:=List.mem_map.mp (B.mem_iff.mp U);exact⟨J,W⟩
  have ad:(ps.map λp=>strOf p.2).Perm xs:=by
   have:=B.map λp=>strOf p.2;rw[List.map_map] at this;have av:its.map ((λp:Int×Value=>strOf p.2)∘λu=>(((strOf u).length:Int),u))=xs:=by rw[←J0];rfl
   rw[av] at this;exact this
  have aw:(ps.map λp=>strOf p.2).Pairwise (λa c=>if b then c.length<=a.length else a.length<=c.length):=by
   rw[List.pairwise_map];refine as.imp_of_mem λ{p q} h1 h2 Y=>?_;have ax:=(j p h1).1;have ay:=(j q h2).1;rw[ax,ay] at Y;cases b
   .simp at Y ⊢;omega
   .simp at Y ⊢;omega
  have az:Vals ((ps.map λp=>strOf p.2).map V.str) O.toList:=by
   rw[ar];have:=zc2 (us:=ps.map Prod.snd) λu W=>by
    obtain⟨p,U,rfl⟩:=List.mem_map.mp W;exact aa _ (j p U).2
   have aA:(ps.map Prod.snd).map strOf=ps.map λp=>strOf p.2:=by rw[List.map_map];rfl
   rw[aA] at this;exact this
  have aB:(ps.map λp=>strOf p.2).length=xs.length:=ad.length_eq;have aJ:(64:Nat)<=sizeLine:=by rw[sizeLine_eq];decide
  obtain⟨aC,aD⟩:=I.libNew (tk:=tk) (o:=.lst ((ps.map λp=>strOf p.2).map V.str)) Z F N am ⟨by rw[List.length_map,aB];omega,O.toList,c,az,(N (D,seqObj "list" O c) List.mem_cons_self).1⟩;exact⟨.ref D,_,aD,J,q D _ aC ad aw⟩
noncomputable def cutS(z:Str)(lo hi:Option Int):Str:=⟨((z.cps.toList.drop (HT.sIx z.length 0 lo)).take (HT.sIx z.length z.length hi-HT.sIx z.length 0 lo)).toArray⟩
theorem zjL(v:Int)(n d:Nat):max (0:Int) (min (if v<0 then v+(n:Int) else v) (n:Int))=((HT.sIx n d (some v):Nat):Int):=by
 show _=(((if v<0 then (v+(n:Int)).toNat else min v.toNat n):Nat):Int);by_cases j:v<0
 .rw[if_pos j,if_pos j];omega
 .rw[if_neg j,if_neg j];omega
theorem zfn(lo hi:Option Int)(n:Nat):Builtin.Str.strSliceIndices lo hi 1 n=(List.range (HT.sIx n n hi-HT.sIx n 0 lo)).map λk=>HT.sIx n 0 lo+k:=by
 have j:∀a b:Nat,sliceRange (a:Int) (b:Int) 1=(List.range (b-a)).map λk=>a+k:=λa b=>by
  unfold sliceRange;have e:((if (1:Int)>0 then (if (a:Int)<b then ((b:Int)-a+1-1) / 1 else 0) else (if (a:Int)>b then ((a:Int)-b-1-1) / (-1) else 0)):Int).toNat=b-a:=by
   rw[if_pos (by decide)];by_cases h:(a:Int)<b
   .rw[if_pos h,Int.ediv_one];omega
   .rw[if_neg h];omega
  simp only[e];refine List.map_congr_left λk _=>?_;omega
 have B:(match lo with|none=>(if (1:Int)>0 then (0:Int) else (n:Int)-1)|some i=>if (1:Int)>0 then max 0 (min (if i<0 then i+(n:Int) else i) (n:Int)) else max (-1) (min (if i<0 then i+(n:Int) else i) ((n:Int)-1)))=((HT.sIx n 0 lo:Nat):Int):=by
  cases lo with
  |none=>rfl
  |some v=>
   show (if (1:Int)>0 then _ else _)=_;rw[if_pos (by decide)];exact zjL v n 0
 have D:(match hi with|none=>(if (1:Int)>0 then (n:Int) else -1)|some i=>if (1:Int)>0 then max 0 (min (if i<0 then i+(n:Int) else i) (n:Int)) else max (-1) (min (if i<0 then i+(n:Int) else i) ((n:Int)-1)))=((HT.sIx n n hi:Nat):Int):=by
  cases hi with
  |none=>rfl
  |some v=>
   show (if (1:Int)>0 then _ else _)=_;rw[if_pos (by decide)];exact zjL v n n
 unfold Builtin.Str.strSliceIndices;refine Eq.trans ?_ (j _ _);rw[←B,←D];cases lo<;>cases hi<;>rfl
theorem zhu(z:Str)(lo hi:Option Int):Txt.slice z lo hi=cutS z lo hi:=by
 have e:=zfn lo hi z.length;have h2:=HT.sIx_le z.length z.length (Nat.le_refl _) hi;have I:z.cps.toList.length=z.length:=by simp;rfl
 have D:(Builtin.Str.strSliceIndices lo hi 1 z.length).filterMap (z.cps[·]?)=(z.cps.toList.drop (HT.sIx z.length 0 lo)).take (HT.sIx z.length z.length hi-HT.sIx z.length 0 lo):=by
  rw[e];by_cases h:HT.sIx z.length 0 lo<=HT.sIx z.length z.length hi
  .have F:=StrLaws.picks z.cps.toList (HT.sIx z.length z.length hi-HT.sIx z.length 0 lo) (HT.sIx z.length 0 lo) (by omega);simpa using F
  .have:HT.sIx z.length z.length hi-HT.sIx z.length 0 lo=0:=by omega
   rw[this];simp
 unfold Txt.slice;split
 .rename_i hw;have B:(Builtin.Str.strSliceIndices lo hi 1 z.length).length=z.length:=by simpa using hw
  rw[e,List.length_map,List.length_range] at B;unfold cutS;rw[B];obtain⟨j⟩:=z;by_cases G:j.size=0
  .have:j=#[]:=Array.eq_empty_of_size_eq_zero G;subst this;simp[Str.length]
  .have a0:HT.sIx (Str.mk j).length 0 lo=0:=by
    have:(Str.mk j).length=j.size:=rfl;omega
   rw[a0];have:(Str.mk j).length=j.toList.length:=by simp;rfl
   rw[this,List.drop_zero];show Str.mk j=⟨(j.toList.take j.toList.length).toArray⟩;rw[List.take_length]
 .unfold cutS;rw[D]
noncomputable def rSlS:V->Option Int->Option Int->Hp->VK->Prop:=λx lo hi H Q=>∃z,x=.str z/\z.length<=sizeLine/\Q (.str (cutS z lo hi)) H
theorem zhv{X:Cx}:SlR X rSlS:=by
 intro pins s σ H x v I J0 lo hi O Q U V W Y D h;obtain⟨z,rfl,Z,q⟩:=h;obtain⟨t,rfl⟩:=V;rw[←zhu] at q;refine⟨"str",_,F.slot_str_getitem.lookup,typeIs_str _ _ _,?_⟩;have B:∀(l u:Option (Int×Tok)),l.map (·.1)=lo->u.map (·.1)=hi->I=partValue l->J0=partValue u->wpAny (model X.prog X.w) X.A (getItem (.str z t) (.ref O)) (EP X pins σ Q) X.xe s:=λl u aa ab ac ad=>by
  subst aa ab ac ad;obtain⟨o,ae,af,ag⟩:=W;refine wpAny_getItem_str_slice (l:=l) (u:=u) (st:=none) ⟨o,ae,af,ag⟩ rfl ?_;exact post_val_or_str ⟨Nat.le_trans (Txt.slice_le z _ _) Z,λt' k=>⟨.str _,H,U.tok _,⟨_,J⟩,q⟩⟩
 cases Y with
 |none=>
  cases D with
  |none=>exact B none none rfl rfl rfl rfl
  |int j u=>exact B none (some (j,u)) rfl rfl rfl rfl
 |int i G=>
  cases D with
  |none=>exact B (some (i,G)) none rfl rfl rfl rfl
  |int j u=>exact B (some (i,G)) (some (j,u)) rfl rfl rfl rfl
end L2
namespace T1
open PySem L2 PyProof.Rows
mutual
inductive Dep:Nat->D->Prop where
 |non (k:Nat):Dep k .non
 |bl (k:Nat) (b:Bool):Dep k (.bl b)
 |int (k:Nat) (i:Int):Dep k (.int i)
 |str (k:Nat) (x:Str):Dep k (.str x)
 |tup {k:Nat} {ds:List D} (t:Deps k ds):Dep (k+1) (.tup ds)
 |lst {k:Nat} {ds:List D} (t:Deps k ds):Dep (k+1) (.lst ds)
inductive Deps:Nat->List D->Prop where
 |nil (k:Nat):Deps k []
 |cons {k:Nat} {d:D} {ds:List D} (h:Dep k d) (t:Deps k ds):Deps k (d::ds)
end
theorem Deps.get{k:Nat}:∀ {ds:List D}{i:Nat},Deps k ds->i<ds.length->Dep k (ds.getD i .non)
 |_,0,.cons h _,_=>h
 |_,i+1,.cons _ t,hi=>by
  have:=Deps.get (i:=i) t (by simpa using hi);simpa using this
theorem zcN{xs:List V}{us:List Value}(r:Vals xs us){j:Nat}(h:j<us.toArray.size):RelV (xs.getD j .non) us.toArray[j]:=by
 have D:=r.length;have h':j<xs.length:=by rw[D];simpa using h
 obtain⟨u,B,F⟩:=r.get (i:=j) (x:=xs.getD j .non) (by simp[h']);have:us.toArray[j]=u:=by
  have h2:j<us.length:=by simpa using h
  have e:us[j]?=some us[j]:=List.getElem?_eq_getElem h2;rw[e] at B;simpa using Option.some.inj B
 rw[this];exact F
section
variable {X:Cx}{pins:List (Addr×Obj)}{σ:L2.St}{H:Hp}{s:Shared}{z z':Addr}
theorem zke(ae:Inv X pins σ H s):∀(k:Nat){d:D},Dep k d->∀ {A:Around}{x y:V}{u v:Value},Room k A->Rep z H x d->Rep z' H y d->RelV x u->RelV y v->SeqAt.EqAt A s u v true:=by
 intro k;induction k with
 |zero=>
  intro d af A x y u v J0 B F G I;cases af with
  |non=>cases B;cases F;cases G;cases I;exact SeqAt.EqAt.same _
  |bl _ b=>cases B;cases F;cases G;cases I;exact SeqAt.EqAt.same _
  |int _ i=>cases B;cases F;obtain⟨t,rfl⟩:=G;obtain⟨t',rfl⟩:=I;have:=SeqAt.EqAt.int_int (A:=A) (s:=s) i t i t';simpa using this
  |str _ x=>cases B;cases F;obtain⟨t,rfl⟩:=G;obtain⟨t',rfl⟩:=I;have:=SeqAt.EqAt.str_str (A:=A) (s:=s) x t x t';simpa using this
 |succ k al=>
  intro d af A x y u v J0 B F G I;cases af with
  |non=>cases B;cases F;cases G;cases I;exact SeqAt.EqAt.same _
  |bl _ b=>cases B;cases F;cases G;cases I;exact SeqAt.EqAt.same _
  |int _ i=>cases B;cases F;obtain⟨t,rfl⟩:=G;obtain⟨t',rfl⟩:=I;have:=SeqAt.EqAt.int_int (A:=A) (s:=s) i t i t';simpa using this
  |str _ x=>cases B;cases F;obtain⟨t,rfl⟩:=G;obtain⟨t',rfl⟩:=I;have:=SeqAt.EqAt.str_str (A:=A) (s:=s) x t x t';simpa using this
  |@tup _ ds t=>
   cases B with
   |@tup a xs _ ag _ O=>
    cases F with
    |@tup b ys _ ah _ U=>
     cases G;cases I;by_cases W:a=b
     .subst W;exact SeqAt.EqAt.same _
     .obtain⟨its,Y,ai,_⟩:=ae.tuple (SqT.of ag);obtain⟨Z,aa,p2,_⟩:=ae.tuple (SqT.of ah);have ab:=Y.length;have aj:=aa.length;have ac:=O.length;have ak:=U.length;have ad:=SeqAt.RcAt.tuples (e:=λ_=>true) ai p2 J0.units0 λj h1 h2=>al (t.get (i:=j) (by rw[←ac,ab];simpa using h1)) J0.in1 (O.get (i:=j) (by rw[←ac,ab];simpa using h1)) (U.get (i:=j) (by rw[←ak,aj];simpa using h2)) (zcN Y h1) (zcN aa h2);have e:((List.range (min its.toArray.size Z.toArray.size)).all (λ_=>true)&&its.toArray.size==Z.toArray.size)=true:=by
       have:its.toArray.size=Z.toArray.size:=by simp;omega
       rw[this];simp
      rw[e] at ad;exact SeqAt.EqAt.of_refs W ad
  |@lst _ ds t=>
   cases B with
   |@lst a xs _ ag _ O=>
    cases F with
    |@lst b ys _ ah _ U=>
     cases G;cases I;by_cases W:a=b
     .subst W;exact SeqAt.EqAt.same _
     .obtain⟨its,Y,ai,_⟩:=ae.list (SqL.of ag);obtain⟨Z,aa,p2,_⟩:=ae.list (SqL.of ah);have ab:=Y.length;have aj:=aa.length;have ac:=O.length;have ak:=U.length;have hsz:its.toArray.size=Z.toArray.size:=by simp;omega
      have ad:=SeqAt.RcAt.lists (e:=λ_=>true) ai.isList p2.isList hsz J0.units0 λj h1 h2=>al (t.get (i:=j) (by rw[←ac,ab];simpa using h1)) J0.in1 (O.get (i:=j) (by rw[←ac,ab];simpa using h1)) (U.get (i:=j) (by rw[←ak,aj];simpa using h2)) (zcN Y h1) (zcN aa h2);have e:(List.range its.toArray.size).all (λ_=>true)=true:=by simp
      rw[e] at ad;exact SeqAt.EqAt.of_refs W ad
noncomputable def rSame(b:Bool):R2:=λx y H Q=>∃z z' ds,Rep z H x (.lst ds)/\Rep z' H y (.lst ds)/\Deps 4 ds/\Q (.bl b) H
theorem zcb(G:Room 5 X.A):OpR X (compareOp .NotEq) (rSame false):=by
 intro pins s σ H x y v u Q B V W h;obtain⟨z,z',ds,D,F,Y,q⟩:=h;cases D with
 |@lst a xs _ Z _ D=>
  cases F with
  |@lst b ys _ aa _ F=>
   cases V;cases W;obtain⟨its,I,ab,_⟩:=B.list (SqL.of Z);obtain⟨ac,J0,p2,_⟩:=B.list (SqL.of aa);have O:=I.length;have ad:=J0.length;have U:=D.length;have ae:=F.length;have hsz:its.toArray.size=ac.toArray.size:=by simp;omega
   show wpAny _ _ (richCompare .NotEq _ _) _ _ _;refine SeqAt.RcNeAt.lists (e:=λ_=>true) ab.isList p2.isList hsz G.units0 (λj h1 h2=>zke B 4 (Y.get (i:=j) (by rw[←U,O];simpa using h1)) G.in1 (D.get (i:=j) (by rw[←U,O];simpa using h1)) (F.get (i:=j) (by rw[←ae,ad];simpa using h2)) (zcN I h1) (zcN J0 h2)) _ _ _ _ ?_;have e:(!(List.range its.toArray.size).all (λ_=>true))=false:=by simp
   rw[e];exact⟨.bl _,H,B,J,q⟩
end
end T1
namespace L2
open PySem PySem.Spec PyProof.Rows
theorem zao{t u:TS}{D:Ends}{σ:St}{H:Hp}(h:∀U:St->Hp->Prop,(∀σ H,u D σ H->U σ H)->t { D with nx:=U } σ H):tSeq t u D σ H:=h (u D) λ_ _ q=>q
theorem zd1{t:TS}{D:Ends}{σ:St}{H:Hp}(h:∀j:Ends,(∀σ H,D.nx σ H->j.nx σ H)->(∀v H,D.rt v H->j.rt v H)->(∀σ H,D.bk σ H->j.bk σ H)->(∀σ H,D.ct σ H->j.ct σ H)->t j σ H):t D σ H:=h D (λ_ _ q=>q) (λ_ _ q=>q) (λ_ _ q=>q) λ_ _ q=>q
theorem zek{t u:TS}{D:Ends}{σ:St}{H:Hp}{J0:St->Hp->Prop}(h1:∀U:St->Hp->Prop,(∀σ H,J0 σ H->U σ H)->t { D with nx:=U } σ H)(h2:∀σ H,J0 σ H->u D σ H):tSeq t u D σ H:=h1 (u D) h2
end L2
namespace L2
open PySem PySem.Spec PySem.Calls PyProof.Rows
section
variable {prog:Program}{w:World}{A:Around}{E:Value->Shared->Prop}{s:Shared}
theorem ziT{q a B:Addr}{qual:Str}{O:Arguments}{scope:Scope}{pm U:Value}{V:Nat}{Y p2 p3 p4 p5:Pos}{mg Z:Str->Option Value}{its:List Value}{x:Str}{t:Tok}{Q:Value->Shared->Prop}(ae:s.heap.get? q=some (W.kla_obj "<lambda>" qual O (.Call (.Name "len" Y) [.Subscript (.Name "fit" p2) (.Constant (.int 0) V p3) p4] [] p5) scope [] pm B U))(af:s.heap.CodeRec (.ref B) qual)(ag:bindArgs (W.kla_fn "<lambda>" qual O (.Call (.Name "len" Y) [.Subscript (.Name "fit" p2) (.Constant (.int 0) V p3) p4] [] p5) scope [] pm (.ref B) U) ⟨[.ref a],[]⟩=pure [(("fit":Str),Value.ref a)])(ah:scope.isCoroutine=false)(ai:scope.isGenerator=false)(I:scope.kind=.function)(aj:∀y∈scope.names,y.2≠.cell)(aa:scope.names.lookup ("fit":Str)=some .local)(ak:scope.names.lookup ("len":Str)=some .globalImplicit)(al:s.heap.Ns mainGlobals mg)(am:mg "len"=none)(ao:s.heap.Ns builtinsNs Z)(ap:Z "len"=some (.builtin "len"))(aq:s.heap.NoLimit)(ar:A.depth<recursionLimit)(as:IsTup s.heap a its.toArray)(ab:its[0]?=some (.str x t))(aB:its.length<=sizeLine)(aC:x.length<=sizeLine)(h:∀h' tk t',(∀b o,s.heap.get? b=some o->h'.get? b=some o)->Q (.int x.length t') { s with heap:=h',toks:=tk }):wpAny (model prog w) A (call (.ref q) [.ref a]) Q E s:=by
 have aD:=line63;refine wpAny_call (W.kla_callFunE ar ae J ah ai J af ?_);rw[ag];refine wpAny_pure (wpAny_newFunctionEnv aj (λy au=>?_) (λh₁ av ac=>⟨aq.fresh _ ac,?_⟩) I)
 .have:y=(("fit":Str),Value.ref a):=by simpa using au
  rw[this];exact aa
 have G:∀b o,s.heap.get? b=some o->h₁.get? b=some o:=λb o e=>ac.extBut b o (Nat.ne_of_lt (Heap.lt_size e)) (Heap.get?_push_of_some _ e);have aw:([(("fit":Str),Value.ref a)]:List (Str×Value)).reverse.lookup ("fit":Str)=some (.ref a):=by simp[List.lookup]
 show codeAny _ _ (.expr _ (W.envX qual scope s.heap.objs.size q (.ref B) [])) _ _;refine W.kla_codeExpr ?_;refine wpAny_Call_Name_kw (Calls.Name_function_global I (by show scope.names.lookup _=_;exact ak) (Calls.loadGlobal_builtin (al.keeps G) am (ao.keeps G) ap ?_) (by decide));refine PyProof.Rows.callWith_builtin1 ?_ rfl rfl;show wpAny _ _ (spliced ((false,eval _ _)::backTo p5 (starEach [] _))) _ _ _;refine Calls.spliced_cons (Subscript_ (wpAny_Name (wpAny_loadName_local I (by show scope.names.lookup _=_;exact aa) av aw ?_) (by decide)));refine wpAny_Constant_int ?_;have ad:IsTup h₁ a its.toArray:=by
  obtain⟨ob,e,r⟩:=as;exact⟨ob,G _ _ e,r⟩
 have ax:0<its.length:=by
  cases its with
  |nil=>cases ab
  |cons _ _=>simp
 have ay:seqIndex? 0 its.toArray.size=some 0:=by
  have:=PySem.StrLaws.seqIndex_nonneg (i:=0) (n:=its.toArray.size) (by omega) (by simpa using ax);simpa using this
 have az:∀tk,wpAny (model prog w) (A.deeper (W.envX qual scope s.heap.objs.size q (.ref B) [])) (spliced (backTo p5 (starEach [] (W.envX qual scope s.heap.objs.size q (.ref B) [])))) (λvs aA=>wpAny (model prog w) (A.deeper (W.envX qual scope s.heap.objs.size q (.ref B) [])) (call (.builtin "len") (.str x t::vs)) (λv s'=>(λ(r:Result) s'=>match r with|.ok (.ret v)=>Q v s'|.ok _=>False|.error e=>E e s') (.ok (.ret v)) s') (λF s'=>wpAny (model prog w) (A.deeper (W.envX qual scope s.heap.objs.size q (.ref B) [])) (leaving (W.envX qual scope s.heap.objs.size q (.ref B) []) F) (λ_ D=>(λ(r:Result) s'=>match r with|.ok (.ret v)=>Q v s'|.ok _=>False|.error e=>E e s') (.error F) D) (λJ0 D=>(λ(r:Result) s'=>match r with|.ok (.ret v)=>Q v s'|.ok _=>False|.error e=>E e s') (.error J0) D) s') aA)
   (λF s'=>wpAny (model prog w) (A.deeper (W.envX qual scope s.heap.objs.size q (.ref B) [])) (leaving (W.envX qual scope s.heap.objs.size q (.ref B) []) F) (λ_ D=>(λ(r:Result) s'=>match r with|.ok (.ret v)=>Q v s'|.ok _=>False|.error e=>E e s') (.error F) D) (λJ0 D=>(λ(r:Result) s'=>match r with|.ok (.ret v)=>Q v s'|.ok _=>False|.error e=>E e s') (.error J0) D) s') { s with heap:=h₁,toks:=tk }:=λtk=>by
  refine Calls.spliced_nil (len_str (by omega) ?_);exact h h₁ _ _ G
 exact subscriptTail_builtinR (x:=.str x t) ad.typeIs slot_tuple_getitem.lookup (getItem_tuple (j:=0) (Q:=λr s'=>r=.str x t/\_) ad (by omega) (by omega) ay (by simpa using ab) ⟨J,az _⟩) rfl
end
end L2
namespace L2
open PySem PySem.Spec PySem.Calls PyProof.Rows
noncomputable def ButX(q:Addr)(H H':Hp):Prop:=∀b o,b≠q->H b=some o->H' b=some o
noncomputable def cdO(c:Addr)(q:Str):HO:=.ext λh=>h.CodeRec (.ref c) q
noncomputable def LamT(P:Addr)(B cl:Nat)(q:Str)(H:Hp):Prop:=
 H P=some (.tbl #[])∨∃j,H P=some (.tbl #[rawInt B,rawInt cl,.ref j])/\H j=some (cdO j q)
theorem LamT.tbl{P:Addr}{j cl:Nat}{q:Str}{H:Hp}(h:LamT P j cl q H):∃ps,H P=some (.tbl ps):=by
 rcases h with h|⟨B,h,_⟩
 .exact⟨_,h⟩
 .exact⟨_,h⟩
theorem zgI{P:Program}{w:World}{H:Hp}{h:Heap}{c:Addr}{q:Str}(B:h.CodeRec (.ref c) q):ObjOk P w H h c (cdO c q):=by
 refine⟨B,?_,λh1 h2 e k=>?_⟩
 .obtain⟨D,oc,vs,t,e,j,_⟩:=B;cases e;exact⟨oc,j⟩
 .obtain⟨D,oc,vs,t,e,j,r⟩:=e;cases e;exact⟨c,oc,vs,t,J,k _ j,r⟩
section
variable {X:Cx}{pins:List (Addr×Obj)}{σ:St}{H:Hp}{s:Shared}{E:Value->Shared->Prop}
theorem ziU{P c:Addr}{pos:Pos}{nm q:Str}{I:Arguments}{body:Expr}{scope:Scope}{ai:Nat}{ab:Value->Shared->Prop}(B:Inv X pins σ H s)(F:LamT P pos.line pos.col q H)(ac:closureFor scope X.env=pure [])(ad:X.env.code=.ref c)(aj:W.codeHdIn X.K c P=true)(ak:X.base.BuiltinsAt X.mg P)(h:∀f j G s' H1,Inv X pins σ H1 s'->ButX P H H1->LamT P pos.line pos.col q H1->s'.heap.get? f=some (W.kla_obj nm q I body scope [] ((X.mg "__name__").getD .none) j G)->s'.heap.CodeRec (.ref j) q->f≠X.env.locals->j≠X.env.locals->ab (.ref f) s') :
  wpAny (model X.prog X.w) X.A (makeFunction nm q I (.expr body) scope X.env [] [] [] pos ai) ab E s:=by
 have C:=W.codeHd_of_K B.kIn aj;have V:=B.mod.glob.keeps B.bk;have D:=ak.keeps B.bk;have Y:=B.lt;obtain⟨ax,ay,_⟩:=id B.loc;rcases F with F|⟨j,F,U⟩
 .have J0:s.heap.get? P=some (W.tabObj #[]):=B.hok P _ F;have al:P<s.heap.objs.size:=Heap.lt_size J0;have am:mainGlobals≠P:=λz=>by
   obtain⟨o,es,ep,e,hd,_⟩:=V;rw[z,J0] at e;cases e;cases hd
  have ao:X.env.locals≠P:=λz=>by rw[←z,B.free] at F;cases F
  refine W.kla_makeFunction (mg:=X.mg) ac B.ok.glob V ad C J0 trivial rfl am D λj G h' tk ae O ap Z aq=>?_;have lt1:∀b u,H b=some u->b<s.heap.objs.size:=λb u e=>(B.hok b u e).lt;have ar:∀b u,H b=some u->b≠j:=λb u e=>Nat.ne_of_lt (Nat.lt_of_lt_of_le (lt1 b u e) O);have as:j≠P:=(Nat.ne_of_lt (Nat.lt_of_lt_of_le al O)).symm;have k:∀b o,b≠P->s.heap.get? b=some o->(h'.push (W.kla_obj nm q I body scope [] ((X.mg "__name__").getD .none) j G)).get? b=some o:=λb o D e=>Heap.get?_push_of_some _ (ae b o D e);have af:(h'.push (W.kla_obj nm q I body scope [] ((X.mg "__name__").getD .none) j G)).get? P=some (W.tabObj #[rawInt pos.line,rawInt pos.col,.ref j]):=Heap.get?_push_of_some _ (by simpa using aq);have ag:(h'.push (W.kla_obj nm q I body scope [] ((X.mg "__name__").getD .none) j G)).CodeRec (.ref j) q:=by
   obtain⟨au,oc,vs,t,e,aa,r⟩:=Z;cases e;exact⟨j,oc,vs,t,J,Heap.get?_push_of_some _ aa,r⟩
  have same:∀b u,b≠P->H b=some u->upd (upd H j (cdO j q)) P (.tbl #[rawInt pos.line,rawInt pos.col,.ref j]) b=some u:=λb u D e=>by
   rw[zan D,zan (ar b u e)];exact e
  refine h h'.objs.size j G _ (upd (upd H j (cdO j q)) P (.tbl #[rawInt pos.line,rawInt pos.col,.ref j])) (B.step (g':=s.gens) (d':=s.drawn) (ch:=[]) (λ_ z=>nomatch z) (λb o _ _ _ e n=>?_) (λb o _ _ _ e n=>⟨o.slots,?_⟩) (λb o _ e n=>?_) (λb o _ e=>?_) (λb xs e=>?_) (λb o u e=>?_) (λb ps e=>?_) (λaz av=>?_) (λb u e=>?_) B.bare) (λb u D e=>same b u D e) (.inr ⟨j,zab,by rw[zan as,zab]⟩) (Heap.get?_push_size _ J) ag ?_ ?_
  .exact k b o (zae F n).symm e
  .exact k b o (zae F n).symm e
  .rw[zan (zae F n).symm,zan (Nat.ne_of_lt (Nat.lt_of_lt_of_le (Heap.lt_size e) O))];exact n
  .by_cases D:b=P
   .exact⟨_,by rw[D];exact af⟩
   .exact⟨o,k b o D e⟩
  .exact same b _ (zaI e F (by intro z;cases z)) e
  .exact same b _ (zaI e F (by intro z;cases z)) e
  .by_cases D:b=P
   .subst D;rw[F] at e;cases e;exact⟨#[rawInt pos.line,rawInt pos.col,.ref j],by rw[zab];simp⟩
   .exact⟨#[],by rw[same b _ D e];simp⟩
  .exact(av.extBut ae ao).push _
  .by_cases D:b=P
   .subst D;rw[zab] at e;cases e;exact af
   .rw[zan D] at e;by_cases ah:b=j
    .subst ah;rw[zab] at e;cases e;exact zgI ag
    .rw[zan ah] at e;refine(B.hok b u e).stay (λd v hd z=>k d v ?_ z) (λd z=>same d _ (zaI z F (by intro y;cases y)) z) λd _ z=>same d _ (zaI z F (by intro y;cases y)) z;rcases hd with hd|hd
     .rw[hd];exact D
     .exact zaI hd F (by intro y;cases y)
  .exact(Nat.ne_of_lt (Nat.lt_of_lt_of_le Y (Nat.le_trans O (Nat.le_of_lt ap)))).symm
  .exact(Nat.ne_of_lt (Nat.lt_of_lt_of_le Y O)).symm
 .have J0:s.heap.get? P=some (W.tabObj #[rawInt pos.line,rawInt pos.col,.ref j]):=B.hok P _ F;have Z:s.heap.CodeRec (.ref j) q:=(B.hok j _ U).1;refine W.kla_makeFunctionHit (mg:=X.mg) ac B.ok.glob V ad C J0 (by simp[TriplesOk,rawInt]) (cv:=.ref j) (by simp[codeAmong,rawInt]) D λG h' tk aw hsz=>?_;have k:∀b o,s.heap.get? b=some o->(h'.push (W.kla_obj nm q I body scope [] ((X.mg "__name__").getD .none) j G)).get? b=some o:=λb o e=>Heap.get?_push_of_some _ (aw b o e);refine h h'.objs.size j G _ H (B.kept k) (λ_ _ _ e=>e) (.inr ⟨j,F,U⟩) (Heap.get?_push_size _ J) ?_ (Nat.ne_of_lt (Nat.lt_of_lt_of_le Y hsz)).symm (λz=>by rw[z,B.free] at U;cases U);obtain⟨au,oc,vs,t,e,aa,r⟩:=Z;cases e;exact⟨j,oc,vs,t,J,k _ _ aa,r⟩
end
end L2
namespace L2
open PySem PySem.Spec PySem.Calls PyProof.Rows
noncomputable def zkf(P:Addr)(B cl:Nat)(q:Str):List V->Hp->VK->Prop:=λvs H Q=>∃(l:Addr) (xs:List V) (ms:Nat->Str),vs=[.ref l]/\H l=some (.lst xs)/\0<xs.length/\(∀i,i<xs.length->∃a ys,xs[i]?=some (.ref a)/\H a=some (.tup (.str (ms i)::ys))/\(ms i).length<=1000)/\LamT P B cl q H /\
 ∀H1 i v,ButX P H H1->LamT P B cl q H1->xs[i]?=some v->(∀j,j<xs.length->(ms j).length<=(ms i).length/\(j<i->(ms j).length<(ms i).length))->Q v H1
section
variable {X:Cx}{pins:List (Addr×Obj)}{σ:St}{H:Hp}{s:Shared}{E:Value->Shared->Prop}
theorem zfo{q G:Addr}{qual:Str}{ac:Arguments}{scope:Scope}{pm ad:Value}{ae:Nat}{af p2 p3 p4 p5:Pos}{l:Addr}{xs:List V}{ms:Nat->Str}{Q:VK}(B:Inv X pins σ H s)(ai:X.calm=true)(aj:X.A.in1.depth<recursionLimit)(ak:X.mg "len"=none)(al:s.heap.get? q=some (W.kla_obj "<lambda>" qual ac (.Call (.Name "len" af) [.Subscript (.Name "fit" p2) (.Constant (.int 0) ae p3) p4] [] p5) scope [] pm G ad))(am:s.heap.CodeRec (.ref G) qual)(ao:q≠X.env.locals)(ap:G≠X.env.locals)(aq:∀a,bindArgs (W.kla_fn "<lambda>" qual ac (.Call (.Name "len" af) [.Subscript (.Name "fit" p2) (.Constant (.int 0) ae p3) p4] [] p5) scope [] pm (.ref G) ad) ⟨[.ref a],[]⟩=pure [(("fit":Str),Value.ref a)])(ar:scope.isCoroutine=false)(as:scope.isGenerator=false)(au:scope.kind=.function)(av:∀y∈scope.names,y.2≠.cell)(aw:scope.names.lookup ("fit":Str)=some .local)(ax:scope.names.lookup ("len":Str)=some .globalImplicit)(Y:H l=some (.lst xs))(hpos:0<xs.length)(ag:∀i,i<xs.length->∃a ys,xs[i]?=some (.ref a)/\H a=some (.tup (.str (ms i)::ys))/\(ms i).length<=1000)(h:∀i v,xs[i]?=some v->(∀j,j<xs.length->(ms j).length<=(ms i).length/\(j<i->(ms j).length<(ms i).length))->Q v H) :
  wpAny (model X.prog X.w) X.A (call (.builtin "max") [.ref l] [(Str.ofString "key",.ref q)]) (EP X pins σ Q) E s:=by
 obtain⟨aO,its,ay,Z,az⟩:=B.hok l _ Y;obtain⟨m,ah,_⟩:=id B.loc;have aP:xs.length=its.length:=Z.length;have aA:l≠X.env.locals:=λz=>by rw[z,B.free] at Y;cases Y
 have aQ:(1000:Nat)<=sizeLine:=by rw[sizeLine_eq];decide
 have aB:∀b o,X.base.get? b=some o->b≠X.env.locals:=λb o e=>Nat.ne_of_lt (Nat.lt_of_lt_of_le (Heap.lt_size e) (Nat.le_trans B.ok.bsz B.ok.above));obtain⟨aR,aC,aD⟩:=B.mod.blt;refine kmk_max (vs:=its) (λi=>((ms i).length:Int)) (B.ok.hd ai) (Att.fr_all ah) (zfR X.env.locals) (λh1 F N=>?_) (by omega) (λi v I h1 tk aS F N=>?_) (λi v h' aT I aE F N=>?_)
 .exact⟨_,zdd N _ _ aA az,J,ay,J⟩
 .have hi:i<its.length:=(List.getElem?_eq_some_iff.mp I).1;obtain⟨a,ys,O,U,aF⟩:=ag i (by omega);have aa:RelV (.ref a) v:=by
   have:=Z.get O;obtain⟨u,J0,r⟩:=this;rw[I] at J0;cases J0;exact r
  cases aa;obtain⟨aG,aU,rt,aH⟩:=B.hok a _ U;have aI:a≠X.env.locals:=λz=>by rw[z,B.free] at U;cases U
  have aJ:News (Att.noObjs s.heap) X.env.locals h1 (Att.ledger s.heap X.env.locals X.env.locals):=λp D=>N p (List.mem_append_left _ D);have k:=zdd aJ;have ab:∀b o,X.base.get? b=some o->h1.get? b=some o:=λb o e=>k b o (aB b o e) (B.bk b o e);cases rt with
  |cons aK rt=>
   rename_i u us;obtain⟨t0,aL⟩:=aK;subst aL;refine ziT (s:={ s with heap:=h1,toks:=tk }) (x:=ms i) (k q _ ao al) ?_ (aq a) ar as au av aw ax (B.mod.glob.keeps ab) ak (aC.keeps ab) ((aD "len" (by decide)).trans J) (B.mod.nolimit.keeps ab) aj (its:=.str (ms i) t0::us) ?_ rfl ?_ (by omega) (λh2 aV aW k2=>?_)
   .obtain⟨aX,oc,vs,t,e,aM,r⟩:=am;cases e;exact⟨G,oc,vs,t,J,k _ _ ap aM,r⟩
   .obtain⟨ob,aN,r⟩:=aH;exact⟨ob,k _ _ aI aN,r⟩
   .have:=rt.length;simp at aG ⊢;omega
   .refine KskEnd.intro ⟨F.ns.keeps k2,λb o e=>k2 b o (F.keep b o e),F.above⟩ (λp D=>⟨k2 _ _ (N p D).1,(N p D).2⟩) λp D=>D
 .have hi:i<its.length:=(List.getElem?_eq_some_iff.mp I).1;obtain⟨a,ys,O,U,aF⟩:=ag i (by omega);have aa:RelV (.ref a) v:=by
   obtain⟨u,J0,r⟩:=Z.get O;rw[I] at J0;cases J0;exact r
  refine⟨.ref a,H,B.lib ah F N,aa,h i _ O λj aY=>?_⟩;have:=aE j (by omega);exact⟨by omega,λq=>by have:=this.2 q;omega⟩
theorem zgJ{e:Expr}{te:TE}{P c:Addr}{j:Arguments}{scope:Scope}{I:Nat}{p J0 p2 p3 p4 p5 B aa pos:Pos}(ab:X.calm=true)(ac:X.A.in1.depth<recursionLimit)(ad:X.mg "max"=none)(ae:X.mg "len"=none)(af:X.env.code=.ref c)(ag:W.codeHdIn X.K c P=true)(ah:X.base.BuiltinsAt X.mg P)(ai:PE X e te)(aj:∀a D pm F,bindArgs (W.kla_fn "<lambda>" (X.env.qual++"<lambda>") j (.Call (.Name "len" J0) [.Subscript (.Name "fit" p2) (.Constant (.int 0) I p3) p4] [] p5) scope [] pm (.ref D) F) ⟨[.ref a],[]⟩=pure [(("fit":Str),Value.ref a)])(ak:Gl X "max":=by rfl)(al:defaultsOf j X.env=([],[]):=by rfl)(am:closureFor scope X.env=pure []:=by rfl)(ao:scope.isCoroutine=false:=by rfl)(ap:scope.isGenerator=false:=by rfl)(aq:scope.kind=.function:=by rfl)(ar:∀y∈scope.names,y.2≠.cell:=by decide)(as:scope.names.lookup ("fit":Str)=some .local:=by rfl)(au:scope.names.lookup ("len":Str)=some .globalImplicit:=by rfl)(h1:starEach [e] X.env=(false,eval e X.env)::starEach [] X.env:=by rfl)(h2:backTo pos (starEach [e] X.env)=(false,eval e X.env)::backTo pos (starEach [] X.env):=by rfl)(av:(backTo pos (starEach [e] X.env)).any (·.1)=false:=by rfl) :
  PE X (.Call (.Name "max" p) [e] [⟨some "key",.Lambda j (.Call (.Name "len" J0) [.Subscript (.Name "fit" p2) (.Constant (.int 0) I p3) p4] [] p5) scope B,aa⟩] pos) (tCB (zkf P B.line B.col (X.env.qual++"<lambda>")) (tCons te tNil)):=by
 intro pins s σ H Q O h;refine wpAny_Call_Name_kw (zbA O ak ad (u:=.builtin "max") rfl ?_ (by decide) (by decide));refine callWith_kw (thn ((zaa ai zad h1) pos pins s σ H _ O h) λus aK aw=>?_) h2 av;obtain⟨vs,H1,ax,r,q⟩:=aw;obtain⟨l,xs,ms,rfl,U,hpos,ay,V,q⟩:=q;obtain⟨u,rfl,az⟩:=vals1 r;cases az;refine kws_cons (W.kla_eval al (ziU ax V am af ag ah λf D F aL H2 aA G aB aC aD aE aF=>kws_nil ?_));obtain⟨ps,Y⟩:=V.tbl;refine zfo aA ab ac ae aC aD aE aF (λa=>aj a D _ F) ao ap aq ar as au (G _ _ (zaI U Y (by intro z;cases z)) U) hpos (λi hi=>?_) (λi v aG aH=>q H2 i v G aB aG aH);obtain⟨a,ys,aI,Z,aJ⟩:=ay i hi;exact⟨a,ys,aI,G _ _ (zaI Z Y (by intro z;cases z)) Z,aJ⟩
end
section
variable {prog:Program}{w:World}{A:Around}{E:Value->Shared->Prop}{s:Shared}
end
end L2
namespace T1
open PySem PySem.Spec PyProof.Rows L2
end T1
namespace L2
open PySem PySem.Spec PyProof.Rows
theorem zdV{X:Cx}{e:Expr}{te:TE}{D:Nat}{p p2 p3 F G pos:Pos}(I:X.mg "sorted"=none)(J0:X.mg "len"=none)(O:PE X e te)(U:Gl X "sorted":=by rfl)(V:Gl X "len":=by rfl)(h1:starEach [e] X.env=(false,eval e X.env)::starEach [] X.env:=by rfl)(h2:backTo pos (starEach [e] X.env)=(false,eval e X.env)::backTo pos (starEach [] X.env):=by rfl)(W:(backTo pos (starEach [e] X.env)).any (·.1)=false:=by rfl) :
  PE X (.Call (.Name "sorted" p) [e] [⟨some "key",.Name "len" p2,F⟩,⟨some "reverse",.Constant (.bool true) D p3,G⟩] pos) (tCB (zfT X.K true) (tCons te tNil)):=by
 intro pins s σ H Q j h;refine wpAny_Call_Name_kw (zbA j U I T1.b_sorted ?_ (by decide) (by decide));refine callWith_kw (thn ((zaa O zad h1) pos pins s σ H _ j h) λus Y Z=>?_) h2 W;obtain⟨vs,H1,B,r,q⟩:=Z;refine kws_cons (zbA B V J0 T1.b_len (kws_cons (thn (zcj pins Y σ H1 (λv H'=>v=.bl true/\H'=H1) B ⟨J,J⟩) λv af aa=>?_)) (by decide) (by decide));obtain⟨x,H2,ab,ac,ad,ae⟩:=aa;subst ad ae;cases ac;exact kws_nil (zdU ab r q (λl=>ksk_s2 _ _ _) (λx=>ksk_l2 _ _ _) (λx=>ksk_t5 "len" x true))
end L2
namespace T1
open PySem PySem.Spec PyProof.Rows L2
end T1
namespace L2
open PySem PySem.Spec PyProof.Rows
end L2
namespace T1
open PySem L2 PyProof.Rows
section
variable {X:Cx}{pins:List (Addr×Obj)}{σ:L2.St}{H:Hp}{s:Shared}{z z':Addr}
end
end T1
namespace L2
open PySem PySem.Spec PyProof.Rows
section
variable {κ:Type} [DecidableEq κ]
noncomputable def valV(kvs:List (κ×V))(k:κ):Option V:=(kvs.find? λj=>decide (j.1=k)).map (·.2)
noncomputable def putK(kvs:List (κ×V))(k:κ)(v:V):List (κ×V):=
 if (kvs.any λj=>decide (j.1=k))=true then kvs.map (λj=>if j.1=k then (j.1,v) else j) else kvs++[(k,v)]
theorem zfU{p:κ×V}{r:List (κ×V)}{k:κ}(e:p.1=k):valV (p::r) k=some p.2:=by simp[valV,List.find?_cons,e]
theorem zfV{p:κ×V}{r:List (κ×V)}{k:κ}(e:¬p.1=k):valV (p::r) k=valV r k:=by simp[valV,List.find?_cons,e]
theorem zcy(k:κ):∀kvs:List (κ×V),(kvs.any λj=>decide (j.1=k))=(valV kvs k).isSome
 |[]=>rfl
 |p::r=>by
  rw[List.any_cons];by_cases e:p.1=k
  .simp only[zfU e,decide_eq_true e,Bool.true_or,Option.isSome_some]
  .rw[zfV e,decide_eq_false e,Bool.false_or];exact zcy k r
theorem zcm(kvs:List (κ×V))(k:κ)(v:V):(putK kvs k v).length<=kvs.length+1:=by
 unfold putK;split
 .rw[List.length_map];omega
 .rw[List.length_append,List.length_cons,List.length_nil];omega
theorem ziV{kvs:List (κ×V)}{k:κ}(v:V)(h:valV kvs k=none):putK kvs k v=kvs++[(k,v)]:=by
 unfold putK;rw[zcy,h];exact if_neg (by decide)
theorem RelO.isSome_eq{o:Option V}{u:Option Value}(r:RelO o u):o.isSome=u.isSome:=by
 cases o with
 |none=>cases u with
  |none=>rfl
  |some _=>exact(show False from r).elim
 |some _=>cases u with
  |none=>exact(show False from r).elim
  |some _=>rfl
theorem KV.any{kvs:List (κ×V)}{vs:List (κ×Value)}(r:KV kvs vs)(k:κ):(kvs.any λj=>decide (j.1=k))=vs.any λj=>decide (j.1=k):=by
 unfold KV at r;induction r with
 |nil=>rfl
 |cons h t B=>rw[List.any_cons,List.any_cons,B,h.1]
theorem KV.repl{kvs:List (κ×V)}{vs:List (κ×Value)}(r:KV kvs vs)(k:κ){y:V}{u:Value}(B:RelV y u) :
  KV (kvs.map λj=>if j.1=k then (j.1,y) else j) (vs.map λj=>if j.1=k then (j.1,u) else j):=by
 unfold KV at r ⊢;induction r with
 |nil=>exact .nil
 |@cons p q ps F h t D=>
  rw[List.map_cons,List.map_cons];refine .cons ?_ D;obtain⟨h1,h2⟩:=h;by_cases e:p.1=k
  .rw[if_pos e,if_pos (h1.symm.trans e)];exact⟨h1,B⟩
  .rw[if_neg e,if_neg (λz=>e (h1.trans z))];exact⟨h1,h2⟩
theorem KV.put{kvs:List (κ×V)}{vs:List (κ×Value)}(r:KV kvs vs)(k:κ){y:V}{u:Value}(j:RelV y u):KV (putK kvs k y) (stored vs k u):=by
 unfold putK stored;rw[r.any k];by_cases e:(vs.any λB=>decide (B.1=k))=true
 .rw[if_pos e,if_pos e];exact r.repl k j
 .rw[if_neg e,if_neg e];exact Paired.snoc r ⟨J,j⟩
theorem KV.length{kvs:List (κ×V)}{vs:List (κ×Value)}(r:KV kvs vs):kvs.length=vs.length:=Paired.length r
end
theorem ziW{P:Program}{w:World}{k:Key}{u:Value}(r:RelV (kV k) u):(zav P w).is k u=true:=by
 cases k with
 |inl i=>obtain⟨t,e⟩:=(show ∃t,u=Value.int i t from r);subst e;exact zfi P w i t
 |inr x=>obtain⟨t,e⟩:=(show ∃t,u=Value.str x t from r);subst e;exact zfj P w x t
theorem zdz{P:Program}{w:World}:∀ {ks:List Key}{us:List Value},Vals (ks.map kV) us->ItemsAre (zav P w) ks us
 |[],_,r=>by rw[List.map_nil] at r;cases r;exact .nil
 |k::ks,_,r=>by
  rw[List.map_cons] at r;cases r with
  |cons h t=>exact .cons (ziW h) (zdz t)
noncomputable abbrev KT(H:Hp):List (List Key×V)->List (List Key×Addr×Value)->Prop:=Paired λp q=>p.1=q.1/\H q.2.1=some (.tup (p.1.map kV))/\RelV p.2 q.2.2
theorem KT.val{H:Hp}{kvs:List (List Key×V)}{xs:List (List Key×Addr×Value)}(r:KT H kvs xs)(k:List Key):RelO (valV kvs k) ((atKey xs k).map (·.2)):=by
 induction r with
 |nil=>exact True.intro
 |@cons p q ps j h t D=>
  obtain⟨h1,_,h2⟩:=h;by_cases e:p.1=k
  .have B:q.1=k:=h1.symm.trans e;have b:atKey (q::j) k=some q.2:=by simp[atKey,List.find?_cons,B]
   rw[zfU e,b];exact h2
  .have B:¬q.1=k:=λz=>e (h1.trans z);have b:atKey (q::j) k=atKey j k:=by simp[atKey,List.find?_cons,B]
   rw[zfV e,b];exact D
theorem KT.repl{H:Hp}{kvs:List (List Key×V)}{xs:List (List Key×Addr×Value)}(r:KT H kvs xs)(k:List Key){y:V}{u:Value}(B:RelV y u) :
  KT H (kvs.map λj=>if j.1=k then (j.1,y) else j) (xs.map (putAt k u)):=by
 induction r with
 |nil=>exact .nil
 |@cons p q ps G h t D=>
  rw[List.map_cons,List.map_cons];refine .cons ?_ D;obtain⟨h1,h2,F⟩:=h;unfold putAt;by_cases e:p.1=k
  .rw[if_pos e,if_pos (h1.symm.trans e)];exact⟨h1,h2,B⟩
  .rw[if_neg e,if_neg (λz=>e (h1.trans z))];exact⟨h1,h2,F⟩
theorem KT.put{H:Hp}{kvs:List (List Key×V)}{xs:List (List Key×Addr×Value)}(r:KT H kvs xs)(k:List Key){b:Addr}{y:V}{u:Value}(B:H b=some (.tup (k.map kV)))(j:RelV y u) :
  KT H (putK kvs k y) (storedH xs k b u):=by
 have e:(kvs.any λD=>decide (D.1=k))=(atKey xs k).isSome:=by
  rw[zcy,(r.val k).isSome_eq,Option.isSome_map]
 unfold putK storedH;rw[e];by_cases q:(atKey xs k).isSome=true
 .rw[if_pos q,if_pos q];exact r.repl k j
 .rw[if_neg q,if_neg q];exact Paired.snoc r ⟨J,B,j⟩
theorem KT.keeps{H H':Hp}{kvs:List (List Key×V)}{xs:List (List Key×Addr×Value)}(r:KT H kvs xs)(j:∀b ys,H b=some (.tup ys)->H' b=some (.tup ys)):KT H' kvs xs:=
 Paired.mapP r λ_ _ z=>⟨z.1,j _ _ z.2.1,z.2.2⟩
section
variable {P:Program}{w:World}{H:Hp}{h:Heap}{a:Addr}
theorem zlw{u:HO}(ok:HOk P w H h)(e:Rd H a u):ObjOk P w H h a u:=e.ok ok
theorem zlx{kvs:List (Key×V)}(ok:HOk P w H h)(e:Rd H a (.dK kvs)):kvs.length<=sizeLine/\(a==sysModules)=false/\∃vs,KV kvs vs/\h.DictOf (zav P w) a vs:=
 show ObjOk P w H h a (.dK kvs) from zlw ok e
theorem zhw{kvs:List (Key×V)}(ok:HOk P w H h)(e:H a=some (.dK kvs)):kvs.length<=sizeLine/\(a==sysModules)=false/\∃vs,KV kvs vs/\h.DictOf (zav P w) a vs:=zlx ok (.inl e)
theorem zjM{ks:List Key}(ok:HOk P w H h)(e:H a=some (.tup (ks.map kV))):(tupleKind (zav P w)).is h ks a:=by
 obtain⟨_,its,r,o,h1,h2,n,j⟩:=(show ObjOk P w H h a (.tup (ks.map kV)) from ok a _ e);exact⟨o,its.toArray,n,h1,h2,j,by simpa using zdz r⟩
theorem zly{kvs:List (List Key×V)}(ok:HOk P w H h)(e:Rd H a (.dT kvs)):kvs.length<=sizeLine/\(a==sysModules)=false /\
  ∃xs,KT H kvs xs/\h.DictOfH (tupleKind (zav P w)) a xs:=by
 obtain⟨z,y,xs,r,o,es,ep,h1,h2,B,D,F⟩:=(show ObjOk P w H h a (.dT kvs) from zlw ok e);refine⟨z,y,xs,r,o,es,ep,h1,h2,B,D,λx hx=>?_,F⟩;have G:∀ {l:List (List Key×V)} {m:List (List Key×Addr×Value)},KT H l m->∀x∈m,(tupleKind (zav P w)).is h x.1 x.2.1:=by
  intro l m q;induction q with
  |nil=>intro x hx;exact nomatch hx
  |@cons p q ps J0 j t I=>
   intro x hx;rcases List.mem_cons.mp hx with e|hx
   .subst e;exact zjM ok (by rw[←j.1];exact j.2.1)
   .exact I x hx
 exact G r x hx
theorem zmh{kvs:List (List Key×V)}(ok:HOk P w H h)(e:H a=some (.dT kvs)):kvs.length<=sizeLine/\(a==sysModules)=false /\
  ∃xs,KT H kvs xs/\h.DictOfH (tupleKind (zav P w)) a xs:=zly ok (.inl e)
end
noncomputable def DPut(H:Hp)(a:Addr)(y v:V)(H':Hp):Prop:=
 (∃kvs k,H a=some (.dK kvs)/\y=kV k/\kvs.length<sizeLine/\H'=upd H a (.dK (putK kvs k v))) ∨
 ∃kvs k b,H a=some (.dT kvs)/\y=.ref b/\H b=some (.tup (k.map kV))/\kvs.length<sizeLine/\H'=upd H a (.dT (putK kvs k v))
theorem DPut.k{H:Hp}{a:Addr}{kvs:List (Key×V)}{k:Key}{v:V}(e:H a=some (.dK kvs))(j:kvs.length<sizeLine):DPut H a (kV k) v (upd H a (.dK (putK kvs k v))):=.inl ⟨kvs,k,e,J,j,J⟩
section
variable {X:Cx}{pins:List (Addr×Obj)}{σ:St}{H:Hp}{s:Shared}{a:Addr}{y v:V}{u r:Value}{o:Option V}{A:Around}{E:Value->Shared->Prop}
theorem Inv.big(j:Inv X pins σ H s):sysModules<s.heap.objs.size:=by
 have h:mainGlobals<s.heap.objs.size:=(j.mod.glob.keeps j.bk).lt;exact Nat.lt_trans (by decide) h
theorem zcO{h':Heap}{t':Nat}{ob:HO}(j:Inv X pins σ H s)(B:Mut (H a))(D:Heap.SameBut a s.heap h')(F:∃q,h'.get? a=some q)(G:ObjOk X.prog X.w (upd H a ob) h' a ob) :
  Inv X pins σ (upd H a ob) { s with heap:=h',toks:=t' }:=
 j.write (x:=a) (e:=a) B (.inl J) (λb q I z=>(D.2 b I).trans z) F G
theorem zhx{P:Program}{w:World}{H':Hp}{h':Heap}{kvs:List (Key×V)}{vs:List (Key×Value)}(z:kvs.length<=sizeLine)(j:(a==sysModules)=false)(B:KV kvs vs)(dd:h'.DictOf (zav P w) a vs) :
  ObjOk P w H' h' a (.dK kvs):=⟨z,j,vs,B,dd⟩
theorem zhy{H':Hp}{Q:Unit->Shared->Prop}(ab:A.units+1<cLine)(j:Inv X pins σ H s)(g:DPut H a y v H')(W:RelV y u)(Y:RelV v r)(h:∀s',Inv X pins σ H' s'->Q () s') :
  wpAny (model X.prog X.w) A (setItem (.ref a) u r) Q E s:=by
 rcases g with⟨kvs,k,e,G,l,I⟩|⟨kvs,k,b,e,G,Z,l,I⟩
 .subst G I;obtain⟨z,J0,vs,B,dd⟩:=zhw j.hok e;have O:vs.length<=sizeLine:=by rw[←B.length];exact z
  have U:(putK kvs k v).length<=sizeLine:=by have:=zcm kvs k v;omega
  refine wpAny_setItem_pairs (hsz:=O) (ziW W) dd λh' D V=>h _ ?_;have ac:∃q,h'.get? a=some q:=let ⟨q,_,_,F,_⟩:=D;⟨q,F⟩;exact zcO j (by rw[e];exact True.intro) V ac (zhx U J0 (B.put k Y) D)
 .subst G I;cases (show u=Value.ref b from W);obtain⟨z,J0,xs,B,dd⟩:=zmh j.hok e;have O:xs.length<=sizeLine:=by rw[←Paired.length B];exact z
  have U:(putK kvs k v).length<=sizeLine:=by have:=zcm kvs k v;omega
  refine wpAny_setItem_heap (hsz:=O) (tupleKind_room_in1 ab) (zjM j.hok Z) dd λh' D V=>h _ ?_;obtain⟨q,es,ep,F,h2,ad,ae,_,af⟩:=D;refine zcO j (by rw[e];exact True.intro) V ⟨q,F⟩ ⟨U,J0,_,(B.put k Z Y).keeps λc ys aa=>?_,q,es,ep,F,h2,ad,ae,af⟩;rw[zan (zaI aa e (λz=>nomatch z))];exact aa
end
section
variable {X:Cx}{pins:List (Addr×Obj)}{σ:St}{H:Hp}{s:Shared}{a:Addr}{kvs:List (Key×V)}{k:Key}{u:Value}{A:Around}{E:Value->Shared->Prop}
end
noncomputable def NoSl(i:Expr):Prop:=∀j B,subscripted i false j B=operate [j,B] (getItem j B)
theorem zkg{prog:Program}{w:World}{A:Around}{E:Value->Shared->Prop}{s:Shared}{env:Env}{value j:Expr}{pos:Pos}{T id:String}{Q:Value->Shared->Prop}(O:typeLookup (.type T) "__getitem__"=pure (some (.builtin id)))(U:NoSl j)(h:wpAny (model prog w) A (eval value env) (λo G=>wpAny (model prog w) A (eval j env) (λi B=>B.TypeIs o T/\wpAny (model prog w) A (getItem o i) Q E B) E G) E s) :
  wpAny (model prog w) A (eval (.Subscript value j pos) env) Q E s:=by
 refine Subscript_ (wpAny_mono h (λo G h₁=>wpAny_mono h₁ (λi B D=>?_) λ_ _ x=>x) λ_ _ x=>x);obtain⟨I,D⟩:=D;unfold subscriptTail;refine wpAny_bind ?_;rw[getitemInPython_of_ne I.not_modules];refine wpAny_bind (wpAny_specialOf I O ?_);have F:wpAny (model prog w) A (subscripted j false o i) (λr J0=>wpAny (model prog w) A (letTemporaryGo value o r >>= λ_=>pure r) Q E J0) E B:=by
  rw[U o i];exact wpAny_operating (wpAny_mono D (λr J0 V=>wpAny_bind (wpAny_letTemporaryGo (wpAny_pure V))) λ_ _ x=>x)
 first
  |exact wpAny_pure (wpAny_bind F)
  |exact wpAny_bind (wpAny_pure (wpAny_bind F))
  |exact wpAny_bind F
noncomputable def sDPut(td ty tv:TE):TS:=λD σ H=>tv σ H λv H1=>td σ H1 λx H2=>ty σ H2 λy B=>∃a j,x=.ref a/\DPut B a y v j/\D.nx σ j
section
variable {X:Cx}{o i e value:Expr}{pos pos' tpos:Pos}{td ty tv:TE}
theorem zkh(j:X.A.units+1<cLine)(B:PE X o td)(hi:PE X i ty)(F:PE X value tv)(G:swapsWith value (some (.Subscript o i pos')) pos.line X.env=pure false) :
  PS X (.Assign [.Subscript o i pos'] value pos) (sDPut td ty tv):=by
 intro pins s σ H D I h;refine wpAny_Assign_Subscript (thn (F pins s σ H _ I h) λr J0 O=>?_) G;obtain⟨v,H1,U,V,W⟩:=O;refine thn (B pins J0 σ H1 _ U W) λu Y Z=>?_;obtain⟨x,H2,aa,ab,ac⟩:=Z;refine thn (hi pins Y σ H2 _ aa ac) λaj ak ad=>?_;obtain⟨y,al,ae,af,a,ag,ex,g,ah⟩:=ad;subst ex;obtain rfl:u=Value.ref a:=ab;exact zhy j ae g af V λam ai=>⟨σ,ag,ai,ah⟩
end
theorem zfW{P:Program}{w:World}{H:Hp}(h:Heap)(j:sysModules<h.objs.size):ObjOk P w H (h.push { cls:=.type "dict",data:=.dict #[] }) h.objs.size (.dK []):=
 ⟨Nat.zero_le _,beq_eq_false_iff_ne.mpr (Ne.symm (Nat.ne_of_lt j)),[],.nil,Heap.DictOf.new h⟩
noncomputable def zlz:TE:=λ_ H Q=>∀p,H p=none->Q (.ref p) (upd H p (.dK []))
section
variable {X:Cx}{pos:Pos}
theorem zde:PE X (.Dict [] [] pos) zlz:=λpins s σ H Q j h=>
 wpAny_Dict_empty ⟨.ref s.heap.objs.size,_,j.laid (a:=s.heap.objs.size) (o:=.dK []) (t':=s.toks) (λ_ _ q=>Heap.get?_push_of_some _ q) (Nat.le_refl _) (zfW s.heap j.big),J,h _ (j.hok.fresh (Nat.le_refl _))⟩
end
noncomputable def zhz:List (TE×TE)->St->Hp->(List (V×V)->Hp->Prop)->Prop
 |[],_,H,Q=>Q [] H
 |(tk,tv)::r,σ,H,Q=>tk σ H λx H1=>tv σ H1 λy H2=>zhz r σ H2 λps j=>Q ((x,y)::ps) j
noncomputable abbrev VV:List (V×V)->List (Value×Value)->Prop:=Paired λp q=>RelV p.1 q.1/\RelV p.2 q.2
noncomputable def PPs(X:Cx)(pos:Pos)(j:List (Option Expr))(B:List Expr)(D:List (TE×TE)):Prop:=
 ∀(pins:List (Addr×Obj)) (s:Shared) (σ:St) (H:Hp) (Q:List (V×V)->Hp->Prop),Inv X pins σ H s->zhz D σ H Q ->
  wpAny (model X.prog X.w) X.A (evalPairs (pairTrees j B X.env pos)) (λvs s'=>∃ps H',Inv X pins σ H' s'/\VV ps vs/\Q ps H') X.xe s
theorem zki{X:Cx}{pos:Pos}:PPs X pos [] [] []:=λpins s σ H Q j h=>pairTrees_nil_walk ⟨[],H,j,.nil,h⟩
theorem ziX{X:Cx}{pos:Pos}{k v:Expr}{ks:List (Option Expr)}{vs:List Expr}{tk tv:TE}{j:List (TE×TE)}(B:PE X k tk)(D:PE X v tv)(F:PPs X pos ks vs j) :
  PPs X pos (some k::ks) (v::vs) ((tk,tv)::j):=λpins s σ H Q G h=>
 pairTrees_cons_walk (thn (B pins s σ H _ G h) λu I ⟨x,H1,J0,O,U⟩=>thn (D pins I σ H1 _ J0 U) λae V ⟨y,H2,W,Y,Z⟩=>
  thn (F pins V σ H2 _ W Z) λaf ag ⟨ps,aa,ab,ac,ad⟩=>⟨(x,y)::ps,aa,ab,.cons ⟨O,Y⟩ ac,ad⟩)
noncomputable def zbZ(kvs B:List (Key×V)):List (Key×V):=B.foldl (λD j=>putK D j.1 j.2) kvs
theorem KV.merge:∀ {j:List (Key×V)}{B:List (Key×Value)}{kvs:List (Key×V)}{vs:List (Key×Value)},KV j B->KV kvs vs->KV (zbZ kvs j) (merged vs B):=by
 intro j B kvs vs r;unfold KV at r;induction r generalizing kvs vs with
 |nil=>intro q;exact q
 |@cons p q ps G h t D=>
  intro F;have e:KV (putK kvs p.1 p.2) (stored vs q.1 q.2):=by
   have:=F.put p.1 h.2;rw[←h.1];exact this
  exact D e
theorem zbL:∀(j kvs:List (Key×V)),(zbZ kvs j).length<=kvs.length+j.length
 |[],kvs=>by show kvs.length<=kvs.length+0;omega
 |p::r,kvs=>by
  have h1:=zbL r (putK kvs p.1 p.2);have h2:=zcm kvs p.1 p.2;show (zbZ (putK kvs p.1 p.2) r).length<=_;rw[List.length_cons];omega
theorem zd2{P:Program}{w:World}:∀ {kvs:List (Key×V)}{B:List (Value×Value)},VV (kvs.map λD=>(kV D.1,D.2)) B->∃j,Carries (zav P w) B j/\KV kvs j
 |[],_,r=>by rw[List.map_nil] at r;cases r;exact⟨[],True.intro,.nil⟩
 |p::kvs,_,r=>by
  rw[List.map_cons] at r;cases r with
  |@cons a b G bs h t=>
   obtain⟨j,c,q⟩:=zd2 (P:=P) (w:=w) t;obtain⟨I,F⟩:=b;exact⟨(p.1,F)::j,⟨ziW h.1,J,c⟩,.cons ⟨J,h.2⟩ q⟩
noncomputable def tDisp(B:List (TE×TE)):TE:=λσ H Q=>∀p,H p=none->zhz B σ (upd H p (.dK [])) λps H2=>H2 p=some (.dK [])/\∃kvs:List (Key×V),ps=kvs.map (λj=>(kV j.1,j.2))/\kvs.length<=15/\Q (.ref p) (upd H2 p (.dK (zbZ [] kvs)))
theorem zkj{X:Cx}{pos:Pos}{j:List (Option Expr)}{B:List Expr}{F:List (TE×TE)}(h:PPs X pos j B F)(J0:j.all (·.isSome)=true)(O:j.length=B.length)(U:j≠[])(V:j.length<=15):PE X (.Dict j B pos) (tDisp F):=by
 intro pins s σ H Q D q;have W:=D.hok.fresh (Nat.le_refl s.heap.objs.size);have Y:=D.laid (a:=s.heap.objs.size) (o:=.dK []) (h':=s.heap.push { cls:=.type "dict",data:=.dict #[] }) (t':=s.toks) (λ_ _ q=>Heap.get?_push_of_some _ q) (Nat.le_refl _) (zfW s.heap D.big);refine wpAny_Dict_walk (knd:=zav X.prog X.w) J0 O U V (thn (h pins _ σ _ _ Y (q _ W)) λak al Z=>?_);obtain⟨ps,H2,G,aa,e,kvs,ep,am,ab⟩:=Z;subst ep;obtain⟨ac,c,ad⟩:=zd2 (P:=X.prog) (w:=X.w) aa;obtain⟨z,ae,ao,af,dd⟩:=zhw G.hok e;cases af;refine⟨ac,c,dd,λh' I ag=>⟨.ref s.heap.objs.size,_,?_,J,ab⟩⟩;have ah:(zbZ [] kvs).length<=sizeLine:=by
  have h1:=zbL kvs [];rw[List.length_nil] at h1;rw[sizeLine_eq];omega
 have ai:∃q,h'.get? s.heap.objs.size=some q:=let ⟨q,_,_,aj,_⟩:=I;⟨q,aj⟩;exact zcO G (by rw[e];exact True.intro) ag ai (zhx ah ae (ad.merge .nil) I)
structure M1(X:Cx)(o:Expr)(m:Str)(apos:Pos)(e:Expr)(cpos:Pos):Prop where
 base:attributeBase o m X.env (eval o X.env)=eval o X.env
 few:((backTo cpos (starEach [e] X.env)).all (λx=>!x.1)&&(backToKw cpos (keywordEach [] X.env)).all (λx=>x.1.isSome)
  && decide (([e]:List Expr).length+([]:List Keyword).length+(if ([]:List Keyword).isEmpty then 0 else 1)<30))=true
 line:(apos.endLine==cpos.line)=true
 trees:backTo cpos (starEach [e] X.env)=[(false,eval e X.env)]
noncomputable def IsD(H:Hp)(a:Addr):Prop:=(∃kvs,Rd H a (.dK kvs))∨∃kvs,Rd H a (.dT kvs)
theorem zlA{X:Cx}{pins:List (Addr×Obj)}{σ:St}{H:Hp}{s:Shared}{a:Addr}(B:Inv X pins σ H s)(d:IsD H a) :
  s.TypeIs (.ref a) "dict"/\(∀b,Value.ref a=.ref b->∃ob,s.heap.get? b=some ob/\ob.dict=none)/\(a==sysModules)=false:=by
 rcases d with⟨kvs,e⟩|⟨kvs,e⟩
 .obtain⟨_,j,vs,_,dd⟩:=zlx B.hok e;refine⟨dd.typeIs,λb q=>?_,j⟩;cases q;obtain⟨ob,_,_,h1,h2,_⟩:=dd;exact⟨ob,h1,h2.2.1⟩
 .obtain⟨_,j,xs,_,dd⟩:=zly B.hok e;refine⟨dd.typeIs,λb q=>?_,j⟩;cases q;obtain⟨ob,_,_,h1,h2,_⟩:=dd;exact⟨ob,h1,h2.2.1⟩
section
variable {X:Cx}{pins:List (Addr×Obj)}{σ:St}{H:Hp}{s:Shared}{a:Addr}{y d:V}{u r:Value}{o:Option V}{A:Around}{E:Value->Shared->Prop}
end
section
variable {X:Cx}{o e f:Expr}{apos cpos:Pos}{td ty tx:TE}
end
section
variable {X:Cx}{pins:List (Addr×Obj)}{σ:St}{H:Hp}{s:Shared}{a:Addr}{kvs:List (Key×V)}{A:Around}{E:Value->Shared->Prop}
end
section
variable {X:Cx}{pins:List (Addr×Obj)}{σ:St}{H:Hp}{s:Shared}{a:Addr}{y:V}{u:Value}{A:Around}{E:Value->Shared->Prop}
end
section
variable {κ:Type} [DecidableEq κ]
theorem ziY{kvs:List (κ×V)}{k:κ}(h:valV kvs k=none):¬k∈kvs.map (·.1):=by
 intro m;obtain⟨p,j,e⟩:=List.mem_map.mp m;have q:(kvs.any λB=>decide (B.1=k))=true:=List.any_eq_true.mpr ⟨p,j,decide_eq_true e⟩;rw[zcy,h] at q;exact absurd q (by simp)
theorem zhA:∀ {l:List κ}{k:κ},l.Nodup->¬k∈l->(l++[k]).Nodup
 |[],k,_,_=>by simp
 |a::r,k,h,j=>by
  obtain⟨h1,h2⟩:=List.nodup_cons.mp h;show (a::(r++[k])).Nodup;refine List.nodup_cons.mpr ⟨λm=>?_,zhA h2 λm=>j (List.mem_cons.mpr (Or.inr m))⟩;rcases List.mem_append.mp m with q|q
  .exact h1 q
  .exact j (List.mem_cons.mpr (Or.inl (List.mem_singleton.mp q).symm))
theorem zkk{kvs:List (κ×V)}{k:κ}(v:V)(j:(kvs.map (·.1)).Nodup)(h:valV kvs k=none):((putK kvs k v).map (·.1)).Nodup:=by
 rw[ziV v h,List.map_append];exact zhA j (ziY h)
end
section
variable {P:Program}{w:World}{A:Around}{X:Value->Shared->Prop}{s:Shared}{b:Array Keyed}
end
section
variable {X:Cx}
end
section
variable {X:Cx}{sc:Scope}{cl:List (Str×Addr)}{N':List Str}{s:Shared}{H:Hp}{fp:List Addr}
theorem zkl:SlR (X.blk sc cl N' s H fp) (rSlT X.K):=zlj
end
theorem bd0{j:Type}{f g:List Value->j}(h:f []=g [])(us:List Value)(e:us.length=0):f us=g us:=by
 rw[List.eq_nil_of_length_eq_zero e];exact h
theorem bdS{j:Type}{n:Nat}{f g:List Value->j}(h:∀a us,us.length=n->f (a::us)=g (a::us))(us:List Value)(e:us.length=n+1):f us=g us:=by
 cases us with
 |nil=>cases e
 |cons a r=>exact h a r (Nat.succ.inj e)
theorem bd1{j:Type}{f g:List Value->j}(h:∀a,f [a]=g [a]):∀us:List Value,us.length=1->f us=g us:=bdS λa=>bd0 (f:=λr=>f (a::r)) (g:=λr=>g (a::r)) (h a)
theorem bd2{j:Type}{f g:List Value->j}(h:∀a b,f [a,b]=g [a,b]):∀us:List Value,us.length=2->f us=g us:=bdS λa=>bd1 (f:=λr=>f (a::r)) (g:=λr=>g (a::r)) (h a)
theorem bd3{j:Type}{f g:List Value->j}(h:∀a b c,f [a,b,c]=g [a,b,c]):∀us:List Value,us.length=3->f us=g us:=bdS λa=>bd2 (f:=λr=>f (a::r)) (g:=λr=>g (a::r)) (h a)
theorem bd4{j:Type}{f g:List Value->j}(h:∀a b c d,f [a,b,c,d]=g [a,b,c,d]):∀us:List Value,us.length=4->f us=g us:=bdS λa=>bd3 (f:=λr=>f (a::r)) (g:=λr=>g (a::r)) (h a)
theorem bd5{j:Type}{f g:List Value->j}(h:∀a b c d e,f [a,b,c,d,e]=g [a,b,c,d,e]):∀us:List Value,us.length=5->f us=g us:=bdS λa=>bd4 (f:=λr=>f (a::r)) (g:=λr=>g (a::r)) (h a)
noncomputable abbrev NKey:=Sum Key (List Key)
section
variable (P:Program) (w:World)
noncomputable def ItemIs(h:Heap):NKey->Value->Prop
 |.inl k,v=>(zav P w).is k v=true
 |.inr l,v=>∃d,v=.ref d/\IsTupleKey (zav P w) h l d
inductive NItems(h:Heap):List NKey->List Value->Prop
 |nil:NItems h [] []
 |cons {k:NKey} {v:Value} {ks:List NKey} {vs:List Value}:ItemIs P w h k v->NItems h ks vs->NItems h (k::ks) (v::vs)
noncomputable def IsNest(h:Heap)(ks:List NKey)(a:Addr):Prop:=∃o j n,h.get? a=some o/\o.cls=.type "tuple"/\o.data=.seq j n/\NItems P w h ks j.toList
noncomputable def zbh:NKey->Int
 |.inl k=>(zav P w).hash k
 |.inr l=>tupleKeyHash (zav P w) l
noncomputable def zbC:NKey->Nat
 |.inl _=>1
 |.inr l=>l.length+1
noncomputable def zel(ks:List NKey):Int:=reduceHash (Builtin.Tuple.tupleHashOf (ks.map (zbh P w)))
noncomputable def zdA(ks:List NKey):Nat:=(ks.map zbC).sum+1
end
section
variable {P:Program}{w:World}{A:Around}{E:Value->Shared->Prop}{s:Shared}
theorem ItemIs.inj{h:Heap}{x y:NKey}{v:Value}(B:ItemIs P w h x v)(j:ItemIs P w h y v):x=y:=by
 cases x with
 |inl k=>
  cases y with
  |inl D=>rw[(zav P w).inj _ _ _ B j]
  |inr l=>
   obtain⟨d,rfl,_⟩:=j;have:=(zav P w).byValue _ _ B;simp[carriedByValue] at this
 |inr l=>
  obtain⟨d,rfl,h1⟩:=B;cases y with
  |inl k=>
   have:=(zav P w).byValue _ _ j;simp[carriedByValue] at this
  |inr l'=>
   obtain⟨d',e,h2⟩:=j;cases e;rw[h1.inj h2]
theorem NItems.inj{h:Heap}{x y:List NKey}{vs:List Value}(B:NItems P w h x vs)(j:NItems P w h y vs):x=y:=by
 induction B generalizing y with
 |nil=>cases j;rfl
 |cons h1 _ D=>
  cases j with
  |cons h2 F=>rw[ItemIs.inj h1 h2,D F]
theorem IsNest.typeIs{ks:List NKey}{a:Addr}(x:IsNest P w s.heap ks a):s.TypeIs (.ref a) "tuple":=let ⟨o,_,_,j,B,_⟩:=x;⟨o,j,B⟩
theorem IsNest.inj{h:Heap}{a:Addr}{x y:List NKey}(B:IsNest P w h x a)(D:IsNest P w h y a):x=y:=by
 obtain⟨o,O,n,F,_,G,hi⟩:=B;obtain⟨o',U,n',I,_,j,J0⟩:=D;obtain rfl:o=o':=Option.some.inj (F.symm.trans I);rw[G] at j;injection j with h1 _;subst h1;exact hi.inj J0
theorem NItems.keeps{h h':Heap}{ks:List NKey}{vs:List Value}(x:NItems P w h ks vs)(k:∀l d,IsTupleKey (zav P w) h l d->IsTupleKey (zav P w) h' l d):NItems P w h' ks vs:=by
 induction x with
 |nil=>exact .nil
 |@cons j v ks vs h1 _ B=>
  refine .cons ?_ B;cases j with
  |inl _=>exact h1
  |inr l=>obtain⟨d,e,h2⟩:=h1;exact⟨d,e,k l d h2⟩
theorem IsNest.keeps{h h':Heap}{ks:List NKey}{a d:Addr}{o:Obj}{es ep}(x:IsNest P w h ks a)(B:h.get? d=some o)(D:o.data=.dict es ep)(F:Heap.SameBut d h h'):IsNest P w h' ks a:=by
 obtain⟨o',I,n,G,J0,j,hi⟩:=x;have O:a≠d:=by
  rintro rfl;obtain rfl:o'=o:=Option.some.inj (G.symm.trans B);rw[D] at j;exact nomatch j
 exact⟨o',I,n,(F.2 a O).trans G,J0,j,hi.keeps λl d' q=>q.keeps B D F⟩
theorem zcP{ks:List NKey}{a:Addr}{Q:Int->Shared->Prop}(Y:A.units+4<cLine)(O:IsNest P w s.heap ks a)(h:Q (zel P w ks) { s with toks:=s.toks+zdA ks }) :
  wpAny (model P w) A (pyHash (.ref a)) Q E s:=by
 have B:=O.typeIs;have U:A.units<cLine:=by omega
 obtain⟨o,Z,n,V,_,W,hi⟩:=O;unfold pyHash
 first|unfold pyHashByItsType|skip
 first|refine wpAny_bind (wpAny_cRoomFor_or (.inr U) ?_)|skip
 refine wpAny_bind (wpAny_specialOf B F.slot_tuple_hash.lookup ?_);show wpAny _ _ (if (some (Value.builtin "tuple.__hash__")==some Value.none)=true then _ else _) Q E s;rw[if_neg (by rw[beq_builtin_none];exact Bool.false_ne_true)];refine wpAny_bind (wpAny_specialOf B F.slot_tuple_hash.lookup ?_);show wpAny _ _ (callSpecialIfBoundUnlessNone? (.ref a) "__hash__" _ >>= _) Q E s;refine wpAny_bind (wpAny_callSpecialIfBoundUnlessNone?_slot B F.slot_tuple_hash (wpAny_call_entry F.slot_tuple_hash B F.entry_tuple_hash ?_ (F.args_tuple_hash_1 _)));show wpAny _ _ (Builtin.Tuple.tupleItemsOf (.ref a) >>= _) _ _ s;refine wpAny_bind (wpAny_tupleItemsOf V W ?_);refine wpAny_bind ?_;rw[←Array.forIn_toList];refine wpAny_forIn_list _
  (λrest (b:Array Int) s'=>∃done left,ks=done++left/\NItems P w s.heap left rest/\b.toList=done.map (zbh P w)/\s'={ s with toks:=s.toks+(done.map zbC).sum })
  _ ?_ ?_ _ _ ⟨[],ks,J,hi,J,J⟩
 .rintro x rest b s' ⟨done,left,rfl,J0,j,rfl⟩;cases J0 with
  |@cons k _ D _ h1 G=>
   cases k with
   |inl k=>
    refine wpAny_bind ((zav P w).pyHash h1 ?_)
    first
     |exact wpAny_pure ⟨done++[.inl k],D,by simp,G,by simp[j,zbh],by simp[zbC,Nat.add_assoc]⟩
     |exact wpAny_bind (wpAny_pure (wpAny_pure ⟨done++[.inl k],D,by simp,G,by simp[j,zbh],by simp[zbC,Nat.add_assoc]⟩))
   |inr l=>
    obtain⟨d,rfl,h2⟩:=h1;refine wpAny_bind (wpAny_pyHash_tuple (knd:=zav P w) (ks:=l) ?_ h2 ?_)
    .show A.units+1<cLine;omega
    first
     |exact wpAny_pure ⟨done++[.inr l],D,by simp,G,by simp[j,zbh],by simp[zbC,Nat.add_assoc]⟩
     |exact wpAny_bind (wpAny_pure (wpAny_pure ⟨done++[.inr l],D,by simp,G,by simp[j,zbh],by simp[zbC,Nat.add_assoc]⟩))
 .rintro b s' ⟨done,left,rfl,J0,j,rfl⟩;cases J0;rw[List.append_nil] at h;unfold zdA at h;show wpAny _ _ (retInt (Builtin.Tuple.tupleHashOf b.toList)) _ _ _;rw[j];refine wpAny_ret_mkInt ?_;show wpAny _ _ (if (decide (-(2:Int) ^ 63<=Builtin.Tuple.tupleHashOf (done.map (zbh P w)))&&decide (Builtin.Tuple.tupleHashOf (done.map (zbh P w))<2 ^ 63))=true then _ else _) Q E _;unfold zel reduceHash at h;by_cases I:(decide (-(2:Int) ^ 63<=Builtin.Tuple.tupleHashOf (done.map (zbh P w)))&&decide (Builtin.Tuple.tupleHashOf (done.map (zbh P w))<2 ^ 63))=true
  .rw[if_pos I];rw[if_pos I] at h;exact wpAny_pure (by simpa [Nat.add_assoc] using h)
  .rw[if_neg I];rw[if_neg I] at h;exact wpAny_bind (wpAny_rule (wpAny_pure (by simpa [Nat.add_assoc] using h)))
theorem zc3{x y:List NKey}{a b:Addr}{R:Fin->Shared->Prop}(ag:A.units<cLine)(ah:IsNest P w s.heap x a)(ab:IsNest P w s.heap y b)(sh:x.map Sum.isLeft=y.map Sum.isLeft)(h:R (.done (.ret (.bool (decide (x=y))))) s) :
  wpAny (model P w) A (Builtin.«tuple.__eq__» ⟨[.ref a,.ref b],[]⟩) R E s:=by
 have ai:=ab.typeIs;obtain⟨aA,xs,aB,aj,_,ak,al⟩:=ah;obtain⟨ob,ys,aC,am,_,ao,ap⟩:=ab;show wpAny _ _ (isInstance (.ref b) (.type "tuple") >>= _) _ _ s;refine wpAny_bind (wpAny_isInstance ai isSubtype_tuple_tuple ?_);simp only[Bool.not_true,Bool.false_eq_true,if_false];refine wpAny_bind (wpAny_tupleItemsOf aj ak ?_);refine wpAny_bind (wpAny_tupleItemsOf am ao ?_);refine wpAny_bind ?_;refine wpAny_forIn_list _
  (λrest r s'=>r.1=none/\s'=s/\∃D F G I,rest=List.zip G I/\NItems P w s.heap D G/\NItems P w s.heap F I/\D.map Sum.isLeft=F.map Sum.isLeft/\decide (D=F)=decide (x=y)/\(G.length==I.length)=(xs.size==ys.size))
  _ ?_ ?_ _ _ ⟨J,J,x,y,xs.toList,ys.toList,J,al,ap,sh,J,by simp⟩
 .rintro⟨u,v⟩ rest r s' ⟨W,rfl,D,F,G,I,B,Y,J0,Z,O,aa⟩;cases Y with
  |nil=>simp at B
  |@cons k1 aD ac aq h1 ar=>
   cases J0 with
   |nil=>simp at B
   |@cons k2 aE ad as h2 au=>
    simp only[List.zip_cons_cons,List.cons.injEq,Prod.mk.injEq] at B;obtain⟨⟨rfl,rfl⟩,rfl⟩:=B;rw[List.map_cons,List.map_cons] at Z;injection Z with ae av;have step:∀Q:Bool->Shared->Prop,Q (decide (k1=k2)) s'->wpAny (model P w) A (eqBool u v) Q E s':=λQ q=>by
     cases k1 with
     |inl k1=>
      cases k2 with
      |inl k2=>
       refine(zav P w).eqBool (a:=k1) (b:=k2) h1 h2 ?_;have e:decide ((Sum.inl k1:NKey)=Sum.inl k2)=decide (k1=k2):=by
        by_cases j:k1=k2
        .rw[j];simp
        .rw[decide_eq_false j,decide_eq_false (λz=>j (Sum.inl.inj z))]
       rw[←e];exact q
      |inr _=>simp at ae
     |inr U=>
      cases k2 with
      |inl _=>simp at ae
      |inr V=>
       obtain⟨aF,rfl,aw⟩:=h1;obtain⟨aG,rfl,ax⟩:=h2;refine wpAny_eqBool_tuple (knd:=zav P w) (x:=U) (y:=V) ag aw ax ?_;have e:decide ((Sum.inr U:NKey)=Sum.inr V)=decide (U=V):=by
        by_cases j:U=V
        .rw[j];simp
        .rw[decide_eq_false j,decide_eq_false (λz=>j (Sum.inr.inj z))]
       rw[←e];exact q
    refine wpAny_bind (step _ ?_);by_cases j:k1=k2
    .subst j;rw[decide_eq_true rfl];simp only[Bool.not_true,Bool.false_eq_true,if_false];refine wpAny_pure ⟨J,J,ac,ad,aq,as,J,ar,au,av,?_,by simpa using aa⟩;rw[←O];by_cases af:ac=ad
     .simp[af]
     .simp[af]
    .rw[decide_eq_false j];simp only[Bool.not_false,if_true];have ay:decide (x=y)=false:=by rw[←O];simp[j]
     rw[ay] at h;exact wpAny_bind (wpAny_pure (wpAny_pure (wpAny_pure h)))
 .rintro⟨aH,aI⟩ s' ⟨W,rfl,D,F,G,I,B,Y,J0,Z,O,aa⟩;simp only at W;subst W;refine wpAny_pure ?_;have az:(xs.size==ys.size)=decide (x=y):=by
   rw[←O,←aa];cases Y with
   |nil=>
    cases J0 with
    |nil=>simp
    |cons _ _=>simp
   |cons _ _=>
    cases J0 with
    |nil=>simp
    |cons _ _=>simp at B
  show R (.done (.ret (.bool (xs.size==ys.size)))) s';rw[az];exact h
theorem zbD{x y:List NKey}{a b:Addr}{Q:Bool->Shared->Prop}(G:A.units+4<cLine)(j:IsNest P w s.heap x a)(B:IsNest P w s.heap y b)(sh:x.map Sum.isLeft=y.map Sum.isLeft)(h:Q (decide (x=y)) s) :
  wpAny (model P w) A (eqBool (.ref a) (.ref b)) Q E s:=by
 unfold eqBool
 try with_reducible refine wpAny_holding ?_
 show wpAny _ _ (if (Value.ref a==Value.ref b)=true then _ else _) Q E s;by_cases D:(Value.ref a==Value.ref b)=true
 .rw[if_pos D];have e:a=b:=by have:=eq_of_beq D;injection this
  subst e;obtain rfl:=j.inj B;exact wpAny_bind (wpAny_rule (wpAny_pure (by simpa using h)))
 .rw[if_neg D];exact wpAny_bind (wpAny_richCompare_same_room (op:=.Eq) j.typeIs B.typeIs F.slot_tuple_eq
   (wpAny_call_entry F.slot_tuple_eq j.typeIs F.entry_tuple_eq (zc3 (by first|exact(show A.units+1<cLine by omega)|exact(show A.units+2<cLine by omega)|exact(show A.units<cLine by omega)) j B sh ⟨_,J,(λe=>nomatch e),wpAny_truthy_bool h⟩) (F.args_tuple_eq_2 _ _)) (by omega))
theorem zgK{ks:List Key}{a:Addr}{Q:Bool->Shared->Prop}(m:Nat)(B:IsTupleKey (zav P w) s.heap ks a)(h:Q true s):wpAny (model P w) A (eqIsQuiet (m+1) (.ref a)) Q E s:=by
 have D:=B.typeIs;obtain⟨o,I,n,J0,_,O,hi⟩:=B;unfold eqIsQuiet;refine wpAny_bind (wpAny_specialOf D F.slot_tuple_eq.lookup ?_);show wpAny _ _ (isInstance (.ref a) (.type "tuple") >>= _) _ _ s;refine wpAny_bind (wpAny_isInstance D isSubtype_tuple_tuple ?_);simp only[Bool.not_true,Bool.false_eq_true,if_false];refine wpAny_bind (wpAny_seqItems J0 O ?_);refine wpAny_bind ?_;show wpAny _ _ (forIn I _ _) _ _ s;rw[←Array.forIn_toList];refine wpAny_forIn_list _ (λrest r s'=>r.1=none/\s'=s/\∀v∈rest,carriedByValue v=true) _ ?_ ?_ _ _ ⟨J,J,hi.byValue⟩
 .rintro v rest r s' ⟨j,rfl,G⟩;rw[eqIsQuiet_byValue _ (G v List.mem_cons_self)];refine wpAny_bind (wpAny_pure ?_);simp only[Bool.not_true,Bool.false_eq_true,if_false];exact wpAny_pure ⟨J,J,λu U=>G u (List.mem_cons_of_mem _ U)⟩
 .rintro⟨V,W⟩ s' ⟨j,rfl,_⟩;simp only at j;subst j;exact wpAny_pure h
theorem zgL{ks:List NKey}{a:Addr}{Q:Bool->Shared->Prop}(B:IsNest P w s.heap ks a)(h:Q true s):wpAny (model P w) A (eqIsQuiet 8 (.ref a)) Q E s:=by
 have D:=B.typeIs;obtain⟨o,J0,n,O,_,U,hi⟩:=B;unfold eqIsQuiet;refine wpAny_bind (wpAny_specialOf D F.slot_tuple_eq.lookup ?_);show wpAny _ _ (isInstance (.ref a) (.type "tuple") >>= _) _ _ s;refine wpAny_bind (wpAny_isInstance D isSubtype_tuple_tuple ?_);simp only[Bool.not_true,Bool.false_eq_true,if_false];refine wpAny_bind (wpAny_seqItems O U ?_);refine wpAny_bind ?_;show wpAny _ _ (forIn J0 _ _) _ _ s;rw[←Array.forIn_toList];refine wpAny_forIn_list _ (λrest r s'=>r.1=none/\s'=s/\∃left,NItems P w s.heap left rest) _ ?_ ?_ _ _ ⟨J,J,ks,hi⟩
 .rintro v rest r s' ⟨j,rfl,left,V⟩;cases V with
  |@cons k _ G _ h1 I=>
   cases k with
   |inl k=>
    rw[eqIsQuiet_byValue _ ((zav P w).byValue _ _ h1)];refine wpAny_bind (wpAny_pure ?_);simp only[Bool.not_true,Bool.false_eq_true,if_false];exact wpAny_pure ⟨J,J,G,I⟩
   |inr l=>
    obtain⟨d,rfl,h2⟩:=h1;refine wpAny_bind (zgK 6 h2 ?_);simp only[Bool.not_true,Bool.false_eq_true,if_false];exact wpAny_pure ⟨J,J,G,I⟩
 .rintro⟨W,Y⟩ s' ⟨j,rfl,_⟩;simp only at j;subst j;exact wpAny_pure h
end
noncomputable def zcz(P:Program)(w:World)(sh:List Bool):HeapKind P w (List NKey) where
 is:=λh ks a=>IsNest P w h ks a/\ks.map Sum.isLeft=sh
 hash:=zel P w
 draws:=zdA
 room:=λA=>A.units+4<cLine
 inj:=λj B=>j.1.inj B.1
 keeps:=λx G I J0=>⟨x.1.keeps G I J0,x.2⟩
 pyHash:=λD F h=>zcP D F.1 h
 eqBool:=λD j B h=>zbD D j.1 B.1 (j.2.trans B.2.symm) h
 quiet:=λF h=>zgL F.1 h
noncomputable abbrev NEnt:=List NKey×Addr×V
noncomputable abbrev NPair(p:NEnt)(q:List NKey×Addr×Value):Prop:=p.1=q.1/\p.2.1=q.2.1/\RelV p.2.2 q.2.2
noncomputable def dN(P:Program)(w:World)(sh:List Bool)(a:Addr)(kvs:List NEnt):HO:=.ext λh=>(a==sysModules)=false/\kvs.length<=sizeLine/\∃xs,Paired NPair kvs xs /\
 ∃o es ep,h.get? a=some o/\o.ExactDict/\o.data=.dict es ep/\es.toList=xs.map (entryOfKey (zcz P w sh))/\(xs.map (·.1)).Nodup
noncomputable def nval(kvs:List NEnt)(k:List NKey):Option V:=(kvs.find? λp=>decide (p.1=k)).map (·.2.2)
section
variable {P:Program}{w:World}{H H':Hp}{h:Heap}{a:Addr}{sh:List Bool}{kvs:List NEnt}
theorem zlB{k:Key}{u:Value}(r:RelV (kV k) u):(zav P w).is k u=true:=ziW r
theorem zfX{xs:List (List NKey×Addr×Value)}(r:Paired NPair kvs xs)(k:List NKey):RelO (nval kvs k) ((atKey xs k).map (·.2)):=by
 induction r with
 |nil=>exact trivial
 |@cons p q ps j D t F=>
  obtain⟨h1,h2,G⟩:=D;by_cases e:p.1=k
  .have B:q.1=k:=h1.symm.trans e;have b:atKey (q::j) k=some q.2:=by simp[atKey,List.find?_cons,B]
   have c:nval (p::ps) k=some p.2.2:=by simp[nval,List.find?_cons,e]
   rw[c,b];exact G
  .have B:¬q.1=k:=λz=>e (h1.trans z);have b:atKey (q::j) k=atKey j k:=by simp[atKey,List.find?_cons,B]
   have c:nval (p::ps) k=nval ps k:=by simp[nval,List.find?_cons,e]
   rw[c,b];exact F
end
section
variable {X:Cx}
theorem zeR(j:X.A.units+6<cLine)(sh:List Bool):(zcz X.prog X.w sh).room X.A.in1:=by
 show X.A.units+1+4<cLine;omega
theorem ziZ(sh:List Bool){pos:Pos}:PE X (.Dict [] [] pos) (λ_ H Q=>∀p,H p=none->Q (.ref p) (upd H p (dN X.prog X.w sh p []))):=λpins s σ H Q j h=>by
 refine wpAny_Dict_empty ⟨.ref s.heap.objs.size,_,j.laid (a:=s.heap.objs.size) (o:=dN X.prog X.w sh s.heap.objs.size []) (t':=s.toks) (λ_ _ q=>Heap.get?_push_of_some _ q) (Nat.le_refl _) ?_,J,h _ (j.hok.fresh (Nat.le_refl _))⟩;refine⟨⟨beq_eq_false_iff_ne.mpr (Ne.symm (Nat.ne_of_lt j.big)),Nat.zero_le _,[],.nil,_,#[],0,Heap.get?_push_size _ J,⟨J,J,J⟩,J,J,List.nodup_nil⟩,⟨_,Heap.get?_push_size _ J⟩,?_⟩;rintro W Y ⟨B,D,F,G,o',I,J0,O,U⟩ V;exact⟨B,D,F,G,o',I,J0,V _ O,U⟩
end
noncomputable def NW(K:W.Frag)(H:Hp):NKey->V->Prop
 |.inl k,v=>v=kV k
 |.inr l,v=>∃d,v=.ref d/\SqT K H d (l.map kV)
noncomputable def NKeyW(K:W.Frag)(H:Hp)(ks:List NKey)(a:Addr):Prop:=∃vs,H a=some (.tup vs)/\Paired (NW K H) ks vs
noncomputable def KeysW(K:W.Frag)(H:Hp)(sh:List Bool)(kvs:List NEnt):Prop:=∀p∈kvs,NKeyW K H p.1 p.2.1/\p.1.map Sum.isLeft=sh
section
variable {K:W.Frag}{H H':Hp}{a:Addr}{sh:List Bool}{kvs:List NEnt}
theorem NW.same{x:NKey}{v:V}(h:NW K H x v)(s:Same H H'):NW K H' x v:=by
 cases x with
 |inl _=>exact h
 |inr l=>obtain⟨d,e,h2⟩:=h;exact⟨d,e,by
   rcases h2 with(h|⟨o,h⟩)|h
   .exact .inl (.inl (s _ _ h))
   .exact .inl (.inr ⟨o,s _ _ h⟩)
   .exact .inr h⟩
theorem NKeyW.same{ks:List NKey}(r:NKeyW K H ks a)(s:Same H H'):NKeyW K H' ks a:=by
 obtain⟨vs,e,r⟩:=r;refine⟨vs,s _ _ e,?_⟩;clear e;induction r with
 |nil=>exact .nil
 |cons h1 _ j=>exact .cons (h1.same s) j
theorem KeysW.same(r:KeysW K H sh kvs)(s:Same H H'):KeysW K H' sh kvs:=λp j=>⟨(r p j).1.same s,(r p j).2⟩
end
section
variable {X:Cx}{pins:List (Addr×Obj)}{σ:St}{H:Hp}{s:Shared}{a:Addr}{sh:List Bool}{kvs:List NEnt}
theorem keyI{l:List Key}(j:Inv X pins σ H s)(h:SqT X.K H a (l.map kV)):IsTupleKey (zav X.prog X.w) s.heap l a:=by
 obtain⟨its,r,⟨o,h1,h2,n,B⟩,_⟩:=j.tuple h;exact⟨o,its.toArray,n,h1,h2,B,by simpa using zdz r⟩
theorem nestI{ks:List NKey}(B:Inv X pins σ H s)(e:NKeyW X.K H ks a):IsNest X.prog X.w s.heap ks a:=by
 obtain⟨vs,e,r⟩:=e;obtain⟨its,j,⟨o,h1,h2,n,F⟩,_⟩:=B.tuple (SqT.of e);refine⟨o,its.toArray,n,h1,h2,F,?_⟩;have G:∀ {ks:List NKey} {vs:List V} {us:List Value},Paired (NW X.K H) ks vs->Vals vs us->NItems X.prog X.w s.heap ks us:=by
  intro ks vs us r;induction r generalizing us with
  |nil=>intro j;cases j;exact .nil
  |@cons x v xs vs h1 _ I=>
   intro j;cases j with
   |@cons _ u _ us D j=>
    refine .cons ?_ (I j);cases x with
    |inl k=>
     obtain rfl:v=kV k:=h1;exact zlB D
    |inr l=>
     obtain⟨d,rfl,h2⟩:=h1;obtain rfl:u=Value.ref d:=D;exact⟨d,J,keyI B h2⟩
 exact G r j
theorem dnI(j:Inv X pins σ H s)(e:H a=some (dN X.prog X.w sh a kvs))(F:KeysW X.K H sh kvs):(a==sysModules)=false/\kvs.length<=sizeLine/\∃xs,Paired NPair kvs xs/\s.heap.DictOfH (zcz X.prog X.w sh) a xs:=by
 obtain⟨⟨h1,h2,xs,r,o,es,ep,G,I,J0,O,U⟩,_,_⟩:=(show ObjOk X.prog X.w H s.heap a (dN X.prog X.w sh a kvs) from j.hok a _ e);refine⟨h1,h2,xs,r,o,es,ep,G,I,J0,O,λx hx=>?_,U⟩;have V:∀ {l:List NEnt} {m:List (List NKey×Addr×Value)},Paired NPair l m->(∀p∈l,NKeyW X.K H p.1 p.2.1/\p.1.map Sum.isLeft=sh)->∀x∈m,(zcz X.prog X.w sh).is s.heap x.1 x.2.1:=by
  intro l m q;induction q with
  |nil=>intro _ x hx;exact nomatch hx
  |@cons p q ps Z B t W=>
   intro D x hx;rcases List.mem_cons.mp hx with e|hx
   .subst e;have:=D p List.mem_cons_self;rw[B.1,B.2.1] at this;exact⟨nestI j this.1,this.2⟩
   .exact W (λp Y=>D p (List.mem_cons_of_mem _ Y)) x hx
 exact V r F x hx
end
section
variable {X:Cx}
noncomputable def rIxW(P:Program)(w:World)(K:W.Frag)(sh:List Bool):R2:=λx y H Q=>∃a r ks kvs v,x=.ref a/\y=.ref r/\H a=some (dN P w sh a kvs)/\KeysW K H sh kvs/\NKeyW K H ks r/\ks.map Sum.isLeft=sh/\nval kvs ks=some v/\Q v H
theorem zfY{o i:Expr}{pos:Pos}{td ty:TE}(B:X.A.units+6<cLine)(sh:List Bool)(D:PE X o td)(hi:PE X i ty)(F:NoSl i):PE X (.Subscript o i pos) (tOp (rIxW X.prog X.w X.K sh) td ty):=by
 intro pins s σ H Q G h;refine zkg PySem.F.slot_dict_getitem.lookup F (thn (D pins s σ H _ G h) λu I J0=>?_);obtain⟨x,H1,O,U,V⟩:=J0;refine thn (hi pins I σ H1 _ O V) λak al W=>?_;obtain⟨y,H2,j,Y,a,r,ks,kvs,v,ex,Z,aa,ab,ac,ad,ae,af⟩:=W;subst ex Z;cases U;cases Y;obtain⟨am,ao,xs,ag,dd⟩:=dnI j aa ab;refine⟨dd.typeIs,?_⟩;obtain⟨ap,hw,ah⟩:=RelO.some_of (v:=v) (o:=(atKey xs ks).map (·.2)) (by rw[←ae];exact zfX ag ks);obtain⟨p,ai,aj⟩:=Option.map_eq_some_iff.mp hw;refine wpAny_getItem_heap (zeR B sh) ⟨nestI j ac,ad⟩ dd ai ?_;rw[aj];exact⟨v,H2,j.tok _,ah,af⟩
noncomputable def rSetW(P:Program)(w:World)(K:W.Frag)(sh:List Bool):TSet:=λo i v H Q=>∃a r ks kvs,o=.ref a/\i=.ref r/\H a=some (dN P w sh a kvs)/\KeysW K H sh kvs/\NKeyW K H ks r/\ks.map Sum.isLeft=sh/\nval kvs ks=none/\kvs.length<sizeLine/\Q (upd H a (dN P w sh a (kvs++[(ks,r,v)])))
theorem zmi(J0:X.A.units+6<cLine)(sh:List Bool):PSet X (rSetW X.prog X.w X.K sh):=by
 intro pins s σ H o i v au av u Q j O U V h;obtain⟨a,r,ks,kvs,rfl,rfl,G,W,Y,Z,aa,aw,q⟩:=h;cases O;cases U;obtain⟨ab,ac,xs,B,dd⟩:=dnI j G W;have ad:atKey xs ks=none:=by
  have e:=(zfX B ks).isSome_eq;rw[Option.isSome_map,aa] at e;cases g:atKey xs ks with
  |none=>rfl
  |some _=>rw[g] at e;cases e
 refine wpAny_setItem_heap (hsz:=by rw[←Paired.length B];exact ac) (zeR J0 sh) ⟨nestI j Y,Z⟩ dd λh' I ae=>?_;rw[storedH_new ad] at I;obtain⟨D,es,ep,F,h2,af,ag,_,ah⟩:=I;have ai:(a==sysModules)=false/\(kvs++[(ks,r,v)]).length<=sizeLine/\∃xs,Paired NPair (kvs++[(ks,r,v)]) xs/\∃o es ep,h'.get? a=some o/\o.ExactDict/\o.data=.dict es ep/\es.toList=xs.map (entryOfKey (zcz X.prog X.w sh))/\(xs.map (·.1)).Nodup:=
  ⟨ab,by rw[List.length_append];show _+1<=_;omega,xs++[(ks,r,u)],Paired.snoc B ⟨J,J,V⟩,D,es,ep,F,h2,af,ag,ah⟩
 refine⟨upd H a (dN X.prog X.w sh a (kvs++[(ks,r,v)])),zcO j (by rw[G];exact True.intro) ae ⟨D,F⟩ ⟨ai,⟨D,F⟩,?_⟩,q⟩;rintro ax ay ⟨aj,ak,al,am,o',ao,ap,aq,ar⟩ as;exact⟨aj,ak,al,am,o',ao,ap,as _ aq,ar⟩
end
end L2
namespace T1
open PySem PySem.Spec PyProof.Rows L2
theorem vals_ref:∀ {j:List V}{its:List Value},Vals j its->(∀v∈j,∃a,v=.ref a)->∀(i:Nat) (u:Value),its[i]?=some u->∃a,u=.ref a/\j[i]?=some (.ref a)
 |_,_,.nil,_=>λi u h=>by simp at h
 |v::j,I::its,.cons r t,B=>λi u h=>by
  cases i with
  |zero=>
   simp at h;subst h;obtain⟨a,rfl⟩:=B v List.mem_cons_self;cases r;exact⟨a,J,J⟩
  |succ i=>
   obtain⟨a,D,F⟩:=vals_ref t (λv G=>B v (List.mem_cons_of_mem _ G)) i u (by simpa using h);exact⟨a,D,by simpa using F⟩
end T1
namespace L2
open PySem PySem.Spec PyProof.Rows
section
variable {X:Cx}{pins:List (Addr×Obj)}{σ:St}{H:Hp}{s:Shared}{a:Addr}
theorem zcA{l:List Key}(B:Inv X pins σ H s)(h:SqT X.K H a (l.map kV))(P:Program)(w:World):IsNest P w s.heap (l.map Sum.inl) a:=by
 obtain⟨its,r,⟨o,h1,h2,n,D⟩,_⟩:=B.tuple h;refine⟨o,its.toArray,n,h1,h2,D,?_⟩;have F:∀ {l:List Key} {us:List Value},Vals (l.map kV) us->NItems P w s.heap (l.map Sum.inl) us:=by
  intro l;induction l with
  |nil=>intro us j;cases j;exact .nil
  |cons k l G=>
   intro us j;cases j with
   |cons I j=>exact .cons (zlB I) (G j)
 exact F r
theorem mapI{j D:Type}{f:j->D}(B:∀a b,f a=f b->a=b):∀ {l m:List j},l.map f=m.map f->l=m
 |[],[],_=>rfl
 |[],_::_,h=>nomatch h
 |_::_,[],h=>nomatch h
 |a::l,b::m,h=>by
  rw[List.map_cons,List.map_cons] at h;injection h with h1 h2;rw[B _ _ h1,mapI B h2]
theorem zhB{l m:List Key}:(decide ((l.map Sum.inl:List NKey)=m.map Sum.inl))=decide (l=m):=by
 refine decide_eq_decide.mpr ⟨λh=>?_,λh=>by rw[h]⟩;exact mapI (λa b e=>by injection e) h
theorem zfZ(l:List Key):(l.map Sum.inl:List NKey).map Sum.isLeft=List.replicate l.length true:=by
 induction l with
 |nil=>rfl
 |cons a r j=>rw[List.map_cons,List.map_cons,j];rfl
end
section
variable {X:Cx}
noncomputable def rEqR(K:W.Frag):R2:=λx y H Q=>∃(a b:Addr) (l m:List Key),x=.ref a/\y=.ref b/\SqT K H a (l.map kV)/\SqT K H b (m.map kV)/\l.length=m.length/\Q (.bl (decide (l=m))) H
theorem zjN(U:X.A.units+4<cLine):OpR X (compareOp .Eq) (rEqR X.K):=by
 intro pins s σ H x y v u Q j F G h;obtain⟨a,b,l,m,rfl,rfl,I,J0,O,q⟩:=h;cases F;cases G;have B:=zcA j I X.prog X.w;have D:=zcA j J0 X.prog X.w;show wpAny _ _ (richCompare .Eq _ _) _ _ _;refine wpAny_richCompare_same_room (op:=.Eq) B.typeIs D.typeIs PySem.F.slot_tuple_eq
   (wpAny_call_entry PySem.F.slot_tuple_eq B.typeIs PySem.F.entry_tuple_eq (zc3 (by first|exact(show X.A.units+1<cLine by omega)|exact(show X.A.units+2<cLine by omega)|exact(show X.A.units<cLine by omega)) B D (by rw[zfZ,zfZ,O]) ⟨_,J,(λe=>nomatch e),?_⟩) (PySem.F.args_tuple_eq_2 _ _)) (by omega)
 rw[zhB];exact⟨.bl _,H,j,J,q⟩
noncomputable def zkm(K:W.Frag):R2:=λx y H Q=>∃(a p:Addr) (j:List Addr) (l:List Key) (B:List (List Key)),x=.ref a/\y=.ref p/\H p=some (.lst (j.map V.ref))/\SqT K H a (l.map kV)/\j.length=B.length/\(∀i (h:i<j.length),SqT K H j[i] ((B.getD i []).map kV)/\(B.getD i []).length=l.length)/\Q (.bl (!(B.any λm=>decide (m=l)))) H
theorem zhC(ak:X.A.units+6<cLine):OpR X (compareOp .NotIn) (zkm X.K):=by
 intro pins s σ H x y v u Q G Z aa h;obtain⟨a,p,O,l,D,rfl,rfl,ab,ac,al,U,q⟩:=h;cases Z;cases aa;obtain⟨its,r,ad,am⟩:=G.list (SqL.of ab);have ae:=r.length;rw[List.length_map] at ae;have af:=T1.vals_ref r (λv ag=>by obtain⟨b,_,rfl⟩:=List.mem_map.mp ag;exact⟨b,J⟩);have W:∀i (hi:i<its.length),its[i]=Value.ref (O[i]'(by omega)):=λi hi=>by
  obtain⟨b,ah,B⟩:=af i its[i] (by simp[hi]);rw[ah];have:O[i]?=some b:=by
   rw[List.getElem?_map] at B;cases g:O[i]? with
   |none=>rw[g] at B;cases B
   |some c=>rw[g] at B;injection B with B;injection B with B;rw[B]
  rw[List.getElem?_eq_getElem (by omega)] at this;injection this with this;rw[this]
 have ai:∀i (hi:i<its.length),decide (∃j,∃F:j<its.length,its[j]=its[i]/\D.getD j []=l)=decide (D.getD i []=l):=λi hi=>by
  refine decide_eq_decide.mpr ⟨?_,λg=>⟨i,hi,J,g⟩⟩;rintro⟨j,F,I,g⟩;rw[W i hi,W j F] at I;injection I with I;have h1:=(U i (by omega)).1;have h2:=(U j (by omega)).1;rw[I] at h2;have e:=G.tuple_inj h1 h2;have inj:∀ {x y:List Key},x.map kV=y.map kV->x=y:=λ{x y} h=>mapI (λa b e=>by
   rcases a with a|a<;>rcases b with b|b
   .have:V.int a=V.int b:=e;injection this with this;rw[this]
   .have:V.int a=V.str b:=e;cases this
   .have:V.str a=V.int b:=e;cases this
   .have:V.str a=V.str b:=e;injection this with this;rw[this]) h
  rw[inj e];exact g
 refine SeqAt.notIn_listAt (λw=>decide (∃j,∃F:j<its.length,its[j]=w/\D.getD j []=l)) ad.isList (λw hw=>?_) ⟨.bl _,H,G,J,?_⟩
 .have hw:w∈its:=by simpa using hw
  obtain⟨i,hi,rfl⟩:=List.mem_iff_getElem.mp hw;show SeqAt.EqAt X.A.in1 s its[i] _ (decide _);rw[ai i hi,W i hi];intro P w E ao Y;obtain⟨h1,h2⟩:=U i (by omega);refine zbD (x:=(D.getD i []).map Sum.inl) (y:=l.map Sum.inl) (by show X.A.units+1+4<cLine;omega) (zcA G h1 P w) (zcA G ac P w) (by rw[zfZ,zfZ,h2]) ?_;rw[zhB];exact Y
 .have e:its.toArray.any (λw=>decide (∃j,∃F:j<its.length,its[j]=w/\D.getD j []=l))=D.any λm=>decide (m=l):=by
   rw[Bool.eq_iff_iff];simp only[List.any_toArray,List.any_eq_true];constructor
   .rintro⟨w,hw,Y⟩;obtain⟨j,F,_,g⟩:=of_decide_eq_true Y;have J0:j<D.length:=by omega
    exact⟨D.getD j [],by simp[J0],decide_eq_true g⟩
   .rintro⟨e,aj,g⟩;obtain⟨j,F,rfl⟩:=List.mem_iff_getElem.mp aj;have J0:j<its.length:=by omega
    exact⟨its[j],List.getElem_mem J0,decide_eq_true ⟨j,J0,J,by simpa [F] using g⟩⟩
  rw[e];exact q
end
noncomputable def dE(P:Program)(w:World)(a:Addr)(ep:Nat)(kvs:List (Key×V)):HO:=.ext λh=>(a==sysModules)=false/\kvs.length<=sizeLine/\∃vs,KV kvs vs/\h.DictAt (zav P w) a vs ep
theorem zhD{P:Program}{w:World}{k:Key}{u:Value}(h:(zav P w).is k u=true):RelV (kV k) u:=by
 rcases zaQ (show keyIs k u=true from h) with⟨i,t,rfl,rfl⟩|⟨x,t,rfl,rfl⟩
 .exact⟨t,J⟩
 .exact⟨t,J⟩
theorem zi0{P:Program}{w:World}{H:Hp}{h:Heap}{a:Addr}{ep:Nat}{kvs:List (Key×V)}(ok:HOk P w H h)(e:H a=some (dE P w a ep kvs)):(a==sysModules)=false/\kvs.length<=sizeLine/\∃vs,KV kvs vs/\h.DictAt (zav P w) a vs ep:=
 (show ObjOk P w H h a (dE P w a ep kvs) from ok a _ e).1
section
variable {X:Cx}{pins:List (Addr×Obj)}{σ:St}{H:Hp}{s:Shared}{a:Addr}{kvs:List (Key×V)}
theorem zmj(j:Inv X pins σ H s)(e:H a=some (.dK kvs)):∃ep,Inv X pins σ (upd H a (dE X.prog X.w a ep kvs)) s:=by
 obtain⟨z,F,vs,G,dd⟩:=zhw j.hok e;obtain⟨ep,B⟩:=dd.dictAt;obtain⟨o,es,D,r⟩:=id B;refine⟨ep,zcO (h':=s.heap) (t':=s.toks) j (by rw[e];exact True.intro) ⟨J,λ_ _=>rfl⟩ ⟨o,D⟩ ⟨⟨F,z,vs,G,B⟩,⟨o,D⟩,?_⟩⟩;rintro aa ab ⟨I,J0,O,U,o',V,W,Y⟩ Z;exact⟨I,J0,O,U,o',V,Z _ W,Y⟩
end
noncomputable def ItD(P:Program)(w:World)(d:Addr)(ep:Nat)(kvs:List (Key×V)):It:=
 ⟨λi H=>H d=some (dE P w d ep kvs)/\i<kvs.length,λi H x H'=>H'=H/\∃p,kvs[i]?=some p/\x=kV p.1,λi H=>H d=some (dE P w d ep kvs)/\kvs.length<=i⟩
theorem KV.at{κ:Type}{kvs:List (κ×V)}{vs:List (κ×Value)}(r:KV kvs vs){i:Nat}{p:κ×V}(h:kvs[i]?=some p):∃u,vs[i]?=some (p.1,u):=by
 induction r generalizing i with
 |nil=>simp at h
 |cons q t j=>
  cases i with
  |zero=>
   rename_i a b _ _;simp at h;subst h;exact⟨b.2,by simp[q.1]⟩
  |succ i=>exact j (by simpa using h)
theorem zhE{P:Program}{w:World}{K:W.Frag}{tg:Expr}(d it:Addr)(ep:Nat)(kvs:List (Key×V)):Turn P w K tg (ItD P w d ep kvs) [it] it (λi h=>h.IsKeyIter it d i kvs.length ep) where
 mem:=by simp
 obj:=λi h st b j=>by
  have e:b=it:=by simpa using j
  subst e;obtain⟨o,e,c,d⟩:=st;exact⟨o,e,λv z=>by rw[d] at z;cases z⟩
 keep:=λi h h' st k=>let ⟨o,e,r⟩:=st;⟨o,k it (by simp) o e,r⟩
 item:=by
  intro X I hw J0 af i pins s σ H E B D st O;subst I hw J0;obtain⟨U,hi⟩:=O;obtain⟨_,_,vs,F,Y⟩:=zi0 B.hok U;have G:=KV.length F;obtain⟨p,ag⟩:∃p,kvs[i]?=some p:=⟨kvs[i],by simp[hi]⟩;obtain⟨u,ah⟩:=KV.at F ag;obtain⟨Z,aa,ai,ab,ac,ad⟩:=D it (by simp);rw[G] at st;refine wpAny_pyNext_dict_item st Y ah λaj h' ak ae al=>?_;have am:Inv X pins σ H { s with heap:=h' }:=B.turned (t':=s.toks) (λb o j e=>(al.2 b j).trans e) Z aa ab ac ad;obtain⟨o,e,c,d⟩:=id ae;rw[←G] at ae;exact⟨aj,J,zec (s:={ s with heap:=h' }) e c d (by decide) ⟨kV p.1,H,am,zhD ak,⟨J,p,ag,J⟩,ae,λb j=>(D b j).1⟩⟩
 done:=by
  intro X I hw J0 af i pins s σ H E B D st O;subst I hw J0;obtain⟨U,hi⟩:=O;obtain⟨_,_,vs,F,Y⟩:=zi0 B.hok U;have G:=KV.length F;obtain⟨Z,aa,ai,ab,ac,ad⟩:=D it (by simp);rw[G] at st;exact wpAny_pyNext_dict_end (B.ok.hd af) st Y (by simp;omega) λh' ao=>⟨J,B.turned (t':=s.toks) (λb o j e=>ao b o j e) Z aa ab ac ad⟩
 self:=λA i s Q E st h=>by
  refine wpAny_pyIter_slot st.typeIs PySem.F.slot_dict_keyiterator_iter (wpAny_call_entry PySem.F.slot_dict_keyiterator_iter st.typeIs PySem.F.entry_dict_keyiterator_iter ?_ (PySem.F.args_dict_keyiterator_iter_1 _));show wpAny _ _ (ret (.ref it)) _ _ s;exact wpAny_pure ⟨_,J,"dict_keyiterator",_,st.typeIs,PySem.F.slot_dict_keyiterator_next.lookup,h⟩
section
variable {X:Cx}
end
theorem zi1{P:Program}{w:World}{d:Addr}{ep:Nat}{kvs:List (Key×V)}{g:TG}{tb:TS}{D:Ends}{σ:St}{H:Hp}(Pv:Nat->St->Hp->Prop)(G:Pv 0 σ H)(I:∀i σ H,i<=kvs.length->Pv i σ H->H d=some (dE P w d ep kvs))(J0:∀i p σ H,kvs[i]?=some p->Pv i σ H->g (kV p.1) σ H λj H2=>tb { D with nx:=Pv (i+1),ct:=Pv (i+1),bk:=D.nx } j H2)(O:∀σ H,Pv kvs.length σ H->D.nx σ H) :
  ∃W:Nat->Nat->St->Hp->Prop,(∃m,W 0 m σ H)/\∀i m σ H,W i m σ H ->
   ((ItD P w d ep kvs).stop i H/\D.nx σ H)∨((ItD P w d ep kvs).go i H/\∃N:St->Hp->Prop,(∀σ' H',N σ' H'->∃B,B<m/\W (i+1) B σ' H')/\∀x H',(ItD P w d ep kvs).yld i H x H'->g x σ H' λj H2=>tb { D with nx:=N,ct:=N,bk:=D.nx } j H2):=by
 refine⟨λi m σ H=>m=kvs.length-i/\i<=kvs.length/\Pv i σ H,⟨kvs.length,by simp,Nat.zero_le _,G⟩,?_⟩;rintro i m σ H ⟨rfl,hi,p⟩;have q:=I i σ H hi p;by_cases F:i<kvs.length
 .refine .inr ⟨⟨q,F⟩,Pv (i+1),λσ' H' U=>⟨kvs.length-(i+1),by omega,J,F,U⟩,λx H' y=>?_⟩;obtain⟨e,Y,y,ex⟩:=y;subst e ex;exact J0 i Y σ _ y p
 .have e:i=kvs.length:=by omega
  subst e;exact .inl ⟨⟨q,Nat.le_refl _⟩,O σ H p⟩
theorem zhF{ys:List V}:∀ {its:List Value},ys.length=its.length->(∀(j:Nat) (y:V) (v:Value),ys[j]?=some y->its[j]?=some v->RelV y v)->Vals ys its:=by
 induction ys with
 |nil=>
  intro its h _;cases its with
  |nil=>exact .nil
  |cons _ _=>cases h
 |cons y r B=>
  intro its h g;cases its with
  |nil=>cases h
  |cons u t=>exact .cons (g 0 y u J J) (B (Nat.succ.inj h) λj a b h1 h2=>g (j+1) a b h1 h2)
section
variable {X:Cx}
noncomputable def tLR(ta:TA):TE:=λσ H Q=>ta σ H λvs H1=>∃i j:Int,vs=[.int i,.int j]/\(-(2 ^ 62)<=i/\i<2 ^ 62/\-(2 ^ 62)<=j/\j<2 ^ 62)/\(j-i).toNat<=100000/\∀l,H1 l=none->Q (.ref l) (upd H1 l (.lst ((List.range (j-i).toNat).map λk:Nat=>V.int (i+(k:Int)))))
theorem zeS{a b:Expr}{ta:TA}{p F pos B:Pos}(Z:X.A.handled=none)(aa:Gl X "list")(ab:X.mg "list"=none)(ac:bootBuiltins "list"=some (.type "list"))(ad:Gl X "range")(ae:X.mg "range"=none)(af:PA X [a,b] ta)(ag:starEach [a,b] X.env=[(false,eval a X.env),(false,eval b X.env)]:=by rfl)(U:starEach [b] X.env=[(false,eval b X.env)]:=by rfl)(W:starEach [Expr.Call (.Name "range" F) [a,b] [] B] X.env=(false,eval (Expr.Call (.Name "range" F) [a,b] [] B) X.env)::starEach [] X.env:=by rfl)(ah:(backTo pos (starEach [] X.env)).any (·.1)=false:=by rfl):PE X (.Call (.Name "list" p) [.Call (.Name "range" F) [a,b] [] B] [] pos) (tLR ta):=by
 intro pins s σ H Q G h;refine wpAny_Call_Name_kw (zbA G aa ab ac ?_ (by decide) (by decide));refine PyProof.Rows.callWith_type1 ?_ W ah;rw[W];show wpAny _ _ (spliced ((false,eval _ X.env)::backTo pos (starEach [] X.env))) _ _ s;refine Calls.spliced_cons ?_;refine Call_ (zbA G ad ae boot_range (PyProof.Rows.callWith_type1 (thn (af B pins s σ H _ G h) λus D ai=>?_) (by rw[ag,U]) (by rw[U];rfl)));obtain⟨vs,H1,aj,ak,I⟩:=ai;obtain⟨i,j,e,⟨I,al,am,ao⟩,aw,q⟩:=I;subst e;cases ak with
 |cons r J0=>
  cases J0 with
  |cons ap J0=>
   cases J0;obtain⟨t,rfl⟩:=r;obtain⟨t',rfl⟩:=ap;refine call_range_2 ?_;refine Calls.spliced_nil ?_;have ax:(100000:Nat)<=sizeLine:=by rw[sizeLine_eq];decide
   have Y:Inv X pins σ H1 { D with heap:=D.heap.push { cls:=.type "range",data:=.fields #[.int i t,.int j t',.int 1 D.toks] },toks:=D.toks+1 }:=aj.kept λb o e=>Heap.get?_push_of_some _ e;refine call_list_range (n:=(j-i).toNat) Z (IsRange.new ..) (small_one I al am ao) ?_ (by omega) λh' tk aq ar as e O=>?_
   .rw[rangeSize_one];split<;>omega
   .refine⟨.ref _,_,Y.laid (t':=tk) (o:=.lst ((List.range (j-i).toNat).map λk:Nat=>V.int (i+(k:Int)))) as (Nat.le_refl _) ?_,J,q _ (Y.hok.fresh (Nat.le_refl _))⟩;refine⟨by rw[List.length_map,List.length_range];omega,aq.toList,ar,zhF (by rw[List.length_map,List.length_range,Array.length_toList,O.1]) (λk y v h1 h2=>?_),by simpa using e⟩;obtain⟨au,rfl⟩:=O.2 k v (by simpa using h2);rw[List.getElem?_map] at h1;have av:k<(j-i).toNat:=by
     have:=(List.getElem?_eq_some_iff.mp h2).1;rw[Array.length_toList,O.1] at this;exact this
    rw[List.getElem?_range av] at h1;cases h1;exact⟨au,by simp⟩
end
section
variable {X:Cx}
noncomputable def tPin(P:Program)(w:World)(te:TE):TE:=λσ H Q=>te σ H λx H1=>∃a kvs,x=.ref a/\H1 a=some (.dK kvs)/\∀ep,Q (.ref a) (upd H1 a (dE P w a ep kvs))
theorem zhG{e:Expr}{te:TE}(j:PE X e te):PE X e (tPin X.prog X.w te):=by
 intro pins s σ H Q B h;refine thn (j pins s σ H _ B h) λu O D=>?_;obtain⟨x,H1,F,G,a,kvs,ex,I,q⟩:=D;subst ex;obtain⟨ep,J0⟩:=zmj F I;exact⟨.ref a,_,J0,G,q ep⟩
noncomputable def zlC(P:Program)(w:World)(td:TE):TI:=λσ H R=>td σ H λx H1=>∃a ep kvs,x=.ref a/\H1 a=some (dE P w a ep kvs)/\R (ItD P w a ep kvs) H1
theorem zi2{tg l:Expr}{td:TE}(D:PE X l td):PI X tg l (zlC X.prog X.w td):=by
 intro pins s σ H R F h;refine thn (D pins s σ H _ F h) λv j G=>?_;obtain⟨x,H1,B,I,J0⟩:=G;obtain⟨a,ep,kvs,e,O,q⟩:=J0;subst e;cases I;obtain⟨U,_,vs,V,W⟩:=zi0 B.hok O;refine wpAny_pyIter_dict U W ?_;refine⟨j.heap.objs.size,[j.heap.objs.size],_,_,_,J,B.kept (t':=j.toks) λb o e=>Heap.get?_push_of_some _ e,zhE a _ ep kvs,?_,λb Y=>?_,q⟩
 .rw[KV.length V];exact⟨_,Heap.get?_push_size _ J,J,J⟩
 .have e:b=j.heap.objs.size:=by simpa using Y
  subst e;exact B.fpOk (Nat.le_refl _) (B.hok.fresh (Nat.le_refl _))
noncomputable def tDUpd(P:Program)(w:World)(td ty:TE):TE:=λσ H Q=>td σ H λx H1=>∃a,x=.ref a/\IsD H1 a/\ty σ H1 λy H2=>∃o kvs ep j,y=.ref o/\a≠o/\H2 a=some (.dK kvs)/\H2 o=some (dE P w o ep j)/\kvs.length+j.length<=sizeLine/\Q .non (upd H2 a (.dK (zbZ kvs j)))
theorem zhH{o e:Expr}{apos cpos:Pos}{td ty:TE}(U:PE X o td)(j:PE X e ty)(m:M1 X o "update" apos e cpos):PE X (.Call (.Attribute o "update" apos) [e] [] cpos) (tDUpd X.prog X.w td ty):=by
 intro pins s σ H Q V h;refine wpAny_Call_method m.base m.few m.line PySem.F.plainAttrs_dict PySem.F.slot_dict_update PySem.F.type_dict_update (thn (U pins s σ H _ V h) λu W B=>?_);obtain⟨x,H1,F,Y,a,ex,d,Z⟩:=B;subst ex;obtain rfl:u=Value.ref a:=Y;obtain⟨aa,ab,_⟩:=zlA F d;refine⟨aa,ab,?_⟩;rw[m.trees];refine Calls.callWith_builtin rfl (Calls.evalArgs_plain (Calls.spliced_cons (thn (j pins W σ H1 _ F Z) λaq ac B=>?_)));obtain⟨y,H2,D,ad,o',kvs,ep,ae,af,ag,G,ah,ar,ai⟩:=B;refine Calls.spliced_nil ?_;subst af;cases ad;obtain⟨_,aj,vs,I,dd⟩:=zhw D.hok G;obtain⟨ak,as,al,J0,am⟩:=zi0 D.hok ah;have au:=KV.length I;have av:=KV.length J0;refine call_meetsIn PySem.F.slot_dict_update dd.typeIs PySem.F.entry_dict_update (PySem.F.args_dict_update_2 _ _) (meets_dict_update (zav X.prog X.w) a o' ag ak) ⟨vs,al,dd,am.dictOf,by omega,λh' O aw ao=>?_⟩;have ax:=zbL ae kvs;have j:∃q,h'.get? a=some q:=let ⟨q,_,_,ap,_⟩:=O;⟨q,ap⟩;exact⟨.non,_,zcO (h':=h') (t':=ac.toks) D (by rw[G];exact True.intro) ao j (zhx (by omega) aj (J0.merge I) O),J,ai⟩
theorem zdW(J0:X.calm=true):CallR X (.type "list") (λxs H Q=>∃(a:Addr) (kvs:List (Key×V)),xs=[.ref a]/\H a=some (.dK kvs)/\∀l,H l=none->Q (.ref l) (upd H l (.lst (kvs.map λD=>kV D.1)))):=by
 intro pins s σ H xs us Q B r h;obtain⟨a,kvs,rfl,O,q⟩:=h;obtain⟨u,rfl,U⟩:=vals1 r;cases U;obtain⟨Y,Z,vs,G,dd⟩:=zhw B.hok O;obtain⟨ep,aa⟩:=dd.dictAt;have ag:=KV.length G;refine W.kdl_call (W.kdl_dict (knd:=zav X.prog X.w) (ep:=ep) Z) (B.ok.hd J0) aa (by omega) λh' tk F ab ac ad I=>?_;refine⟨.ref _,_,B.laid (t':=tk) (o:=.lst (kvs.map λD=>kV D.1)) ac (Nat.le_refl _) ?_,J,q _ (B.hok.fresh (Nat.le_refl _))⟩;refine⟨by rw[List.length_map];exact Y,F.toList,ab,zhF (by rw[List.length_map];have h1:=I.1;have h2:F.toList.length=F.size:=Array.length_toList;omega) (λk y v h1 h2=>?_),by simpa using ad⟩;obtain⟨ah,ai,j,ae⟩:=I.2 k v (by rw[←Array.getElem?_toList];exact h2);rw[List.getElem?_map] at h1;cases e:kvs[k]? with
 |none=>rw[e] at h1;cases h1
 |some p=>
  rw[e] at h1;injection h1 with h1;obtain⟨aj,af⟩:=KV.at G e;rw[af] at j;injection j with j;injection j with j _;rw[←h1];show RelV (kV p.1) v;rw[j];exact zhD ae
end
noncomputable def Itr3(lo st:Int)(n:Nat):It:=⟨λi _=>i<n,λi H x H'=>H'=H/\x=.int (lo+i*st),λi _=>n<=i⟩
theorem zfp{P:Program}{w:World}{K:W.Frag}{tg:Expr}(it:Addr)(lo c:Int)(n:Nat):Turn P w K tg (Itr3 lo c n) [it] it (λi h=>IsRangeIter h it (lo+(i:Nat)*c) ((n:Int)-(i:Nat)) c) where
 mem:=by simp
 obj:=λi h st b j=>by
  have e:b=it:=by simpa using j
  subst e;exact⟨_,st,λv z=>by
   have z':Data.fields _=Data.cell v:=z;cases z'⟩
 keep:=λi h h' st k=>k it (by simp) _ st
 item:=by
  intro X F hw G I i pins s σ H E B D st J0;subst F hw G;obtain⟨O,U,ab,V,Y,Z⟩:=D it (by simp);have W:=Walks.range (prog:=X.prog) (w:=X.w) (B.ok.hd I) it lo c n;refine W.item i s _ _ J0 st λv h' tk ac aa ad=>?_;obtain⟨t,rfl⟩:=ac;have ae:Inv X pins σ H { s with heap:=h',toks:=tk }:=B.turned (λb o j e=>ad b o (by simpa using j) e) O U V Y Z;exact⟨_,J,zec (s:={ s with heap:=h',toks:=tk }) (n:="range_iterator") aa J J (by decide) ⟨.int (lo+i*c),H,ae,⟨t,J⟩,⟨J,J⟩,aa,λb j=>(D b j).1⟩⟩
 done:=by
  intro X F hw G I i pins s σ H E B D st J0;subst F hw G;obtain⟨O,U,ab,V,Y,Z⟩:=D it (by simp);exact wpAny_pyNext_range_end (B.ok.hd I) st (by have:n<=i:=J0;omega) λh' af=>⟨J,B.turned (t':=s.toks) (λb o j e=>af b o j e) O U V Y Z⟩
 self:=λ_ _ _ _ _ st h=>wpAny_pyIter_rangeiter st h
section
variable {X:Cx}{tg:Expr}
theorem zgM{lo st:Int}{n:Nat}{g:TG}{tb:TS}{D:Ends}{σ:St}{H:Hp}(Pv:Nat->St->Hp->Prop)(G:Pv 0 σ H)(I:∀i σ H,i<n->Pv i σ H->g (.int (lo+i*st)) σ H λj H2=>tb { D with nx:=Pv (i+1),ct:=Pv (i+1),bk:=D.nx } j H2)(J0:∀σ H,Pv n σ H->D.nx σ H) :
  ∃W:Nat->Nat->St->Hp->Prop,(∃m,W 0 m σ H)/\∀i m σ H,W i m σ H ->
   ((Itr3 lo st n).stop i H/\D.nx σ H)∨((Itr3 lo st n).go i H/\∃N:St->Hp->Prop,(∀σ' H',N σ' H'->∃F,F<m/\W (i+1) F σ' H')/\∀x H',(Itr3 lo st n).yld i H x H'->g x σ H' λj H2=>tb { D with nx:=N,ct:=N,bk:=D.nx } j H2):=by
 refine⟨λi m σ H=>m=n-i/\i<=n/\Pv i σ H,⟨n,by simp,Nat.zero_le _,G⟩,?_⟩;rintro i m σ H ⟨rfl,hi,p⟩;by_cases B:i<n
 .refine .inr ⟨B,Pv (i+1),λσ' H' O=>⟨n-(i+1),by omega,J,B,O⟩,λx H' y=>?_⟩;obtain⟨e,y⟩:=y;subst e y;exact I i σ _ B p
 .have e:i=n:=by omega
  subst e;exact .inl ⟨Nat.le_refl _,J0 σ H p⟩
end
end L2
namespace PySem
namespace F
theorem zeT:Manifest.owners.lookup (String.ofList ['d','e','s','r','e','v','e','r'].reverse)=some Manifest.sig_reversed:=by kernel_rfl
theorem slot_rev_next:Slot "reversed" "__next__" "reversed.__next__":=
 .of (owner:="reversed") (n:="__next__") (by rw[typeLookup_type,builtinLookup_eq_fast];kernel_rfl) (by decide +kernel) (by decide +kernel) (by decide +kernel)
  (by first|exact .inl (by decide +kernel)|exact .inr (by decide +kernel)) (by rw[isSubtype_type];kernel_rfl)
theorem entry_rev_next:entryFor table "reversed.__next__"=some Builtin.«reversed.__next__»:=entryFor_of_tree (by kernel_rfl)
theorem args_rev_next_1(a:Value):argsOk "reversed.__next__" ⟨[a],[]⟩:=by
 unfold argsOk;rw[signature?_of (id:="reversed.__next__") (n:=['_','_','t','x','e','n','_','_']) (o:=['d','e','s','r','e','v','e','r']) (by kernel_rfl) zeT];kernel_rfl
theorem slot_rev_iter:Slot "reversed" "__iter__" "reversed.__iter__":=
 .of (owner:="reversed") (n:="__iter__") (by rw[typeLookup_type,builtinLookup_eq_fast];kernel_rfl) (by decide +kernel) (by decide +kernel) (by decide +kernel)
  (by first|exact .inl (by decide +kernel)|exact .inr (by decide +kernel)) (by rw[isSubtype_type];kernel_rfl)
theorem args_rev_iter_1(a:Value):argsOk "reversed.__iter__" ⟨[a],[]⟩:=by
 unfold argsOk;rw[signature?_of (id:="reversed.__iter__") (n:=['_','_','r','e','t','i','_','_']) (o:=['d','e','s','r','e','v','e','r']) (by kernel_rfl) zeT];kernel_rfl
theorem entry_rev_iter:entryFor table "reversed.__iter__"=some Builtin.«dict_keyiterator.__iter__»:=
 entryFor_alias (id':="dict_keyiterator.__iter__") (by kernel_rfl) (by first|rfl|decide +kernel|(unfold String.splitOn;simp +decide [String.splitOnAux])) (by decide +kernel) (by kernel_rfl)
theorem zem:Slot "reversed" "__init__" "object.__init__":=
 .of (owner:="object") (n:="__init__") (by rw[typeLookup_type,builtinLookup_eq_fast];kernel_rfl) (by decide +kernel) (by decide +kernel) (by decide +kernel)
  (by first|exact .inl (by decide +kernel)|exact .inr (by decide +kernel)) (by rw[isSubtype_type];kernel_rfl)
theorem called_rev:TypeCalled "reversed" "reversed.__new__" "object.__init__":=
 ⟨by decide +kernel,by decide +kernel,⟨_,_,mro_reversed⟩,madeBy_type mro_reversed lookup_reversed_new (by decide +kernel),by decide +kernel,by rw[isSubtype_type];kernel_rfl,zem⟩
theorem str_no_rev:typeLookup (.type "str") "__reversed__"=pure none:=by rw[typeLookup_type,builtinLookup_eq_fast];kernel_rfl
end F
end PySem
namespace PySem
section
variable {prog:Program}{w:World}{A:Around}{E:Value->Shared->Prop}{s:Shared}
noncomputable def zdB(x:Str)(t:Tok)(i:Int):Obj:={ cls:=.type "reversed",data:=.fields #[.str x t,rawInt i] }
noncomputable def Heap.IsRevS(h:Heap)(a:Addr)(x:Str)(t:Tok)(i:Int):Prop:=∃o,h.get? a=some o/\o.cls=.type "reversed"/\o.data=.fields #[.str x t,rawInt i]
theorem Heap.IsRevS.typeIs{a:Addr}{x:Str}{t:Tok}{i:Int}(q:s.heap.IsRevS a x t i):s.TypeIs (.ref a) "reversed":=let ⟨o,j,B,_⟩:=q;⟨o,j,B⟩
theorem zcQ{x:Str}{t:Tok}{Q₁:Value->Shared->Prop}(j:x.length<=sizeLine)(h:∀tk,Q₁ (.ref s.heap.objs.size) { s with heap:=s.heap.push (zdB x t ((x.length:Int)-1)),toks:=tk }) :
  codeAny (model prog w) A (.call (.builtin "reversed.__new__") ⟨[.type "reversed",.str x t],[]⟩) (wants Q₁ E) s:=by
 have B:=L2.line63;refine codeAny_of_tree ?_;show wpAny _ A.in1 (do checkBuiltinCall "reversed.__new__" ⟨[.type "reversed",.str x t],[]⟩;again (.builtin "reversed.__new__" ⟨[.type "reversed",.str x t],[]⟩)) _ _ s;refine wpAny_bind (wpAny_of_eq (F.newCall_reversed_1 _) (wpAny_pure ⟨plainId_quiet F.plain_reversed_new _,codeAny_builtin F.entry_reversed_new ?_⟩));rw[Around.under_plainId F.plain_reversed_new _];unfold Builtin.«reversed.__new__»;refine wpAny_bind (wpAny_of_eq (newClass_reversed _) ?_)
 try dsimp only
 refine wpAny_bind (wpAny_of_eq (a:=()) (by first|rfl|kernel_rfl) ?_)
 refine wpAny_bind (wpAny_of_eq (a:=()) (by first|rfl|kernel_rfl) ?_)
 try dsimp only
 refine wpAny_bind (wpAny_specialOf (typeIs_str s x t) F.str_no_rev ?_)
 try dsimp only
 refine wpAny_bind (wpAny_of_eq (a:=true) (by kernel_rfl) ?_);rw[if_neg (by decide)];refine wpAny_bind (PyProof.Rows.len_str (by omega) ?_);refine wpAny_bind (wpAny_of_eq (a:=some (x.length:Int)) (by first|rfl|kernel_rfl) ?_)
 dsimp only;refine wpAny_bind ?_;show wpAny _ _ (newObj (.type "reversed") (.fields #[.str x t,rawInt ((x.length:Int)-1)])) _ _ _;refine wpAny_newObj_type (wpAny_pure (h _)) (by size_fits)
theorem zcR{x:Str}{t:Tok}{Q:Value->Shared->Prop}(D:x.length<=sizeLine)(h:∀tk,Q (.ref s.heap.objs.size) { s with heap:=s.heap.push (zdB x t ((x.length:Int)-1)),toks:=tk }):wpAny (model prog w) A (call (.type "reversed") [.str x t]) Q E s:=by
 refine callType_codes (Q₁:=λobj j=>∃tk,obj=.ref s.heap.objs.size/\j={ s with heap:=s.heap.push (zdB x t ((x.length:Int)-1)),toks:=tk }) F.called_rev (F.typeCall_reversed_1 _) F.entry_object_init (zcQ D λtk=>⟨tk,J,J⟩) ?_;rintro obj j ⟨tk,rfl,rfl⟩;have B:Shared.TypeIs { s with heap:=s.heap.push (zdB x t ((x.length:Int)-1)),toks:=tk } (.ref s.heap.objs.size) "reversed":=⟨_,Heap.get?_push_size _ J,J⟩;exact⟨B,F.args_object_init_2 _ _,object_init_meets F.called_rev.init.lookup F.called_rev.made (by decide) prog w A.in1 _ _ ⟨B,J,h tk⟩⟩
theorem zbU{it:Addr}{x:Str}{t:Tok}{i c:Nat}{Q:Option Value->Shared->Prop}(D:s.heap.IsRevS it x t (i:Int))(V:x.length<=sizeLine)(G:x.cps[i]?=some c)(I:∀h' tk,h'.IsRevS it x t ((i:Int)-1)->Heap.SameBut it s.heap h'->Q (some (.str ⟨#[c]⟩ tk)) { s with heap:=h',toks:=tk+1 }):wpAny (model prog w) A (pyNext (.ref it)) Q E s:=by
 obtain⟨o,B,J0,j⟩:=id D;have W:=L2.line63;have hi:i<x.length:=(Array.getElem?_eq_some_iff.mp G).1;unfold pyNext;refine wpAny_bind (wpAny_attempt (wpAny_callSpecial?_slot (name:=Str.ofString "__next__") D.typeIs F.slot_rev_next
  (wpAny_call_entry F.slot_rev_next D.typeIs F.entry_rev_next ?_ (F.args_rev_next_1 _))))
 unfold Builtin.«reversed.__next__»;refine wpAny_bind (wpAny_of_eq (a:=(Value.ref it,[])) rfl ?_)
 try dsimp only
 refine wpAny_bind (wpAny_field B j (x:=.str x t) rfl ?_);refine wpAny_bind (wpAny_field B j (x:=rawInt (i:Int)) rfl ?_);show wpAny _ _ (if (i:Int)<0 then _ else _) _ _ s;rw[if_neg (by omega)];refine wpAny_bind (wpAny_specialOf (typeIs_str s x t) F.slot_str_getitem.lookup ?_);show wpAny _ _ (if (false:Bool)=true then _ else _) _ _ s;rw[if_neg Bool.false_ne_true];refine wpAny_bind (wpAny_mkInt ?_);refine wpAny_bind (wpAny_attempt (PyProof.Rows.getItem_str (c:=c) (by
  have O:decide ((i:Int) < -(2 ^ 63:Int))=false:=decide_eq_false (by omega);have U:decide ((i:Int) ≥ 2 ^ 63)=false:=decide_eq_false (by omega);rw[O,U,Bool.or_false]) (by
  have e:seqIndex? (i:Int) x.length=some i:=by
   unfold seqIndex?;simp;omega
  rw[e];exact G) ?_))
 dsimp only;refine wpAny_bind (wpAny_field B j (x:=rawInt (i:Int)) rfl ?_);show wpAny _ _ (setField (.ref it) 1 (rawInt ((i:Int)-1)) >>= _) _ _ _;refine wpAny_bind (wpAny_setField B j (by simp) ?_);refine wpAny_pure ⟨_,J,wpAny_pure (I _ _ ?_ (Heap.SameBut.update ..))⟩;exact⟨_,Heap.get?_update_self _ B (Obj.isFreed_of_fields (Obj.data_mapFields j _)),(Obj.cls_mapFields ..).trans J0,by
  rw[Obj.data_mapFields j];simp⟩
theorem zb0{it:Addr}{x:Str}{t:Tok}{Q:Option Value->Shared->Prop}(G:A.handled=none)(D:s.heap.IsRevS it x t (-1))(I:∀h',Heap.ExtBut it s.heap h'->Q none { s with heap:=h' }):wpAny (model prog w) A (pyNext (.ref it)) Q E s:=by
 obtain⟨o,B,V,j⟩:=id D;unfold pyNext;refine wpAny_bind (wpAny_attempt (wpAny_callSpecial?_slot (name:=Str.ofString "__next__") D.typeIs F.slot_rev_next
  (wpAny_call_entry F.slot_rev_next D.typeIs F.entry_rev_next ?_ (F.args_rev_next_1 _))))
 unfold Builtin.«reversed.__next__»;refine wpAny_bind (wpAny_of_eq (a:=(Value.ref it,[])) rfl ?_)
 try dsimp only
 refine wpAny_bind (wpAny_field B j (x:=.str x t) rfl ?_);refine wpAny_bind (wpAny_field B j (x:=rawInt (-1)) rfl ?_);show wpAny _ _ (if (-1:Int)<0 then _ else _) _ _ s;rw[if_pos (by decide)];refine wpAny_bind (wpAny_rule ?_);refine wpAny_bind ?_;show wpAny _ _ (setField (.ref it) 1 (rawInt (-1)) >>= λ_=>setField (.ref it) 0 .none) _ _ s;refine wpAny_bind (wpAny_setField B j (by simp) ?_);have J0:=Heap.get?_update_self (h:=s.heap) (Obj.mapFields (·.setIfInBounds 1 (rawInt (-1)))) B (Obj.isFreed_of_fields (Obj.data_mapFields j _));refine wpAny_setField (s:={ s with heap:=s.heap.update it (Obj.mapFields (·.setIfInBounds 1 (rawInt (-1)))) }) J0 (Obj.data_mapFields j _) (by simp) ?_;have O:=(Heap.SameBut.update s.heap it (Obj.mapFields (·.setIfInBounds 1 (rawInt (-1))))).trans (Heap.SameBut.update _ it (Obj.mapFields (·.setIfInBounds 0 Value.none)))
 first
 |show wpAny _ _ (newExc (.type "StopIteration") [] >>= _) _ _ _
 |(refine wpAny_bind ?_;show wpAny _ _ (newExc (.type "StopIteration") [] >>= _) _ _ _)
 refine wpAny_bind ?_;simp only[newExc,newTuple];refine wpAny_bind (wpAny_newObj_type ?_ (by size_fits));refine wpAny_bind (m:=firstArgMember _ _) (wpAny_of_eq (a:=Value.none) (by first|rfl|(simp only[firstArgMember];rfl)) ?_)
 refine wpAny_newObj_type ?_ (by size_fits);simp only[raiseNew];refine wpAny_bind (wpAny_handled ?_)
 first|rw[show A.in1.handled=none from G]|rw[G]
 refine wpAny_bind (wpAny_pure (wpAny_throw ?_));refine wpAny_bind (wpAny_isInstance (T:="StopIteration") (b:=true) ⟨_,Heap.get?_push_size _ J,J⟩ isSubtype_stop ?_);exact wpAny_pure (I _ ((O.extBut.push _).push _))
theorem zbE{it:Addr}{x:Str}{t:Tok}{i:Int}{Q:Value->Shared->Prop}(j:s.heap.IsRevS it x t i)(h:Q (.ref it) s):wpAny (model prog w) A (pyIter (.ref it)) Q E s:=by
 refine wpAny_pyIter_slot j.typeIs F.slot_rev_iter (wpAny_call_entry F.slot_rev_iter j.typeIs F.entry_rev_iter ?_ (F.args_rev_iter_1 _));show wpAny _ _ (ret (.ref it)) _ _ s;exact wpAny_pure ⟨_,J,"reversed",_,j.typeIs,F.slot_rev_next.lookup,h⟩
end
end PySem
namespace L2
open PySem PySem.Spec PyProof.Rows
noncomputable def ItsR(x:Str):It:=⟨λi _=>i<x.cps.size,λi H v H'=>H'=H/\∃c,x.cps[x.cps.size-1-i]?=some c/\v=.str ⟨#[c]⟩,λi _=>x.cps.size<=i⟩
theorem zhI{P:Program}{w:World}{K:W.Frag}{tg:Expr}(it:Addr)(x:Str)(t:Tok)(ad:x.length<=sizeLine):Turn P w K tg (ItsR x) [it] it (λi h=>i<=x.cps.size/\h.IsRevS it x t ((x.cps.size:Int)-1-(i:Int))) where
 mem:=by simp
 obj:=λi h st b j=>by
  have e:b=it:=by simpa using j
  subst e;obtain⟨_,o,e,c,d⟩:=st;exact⟨o,e,λv z=>by rw[d] at z;cases z⟩
 keep:=λi h h' st k=>let ⟨hi,o,ae,r⟩:=st;⟨hi,o,k it (by simp) o ae,r⟩
 item:=by
  intro X G hw I ab i pins s σ H E D F st J0;subst G hw I;have hi:i<x.cps.size:=J0;obtain⟨O,U,af,V,Y,Z⟩:=F it (by simp);have e:(x.cps.size:Int)-1-(i:Int)=((x.cps.size-1-i:Nat):Int):=by omega
  have B:=st.2;rw[e] at B;have ac:x.cps.size-1-i<x.cps.size:=by omega
  refine zbU B ad (c:=x.cps[x.cps.size-1-i]) (by simp[ac]) λh' tk aa ag=>?_;have ah:Inv X pins σ H { s with heap:=h',toks:=tk+1 }:=D.turned (t':=tk+1) (λb o j e=>(ag.2 b j).trans e) O U V Y Z;obtain⟨o,ai,c,d⟩:=id aa;have aj:((x.cps.size-1-i:Nat):Int)-1=(x.cps.size:Int)-1-((i+1:Nat):Int):=by omega
  rw[aj] at aa;exact⟨_,J,zec (s:={ s with heap:=h',toks:=tk+1 }) ai c d (by decide) ⟨.str ⟨#[x.cps[x.cps.size-1-i]]⟩,H,ah,⟨_,J⟩,⟨J,x.cps[x.cps.size-1-i],by simp[ac],J⟩,⟨by omega,aa⟩,λb j=>(F b j).1⟩⟩
 done:=by
  intro X G hw I ab i pins s σ H E D F st J0;subst G hw I;have hi:x.cps.size<=i:=J0;obtain⟨O,U,af,V,Y,Z⟩:=F it (by simp);have e:(x.cps.size:Int)-1-(i:Int)=-1:=by have:=st.1;omega
  have B:=st.2;rw[e] at B;exact zb0 (D.ok.hd ab) B λh' ak=>⟨J,D.turned (t':=s.toks) (λb o j e=>ak b o j e) O U V Y Z⟩
 self:=λ_ _ _ _ _ st h=>zbE st.2 h
theorem zcS:bootBuiltins "reversed"=some (.type "reversed"):=by decide +kernel
noncomputable def iRevS(ta:TA):TI:=λσ H R=>ta σ H λvs H1=>∃x,vs=[.str x]/\x.length<=sizeLine/\R (ItsR x) H1
theorem zkn{X:Cx}{tg a:Expr}{ta:TA}{p pos:Pos}(G:Gl X "reversed")(I:X.mg "reversed"=none)(J0:PA X [a] ta)(O:starEach [a] X.env=[(false,eval a X.env)]:=by rfl):PI X tg (.Call (.Name "reversed" p) [a] [] pos) (iRevS ta):=by
 intro pins s σ H R D h;refine Call_ (zbA D G I zcS (PyProof.Rows.callWith_type1 (thn (J0 pos pins s σ H _ D h) λus j U=>?_) O J));obtain⟨vs,H1,B,V,W⟩:=U;obtain⟨x,e,F,q⟩:=W;subst e;cases V with
 |cons r Y=>
  cases Y;obtain⟨t,rfl⟩:=r;refine zcR F λtk=>?_;have Z:∀b∈[j.heap.objs.size],FpOk X pins H1 b:=λb aa=>by
   have e:b=j.heap.objs.size:=by simpa using aa
   subst e;exact B.fpOk (Nat.le_refl _) (B.hok.fresh (Nat.le_refl _))
  have st:Heap.IsRevS (j.heap.push (zdB x t ((x.length:Int)-1))) j.heap.objs.size x t ((x.length:Int)-1):=⟨_,Heap.get?_push_size _ J,J,J⟩;refine zbE st ⟨j.heap.objs.size,[j.heap.objs.size],_,_,H1,J,B.kept (t':=tk) λb o e=>Heap.get?_push_of_some _ e,zhI _ x t F,⟨Nat.zero_le _,?_⟩,Z,q⟩;have e:(x.cps.size:Int)-1-((0:Nat):Int)=(x.length:Int)-1:=by
   show (x.cps.size:Int)-1-0=(x.cps.size:Int)-1;omega
  rw[e];exact st
noncomputable def ItlR(K:W.Frag)(a:Addr)(xs:List V):It:=⟨λi H=>SqL K H a xs/\i<xs.length,λi H v H'=>H'=H/\xs[xs.length-1-i]?=some v,λi H=>SqL K H a xs/\xs.length<=i⟩
theorem zhJ{P:Program}{w:World}{K:W.Frag}{tg:Expr}(a it:Addr)(xs:List V):Turn P w K tg (ItlR K a xs) [it] it (λi h=>i<=xs.length/\h.IsRevIter it a ((xs.length:Int)-1-(i:Int))) where
 mem:=by simp
 obj:=λi h st b j=>by
  have e:b=it:=by simpa using j
  subst e;obtain⟨_,o,e,c,d⟩:=st;exact⟨o,e,λv z=>by rw[d] at z;cases z⟩
 keep:=λi h h' st k=>⟨st.1,st.2.at λo e=>k it (by simp) o e⟩
 item:=by
  intro X G hw I ac i pins s σ H E B F st J0;subst G hw I;obtain⟨ad,hi⟩:=J0;obtain⟨its,af,p,ap⟩:=B.list ad;have ae:xs.length-1-i<xs.length:=by omega
  obtain⟨u,ag,ah⟩:=af.get (List.getElem?_eq_getElem ae);obtain⟨O,U,ai,Y,Z,aa⟩:=F it (by simp);have e:(xs.length:Int)-1-(i:Int)=((xs.length-1-i:Nat):Int):=by omega
  have D:=st.2;rw[e] at D;refine wpAny_pyNext_rev_item D p.isList (x:=u) (by simpa using ag) λh' ab aj=>?_;have ak:Inv X pins σ H { s with heap:=h' }:=B.turned (t':=s.toks) (λb o j e=>(aj.2 b j).trans e) O U Y Z aa;obtain⟨o,al,c,d⟩:=id ab;have am:((xs.length-1-i:Nat):Int)-1=(xs.length:Int)-1-((i+1:Nat):Int):=by omega
  rw[am] at ab;exact⟨u,J,zec (s:={ s with heap:=h' }) al c d (by decide) ⟨xs[xs.length-1-i],H,ak,ah,⟨J,List.getElem?_eq_getElem ae⟩,⟨by omega,ab⟩,λb j=>(F b j).1⟩⟩
 done:=by
  intro X G hw I ac i pins s σ H E B F st J0;subst G hw I;obtain⟨ad,hi⟩:=J0;obtain⟨O,U,ai,Y,Z,aa⟩:=F it (by simp);have e:(xs.length:Int)-1-(i:Int)=-1:=by have:=st.1;omega
  have D:=st.2;rw[e] at D;exact wpAny_pyNext_rev_end (B.ok.hd ac) D λh' ao=>⟨J,B.turned (t':=s.toks) (λb o j e=>ao b o j e) O U Y Z aa⟩
 self:=λ_ _ _ _ _ st h=>wpAny_pyIter_revIter st.2 h
noncomputable def zko(K:W.Frag)(ta:TA):TI:=λσ H R=>ta σ H λvs H1=>∃a xs,vs=[.ref a]/\SqL K H1 a xs/\R (ItlR K a xs) H1
theorem zhK{X:Cx}{tg a:Expr}{ta:TA}{p pos:Pos}(F:Gl X "reversed")(G:X.mg "reversed"=none)(I:PA X [a] ta)(J0:starEach [a] X.env=[(false,eval a X.env)]:=by rfl):PI X tg (.Call (.Name "reversed" p) [a] [] pos) (zko X.K ta):=by
 intro pins s σ H R D h;refine Call_ (zbA D F G zcS (PyProof.Rows.callWith_type1 (thn (I pos pins s σ H _ D h) λus j O=>?_) J0 J));obtain⟨vs,H1,B,U,V⟩:=O;obtain⟨l,xs,e,W,q⟩:=V;subst e;cases U with
 |cons r Y=>
  cases Y;cases r;obtain⟨its,Z,aa,ad⟩:=B.list W;have ae:=Z.length;refine call_reversed_list aa.isList ?_;have ab:∀b∈[j.heap.objs.size],FpOk X pins H1 b:=λb ac=>by
   have e:b=j.heap.objs.size:=by simpa using ac
   subst e;exact B.fpOk (Nat.le_refl _) (B.hok.fresh (Nat.le_refl _))
  have st:Heap.IsRevIter (j.heap.push (revObj l ((its.toArray.size:Int)-1))) j.heap.objs.size l ((its.toArray.size:Int)-1):=⟨_,Heap.get?_push_size _ J,J,J⟩;refine wpAny_pyIter_revIter st ⟨j.heap.objs.size,[j.heap.objs.size],_,_,H1,J,B.kept (t':=j.toks) λb o e=>Heap.get?_push_of_some _ e,zhJ l _ xs,⟨Nat.zero_le _,?_⟩,ab,q⟩;have e:(xs.length:Int)-1-((0:Nat):Int)=(its.toArray.size:Int)-1:=by
   rw[List.size_toArray];omega
  rw[e];exact st
theorem zi3{K:W.Frag}{a:Addr}{xs:List V}{g:TG}{tb:TS}{D:Ends}{σ:St}{H:Hp}(Pv:Nat->St->Hp->Prop)(G:Pv 0 σ H)(I:∀i σ H,i<=xs.length->Pv i σ H->SqL K H a xs)(J0:∀i x σ H,i<xs.length->xs[xs.length-1-i]?=some x->Pv i σ H->g x σ H λj H2=>tb { D with nx:=Pv (i+1),ct:=Pv (i+1),bk:=D.nx } j H2)(O:∀σ H,Pv xs.length σ H->D.nx σ H) :
  ∃W:Nat->Nat->St->Hp->Prop,(∃m,W 0 m σ H)/\∀i m σ H,W i m σ H ->
   ((ItlR K a xs).stop i H/\D.nx σ H)∨((ItlR K a xs).go i H/\∃N:St->Hp->Prop,(∀σ' H',N σ' H'->∃F,F<m/\W (i+1) F σ' H')/\∀x H',(ItlR K a xs).yld i H x H'->g x σ H' λj H2=>tb { D with nx:=N,ct:=N,bk:=D.nx } j H2):=by
 refine⟨λi m σ H=>m=xs.length-i/\i<=xs.length/\Pv i σ H,⟨xs.length,by simp,Nat.zero_le _,G⟩,?_⟩;rintro i m σ H ⟨rfl,hi,p⟩;have q:=I i σ H hi p;by_cases B:i<xs.length
 .refine .inr ⟨⟨q,B⟩,Pv (i+1),λσ' H' U=>⟨xs.length-(i+1),by omega,J,B,U⟩,λx H' y=>?_⟩;obtain⟨e,y⟩:=y;subst e;exact J0 i x σ _ B y p
 .have e:i=xs.length:=by omega
  subst e;exact .inl ⟨⟨q,Nat.le_refl _⟩,O σ H p⟩
section
variable {prog:Program}{w:World}{A:Around}{E:Value->Shared->Prop}{s:Shared}
theorem zdC:isSubtype (.type "range_iterator") (.type "reversed")=pure false:=by rw[isSubtype_type];kernel_rfl
theorem zcn{r:Addr}{n:Nat}{t u v:Tok}{Q:Value->Shared->Prop}(j:IsRange s.heap r 0 (n:Int) 1 t u v)(G:n<4611686018427387904)(h:Q (.ref s.heap.objs.size) { s with heap:=s.heap.push { cls:=.type "range_iterator",data:=.fields #[rawInt ((n:Int)-1),rawInt n,rawInt (-1)] } }):wpAny (model prog w) A (call (.builtin "range.__reversed__") [.ref r]) Q E s:=by
 have B:s.TypeIs (.ref r) "range":=⟨_,j,J⟩;refine wpAny_call_entry PySem.F.slot_range_reversed B PySem.F.entry_range_reversed ?_ (PySem.F.args_range_reversed_1 _);unfold Builtin.«range.__reversed__»;refine wpAny_bind (wpAny_of_eq (a:=Value.ref r) (by first|rfl|kernel_rfl) ?_)
 refine wpAny_bind ?_;unfold Builtin.Range.rangeFields;refine wpAny_bind (wpAny_field j J (x:=.int 0 t) rfl ?_);refine wpAny_bind (m:=asInt? (.int 0 t)) (wpAny_pure ?_);refine wpAny_bind (wpAny_field j J (x:=.int (n:Int) u) rfl ?_);refine wpAny_bind (m:=asInt? (.int (n:Int) u)) (wpAny_pure ?_);refine wpAny_bind (wpAny_field j J (x:=.int 1 v) rfl ?_);refine wpAny_bind ?_;refine wpAny_pure (a:=some (1:Int)) ?_;refine wpAny_pure (a:=((0:Int),(n:Int),(1:Int))) ?_;have hsz:Builtin.Range.rangeSize 0 (n:Int) 1=(n:Int):=by
  unfold Builtin.Range.rangeSize;rw[if_pos (by decide)];split
  .rw[Int.ediv_one];omega
  .omega
 have I:(n:Int)<4611686018427387904:=by omega
 have D:(Builtin.Range.rangeFitsLong 0&&Builtin.Range.rangeFitsLong (n:Int)&&Builtin.Range.rangeFitsLong 1&&Builtin.Range.rangeFitsLong (-1)&&Builtin.Range.rangeFitsLong (0-1)&&Builtin.Range.rangeFitsLong (Builtin.Range.rangeSize 0 (n:Int) 1))=true:=by
  rw[hsz];have:Builtin.Range.rangeFitsLong (n:Int)=true:=by
   unfold Builtin.Range.rangeFitsLong;have F:(2 ^ 63:Int)=9223372036854775808:=by decide
   rw[F,decide_eq_true (show -9223372036854775808<=(n:Int) by omega),decide_eq_true (show (n:Int)<9223372036854775808 by omega)];rfl
  rw[this];decide
 dsimp only;rw[D];simp only[Bool.not_true,Bool.false_eq_true,if_false,if_true];unfold newFields;refine wpAny_bind (wpAny_newObj_type ?_);refine wpAny_pure ⟨_,J,?_⟩;rw[hsz];have e:(0:Int)+((n:Int)-1)*1=(n:Int)-1:=by omega
 rw[e];exact h
theorem zco{r:Addr}{n:Nat}{t u v:Tok}{Q₁:Value->Shared->Prop}(j:IsRange s.heap r 0 (n:Int) 1 t u v)(B:n<4611686018427387904)(h:Q₁ (.ref s.heap.objs.size) { s with heap:=s.heap.push { cls:=.type "range_iterator",data:=.fields #[rawInt ((n:Int)-1),rawInt n,rawInt (-1)] } }) :
  codeAny (model prog w) A (.call (.builtin "reversed.__new__") ⟨[.type "reversed",.ref r],[]⟩) (wants Q₁ E) s:=by
 have D:s.TypeIs (.ref r) "range":=⟨_,j,J⟩;refine codeAny_of_tree ?_;show wpAny _ A.in1 (do checkBuiltinCall "reversed.__new__" ⟨[.type "reversed",.ref r],[]⟩;again (.builtin "reversed.__new__" ⟨[.type "reversed",.ref r],[]⟩)) _ _ s;refine wpAny_bind (wpAny_of_eq (PySem.F.newCall_reversed_1 _) (wpAny_pure ⟨plainId_quiet PySem.F.plain_reversed_new _,codeAny_builtin PySem.F.entry_reversed_new ?_⟩));rw[Around.under_plainId PySem.F.plain_reversed_new _];unfold Builtin.«reversed.__new__»;refine wpAny_bind (wpAny_of_eq (newClass_reversed _) ?_)
 try dsimp only
 refine wpAny_bind (wpAny_of_eq (a:=()) (by first|rfl|kernel_rfl) ?_)
 refine wpAny_bind (wpAny_of_eq (a:=()) (by first|rfl|kernel_rfl) ?_)
 try dsimp only
 refine wpAny_bind (wpAny_specialOf D PySem.F.slot_range_reversed.lookup ?_)
 try dsimp only
 refine wpAny_bind (wpAny_of_eq (PySem.F.slot_range_reversed.bind _) ?_)
 try dsimp only
 first
 |rw[if_neg (show ¬((Value.builtin "range.__reversed__"==Value.none)=true) from Bool.false_ne_true)]
 |(show wpAny _ _ (if (Value.builtin "range.__reversed__"==Value.none)=true then _ else _) _ _ _;rw[if_neg (show ¬((Value.builtin "range.__reversed__"==Value.none)=true) from Bool.false_ne_true)])
 refine wpAny_bind (wpAny_rule ?_);refine wpAny_bind (m:=runValue (.call (.builtin "range.__reversed__") ⟨[.ref r],[]⟩)) (show wpAny _ _ (call (.builtin "range.__reversed__") [.ref r]) _ _ _ from zcn j B ?_)
 first
 |exact wpAny_pure h
 |exact wpAny_bind (wpAny_pure (wpAny_pure h))
end
noncomputable def iRevR(ta:TA):TI:=λσ H R=>ta σ H λvs H1=>∃n:Nat,vs=[.int (n:Int)]/\n<4611686018427387904/\R (Itr3 ((n:Int)-1) (-1) n) H1
theorem zfq{X:Cx}{tg b:Expr}{ta:TA}{p D pos B:Pos}(J0:Gl X "reversed")(O:X.mg "reversed"=none)(V:Gl X "range")(W:X.mg "range"=none)(Y:PA X [b] ta)(Z:starEach [b] X.env=[(false,eval b X.env)]:=by rfl)(I:starEach [Expr.Call (.Name "range" D) [b] [] B] X.env=(false,eval (Expr.Call (.Name "range" D) [b] [] B) X.env)::starEach [] X.env:=by rfl)(aa:(backTo pos (starEach [] X.env)).any (·.1)=false:=by rfl):PI X tg (.Call (.Name "reversed" p) [.Call (.Name "range" D) [b] [] B] [] pos) (iRevR ta):=by
 intro pins s σ H R F h;refine wpAny_Call_Name_kw (zbA F J0 O zcS ?_ (by decide) (by decide));refine PyProof.Rows.callWith_type1 ?_ I aa;rw[I];show wpAny _ _ (spliced ((false,eval _ X.env)::backTo pos (starEach [] X.env))) _ _ s;refine Calls.spliced_cons ?_;refine Call_ (zbA F V W boot_range (PyProof.Rows.callWith_type1 (thn (Y B pins s σ H _ F h) λus j ab=>?_) Z J));obtain⟨vs,H1,ac,ad,ae⟩:=ab;obtain⟨n,e,af,q⟩:=ae;subst e;cases ad with
 |cons r ag=>
  cases ag;obtain⟨t',rfl⟩:=r;refine call_range_1 ?_;refine Calls.spliced_nil ?_;have G:=ac.kept (t':=j.toks+2) (h':=j.heap.push { cls:=.type "range",data:=.fields #[.int 0 j.toks,.int (n:Int) t',.int 1 (j.toks+1)] }) λb o e=>Heap.get?_push_of_some _ e;refine callType_other (U:="range_iterator") (Q₁:=λobj ah=>obj=.ref _/\ah=_) (by decide +kernel) PySem.F.create_reversed ⟨_,_,PySem.F.mro_reversed⟩ PySem.F.made_reversed zdC (PySem.F.typeCall_reversed_1 _) (zco (IsRange.new ..) af ⟨J,J⟩) ?_;rintro obj al ⟨rfl,rfl⟩;refine⟨⟨_,Heap.get?_push_size _ J,J⟩,?_⟩;have st:IsRangeIter ((j.heap.push { cls:=.type "range",data:=.fields #[.int 0 j.toks,.int (n:Int) t',.int 1 (j.toks+1)] }).push { cls:=.type "range_iterator",data:=.fields #[rawInt ((n:Int)-1),rawInt n,rawInt (-1)] }) (j.heap.push { cls:=.type "range",data:=.fields #[.int 0 j.toks,.int (n:Int) t',.int 1 (j.toks+1)] }).objs.size ((n:Int)-1) (n:Int) (-1):=Heap.get?_push_size _ rfl;refine wpAny_pyIter_rangeiter st ?_;refine⟨_,[_],_,_,H1,J,G.kept (t':=j.toks+2) λb o e=>Heap.get?_push_of_some _ e,zfp _ ((n:Int)-1) (-1) n,?_,λb ai=>?_,q⟩
  .have aj:((n:Int)-1)+((0:Nat):Int)*(-1)=(n:Int)-1:=by simp
   have ak:((n:Nat):Int)-((0:Nat):Int)=(n:Int):=by simp
   show IsRangeIter _ _ (((n:Int)-1)+((0:Nat):Int)*(-1)) (((n:Nat):Int)-((0:Nat):Int)) (-1);rw[aj,ak];exact st
  .have e:=List.mem_singleton.mp ai;subst e;exact G.fpOk (Nat.le_refl _) (G.hok.fresh (Nat.le_refl _))
structure Lft(S R:List Addr)(h h':Heap):Prop where
 keep:∀b o,b∉R->b∉S->h.get? b=some o->h'.get? b=some o
 slot:∀b o,b∉R->h.get? b=some o->∃sl,h'.get? b=some { o with slots:=sl }
 there:∀b o,h.get? b=some o->∃o',h'.get? b=some o'
noncomputable def Exc(e T:Addr)(cls a0 D:Value)(h:Heap):Prop:=
 ∃j vs B ts,h.get? e=some j/\j.cls=cls/\j.data=.fields vs/\vs[0]?=some a0/\vs[1]?=some (.ref T)/\T≠e/\h.get? T=some B/\B.data=.fields ts/\ts[3]?=some D/\vs[2]?=some .none/\j.dict=none
section
variable {S R R':List Addr}{h h1 h2:Heap}{e:Addr}{o ob:Obj}
theorem Lft.trans(a:Lft S R h h1)(b:Lft S R h1 h2):Lft S R h h2:=by
 refine⟨λc o n m q=>b.keep c o n m (a.keep c o n m q),λc o n q=>?_,λc o q=>?_⟩
 .obtain⟨F,j⟩:=a.slot c o n q;obtain⟨B,D⟩:=b.slot c _ n j;exact⟨B,D⟩
 .obtain⟨o',j⟩:=a.there c o q;exact b.there c o' j
theorem Lft.mono(a:Lft S R h h1)(m:∀b∈R,b∈R'):Lft S R' h h1:=
 ⟨λc o n k q=>a.keep c o (λz=>n (m c z)) k q,λc o n q=>a.slot c o (λz=>n (m c z)) q,a.there⟩
theorem Lft.push:Lft S R h (h.push ob):=
 ⟨λ_ _ _ _ q=>Heap.get?_push_of_some _ q,λ_ o _ q=>⟨o.slots,Heap.get?_push_of_some _ q⟩,λ_ o q=>⟨o,Heap.get?_push_of_some _ q⟩⟩
theorem Lft.slots(x:Heap.SlotsOnly S h h1):Lft S R h h1:=by
 refine⟨λb o _ m q=>?_,λb o _ q=>x.2.2 b o q,λb o q=>?_⟩
 .rw[x.2.1 b m];exact q
 .obtain⟨j,z⟩:=x.2.2 b o q;exact⟨_,z⟩
theorem zdf{vs:Array Value}(j:h.get? e=some o)(B:o.data=.fields vs)(f:Array Value->Array Value) :
  (h.update e (Obj.mapFields f)).get? e=some (Obj.mapFields f o):=by
 have k:=Obj.data_mapFields B f;exact Heap.get?_update_self _ j (Obj.isFreed_of_fields k)
theorem Lft.fld{vs:Array Value}(B:h.get? e=some o)(D:o.data=.fields vs)(f:Array Value->Array Value):Lft S [e] h (h.update e (Obj.mapFields f)):=by
 have j:∀b,b∉[e]->(h.update e (Obj.mapFields f)).get? b=h.get? b:=λb n=>Heap.get?_update_other _ _ λz=>n (by rw[z];exact List.mem_singleton_self b);refine⟨λb o n _ q=>by rw[j b n];exact q,λb o n q=>⟨o.slots,by rw[j b n];exact q⟩,λb u q=>?_⟩;by_cases z:b=e
 .subst z;exact⟨_,zdf B D f⟩
 .exact⟨u,by rw[j b (by simpa using z)];exact q⟩
end
theorem zi4(f:Array Value->Array Value)(o:Obj):(Obj.mapFields f o).dict=o.dict:=by
 unfold Obj.mapFields;split<;>rfl
section
variable {M:Model}{A:Around}{E:Value->Shared->Prop}{s:Shared}{base:Heap}{env:Env}{outer:List Env}{L e:Addr}{cls a0:Value}
theorem ent{j:Obj}{vs:Array Value}{I:Value}{Y:Bool}{Q:Unit->Shared->Prop}(Z:A.frames=some (env::outer))(J0:s.heap.FunFrames base (env::outer))(aa:env.frame=some L)(O:s.heap.get? e=some j)(B:j.data=.fields vs)(hsz:1<vs.size)(ab:vs[0]?=some a0)(ac:vs[2]?=some .none)(ad:j.dict=none)(h:∀h' T,Lft (frs (env::outer)) [e] s.heap h'->s.heap.objs.size<=T->Exc e T j.cls a0 (rawInt L) h'->Q () { s with heap:=h' }) :
  wpAny M A (do let a ← frameOf env;let D ← entryPlaceOf L Y;let b ← EntryCells.newEntry I a .none (rawInt L) .none D;setField (.ref e) 1 b) Q E s:=by
 have ae:e∉(env::outer).filterMap (·.frame):=by
  intro z;obtain⟨_,o,q,af⟩:=J0.mem z;rw[O] at q;cases q;exact af vs B
 refine wpAny_bind (wpAny_frameOf_fun Z J0 aa λh1 F=>?_);refine wpAny_bind (wpAny_entryPlaceOf λD U=>?_);unfold EntryCells.newEntry newFields;refine wpAny_bind (wpAny_newObj_type ?_ (U.sizeOk5 _ _ _ _ _));have V:h1.get? e=some j:=by rw[F.2.1 e ae];exact O
 have G:(h1.push { cls:=.type "traceback",dict:=none,data:=.fields ([I,.ref L,.none,rawInt L,.none]++(if D.isEmpty then List.replicate 6 Value.none else D)).toArray }).get? e=some j:=Heap.get?_push_of_some _ V;have W:h1.objs.size≠e:=Nat.ne_of_gt (Heap.lt_size V);refine wpAny_setField G B hsz ?_;refine h _ h1.objs.size (((Lft.slots F).trans Lft.push).trans (Lft.fld G B _)) (Nat.le_of_eq F.1.symm) ?_;refine⟨_,_,_,_,zdf G B _,Obj.cls_mapFields _ _,Obj.data_mapFields B _,?_,?_,W,(Heap.get?_update_other _ _ (Ne.symm W)).trans (Heap.get?_push_size _ J),J,?_,?_,by rw[zi4];exact ad⟩
 .rw[Array.getElem?_setIfInBounds_ne (by decide)];exact ab
 .simp[hsz]
 .rcases U with rfl|⟨_,_,_,_,_,_,_,rfl⟩<;>rfl
 .rw[Array.getElem?_setIfInBounds_ne (by decide)];exact ac
theorem zf0{j:Obj}{vs:Array Value}{Q:Unit->Shared->Prop}(I:A.frames=some (env::outer))(J0:s.heap.FunFrames base (env::outer))(B:env.frame=some L)(D:s.heap.get? e=some j)(F:j.data=.fields vs)(G:vs[1]?=some .none)(O:vs[0]?=some a0)(U:vs[2]?=some .none)(V:j.dict=none)(h:∀h' T,Lft (frs (env::outer)) [e] s.heap h'->s.heap.objs.size<=T->Exc e T j.cls a0 (rawInt L) h'->Q () { s with heap:=h' }):wpAny M A (noteFrame (.ref e) env) Q E s:=by
 have hsz:1<vs.size:=(Array.getElem?_eq_some_iff.mp G).1;unfold noteFrame;simp only[B];refine wpAny_bind (wpAny_field D F G ?_);rw[if_neg (by decide)];exact ent I J0 B D F hsz O U V h
theorem zhL{T:Addr}{Q:Unit->Shared->Prop}(U:A.frames=some (env::outer))(V:s.heap.FunFrames base (env::outer))(F:env.frame=some L)(x:Exc e T cls a0 .none s.heap)(h:∀h' j,Lft (frs (env::outer)) [e,T] s.heap h'->s.heap.objs.size<=j->Exc e j cls a0 (rawInt L) h'->Q () { s with heap:=h' }):wpAny M A (noteFrame (.ref e) env) Q E s:=by
 obtain⟨af,vs,ag,ts,G,rfl,I,W,J0,Y,B,D,O,Z,aa⟩:=x;have hsz:1<vs.size:=(Array.getElem?_eq_some_iff.mp J0).1;have ab:3<ts.size:=(Array.getElem?_eq_some_iff.mp O).1;unfold noteFrame;simp only[F];refine wpAny_bind (wpAny_field G I J0 ?_);rw[if_pos (by simp)];refine wpAny_bind (wpAny_field B D O ?_);rw[if_neg (by simp[rawInt])];refine wpAny_bind (wpAny_setField B D ab ?_);have ac:Lft (frs (env::outer)) [T] s.heap (s.heap.update T (Obj.mapFields (·.setIfInBounds 3 Value.none))):=Lft.fld B D _;refine ent (s:={ s with heap:=_ }) U (V.of_keeps λb o q ad=>⟨o,?_,J⟩) F ((Heap.get?_update_other _ _ Y).trans G) I hsz W Z aa λh' j ae k x=>?_
 .show (s.heap.update T _).get? b=some o;rw[Heap.get?_update_other _ _ λz=>?_]
  .exact q
  .subst z;rw[B] at q;cases q;exact ad _ D
 .refine h h' j ((ac.mono (by simp)).trans (ae.mono (by simp))) (Nat.le_trans (Nat.le_of_eq (Heap.size_after_update ..).symm) k) x
theorem zeU{T:Addr}{O:Value}{Q:Unit->Shared->Prop}(x:Exc e T cls a0 O s.heap)(h:∀h',Lft [] [T] s.heap h'->Exc e T cls a0 .none h'->Q () { s with heap:=h' }):wpAny M A (setFlight (.ref e) none) Q E s:=by
 obtain⟨U,vs,ab,ts,D,V,F,W,G,I,B,j,Y,Z,aa⟩:=x;have J0:3<ts.size:=(Array.getElem?_eq_some_iff.mp Y).1;unfold setFlight;refine wpAny_bind (wpAny_field D F G ?_);rw[if_pos (by simp)];refine wpAny_setField B j J0 (h _ (Lft.fld B j _) ?_);refine⟨U,vs,_,_,?_,V,F,W,G,I,zdf B j _,Obj.data_mapFields j _,by simp[J0],Z,aa⟩;rw[Heap.get?_update_other _ _ I];exact D
end
noncomputable def CXE(P:Program)(w:World):CXT:=λouter H s E ev s'=>∃a T cls t H',ev=.ref a/\s'.os=s.os/\AllBare s'.gens/\Un (frs outer) [] H H' s.heap s'.heap/\HOk P w H' s'.heap /\
 s.heap.get? a=none/\s.heap.get? T=none/\H' a=none/\H' T=none/\Exc a T cls (.ref t) .none s'.heap/\E cls none H'
theorem HOk.lft{P:Program}{w:World}{H:Hp}{h h':Heap}{S R:List Addr}(x:HOk P w H h)(l:Lft S R h h')(B:∀b∈S,H b=none)(D:∀b∈R,H b=none):HOk P w H h':=by
 intro a o e;refine(x a o e).stay (λb u F q=>?_) (λ_ q=>q) λ_ _ q=>q;have j:H b≠none:=by
  rcases F with z|z
  .subst z;rw[e];exact λz=>nomatch z
  .rw[z];exact λz=>nomatch z
 exact l.keep b u (λz=>j (D b z)) (λz=>j (B b z)) q
theorem ObjOk.at{P:Program}{w:World}{H:Hp}{h:Heap}{a:Addr}{o:HO}(x:ObjOk P w H h a o):∃u,h.get? a=some u:=by
 cases o with
 |lst xs=>obtain⟨_,_,_,_,e⟩:=x;exact⟨_,e⟩
 |tup xs=>obtain⟨_,_,_,o,e,_⟩:=x;exact⟨_,e⟩
 |dK kvs=>obtain⟨_,_,_,_,o,_,_,e,_⟩:=x;exact⟨_,e⟩
 |dT kvs=>obtain⟨_,_,_,_,o,_,_,e,_⟩:=x;exact⟨_,e⟩
 |set S n=>obtain⟨o,_,_,_,e,_⟩:=x;exact⟨_,e⟩
 |ins C dx fs=>obtain⟨_,_,_,e,_⟩:=x;exact⟨_,e⟩
 |own y=>exact x
 |xd fs=>obtain⟨_,⟨_,_,_,e,_⟩,_⟩:=x;exact⟨_,e⟩
 |rng lo hi=>obtain⟨_,_,_,e⟩:=x;exact⟨_,e⟩
 |frz ob u=>obtain⟨e,_⟩:=x;exact⟨_,e⟩
 |tbl ps=>exact⟨_,(show h.get? a=some _ from x)⟩
 |met f y=>exact⟨_,(show h.get? a=some _ from x)⟩
 |ext j=>obtain⟨_,e,_⟩:=x;exact e
theorem HOk.no{P:Program}{w:World}{H:Hp}{h:Heap}{a:Addr}(x:HOk P w H h)(e:h.get? a=none):H a=none:=by
 cases q:H a with
 |none=>rfl
 |some o=>
  obtain⟨u,z⟩:=(x a o q).at;rw[e] at z;cases z
theorem Un.no{fs:List Addr}{H H1:Hp}{h h1:Heap}{a:Addr}(u:Un fs [] H H1 h h1)(e:h1.get? a=none):h.get? a=none:=by
 cases q:h.get? a with
 |none=>rfl
 |some o=>
  obtain⟨o',z⟩:=u.there a o q (by simp);rw[e] at z;cases z
theorem Un.lft{fs S R:List Addr}{H H1:Hp}{h h1 h2:Heap}(u:Un fs [] H H1 h h1)(l:Lft S R h1 h2)(B:∀b∈R,h.get? b=none)(D:∀b∈S,b∈fs∨h.get? b=none):Un fs [] H H1 h h2:=by
 have j:∀b o,h.get? b=some o->b∉R:=λb o q z=>by rw[B b z] at q;cases q
 refine⟨λb o q n m k=>?_,λb o q n m k=>?_,u.free,λb o q k=>?_,u.tups,u.frzs,u.tbls⟩
 .refine l.keep b o (j b o q) (λz=>?_) (u.keep b o q n m k);rcases D b z with y|y
  .exact m y
  .rw[y] at q;cases q
 .obtain⟨G,z⟩:=u.slot b o q n m k;obtain⟨F,y⟩:=l.slot b _ (j b o q) z;exact⟨F,y⟩
 .obtain⟨o',z⟩:=u.there b o q k;exact l.there b o' z
theorem zjO{base:Heap}{H H2:Hp}{h h2:Heap}{fs:List Addr}(u:Un fs [] H H2 h h2):∀ {l:List Env},h.FunFrames base l->(∀b∈frs l,H b=none)->h2.FunFrames base l:=by
 intro l;induction l with
 |nil=>intro _ _;trivial
 |cons env r D=>
  intro F j;obtain⟨G,⟨L,o,B,I,J0,O⟩,U⟩:=F;have V:frs (env::r)=L::frs r:=by unfold frs;rw[List.filterMap_cons,B]
  rw[V] at j;obtain⟨W,q⟩:=u.any J0 (j L List.mem_cons_self) (by simp);exact⟨G,⟨L,_,B,I,q,O⟩,D U λb z=>j b (List.mem_cons_of_mem _ z)⟩
theorem Un.trans1{fs:List Addr}{L:Addr}{H H1 H2:Hp}{h h1 h2:Heap}(a:Un fs [] H H1 h h1)(b:Un (L::fs) [] H1 H2 h1 h2)(j:h.get? L=none):Un fs [] H H2 h h2:=by
 have B:Un (L::fs) [] H H1 h h1:=a.mono (λb z=>List.mem_cons_of_mem _ z) λ_ z=>z;have c:=B.trans b;refine⟨λx o q n m k=>c.keep x o q n (λz=>?_) k,λx o q n m k=>c.slot x o q n (List.mem_cons_of_mem _ m) k,c.free,c.there,c.tups,c.frzs,c.tbls⟩;rcases List.mem_cons.mp z with y|y
 .rw[y,j] at q;cases q
 .exact m y
noncomputable def Rz(X:Cx)(E:XK):Prop:=∀(pins:List (Addr×Obj)) (σ:St) (H:Hp) (s:Shared) (h':Heap) (a:Addr) (cls:Value) (vs:List Value),Inv X pins σ H s->Heap.MadeExcOf s.heap h' a cls vs->E cls none H->X.xe (.ref a) { s with heap:=h' }
section
variable {P:Program}{w:World}{K:W.Frag}{mg:Str->Option Value}{base:Heap}{N:List Str}{qual:Str}{scope:Scope}{f:Addr}{cd:Value}{A:Around}{outer:List Env}{s:Shared}{H:Hp}{E:XK}
theorem zfr{b:Addr}{pins:List (Addr×Obj)}{σ:St}{H1:Hp}{j:Shared}(B:Inv (cxOf (CXE P w) P w K mg base N qual scope f cd A outer s H E) pins σ H1 j)(z:b∈frs (envOfC qual scope s.heap.objs.size f cd::outer)):b∈frs outer∨s.heap.get? b=none:=by
 have z:b∈(s.heap.objs.size::frs outer):=z;rcases List.mem_cons.mp z with y|y
 .exact .inr (Heap.get?_none_of_le (Nat.le_of_eq y.symm))
 .exact .inl y
theorem zkp:Rz (cxOf (CXE P w) P w K mg base N qual scope f cd A outer s H E) E:=by
 intro pins σ H1 B h' a cls vs j M U;show wpAny _ (A.deeper _) (leaving _ (.ref a)) _ _ _;unfold leaving;obtain⟨t,V,ai,aj⟩:=M.there;have W:(A.deeper (envOfC qual scope s.heap.objs.size f cd)).frames=some (envOfC qual scope s.heap.objs.size f cd::outer):=j.ok.frames;have Y:=j.stkFree;have D:Un (frs outer) [] H H1 s.heap B.heap:=j.base;have G:=j.hok.no M.new;have Z:∀T,h'.get? T=none->B.heap.get? T=none:=λT q=>by
  cases z:B.heap.get? T with
  |none=>rfl
  |some o=>rw[M.keeps T o z] at q;cases q
 have aa:h'.FunFrames base (envOfC qual scope s.heap.objs.size f cd::outer):=j.stack.of_keeps λb o q _=>⟨o,M.keeps b o q,J⟩;refine wpAny_bind (zf0 (s:={ B with heap:=h' }) W aa J V J J J J rfl λh2 T I ab ac=>?_);refine zeU (s:={ B with heap:=h2 }) ac λad J0 ae=>?_;have F:B.heap.get? T=none:=Z T (Heap.get?_none_of_le ab);have af:Un (frs outer) [] H H1 s.heap h':=D.trans (Un.kept M.keeps);have ag:=af.lft I (λb z=>by rw[List.mem_singleton.mp z];exact D.no M.new) λb z=>zfr j z;have ah:=ag.lft J0 (λb z=>by rw[List.mem_singleton.mp z];exact D.no F) λb z=>absurd z (by simp);have O:=j.hok.no F;have k1:HOk P w H1 h':=j.hok.kept M.keeps;have k2:HOk P w H1 h2:=k1.lft I (λb z=>Y b z) λb z=>by rw[List.mem_singleton.mp z];exact G
 have k3:HOk P w H1 ad:=k2.lft J0 (λb z=>absurd z (by simp)) λb z=>by rw[List.mem_singleton.mp z];exact O
 exact⟨a,T,cls,t,H1,J,j.os,j.bare,ah,k3,D.no M.new,D.no F,G,O,ae,U⟩
theorem zhM:zfK (CXE P w) (cxOf (CXE P w) P w K mg base N qual scope f cd A outer s H E) E:=by
 intro pins σ H1 O ev B j c;obtain⟨a,T,cls,t,H2,rfl,os,ad,D,U,ea,ae,V,af,x,ag⟩:=c;show wpAny _ (A.deeper _) (leaving _ (.ref a)) _ _ _;unfold leaving;have ah:(A.deeper (envOfC qual scope s.heap.objs.size f cd)).frames=some (envOfC qual scope s.heap.objs.size f cd::outer):=j.ok.frames;have D:Un (frs (envOfC qual scope s.heap.objs.size f cd::outer)) [] H1 H2 O.heap B.heap:=D;have F:Un (frs outer) [] H H1 s.heap O.heap:=j.base;have W:∀b∈frs (envOfC qual scope s.heap.objs.size f cd::outer),H1 b=none:=j.stkFree;have ai:∀b∈frs (envOfC qual scope s.heap.objs.size f cd::outer),H2 b=none:=λb z=>by
  obtain⟨_,o,q,_⟩:=j.stack.mem z;exact D.free b o q (W b z) (by simp)
 have aj:B.heap.FunFrames base (envOfC qual scope s.heap.objs.size f cd::outer):=zjO D j.stack W;refine wpAny_bind (zhL ah aj J x λh2 G Y ak al=>?_);refine zeU (s:={ B with heap:=h2 }) al λam Z ao=>?_;have I:Un (frs outer) [] H H2 s.heap B.heap:=F.trans1 D (Heap.get?_none_of_le (Nat.le_refl _));have J0:B.heap.get? G=none:=Heap.get?_none_of_le ak;have aa:H2 G=none:=U.no J0;have ab:=F.no ea;have ap:=F.no ae;have ac:∀b∈[a,T],s.heap.get? b=none/\H2 b=none:=λb z=>by
  rcases List.mem_cons.mp z with y|y
  .rw[y];exact⟨ab,V⟩
  .rw[List.mem_singleton.mp y];exact⟨ap,af⟩
 have aq:=I.lft Y (λb z=>(ac b z).1) λb z=>zfr j z;have ar:=aq.lft Z (λb z=>by rw[List.mem_singleton.mp z];exact I.no J0) λb z=>absurd z (by simp);have k2:HOk P w H2 h2:=U.lft Y ai λb z=>(ac b z).2;have k3:HOk P w H2 am:=k2.lft Z (λb z=>absurd z (by simp)) λb z=>by rw[List.mem_singleton.mp z];exact aa
 exact⟨a,G,cls,t,H2,J,os.trans j.os,ad,ar,k3,ab,I.no J0,V,aa,ao,ag⟩
end
noncomputable abbrev bmVE:List Value:=[.type "ValueError",.type "Exception",.type "BaseException",.type "object"]
theorem zlD{K:W.Frag}{h:Heap}{mg:Str->Option Value}{x:Str}{C:Addr}{B:List Value}{D:String}(X:K.In h)(e:mg x=some (.ref C))(q:W.excIn K C B D=true):OwnCls x C B D mg h:=by
 refine⟨e,?_⟩;unfold W.excIn at q;split at q
 .next dd cd sl ho=>
  split at q
  .next C' bm k0 k1 k2 k3 n k5 hm hs=>
   simp only[Bool.and_eq_true,beq_iff_eq,Bool.not_eq_true'] at q;obtain⟨⟨⟨⟨⟨I,J0⟩,F⟩,O⟩,j⟩,G⟩:=q;have U:sl=#[k0,k1,k2,k3,some (.builtin n),k5]:=by rw[←hs]
   subst I J0 U;cases cd;simp only at hm F j G;subst hm F;exact⟨_,_,_,_,_,_,_,_,_,_,_,_,_,_,_,_,_,X _ _ ho,.of_isNs (W.isNs_of_in X j),W.nsMap_none_of_in X j G,W.tail_of_in X O⟩
  .cases q
 .cases q
section
variable {X:Cx}{x:Str}{C:Addr}{e:Expr}{es:List Expr}{t:TA}{np cpos pos:Pos}{E:XK}
theorem zen(J0:W.excIn X.K C bmVE "ValueError.__new__"=true)(O:X.calm=true)(U:Gl X x)(G:X.mg x=some (.ref C))(V:PA X (e::es) t)(Y:Rz X E)(Z:(x==("__debug__":Str))=false:=by decide)(I:starEach (e::es) X.env=(false,eval e X.env)::starEach es X.env:=by rfl)(aa:(backTo cpos (starEach es X.env)).any (·.1)=false:=by rfl) :
  PS X (.Raise (some (.Call (.Name x np) (e::es) [] cpos)) none pos) (λ_ σ H=>t σ H λvs H1=>vs.length<=sizeLine/\E (.ref C) none H1):=by
 intro pins s σ H D j h;have ac:=zlD j.ok.mod.kin G J0;obtain⟨tl,N,nm,q,bs,hdct,sn,sub,ab,col,dd,k0,k1,k2,k3,k5,aj,ad,ae,af,T⟩:=ac.obj;have ag:(backTo cpos (starEach (e::es) X.env)).any (·.1)=false:=by
  rw[I];show (false || (backTo cpos (starEach es X.env)).any (·.1))=false;rw[aa];rfl
 refine wpAny_Raise_call_subU (k5:=k5) (k3:=k3) (k2:=k2) (k1:=k1) (k0:=k0) (dd:=dd) (col:=col) (ab:=ab) (sub:=sub) (sn:=sn) (hdct:=hdct) (bs:=bs) (N:=N) (q:=q) (nm:=nm) F.excBase_ValueError rfl F.excBase_ValueError (T.hasType F.excBase_ValueError.hasBase) (j.ok.hd O) ag af (zdt j U G ⟨J,?_⟩ Z);have h2:=V cpos pins s σ H _ j h;rw[I] at h2 ⊢;refine Calls.evalArgs_plain (wpAny_mono h2 (λus ah ai=>?_) λ_ _ y=>y);obtain⟨vs,H1,B,r,z,q⟩:=ai;exact⟨J,by rw[←r.length];exact z,B.bk _ _ ad,ae.keeps B.bk,T.keeps B.bk,λh' a m=>Y pins σ H1 ah h' a _ _ B m q⟩
end
section
variable {P:Program}{w:World}{K:W.Frag}{mg:Str->Option Value}{base:Heap}
theorem Fun.okX{x qual:Str}{st:Stmt}{f:Addr}{fd:FuncData}{N ps:List Str}{k:Nat}{sp:Sp}(F:Fun K x qual st f fd)(S:zau N ps (zah st))(len:∀vs H Q E,sp vs H Q E->vs.length=ps.length)(j:∀(cdv:Value) (A:Around) (outer:List Env) (s:Shared) (H:Hp) (vs:List V) (Q:VK) (E:XK),Room k (A.deeper (envOfC qual (zah st) s.heap.objs.size f cdv))->sp vs H Q E ->
   ∃t,PSs (cxOf (CXE P w) P w K mg base N qual (zah st) f cdv A outer s H E) (zbn st) t/\t { nx:=λ_ H'=>Q .non H',rt:=Q } (start N vs) H):FnOk P w K mg base (CXE P w) (k+1) f fd ps sp:=by
 obtain⟨oc,od,kV,doc,pm,an,cdv,ct,osl,rfl,B,D⟩:=F.ex;refine zj5 B D S len λA outer s H vs Q E G I=>?_;exact j cdv A outer s H vs Q E G I
end
noncomputable def exH(a:Addr)(cls:Value):HO:=.ext λh=>∃o vs,h.get? a=some o/\o.cls=cls/\o.data=.fields vs/\vs[2]?=some .none/\o.dict=none
theorem zlE{P:Program}{w:World}{H:Hp}{h:Heap}{a T:Addr}{cls a0 B:Value}(x:Exc a T cls a0 B h):ObjOk P w H h a (exH a cls):=by
 obtain⟨o,vs,_,_,e,c,d,_,_,_,_,_,_,D,F⟩:=x;refine⟨⟨o,vs,e,c,d,D,F⟩,⟨o,e⟩,λh1 h2 q k=>?_⟩;obtain⟨j,G,I,J0,O⟩:=q;exact⟨j,G,k j I,J0,O⟩
theorem HOk.add{P:Program}{w:World}{H:Hp}{h:Heap}{a:Addr}{o:HO}(x:HOk P w H h)(n:H a=none)(j:ObjOk P w (upd H a o) h a o):HOk P w (upd H a o) h:=by
 intro b u e;by_cases z:b=a
 .subst z;rw[zab] at e;cases e;exact j
 .rw[zan z] at e;exact(x b u e).stay (λ_ _ _ q=>q) (λc q=>by rw[zan (zae q n)];exact q) λc xs q=>by rw[zan (zae q n)];exact q
theorem Un.add{fs:List Addr}{H H1:Hp}{h h1:Heap}{a:Addr}{o:HO}(u:Un fs [] H H1 h h1)(n:H1 a=none)(e:h.get? a=none):Un fs [] H (upd H1 a o) h h1:=by
 refine⟨u.keep,u.slot,λb ob q m k=>?_,u.there,λb xs q=>?_,λb ob v q=>?_,λb ps q=>?_⟩
 .rw[zan λz=>by subst z;rw[e] at q;cases q];exact u.free b ob q m k
 .have z:=u.tups b xs q;rw[zan (zae z n)];exact z
 .have z:=u.frzs b ob v q;rw[zan (zae z n)];exact z
 .obtain⟨m,z⟩:=u.tbls b ps q;exact⟨m,by rw[zan (zae z n)];exact z⟩
section
variable {P:Program}{w:World}{M:Model}{A:Around}{env:Env}{outer:List Env}{L:Addr}{base:Heap}{H:Hp}{s s':Shared}{E:XK}{EE:Value->Shared->Prop}{ev:Value}
theorem noted{Q:Unit->Shared->Prop}(Z:A.frames=some (env::outer))(aa:env.frame=some L)(G:s.heap.FunFrames base (env::outer))(I:∀b∈frs (env::outer),H b=none)(c:CXE P w (env::outer) H s E ev s')(h:∀B,CXE P w (env::outer) H s E ev B->Q () B):wpAny M A (noteFrame ev env) (λ_ B=>wpAny M A (setFlight ev none) Q EE B) EE s':=by
 obtain⟨a,T,cls,t,H2,rfl,os,ab,j,J0,ea,ac,O,ad,x,ae⟩:=c;have af:∀b∈frs (env::outer),H2 b=none:=λb z=>by
  obtain⟨_,o,q,_⟩:=G.mem z;exact j.free b o q (I b z) (by simp)
 refine zhL Z (zjO j G I) aa x λh2 D U ag ah=>?_;refine zeU (s:={ s' with heap:=h2 }) ah λai V aj=>h _ ?_;have F:s'.heap.get? D=none:=Heap.get?_none_of_le ag;have W:H2 D=none:=J0.no F;have Y:∀b∈[a,T],s.heap.get? b=none/\H2 b=none:=λb z=>by
  rcases List.mem_cons.mp z with y|y
  .rw[y];exact⟨ea,O⟩
  .rw[List.mem_singleton.mp y];exact⟨ac,ad⟩
 have ak:=j.lft U (λb z=>(Y b z).1) λb z=>.inl z;have al:=ak.lft V (λb z=>by rw[List.mem_singleton.mp z];exact j.no F) λb z=>absurd z (by simp);have k2:HOk P w H2 h2:=J0.lft U af λb z=>(Y b z).2;have k3:HOk P w H2 ai:=k2.lft V (λb z=>absurd z (by simp)) λb z=>by rw[List.mem_singleton.mp z];exact W
 exact⟨a,D,cls,t,H2,J,os,ab,al,k3,ea,j.no F,O,W,aj,ae⟩
theorem flown{Q:Unit->Shared->Prop}(c:CXE P w outer H s E ev s')(h:∀j,CXE P w outer H s E ev j->Q () j):wpAny M A (setFlight ev none) Q EE s':=by
 obtain⟨a,T,cls,t,H2,rfl,os,G,I,J0,ea,B,O,D,x,U⟩:=c;refine zeU x λV F W=>h _ ?_;have Y:=I.lft F (λb z=>by rw[List.mem_singleton.mp z];exact B) λb z=>absurd z (by simp);have k3:HOk P w H2 V:=J0.lft F (λb z=>absurd z (by simp)) λb z=>by rw[List.mem_singleton.mp z];exact D
 exact⟨a,T,cls,t,H2,J,os,G,Y,k3,ea,B,O,D,W,U⟩
end
section
variable {X:Cx}{pins:List (Addr×Obj)}{σ:St}{H:Hp}{s s':Shared}{E:XK}{ev:Value}
noncomputable def XP(X:Cx)(pins:List (Addr×Obj))(σ:St)(E:XK)(ev:Value)(s':Shared):Prop:=∃H s,Inv X pins σ H s/\CXE X.prog X.w X.stack H s E ev s'
theorem Inv.caught(B:Inv X pins σ H s)(c:CXE X.prog X.w X.stack H s E ev s'):∃a cls H',ev=.ref a/\H' a=none/\E cls none H'/\Inv X pins σ (upd H' a (exH a cls)) s'/\∃o,s'.heap.get? a=some o/\o.cls=cls:=by
 obtain⟨a,T,cls,t,H2,rfl,os,D,F,G,ea,O,j,U,x,I⟩:=c;obtain⟨o,_,_,_,e,J0,_⟩:=id x;exact⟨a,cls,H2,J,j,I,B.call' (ch:=[]) os (F.add j ea) (G.add j (zlE x)) D λb z=>absurd z (by simp),o,e,J0⟩
end
section
variable {X:Cx}{pins:List (Addr×Obj)}{σ:St}{H:Hp}{s:Shared}
end
noncomputable abbrev TEX:=St->Hp->VK->XK->Prop
noncomputable abbrev TSX:=Ends->XK->St->Hp->Prop
noncomputable def PEx(X:Cx)(e:Expr)(t:TEX):Prop:=
 ∀(pins:List (Addr×Obj)) (s:Shared) (σ:St) (H:Hp) (Q:VK) (E:XK),Inv X pins σ H s->t σ H Q E->wpAny (model X.prog X.w) X.A (eval e X.env) (EP X pins σ Q) (XP X pins σ E) s
noncomputable def PX(X:Cx)(st:Stmt)(t:TSX):Prop:=
 ∀(pins:List (Addr×Obj)) (s:Shared) (σ:St) (H:Hp) (D:Ends) (E:XK),Inv X pins σ H s->t D E σ H->wpAny (model X.prog X.w) X.A (exec st X.env) (SP X pins D) (XP X pins σ E) s
noncomputable def PXs(X:Cx)(st:List Stmt)(t:TSX):Prop:=
 ∀(pins:List (Addr×Obj)) (s:Shared) (σ:St) (H:Hp) (D:Ends) (E:XK),Inv X pins σ H s->t D E σ H->wpAny (model X.prog X.w) X.A (execs st X.env) (SP X pins D) (XP X pins σ E) s
section
variable {X:Cx}{k:Nat}{f C:Addr}{fd:FuncData}{ps:List Str}{sp:Sp}{dvs:List V}{ds:List Value}{x m:Str}{p pos apos:Pos}{e o:Expr}{es:List Expr}{ta:TE}{t:TA}{tx:TEX}{i:Nat}{st:Stmt}{u v:TSX}{a b:List Stmt}
theorem zkq{pins:List (Addr×Obj)}{σ:St}{H:Hp}{s:Shared}{Q:VK}{E:XK}{us:List Value}{vs:List V}(F:FnOk X.prog X.w X.K X.mg X.base (CXE X.prog X.w) k f fd ps sp)(G:Room k X.A)(I:Binds X.K fd ps ds)(J0:Vals dvs ds)(B:Inv X pins σ H s)(r:Vals vs us)(h:sp (vs++dvs) H Q E):wpAny (model X.prog X.w) X.A (call (.ref f) us) (EP X pins σ Q) (XP X pins σ E) s:=by
 have D:Vals (vs++dvs) (us++ds):=r.append J0;have O:(us++ds).length=ps.length:=by rw[←D.length];exact F.len _ _ _ _ h
 refine wpAny_call (codeAny_mono (F.run X.A X.stack s H ⟨us,[]⟩ (us++ds) (vs++dvs) Q E G B.env0 (I s us B.kIn O) D h) λr s' j=>?_);cases r with
 |error e=>exact⟨H,s,B,j⟩
 |ok U=>
  cases U with
  |ret u=>exact B.after j
  |next=>exact False.elim j
  |brk=>exact False.elim j
  |cont=>exact False.elim j
theorem zi5(F:FnOk X.prog X.w X.K X.mg X.base (CXE X.prog X.w) k f fd ps sp)(D:Room k X.A)(G:Gl X x)(I:X.mg x=some (.ref f))(J0:W.keepIn X.K (.ref f)=true)(O:Binds X.K fd ps ds)(U:Vals dvs ds)(V:PA X.nox (e::es) t)(Y:(x==("__debug__":Str))=false:=by decide)(Z:starEach (e::es) X.env=(false,eval e X.env)::starEach es X.env:=by rfl)(aa:(backTo pos (starEach es X.env)).any (·.1)=false:=by rfl) :
  PEx X (.Call (.Name x p) (e::es) [] pos) (λσ H Q E=>t σ H λvs H1=>sp (vs++dvs) H1 Q E):=by
 intro pins s σ H Q E j h;refine wpAny_Call_Name_kw (zdt j G I ?_ Y);refine W.callWith_K (h₀:=X.base) j.ok.mod.kin J0 (wpAny_mono (V pos pins s σ H _ (j.wish _) h) (λus ab q=>?_) λ_ _ z=>False.elim z) Z aa;obtain⟨vs,H1,B,r,q⟩:=q;exact⟨B.kIn,zkq F D O U B.unwish r q⟩
theorem zlF{pos':Pos}(j:X.N.Nodup)(hi:X.N[i]?=some x)(B:Loc X.env.scope x)(F:PEx X e tx)(G:swapsWith e (some (.Name x pos')) pos.line X.env=pure false:=by rfl)(I:X.fn x=true∨X.env.scope.names.lookup x=some .local:=by first|exact .inl rfl|exact .inr rfl|assumption) :
  PX X (.Assign [.Name x pos'] e pos) (λD E σ H=>tx σ H (λy H1=>D.nx (σ.set i (some y)) H1) E):=by
 intro pins s σ H D E J0 h;refine wpAny_Assign_Name (thn (F pins s σ H _ E J0 h) λv Y q=>?_) G;obtain⟨y,H1,O,U,V⟩:=q;exact zda O j hi B U (λZ W=>⟨_,H1,W,V⟩) I
theorem zkr(h:PX X st u):PXs X [st] u:=by
 intro pins s σ H D E j q;refine wpAny_execs_cons (thn (h pins s σ H D E j q) λf B z=>?_);cases f with
 |next=>exact wpAny_execs_nil z
 |brk=>exact z
 |cont=>exact z
 |ret u=>exact z
end
noncomputable abbrev Cx.hand(X:Cx)(a:Addr):Cx:={ X with A:=X.A.mark (some (.ref a)),calm:=false,xe:=λ_ _=>False }
section
variable {X:Cx}{pins:List (Addr×Obj)}{σ:St}{H:Hp}{s:Shared}{a:Addr}
theorem Inv.hand(j:Inv X pins σ H s)(a:Addr):Inv (X.hand a) pins σ H s:=by
 have ok:=j.ok;exact⟨⟨ok.mod,ok.kind,ok.glob,ok.blt,ok.above,ok.inj,ok.has,ok.cab,(λz=>nomatch z),ok.frames,ok.stk,ok.exf,ok.bs,ok.bsz,ok.noex,ok.exfs,ok.funs,ok.frf⟩,j.os,j.bare,j.base,j.loc,j.cell,j.free,j.freeC,j.pin,j.hok,j.len⟩
theorem Inv.back(ok:X.Ok)(j:Inv (X.hand a) pins σ H s):Inv X pins σ H s:=⟨ok,j.os,j.bare,j.base,j.loc,j.cell,j.free,j.freeC,j.pin,j.hok,j.len⟩
end
noncomputable def tTry(K:W.Frag)(C:Addr)(tb:TSX)(ts:Addr->TS):TS:=λD σ H=>
 tb D (λcls _ H'=>W.exmOne K cls (.ref C)=some true/\∀a,H' a=none->ts a D σ (upd H' a (exH a cls))) σ H
section
variable {X:Cx}{i:Nat}{n x:Str}{C:Addr}{body suite:List Stmt}{b₀:Stmt}{np hpos pos:Pos}{tb:TSX}{ts:Addr->TS}
theorem zhN{M:Model}{h:Heap}{a:Addr}{o:Obj}{c:Value}(e:h.get? a=some o)(q:o.cls=c):W.Looks M h (typeOf (.ref a)) c:=by
 subst q;exact(W.Looks.ld e).andThen .now
theorem zlG(G:X.stack=X.env::X.outer)(Z:X.env.frame=some X.env.locals)(aa:Gl X x)(ab:X.mg x=some (.ref C))(ac:PXs X body tb)(ad:∀a,PSs (X.hand a) (b₀::suite) (ts a))(ae:(x==("__debug__":Str))=false:=by decide) :
  PS X (.Try body [.ExceptHandler (some (.Name x np)) none (b₀::suite) hpos] [] [] pos) (tTry X.K C tb ts):=by
 intro pins s σ H D B h;refine wpAny_Try_except (wpAny_mono (ac pins s σ H D _ B h) (λf af q=>?_) λev af q=>?_)
 .cases f with
  |next=>exact wpAny_execs_nil q
  |brk=>exact q
  |cont=>exact q
  |ret u=>exact q
 .obtain⟨H1,aq,F,c⟩:=q;have I:=F.stack;have O:=F.stkFree;rw[G] at I O c;have ag:X.A.frames=some (X.env::X.outer):=by rw[←G];exact F.ok.frames
  refine noted ag Z I O c λah U=>?_;have V:=U;rw[←G] at V;obtain⟨a,cls,H2,rfl,ar,ai,J0,o,go,aj⟩:=F.caught V;refine wpAny_handleBy_cons (codeAny_handlers_test ?_) (by intro q;cases q);refine zdt (J0.hand a) aa ab ?_ ae;refine W.exm_one J0.kIn (zhN go aj) ai.1 _ _ _ ah (λ_ _ q=>q) ?_;refine codeAny_handlers_suite ?_;refine flown U λak Y=>?_;rw[←G] at Y;obtain⟨as,au,av,al,am,ao,ap,_⟩:=F.caught Y;cases al;refine wpAny_mono (ad a pins ak _ _ _ (ap.hand a) (ao.2 a am)) (λf aw q=>?_) λ_ _ z=>False.elim z;cases f with
  |next=>
   obtain⟨σ',H',j,q⟩:=q;exact⟨_,H',j.back B.ok,q⟩
  |brk=>
   obtain⟨σ',H',j,q⟩:=q;exact⟨_,H',j.back B.ok,q⟩
  |cont=>
   obtain⟨σ',H',j,q⟩:=q;exact⟨_,H',j.back B.ok,q⟩
  |ret u=>
   obtain⟨v,σ',H',j,r,q⟩:=q;exact⟨v,_,H',j.back B.ok,r,q⟩
end
section
variable {prog:Program}{w:World}{A:Around}{E:Value->Shared->Prop}{s:Shared}
end
section
variable {ea:Addr}{ecl:Value}{X:Cx}{tg:Expr}
variable {elt iter:Expr}{ifs:List Expr}{sc:Scope}{pos:Pos}{N':List Str}{js:List (Option Nat)}{wi:TI}{g:TG}{tt:TT}{te:TE}
end
section
variable {X:Cx}{k:Nat}{f:Addr}{fd:FuncData}{ps:List Str}{sp:Addr->Sp}{ds:List Value}{dvs:List V}{ea:Addr}{x:Str}{p pos:Pos}{e:Expr}{es:List Expr}{t:TA}
end
section
variable {P:Program}{w:World}{K:W.Frag}{mg:Str->Option Value}{base:Heap}
end
open PySem.W (findIn findObj mroIn InstAt looks_findIn looks_find looks_mroIn class_get)
section
variable {prog:Program}{w:World}{A:Around}{E:Value->Shared->Prop}{s:Shared}{K:W.Frag}{a C:Addr}{ox:Obj}{odo:Option Obj}
end
open PySem.W (findIn findObj mroIn InstAt clsIn specialIn takesIn KitX)
section
variable {X:Cx}{e:Expr}{tx:TEX}{pos:Pos}
end
section
variable {X:Cx}{elt tg iter:Expr}{ifs:List Expr}{sc:Scope}{pos:Pos}{ti:TE}
end
section
variable {M:Model}{A:Around}{E:Value->Shared->Prop}{s:Shared}{env:Env}{L e:Addr}{cls a0:Value}
theorem zeV{T:Addr}{Q:Unit->Shared->Prop}(j:env.frame=some L)(x:Exc e T cls a0 (rawInt L) s.heap)(h:Q () s):wpAny M A (noteFrame (.ref e) env) Q E s:=by
 obtain⟨O,vs,U,ts,B,rfl,D,V,F,W,G,I,J0,Y,Z⟩:=x;unfold noteFrame;simp only[j];refine wpAny_bind (wpAny_field B D F ?_);rw[if_pos (by simp)];refine wpAny_bind (wpAny_field G I J0 ?_);rw[if_pos (by simp[rawInt])];exact wpAny_pure h
theorem zks{T:Addr}{O:Value}{Q:Unit->Shared->Prop}(x:Exc e T cls a0 O s.heap)(h:∀h',Lft [] [T] s.heap h'->Exc e T cls a0 (rawInt L) h'->Q () { s with heap:=h' }):wpAny M A (setFlight (.ref e) (some L)) Q E s:=by
 obtain⟨U,vs,ab,ts,D,V,F,W,G,I,B,j,Y,Z,aa⟩:=x;have J0:3<ts.size:=(Array.getElem?_eq_some_iff.mp Y).1;unfold setFlight;refine wpAny_bind (wpAny_field D F G ?_);rw[if_pos (by simp)];refine wpAny_setField B j J0 (h _ (Lft.fld B j _) ?_);refine⟨U,vs,_,_,?_,V,F,W,G,I,zdf B j _,Obj.data_mapFields j _,by simp[J0],Z,aa⟩;rw[Heap.get?_update_other _ _ I];exact D
end
section
variable {P:Program}{w:World}{K:W.Frag}{mg:Str->Option Value}{base:Heap}{N:List Str}{qual:Str}{scope:Scope}{f:Addr}{cd:Value}{A:Around}{outer:List Env}{s:Shared}{H:Hp}{E:XK}
inductive InFl(P:Program)(w:World)(K:W.Frag)(mg:Str->Option Value)(base:Heap)(N:List Str)(qual:Str)(scope:Scope)(f:Addr)(cd:Value)(A:Around)(outer:List Env)(s:Shared)(H:Hp)(E:XK):Value->Shared->Prop where
 |new {pins:List (Addr×Obj)} {σ:St} {H1:Hp} {s1:Shared} {h':Heap} {a:Addr} {cls:Value} {vs:List Value} (I:Inv (cxOf (CXE P w) P w K mg base N qual scope f cd A outer s H E) pins σ H1 s1) (m:Heap.MadeExcOf s1.heap h' a cls vs) (e:E cls none H1) :
   InFl P w K mg base N qual scope f cd A outer s H E (.ref a) { s1 with heap:=h' }
 |fly {s':Shared} {a T:Addr} {cls:Value} {t:Addr} {H1:Hp} (os:s'.os=s.os) (bare:AllBare s'.gens) (un:Un (frs outer) [] H H1 s.heap s'.heap) (hok:HOk P w H1 s'.heap) (ea:s.heap.get? a=none) (eT:s.heap.get? T=none) (na:H1 a=none) (nT:H1 T=none)
   (x:Exc a T cls (.ref t) (rawInt s.heap.objs.size) s'.heap) (e:E cls none H1):InFl P w K mg base N qual scope f cd A outer s H E (.ref a) s'
theorem InFl.out{ev:Value}{s':Shared}(h:InFl P w K mg base N qual scope f cd A outer s H E ev s'):(cxOf (CXE P w) P w K mg base N qual scope f cd A outer s H E).xe ev s':=by
 cases h with
 |new F m e=>exact zkp _ _ _ _ _ _ _ _ F m e
 |@fly s' a T cls t H1 os G I J0 ea j O B x e=>
  show wpAny _ (A.deeper _) (leaving _ (.ref a)) _ _ _;unfold leaving;refine wpAny_bind (zeV (L:=s.heap.objs.size) J x ?_);refine zeU x λU D V=>?_;have W:=I.lft D (λb z=>by rw[List.mem_singleton.mp z];exact j) λb z=>absurd z (by simp);have k3:HOk P w H1 U:=J0.lft D (λb z=>absurd z (by simp)) λb z=>by rw[List.mem_singleton.mp z];exact B
  exact⟨a,T,cls,t,H1,J,os,G,W,k3,ea,j,O,B,V,e⟩
theorem InFl.own:PassesOwn (model P w) (A.deeper (envOfC qual scope s.heap.objs.size f cd)) (envOfC qual scope s.heap.objs.size f cd) (InFl P w K mg base N qual scope f cd A outer s H E):=by
 intro ev s' h;have W:∀ {s':Shared} {a T:Addr} {cls:Value} {t:Addr} {H1:Hp},s'.os=s.os->AllBare s'.gens->Un (frs outer) [] H H1 s.heap s'.heap->HOk P w H1 s'.heap->s.heap.get? a=none->s.heap.get? T=none->H1 a=none->H1 T=none->Exc a T cls (.ref t) (rawInt s.heap.objs.size) s'.heap->E cls none H1 ->
   cameBackBy (model P w) (A.deeper (envOfC qual scope s.heap.objs.size f cd)) (envOfC qual scope s.heap.objs.size f cd) (InFl P w K mg base N qual scope f cd A outer s H E) (.ref a) s':=by
  intro s' a T cls t H1 os J0 O U ea B D F x e;obtain⟨ao,vs,ap,ts,V,aq,ab,ar,ac,as,_⟩:=id x;unfold cameBackBy;refine wpAny_bind (wpAny_field V ab ac ?_);rw[if_neg (by simp)];refine zks (L:=s.heap.objs.size) x λY Z ad=>?_;have ae:=O.lft Z (λb z=>by rw[List.mem_singleton.mp z];exact B) λb z=>absurd z (by simp);have k3:HOk P w H1 Y:=U.lft Z (λb z=>absurd z (by simp)) λb z=>by rw[List.mem_singleton.mp z];exact F
  exact .fly (s':={ s' with heap:=Y }) os J0 ae k3 ea B D F ad e
 cases h with
 |@new pins σ H1 G h' a cls vs j M af=>
  obtain⟨t,V,au,av⟩:=M.there;have ag:(A.deeper (envOfC qual scope s.heap.objs.size f cd)).frames=some (envOfC qual scope s.heap.objs.size f cd::outer):=j.ok.frames;have ah:=j.stkFree;have I:Un (frs outer) [] H H1 s.heap G.heap:=j.base;have D:=j.hok.no M.new;have F:∀T,h'.get? T=none->G.heap.get? T=none:=λT q=>by
   cases z:G.heap.get? T with
   |none=>rfl
   |some o=>rw[M.keeps T o z] at q;cases q
  have ai:h'.FunFrames base (envOfC qual scope s.heap.objs.size f cd::outer):=j.stack.of_keeps λb o q _=>⟨o,M.keeps b o q,J⟩;unfold notedBy;refine zf0 (s:={ G with heap:=h' }) ag ai rfl V rfl rfl rfl rfl rfl λh2 T aa aj ak=>?_;have B:G.heap.get? T=none:=F T (Heap.get?_none_of_le aj);have al:Un (frs outer) [] H H1 s.heap h':=I.trans (Un.kept M.keeps);have am:=al.lft aa (λb z=>by rw[List.mem_singleton.mp z];exact I.no M.new) λb z=>zfr j z;have k1:HOk P w H1 h':=j.hok.kept M.keeps;have k2:HOk P w H1 h2:=k1.lft aa (λb z=>ah b z) λb z=>by rw[List.mem_singleton.mp z];exact D
  exact W (s':={ G with heap:=h2 }) j.os j.bare am k2 (I.no M.new) (I.no B) D (j.hok.no B) ak af
 |@fly s' a T cls t H1 os J0 O U ea B D F x e=>
  unfold notedBy;exact zeV (L:=s.heap.objs.size) rfl x (W os J0 O U ea B D F x e)
theorem zlH:Rz ((cxOf (CXE P w) P w K mg base N qual scope f cd A outer s H E).wish (InFl P w K mg base N qual scope f cd A outer s H E)) E:=λpins σ H1 D h' a cls vs j M B=>.new j.unwish M B
theorem zkt{tg iter:Expr}{body:List Stmt}{wi:TI}{g:TG}{tb:TS}{pos:Pos}(hi:PI ((cxOf (CXE P w) P w K mg base N qual scope f cd A outer s H E).wish (InFl P w K mg base N qual scope f cd A outer s H E)) tg iter wi)(B:PG ((cxOf (CXE P w) P w K mg base N qual scope f cd A outer s H E).wish (InFl P w K mg base N qual scope f cd A outer s H E)) tg g)(F:PSs ((cxOf (CXE P w) P w K mg base N qual scope f cd A outer s H E).wish (InFl P w K mg base N qual scope f cd A outer s H E)) body tb)(G:∀x,foldedSetIterable iter (cxOf (CXE P w) P w K mg base N qual scope f cd A outer s H E).env x=pure x:=by intro _;rfl):PS (cxOf (CXE P w) P w K mg base N qual scope f cd A outer s H E) (.For tg iter body [] pos) (tFor wi g tb):=by
 intro pins I σ H1 D J0 h;refine wpAny_mono (za0 (X:=(cxOf (CXE P w) P w K mg base N qual scope f cd A outer s H E).wish (InFl P w K mg base N qual scope f cd A outer s H E)) InFl.own J hi B F G pins I σ H1 D (J0.wish _) h) (λO U q=>?_) λev U q=>q.out;cases O with
 |next=>obtain⟨σ',H',j,q⟩:=q;exact⟨σ',H',j.unwish,q⟩
 |brk=>obtain⟨σ',H',j,q⟩:=q;exact⟨σ',H',j.unwish,q⟩
 |cont=>obtain⟨σ',H',j,q⟩:=q;exact⟨σ',H',j.unwish,q⟩
 |ret u=>obtain⟨v,σ',H',j,r,q⟩:=q;exact⟨v,σ',H',j.unwish,r,q⟩
end
theorem zlI{X:Cx}{st:Stmt}{t:TS}(h:PS X.nox st t):PS X st t:=by
 intro pins s σ H D B q;refine wpAny_mono (h pins s σ H D (B.wish _) q) (λF G q=>?_) λ_ _ z=>False.elim z;cases F with
 |next=>obtain⟨σ',H',j,q⟩:=q;exact⟨σ',H',j.unwish,q⟩
 |brk=>obtain⟨σ',H',j,q⟩:=q;exact⟨σ',H',j.unwish,q⟩
 |cont=>obtain⟨σ',H',j,q⟩:=q;exact⟨σ',H',j.unwish,q⟩
 |ret u=>obtain⟨v,σ',H',j,r,q⟩:=q;exact⟨v,σ',H',j.unwish,r,q⟩
theorem zi6{x:Str}{g:TG}{tb:TS}{D:Ends}{σ:St}{H:Hp}(Pv:Nat->St->Hp->Prop)(G:Pv 0 σ H)(I:∀i c σ H,i<x.cps.size->x.cps[x.cps.size-1-i]?=some c->Pv i σ H->g (.str ⟨#[c]⟩) σ H λj H2=>tb { D with nx:=Pv (i+1),ct:=Pv (i+1),bk:=D.nx } j H2)(J0:∀σ H,Pv x.cps.size σ H->D.nx σ H) :
  ∃W:Nat->Nat->St->Hp->Prop,(∃m,W 0 m σ H)/\∀i m σ H,W i m σ H ->
   ((ItsR x).stop i H/\D.nx σ H)∨((ItsR x).go i H/\∃N:St->Hp->Prop,(∀σ' H',N σ' H'->∃F,F<m/\W (i+1) F σ' H')/\∀v H',(ItsR x).yld i H v H'->g v σ H' λj H2=>tb { D with nx:=N,ct:=N,bk:=D.nx } j H2):=by
 refine⟨λi m σ H=>m=x.cps.size-i/\i<=x.cps.size/\Pv i σ H,⟨x.cps.size,by simp,Nat.zero_le _,G⟩,?_⟩;rintro i m σ H ⟨rfl,hi,p⟩;by_cases B:i<x.cps.size
 .refine .inr ⟨B,Pv (i+1),λσ' H' O=>⟨x.cps.size-(i+1),by omega,J,B,O⟩,λv H' y=>?_⟩;obtain⟨rfl,c,U,rfl⟩:=y;exact I i c σ H' B U p
 .have e:i=x.cps.size:=by omega
  subst e;exact .inl ⟨Nat.le_refl _,J0 σ H p⟩
section
variable {X:Cx}{e st:Expr}{te:TE}{p2 pos:Pos}
noncomputable def tRevL(K:W.Frag)(te:TE)(ts:St->Hp->(Option Int->Hp->Prop)->Prop):TE:=λσ H Q=>te σ H λx H1=>ts σ H1 λk H2=>k=some (-1)/\∃a xs,x=.ref a/\SqL K H2 a xs/\∀p,H2 p=none->Q (.ref p) (upd H2 p (.lst xs.reverse))
theorem zku{ts}(I:PE X e te)(J0:PO X (some st) ts):PE X (.Subscript e (.Slice none none (some st) p2) pos) (tRevL X.K te ts):=by
 intro pins s σ H Q O h;refine Subscript_ (thn (I pins s σ H _ O h) λv U B=>?_);obtain⟨x,H1,V,Y,Z⟩:=B;refine wpAny_Slice ?_;rw[evalPart_none];refine wpAny_pure (wpAny_pure ?_);refine thn (J0 pins U σ H1 _ V Z) λF j B=>?_;obtain⟨k,aa,ab,ac,ad,a,xs,ex,ae,q⟩:=B;subst ad ex;cases Y;have D:Inv X pins σ aa { j with heap:=j.heap.push { cls:=.type "slice",data:=.fields #[.none,.none,F] } }:=ab.kept (t':=j.toks) λb ob q=>Heap.get?_push_of_some _ q;obtain⟨its,r,G,af⟩:=D.list ae;have ag:=r.length;show wpAny (model X.prog X.w) X.A (subscriptTail e (.Slice none none (some st) p2) (.ref a) (.ref j.heap.objs.size)) (EP X pins σ Q) X.xe { j with heap:=j.heap.push { cls:=.type "slice",data:=.fields #[.none,.none,F] } };refine tail_any (ops:=[.ref a,.ref j.heap.objs.size]) G.isList.typeIs slot_list_getitem.lookup ?_ (by with_unfolding_all rfl);refine wpAny_getItem_list_slice G.isList (Heap.IsSliceOf.new ..) .none .none ac (by decide) ?_ (by rw[List.size_toArray]<;>omega);rw[W.krv_pick];refine⟨.ref _,_,D.laid (t':=j.toks) (o:=.lst xs.reverse) (λb ob q=>Heap.get?_push_of_some _ q) (Nat.le_refl _) ?_,J,q _ (D.hok.fresh (Nat.le_refl _))⟩;exact⟨by rw[List.length_reverse];exact af,its.reverse,0,r.reverse,Heap.get?_push_size _ J⟩
end
end L2
namespace HT
open PySem PySem.Spec PyProof.Rows
section
variable {prog:Program}{w:World}{A:Around}{E:Value->Shared->Prop}{s:Shared}
theorem zgN(n:Nat):Builtin.Slice.sliceAdjust none none (-1) (n:Int)=((n:Int)-1,-1):=by
 unfold Builtin.Slice.sliceAdjust;simp
theorem zgO(n:Nat):Builtin.Slice.slicePlaces ((n:Int)-1) (-1) (-1)=n:=by
 unfold Builtin.Slice.slicePlaces;have h1:¬((-1:Int)>0):=by decide
 simp only[h1,if_false];split
 .rw[show (- -1:Int)=1 by decide,Int.ediv_one];omega
 .omega
theorem zc9{F:Addr}{j:Value}{n:Nat}{Q:Int×Int×Nat->Shared->Prop}(G:s.heap.IsSliceOf F .none .none j)(I:IsPart j (some (-1)))(h:Q ((n:Int)-1,-1,n) s):wpAny (model prog w) A (Builtin.Slice.sliceApplied (.ref F) (pure (n:Int))) Q E s:=by
 obtain⟨os,B,J0,D⟩:=id G;unfold Builtin.Slice.sliceApplied Builtin.Slice.sliceFields;refine wpAny_bind (wpAny_bind (wpAny_field B D (x:=.none) J (wpAny_bind (wpAny_field B D (x:=.none) J (wpAny_bind (wpAny_field B D (x:=j) J (wpAny_pure ?_)))))));refine wpAny_bind (zcJ I ?_);show wpAny _ _ (if ((-1:Int)==0)=true then _ else _) _ _ s;rw[if_neg (by decide)];refine wpAny_bind (slicePart_none (wpAny_bind (slicePart_none (wpAny_bind (wpAny_pure ?_)))));show wpAny _ _ (match Builtin.Slice.sliceAdjust none none (-1) (n:Int) with|(lo,hi)=>pure (lo,(-1:Int),Builtin.Slice.slicePlaces lo hi (-1))) _ _ s
 rw[zgN n];show wpAny _ _ (pure (((n:Int)-1),(-1:Int),Builtin.Slice.slicePlaces ((n:Int)-1) (-1) (-1))) _ _ s;rw[zgO];exact wpAny_pure h
theorem zf1{j B:Type}{f g:j->Option B}:∀ {l:List j},(∀x∈l,f x=g x)->l.filterMap f=l.filterMap g
 |[],_=>rfl
 |a::l,h=>by rw[List.filterMap_cons,List.filterMap_cons,h a List.mem_cons_self,zf1 λx D=>h x (List.mem_cons_of_mem _ D)]
theorem zi7(xs:Array Value):((List.range xs.size).filterMap λ(m:Nat)=>xs[(((xs.size:Int)-1)+(m:Int)*(-1)).toNat]?).toArray=xs.toList.reverse.toArray:=by
 congr 1;have e:(List.range xs.size).filterMap (λ(m:Nat)=>xs[(((xs.size:Int)-1)+(m:Int)*(-1)).toNat]?)=((List.range xs.size).map λk=>xs.size-1-k).filterMap (xs[·]?):=by
  rw[List.filterMap_map];refine zf1 λm j=>?_;have:=List.mem_range.mp j;have e:(((xs.size:Int)-1)+(m:Int)*(-1)).toNat=xs.size-1-m:=by omega
  rw[e];rfl
 rw[e,W.krv_range,List.filterMap_reverse,W.krv_all]
theorem getItem_tuple_rev{t F:Addr}{j:Array Value}{G:Value}{Q:Value->Shared->Prop}(B:IsTup s.heap t j)(I:s.heap.IsSliceOf F .none .none G)(J0:IsPart G (some (-1)))(h:Q (.ref s.heap.objs.size) { s with heap:=s.heap.push { cls:=.type "tuple",data:=.seq j.toList.reverse.toArray } })(hsz:j.size<=sizeLine):wpAny (model prog w) A (getItem (.ref t) (.ref F)) Q E s:=by
 have D:sizeOk (.seq j.toList.reverse.toArray):=by
  show j.toList.reverse.toArray.size<=sizeLine;rw[List.size_toArray,List.length_reverse,Array.length_toList];omega
 obtain⟨os,O,U,Y⟩:=id I;have V:s.TypeIs (.ref F) "slice":=⟨os,O,U⟩;unfold getItem
 try with_reducible refine wpAny_holding ?_
 first|refine wpAny_bind (wpAny_pure ?_)|skip
 refine wpAny_bind (wpAny_sequenceKey B.typeIs (by decide) ?_);refine wpAny_bind (wpAny_callSpecial?_slot (name:=Str.ofString "__getitem__") B.typeIs PyProof.Rows.slot_tuple_getitem
  (wpAny_call_entry PyProof.Rows.slot_tuple_getitem B.typeIs entry_tuple_getitem ?_ (args_tuple_getitem _ _)))
 show wpAny _ _ (Builtin.Tuple.tupleItemsOf (.ref t) >>= _) _ _ s;refine wpAny_bind (tupleItemsOf_ B ?_);refine wpAny_bind (wpAny_typeOf V ?_);rw[if_pos (by decide)];refine wpAny_bind (zc9 I J0 ?_);have W:¬((((j.size:Int)-1)==0&&(-1:Int)==1&&j.size==j.size)=true):=by
  intro q;rw[Bool.and_eq_true,Bool.and_eq_true] at q;exact absurd q.1.2 (by decide)
 show wpAny _ _ (if (((j.size:Int)-1)==0&&(-1:Int)==1&&j.size==j.size)=true then _ else _) _ _ s;rw[if_neg W,zi7]
 first
  |exact wpAny_bind (m:=Builtin.Tuple.tupleExact _) (wpAny_newObj_type (wpAny_pure ⟨_,J,wpAny_pure h⟩) D)
  |exact wpAny_bind (m:=Builtin.Tuple.tupleExact _) (wpAny_newObj_type (wpAny_bind (wpAny_pure (wpAny_pure ⟨_,J,wpAny_pure h⟩))) D)
  |exact wpAny_bind (wpAny_bind (m:=Builtin.Tuple.tupleExact _) (wpAny_newObj_type (wpAny_pure (wpAny_pure ⟨_,J,wpAny_pure h⟩)) D))
  |exact wpAny_bind (wpAny_bind (m:=Builtin.Tuple.tupleExact _) (wpAny_newObj_type (wpAny_pure ⟨_,J,wpAny_pure h⟩) D))
end
end HT
namespace L2
open PySem PySem.Spec PyProof.Rows
section
variable {X:Cx}{e st:Expr}{te:TE}{p2 pos:Pos}
noncomputable def tRevT(K:W.Frag)(te:TE)(ts:St->Hp->(Option Int->Hp->Prop)->Prop):TE:=λσ H Q=>te σ H λx H1=>ts σ H1 λk H2=>k=some (-1)/\∃a xs,x=.ref a/\SqT K H2 a xs/\∀p,H2 p=none->Q (.ref p) (upd H2 p (.tup xs.reverse))
theorem zkv{ts}(J0:PE X e te)(O:PO X (some st) ts):PE X (.Subscript e (.Slice none none (some st) p2) pos) (tRevT X.K te ts):=by
 intro pins s σ H Q U h;refine Subscript_ (thn (J0 pins s σ H _ U h) λv V B=>?_);obtain⟨x,H1,W,Y,Z⟩:=B;refine wpAny_Slice ?_;rw[evalPart_none];refine wpAny_pure (wpAny_pure ?_);refine thn (O pins V σ H1 _ W Z) λF j B=>?_;obtain⟨k,aa,ab,ac,ad,a,xs,ex,ae,q⟩:=B;subst ad ex;cases Y;have D:Inv X pins σ aa { j with heap:=j.heap.push { cls:=.type "slice",data:=.fields #[.none,.none,F] } }:=ab.kept (t':=j.toks) λb ob q=>Heap.get?_push_of_some _ q;obtain⟨its,r,G,I⟩:=D.tuple ae;have af:its.toArray.size=xs.length:=by rw[List.size_toArray];exact r.length.symm
 show wpAny (model X.prog X.w) X.A (subscriptTail e (.Slice none none (some st) p2) (.ref a) (.ref j.heap.objs.size)) (EP X pins σ Q) X.xe { j with heap:=j.heap.push { cls:=.type "slice",data:=.fields #[.none,.none,F] } };refine tail_any (ops:=[.ref a,.ref j.heap.objs.size]) G.typeIs PyProof.Rows.slot_tuple_getitem.lookup ?_ (by with_unfolding_all rfl);refine HT.getItem_tuple_rev G (Heap.IsSliceOf.new ..) ac ?_ (by rw[af];exact I);refine⟨.ref _,_,D.laid (t':=j.toks) (o:=.tup xs.reverse) (λb ob q=>Heap.get?_push_of_some _ q) (Nat.le_refl _) ?_,J,q _ (D.hok.fresh (Nat.le_refl _))⟩;exact⟨by rw[List.length_reverse];exact I,its.reverse,r.reverse,by rw[List.toList_toArray];exact IsTup.new _ _⟩
theorem zi8{sc:Scope}{cl:List (Str×Addr)}{N':List Str}{s:Shared}{H:Hp}{fp:List Addr}{ts}(j:PE (X.blk sc cl N' s H fp) e te)(B:PO (X.blk sc cl N' s H fp) (some st) ts):PE (X.blk sc cl N' s H fp) (.Subscript e (.Slice none none (some st) p2) pos) (tRevT X.K te ts):=zkv j B
theorem zkw{x:Str}{g:TG}{tb:TS}{D:Ends}{σ:St}{H:Hp}(Pv:Nat->St->Hp->Prop)(G:Pv 0 σ H)(I:∀i c σ H,i<x.cps.size->x.cps[i]?=some c->Pv i σ H->g (.str ⟨#[c]⟩) σ H λj H2=>tb { D with nx:=Pv (i+1),ct:=Pv (i+1),bk:=D.nx } j H2)(J0:∀σ H,Pv x.cps.size σ H->D.nx σ H) :
  ∃W:Nat->Nat->St->Hp->Prop,(∃m,W 0 m σ H)/\∀i m σ H,W i m σ H ->
   ((Its x).stop i H/\D.nx σ H)∨((Its x).go i H/\∃N:St->Hp->Prop,(∀σ' H',N σ' H'->∃F,F<m/\W (i+1) F σ' H')/\∀v H',(Its x).yld i H v H'->g v σ H' λj H2=>tb { D with nx:=N,ct:=N,bk:=D.nx } j H2):=by
 refine⟨λi m σ H=>m=x.cps.size-i/\i<=x.cps.size/\Pv i σ H,⟨x.cps.size,by simp,Nat.zero_le _,G⟩,?_⟩;rintro i m σ H ⟨rfl,hi,p⟩;by_cases B:i<x.cps.size
 .refine .inr ⟨B,Pv (i+1),λσ' H' O=>⟨x.cps.size-(i+1),by omega,J,B,O⟩,λv H' y=>?_⟩;obtain⟨rfl,c,U,rfl⟩:=y;exact I i c σ H' B U p
 .have e:i=x.cps.size:=by omega
  subst e;exact .inl ⟨Nat.le_refl _,J0 σ H p⟩
end
noncomputable def occ1(a b:Str):Int:=match Builtin.Str.occurrences a b 0 a.length 1 with|i::_=>(i:Int)|[]=>-1
theorem zkx{X:Cx}:MtR X "str.find" (λx vs H Q=>∃a b,x=.str a/\vs=[.str b]/\Q (.int (occ1 a b)) H):=by
 intro pins s σ H x vs v us Q j B D h;obtain⟨a,b,rfl,rfl,q⟩:=h;obtain⟨t,rfl⟩:=B;obtain⟨u,rfl,t',rfl⟩:=D.one;exact call_gives PySem.F.slot_str_find (typeIs_str s a t) PySem.F.entry_str_find (PySem.F.args_str_find_2 _ _) (gives_str_find a b t t') ⟨.int _,H,j.tok _,⟨_,J⟩,q⟩
variable {X:Cx}
noncomputable def zlJ:V->List V->Hp->VK->Prop:=λx vs H Q=>∃(l:Addr) (xs:List V) (y:V) (j:Nat),x=.ref l/\vs=[y]/\H l=some (.lst xs)/\flatV y=true/\xs.all flatV=true/\j<xs.length/\j<1000/\(∀v,xs[j]?=some v->eqV v y=true)/\(∀m v,m<j->xs[m]?=some v->eqV v y=false)/\Q (.int (j:Int)) H
theorem zf2:MtM X "list.index" zlJ:=by
 intro pins s σ H x vs v us Q D I J0 h;obtain⟨l,xs,y,j,rfl,rfl,O,U,fs,V,ab,W,Y,q⟩:=h;cases I;obtain⟨u,rfl,Z⟩:=J0.one;obtain⟨z,its,n,r,ac,e⟩:=D.lstM O;have ad:=r.length;have G:∀m (B:m<its.length),eqU y its[m]=eqV (xs[m]'(by omega)) y:=λm B=>by
  obtain⟨ae,h1,h2⟩:=r.get (List.getElem?_eq_getElem (show m<xs.length by omega));rw[List.getElem?_eq_getElem B] at h1;injection h1 with h1;rw[h1];exact zjG h2 (List.all_eq_true.mp fs _ (List.getElem_mem _))
 refine call_meets F.slot_list_index ⟨_,e,J⟩ F.entry_list_index (F.args_list_index_2 _ _) (SeqAt.list_indexAt l its.toArray n _ _ u (eqU y) j (by rw[List.size_toArray];omega) (by omega) ?_ ?_) ⟨e,λw hw=>zfN Z U r fs w (by simpa using hw),?_⟩
 .rw[List.getElem_toArray,G j (by omega)];exact W _ (List.getElem?_eq_getElem V)
 .intro m B aa;rw[List.getElem_toArray,G m (by simpa using B)];exact Y m _ aa (List.getElem?_eq_getElem (by omega))
 .exact⟨.int (j:Int),H,D.tok _,⟨_,J⟩,q⟩
end L2
namespace T1
open PySem L2
variable {P:Program}{w:World}{K:W.Frag}{mg:Str->Option Value}{base:Heap}
noncomputable def zaL(c:Nat):Bool:=decide (33<=c)&&decide (c<=126)&&!decide (c=37)
noncomputable def escD:D->Bool
 |.str x=>decide (x.length<=1)&&(decide (x.length=0) || zaL (x.cps.getD 0 0))
 |_=>false
noncomputable def markS(x:Str):Bool:=decide (1<=x.length)&&decide (x.length<=4)&&x.cps.toList.all λc=>decide (c=10) || zaL c
instance:Inhabited D:=⟨.non⟩
end T1
namespace L2
open PySem PySem.Spec PyProof.Rows
end L2
namespace T1
open PySem L2
variable {P:Program}{w:World}{K:W.Frag}{mg:Str->Option Value}{base:Heap}
noncomputable abbrev Dr:=Str×Int×Str
noncomputable abbrev Tg:=Str×List Dr
noncomputable abbrev Bk:=List Tg
noncomputable def drD(d:Dr):D:=.tup [.str d.1,.int d.2.1,.str d.2.2]
noncomputable def tgD(t:Tg):D:=.tup [.str t.1,.tup (t.2.map drD)]
noncomputable def bkD(b:Bk):D:=.tup (b.map tgD)
noncomputable def DrOk(n:Int)(d:Dr):Prop:=markS d.1=true/\(0<=d.2.1/\d.2.1<n)/\markS d.2.2=true
noncomputable def TgOk(n:Int)(t:Tg):Prop:=escD (.str t.1)=true/\t.2.length<=6/\∀d∈t.2,DrOk n d
section
variable {z:Addr}{H:Hp}
theorem zbi{v:V}{d:Dr}(r:Rep z H v (drD d)):∃a,v=.ref a/\a≠z/\H a=some (.tup [.str d.1,.int d.2.1,.str d.2.2]):=by
 cases r with
 |tup h j r=>
  cases r with
  |cons B r=>
   cases r with
   |cons D r=>
    cases r with
    |cons F r=>
     cases r;cases B;cases D;cases F;exact⟨_,J,j,h⟩
theorem zhO{v:V}{ds:List Dr}(r:Rep z H v (.tup (ds.map drD))):∃a xs,v=.ref a/\a≠z/\H a=some (.tup xs)/\xs.length=ds.length/\Reps z H xs (ds.map drD):=by
 cases r with
 |tup h j r=>exact⟨_,_,J,j,h,by have:=r.length;simpa using this,r⟩
theorem zaH{v:V}{t:Tg}(r:Rep z H v (tgD t)):∃a b xs,v=.ref a/\a≠z/\b≠z/\H a=some (.tup [.str t.1,.ref b])/\H b=some (.tup xs)/\xs.length=t.2.length/\Reps z H xs (t.2.map drD):=by
 cases r with
 |tup h j r=>
  cases r with
  |cons B r=>
   cases r with
   |cons D r=>
    cases r;cases B;obtain⟨b,xs,rfl,F,h2,G,I⟩:=zhO D;exact⟨_,b,xs,J,j,F,h,h2,G,I⟩
theorem zbd{v:V}{b:Bk}(r:Rep z H v (bkD b)):∃a xs,v=.ref a/\a≠z/\H a=some (.tup xs)/\xs.length=b.length/\Reps z H xs (b.map tgD):=by
 cases r with
 |tup h j r=>exact⟨_,_,J,j,h,by have:=r.length;simpa using this,r⟩
theorem za6{xs:List V}{ds:List Dr}{i:Nat}(r:Reps z H xs (ds.map drD))(hi:i<ds.length):Rep z H (xs.getD i .non) (drD (ds.getD i (⟨#[]⟩,0,⟨#[]⟩))):=by
 have:=r.get (i:=i) (by simpa using hi);simpa [hi] using this
theorem zaA{xs:List V}{b:Bk}{i:Nat}(r:Reps z H xs (b.map tgD))(hi:i<b.length):Rep z H (xs.getD i .non) (tgD (b.getD i (⟨#[]⟩,[]))):=by
 have:=r.get (i:=i) (by simpa using hi);simpa [hi] using this
end
noncomputable def zaJ(ds:List Dr):List Str:=ds.map (·.1)
noncomputable abbrev dr0:Dr:=(⟨#[]⟩,0,⟨#[]⟩)
noncomputable abbrev tg0:Tg:=(⟨#[]⟩,[])
noncomputable def zhP(ds:List Dr):List Str:=ds.flatMap λd=>[d.1,d.2.2]
noncomputable def zdD(b:Bk):List Str:=b.flatMap λt=>zhP t.2
end T1
namespace L2
open PySem PySem.Spec PyProof.Rows
end L2
namespace T1
open PySem L2
variable {P:Program}{w:World}{K:W.Frag}{mg:Str->Option Value}{base:Heap}
theorem zap{j:Type}{xs:List j}{i:Nat}(d:j)(h:i<xs.length):xs.getD i d∈xs:=by
 have:xs.getD i d=xs[i]:=by simp[h]
 rw[this];exact List.getElem_mem h
noncomputable def escIn(es:List Str)(m:Str):Bool:=m.cps.toList.any λc=>es.any λe=>e==(⟨#[c]⟩:Str)
noncomputable def escB(b:Bk):Bool:=(zdD b).any (escIn (b.map (·.1)))
end T1
namespace L2
open PySem PySem.Spec PyProof.Rows
theorem zd3{X:Cx}{sc:Scope}{cl:List (Str×Addr)}{N':List Str}{s:Shared}{H:Hp}{fp:List Addr}{o e:Expr}{es:List Expr}{to:TE}{t:TA}{name:Str}{apos cpos:Pos}{T id:String}{r:V->List V->Hp->VK->Prop}(j:PlainAttrs T)(slot:Slot T name id)(B:typeOf (.builtin id)=pure (.type "method_descriptor"))(D:MtR (X.blk sc cl N' s H fp) id r)(F:PE (X.blk sc cl N' s H fp) o to)(G:PA (X.blk sc cl N' s H fp) (e::es) t)(I:attributeBase o name (X.blk sc cl N' s H fp).env (eval o (X.blk sc cl N' s H fp).env)=eval o (X.blk sc cl N' s H fp).env:=by rfl)(J0:((backTo cpos (starEach (e::es) (X.blk sc cl N' s H fp).env)).all (λx=>!x.1)&&(backToKw cpos (keywordEach [] (X.blk sc cl N' s H fp).env)).all (λx=>x.1.isSome)
   && decide ((e::es).length+([]:List Keyword).length+(if ([]:List Keyword).isEmpty then 0 else 1)<30))=true:=by rfl)(O:(apos.endLine==cpos.line)=true:=by rfl)(U:starEach (e::es) (X.blk sc cl N' s H fp).env=(false,eval e (X.blk sc cl N' s H fp).env)::starEach es (X.blk sc cl N' s H fp).env:=by rfl)(W:(backTo cpos (starEach es (X.blk sc cl N' s H fp).env)).any (·.1)=false:=by rfl) :
  PE (X.blk sc cl N' s H fp) (.Call (.Attribute o name apos) (e::es) [] cpos) (tBM X.K T r to t):=zcL j slot B D F G I J0 O U W
end L2
namespace T1
open PySem L2
variable {P:Program}{w:World}{K:W.Frag}{mg:Str->Option Value}{base:Heap}
noncomputable def zeo(ds:List Dr)(t:Int):List Str:=ds.filterMap λd=>if d.2.1=t then some d.2.2 else none
noncomputable def zdE(b:Bk)(t:Int):List Str:=b.flatMap λg=>zeo g.2 t
noncomputable def zcp(b:Bk)(t:Nat):Bool:=(b.getD t tg0).2.any λd=>(zdE b t).any λc=>stAt d.1 c 0
noncomputable def bookB(b:Bk):Bool:=(b.all λt=>decide (zaJ t.2).Nodup)&&!escB b&&!((List.range b.length).any λt=>zcp b t)
theorem zeW{f:Nat->Option V}:∀n,(flatN (λi=>(f i).toList) n).isEmpty=(List.range n).all λi=>(f i).isNone
 |0=>rfl
 |n+1=>by
  rw[List.range_succ,List.all_append,←zeW n];simp only[flatN,List.all_cons,List.all_nil,Bool.and_true];cases f n<;>simp
theorem zd4(x:Str)(h:x.length<=1):(x=Str.ofString ""/\escD (.str x)=true)∨∃c,x=⟨#[c]⟩/\escD (.str x)=zaL c:=by
 obtain⟨j⟩:=x;have h:j.size<=1:=h;by_cases B:j.size=0
 .have:j=#[]:=Array.eq_empty_of_size_eq_zero B;subst this;exact .inl ⟨by decide +kernel,by decide +kernel⟩
 .obtain⟨c,D⟩:=Array.size_eq_one_iff.mp (show j.size=1 by omega);subst D;exact .inr ⟨c,J,J⟩
noncomputable def Bag(z:Addr)(H:Hp):Prop:=∃c s:Int,H z=some (.lst [.int c,.int s])
noncomputable def Aft(z:Addr)(H H':Hp):Prop:=SameX z H H'/\Bag z H'
theorem Aft.trans{z:Addr}{H H1 H2:Hp}(a:Aft z H H1)(b:Aft z H1 H2):Aft z H H2:=⟨a.1.trans b.1,b.2⟩
theorem Aft.same{z:Addr}{H H1 H2:Hp}(a:Aft z H H1)(b:Same H1 H2):Aft z H H2:=⟨a.1.trans b.x,let ⟨c,s,h⟩:=a.2;⟨c,s,b _ _ h⟩⟩
theorem Aft.refl{z:Addr}{H:Hp}(h:Bag z H):Aft z H H:=⟨.refl,h⟩
inductive zdF:List V->Hp->VK->XK->Prop where
 |mk {vs:List V} {H:Hp} {Q:VK} {E:XK} (z:_) (n:Int) (c1:vs=[.ref z,.int n]) (c2:Bag z H) (c3:0<n) (c4:n<1000000) (c5:∀(r:Nat) H',(r:Int)<n->Aft z H H'->Q (.int r) H'):zdF vs H Q E
structure Txt2(mg:Str->Option Value):Prop where
 list:mg "list"=none
 set:mg "set"=none
 min:mg "min"=none
inductive spBag(K:W.Frag):List V->Hp->VK->XK->Prop where
 |mk {vs:List V} {H:Hp} {Q:VK} {E:XK} (a:_) (ns:List Int) (i:Nat) (c1:vs=[.ref a,.int i]) (c2:SqL K H a (ns.map V.int)) (c3:i<=100) (c4:∀p H',H p=none->Same H H'->Bag p H'->Q (.ref p) H'):spBag K vs H Q E
noncomputable def zep(x:Str):Prop:=∀c∈x.cps.toList,(decide (c=10) || zaL c)=true
inductive spMk:List V->Hp->VK->XK->Prop where
 |mk {vs:List V} {H:Hp} {Q:VK} {E:XK} (z x:_) (c1:vs=[.ref z,.str x]) (c2:Bag z H) (c3:1<=x.length) (c4:x.length<=100) (c5:zep x) (c6:∀m H',markS m=true->Aft z H H'->Q (.str m) H'):spMk vs H Q E
theorem zaP(x y:Str):(x++y).length=x.length+y.length:=by
 show (x.cps++y.cps).size=_;rw[Array.size_append];rfl
theorem zbq(x y:Str):(x++y).cps.toList=x.cps.toList++y.cps.toList:=by
 show (x.cps++y.cps).toList=_;rw[Array.toList_append]
noncomputable def inEsc(e:Str)(d:Dr):Bool:=!(Builtin.Str.occurrences (d.1++Str.ofString " "++d.2.2) e 0 (d.1++Str.ofString " "++d.2.2).length 1).isEmpty
noncomputable def fit1(t o:Tg):Bool:=!((!decide (V.str t.1=V.str (Str.ofString "")))&&o.2.any (inEsc t.1))
noncomputable def fit3(b:Bk)(d:Dr):Bool:=!((b.getD d.2.1.toNat tg0).2.any λo=>stAt o.1 d.2.2 0)
noncomputable def fitT(b:Bk)(t:Tg):Bool:=b.all (fit1 t)&&decide (zaJ t.2).Nodup&&t.2.all (fit3 b)
noncomputable def fitsB(b:Bk):Bool:=b.all (fitT b)
theorem zhQ{B:Type}(xs:List B)(d:B)(p:B->Bool)(h:∀j,j<xs.length->p (xs.getD j d)=true):xs.all p=true:=by
 rw[List.all_eq_true];intro x D;obtain⟨i,hi,rfl⟩:=List.mem_iff_getElem.mp D;have:=h i hi;simpa [hi] using this
theorem zhR{j:Type}(xs:List j)(d:j)(p:j->Bool){i:Nat}(hi:i<xs.length)(h:p (xs.getD i d)=false):xs.all p=false:=by
 rw[List.all_eq_false];refine⟨xs[i],List.getElem_mem hi,?_⟩;have:xs.getD i d=xs[i]:=by simp[hi]
 rw[←this,h];simp
theorem zeX{j:Type}(ds:List j)(d:j)(p:j->Bool)(g:Nat->V){n:Nat}(B:n=ds.length):(flatN (λi=>(if p (ds.getD i d) then some (g i) else none).toList) n).isEmpty=!(ds.any p):=by
 subst B;rw[zeW,Bool.eq_iff_iff,List.all_eq_true,Bool.not_eq_true',List.any_eq_false];constructor
 .intro h x D F;obtain⟨i,hi,rfl⟩:=List.mem_iff_getElem.mp D;have h2:=h i (List.mem_range.mpr hi);have e:ds.getD i d=ds[i]:=by simp[hi]
  rw[e,if_pos F] at h2;cases h2
 .intro h i hi;have hi:=List.mem_range.mp hi;have h2:=h ds[i] (List.getElem_mem hi);have e:ds.getD i d=ds[i]:=by simp[hi]
  rw[e,if_neg h2];rfl
theorem zeY{c:Nat}(j:zaL c=true)(d:Dr):inEsc ⟨#[c]⟩ d=true↔c∈d.1.cps.toList∨c∈d.2.2.cps.toList:=by
 unfold inEsc;rw[StrLaws.found_iff];have e:(d.1++Str.ofString " "++d.2.2).cps.toList=d.1.cps.toList++[32]++d.2.2.cps.toList:=by
  rw[zbq,zbq];have:(Str.ofString " ").cps.toList=[32]:=by decide +kernel
  rw[this]
 have B:c≠32:=by
  intro h;subst h;exact absurd j (by decide)
 constructor
 .rintro⟨i,h⟩;have h2:=(StrLaws.subAt_one _ _ _).mp h;rw[e] at h2;have:=List.mem_of_getElem? h2;simp at this;rcases this with h|h|h
  .exact .inl (by simpa using h)
  .exact absurd h B
  .exact .inr (by simpa using h)
 .intro h;have:c∈(d.1++Str.ofString " "++d.2.2).cps.toList:=by
   rw[e];simp;rcases h with h|h
   .exact .inl (by simpa using h)
   .exact .inr (.inr (by simpa using h))
  obtain⟨i,hi⟩:=List.mem_iff_getElem?.mp this;exact⟨i,(StrLaws.subAt_one _ _ _).mpr hi⟩
theorem zi9(b:Bk):escB b=true↔∃t∈b,∃o∈b,∃d∈o.2,∃c,t.1=⟨#[c]⟩/\(c∈d.1.cps.toList∨c∈d.2.2.cps.toList):=by
 unfold escB escIn zdD zhP;simp only[List.any_eq_true,List.mem_flatMap,List.mem_cons,List.not_mem_nil,or_false,List.mem_map,beq_iff_eq];constructor
 .rintro⟨m,⟨o,j,d,B,I⟩,c,G,e,⟨t,D,rfl⟩,F⟩;refine⟨t,D,o,j,d,B,c,F,?_⟩;rcases I with rfl|rfl
  .exact .inl G
  .exact .inr G
 .rintro⟨t,D,o,j,d,B,c,F,h|h⟩
  .exact⟨d.1,⟨o,j,d,B,.inl J⟩,c,h,t.1,⟨t,D,J⟩,F⟩
  .exact⟨d.2.2,⟨o,j,d,B,.inr J⟩,c,h,t.1,⟨t,D,J⟩,F⟩
theorem zb1:(Str.ofString "")=⟨#[]⟩:=by decide +kernel
theorem zky{n:Int}{b:Bk}(B:∀t∈b,TgOk n t):(∃t∈b,b.all (fit1 t)=false)↔escB b=true:=by
 rw[zi9];constructor
 .rintro⟨t,j,h⟩;rw[List.all_eq_false] at h;obtain⟨o,D,h⟩:=h;unfold fit1 at h;simp only[Bool.not_eq_true',Bool.not_eq_false,Bool.and_eq_true,decide_eq_false_iff_not,List.any_eq_true] at h;obtain⟨h1,d,F,h2⟩:=h;have I:t.1≠Str.ofString "":=λz=>h1 (by rw[z]);have J0:t.1.length<=1:=by
   have:=(B t j).1;unfold escD at this;simp at this;exact this.1
  rcases zd4 t.1 J0 with⟨ex,_⟩|⟨c,ex,O⟩
  .exact absurd ex I
  .have G:zaL c=true:=by rw[←O];exact(B t j).1
   rw[ex] at h2;exact⟨t,j,o,D,d,F,c,ex,(zeY G d).mp h2⟩
 .rintro⟨t,j,o,D,d,F,c,ex,h⟩;refine⟨t,j,?_⟩;rw[List.all_eq_false];refine⟨o,D,?_⟩;have G:zaL c=true:=by
   have:=(B t j).1;rw[ex] at this;exact this
  unfold fit1;simp only[Bool.not_eq_true',Bool.not_eq_false,Bool.and_eq_true,decide_eq_false_iff_not,List.any_eq_true];refine⟨λz=>?_,d,F,?_⟩
  .have z':t.1=Str.ofString "":=by injection z
   rw[ex,zb1] at z';simp at z'
  .rw[ex];exact(zeY G d).mpr h
theorem zkz{b:Bk}(G:∀t∈b,TgOk b.length t):(∃t∈b,t.2.all (fit3 b)=false)↔((List.range b.length).any λt=>zcp b t)=true:=by
 unfold zcp zdE zeo;simp only[List.any_eq_true,List.mem_range,List.mem_flatMap,List.mem_filterMap];constructor
 .rintro⟨t,j,h⟩;rw[List.all_eq_false] at h;obtain⟨d,B,h⟩:=h;unfold fit3 at h;simp only[Bool.not_eq_true',Bool.not_eq_false,List.any_eq_true] at h;obtain⟨o,D,h⟩:=h;obtain⟨_,⟨h1,h2⟩,_⟩:=(G t j).2.2 d B;refine⟨d.2.1.toNat,by omega,o,D,d.2.2,⟨t,j,d,B,?_⟩,h⟩;rw[if_pos (by omega)]
 .rintro⟨n,I,o,D,c,⟨t,j,d,B,F⟩,h⟩;split at F
  .rename_i e;obtain rfl:d.2.2=c:=by simpa using F
   refine⟨t,j,?_⟩;rw[List.all_eq_false];refine⟨d,B,?_⟩;unfold fit3;simp only[Bool.not_eq_true',Bool.not_eq_false,List.any_eq_true];refine⟨o,?_,h⟩;rw[e];simpa using D
  .cases F
theorem zhS{b:Bk}(B:∀t∈b,TgOk b.length t):fitsB b=bookB b:=by
 have h1:=zky B;have D:=zkz B;unfold bookB;cases e1:escB b with
 |true=>
  obtain⟨t,j,h⟩:=h1.mpr e1;simp only[Bool.not_true,Bool.and_false,Bool.false_and];unfold fitsB;rw[List.all_eq_false];refine⟨t,j,?_⟩;unfold fitT;rw[h];simp
 |false=>
  cases e3:((List.range b.length).any λt=>zcp b t) with
  |true=>
   obtain⟨t,j,h⟩:=D.mpr e3;simp only[Bool.not_true,Bool.and_false];unfold fitsB;rw[List.all_eq_false];refine⟨t,j,?_⟩;unfold fitT;rw[h];simp
  |false=>
   simp only[Bool.not_false,Bool.and_true];unfold fitsB;rw[Bool.eq_iff_iff,List.all_eq_true,List.all_eq_true];have F:∀t∈b,b.all (fit1 t)=true:=λt j=>by
    cases q:b.all (fit1 t) with
    |true=>rfl
    |false=>rw[h1.mp ⟨t,j,q⟩] at e1;cases e1
   have G:∀t∈b,t.2.all (fit3 b)=true:=λt j=>by
    cases q:t.2.all (fit3 b) with
    |true=>rfl
    |false=>rw[D.mp ⟨t,j,q⟩] at e3;cases e3
   constructor
   .intro h t j;have:=h t j;unfold fitT at this;rw[F t j,G t j,Bool.true_and,Bool.and_true] at this;exact this
   .intro h t j;unfold fitT;rw[F t j,G t j,Bool.true_and,Bool.and_true];exact h t j
end T1
namespace L2
open PySem PySem.Spec PyProof.Rows
noncomputable def SqS(H:Hp)(a:Addr)(xs:List V):Prop:=H a=some (.tup xs)∨H a=some (.lst xs)
theorem SqS.same{H H':Hp}{a:Addr}{xs:List V}(h:SqS H a xs)(s:Same H H'):SqS H' a xs:=h.elim (λh=>.inl (s _ _ h)) λh=>.inr (s _ _ h)
theorem zhT{K:W.Frag}{te j:TE}{a:Addr}{xs:List V}{g:TG}{tb:TS}{D:Ends}{σ:St}{H:Hp}(h:SqS H a xs)(J0:∀R:VK,R (.ref a) H->te σ H R)(O:∀R:VK,R (.ref a) H->j σ H R)(Pv:Nat->St->Hp->Prop)(B:Pv 0 σ H)(F:∀i σ H',Pv i σ H'->Same H H')(G:∀i x σ H,xs[i]?=some x->Pv i σ H->g x σ H λU H2=>tb { D with nx:=Pv (i+1),ct:=Pv (i+1),bk:=D.nx } U H2)(I:∀σ H,Pv xs.length σ H->D.nx σ H) :
  tFor (λσ H R=>iTup K te σ H R∨iList K j σ H R) g tb D σ H:=by
 rcases h with h|h
 .exact .inl (J0 _ ⟨a,J,⟨xs,SqT.of h⟩,zbV (K:=K) (a:=a) (xs:=xs) Pv B (λi σ H' _ q=>SqT.of (F i σ H' q _ _ h)) G I⟩)
 .exact .inr (O _ ⟨a,J,⟨xs,SqL.of h⟩,zcv (K:=K) (a:=a) (xs:=xs) Pv B (λi σ H' _ q=>SqL.of (F i σ H' q _ _ h)) G I⟩)
theorem zmk{K:W.Frag}{H:Hp}{a:Addr}{xs:List V}{j:Nat}{v:V}{Q:VK}(h:SqS H a xs)(B:xs[j]?=some v)(q:Q v H):rIx K (.ref a) (.int j) H Q:=by
 rcases h with h|h
 .exact .inr (.inl ⟨a,xs,j,v,J,J,SqT.of h,zal B,q⟩)
 .exact .inl ⟨a,xs,j,v,J,J,SqL.of h,zal B,q⟩
end L2
namespace T1
open PySem L2
variable {P:Program}{w:World}{K:W.Frag}{mg:Str->Option Value}{base:Heap}
inductive zf3:List V->Hp->VK->XK->Prop where
 |mk {vs:List V} {H:Hp} {Q:VK} {E:XK} (z a xs b:_) (c1:vs=[.ref a]) (c2:SqS H a xs) (c3:Reps z H xs (b.map tgD)) (c4:b.length<=7) (c5:(∀t∈b,TgOk b.length t)) (c6:∀H',Same H H'->Q (.bl (fitsB b)) H'):zf3 vs H Q E
theorem zaM{x:Str}(h:markS x=true):x.length<=4/\1<=x.length:=by
 unfold markS at h;simp only[Bool.and_eq_true,decide_eq_true_eq] at h;omega
theorem ndDE:(["door","escape"]:List Str).Nodup:=by decide +kernel
theorem ndD:(["door"]:List Str).Nodup:=by decide +kernel
theorem ndOD:(["one","door"]:List Str).Nodup:=by decide +kernel
end T1
namespace L2
open PySem PySem.Spec PyProof.Rows
section
variable {X:Cx}
noncomputable def rCatX:R2:=λx y H Q=>∃a b xs ys,x=.ref a/\y=.ref b/\H a=some (.tup xs)/\H b=some (.tup ys)/\xs.length+ys.length<=sizeLine/\∀p H',Same H H'->H' p=some (.tup (xs++ys))->Q (.ref p) H'
theorem zkA:OpR X (binaryOp .Add) rCatX:=by
 intro pins s σ H x y v u Q j F G h;obtain⟨a,b,xs,ys,rfl,rfl,B,D,aa,q⟩:=h;by_cases I:xs=[]
 .subst I;cases F;cases G;obtain⟨its,ab,ac,_⟩:=j.tuple (SqT.of B);obtain⟨ad,ai,p2,_⟩:=j.tuple (SqT.of D);cases ab;obtain⟨⟨cls,dd,data,ae⟩,J0,O,n,U⟩:=id ac;obtain⟨⟨aj,af,data2,ag⟩,V,W,ah,Y⟩:=id p2;simp only at O U W Y;subst O U W Y;exact concat_meets ⟨_,J0,J⟩ ⟨_,V,J⟩ noFill_tuple_add seq_tuple_add PySem.F.slot_tuple_add PySem.F.entry_tuple_add (PySem.F.args_tuple_add_2 _ _)
   (tuple_addW0 a b _ ad.toArray n ah dd af ae ag (by simp)) ⟨J0,V,⟨.ref b,H,j,J,q b H (Same.refl H) D⟩⟩
 .refine zhg pins s σ H _ _ v u Q j F G ⟨a,b,xs,ys,J,J,SqT.of B,SqT.of D,I,aa,λZ=>?_,λZ p np=>q p _ (Same.new np) zab⟩;refine q a H (Same.refl H) ?_;rw[Z,List.append_nil];exact B
end
end L2
namespace HT
open PySem PySem.Spec PyProof.Rows L2
section
variable {prog:Program}{w:World}{A:Around}{E:Value->Shared->Prop}{s:Shared}
end
end HT
namespace L2
open PySem PySem.Spec PyProof.Rows
section
variable {X:Cx}
end
section
variable {X:Cx}
theorem zgP{lo:Int}{n:Nat}{g:TG}{B:TR}{Qe:St->Hp->Prop}{σ:St}{H:Hp}(Pv:Nat->St->Hp->Prop)(D:Pv 0 σ H)(F:∀i σ H,i<n->Pv i σ H->g (.int (lo+i)) σ H λG H2=>B G H2 (Pv (i+1)))(I:∀σ H,Pv n σ H->Qe σ H):tLoop (Itr lo n) g tYes B Qe σ H:=by
 refine⟨λi m σ H=>m=n-i/\i<=n/\Pv i σ H,⟨n,J,Nat.zero_le _,D⟩,?_⟩;rintro i m σ H ⟨rfl,hi,p⟩;by_cases j:i<n
 .refine .inr ⟨j,Pv (i+1),λσ' H' J0=>⟨n-(i+1),by omega,J,j,J0⟩,λx H' y=>?_⟩;obtain⟨e,y⟩:=y;subst e y;exact F i σ _ j p
 .have e:i=n:=by omega
  subst e;exact .inl ⟨Nat.le_refl _,I σ H p⟩
end
end L2
namespace T1
open PySem L2
variable {P:Program}{w:World}{K:W.Frag}{mg:Str->Option Value}{base:Heap}
noncomputable def mask(a:Addr)(H:Hp):Hp:=λx=>if x=a then none else H x
theorem zcq{a x:Addr}{H:Hp}(h:x≠a):mask a H x=H x:=if_neg h
theorem zf4{a:Addr}{H:Hp}{o:HO}:mask a (upd H a o)=mask a H:=by
 funext x;unfold mask upd;by_cases h:x=a
 .rw[if_pos h,if_pos h]
 .rw[if_neg h,if_neg h,if_neg h]
theorem zb2{a x:Addr}{H:Hp}{o:HO}(h:mask a H x=some o):x≠a/\H x=some o:=by
 unfold mask at h;by_cases e:x=a
 .rw[if_pos e] at h;cases h
 .rw[if_neg e] at h;exact⟨e,h⟩
theorem zlK{a z:Addr}{H H':Hp}(s:SameX z H H'):SameX z (mask a H) (mask a H'):=λb o j h=>by
 obtain⟨h1,h2⟩:=zb2 h;rw[zcq h1];exact s b o j h2
theorem zhU{a z:Addr}{H:Hp}:SameX z (mask a H) H:=λb o _ h=>(zb2 h).2
theorem zf5{a l z:Addr}{H H':Hp}(j:H l=none)(s:SameX z H H'):SameX z (mask a H) (mask l H'):=λb o B h=>by
 obtain⟨h1,h2⟩:=zb2 h;rw[zcq (zae h2 j)];exact s b o B h2
theorem Reps.set{z:Addr}{H:Hp}{v:V}{d:D}(r:Rep z H v d):∀ {vs:List V}{ds:List D}(i:Nat),Reps z H vs ds->Reps z H (vs.set i v) (ds.set i d)
 |_,_,_,.nil=>.nil
 |_,_,0,.cons _ t=>.cons r t
 |_,_,i+1,.cons h t=>.cons h (Reps.set r i t)
theorem Reps.append{z:Addr}{H:Hp}:∀ {vs j:List V}{ds es:List D},Reps z H vs ds->Reps z H j es->Reps z H (vs++j) (ds++es)
 |_,_,_,_,.nil,h=>h
 |_,_,_,_,.cons a t,h=>.cons a (Reps.append t h)
noncomputable def LBk(z a:Addr)(b:Bk)(H:Hp):Prop:=a≠z/\∃vs,H a=some (.lst vs)/\Reps z (mask a H) vs (b.map tgD)
theorem LBk.aft{z a:Addr}{b:Bk}{H H':Hp}(L:LBk z a b H)(s:SameX z H H'):LBk z a b H':=by
 obtain⟨j,vs,h,r⟩:=L;exact⟨j,vs,s _ _ j h,r.mono (zlK s)⟩
theorem Bag.ne{z p:Addr}{H:Hp}(h:Bag z H)(np:H p=none):p≠z:=by
 obtain⟨c,s,e⟩:=h;exact(zae e np).symm
theorem Bag.neT{z p:Addr}{H:Hp}{xs:List V}(h:Bag z H)(np:H p=some (.tup xs)):p≠z:=by
 obtain⟨c,s,e⟩:=h;exact zaI np e (by intro q;cases q)
theorem Aft.new{z p:Addr}{H H':Hp}{o:HO}(a:Aft z H H')(np:H' p=none):Aft z H (upd H' p o):=a.same (Same.new np)
theorem Aft.upd{z p:Addr}{H H':Hp}{o:HO}(a:Aft z H H')(np:H p=none)(j:p≠z):Aft z H (L2.upd H' p o):=by
 refine⟨λb u B e=>?_,?_⟩
 .rw[zan (zae e np)];exact a.1 b u B e
 .obtain⟨c,s,e⟩:=a.2;exact⟨c,s,by rw[zan j.symm];exact e⟩
noncomputable def BkOk(b:Bk):Prop:=1<=b.length/\b.length<=6/\(∀t∈b,TgOk b.length t)/\bookB b=true
inductive zf6:List V->Hp->VK->XK->Prop where
 |mk {vs:List V} {H:Hp} {Q:VK} {E:XK} (z:_) (c1:vs=[.ref z]) (c2:Bag z H) (c3:∀v b H',Aft z H H'->Rep z H' v (bkD b)->BkOk b->Q v H'):zf6 vs H Q E
theorem pickH{H:Hp}{p:Addr}{l:List V}(h:H p=some (.lst l)){r:Nat}(j:r<l.length):∃x,l[r]?=some x/\x∈l:=⟨l[r],by simp[j],List.getElem_mem j⟩
theorem Aft.none{z p:Addr}{H H':Hp}(a:Aft z H H')(np:H' p=none):H p=none:=by
 cases e:H p with
 |none=>rfl
 |some o=>
  rw[a.1 p o (a.2.ne np) e] at np;cases np
theorem zkB{n j:Nat}(h:j<n):ixN n (j:Int)=some j:=by
 unfold ixN;rw[if_pos (by omega),if_pos (by omega)];simp
theorem zgQ{b:Bk}(h:∀t∈b,t.2=[]):fitsB b=true:=by
 unfold fitsB;rw[List.all_eq_true];intro t j;unfold fitT;rw[h t j];have:b.all (fit1 t)=true:=by
  rw[List.all_eq_true];intro o B;unfold fit1;rw[h o B];simp
 rw[this];rfl
theorem ndTBE:(["tongue","bag","escapes"]:List Str).Nodup:=by decide +kernel
theorem Bag.same{z:Addr}{H H':Hp}(h:Bag z H)(s:Same H H'):Bag z H':=let ⟨c,e,q⟩:=h;⟨c,e,s _ _ q⟩
theorem Reps.take{z:Addr}{H:Hp}:∀ {vs:List V}{ds:List D}(k:Nat),Reps z H vs ds->Reps z H (vs.take k) (ds.take k)
 |_,_,0,_=>by simpa using Reps.nil
 |_,_,k+1,.nil=>by simpa using Reps.nil
 |_,_,k+1,.cons a t=>.cons a (Reps.take k t)
section
variable {z:Addr}
theorem zlL{xs:List V}{r:Nat}(h:r<xs.length):xs[r]?=some (xs.getD r .non):=by simp[h]
theorem zaR:(1000:Nat)<=sizeLine:=by rw[sizeLine_eq];decide
end
section
variable {X:Cx}{es:List Expr}{te:TE}{t:TA}
theorem pa_K{c:Const}{k:Nat}{pos:Pos}(h:PE X (.Constant c k pos) te)(j:PA X es t):PA X (.Constant c k pos::es) (tCons te t):=zaa h j rfl
theorem pa_T{l:List Expr}{k:Nat}{pos:Pos}(h:PE X (.Tuple l k pos) te)(j:PA X es t):PA X (.Tuple l k pos::es) (tCons te t):=zaa h j rfl
theorem pa_L{l:List Expr}{pos:Pos}(h:PE X (.List l pos) te)(j:PA X es t):PA X (.List l pos::es) (tCons te t):=zaa h j rfl
theorem pa_B{o:Operator}{a b:Expr}{pos:Pos}(h:PE X (.BinOp a o b pos) te)(j:PA X es t):PA X (.BinOp a o b pos::es) (tCons te t):=zaa h j rfl
end
mutual
inductive NoL:D->Prop where
 |non:NoL .non
 |bl (b:Bool):NoL (.bl b)
 |int (i:Int):NoL (.int i)
 |str (x:Str):NoL (.str x)
 |tup {ds:List D} (t:NoLs ds):NoL (.tup ds)
inductive NoLs:List D->Prop where
 |nil:NoLs []
 |cons {d:D} {ds:List D} (h:NoL d) (t:NoLs ds):NoLs (d::ds)
end
mutual
theorem Rep.updL{z p:Addr}{H:Hp}{l l':List V}(j:H p=some (.lst l)):∀ {v:V}{d:D},Rep z H v d->NoL d->Rep z (upd H p (.lst l')) v d
 |_,_,.non,_=>.non
 |_,_,.bl b,_=>.bl b
 |_,_,.int i,_=>.int i
 |_,_,.str x h,_=>.str x h
 |_,_,.tup h B r,.tup t=>.tup (by rw[zan (zaI h j (by intro q;cases q))];exact h) B (Reps.updL j r t)
theorem Reps.updL{z p:Addr}{H:Hp}{l l':List V}(j:H p=some (.lst l)):∀ {vs:List V}{ds:List D},Reps z H vs ds->NoLs ds->Reps z (upd H p (.lst l')) vs ds
 |_,_,.nil,_=>.nil
 |_,_,.cons h t,.cons h' t'=>.cons (Rep.updL j h h') (Reps.updL j t t')
end
theorem NoLs.append:∀ {ds es:List D},NoLs ds->NoLs es->NoLs (ds++es)
 |_,_,.nil,h=>h
 |_,_,.cons a t,h=>.cons a (NoLs.append t h)
theorem zfs:∀ds:List Dr,NoLs (ds.map drD)
 |[]=>.nil
 |d::r=>.cons (.tup (.cons (.str _) (.cons (.int _) (.cons (.str _) .nil)))) (zfs r)
theorem zdG:∀b:Bk,NoLs (b.map tgD)
 |[]=>.nil
 |t::r=>.cons (.tup (.cons (.str _) (.cons (.tup (zfs t.2)) .nil))) (zdG r)
noncomputable def top(i:Nat):Stmt:=PySem.Challenge.pw_tonguenest_k28_whole_books_told_otherwis.main.body.getD i (.Pass ⟨0,0,0,0⟩)
noncomputable abbrev zft:Stmt:=top 1
noncomputable abbrev sPoss:Stmt:=top 2
noncomputable abbrev zdg:Stmt:=top 3
noncomputable abbrev zhV:Stmt:=top 4
noncomputable abbrev zfu:Stmt:=top 5
noncomputable abbrev sStep:Stmt:=top 6
noncomputable abbrev sOn:Stmt:=top 7
noncomputable abbrev zhW:Stmt:=top 8
noncomputable abbrev zf7:Stmt:=top 15
noncomputable abbrev zdh:Stmt:=top 16
noncomputable abbrev zbF:Stmt:=top 17
noncomputable abbrev zdi:Stmt:=top 18
noncomputable abbrev zbM:Stmt:=top 19
noncomputable abbrev zcT:Stmt:=top 20
noncomputable abbrev zbl:Stmt:=top 21
noncomputable abbrev zbN:Stmt:=top 22
noncomputable abbrev zbx:Stmt:=top 24
noncomputable abbrev zcr:Stmt:=top 26
noncomputable abbrev zcB:Stmt:=top 27
noncomputable abbrev zf8:Stmt:=top 28
noncomputable abbrev zby:Stmt:=top 29
noncomputable abbrev lBag:Stmt:=top 31
noncomputable abbrev lTake:Stmt:=top 32
noncomputable abbrev lMk:Stmt:=top 33
noncomputable abbrev lFits:Stmt:=top 34
noncomputable abbrev lBook:Stmt:=top 35
noncomputable abbrev zhX:Stmt:=top 36
noncomputable abbrev lText:Stmt:=top 37
noncomputable abbrev zcC:Stmt:=top 38
noncomputable abbrev zbu:Stmt:=top 39
noncomputable abbrev zhY:Stmt:=top 40
noncomputable abbrev zcc:Stmt:=top 41
noncomputable abbrev zfv:Stmt:=top 42
noncomputable abbrev lLaw:Stmt:=top 43
noncomputable abbrev lamLn:Nat:=38
noncomputable abbrev lamCl:Nat:=31
structure TxtB(mg:Str->Option Value):Prop where
 len:mg "len"=none
 ord:mg "ord"=none
 all_:mg "all"=none
 any_:mg "any"=none
 isinst:mg "isinstance"=none
 str:mg "str"=none
 int:mg "int"=none
 bool:mg "bool"=none
 tuple:mg "tuple"=none
 range:mg "range"=none
 sorted:mg "sorted"=none
 max:mg "max"=none
theorem scTake:zau ["bag","many","found"] ["bag","many"] (zah lTake):=⟨J,J,J,by decide +kernel,J,by decide +kernel,by decide +kernel⟩
theorem zkC{f:Addr}{fd:FuncData}(F:Fun K "_law_take" "_law_take" lTake f fd):FnOk P w K mg base CX0 1 f fd ["bag","many"] zdF:=by
 refine F.ok scTake (λvs H Q E h=>?_) (λcdv A outer s H vs Q E O h=>?_)
 .obtain⟨z,n,rfl,_⟩:=h;rfl
 .obtain⟨z,n,rfl,⟨c,e,B⟩,D,U,k⟩:=h;have J0:=scTake.nd;refine⟨_,zac (zaY (zax ziD (zay ix_list (pv 0) zag (λ_ _=>rfl)) zag (zaF _))
    (zac (zaq (i:=2) J0 J (Or.inl J) (zaC zcw (zay ix_list (pv 0) zag (λ_ _=>rfl)) (pv 1)))
    (zac (zba (zaC zfk (zay ix_list (pv 0) zag (λ_ _=>rfl)) (pv 1)) (zfH (pv 0) zag zef))
    (zaf (zas (pv 2))))) zaz)
   (zac (zba (zaC zcw (zaC zdu (zay ix_list (pv 0) zag (λ_ _=>rfl)) zag) zag) (zfH (pv 0) zag zef))
   (zaf (zas (zaC zcw (zaC zfk (zaC zcw (zaC zdu (zaC zfk (zay ix_list (pv 0) zag (λ_ _=>rfl)) zag) (zaC zbj (zaC zcw (zay ix_list (pv 0) zag (λ_ _=>rfl)) zag) zag)) zag) zag) (pv 1))))),?_⟩
  dsimp only[cxOf,Cx.nox,Cx.wish];refine⟨_,J,z,_,0,_,J,J,SqL.of B,zal (j:=0) J,_,_,J,J,_,J,?_⟩;have ex:∀x:Int,∃r:Nat,x % n=(r:Int)/\(r:Int)<n:=λx=>⟨(x % n).toNat,by have:=Int.emod_nonneg x (show n≠0 by omega);omega,by have:=Int.emod_lt_of_pos x D;have:=Int.emod_nonneg x (show n≠0 by omega);omega⟩;refine ite2 (λh1=>?_) (λh1=>?_)
  .refine⟨_,J,z,_,0,_,J,J,SqL.of B,zal (j:=0) J,_,J,_,_,J,J,D,?_⟩;refine⟨_,J,z,_,0,_,J,J,SqL.of B,zal (j:=0) J,_,J,_,_,J,J,⟨D,by omega⟩,?_⟩;refine⟨_,J,z,_,0,0,J,J,B,J,?_⟩;obtain⟨r,G,I⟩:=ex c;refine⟨_,J,?_⟩;have q:=k r (upd H z (.lst [.int (c / n),.int e])) I ⟨SameX.refl.upd,⟨_,_,zab⟩⟩;rw[←G] at q;exact q
  .refine⟨_,J,z,_,1,_,J,J,SqL.of B,zal (j:=1) J,_,_,J,J,.inr (by decide),_,_,J,J,(by show (0:Int)<_;decide),?_⟩;refine⟨_,J,z,_,1,1,J,J,B,J,?_⟩;refine⟨_,J,z,_,1,_,J,J,SqL.of zab,zal (j:=1) J,_,_,J,J,⟨by decide,by decide⟩,_,J,z,_,1,_,J,J,SqL.of zab,zal (j:=1) J,_,_,J,J,(by show (0:Int)<_;decide),_,_,J,J,_,_,J,J,?_⟩;refine⟨.inr ?_,_,_,J,J,(by show (0:Int)<_;decide),_,_,J,J,⟨by decide,by decide⟩,_,J,_,_,J,J,D,?_⟩
   .have V:=Int.emod_nonneg (e*48271 % 2147483647) (show (32749:Int)≠0 by decide);have W:=Int.emod_lt_of_pos (e*48271 % 2147483647) (show (0:Int)<32749 by decide);omega
   .obtain⟨r,G,I⟩:=ex (e*48271 % 2147483647 / 13*(e*48271 % 2147483647 % 32749+17) % 2147483629 / 32);have q:=k r (upd H z (.lst [.int c,.int (e*48271 % 2147483647)])) I ⟨SameX.refl.upd,⟨_,_,zab⟩⟩;rw[←G] at q;exact q
theorem scBag:zau ["script","k","cell","seed"] ["script","k"] (zah lBag):=⟨J,J,J,by decide +kernel,J,by decide +kernel,by decide +kernel⟩
theorem zlM{f:Addr}{fd:FuncData}(F:Fun K "_law_bag" "_law_bag" lBag f fd)(T:TxtB mg):FnOk P w K mg base CX0 1 f fd ["script","k"] (spBag K):=by
 refine F.ok scBag (λvs H Q E h=>?_) (λcdv A outer s H vs Q E J0 h=>?_)
 .obtain⟨z,n,i,rfl,_⟩:=h;rfl
 .obtain⟨a,B,i,rfl,D,hi,k⟩:=h;have j:=scBag.nd;refine⟨_,zac (zaq (i:=2) j J (Or.inl J) zag)
   (zac (zaY (zax zeG (pv 1) (zar zat (by rfl) T.len b_len (zaa (pv 0) zad)) (zaF _))
    (zaf (zaq (i:=2) j J (Or.inl J) (zaC zcw (zay ix_list (pv 0) (pv 1) (λ_ _=>rfl)) (zaC zjD zag zag)))) zaz)
   (zac (zaq (i:=3) j J (Or.inl J) (zaC zbj zag (zaC zcw (zaC zbj (zaC zbj (zaC zbj (zaC zdu (zaC zcw (pv 2) zag) zag) (zaC zdu (zaC zdu zag (pv 1)) (pv 1))) (zaC zdu zag (pv 1))) zag) zag)))
   (zac (zaY (zax zeG (pv 2) (zaC zjD zag zag) (zaF _)) (zaf (zas (zaO (zaa zag (zaa (pv 3) zad))))) zaz)
   (zaf (zas (zaO (zaa (pv 2) (zaa (pv 3) zad)))))))),?_⟩
  dsimp only[cxOf,Cx.nox,Cx.wish];have G:(2:Nat)<=sizeLine:=by rw[sizeLine_eq];decide
  refine⟨_,J,_,J,a,_,J,.inl D,_,_,J,J,_,J,?_⟩;refine ite2 (λh1=>?g1) (λh1=>?g2)
  case' g1=>
   have I:i<B.length:=by simp at h1;omega
   refine⟨_,J,_,J,a,_,_,.int B[i],J,J,D,zal (by simp[I]),_,_,J,J,⟨by decide,by decide,by decide⟩,_,_,J,J,(by show (0:Int)<_;decide),?_⟩
  all_goals
   refine⟨_,J,_,_,J,J,(by show (0:Int)<_;decide),_,_,J,J,.inr (by decide),_,J,_,_,J,J,.inl (by decide),_,J,_,_,J,J,.inr (by omega),_,_,J,J,_,J,_,_,J,J,.inl (by decide),_,_,J,J,_,_,J,J,_,_,J,J,(by show (0:Int)<_;decide),_,_,J,J,?_⟩;refine⟨_,J,_,_,J,J,⟨by decide,by decide,by decide⟩,_,_,J,J,_,J,?_⟩;refine ite2 (λh1=>?_) (λh1=>?_)
   .exact⟨_,J,G,λp np=>k p _ np (Same.new np) ⟨_,_,zab⟩⟩
   .exact⟨_,J,_,J,G,λp np=>k p _ np (Same.new np) ⟨_,_,zab⟩⟩
theorem scMk:zau ["bag","signs","found","turn"] ["bag","signs"] (zah lMk):=⟨J,J,J,by decide +kernel,J,by decide +kernel,by decide +kernel⟩
theorem zml{f G:Addr}{fd ac:FuncData}(F:Fun K "_law_mark" "_law_mark" lMk f fd)(T:TxtB mg)(k1:W.keepIn K (.ref G)=true)(I:Binds K ac ["bag","many"] [])(J0:mg "_law_take"=some (.ref G))(O:FnOk P w K mg base CX0 1 G ac ["bag","many"] zdF):FnOk P w K mg base CX0 2 f fd ["bag","signs"] spMk:=by
 refine F.ok scMk (λvs H Q E h=>?_) (λcdv A outer s H vs Q E U h=>?_)
 .obtain⟨z,n,rfl,_⟩:=h;rfl
 .obtain⟨z,x,rfl,af,aq,ar,ag,k⟩:=h;have Y:=scMk.nd;refine⟨_,zac (zaq (i:=2) Y J (Or.inl J) zaD)
   (zac (za0 PassesOwn.never J (zbB J T.range (zaa (zaC zbj zag (zay ix_list (zaO (zaa zag (zaa zag (zaa zag (zaa (zaj O U J J0 k1 I .nil pass0 (zaa (pv 0) (zaa zag zad))) zad))))) (zaj O U J J0 k1 I .nil pass0 (zaa (pv 0) (zaa zag zad))) (λ_ _=>rfl))) zad))
    (zai (i:=3) Y J (Or.inl J))
    (zaf (zaq (i:=2) Y J (Or.inl J) (zaC zbf (pv 2) (zay zfM (pv 1) (zaj O U J J0 k1 I .nil pass0 (zaa (pv 0) (zaa (zar zaw (by rfl) T.len b_len (zaa (pv 1) zad)) zad))) (λ_ _=>rfl))))))
   (zaf (zas (pv 2)))),?_⟩
  dsimp only[cxOf,Cx.nox,Cx.wish];have as:(1000:Nat)<=sizeLine:=by rw[sizeLine_eq];decide
  refine⟨_,J,z,4,J,af,by decide,by decide,λr H1 au Z=>?_⟩;refine⟨by show (4:Nat)<=_;omega,λp np=>⟨_,J,z,4,J,?_,by decide,by decide,λaa H2 ah ad=>?_⟩⟩
  .exact(Z.same (Same.new np)).2
  .have ai:Aft z H H2:=(Z.same (Same.new np)).trans ad;have aj:p≠z:=by
    obtain⟨c,e,h⟩:=Z.2;exact(zae h np).symm
   have ak:H2 p=some (.lst [.int 0,.int 0,.int 1,.int r]):=ad.1 p _ aj zab;obtain⟨n,al,av,aw⟩:∃n:Nat,([V.int 0,V.int 0,V.int 1,V.int r]:List V)[aa]?=some (.int n)/\n<=3/\True:=by
    match aa,ah with
    |0,_=>exact⟨0,J,by omega,trivial⟩
    |1,_=>exact⟨0,J,by omega,trivial⟩
    |2,_=>exact⟨1,J,by omega,trivial⟩
    |3,_=>exact⟨r,J,by omega,trivial⟩
    |m+4,h=>omega
   refine⟨p,_,aa,.int n,J,J,SqL.of ak,zal al,1,n,J,J,1+n,J,by omega,by omega,?_⟩;have am:(1+(n:Int)).toNat=1+n:=by omega
   rw[am];refine zbW (λi σ j=>∃m u,σ=[some (.ref z),some (.str x),some (.str m),u]/\Aft z H j/\m.length=i/\zep m) ⟨_,none,J,ai,by decide +kernel,?_⟩ ?_ ?_
   .intro c hc;have:(Str.ofString "").cps.toList=[]:=by decide +kernel
    rw[this] at hc;cases hc
   .rintro i σ j hi ⟨m,u,rfl,B,ao,ab⟩;refine⟨_,J,_,J,_,J,_,J,x,J,by omega,z,x.length,J,B.2,by omega,by omega,λD ax ay ap=>?_⟩;have ae:D<x.cps.toList.length:=by
     have:x.cps.toList.length=x.length:=by simp;rfl
     omega
    refine⟨x,D,x.cps.toList[D],J,J,by omega,zal (by simp[ae]),m,_,J,J,?_,?_⟩
    .show m.length+1<=_;omega
    .refine⟨_,_,J,B.trans ap,?_,λc hc=>?_⟩
     .rw[zaP];show m.length+1=_;omega
     .rw[zbq] at hc;rcases List.mem_append.mp hc with hc|hc
      .exact ab c hc
      .have:c=x.cps.toList[D]:=by simpa using hc
       rw[this];exact ag _ (List.getElem_mem ae)
   .rintro σ j ⟨m,u,rfl,B,ao,ab⟩;refine⟨_,J,k m j ?_ B⟩;unfold markS;rw[decide_eq_true (show 1<=m.length by omega),decide_eq_true (show m.length<=4 by omega)];simp only[Bool.true_and,List.all_eq_true];exact ab
theorem scFits:zau ["book","escape","doors","other","more","door","some"] ["book"] (zah lFits):=⟨J,J,J,by decide +kernel,J,by decide +kernel,by decide +kernel⟩
theorem zkD{f:Addr}{fd:FuncData}(F:Fun K "_law_fits_book" "_law_fits_book" lFits f fd)(T:TxtB mg)(bj:Txt2 mg):FnOk P w K mg base CX0 1 f fd ["book"] zf3:=by
 refine F.ok scFits (λvs H Q E h=>?_) (λcdv A outer s H vs Q E aX h=>?_)
 .obtain⟨z,a,xs,b,rfl,_⟩:=h;rfl
 .obtain⟨z,a,xs,b,rfl,aA,R,bM,aB,k⟩:=h;have ad:=scFits.nd;refine⟨_,zac (za0 PassesOwn.never J (PI.or (zbm (pv 0)) (zbb (pv 0))) (zaZ J (zam (zai (i:=1) ad J (Or.inr J)) (zam (zai (i:=2) ad J (Or.inl J)) zaE)))
    (zac (za0 PassesOwn.never J (PI.or (zbm (pv 0)) (zbb (pv 0))) (zaZ J (zam (zai (i:=3) ad J (Or.inl J)) (zam (zai (i:=4) ad J (Or.inl J)) zaE)))
     (zac (za8 (i:=6) (N':=["door","escape"]) (js:=[none,some 1]) J J ad J (Or.inl J) (zbp (zah lFits) (by decide +kernel)) ⟨J,Or.inr (Or.inl J),J,trivial⟩ (zbm (pv 4))
      (λcl s H fp=>zai (i:=0) ndDE J (Or.inl J))
      (λcl s H fp=>zeh (zax zeH (pv 1) (zaC zbf (zaC zbf (zay za1 (pv 0) zag (λ_ _=>rfl)) zaD) (zay za1 (pv 0) zag (λ_ _=>rfl))) (by with_unfolding_all rfl))) (λcl s H fp=>pv 0))
     (zaf (zaY (PW.pt (zjB (zax zeF (pv 1) zaD (zaF _)) (zg0 (zax (zeQ aX.units0) (pv 6) (zaO zad) (zaF _))))) (zaf (zas zcj)) zaz))))
    (zac (zaY (zax zeF (zar zei (by rfl) T.len b_len (zaa (zaV (zdT J) (by rfl) bj.set zmg (zaa (zbs (N':=["door"]) (js:=[none]) J J (zbp (zah lFits) (by decide +kernel)) trivial (zbm (pv 2))
      (λcl s H fp=>zai (i:=0) ndD J (Or.inl J)) (λcl s H fp=>zbo) (λcl s H fp=>zay za1 (pv 0) zag (λ_ _=>rfl))) zad)) zad)) (zar zat (by rfl) T.len b_len (zaa (pv 2) zad)) (zaF _)) (zaf (zas zcj)) zaz)
    (zaf (za0 PassesOwn.never J (zbm (pv 2)) (zai (i:=5) ad J (Or.inr J))
     (zaf (zaY (zax (zeQ aX.units0) (zbs (N':=["one","door"]) (js:=[none,some 5]) J J (zbp (zah lFits) (by decide +kernel)) ⟨J,Or.inr (Or.inl J),J,trivial⟩ (zbm (zay ix_tup (zay zlk (pv 0) (zay ix_tup (pv 5) zag (λ_ _=>rfl)) (λ_ _=>rfl)) zag (λ_ _=>rfl)))
      (λcl s H fp=>zai (i:=0) ndOD J (Or.inl J)) (λcl s H fp=>zeh (zck (zd3 PySem.F.plainAttrs_str PySem.F.slot_str_startswith PySem.F.type_str_startswith zbK (zay za1 (pv 0) zag (λ_ _=>rfl)) (zaa (zay za1 (pv 1) zag (λ_ _=>rfl)) zad)))) (λcl s H fp=>pv 0)) (zaO zad) (zaF _)) (zaf (zas zcj)) zaz)))))))
   (zaf (zas zcj)),?_⟩
  dsimp only[cxOf,Cx.nox,Cx.wish];have aY:xs.length=b.length:=by have:=R.length;simpa using this
  refine zhT (a:=a) (xs:=xs) aA (λR q=>⟨_,J,q⟩) (λR q=>⟨_,J,q⟩) (λi σ H2=>∃aC aD G I Z J0,σ=[some (.ref a),aC,aD,G,I,Z,J0]/\Same H H2/\∀j,j<i->fitT b (b.getD j tg0)=true) ⟨none,none,none,none,none,none,J,Same.refl H,λj B=>absurd B (Nat.not_lt_zero j)⟩ (λi σ H' ⟨_,_,_,_,_,_,_,s,_⟩=>s) ?_ ?_
  .rintro i y σ H2 hi ⟨aC,aD,G,I,Z,J0,rfl,D,aE⟩;have aF:i<b.length:=by have:=(List.getElem?_eq_some_iff.mp hi).1;omega
   have bk:y=xs.getD i .non:=by rw[List.getD_eq_getElem?_getD,hi];rfl
   have aZ:TgOk b.length (b.getD i tg0):=aB _ (zap _ aF);obtain⟨c,d,ys,e,bN,bO,bl,ae,ap,a1⟩:=zaH ((zaA (b:=b) (i:=i) R aF).mono D.x);rw[bk,e];have ap:ys.length=(b.getD i tg0).2.length:=ap;have bP:=aZ.2.1;have ab:∀H',Same H H'->fitT b (b.getD i tg0)=false->Q (.bl false) H':=λH' s' aG=>by
    have:=zhR b tg0 (fitT b) aF aG;have q:=k H' s';unfold fitsB at q;rw[this] at q;exact q
   refine⟨c,_,J,SqT.of bl,J,_,_,J,_,_,J,J,?_⟩;refine zd1 λbQ bm bn _ _=>?_;have ab:=λH' a b=>bn _ _ (ab H' a b);refine zao λU aH=>?_;refine zhT (a:=a) (xs:=xs) (aA.same D) (λR q=>⟨_,J,q⟩) (λR q=>⟨_,J,q⟩) (λj σ aq=>∃G I J0,σ=[some (.ref a),some (.str (b.getD i tg0).1),some (.ref d),G,I,Z,J0]/\Same H2 aq/\∀l,l<j->fit1 (b.getD i tg0) (b.getD l tg0)=true) ⟨G,I,J0,J,Same.refl _,λj B=>absurd B (Nat.not_lt_zero j)⟩ (λi σ H' ⟨_,_,_,_,s,_⟩=>s) ?_ ?_
   .rintro j bo σ aq B ⟨bp,bq,br,rfl,O,aI⟩;have aJ:j<b.length:=by have:=(List.getElem?_eq_some_iff.mp B).1;omega
    have bs:bo=xs.getD j .non:=by rw[List.getD_eq_getElem?_getD,B];rfl
    have a2:TgOk b.length (b.getD j tg0):=aB _ (zap _ aJ);have bR:=a2.2.1;obtain⟨bt,aK,zs,aL,bS,bT,bu,aM,aN,Rz⟩:=zaH ((zaA (b:=b) (i:=j) R aJ).mono (D.trans O).x);rw[bs,aL];have aN:zs.length=(b.getD j tg0).2.length:=aN;refine⟨bt,_,J,SqT.of bu,J,_,_,J,_,_,J,J,?_⟩;refine zd1 λbU a3 bv _ _=>?_;have ab:=λH' a b=>bv _ _ (ab H' a b);refine zao λbV bw=>?_;refine⟨_,J,aK,J,⟨_,SqT.of aM⟩,λp np=>?_⟩;have aj:aK≠p:=zae aM np;have nx:∀H',Same aq H'->fit1 (b.getD i tg0) (b.getD j tg0)=true->∃G I J0,[some (V.ref a),some (V.str (b.getD i tg0).1),some (V.ref d),some (.str (b.getD j tg0).1),some (.ref aK),Z,some (.ref p)]=[some (V.ref a),some (V.str (b.getD i tg0).1),some (V.ref d),G,I,Z,J0]/\Same H2 H'/\∀l,l<j+1->fit1 (b.getD i tg0) (b.getD l tg0)=true:=λH' s' aG=>⟨_,_,_,J,O.trans s',λl aY=>by
     rcases Nat.lt_succ_iff_lt_or_eq.mp aY with h|h
     .exact aI l h
     .rw[h];exact aG⟩
    refine zca (λl=>if inEsc (b.getD i tg0).1 ((b.getD j tg0).2.getD l dr0) then some (zs.getD l .non) else none) (λσ=>∃v,σ=[v,some (.str (b.getD i tg0).1)]) ⟨none,J⟩ np (by omega) (zb9 (xs:=zs) (by rw[zan aj];exact aM) aj) (λl σ af C ar ⟨v,ak⟩ aO al=>?_) (λσ af am as=>?_)
    .subst ak;have ag:l<(b.getD j tg0).2.length:=by omega
     obtain⟨q,ah,bx,au⟩:=zbi ((za6 (ds:=(b.getD j tg0).2) (i:=l) Rz ag).mono aO.x);have av:=a2.2.2 _ (zap dr0 ag);have bW:=zaM av.1;have bX:=zaM av.2.2;have bY:(1000:Nat)<=sizeLine:=by rw[sizeLine_eq];decide
     have a4:(Str.ofString " ").length=1:=by decide +kernel
     have W:=al [some (.ref q),some (.str (b.getD i tg0).1)] af ⟨_,J⟩ (Same.refl _);rw[ah];refine⟨_,J,_,J,q,_,0,_,J,J,SqT.of au,zal (j:=0) J,_,_,J,J,?_,_,J,q,_,2,_,J,J,SqT.of au,zal (j:=2) J,_,_,J,J,?_,_,_,J,J,_,J,?_⟩
     .rw[a4];show ((b.getD j tg0).2.getD l dr0).1.length+1<=_;omega
     .rw[zaP,a4];show ((b.getD j tg0).2.getD l dr0).1.length+1+((b.getD j tg0).2.getD l dr0).2.2.length<=_;omega
     .show if inEsc (b.getD i tg0).1 ((b.getD j tg0).2.getD l dr0)=true then _ else _;cases g:inEsc (b.getD i tg0).1 ((b.getD j tg0).2.getD l dr0) with
      |true=>
       rw[g,if_pos J,ah] at W;exact iteT ⟨_,J,W⟩
      |false=>
       rw[g,if_neg (by simp)] at W;exact iteF W
    .refine bw _ _ ⟨_,J,J,_,J,?_⟩;refine ite2 (λaP=>?_) (λaP=>?_)
     .refine⟨_,J,Nat.zero_le _,λq Y=>?_⟩;have aQ:p≠q:=zae as Y;refine⟨p,q,_,J,J,by rw[zan aQ];exact as,zab,_,J,?_⟩;have ai:=zeX (b.getD j tg0).2 dr0 (inEsc (b.getD i tg0).1) (λl=>zs.getD l .non) aN;rw[ai,Bool.not_not];cases ao:(b.getD j tg0).2.any (inEsc (b.getD i tg0).1) with
      |true=>
       refine iteT (ab _ (((D.trans O).trans am).trans (Same.new Y)) ?_);have aR:fit1 (b.getD i tg0) (b.getD j tg0)=false:=by
        unfold fit1;rw[ao,aP];rfl
       unfold fitT;rw[zhR b tg0 (fit1 (b.getD i tg0)) aJ aR,Bool.false_and,Bool.false_and]
      |false=>
       refine iteF (a3 _ _ (nx _ (am.trans (Same.new Y)) ?_));unfold fit1;rw[ao,Bool.and_false];rfl
     .refine iteF (a3 _ _ (nx _ am ?_));have bz:(!decide (V.str (b.getD i tg0).1=V.str (Str.ofString "")))=false:=by simpa using aP
      unfold fit1;rw[bz,Bool.false_and];rfl
   .rintro σ aq ⟨bp,bq,br,rfl,O,aI⟩;have aR:b.all (fit1 (b.getD i tg0))=true:=zhQ b tg0 _ λj B=>aI j (by omega);refine aH _ _ (zao λU aH=>?_);refine⟨_,J,d,J,⟨_,SqT.of (O _ _ ae)⟩,λp np=>?_⟩;have aj:d≠p:=zae (O _ _ ae) np;refine ziQ (λl=>.str ((b.getD i tg0).2.getD l dr0).1) (λσ=>∃v,σ=[v]) ⟨none,J⟩ np (by omega) (zb9 (xs:=ys) (by rw[zan aj];exact O _ _ ae) aj) (λl σ af C ar ⟨v,ak⟩ aO al=>?_) (λσ af am as=>?_)
    .subst ak;obtain⟨q,ah,bx,au⟩:=zbi ((za6 (ds:=(b.getD i tg0).2) (i:=l) a1 (by omega)).mono (O.trans aO).x);rw[ah];exact⟨_,J,q,_,0,_,J,J,SqT.of au,zal (j:=0) J,al _ af ⟨_,J⟩ (Same.refl _)⟩
    .have bA:af p=some (.lst ((zaJ (b.getD i tg0).2).map V.str)):=by
      rw[as,ap];unfold zaJ;rw[List.map_map];exact congrArg (λx=>some (HO.lst x)) (zht (b.getD i tg0).2 dr0 λd=>V.str d.1)
     refine⟨p,zaJ (b.getD i tg0).2,J,SqL.of bA,(by unfold scanBound zaJ;rw[List.length_map];omega),λq Y=>?_⟩;have bB:=Same.new (o:=setL P w q (zaJ (b.getD i tg0).2)) Y;have aw:Same H2 _:=(O.trans am).trans bB;refine⟨q,_,J,zab,_,J,d,ys,J,.inr (SqT.of (aw _ _ ae)),J,_,J,?_⟩;have aL:(!decide (V.int ((dd (zaJ (b.getD i tg0).2)).length:Int)=V.int (ys.length:Int)))=!decide (zaJ (b.getD i tg0).2).Nodup:=by
      congr 1;rw[decide_eq_decide,←zls];have:(zaJ (b.getD i tg0).2).length=(b.getD i tg0).2.length:=by simp[zaJ]
      rw[this,←ap];simp;omega
     rw[aL];cases a5:decide (zaJ (b.getD i tg0).2).Nodup with
     |false=>
      refine iteT (ab _ (D.trans aw) ?_);unfold fitT;rw[a5,Bool.and_false,Bool.false_and]
     |true=>
      refine iteF (aH _ _ ?_);refine⟨_,J,d,J,⟨_,SqT.of (aw _ _ ae)⟩,zbV (K:=K) (a:=d) (xs:=ys) (λl σ ax=>∃G I Z J0,σ=[some (.ref a),some (.str (b.getD i tg0).1),some (.ref d),G,I,Z,J0]/\Same H2 ax/\∀m,m<l->fit3 b ((b.getD i tg0).2.getD m dr0)=true) ⟨_,_,_,_,J,aw,λj B=>absurd B (Nat.not_lt_zero j)⟩ (λl σ ax _ ⟨_,_,_,_,_,s,_⟩=>SqT.of (s _ _ ae)) ?_ ?_⟩
      .rintro l bC σ ax ar ⟨bD,bE,bF,bG,rfl,ac,aS⟩;have ag:l<(b.getD i tg0).2.length:=by have:=(List.getElem?_eq_some_iff.mp ar).1;omega
       have bH:bC=ys.getD l .non:=by rw[List.getD_eq_getElem?_getD,ar];rfl
       obtain⟨ay,ah,bZ,aT⟩:=zbi ((za6 (ds:=(b.getD i tg0).2) (i:=l) a1 ag).mono ac.x);rw[bH,ah];have av:=aZ.2.2 _ (zap dr0 ag);generalize a6:(b.getD i tg0).2.getD l dr0=aa at *;obtain⟨b0,b1⟩:=av.2.1;obtain⟨n,a7⟩:∃n:Nat,aa.2.1=(n:Int):=⟨aa.2.1.toNat,by omega⟩;have a8:n<b.length:=by omega
       have b2:(b.getD n tg0).2.length<=6:=(aB _ (zap tg0 a8)).2.1;obtain⟨a9,ba,az,bI,b3,b4,bJ,aU,aV,bK⟩:=zaH ((zaA (b:=b) (i:=n) R a8).mono (D.trans ac).x);have aV:az.length=(b.getD n tg0).2.length:=aV;have ex:xs[n]?=some (.ref a9):=by
        have h1:n<xs.length:=by omega
        have h2:xs.getD n .non=xs[n]:=by simp[h1]
        rw[List.getElem?_eq_getElem h1,←h2,bI]
       rw[a7] at aT;refine⟨_,J,_,J,ay,_,1,_,J,J,SqT.of aT,zal (j:=1) J,zmk (aA.same (D.trans ac)) ex ?_⟩;refine⟨a9,_,1,_,J,J,SqT.of bJ,zal (j:=1) J,ba,J,⟨_,SqT.of aU⟩,λp2 bb=>?_⟩;have bc:ba≠p2:=zae aU bb;refine zca (λm=>if stAt ((b.getD n tg0).2.getD m dr0).1 aa.2.2 0 then some (az.getD m .non) else none) (λσ=>∃v,σ=[v,some (.ref ay)]) ⟨none,J⟩ bb (by omega) (zb9 (xs:=az) (by rw[zan bc];exact aU) bc) (λm σ bd C aW ⟨v,ak⟩ be al=>?_) (λσ bd bf bg=>?_)
       .subst ak;obtain⟨bh,ai,b5,bL⟩:=zbi ((za6 (ds:=(b.getD n tg0).2) (i:=m) bK (by omega)).mono be.x);have W:=al [some (.ref bh),some (.ref ay)] bd ⟨_,J⟩ (Same.refl _);rw[ai];refine⟨_,J,bh,_,0,_,J,J,SqT.of bL,zal (j:=0) J,J,_,J,ay,_,2,_,J,J,SqT.of (be _ _ aT),zal (j:=2) J,_,_,J,J,_,J,?_⟩;cases g:stAt ((b.getD n tg0).2.getD m dr0).1 aa.2.2 0 with
        |true=>
         rw[g,if_pos J,ai] at W;exact iteT ⟨_,J,W⟩
        |false=>
         rw[g,if_neg (by simp)] at W;exact iteF W
       .refine⟨Nat.zero_le _,λq Y=>?_⟩;have aQ:p2≠q:=zae bg Y;refine⟨p2,q,_,J,J,by rw[zan aQ];exact bg,zab,_,J,?_⟩;have ai:=zeX (b.getD n tg0).2 dr0 (λo=>stAt o.1 aa.2.2 0) (λm=>az.getD m .non) aV;rw[ai,Bool.not_not];have bi:fit3 b aa=!((b.getD n tg0).2.any λo=>stAt o.1 aa.2.2 0):=by
         unfold fit3;rw[a7];rfl
        cases ao:(b.getD n tg0).2.any λo=>stAt o.1 aa.2.2 0 with
        |true=>
         refine iteT (ab _ ((D.trans ac).trans (bf.trans (Same.new Y))) ?_);unfold fitT;rw[zhR (b.getD i tg0).2 dr0 (fit3 b) ag (by rw[a6,bi,ao];rfl),Bool.and_false]
        |false=>
         refine iteF ⟨_,_,_,_,J,ac.trans (bf.trans (Same.new Y)),λm aW=>?_⟩;rcases Nat.lt_succ_iff_lt_or_eq.mp aW with h|h
         .exact aS m h
         .rw[h,a6,bi,ao];rfl
      .rintro σ ax ⟨bD,bE,bF,bG,rfl,ac,aS⟩;refine bm _ _ ⟨_,_,_,_,_,_,J,D.trans ac,λj B=>?_⟩;rcases Nat.lt_succ_iff_lt_or_eq.mp B with h|h
       .exact aE j h
       .rw[h];unfold fitT;rw[aR,a5,zhQ (b.getD i tg0).2 dr0 (fit3 b) λm aW=>aS m (by omega)];rfl
  .rintro σ H2 ⟨aC,aD,G,I,Z,J0,rfl,D,aE⟩;have q:=k H2 D;unfold fitsB at q;rw[zhQ b tg0 (fitT b) λj B=>aE j (by omega)] at q;exact q
theorem scBookL:zau ["bag","signs","escapes","many","book","turn","at","door","more"] ["bag"] (zah lBook):=⟨J,J,J,by decide +kernel,J,by decide +kernel,by decide +kernel⟩
theorem zja{f aS aT aU:Addr}{fd bt bu bv:FuncData}(F:Fun K "_law_book" "_law_book" lBook f fd)(T:TxtB mg)(b8:Txt2 mg)(k1:W.keepIn K (.ref aS)=true)(ab:Binds K bt ["bag","many"] [])(D:mg "_law_take"=some (.ref aS))(ac:FnOk P w K mg base CX0 1 aS bt ["bag","many"] zdF)(k2:W.keepIn K (.ref aT)=true)(bw:Binds K bu ["bag","signs"] [])(I:mg "_law_mark"=some (.ref aT))(bx:FnOk P w K mg base CX0 2 aT bu ["bag","signs"] spMk)(k3:W.keepIn K (.ref aU)=true)(b9:Binds K bv ["book"] [])(ca:mg "_law_fits_book"=some (.ref aU))(cb:FnOk P w K mg base CX0 1 aU bv ["book"] zf3):FnOk P w K mg base CX0 3 f fd ["bag"] zf6:=by
 refine F.ok scBookL (λvs H Q E h=>?_) (λcdv A outer s H vs Q E aV h=>?_)
 .obtain⟨z,rfl,_⟩:=h;rfl
 .obtain⟨z,rfl,bz,k⟩:=h;have ad:=scBookL.nd;have aa:Room 1 _:=aV.mono (by decide);refine⟨_,zac (zaq (i:=1) ad J (Or.inl J) (zay ix_list (zaO (zaa zaD (zaa zaD (zaa zaD (zaa zaD zad))))) (zaj ac aa J D k1 ab .nil pass0 (zaa (pv 0) (zaa zag zad))) (λ_ _=>rfl)))
   (zac (zaq (i:=2) ad J (Or.inr J) (zay ix_list (zaO (zaa zaD (zaa zaD (zaa zaD (zaa zaD zad))))) (zaj ac aa J D k1 ab .nil pass0 (zaa (pv 0) (zaa zag zad))) (λ_ _=>rfl)))
   (zac (zaq (i:=3) ad J (Or.inl J) (zaC zbj zag (zaj ac aa J D k1 ab .nil pass0 (zaa (pv 0) (zaa (zay ix_list (zaO (zaa zag (zaa zag (zaa zag zad)))) (zaj ac aa J D k1 ab .nil pass0 (zaa (pv 0) (zaa zag zad))) (λ_ _=>rfl)) zad)))))
   (zac (za8 (i:=4) (N':=["tongue","bag","escapes"]) (js:=[none,some 0,some 2]) J J ad J (Or.inl J) (zbp (zah lBook) (by decide +kernel)) ⟨J,Or.inr (Or.inl J),J,J,Or.inr (Or.inl J),J,trivial⟩ (zbB J T.range (zaa (pv 3) zad))
     (λcl s H fp=>zai (i:=0) ndTBE J (Or.inl J)) (λcl s H fp=>zbo)
     (λcl s H fp=>zaG (zaa (zay ziR (zaO (zaa (pv 2) (zaa zaD (zaa zaD zad)))) (zaj ac aa J D k1 ab .nil pass0 (zaa (pv 1) (zaa zag zad))) (λ_ _=>rfl)) (zaa (zaG zad) zad))))
   (zac (za0 PassesOwn.never J (zbB J T.range (zaa (zaC zbj zag (zaj ac aa J D k1 ab .nil pass0 (zaa (pv 0) (zaa (zaC zdu zag (pv 3)) zad)))) zad)) (zai (i:=5) ad J (Or.inl J))
    (zac (zaq (i:=6) ad J (Or.inl J) (zay ix_list (zaO (zaa zag (zaa (zaj ac aa J D k1 ab .nil pass0 (zaa (pv 0) (zaa (pv 3) zad))) zad))) (zaj ac aa J D k1 ab .nil pass0 (zaa (pv 0) (zaa zag zad))) (λ_ _=>rfl)))
    (zac (zaq (i:=7) ad J (Or.inl J) (zaG (zaa (zaj bx aV J I k2 bw .nil pass0 (zaa (pv 0) (zaa (pv 1) zad))) (zaa (zaj ac aa J D k1 ab .nil pass0 (zaa (pv 0) (zaa (pv 3) zad))) (zaa (zaj bx aV J I k2 bw .nil pass0 (zaa (pv 0) (zaa (pv 1) zad))) zad)))))
    (zac (zaq (i:=8) ad J (Or.inl J) (zaV zc1 (by rfl) b8.list zfQ (zaa (pv 4) zad)))
    (zac (zba (zaG (zaa (zay ix_tup (zay ix_list (pv 4) (pv 6) (λ_ _=>rfl)) zag (λ_ _=>rfl)) (zaa (zaC zkA (zay ix_tup (zay ix_list (pv 4) (pv 6) (λ_ _=>rfl)) zag (λ_ _=>rfl)) (zaG (zaa (pv 7) zad))) zad))) (zfH (pv 8) (pv 6) zef))
    (zaf (zaY (PW.pt (zjB (zax zeG (zar zat (by rfl) T.len b_len (zaa (zay ix_tup (zay ix_list (pv 4) (pv 6) (λ_ _=>rfl)) zag (λ_ _=>rfl)) zad)) zag (zaF _)) (zg0 (zck (zaj cb aa J ca k3 b9 .nil pass0 (zaa (pv 8) zad))))))
     (zaf (zaq (i:=4) ad J (Or.inl J) (pv 8))) zaz)))))))
   (zaf (zas (zaV zaT (by rfl) T.tuple zcl (zaa (pv 4) zad)))))))),?_⟩
  dsimp only[cxOf,Cx.nox,Cx.wish];refine zao λU ae=>?_;have cW:(1000:Nat)<=sizeLine:=by rw[sizeLine_eq];decide
  have bA:=Aft.refl bz;refine⟨by show (4:Nat)<=_;omega,λbB aW=>⟨_,J,z,4,J,(bA.new aW).2,by decide,by decide,λaX H1 cX bC=>?_⟩⟩;have aY:Aft z H H1:=(bA.new aW).trans bC;have bD:=bC.1 bB _ (bz.ne aW) zab;obtain⟨cc,ce,as⟩:=pickH bD (r:=aX) (by show aX<4;omega);obtain⟨x,ex,bE,bF,bG⟩:∃x,cc=.str x/\1<=x.length/\x.length<=100/\zep x:=by
   simp only[List.mem_cons,List.not_mem_nil,or_false] at as;rcases as with rfl|rfl|rfl|rfl<;>exact⟨_,J,by decide +kernel,by decide +kernel,by unfold zep;decide +kernel⟩
  subst ex;refine⟨bB,_,aX,_,J,J,SqL.of bD,zal ce,ae _ _ (zao λU ae=>?_)⟩;refine⟨by show (4:Nat)<=_;omega,λp2 aZ=>⟨_,J,z,4,J,(aY.new aZ).2,by decide,by decide,λa1 H2 cY bH=>?_⟩⟩;have a2:Aft z H H2:=(aY.new aZ).trans bH;have aD:=bH.1 p2 _ (aY.2.ne aZ) zab;obtain⟨cf,cg,au⟩:=pickH aD (r:=a1) (by show a1<4;omega);obtain⟨e,ch,ci⟩:∃x,cf=.str x/\escD (.str x)=true:=by
   simp only[List.mem_cons,List.not_mem_nil,or_false] at au;rcases au with rfl|rfl|rfl|rfl<;>exact⟨_,J,by decide +kernel⟩
  subst ch;refine⟨p2,_,a1,_,J,J,SqL.of aD,zal cg,ae _ _ (zao λU ae=>?_)⟩;refine⟨_,J,by show (3:Nat)<=_;omega,λp3 a3=>⟨_,J,z,3,J,(a2.new a3).2,by decide,by decide,λa4 cj cZ bI=>?_⟩⟩;have bJ:Aft z H cj:=(a2.new a3).trans bI;have bK:=bI.1 p3 _ (a2.2.ne a3) zab;obtain⟨ck,cm,bL⟩:=pickH bK (r:=a4) (by show a4<3;omega);obtain⟨a5,cn,co,c0⟩:∃n:Int,ck=.int n/\0<n/\n<=6:=by
   simp only[List.mem_cons,List.not_mem_nil,or_false] at bL;rcases bL with rfl|rfl|rfl<;>exact⟨_,J,by decide,by decide⟩
  subst cn;refine⟨p3,_,a4,_,J,J,SqL.of bK,zal cm,z,a5,J,bJ.2,co,by omega,λY cp c1 cq=>?_⟩;have a6:Aft z H cp:=bJ.trans cq;refine⟨1,Y,J,J,ae _ _ (zao λU ae=>?_)⟩;refine⟨_,J,1+Y,J,by omega,by omega,λp np=>?_⟩;have cr:(1+(Y:Int)).toNat=1+Y:=by omega
  rw[cr];have a7:=a6.2.ne np;have cs:=a6.none np;refine zgP (λi σ av=>∃u,σ=[u,some (.ref z),some (.str e)]/\Aft z H av/\∃b,LBk z p b av/\b.length=i/\∀t∈b,t.2=[]/\escD (.str t.1)=true) ⟨none,J,a6.new np,[],⟨a7,[],zab,.nil⟩,J,by simp⟩ ?_ ?_
  .rintro i σ av hi ⟨u,rfl,ai,b,aE,af,aw⟩;refine⟨_,J,by show (3:Nat)<=_;omega,λl J0=>⟨_,J,z,3,J,(ai.new J0).2,by decide,by decide,λr ax cu ay=>?_⟩⟩;have cv:Aft z av ax:=((Aft.refl ai.2).new J0).trans ay;have bM:=ay.1 l _ (ai.2.ne J0) zab;obtain⟨cw,cx,bN⟩:=pickH bM (r:=r) (by show r<3;omega);obtain⟨y,cy,aF⟩:∃x,cw=.str x/\escD (.str x)=true:=by
    simp only[List.mem_cons,List.not_mem_nil,or_false] at bN;rcases bN with rfl|rfl|rfl
    .exact⟨_,J,ci⟩
    .exact⟨_,J,by decide +kernel⟩
    .exact⟨_,J,by decide +kernel⟩
   subst cy;have a8:y.length<=1:=by unfold escD at aF;simp at aF;exact aF.1
   refine⟨l,_,r,_,J,J,SqL.of bM,zal cx,Nat.zero_le _,λO a9=>⟨by show (2:Nat)<=_;omega,λao bO=>?_⟩⟩;have az:=(cv.new (o:=.tup []) a9).new (o:=.tup [.str y,.ref O]) bO;have aG:upd (upd ax O (.tup [])) ao (.tup [.str y,.ref O]) ao=some (.tup [.str y,.ref O]):=zab;have aH:upd (upd ax O (.tup [])) ao (.tup [.str y,.ref O]) O=some (.tup []):=Same.new bO _ _ zab;generalize upd (upd ax O (.tup [])) ao (.tup [.str y,.ref O])=cz at az aG aH;obtain⟨_,vs,ba,G⟩:=aE.aft az.1;have cA:vs.length=b.length:=by have:=G.length;simpa using this
   refine⟨vs,ba,by omega,⟨_,J,(ai.trans az).upd cs a7,b++[(y,[])],⟨a7,vs++[.ref ao],zab,?_⟩,by simp[af],λt ht=>?_⟩⟩
   .rw[zf4,List.map_append];have bb:ao≠p:=zaI aG ba (by intro z;cases z);have cB:O≠p:=zaI aH ba (by intro z;cases z);exact G.append (.cons (.tup (by rw[zcq bb];exact aG) (az.2.neT aG) (.cons (.str y (by omega)) (.cons (.tup (by rw[zcq cB];exact aH) (az.2.neT aH) .nil) .nil))) .nil)
   .rcases List.mem_append.mp ht with ht|ht
    .exact aw t ht
    .have:t=(y,[]):=by simpa using ht
     subst this;exact⟨J,aF⟩
  .rintro σ av ⟨u,rfl,ai,b,aE,af,aw⟩;refine ae _ _ (zao λU ae=>?_);refine⟨_,J,_,J,3,1+Y,J,J,.inl ⟨by decide,by decide⟩,z,3*(1+Y),J,ai.2,by omega,by omega,λbP ax cC ay=>?_⟩;refine⟨2,bP,J,J,2+bP,J,by omega,by omega,?_⟩;have bQ:∀t∈b,TgOk b.length t:=λt ht=>by
    obtain⟨h1,h2⟩:=aw t ht;refine⟨h2,by rw[h1];decide,λd aI=>?_⟩;rw[h1] at aI;cases aI
   refine zbW (λi σ ap=>∃a b bc bd be bf,σ=[some (.ref z),some (.str x),some (.str e),some (.int (1+Y)),some (.ref a),bc,bd,be,bf]/\Aft z H ap/\LBk z a b ap/\b.length=1+Y/\(∀t∈b,TgOk b.length t)/\fitsB b=true)
    ⟨p,b,none,none,none,none,J,ai.trans ay,aE.aft ay.1,af,bQ,zgQ λt ht=>(aw t ht).1⟩ ?_ ?_
   .clear bQ aw af aE cC;rintro i σ ap hi ⟨a,b,bc,bd,be,bf,rfl,aj,aJ,af,ak,aK⟩;show (tSeq _ _) _ _ _;refine zd1 λc2 bg _ _ _=>zao λbh al=>?_;refine⟨_,J,_,J,z,1+Y,J,aj.2,by omega,by omega,λbR cz cu bi=>?_⟩;refine⟨by show (2:Nat)<=_;omega,λp4 bj=>⟨_,J,z,2,J,(bi.new bj).2,by decide,by decide,λbk cD cE bS=>?_⟩⟩;have bT:Aft z ap cD:=(bi.new bj).trans bS;have cF:=bS.1 p4 _ (bi.2.ne bj) zab;obtain⟨B,cG,c3⟩:∃B:Nat,([V.int 0,V.int bR]:List V)[bk]?=some (.int B)/\B<1+Y:=by
     match bk,cE with
     |0,_=>exact⟨0,J,by omega⟩
     |1,_=>exact⟨bR,J,by omega⟩
     |m+2,h=>omega
    refine⟨p4,_,bk,_,J,J,SqL.of cF,zal cG,al _ _ (zao λbh al=>?_)⟩;refine⟨_,J,_,J,z,x,J,bT.2,bE,bF,bG,λD c4 as bU=>⟨_,J,_,J,z,1+Y,J,bU.2,by omega,by omega,λG c5 c6 bV=>⟨_,J,_,J,z,x,J,bV.2,bE,bF,bG,λI bW au cH=>⟨by show (3:Nat)<=_;omega,λaq cI=>al _ _ (zao λbh al=>?_)⟩⟩⟩⟩;have ag:=(((bT.trans bU).trans bV).trans cH).new (o:=.tup [.str D,.int G,.str I]) cI;have aL:upd bW aq (.tup [.str D,.int G,.str I]) aq=some (.tup [.str D,.int G,.str I]):=zab;generalize upd bW aq (.tup [.str D,.int G,.str I])=aA at ag aL;obtain⟨bX,vs,aM,bl⟩:=aJ.aft ag.1;have cA:vs.length=b.length:=by have:=bl.length;simpa using this
    refine⟨_,J,a,vs,J,.inl (SqL.of aM),λl J0=>al _ _ (zao λbh al=>?_)⟩;have bY:B<b.length:=by omega
    have aN:=ak _ (zap tg0 bY);obtain⟨c,d,ys,cJ,cK,cL,cM,aI,a8,cN⟩:=zaH (zaA (b:=b) (i:=B) bl bY);have a8:ys.length=(b.getD B tg0).2.length:=a8;have bm:vs[B]?=some (.ref c):=by
     have h1:B<vs.length:=by omega
     have h2:vs.getD B .non=vs[B]:=by simp[h1]
     rw[List.getElem?_eq_getElem h1,←h2,cJ]
    generalize c7:b.getD B tg0=tt at *;have bn:=(zb2 cM).2;have bZ:=(zb2 aI).2;have ar:Same aA (upd aA l (.lst vs)):=Same.new J0;have c8:=aN.2.1;have c9:tt.1.length<=1:=by have:=aN.1;unfold escD at this;simp at this;exact this.1
    refine⟨_,J,_,J,a,vs,B,_,J,J,SqL.of (ar _ _ aM),zal bm,c,_,0,_,J,J,SqT.of (ar _ _ bn),zal (j:=0) J,_,J,_,J,a,vs,B,_,J,J,SqL.of (ar _ _ aM),zal bm,c,_,1,_,J,J,SqT.of (ar _ _ bn),zal (j:=1) J,_,J,by show (1:Nat)<=_;omega,λO a9=>?_⟩;have bo:=Same.new (o:=.tup [.ref aq]) a9;refine⟨d,O,ys,[.ref aq],J,J,bo _ _ (ar _ _ bZ),zab,by show ys.length+1<=_;omega,λp2 bp b0 aD=>⟨by show (2:Nat)<=_;omega,λZ cO=>?_⟩⟩;have bq:=Same.new (o:=.tup [.str tt.1,.ref p2]) cO;have aO:upd bp Z (.tup [.str tt.1,.ref p2]) Z=some (.tup [.str tt.1,.ref p2]):=zab;have aB:=bq _ _ (b0 _ _ (bo _ _ (zab (H:=aA) (a:=l) (o:=.lst vs))));have aP:=bq _ _ aD;have ah:Same aA (upd bp Z (.tup [.str tt.1,.ref p2])):=ar.trans (bo.trans (b0.trans bq));generalize upd bp Z (.tup [.str tt.1,.ref p2])=am at aO aB aP ah;refine⟨_,J,_,J,l,vs,B,B,J,J,aB,zkB (by omega),al _ _ ?_⟩;have br:=ag.2.ne J0;have aC:Aft z ap (upd am l (.lst (vs.set B (.ref Z)))):=(ag.same ah).upd (ag.none J0) br;have aQ:Aft z aA (upd am l (.lst (vs.set B (.ref Z)))):=((Aft.refl ag.2).same ah).upd J0 br;have b1:upd am l (.lst (vs.set B (.ref Z))) l=some (.lst (vs.set B (.ref Z))):=zab;have b2:mask l (upd am l (.lst (vs.set B (.ref Z))))=mask l am:=zf4;generalize upd am l (.lst (vs.set B (.ref Z)))=cP at aC aQ b1 b2;have b3:LBk z l (b.set B (tt.1,tt.2++[(D,(G:Int),I)])) cP:=by
     refine⟨br,_,b1,?_⟩;rw[b2,List.map_set];have a5:Z≠l:=zaI aO aB (by intro z;cases z);have bb:p2≠l:=zaI aP aB (by intro z;cases z);have cQ:aq≠l:=zaI (ah _ _ aL) aB (by intro z;cases z);have b4:Bag z am:=(ag.same ah).2;have bs:=zaM as;have da:=zaM au;refine Reps.set (.tup (by rw[zcq a5];exact aO) (b4.neT aO) (.cons (.str tt.1 (by omega)) (.cons (.tup (by rw[zcq bb];exact aP) (b4.neT aP) ?_) .nil))) B (bl.mono (zf5 J0 ah.x));rw[List.map_append];exact(cN.mono (zf5 J0 ah.x)).append (.cons (.tup (by rw[zcq cQ];exact ah _ _ aL) (ag.2.neT aL) (.cons (.str D (by omega)) (.cons (.int (G:Int)) (.cons (.str I (by omega)) .nil)))) .nil)
    have b5:=aJ.aft aC.1;refine⟨_,J,_,J,a,vs,B,_,J,J,SqL.of (aQ.1 _ _ bX aM),zal bm,c,_,1,_,J,J,SqT.of (aQ.1 _ _ cK bn),zal (j:=1) J,d,ys,J,.inr (SqT.of (aQ.1 _ _ cL bZ)),_,_,J,J,_,J,?_⟩;refine ite2 (λbs=>?_) (λbs=>?_)
    .have db:tt.2.length<6:=by
      have:=of_decide_eq_true bs;omega
     have cR:(b.set B (tt.1,tt.2++[(D,(G:Int),I)])).length=b.length:=by simp
     have b6:∀t∈b.set B (tt.1,tt.2++[(D,(G:Int),I)]),TgOk (b.set B (tt.1,tt.2++[(D,(G:Int),I)])).length t:=by
      rw[cR];intro t ht;rcases List.mem_or_eq_of_mem_set ht with ht|ht
      .exact ak t ht
      .subst ht;refine⟨aN.1,by simp;omega,λb7 hdr=>?_⟩;rcases List.mem_append.mp hdr with hdr|hdr
       .exact aN.2.2 b7 hdr
       .have:b7=(D,(G:Int),I):=by simpa using hdr
        subst this;exact⟨as,⟨by show (0:Int)<=G;omega,by show (G:Int)<b.length;omega⟩,au⟩
     obtain⟨_,cS,hw,cT⟩:=id b3;refine⟨_,J,z,l,cS,_,J,.inr hw,cT.mono zhU,by omega,b6,λdc aR=>⟨_,J,?_⟩⟩;cases gf:fitsB (b.set B (tt.1,tt.2++[(D,(G:Int),I)])) with
     |true=>exact iteT ⟨_,J,bg _ _ ⟨l,_,_,_,_,_,J,aj.trans (aC.same aR),b3.aft aR.x,by omega,b6,gf⟩⟩
     |false=>exact iteF (bg _ _ ⟨a,b,_,_,_,_,J,aj.trans (aC.same aR),b5.aft aR.x,af,ak,aK⟩)
    .exact iteF (bg _ _ ⟨a,b,_,_,_,_,J,aj.trans aC,b5,af,ak,aK⟩)
   .rintro σ ap ⟨a,b,bc,bd,be,bf,rfl,aj,aJ,af,ak,aK⟩;obtain⟨bX,vs,cU,cV⟩:=aJ;refine ae _ _ ⟨_,J,a,vs,J,.inl ⟨SqL.of cU,λl J0=>k _ b _ (aj.new J0) (.tup zab (aj.2.ne J0) ((cV.mono zhU).mono (Same.new J0).x)) ⟨by omega,by omega,ak,?_⟩⟩⟩;rw[←zhS ak];exact aK
noncomputable def Sm(m:Str):Prop:=1<=m.length/\m.length<=4
inductive zdj:List V->Hp->VK->XK->Prop where
 |mk {vs:List V} {H:Hp} {Q:VK} {E:XK} (z v b:_) (c1:vs=[v]) (c2:Rep z H v (bkD b)) (c3:BkOk b) (c4:∀p (ms:List Str) H',Same H H'->H p=none->H' p=some (.lst (ms.map V.str))->ms.length<=100->(∀m∈ms,Sm m)->Q (.ref p) H'):zdj vs H Q E
inductive zf9:List V->Hp->VK->XK->Prop where
 |mk {vs:List V} {H:Hp} {Q:VK} {E:XK} (z v b:_) (n:Nat) (c1:vs=[.ref z,v,.int n]) (c2:Bag z H) (c3:Rep z H v (bkD b)) (c4:BkOk b) (c5:0<n) (c6:n<=4000) (c7:∀x H',Aft z H H'->x.length<=4*n->Q (.str x) H'):zf9 vs H Q E
theorem scLMarks:zau ["book","found","escape","doors","door"] ["book"] (zah zhX):=⟨J,J,J,by decide +kernel,J,by decide +kernel,by decide +kernel⟩
theorem zhZ{f:Addr}{fd:FuncData}(F:Fun K "_law_marks" "_law_marks" zhX f fd):FnOk P w K mg base CX0 1 f fd ["book"] zdj:=by
 refine F.ok scLMarks (λvs H Q E h=>?_) (λcdv A outer s H vs Q E aF h=>?_)
 .obtain⟨z,v,b,rfl,_⟩:=h;rfl
 .obtain⟨z,v,b,rfl,as,au,k⟩:=h;obtain⟨a,xs,rfl,aG,ac,aH,R⟩:=zbd as;obtain⟨aI,aJ,av,_⟩:=au;have J0:=scLMarks.nd;refine⟨_,zac (zaq (i:=1) J0 J (Or.inl J) (zaO zad))
   (zac (za0 PassesOwn.never J (zbm (pv 0)) (zaZ J (zam (zai (i:=2) J0 J (Or.inl J)) (zam (zai (i:=3) J0 J (Or.inl J)) zaE)))
    (zac (za0 PassesOwn.never J (zbm (pv 3)) (zai (i:=4) J0 J (Or.inl J)) (zaf (zaq (i:=1) J0 J (Or.inl J) (zaC zfO (pv 1) (zaO (zaa (zay ix_tup (pv 4) zag (λ_ _=>rfl)) (zaa (zay ix_tup (pv 4) zag (λ_ _=>rfl)) zad)))))))
    (zaf (zaY (zax zeF (pv 2) zaD (zaF _)) (zaf (za7 (zcL PySem.F.plainAttrs_list PySem.F.slot_list_append PySem.F.type_list_append zaW (pv 1) (zaa (pv 2) zad)))) zaz))))
   (zaf (zas (pv 1)))),?_⟩
  dsimp only[cxOf,Cx.nox,Cx.wish];have aK:=zaR;refine⟨Nat.zero_le _,λad ae=>?_⟩;have af:Same H (upd H ad (.lst [])):=Same.new ae;refine⟨_,J,a,J,⟨_,SqT.of (af _ _ ac)⟩,zbV (K:=K) (a:=a) (xs:=xs) (λi σ H2=>∃p ms W Y G,σ=[some (.ref a),some (.ref p),W,Y,G]/\Same H H2/\H p=none/\H2 p=some (.lst (ms.map V.str))/\ms.length<=13*i/\∀m∈ms,Sm m)
   ⟨ad,[],none,none,none,J,af,ae,by rw[zab];rfl,by simp,by simp⟩ (λi σ H2 _ ⟨_,_,_,_,_,_,s,_⟩=>SqT.of (s _ _ ac)) ?_ ?_⟩
  .rintro i y σ H2 hi ⟨p,ms,W,Y,G,rfl,O,np,B,Z,D⟩;have ag:i<b.length:=by have:=(List.getElem?_eq_some_iff.mp hi).1;omega
   have aw:y=xs.getD i .non:=by rw[List.getD_eq_getElem?_getD,hi];rfl
   have aa:=av _ (zap tg0 ag);obtain⟨c,d,ys,e,aL,aM,ax,ah,ai,ay⟩:=zaH (zaA (b:=b) (i:=i) R ag);have ai:ys.length=(b.getD i tg0).2.length:=ai;rw[aw,e];generalize aN:b.getD i tg0=tt at *;have aO:=aa.2.1;refine⟨c,_,J,SqT.of (O _ _ ax),J,_,_,J,_,_,J,J,?_⟩;refine⟨_,J,d,J,⟨_,SqT.of (O _ _ ah)⟩,zbV (K:=K) (a:=d) (xs:=ys) (λj σ U=>∃p ms G,σ=[some (.ref a),some (.ref p),some (.str tt.1),some (.ref d),G]/\Same H U/\H p=none/\U p=some (.lst (ms.map V.str))/\ms.length<=13*i+2*j/\∀m∈ms,Sm m)
    ⟨p,ms,_,J,O,np,B,by omega,D⟩ (λj σ U _ ⟨_,_,_,_,s,_⟩=>SqT.of (s _ _ ah)) ?_ ?_⟩
   .rintro j az σ U aj ⟨p,ms,G,rfl,I,np,B,Z,D⟩;have ak:j<tt.2.length:=by have:=(List.getElem?_eq_some_iff.mp aj).1;omega
    have aA:az=ys.getD j .non:=by rw[List.getD_eq_getElem?_getD,aj];rfl
    obtain⟨q,aB,aP,al⟩:=zbi (za6 (ds:=tt.2) (i:=j) ay ak);have am:=aa.2.2 _ (zap dr0 ak);rw[aA,aB];refine⟨_,J,_,J,q,_,0,_,J,J,SqT.of (I _ _ al),zal (j:=0) J,_,J,q,_,2,_,J,J,SqT.of (I _ _ al),zal (j:=2) J,by show (2:Nat)<=_;omega,λl aC=>?_⟩;have ab:=Same.new (o:=.lst [.str (tt.2.getD j dr0).1,.str (tt.2.getD j dr0).2.2]) aC;refine⟨p,l,ms.map V.str,_,J,J,ab _ _ B,zab,by rw[List.length_map];show _+2<=_;omega,λp2 ao=>?_⟩;have aD:=Same.new (o:=.lst (ms.map V.str++[.str (tt.2.getD j dr0).1,.str (tt.2.getD j dr0).2.2])) ao;refine⟨p2,ms++[(tt.2.getD j dr0).1,(tt.2.getD j dr0).2.2],_,J,(I.trans ab).trans aD,(I.trans ab).free ao,by rw[zab];simp,by rw[List.length_append];show _+2<=_;omega,λm hm=>?_⟩;rcases List.mem_append.mp hm with hm|hm
    .exact D m hm
    .have ap:=zaM am.1;have aq:=zaM am.2.2;simp only[List.mem_cons,List.not_mem_nil,or_false] at hm;rcases hm with rfl|rfl
     .exact⟨ap.2,ap.1⟩
     .exact⟨aq.2,aq.1⟩
   .rintro σ U ⟨p,ms,G,rfl,I,np,B,Z,D⟩;refine⟨_,J,J,_,J,?_⟩;have aE:tt.1.length<=1:=by have:=aa.1;unfold escD at this;simp at this;exact this.1
    refine ite2 (λg=>?_) (λg=>?_)
    .refine⟨_,J,.inl ⟨J,_,SqL.of B⟩,_,J,p,_,_,J,J,B,by rw[List.length_map];omega,?_⟩;refine⟨p,ms++[tt.1],_,_,_,J,λb' o ar=>by rw[zan (zae ar np)];exact I b' o ar,np,by rw[zab];simp,by rw[List.length_append];show _+1<=_;omega,λm hm=>?_⟩;rcases List.mem_append.mp hm with hm|hm
     .exact D m hm
     .have:m=tt.1:=by simpa using hm
      subst this;refine⟨?_,by omega⟩;rcases zd4 tt.1 aE with⟨ex,_⟩|⟨aQ,ex,_⟩
      .rw[ex] at g;simp at g
      .rw[ex];show 1<=1;exact Nat.le_refl _
    .exact⟨p,ms,_,_,_,J,I,np,B,by omega,D⟩
  .rintro σ H2 ⟨p,ms,W,Y,G,rfl,O,np,B,Z,D⟩;exact⟨_,J,k p ms H2 O np B (by omega) D⟩
theorem scText:zau ["bag","book","most","some","found","turn","one"] ["bag","book","most"] (zah lText):=⟨J,J,J,by decide +kernel,J,by decide +kernel,by decide +kernel⟩
theorem zjb(z:Str)(lo hi:Option Int):(cutS z lo hi).length<=z.length:=by
 unfold cutS;show (List.toArray _).size<=_;rw[List.size_toArray,List.length_take,List.length_drop];have:z.cps.toList.length=z.length:=by simp;rfl
 omega
theorem zkE:∀m∈[Str.ofString "x",Str.ofString " ",Str.ofString "a",Str.ofString "b",Str.ofString "\n"],1<=m.length/\m.length<=4:=by decide +kernel
theorem zkF{f ac ad:Addr}{fd ak al:FuncData}(F:Fun K "_law_text" "_law_text" lText f fd)(T:TxtB mg)(k1:W.keepIn K (.ref ac)=true)(U:Binds K ak ["bag","many"] [])(Y:mg "_law_take"=some (.ref ac))(Z:FnOk P w K mg base CX0 1 ac ak ["bag","many"] zdF)(k2:W.keepIn K (.ref ad)=true)(aB:Binds K al ["book"] [])(aC:mg "_law_marks"=some (.ref ad))(aD:FnOk P w K mg base CX0 1 ad al ["book"] zdj):FnOk P w K mg base CX0 2 f fd ["bag","book","most"] zf9:=by
 refine F.ok scText (λvs H Q E h=>?_) (λcdv A outer s H vs Q E G h=>?_)
 .obtain⟨z,v,b,n,rfl,_⟩:=h;rfl
 .obtain⟨z,v,b,n,rfl,am,R,aE,aT,aU,k⟩:=h;have D:=scText.nd;refine⟨_,zac (zaq (i:=3) D J (Or.inl J) (zaC zfO (zaj aD G J aC k2 aB .nil pass0 (zaa (pv 1) zad)) (zaO (pa_K zaD (pa_K zaD (pa_K zaD (pa_K zaD (pa_K zaD zad))))))))
   (zac (zaq (i:=4) D J (Or.inl J) zaD)
   (zac (za0 PassesOwn.never J (zbB J T.range (zaa (zaj Z G J Y k1 U .nil pass0 (zaa (pv 0) (zaa (pv 2) zad))) zad)) (zai (i:=5) D J (Or.inl J))
    (zac (zaq (i:=6) D J (Or.inl J) (zay ix_list (pv 3) (zaj Z G J Y k1 U .nil pass0 (zaa (pv 0) (zaa (zar zat (by rfl) T.len b_len (zaa (pv 3) zad)) zad))) (λ_ _=>rfl)))
    (zac (zaY (zax zgC (zaj Z G J Y k1 U .nil pass0 (zaa (pv 0) (zaa zag zad))) zag (zaF _))
     (zaf (zaq (i:=6) D J (Or.inl J) (zdc zhv (pv 6) zee (zcK (zaC zbj zag (zaj Z G J Y k1 U .nil pass0 (zaa (pv 0) (zaa (zar zaw (by rfl) T.len b_len (zaa (pv 6) zad)) zad)))))))) zaz)
    (zaf (zaq (i:=4) D J (Or.inl J) (zaC zbf (pv 4) (pv 6)))))))
   (zaf (zas (pv 4))))),?_⟩
  dsimp only[cxOf,Cx.nox,Cx.wish];have aV:=zaR;have aW:(100000:Nat)<=sizeLine:=by rw[sizeLine_eq];decide
  refine⟨_,J,z,v,b,J,R,aE,λaF ms H1 ao aX aG aY aH=>⟨by show (5:Nat)<=_;omega,λl aI=>?_⟩⟩;have ae:=Same.new (o:=.lst ([Str.ofString "x",Str.ofString " ",Str.ofString "a",Str.ofString "b",Str.ofString "\n"].map V.str)) aI;refine⟨aF,l,ms.map V.str,[Str.ofString "x",Str.ofString " ",Str.ofString "a",Str.ofString "b",Str.ofString "\n"].map V.str,J,J,ae _ _ aG,zab,by rw[List.length_map];show _+5<=_;omega,λp2 I=>?_⟩;have I:upd H1 l (.lst ([Str.ofString "x",Str.ofString " ",Str.ofString "a",Str.ofString "b",Str.ofString "\n"].map V.str)) p2=none:=I;have ap:ms.map V.str++[Str.ofString "x",Str.ofString " ",Str.ofString "a",Str.ofString "b",Str.ofString "\n"].map V.str=(ms++[Str.ofString "x",Str.ofString " ",Str.ofString "a",Str.ofString "b",Str.ofString "\n"]).map V.str:=(List.map_append ..).symm;rw[ap];have aJ:=zkE;show (tSeq _ _) _ _ (upd (upd H1 l (.lst ([Str.ofString "x",Str.ofString " ",Str.ofString "a",Str.ofString "b",Str.ofString "\n"].map V.str))) p2 (.lst ((ms++[Str.ofString "x",Str.ofString " ",Str.ofString "a",Str.ofString "b",Str.ofString "\n"]).map V.str)));clear ap;have aZ:[Str.ofString "x",Str.ofString " ",Str.ofString "a",Str.ofString "b",Str.ofString "\n"].length=5:=rfl;generalize [Str.ofString "x",Str.ofString " ",Str.ofString "a",Str.ofString "b",Str.ofString "\n"]=j at *;have a1:=Same.new (o:=.lst ((ms++j).map V.str)) I;have aK:=((am.same ao).same ae);have aa:=aK.ne I;have af:Aft z H (upd (upd H1 l (.lst (j.map V.str))) p2 (.lst ((ms++j).map V.str))):=(((Aft.refl am).same ao).same ae).new I;have aq:upd (upd H1 l (.lst (j.map V.str))) p2 (.lst ((ms++j).map V.str)) p2=some (.lst ((ms++j).map V.str)):=zab;generalize upd (upd H1 l (.lst (j.map V.str))) p2 (.lst ((ms++j).map V.str))=a2 at af aq;have aL:∀m∈ms++j,Sm m:=λm aM=>(List.mem_append.mp aM).elim (aH m) (aJ m);have a3:(ms++j).length<=105:=by rw[List.length_append];omega
  have a4:1<=(ms++j).length:=by rw[List.length_append];omega
  generalize ms++j=B at *;refine⟨_,J,_,J,z,n,J,af.2,by omega,by omega,λr a5 a6 ar=>⟨r,J,by omega,by omega,?_⟩⟩;have aN:=ar.1 _ _ aa aq;have aO:=af.trans ar;have aP:((r:Int)).toNat=r:=Int.toNat_natCast r;rw[aP];have a7:(B.map V.str).length=B.length:=List.length_map ..;refine zbW (λi σ J0=>∃x ag ah,σ=[some (.ref z),some v,some (.int n),some (.ref p2),some (.str x),ag,ah]/\Aft z H J0/\J0 p2=some (.lst (B.map V.str))/\x.length<=4*i) ⟨_,none,none,J,aO,aN,by decide +kernel⟩ ?_ ?_
  .rintro i σ J0 hi ⟨x,ag,ah,rfl,ab,ai,aQ⟩;refine⟨_,J,_,J,_,J,p2,_,J,.inl (SqL.of ai),z,(B.map V.str).length,J,ab.2,by omega,by omega,λO a8 a9 as=>?_⟩;have au:O<B.length:=by omega
   have av:=ab.trans as;have aw:=as.1 _ _ aa ai;obtain⟨aR,aS⟩:=aL B[O] (List.getElem_mem au);refine⟨p2,_,O,.str B[O],J,J,SqL.of aw,zal (by simp[au]),?_⟩;generalize B[O]=m at aR aS;refine⟨_,J,z,6,J,av.2,by decide,by decide,λba bb bc ax=>⟨J,_,J,?_⟩⟩;have aj:=av.trans ax;have ay:=ax.1 _ _ aa aw;refine ite2 (λg=>?_) (λg=>?_)
   .refine⟨_,J,_,J,_,J,m,J,by omega,z,m.length,J,aj.2,by omega,by omega,λaz bd be aA=>⟨1,az,J,J,_,J,m,J,by omega,?_⟩⟩;have bf:=zjb m none (some (1+(az:Int)));exact⟨_,J,_,J,_,_,J,J,by omega,_,_,_,J,aj.trans aA,aA.1 _ _ aa ay,by rw[zaP];omega⟩
   .exact⟨_,J,_,J,_,_,J,J,by omega,_,_,_,J,aj,ay,by rw[zaP];omega⟩
  .rintro σ J0 ⟨x,ag,ah,rfl,ab,ai,aQ⟩;exact⟨_,J,k x J0 ab (by omega)⟩
noncomputable abbrev LDr:=Int×Int×Str
noncomputable abbrev ld0:LDr:=(0,0,⟨#[]⟩)
noncomputable def LdOk(b:Bk)(ds:List LDr):Prop:=∀d∈ds,(0<=d.2.1/\d.2.1<b.length)/\Sm d.2.2
noncomputable def zak(ds:List LDr):Int:=match ds.getLast? with
 |some d=>d.2.1
 |none=>0
noncomputable def lastL(ds:List LDr):List LDr:=ds.drop (ds.length-1)
noncomputable def fitAt(x:Str)(i:Nat)(m:Str):Bool:=decide (V.str (cutS x (some (i:Int)) (some ((i:Int)+m.length)))=V.str m)
noncomputable def someL(b:Bk)(ds:List LDr):List Str:=zaJ (b.getD (zak ds).toNat tg0).2++(lastL ds).map (·.2.2)
noncomputable def fitL(b:Bk)(ds:List LDr)(x:Str)(i:Nat):List Str:=(someL b ds).filter (fitAt x i)
noncomputable abbrev Stp:=Int×Int×Str×Int×Int
noncomputable def stV(s:Stp):List V:=[.int s.1,.int s.2.1,.str s.2.2.1,.int s.2.2.2.1,.int s.2.2.2.2]
noncomputable def stD(s:Stp):D:=.tup [.int s.1,.int s.2.1,.str s.2.2.1,.int s.2.2.2.1,.int s.2.2.2.2]
noncomputable def stepL(b:Bk)(ds:List LDr)(x:Str)(i:Nat)(m:Str):Stp×List LDr:=
 if (b.getD (zak ds).toNat tg0).1≠Str.ofString ""/\(⟨#[x.cps.getD i 0]⟩:Str)=(b.getD (zak ds).toNat tg0).1 then
  (if i+1=x.length then (((i:Int),1,Str.ofString "cut",zak ds,(ds.length:Int)),ds) else (((i:Int),2,Str.ofString "escape",zak ds,(ds.length:Int)),ds))
 else if m=Str.ofString "" then (((i:Int),1,Str.ofString "sign",zak ds,(ds.length:Int)),ds)
 else if ds≠[]/\m=(ds.getD (ds.length-1) ld0).2.2 then (((i:Int),(m.length:Int),Str.ofString "close",zak ds.dropLast,(ds.length:Int)-1),ds.dropLast)
 else match (b.getD (zak ds).toNat tg0).2.filter (λd=>d.1==m) with
  |d::_=>(((i:Int),(m.length:Int),Str.ofString "open",zak ds,(ds.length:Int)),ds++[((i:Int),d.2.1,d.2.2)])
  |[]=>(((i:Int),0,Str.ofString "",0,0),ds)
theorem zfw{ds:List LDr}(h:0<ds.length):zak ds=(ds.getD (ds.length-1) ld0).2.1:=by
 have j:ds.getLast?=some (ds.getD (ds.length-1) ld0):=by
  rw[List.getLast?_eq_getElem?];have:ds.length-1<ds.length:=by omega
  simp[this]
 unfold zak;rw[j]
theorem zbg{b:Bk}{ds:List LDr}(B:LdOk b ds)(D:1<=b.length):∃j:Nat,zak ds=(j:Int)/\j<b.length:=by
 unfold zak;cases g:ds.getLast? with
 |none=>exact⟨0,J,by omega⟩
 |some d=>
  have:=(B d (List.mem_of_getLast? g)).1;exact⟨d.2.1.toNat,by show d.2.1=_;omega,by omega⟩
mutual
theorem Rep.butL{z q:Addr}{H H':Hp}{l:List V}(j:H q=some (.lst l))(s:SameX q H H'):∀ {v:V}{d:D},Rep z H v d->NoL d->Rep z H' v d
 |_,_,.non,_=>.non
 |_,_,.bl b,_=>.bl b
 |_,_,.int i,_=>.int i
 |_,_,.str x h,_=>.str x h
 |_,_,.tup h B r,.tup t=>.tup (s _ _ (zaI h j (by intro q;cases q)) h) B (Reps.butL j s r t)
theorem Reps.butL{z q:Addr}{H H':Hp}{l:List V}(j:H q=some (.lst l))(s:SameX q H H'):∀ {vs:List V}{ds:List D},Reps z H vs ds->NoLs ds->Reps z H' vs ds
 |_,_,.nil,_=>.nil
 |_,_,.cons h t,.cons h' t'=>.cons (Rep.butL j s h h') (Reps.butL j s t t')
end
theorem Reps.dropLast{z:Addr}{H:Hp}{vs:List V}{ds:List D}(r:Reps z H vs ds):Reps z H vs.dropLast ds.dropLast:=by
 rw[List.dropLast_eq_take,List.dropLast_eq_take,r.length];exact r.take _
noncomputable abbrev eS:Str:=⟨#[]⟩
noncomputable def zga(l:List Str):Str:=l.foldl (λj m=>if j.length<m.length then m else j) eS
theorem zeZ:∀(l:List Str) (j:Str),let r:=l.foldl (λj m=>if j.length<m.length then m else j) j
  (r=j∨r∈l)/\j.length<=r.length/\∀m∈l,m.length<=r.length
 |[],j=>⟨.inl J,Nat.le_refl _,λm hm=>nomatch hm⟩
 |a::l,j=>by
  have D:=zeZ l (if j.length<a.length then a else j);obtain⟨h1,h2,B⟩:=D;simp only[List.foldl_cons];by_cases h:j.length<a.length
  .rw[if_pos h] at h1 h2 B ⊢;refine⟨?_,by omega,λm hm=>?_⟩
   .rcases h1 with h1|h1
    .exact .inr (by rw[h1];exact List.mem_cons_self)
    .exact .inr (List.mem_cons_of_mem _ h1)
   .rcases List.mem_cons.mp hm with rfl|hm
    .exact h2
    .exact B m hm
  .rw[if_neg h] at h1 h2 B ⊢;refine⟨?_,h2,λm hm=>?_⟩
   .rcases h1 with h1|h1
    .exact .inl h1
    .exact .inr (List.mem_cons_of_mem _ h1)
   .rcases List.mem_cons.mp hm with rfl|hm
    .omega
    .exact B m hm
theorem zcd{l:List Str}(B:∀m∈l,Sm m):(l=[]/\zga l=eS)∨(zga l∈l/\∀m∈l,m.length<=(zga l).length):=by
 obtain⟨h1,h2,j⟩:=zeZ l eS;cases l with
 |nil=>exact .inl ⟨J,J⟩
 |cons a r=>
  refine .inr ⟨?_,j⟩;rcases h1 with h1|h1
  .exfalso;have:=j a List.mem_cons_self;have g:=(B a List.mem_cons_self).1;rw[h1] at this;have:a.length<=0:=this;omega
  .exact h1
theorem zh0{x:Str}{i:Nat}{m j:Str}(h:fitAt x i m=true)(h':fitAt x i j=true)(B:m.length=j.length):m=j:=by
 have a:=of_decide_eq_true h;have c:=of_decide_eq_true h';rw[B] at a;have:V.str m=V.str j:=a.symm.trans c;injection this
noncomputable def bestL(b:Bk)(ds:List LDr)(x:Str)(i:Nat):Str:=zga (fitL b ds x i)
structure RunSt where
 at_:Nat
 ds:List LDr
 ss:List Stp
noncomputable def zaS(b:Bk)(x:Str)(r:RunSt):RunSt:=
 if r.at_<x.length then ⟨r.at_+((stepL b r.ds x r.at_ (bestL b r.ds x r.at_)).1.2.1).toNat,(stepL b r.ds x r.at_ (bestL b r.ds x r.at_)).2,r.ss++[(stepL b r.ds x r.at_ (bestL b r.ds x r.at_)).1]⟩ else r
noncomputable def runF(b:Bk)(x:Str):Nat->RunSt
 |0=>⟨0,[],[]⟩
 |n+1=>zaS b x (runF b x n)
noncomputable def LdBk(b:Bk)(ds:List LDr):Prop:=∀d∈ds,∃t∈b,∃j∈t.2,d.2.1=j.2.1/\d.2.2=j.2.2
theorem LdBk.ok{b:Bk}{ds:List LDr}(h:LdBk b ds)(j:∀t∈b,TgOk b.length t):LdOk b ds:=λd B=>by
 obtain⟨t,D,F,G,I,J0⟩:=h d B;obtain⟨V,O,U⟩:=(j t D).2.2 F G;have g:=zaM U;rw[I,J0];exact⟨O,g.2,g.1⟩
theorem zcU{b:Bk}{ds:List LDr}{x:Str}{i:Nat}(D:∀t∈b,TgOk b.length t)(F:LdOk b ds):∀m∈someL b ds,Sm m:=λm hm=>by
 unfold someL at hm;rcases List.mem_append.mp hm with hm|hm
 .obtain⟨dd,j,rfl⟩:=List.mem_map.mp hm;by_cases B:(zak ds).toNat<b.length
  .have g:=zaM ((D _ (zap tg0 B)).2.2 dd j).1;exact⟨g.2,g.1⟩
  .have e:b.getD (zak ds).toNat tg0=tg0:=by simp[B]
   rw[e] at j;cases j
 .obtain⟨dd,j,rfl⟩:=List.mem_map.mp hm;exact(F dd (List.mem_of_mem_drop j)).2
theorem zd5{ds:List LDr}{m:Str}(h:m∈(lastL ds).map (·.2.2)):ds≠[]/\m=(ds.getD (ds.length-1) ld0).2.2:=by
 obtain⟨dd,j,B⟩:=List.mem_map.mp h;unfold lastL at j;have hpos:0<ds.length:=by
  cases ds with
  |nil=>simp at j
  |cons _ _=>simp
 have:ds.drop (ds.length-1)=[ds.getD (ds.length-1) ld0]:=by
  have D:ds.length-1<ds.length:=by omega
  rw[List.drop_eq_getElem_cons D];have:ds.length-1+1=ds.length:=by omega
  rw[this,List.drop_length];simp[D]
 rw[this] at j;have:dd=ds.getD (ds.length-1) ld0:=by simpa using j
 rw[this] at B;exact⟨List.length_pos_iff.mp hpos,B.symm⟩
theorem zfx{x m:Str}{i:Nat}(h:fitAt x i m=true)(hi:i<=x.length):i+m.length<=x.length:=by
 have a:=of_decide_eq_true h;have a:cutS x (some (i:Int)) (some ((i:Int)+m.length))=m:=by injection a
 have j:(cutS x (some (i:Int)) (some ((i:Int)+m.length))).length=m.length:=by rw[a]
 have e:((i:Int)+(m.length:Int))=((i+m.length:Nat):Int):=by omega
 rw[e] at j;unfold cutS at j;have j:(List.toArray ((x.cps.toList.drop (HT.sIx x.length 0 (some (i:Int)))).take (HT.sIx x.length x.length (some ((i+m.length:Nat):Int))-HT.sIx x.length 0 (some (i:Int))))).size=m.length:=j;rw[List.size_toArray,List.length_take,List.length_drop,HT.sIx_nat,HT.sIx_nat] at j;have:x.cps.toList.length=x.length:=by simp;rfl
 omega
theorem zbO{b:Bk}{ds:List LDr}{x:Str}{i:Nat}(I:∀t∈b,TgOk b.length t)(j:LdBk b ds)(W:1<=b.length)(hi:i<x.length) :
  let r:=stepL b ds x i (bestL b ds x i)
  1<=r.1.2.1/\r.1.2.1<=4/\(i:Int)+r.1.2.1<=x.length/\LdBk b r.2/\r.2.length<=ds.length+1/\r.1.2.2.1.length<=10:=by
 have J0:=j.ok I;obtain⟨D,Y,Z⟩:=zbg J0 W;have O:(zak ds).toNat=D:=by rw[Y];rfl
 have U:=zcU (x:=x) (i:=i) I J0;have aa:=zcd (l:=fitL b ds x i) λm F=>U m (List.mem_filter.mp F).1;have ab:∀m,m≠Str.ofString ""->m=bestL b ds x i->m∈someL b ds/\fitAt x i m=true:=λm ac e=>by
  rcases aa with⟨_,h2⟩|⟨h1,_⟩
  .exfalso;apply ac;rw[e];unfold bestL;rw[h2,zb1]
  .rw[e];exact List.mem_filter.mp h1
 intro r;show 1<=r.1.2.1/\_;have V:r=stepL b ds x i (bestL b ds x i):=rfl;generalize F:bestL b ds x i=m at V;rw[V];unfold stepL;rw[O];have ad:=zap tg0 Z;split
 .split
  .exact⟨by show (1:Int)<=1;decide,by show (1:Int)<=4;decide,by show (i:Int)+1<=_;omega,j,by show ds.length<=_;omega,by show (Str.ofString "cut").length<=10;decide +kernel⟩
  .exact⟨by show (1:Int)<=2;decide,by show (2:Int)<=4;decide,by show (i:Int)+2<=_;omega,j,by show ds.length<=_;omega,by show (Str.ofString "escape").length<=10;decide +kernel⟩
 .split
  .exact⟨by show (1:Int)<=1;decide,by show (1:Int)<=4;decide,by show (i:Int)+1<=_;omega,j,by show ds.length<=_;omega,by show (Str.ofString "sign").length<=10;decide +kernel⟩
  .rename_i ae;obtain⟨B,af⟩:=ab m ae F.symm;obtain⟨aj,ak⟩:=U m B;have al:=zfx af (by omega);split
   .refine⟨by show (1:Int)<=m.length;omega,by show (m.length:Int)<=4;omega,by show (i:Int)+m.length<=_;omega,λd hdd=>j d (List.dropLast_subset _ hdd),by show ds.dropLast.length<=_;simp;omega,by show (Str.ofString "close").length<=10;decide +kernel⟩
   .rename_i ag;split
    .rename_i d am G;have ah:d∈(b.getD D tg0).2:=(List.mem_filter.mp (by rw[G];exact List.mem_cons_self)).1;refine⟨by show (1:Int)<=m.length;omega,by show (m.length:Int)<=4;omega,by show (i:Int)+m.length<=_;omega,λd' hdd=>?_,by show (ds++[_]).length<=_;simp,by show (Str.ofString "open").length<=10;decide +kernel⟩;rcases List.mem_append.mp hdd with hdd|hdd
     .exact j d' hdd
     .have:d'=((i:Int),d.2.1,d.2.2):=by simpa using hdd
      subst this;exact⟨_,ad,d,ah,J,J⟩
    .rename_i G;exfalso;unfold someL at B;rw[O] at B;rcases List.mem_append.mp B with h|h
     .obtain⟨dd,hdd,ai⟩:=List.mem_map.mp h;have:dd∈(b.getD D tg0).2.filter (λd=>d.1==m):=List.mem_filter.mpr ⟨hdd,by simpa using ai⟩;rw[G] at this;cases this
     .exact ag (zd5 h)
theorem zcs:∀j:List Stp,NoLs (j.map stD)
 |[]=>.nil
 |d::r=>.cons (.tup (.cons (.int _) (.cons (.int _) (.cons (.str _) (.cons (.int _) (.cons (.int _) .nil)))))) (zcs r)
structure RunOk(b:Bk)(x:Str)(r:RunSt):Prop where
 le:r.at_<=x.length
 bk:LdBk b r.ds
 dl:r.ds.length<=r.at_
 sl:r.ss.length<=r.at_
theorem zc4{b:Bk}{x:Str}(B:∀t∈b,TgOk b.length t)(D:1<=b.length):∀n,RunOk b x (runF b x n)
 |0=>⟨Nat.zero_le _,(λd F=>nomatch F),Nat.zero_le _,Nat.zero_le _⟩
 |n+1=>by
  have j:=zc4 B D (x:=x) n;show RunOk b x (zaS b x (runF b x n));unfold zaS;split
  .rename_i h;obtain⟨h1,h2,I,G,J0,O⟩:=zbO (x:=x) B j.bk D h;have U:=j.dl;have V:=j.sl;refine⟨?_,G,?_,?_⟩
   .show (runF b x n).at_+_<=_;omega
   .show (stepL b (runF b x n).ds x (runF b x n).at_ (bestL b (runF b x n).ds x (runF b x n).at_)).2.length<=(runF b x n).at_+_;omega
   .show ((runF b x n).ss++[_]).length<=(runF b x n).at_+_;rw[List.length_append];show _+1<=_;omega
  .exact j
theorem ze0{b:Bk}{x:Str}{n:Nat}(h:(runF b x n).at_<x.length):runF b x (n+1)=⟨(runF b x n).at_+((stepL b (runF b x n).ds x (runF b x n).at_ (bestL b (runF b x n).ds x (runF b x n).at_)).1.2.1).toNat,(stepL b (runF b x n).ds x (runF b x n).at_ (bestL b (runF b x n).ds x (runF b x n).at_)).2,(runF b x n).ss++[(stepL b (runF b x n).ds x (runF b x n).at_ (bestL b (runF b x n).ds x (runF b x n).at_)).1]⟩:=by
 show zaS b x (runF b x n)=_;unfold zaS;rw[if_pos h]
theorem ze1{b:Bk}{x:Str}{n:Nat}(h:(runF b x n).at_<x.length):(runF b x (n+1)).ds=(stepL b (runF b x n).ds x (runF b x n).at_ (bestL b (runF b x n).ds x (runF b x n).at_)).2:=by rw[ze0 h]
theorem zh1{b:Bk}{x:Str}{n:Nat}(h:(runF b x n).at_<x.length):(runF b x (n+1)).ss=(runF b x n).ss++[(stepL b (runF b x n).ds x (runF b x n).at_ (bestL b (runF b x n).ds x (runF b x n).at_)).1]:=by rw[ze0 h]
noncomputable def pdD(d:LDr):D:=.tup [.int d.2.1,.str d.2.2]
theorem zct:∀ds:List LDr,NoLs (ds.map pdD)
 |[]=>.nil
 |d::r=>.cons (.tup (.cons (.int _) (.cons (.str _) .nil))) (zct r)
noncomputable def PDs(z:Addr)(H:Hp)(q:Addr)(ds:List LDr):Prop:=∃vs,H q=some (.lst vs)/\Reps z H vs (ds.map pdD)
theorem PDs.same{z:Addr}{H H':Hp}{q:Addr}{ds:List LDr}(h:PDs z H q ds)(s:Same H H'):PDs z H' q ds:=let ⟨vs,a,r⟩:=h;⟨vs,s _ _ a,r.mono s.x⟩
theorem zjP{z:Addr}{H:Hp}{v:V}{d:LDr}(r:Rep z H v (pdD d)):∃a,v=.ref a/\a≠z/\H a=some (.tup [.int d.2.1,.str d.2.2]):=by
 cases r with
 |tup h j r=>
  cases r with
  |cons B r=>
   cases r with
   |cons D r=>
    cases r;cases B;cases D;exact⟨_,J,j,h⟩
theorem zh2{z:Addr}{H:Hp}{xs:List V}{ds:List LDr}{i:Nat}(r:Reps z H xs (ds.map pdD))(hi:i<ds.length):Rep z H (xs.getD i .non) (pdD (ds.getD i ld0)):=by
 have:=r.get (i:=i) (by simpa using hi);simpa [hi] using this
theorem zh3{z:Addr}{H:Hp}{ds:List LDr}{vs:List V}(j:Reps z H vs (ds.map pdD))(hpos:0<ds.length):∃ad,atI vs (-1)=some (.ref ad)/\H ad=some (.tup [.int (ds.getD (ds.length-1) ld0).2.1,.str (ds.getD (ds.length-1) ld0).2.2]):=by
 have B:vs.length=ds.length:=by have:=j.length;simpa using this
 obtain⟨ad,D,I,F⟩:=zjP (zh2 (ds:=ds) (i:=ds.length-1) j (by omega));refine⟨ad,?_,F⟩;have G:ixN vs.length (-1)=some (vs.length-1):=by
  unfold ixN;rw[if_neg (by decide),if_pos (by omega)];congr 1;omega
 unfold atI;rw[G];show vs[vs.length-1]?=_;have h1:vs.length-1<vs.length:=by omega
 have h2:vs.getD (vs.length-1) .non=vs[vs.length-1]:=by simp[h1]
 rw[List.getElem?_eq_getElem h1,←h2,B,D]
inductive zce:List V->Hp->VK->XK->Prop where
 |mk {vs:List V} {H:Hp} {Q:VK} {E:XK} (z q ds:_) (c1:vs=[.ref q]) (c2:PDs z H q ds) (c3:Q (.int (zak ds)) H):zce vs H Q E
theorem scWithin:zau ["doors","inner","close"] ["doors"] (zah zft):=⟨J,J,J,by decide +kernel,J,by decide +kernel,by decide +kernel⟩
theorem zh4{f:Addr}{fd:FuncData}(F:Fun K "tongue_within" "tongue_within" zft f fd):FnOk P w K mg base CX0 1 f fd ["doors"] zce:=by
 refine F.ok scWithin (λvs H Q E h=>?_) (λcdv A outer s H vs Q E U h=>?_)
 .obtain⟨z,q,ds,rfl,_⟩:=h;rfl
 .obtain⟨z,q,ds,rfl,⟨vs,B,D⟩,k⟩:=h;have G:=scWithin.nd;have I:vs.length=ds.length:=by have:=D.length;simpa using this
  refine⟨_,zac (zaY (zc0 (zb8 (pv 0) (λ_=>rfl))) (zaf (zas zag)) zaz)
   (zac (zba (zay ix_list (pv 0) (ziC zfJ zag) (λ_ _=>rfl)) (zaZ J (zam (zai (i:=1) G J (Or.inl J)) (zam (zai (i:=2) G J (Or.inl J)) zaE))))
   (zaf (zas (pv 1)))),?_⟩
  dsimp only[cxOf,Cx.nox,Cx.wish];refine⟨_,J,_,.inl ⟨vs,SqL.of B,J⟩,?_⟩;by_cases hpos:0<ds.length
  .have j:(!vs.isEmpty)=true:=by
    cases vs with
    |nil=>simp at I;omega
    |cons _ _=>rfl
   rw[j];obtain⟨ad,J0,O⟩:=zh3 D hpos;refine iteF ?_;refine⟨_,J,1,J,q,vs,-1,_,J,J,SqL.of B,J0,ad,_,J,SqT.of O,J,_,_,J,_,_,J,J,_,J,?_⟩;rw[zfw hpos] at k;exact k
  .have j:(!vs.isEmpty)=false:=by
    cases vs with
    |nil=>rfl
    |cons _ _=>simp at I;omega
   rw[j];refine iteT ?_;have:ds=[]:=List.eq_nil_of_length_eq_zero (by omega);subst this;exact k
noncomputable abbrev Mk:=Str×Option Dr
noncomputable def mkOD:Option Dr->D
 |none=>.non
 |some d=>drD d
noncomputable def mkD(m:Mk):D:=.tup [.str m.1,mkOD m.2]
noncomputable def possL(b:Bk)(ds:List LDr):List Mk:=(lastL ds).map (λd=>(d.2.2,none))++(b.getD (zak ds).toNat tg0).2.map λd=>(d.1,some d)
theorem zgb(d:Dr):NoL (drD d):=.tup (.cons (.str _) (.cons (.int _) (.cons (.str _) .nil)))
theorem zh5(m:Mk):NoL (mkD m):=by
 obtain⟨x,o⟩:=m;cases o with
 |none=>exact .tup (.cons (.str _) (.cons .non .nil))
 |some d=>exact .tup (.cons (.str _) (.cons (zgb d) .nil))
theorem zeq:∀ms:List Mk,NoLs (ms.map mkD)
 |[]=>.nil
 |d::r=>.cons (zh5 d) (zeq r)
inductive ze2:List V->Hp->VK->XK->Prop where
 |mk {vs:List V} {H:Hp} {Q:VK} {E:XK} (z v b q ds:_) (c1:vs=[v,.ref q]) (c2:Bag z H) (c3:Rep z H v (bkD b)) (c4:BkOk b) (c5:PDs z H q ds) (c6:LdOk b ds) (c7:∀p ws H',Same H H'->H p=none->H' p=some (.lst ws)->Reps z H' ws ((possL b ds).map mkD)->Q (.ref p) H'):ze2 vs H Q E
theorem ze3{ds:List LDr}(h:0<ds.length):lastL ds=[ds.getD (ds.length-1) ld0]:=by
 have j:ds.length-1<ds.length:=by omega
 unfold lastL;rw[List.drop_eq_getElem_cons j];have:ds.length-1+1=ds.length:=by omega
 rw[this,List.drop_length];simp[j]
theorem za2{j:Type}{xs:List j}{i:Nat}(d:j)(h:i<xs.length):xs.getD i d=xs[i]:=by simp[h]
theorem scPoss:zau ["book","doors","marks","inner","close","escape","ways","door"] ["book","doors"] (zah sPoss):=⟨J,J,J,by decide +kernel,J,by decide +kernel,by decide +kernel⟩
theorem zkG{f ap:Addr}{fd aC:FuncData}(F:Fun K "possible_marks" "possible_marks" sPoss f fd)(k1:W.keepIn K (.ref ap)=true)(aS:Binds K aC ["doors"] [])(aT:mg "tongue_within"=some (.ref ap))(aU:FnOk P w K mg base CX0 1 ap aC ["doors"] zce):FnOk P w K mg base CX0 2 f fd ["book","doors"] ze2:=by
 refine F.ok scPoss (λvs H Q E h=>?_) (λcdv A outer s H vs Q E aV h=>?_)
 .obtain⟨z,v,b,q,ds,rfl,_⟩:=h;rfl
 .obtain⟨z,v,b,q,ds,rfl,aq,aW,aX,⟨vs,aj,ar⟩,aD,k⟩:=h;obtain⟨a,xs,rfl,bf,aY,bg,R⟩:=zbd aW;obtain⟨aZ,bh,a1,_⟩:=aX;have Y:=scPoss.nd;have bi:=zaR;have aE:vs.length=ds.length:=by have:=ar.length;simpa using this
  refine⟨_,zac (zaq (i:=2) Y J (Or.inl J) (zaO zad))
   (zac (zaY (zb8 (pv 1) (λ_=>rfl)) (zac (zba (zay ix_list (pv 1) (ziC zfJ zag) (λ_ _=>rfl)) (zaZ J (zam (zai (i:=3) Y J (Or.inl J)) (zam (zai (i:=4) Y J (Or.inl J)) zaE))))
    (zaf (za7 (zcL PySem.F.plainAttrs_list PySem.F.slot_list_append PySem.F.type_list_append zaW (pv 2) (zaa (zaG (zaa (pv 4) (zaa zeD zad))) zad))))) zaz)
   (zac (zba (zay ix_tup (pv 0) (zaj aU aV J aT k1 aS .nil pass0 (zaa (pv 1) zad)) (λ_ _=>rfl)) (zaZ J (zam (zai (i:=5) Y J (Or.inl J)) (zam (zai (i:=6) Y J (Or.inl J)) zaE))))
   (zac (za0 PassesOwn.never J (zbm (pv 6)) (zai (i:=7) Y J (Or.inl J))
    (zaf (za7 (zcL PySem.F.plainAttrs_list PySem.F.slot_list_append PySem.F.type_list_append zaW (pv 2) (zaa (zaG (zaa (zay ix_tup (pv 7) zag (λ_ _=>rfl)) (zaa (pv 7) zad))) zad)))))
   (zaf (zas (pv 2)))))),?_⟩
  dsimp only[cxOf,Cx.nox,Cx.wish];refine⟨Nat.zero_le _,λpm Z=>?_⟩;have aa:=Same.new (o:=.lst []) Z;have bj:q≠pm:=zae aj Z;have bk:pm≠z:=aq.ne Z;dsimp only;refine zek (J0:=λσ' H2=>∃(ab ac:Option V),σ'=[some (.ref a),some (.ref q),some (.ref pm),ab,ac,none,none,none]/\Same H H2/\∃B,H2 pm=some (.lst B)/\Reps z H2 B (((lastL ds).map λd=>((d.2.2,none):Mk)).map mkD)) (λU J0=>?g1) ?g2
  case g1=>
   refine⟨_,J,_,.inl ⟨vs,SqL.of (aa _ _ aj),J⟩,?_⟩;refine ite2 (λas=>?_) (λas=>?_)
   case refine_1=>
    have hpos:0<ds.length:=by
     cases vs with
     |nil=>simp at as
     |cons _ _=>simp at aE;omega
    obtain⟨ad,a2,a3⟩:=zh3 (ar.mono aa.x) hpos;refine⟨_,J,1,J,q,vs,-1,_,J,J,SqL.of (aa _ _ aj),a2,ad,_,J,SqT.of a3,J,_,_,J,_,_,J,J,_,J,.inl ⟨J,_,SqL.of zab⟩,_,J,by show (2:Nat)<=_;omega,λD ae=>?_⟩;have aF:=Same.new (o:=.tup [.str (ds.getD (ds.length-1) ld0).2.2,.non]) ae;have af:upd (upd H pm (.lst [])) D (.tup [.str (ds.getD (ds.length-1) ld0).2.2,.non]) D=some (.tup [.str (ds.getD (ds.length-1) ld0).2.2,.non]):=zab;have au:D≠z:=(aq.same aa).ne ae;have av:=aF pm _ zab;have aG:=aa.trans aF;generalize upd (upd H pm (.lst [])) D (.tup [.str (ds.getD (ds.length-1) ld0).2.2,.non])=H1 at af av aG;refine⟨pm,[],_,J,J,av,by show (0:Nat)<_;omega,?_⟩;have I:Same H (upd H1 pm (.lst ([]++[.ref D]))):=λb' o e=>by rw[zan (zae e Z)];exact aG b' o e
    have aw:∃B,upd H1 pm (.lst ([]++[.ref D])) pm=some (.lst B)/\Reps z (upd H1 pm (.lst ([]++[.ref D]))) B (((lastL ds).map λd=>((d.2.2,none):Mk)).map mkD):=by
     refine⟨_,zab,Reps.updL av ?_ (zeq _)⟩;rw[ze3 hpos];have a4:=(aD _ (zap ld0 (i:=ds.length-1) (by omega))).2;exact .cons (.tup af au (.cons (.str _ (by have:=a4.2;omega)) (.cons .non .nil))) .nil
    exact J0 _ _ ⟨_,_,J,I,aw⟩
   case refine_2=>
    have a5:ds.length=0:=by
     cases vs with
     |nil=>simp at aE;omega
     |cons _ _=>simp at as
    have I:=aa;have aw:∃B,upd H pm (.lst []) pm=some (.lst B)/\Reps z (upd H pm (.lst [])) B (((lastL ds).map λd=>((d.2.2,none):Mk)).map mkD):=by
     refine⟨[],zab,?_⟩;have:ds=[]:=List.eq_nil_of_length_eq_zero a5;rw[this];exact .nil
    exact J0 _ _ ⟨_,_,J,I,aw⟩
  case g2=>
   rintro σ' H2 ⟨ab,ac,rfl,I,B,hw,a6⟩;obtain⟨O,aH,aI⟩:=zbg aD aZ;obtain⟨c,d,ys,a7,bl,bm,a8,ax,ay,a9⟩:=zaH ((zaA (b:=b) (i:=O) R aI).mono I.x);have ba:xs[O]?=some (.ref c):=by
    have h1:O<xs.length:=by omega
    have h2:xs.getD O .non=xs[O]:=by simp[h1]
    rw[List.getElem?_eq_getElem h1,←h2,a7]
   have aJ:b.getD (zak ds).toNat tg0=b.getD O tg0:=by rw[aH];rfl
   have aK:=a1 _ (zap tg0 aI);have ay:ys.length=(b.getD O tg0).2.length:=ay;have aL:possL b ds=(lastL ds).map (λd=>((d.2.2,none):Mk))++(b.getD O tg0).2.map λd=>(d.1,some d):=by unfold possL;rw[aJ]
   rw[aL] at k;clear aL aJ;generalize bn:b.getD O tg0=tt at *;have bo:=aK.2.1;have bp:(lastL ds).length<=1:=by unfold lastL;rw[List.length_drop];omega
   refine⟨_,J,_,J,z,q,ds,J,⟨vs,I _ _ aj,ar.mono I.x⟩,a,xs,zak ds,_,J,J,SqT.of (I _ _ aY),by rw[aH];exact zal ba,c,_,J,SqT.of a8,J,_,_,J,_,_,J,J,?_⟩;refine⟨_,J,d,J,⟨_,SqT.of ax⟩,zbV (K:=K) (a:=d) (xs:=ys) (λi σ G=>∃ab ac u,σ=[some (.ref a),some (.ref q),some (.ref pm),ab,ac,some (.str tt.1),some (.ref d),u]/\Same H G/\SameX pm H2 G/\∃B,G pm=some (.lst B)/\Reps z G B (((lastL ds).map (λd=>((d.2.2,none):Mk))++(tt.2.take i).map λd=>(d.1,some d)).map mkD))
    ⟨_,_,none,J,I,.refl,B,hw,by simpa using a6⟩ (λj σ G _ ⟨_,_,_,_,_,s,_⟩=>SqT.of (s _ _ (zaI ax hw (by intro q;cases q)) ax)) ?_ ?_⟩
   .rintro j y σ G aM ⟨ab,ac,u,rfl,ak,az,al,am,ag⟩;have ao:j<tt.2.length:=by have:=(List.getElem?_eq_some_iff.mp aM).1;omega
    have bb:y=ys.getD j .non:=by rw[List.getD_eq_getElem?_getD,aM];rfl
    have aA:Rep z G (ys.getD j .non) (drD (tt.2.getD j dr0)):=Rep.butL hw az (za6 (ds:=tt.2) (i:=j) a9 ao) (zgb _);obtain⟨ah,aN,bq,bc⟩:=zbi aA;have bd:=aK.2.2 _ (zap dr0 ao);rw[aN] at aA;rw[bb,aN];have br:al.length<=10:=by
     have:=ag.length;simp at this;omega
    refine⟨_,J,.inl ⟨J,_,SqL.of am⟩,_,J,ah,_,0,_,J,J,SqT.of bc,zal (j:=0) J,_,J,by show (2:Nat)<=_;omega,λD ae=>?_⟩;have ai:=Same.new (o:=.tup [.str (tt.2.getD j dr0).1,.ref ah]) ae;have af:upd G D (.tup [.str (tt.2.getD j dr0).1,.ref ah]) D=some (.tup [.str (tt.2.getD j dr0).1,.ref ah]):=zab;have au:D≠z:=(aq.same ak).ne ae;have aB:=ai _ _ am;have aO:=ag.mono ai.x (z:=z);have aP:=aA.mono ai.x (z:=z);have aQ:=ak.trans ai;have aR:=az.trans ai.x;generalize upd G D (.tup [.str (tt.2.getD j dr0).1,.ref ah])=bs at af aB aO aP aQ aR;refine⟨pm,al,_,J,J,aB,by omega,?_⟩;have g1:=zaM bd.1;refine⟨_,_,_,J,λb' o e=>by rw[zan (zae e Z)];exact aQ b' o e,aR.upd,_,zab,?_⟩;refine Reps.updL aB ?_ (zeq _);have be:(tt.2.take (j+1)).map (λd=>((d.1,some d):Mk))=(tt.2.take j).map (λd=>((d.1,some d):Mk))++[((tt.2.getD j dr0).1,some (tt.2.getD j dr0))]:=by
     rw[List.take_add_one,List.getElem?_eq_getElem ao,za2 dr0 ao,List.map_append];rfl
    rw[be,←List.append_assoc,List.map_append];exact aO.append (.cons (.tup af au (.cons (.str _ (by omega)) (.cons aP .nil))) .nil)
   .rintro σ G ⟨ab,ac,u,rfl,ak,az,al,am,ag⟩;rw[ay,List.take_length] at ag;exact⟨_,J,k pm al G ak Z am ag⟩
theorem za9{z:Addr}{J0:It}{g:TG}{tt:TT}{te:TE}{Qe:St->Hp->Prop}{ab:St}{F:Hp}{p:Addr}{n:Nat}{item:Nat->V}(keep:Nat->Bool)(G:Nat->D)(I:St->Prop)(aj:I ab)(ac:F p=none)(ar:n<=100000)(ok:ItOk J0 n item (upd F p (.lst [])) p)(ak:∀i,NoL (G i))(turn:∀i σ H (ad:V->St->Hp->Prop) (ae:St->Hp->Prop),i<n->I σ->Same F H->(keep i=true->∀B v j,I B->Same H j->Rep z j v (G i)->ad v B j)->(keep i=false->∀B j,I B->Same H j->ae B j) ->
   g (item i) σ H λB H2=>tt B H2 λb af=>if b=true then te B af λv j=>ad v B j else ae B af)(al:∀σ H vs,Same F H->H p=some (.lst vs)->Reps z H vs (((List.range n).filter keep).map G)->Qe σ H):tLoop J0 g tt (tApp p te) Qe ab (upd F p (.lst [])):=by
 have am:Same F (upd F p (.lst [])):=Same.new ac;have ag:∀ {H},SameX p (upd F p (.lst [])) H->Same F H:=λ{H} h b o e=>h b o (zae e ac) (am b o e);have ao:∀l:List Nat,NoLs (l.map G):=λl=>by
  induction l with
  |nil=>exact .nil
  |cons a r ap=>exact .cons (ak a) ap
 refine⟨λi m σ H=>m=n-i/\i<=n/\I σ/\SameX p (upd F p (.lst [])) H/\∃vs,H p=some (.lst vs)/\vs.length<=i/\Reps z H vs (((List.range i).filter keep).map G),⟨n,J,Nat.zero_le _,aj,.refl,[],zab,Nat.le_refl _,.nil⟩,?_⟩;rintro i m σ H ⟨rfl,hi,aq,O,vs,Y,as,R⟩;by_cases W:i<n
 .refine .inr ⟨ok.go i H W O,λσ' H'=>I σ'/\SameX p (upd F p (.lst [])) H'/\∃vs,H' p=some (.lst vs)/\vs.length<=i+1/\Reps z H' vs (((List.range (i+1)).filter keep).map G),λσ' H' ⟨a,b,c⟩=>⟨n-(i+1),by omega,J,W,a,b,c⟩,λx H' y=>?_⟩;obtain⟨rfl,rfl⟩:=ok.yld i H x H' W O y;have ah:((List.range (i+1)).filter keep).map G=((List.range i).filter keep).map G++(if keep i then [G i] else []):=by
   rw[List.range_succ,List.filter_append,List.map_append];cases g:keep i<;>simp[g]
  refine turn i σ H' (λv B j=>∃ys,j p=some (.lst ys)/\ys.length<sizeLine/\(I B/\SameX p (upd F p (.lst [])) (upd j p (.lst (ys++[v])))/\∃vs,upd j p (.lst (ys++[v])) p=some (.lst vs)/\vs.length<=i+1/\Reps z (upd j p (.lst (ys++[v]))) vs (((List.range (i+1)).filter keep).map G))) _ W aq (ag O) (λZ B v j aa U R2=>?_) λZ B j aa U=>?_
  .have ai:=U _ _ Y;have au:(100000:Nat)<sizeLine:=by rw[sizeLine_eq];decide
   refine⟨vs,ai,by omega,aa,(O.trans U.x).upd,vs++[v],zab,by simp;omega,?_⟩;refine Reps.updL ai ?_ (ao _);rw[ah,Z];exact(R.mono U.x).append (.cons R2 .nil)
  .refine⟨aa,O.trans U.x,vs,U _ _ Y,by omega,?_⟩;rw[ah,Z];simpa using R.mono U.x
 .have e:i=n:=by omega
  subst e;exact .inl ⟨ok.stop H O,al σ H vs (ag O) Y R⟩
theorem zc5{j B:Type}(xs:List j)(d:j)(p:j->Bool)(f:j->B):((List.range xs.length).filter λi=>p (xs.getD i d)).map (λi=>f (xs.getD i d))=(xs.filter p).map f:=by
 have e:(List.range xs.length).map (λi=>xs.getD i d)=xs:=by
  refine List.ext_getElem (by simp) λi h1 h2=>?_;simp at h1;simp[h1]
 have:(xs.filter p).map f=(((List.range xs.length).map (λi=>xs.getD i d)).filter p).map f:=by rw[e]
 rw[this,List.filter_map,List.map_map];rfl
noncomputable def fitsP(b:Bk)(ds:List LDr)(x:Str)(i:Nat):List Mk:=(possL b ds).filter λm=>stAt x m.1 i
noncomputable abbrev mk0:Mk:=(⟨#[]⟩,none)
theorem zc6{z:Addr}{H:Hp}{v:V}{m:Mk}(r:Rep z H v (mkD m)):∃a u,v=.ref a/\a≠z/\H a=some (.tup [.str m.1,u])/\m.1.length<=1000/\Rep z H u (mkOD m.2):=by
 cases r with
 |tup h j r=>
  cases r with
  |cons B r=>
   cases r with
   |cons D r=>
    cases r;cases B with
    |str _ h1=>exact⟨_,_,J,j,h,h1,D⟩
theorem zb3{z:Addr}{H:Hp}{xs:List V}{ms:List Mk}{i:Nat}(r:Reps z H xs (ms.map mkD))(hi:i<ms.length):Rep z H (xs.getD i .non) (mkD (ms.getD i mk0)):=by
 have:=r.get (i:=i) (by simpa using hi);simpa [hi] using this
inductive zdH:List V->Hp->VK->XK->Prop where
 |mk {vs:List V} {H:Hp} {Q:VK} {E:XK} (z v b q ds x:_) (i:Nat) (c1:vs=[v,.str x,.int i,.ref q]) (c2:Bag z H) (c3:Rep z H v (bkD b)) (c4:BkOk b) (c5:PDs z H q ds) (c6:LdOk b ds) (c7:∀p ws H',Same H H'->H p=none->H' p=some (.lst ws)->Reps z H' ws ((fitsP b ds x i).map mkD)->Q (.ref p) H'):zdH vs H Q E
theorem zlN:zau ["book","text","place","doors"] ["book","text","place","doors"] (zah zdg):=⟨J,J,J,by decide +kernel,J,by decide +kernel,by decide +kernel⟩
theorem zjQ:(["mark","door","place","text"]:List Str).Nodup:=by decide +kernel
theorem zdI{b:Bk}{ds:List LDr}(j:∀t∈b,TgOk b.length t):(possL b ds).length<=10:=by
 unfold possL;have h1:(lastL ds).length<=1:=by unfold lastL;rw[List.length_drop];omega
 have h2:(b.getD (zak ds).toNat tg0).2.length<=6:=by
  by_cases h:(zak ds).toNat<b.length
  .exact(j _ (zap tg0 h)).2.1
  .have:b.getD (zak ds).toNat tg0=tg0:=by simp[h]
   rw[this];exact Nat.zero_le _
 rw[List.length_append,List.length_map,List.length_map];omega
theorem zkH{f B:Addr}{fd I:FuncData}(F:Fun K "fitting_marks" "fitting_marks" zdg f fd)(k1:W.keepIn K (.ref B)=true)(ac:Binds K I ["book","doors"] [])(ad:mg "possible_marks"=some (.ref B))(ae:FnOk P w K mg base CX0 2 B I ["book","doors"] ze2):FnOk P w K mg base CX0 3 f fd ["book","text","place","doors"] zdH:=by
 refine F.ok zlN (λvs H Q E h=>?_) (λcdv A outer s H vs Q E af h=>?_)
 .obtain⟨z,v,b,q,ds,x,i,rfl,_⟩:=h;rfl
 .obtain⟨z,v,b,q,ds,x,i,rfl,J0,ag,O,ah,ai,k⟩:=h;refine⟨_,zaf (zas (zbs (N':=["mark","door","place","text"]) (js:=[none,none,some 2,some 1]) J J (zbp (zah zdg) (by decide +kernel)) ⟨J,Or.inr (Or.inl J),J,J,Or.inr (Or.inl J),J,trivial⟩ (zbb (zaj ae af J ad k1 ac .nil pass0 (zaa (pv 0) (zaa (pv 3) zad))))
    (λcl s H fp=>zej 2 rfl (zam (zai (i:=0) zjQ J (Or.inl J) (Or.inr J)) (zam (zai (i:=1) zjQ J (Or.inl J) (Or.inr J)) zaE)))
    (λcl s H fp=>zeh (zck (zd3 PySem.F.plainAttrs_str PySem.F.slot_str_startswith PySem.F.type_str_startswith zcx (pv 3) (zaa (pv 0) (zaa (pv 2) zad)))))
    (λcl s H fp=>zaG (zaa (pv 0) (zaa (pv 1) zad))))),?_⟩
  dsimp only[cxOf,Cx.nox,Cx.wish];have av:=zaR;refine⟨_,J,_,J,z,v,b,q,ds,J,J0,ag,O,ah,ai,λl U H1 D aw G V=>?_⟩;have ax:=zdI (ds:=ds) O.2.2.1;have aj:U.length=(possL b ds).length:=by have:=V.length;simpa using this
  refine⟨l,J,⟨_,SqL.of G⟩,λp np=>?_⟩;have Y:l≠p:=zae G np;refine za9 (z:=z) (λj=>stAt x ((possL b ds).getD j mk0).1 i) (λj=>mkD ((possL b ds).getD j mk0)) (λσ=>∃u v,σ=[u,v,some (.int i),some (.str x)]) ⟨none,none,J⟩ np (by omega) (zbt (xs:=U) (by rw[zan Y];exact G) Y) (λj=>zh5 _) (λj σ H2 ay az aA ⟨u,v,ak⟩ Z al am=>?_) (λσ H2 vs ao ap R2=>?_)
  .subst ak;have aq:=(zb3 (ms:=possL b ds) (i:=j) V (by omega)).mono Z.x (z:=z);obtain⟨a,u,e,aB,ar,as,au⟩:=zc6 aq;rw[e];refine⟨a,_,J,SqT.of ar,J,_,_,J,_,_,J,J,?_⟩;refine⟨_,J,J,_,J,_,J,_,_,i,J,J,_,J,?_⟩;refine ite2 (λh=>?_) (λh=>?_)
   .refine⟨_,J,_,J,by show (2:Nat)<=_;omega,λaC aa=>?_⟩;have ab:=Same.new (o:=.tup [.str ((possL b ds).getD j mk0).1,u]) aa;refine al h _ _ _ ⟨_,_,J⟩ ab (.tup zab (((J0.same D).same Z).ne aa) (.cons (.str _ as) (.cons (au.mono ab.x) .nil)))
   .exact am (by simpa using h) _ _ ⟨_,_,J⟩ (Same.refl _)
  .rw[aj,zc5 (possL b ds) mk0 (λm=>stAt x m.1 i) mkD] at R2;exact k p vs H2 (D.trans ao) (D.free np) ap R2
noncomputable def takeL(ds:List LDr)(i:Nat)(m:Str):Option Dr->Stp×List LDr
 |none=>(((i:Int),(m.length:Int),Str.ofString "close",zak ds.dropLast,(ds.length:Int)-1),ds.dropLast)
 |some d=>(((i:Int),(m.length:Int),Str.ofString "open",zak ds,(ds.length:Int)),ds++[((i:Int),d.2.1,d.2.2)])
theorem ze4{z:Addr}{H:Hp}{v:V}{d:Dr}(r:Rep z H v (drD d)):∃a,v=.ref a/\a≠z/\H a=some (.tup [.str d.1,.int d.2.1,.str d.2.2])/\d.2.2.length<=1000:=by
 cases r with
 |tup h j r=>
  cases r with
  |cons B r=>
   cases r with
   |cons D r=>
    cases r with
    |cons F r=>
     cases r;cases B;cases D;cases F with
     |str _ G=>exact⟨_,J,j,h,G⟩
inductive zcV:List V->Hp->VK->XK->Prop where
 |mk {vs:List V} {H:Hp} {Q:VK} {E:XK} (z m u o:_) (i:Nat) (q ds:_) (c1:vs=[.str m,u,.int i,.ref q]) (c2:Bag z H) (c3:q≠z) (c4:Rep z H u (mkOD o)) (c5:m.length<=1000) (c6:PDs z H q ds) (c7:ds.length<=20000) (c8:(o=none->0<ds.length)) (c9:∀p H',SameX q H H'->H p=none->H' p=some (.tup (stV (takeL ds i m o).1))->PDs z H' q (takeL ds i m o).2->Q (.ref p) H'):zcV vs H Q E
noncomputable def plainL(b:Bk)(ds:List LDr)(x:Str)(i:Nat):Stp:=
 if (⟨#[x.cps.getD i 0]⟩:Str)=(b.getD (zak ds).toNat tg0).1 then
  (if i+1<x.length then ((i:Int),2,Str.ofString "escape",zak ds,(ds.length:Int)) else ((i:Int),1,Str.ofString "cut",zak ds,(ds.length:Int)))
 else ((i:Int),1,Str.ofString "sign",zak ds,(ds.length:Int))
inductive zcf:List V->Hp->VK->XK->Prop where
 |mk {vs:List V} {H:Hp} {Q:VK} {E:XK} (z v b q ds x:_) (i:Nat) (c1:vs=[v,.str x,.int i,.ref q]) (c2:Rep z H v (bkD b)) (c3:BkOk b) (c4:PDs z H q ds) (c5:LdOk b ds) (c6:i<x.length) (c7:x.length<=20000) (c8:∀p H',Same H H'->H p=none->H' p=some (.tup (stV (plainL b ds x i)))->Q (.ref p) H'):zcf vs H Q E
theorem scTakeM:zau ["mark","door","place","doors","step","opening","inner","close"] ["mark","door","place","doors"] (zah zhV):=⟨J,J,J,by decide +kernel,J,by decide +kernel,by decide +kernel⟩
theorem zjc{f V:Addr}{fd ac:FuncData}(F:Fun K "take_mark" "take_mark" zhV f fd)(T:TxtB mg)(k1:W.keepIn K (.ref V)=true)(ad:Binds K ac ["doors"] [])(ae:mg "tongue_within"=some (.ref V))(af:FnOk P w K mg base CX0 1 V ac ["doors"] zce):FnOk P w K mg base CX0 2 f fd ["mark","door","place","doors"] zcV:=by
 refine F.ok scTakeM (λvs H Q E h=>?_) (λcdv A outer s H vs Q E ag h=>?_)
 .obtain⟨z,m,u,o,i,q,ds,rfl,_⟩:=h;rfl
 .obtain⟨z,m,u,o,i,q,ds,rfl,al,av,ah,aw,⟨vs,j,I⟩,ax,am,k⟩:=h;have J0:=scTakeM.nd;have ay:=zaR;have az:(100000:Nat)<=sizeLine:=by rw[sizeLine_eq];decide
  have ao:vs.length=ds.length:=by have:=I.length;simpa using this
  refine⟨_,zac (zaY (zax zjF (pv 1) zeD (zaF _))
    (zac (za7 (zlm PySem.F.plainAttrs_list PySem.F.slot_list_pop PySem.F.type_list_pop zlo (pv 3)))
    (zaf (zas (zaG (zaa (pv 2) (zaa (zar zaw (by rfl) T.len b_len (zaa (pv 0) zad)) (zaa zaD (zaa (zaj af ag J ae k1 ad .nil pass0 (zaa (pv 3) zad)) (zaa (zar zat (by rfl) T.len b_len (zaa (pv 3) zad)) zad))))))))) zaz)
   (zac (zaq (i:=4) J0 J (Or.inl J) (zaG (zaa (pv 2) (zaa (zar zaw (by rfl) T.len b_len (zaa (pv 0) zad)) (zaa zaD (zaa (zaj af ag J ae k1 ad .nil pass0 (zaa (pv 3) zad)) (zaa (zar zat (by rfl) T.len b_len (zaa (pv 3) zad)) zad)))))))
   (zac (zba (pv 1) (zaZ J (zam (zai (i:=5) J0 J (Or.inl J)) (zam (zai (i:=6) J0 J (Or.inl J)) (zam (zai (i:=7) J0 J (Or.inl J)) zaE)))))
   (zac (za7 (zcL PySem.F.plainAttrs_list PySem.F.slot_list_append PySem.F.type_list_append zaW (pv 3) (zaa (zaG (zaa (pv 6) (zaa (pv 7) zad))) zad)))
   (zaf (zas (pv 4)))))),?_⟩
  dsimp only[cxOf,Cx.nox,Cx.wish];cases o with
  |none=>
   cases ah;have hpos:=am rfl;refine⟨_,J,J,_,J,?_⟩;refine iteT ?_;refine⟨_,J,.inl ⟨J,_,SqL.of j⟩,q,vs,_,J,J,j,zlL (by omega),?_⟩;have D:upd H q (.lst vs.dropLast) q=some (.lst vs.dropLast):=zab;have Y:Reps z (upd H q (.lst vs.dropLast)) vs.dropLast (ds.dropLast.map pdD):=by
    rw[List.map_dropLast];exact Reps.updL j I.dropLast (by rw[←List.map_dropLast];exact zct _)
   have Z:SameX q H (upd H q (.lst vs.dropLast)):=SameX.refl.upd;generalize upd H q (.lst vs.dropLast)=H1 at D Y Z;refine⟨_,J,_,J,m,J,by omega,_,J,z,q,ds.dropLast,J,⟨_,D,Y⟩,_,J,q,_,J,.inl (SqL.of D),by show (5:Nat)<=_;omega,λp np=>?_⟩;have ap:H p=none:=by
    cases e:H p with
    |none=>rfl
    |some o=>
     have aq:p≠q:=(zae D np).symm;rw[Z p o aq e] at np;cases np
   have B:=Same.new (o:=.tup [.int i,.int m.length,.str (Str.ofString "close"),.int (zak ds.dropLast),.int vs.dropLast.length]) np;refine k p _ (Z.trans B.x) ap ?_ ⟨_,B _ _ D,Y.mono B.x⟩;rw[zab];have:((vs.dropLast.length:Nat):Int)=(ds.length:Int)-1:=by simp;omega
   rw[this];rfl
  |some d=>
   obtain⟨a,rfl,aA,ar,as⟩:=ze4 ah;refine⟨_,J,J,_,J,?_⟩;refine iteF ?_;refine⟨_,J,_,J,m,J,by omega,_,J,z,q,ds,J,⟨_,j,I⟩,_,J,q,_,J,.inl (SqL.of j),by show (5:Nat)<=_;omega,λp np=>?_⟩;have G:=Same.new (o:=.tup [.int i,.int m.length,.str (Str.ofString "open"),.int (zak ds),.int vs.length]) np;have ai:upd H p (.tup [.int i,.int m.length,.str (Str.ofString "open"),.int (zak ds),.int vs.length]) p=some (.tup (stV (takeL ds i m (some d)).1)):=by
    rw[zab,ao];rfl
   generalize upd H p (.tup [.int i,.int m.length,.str (Str.ofString "open"),.int (zak ds),.int vs.length])=H1 at G ai;refine⟨_,J,a,_,J,SqT.of (G _ _ ar),J,_,_,J,_,_,J,_,_,J,J,?_⟩;refine⟨_,J,.inl ⟨J,_,SqL.of (G _ _ j)⟩,_,J,_,J,by show (2:Nat)<=_;omega,λO aj=>?_⟩;have B:=Same.new (o:=.tup [.int d.2.1,.str d.2.2]) aj;have ak:upd H1 O (.tup [.int d.2.1,.str d.2.2]) O=some (.tup [.int d.2.1,.str d.2.2]):=zab;have au:O≠z:=(al.same G).ne aj;have U:=G.trans B;have aa:=B _ _ ai;generalize upd H1 O (.tup [.int d.2.1,.str d.2.2])=H2 at ak U aa;have ab:=U _ _ j;refine⟨q,vs,_,J,J,ab,by omega,?_⟩;refine⟨_,J,?_⟩;refine k p _ (U.x.upd) np ?_ ⟨_,zab,?_⟩
   .rw[zan (zaI aa ab (by intro q;cases q))];exact aa
   .refine Reps.updL ab ?_ (zct _);show Reps z H2 _ ((ds++[((i:Int),d.2.1,d.2.2)]).map pdD);rw[List.map_append];exact(I.mono U.x).append (.cons (.tup ak au (.cons (.int _) (.cons (.str _ as) .nil))) .nil)
theorem scPlainR:zau ["book","text","place","doors","tongue","escape","ways"] ["book","text","place","doors"] (zah zfu):=⟨J,J,J,by decide +kernel,J,by decide +kernel,by decide +kernel⟩
theorem zh6{f D:Addr}{fd U:FuncData}(F:Fun K "read_plain" "read_plain" zfu f fd)(T:TxtB mg)(k1:W.keepIn K (.ref D)=true)(Z:Binds K U ["doors"] [])(aa:mg "tongue_within"=some (.ref D))(ab:FnOk P w K mg base CX0 1 D U ["doors"] zce):FnOk P w K mg base CX0 2 f fd ["book","text","place","doors"] zcf:=by
 refine F.ok scPlainR (λvs H Q E h=>?_) (λcdv A outer s H vs Q E ac h=>?_)
 .obtain⟨z,v,b,q,ds,x,i,rfl,_⟩:=h;rfl
 .obtain⟨z,v,b,q,ds,x,i,rfl,ad,ae,⟨vs,B,V⟩,af,hi,ap,k⟩:=h;obtain⟨a,xs,rfl,aq,ag,ar,R⟩:=zbd ad;obtain⟨ah,as,au,_⟩:=ae;have G:=scPlainR.nd;have av:=zaR;have aw:(100000:Nat)<=sizeLine:=by rw[sizeLine_eq];decide
  have I:vs.length=ds.length:=by have:=V.length;simpa using this
  refine⟨_,zac (zaq (i:=4) G J (Or.inl J) (zaj ab ac J aa k1 Z .nil pass0 (zaa (pv 3) zad)))
   (zac (zba (zay ix_tup (pv 0) (pv 4) (λ_ _=>rfl)) (zaZ J (zam (zai (i:=5) G J (Or.inl J)) (zam (zai (i:=6) G J (Or.inl J)) zaE))))
   (zac (zaY (zax zeF (zay zfM (pv 1) (pv 2) (λ_ _=>rfl)) (pv 5) (zaF _)) (zaf (zas (zaG (zaa (pv 2) (zaa zag (zaa zaD (zaa (pv 4) (zaa (zar zat (by rfl) T.len b_len (zaa (pv 3) zad)) zad)))))))) zaz)
   (zac (zaY (zax zeG (zaC zbj (pv 2) zag) (zar zaw (by rfl) T.len b_len (zaa (pv 1) zad)) (zaF _)) (zaf (zas (zaG (zaa (pv 2) (zaa zag (zaa zaD (zaa (pv 4) (zaa (zar zat (by rfl) T.len b_len (zaa (pv 3) zad)) zad)))))))) zaz)
   (zaf (zas (zaG (zaa (pv 2) (zaa zag (zaa zaD (zaa (pv 4) (zaa (zar zat (by rfl) T.len b_len (zaa (pv 3) zad)) zad))))))))))),?_⟩
  dsimp only[cxOf,Cx.nox,Cx.wish];have ai:x.cps.toList[i]?=some (x.cps.getD i 0):=by
   have:i<x.cps.size:=hi;simp[Array.getD,this]
  obtain⟨j,Y,aj⟩:=zbg af ah;obtain⟨c,d,ys,ak,ax,ay,al,az,aA,aB⟩:=zaH (zaA (b:=b) (i:=j) R aj);have am:xs[j]?=some (.ref c):=by
   have h1:j<xs.length:=by omega
   have h2:xs.getD j .non=xs[j]:=by simp[h1]
   rw[List.getElem?_eq_getElem h1,←h2,ak]
  have ao:b.getD (zak ds).toNat tg0=b.getD j tg0:=by rw[Y];rfl
  unfold plainL at k;rw[ao] at k;refine⟨_,J,z,q,ds,J,⟨_,B,V⟩,?_⟩;refine⟨_,J,_,J,a,xs,zak ds,_,J,J,SqT.of ag,by rw[Y];exact zal am,c,_,J,SqT.of al,J,_,_,J,_,_,J,J,?_⟩;refine⟨_,J,_,J,x,i,_,J,J,by omega,zal ai,_,J,J,_,J,?_⟩;refine ite2 (λg=>?_) (λg=>?_)
  .have J0:¬(⟨#[x.cps.getD i 0]⟩:Str)=(b.getD j tg0).1:=λe=>by rw[e] at g;simp at g
   rw[if_neg J0] at k;refine⟨_,J,_,J,_,J,q,_,J,.inl (SqL.of B),by show (5:Nat)<=_;omega,λp np=>?_⟩;refine k p _ (Same.new np) np ?_;rw[zab,I];rfl
  .have J0:(⟨#[x.cps.getD i 0]⟩:Str)=(b.getD j tg0).1:=by simpa using g
   rw[if_pos J0] at k;refine⟨_,J,_,_,J,J,_,J,x,J,by omega,_,_,J,J,_,J,?_⟩;refine ite2 (λO=>?_) (λO=>?_)
   .have h2:i+1<x.length:=by have:=of_decide_eq_true O;omega
    rw[if_pos h2] at k;refine⟨_,J,_,J,_,J,q,_,J,.inl (SqL.of B),by show (5:Nat)<=_;omega,λp np=>?_⟩;refine k p _ (Same.new np) np ?_;rw[zab,I];rfl
   .have h2:¬i+1<x.length:=λh=>O (decide_eq_true (by omega));rw[if_neg h2] at k;refine⟨_,J,_,J,_,J,q,_,J,.inl (SqL.of B),by show (5:Nat)<=_;omega,λp np=>?_⟩;refine k p _ (Same.new np) np ?_;rw[zab,I];rfl
theorem zbP{x:Str}{i k:Nat}(h:i+k<=x.length):cutS x (some (i:Int)) (some ((i:Int)+(k:Int)))=⟨x.cps.extract i (i+k)⟩:=by
 have e:((i:Int)+(k:Int))=((i+k:Nat):Int):=by omega
 rw[e];unfold cutS;rw[HT.sIx_nat,HT.sIx_nat,Nat.min_eq_left h,Nat.min_eq_left (by omega)];congr 1;apply Array.ext';simp[Array.toList_extract,List.extract_eq_drop_take]
theorem za4{x m:Str}{i:Nat}(hi:i<=x.length):stAt x m i=fitAt x i m:=by
 cases g:fitAt x i m with
 |true=>
  have j:=zfx g hi;have a:=of_decide_eq_true g;have a:cutS x (some (i:Int)) (some ((i:Int)+m.length))=m:=by injection a
  rw[zbP j] at a;have B:x.cps.extract i (i+m.length)=m.cps:=congrArg Str.cps a;unfold stAt Builtin.Str.subAt;rw[decide_eq_true j,B];simp
 |false=>
  cases g2:stAt x m i with
  |false=>rfl
  |true=>
   exfalso;unfold stAt Builtin.Str.subAt at g2;rw[Bool.and_eq_true] at g2;have j:=of_decide_eq_true g2.1;have B:x.cps.extract i (i+m.length)=m.cps:=by simpa using g2.2
   have:fitAt x i m=true:=by
    unfold fitAt;rw[zbP j,B];simp
   rw[g] at this;cases this
theorem ze5{x m:Str}{i:Nat}(hi:i<=x.length)(h:fitAt x i m=true)(F:1<=m.length):x.cps.getD i 0∈m.cps.toList:=by
 have B:=zfx h hi;have a:=of_decide_eq_true h;have a:cutS x (some (i:Int)) (some ((i:Int)+m.length))=m:=by injection a
 rw[zbP B] at a;have D:x.cps.extract i (i+m.length)=m.cps:=congrArg Str.cps a;rw[←D];have G:i+m.length<=x.cps.size:=B;have j:i<x.cps.size:=by omega
 rw[Array.toList_extract,List.extract_eq_drop_take];have e:x.cps.getD i 0=x.cps.toList[i]'(by simpa using j):=by simp[Array.getD,j]
 rw[e,List.drop_eq_getElem_cons (by simpa using j)];have:i+m.length-i=(m.length-1)+1:=by omega
 rw[this,List.take_succ_cons];exact List.mem_cons_self
theorem zer{b:Bk}(j:BkOk b){t:Tg}(B:t∈b){m:Str}(D:m∈zdD b){c:Nat}(F:c∈m.cps.toList):(⟨#[c]⟩:Str)≠t.1:=λe=>by
 have h:=j.2.2.2;unfold bookB at h;simp only[Bool.and_eq_true,Bool.not_eq_true'] at h;have h2:=h.1.2;unfold escB at h2;rw[List.any_eq_false] at h2;have G:=h2 m D;apply G;unfold escIn;rw[List.any_eq_true];refine⟨c,F,?_⟩;rw[List.any_eq_true];exact⟨t.1,List.mem_map_of_mem B,by rw[e];exact beq_self_eq_true _⟩
theorem zd6{b:Bk}{ds:List LDr}(D:LdBk b ds){m:Str}(hm:m∈someL b ds):m∈zdD b:=by
 unfold someL at hm;rcases List.mem_append.mp hm with hm|hm
 .obtain⟨dd,j,rfl⟩:=List.mem_map.mp hm;by_cases B:(zak ds).toNat<b.length
  .exact List.mem_flatMap.mpr ⟨_,zap tg0 B,List.mem_flatMap.mpr ⟨dd,j,List.mem_cons_self⟩⟩
  .have e:b.getD (zak ds).toNat tg0=tg0:=by simp[B]
   rw[e] at j;cases j
 .obtain⟨dd,j,rfl⟩:=List.mem_map.mp hm;obtain⟨t,F,G,I,O,J0⟩:=D dd (List.mem_of_mem_drop j);rw[J0];exact List.mem_flatMap.mpr ⟨t,F,List.mem_flatMap.mpr ⟨G,I,List.mem_cons_of_mem _ List.mem_cons_self⟩⟩
theorem zbG{b:Bk}{ds:List LDr}{y:Mk}(h:y∈possL b ds):y.1∈someL b ds:=by
 unfold possL at h;unfold someL;rcases List.mem_append.mp h with h|h
 .obtain⟨d,j,rfl⟩:=List.mem_map.mp h;exact List.mem_append_right _ (List.mem_map_of_mem j)
 .obtain⟨d,j,rfl⟩:=List.mem_map.mp h;exact List.mem_append_left _ (List.mem_map_of_mem j)
theorem zdJ{b:Bk}{ds:List LDr}{m:Str}(h:m∈someL b ds):∃y∈possL b ds,y.1=m:=by
 unfold someL at h;unfold possL;rcases List.mem_append.mp h with h|h
 .obtain⟨d,j,rfl⟩:=List.mem_map.mp h;exact⟨_,List.mem_append_right _ (List.mem_map_of_mem j),J⟩
 .obtain⟨d,j,rfl⟩:=List.mem_map.mp h;exact⟨_,List.mem_append_left _ (List.mem_map_of_mem j),J⟩
theorem ze6{b:Bk}{ds:List LDr}{x:Str}{i:Nat}{m:Str}{o:Option Dr}{r:List Mk}(D:m≠Str.ofString "")(F:(⟨#[x.cps.getD i 0]⟩:Str)≠(b.getD (zak ds).toNat tg0).1)(h:(possL b ds).filter (λy=>y.1==m)=(m,o)::r):stepL b ds x i m=takeL ds i m o:=by
 unfold stepL;rw[if_neg (λq=>F q.2),if_neg D];unfold possL at h;rw[List.filter_append,List.filter_map,List.filter_map] at h;by_cases j:ds≠[]/\m=(ds.getD (ds.length-1) ld0).2.2
 .rw[if_pos j];have hpos:0<ds.length:=List.length_pos_iff.mpr j.1;rw[ze3 hpos] at h;have:((ds.getD (ds.length-1) ld0).2.2==m)=true:=by rw[←j.2];exact beq_self_eq_true _
  have B:[ds.getD (ds.length-1) ld0].filter ((λy:Mk=>y.1==m)∘λd:LDr=>((d.2.2,none):Mk))=[ds.getD (ds.length-1) ld0]:=by
   rw[List.filter_cons_of_pos]
   .rfl
   .exact this
  rw[B] at h;have h':(((ds.getD (ds.length-1) ld0).2.2,none):Mk)=(m,o):=(List.cons.inj h).1;have:o=none:=by injection h' with _ q;exact q.symm
  subst this;rfl
 .rw[if_neg j];have B:(lastL ds).filter ((λy:Mk=>y.1==m)∘λd:LDr=>((d.2.2,none):Mk))=[]:=by
   rw[List.filter_eq_nil_iff];intro d G q;have q:(d.2.2==m)=true:=q;have q:=eq_of_beq q;exact j (zd5 (List.mem_map.mpr ⟨d,G,q⟩))
  rw[B] at h;have I:((λy:Mk=>y.1==m)∘λd:Dr=>((d.1,some d):Mk))=λd:Dr=>d.1==m:=rfl;rw[I] at h;cases g:(b.getD (zak ds).toNat tg0).2.filter (λd=>d.1==m) with
  |nil=>
   rw[g] at h;cases h
  |cons d J0=>
   rw[g] at h;have h':((d.1,some d):Mk)=(m,o):=(List.cons.inj h).1;have:o=some d:=by injection h' with _ q;exact q.symm
   subst this;rfl
theorem zcg{b:Bk}{ds:List LDr}{x:Str}{i:Nat}(hi:i<x.length)(h:fitsP b ds x i=[]):stepL b ds x i (bestL b ds x i)=(plainL b ds x i,ds):=by
 have B:fitL b ds x i=[]:=by
  unfold fitL;rw[List.filter_eq_nil_iff];intro m D q;obtain⟨y,F,rfl⟩:=zdJ D;unfold fitsP at h;rw[List.filter_eq_nil_iff] at h;apply h y F;rw[za4 (by omega)];exact q
 have G:bestL b ds x i=Str.ofString "":=by unfold bestL;rw[B,zb1];rfl
 rw[G];unfold stepL plainL;by_cases j:(⟨#[x.cps.getD i 0]⟩:Str)=(b.getD (zak ds).toNat tg0).1
 .have I:(b.getD (zak ds).toNat tg0).1≠Str.ofString "":=λe=>by
   rw[e,zb1] at j;have:(#[x.cps.getD i 0]:Array Nat)=#[]:=congrArg Str.cps j;simp at this
  rw[if_pos ⟨I,j⟩,if_pos j];by_cases h1:i+1=x.length
  .rw[if_pos h1,if_neg (by omega)]
  .rw[if_neg h1,if_pos (by omega)]
 .rw[if_neg (λq=>j q.2),if_pos J,if_neg j]
theorem ze7{l:List Mk}{j:Nat}{y:Mk}(F:l[j]?=some y)(G:∀B,B<j->∀D,l[B]?=some D->D.1.length<y.1.length):∃r,l.filter (λz=>z.1==y.1)=y::r:=by
 induction l generalizing j with
 |nil=>simp at F
 |cons a l I=>
  cases j with
  |zero=>
   have:a=y:=by simpa using F
   subst this;exact⟨_,List.filter_cons_of_pos (p:=λz:Mk=>z.1==a.1) (beq_self_eq_true a.1)⟩
  |succ j=>
   have J0:=G 0 (by omega) a rfl;have O:¬(a.1==y.1)=true:=λq=>by
    have:=eq_of_beq q;rw[this] at J0;omega
   rw[List.filter_cons_of_neg (p:=λz:Mk=>z.1==y.1) O];exact I (by simpa using F) λB V D U=>G (B+1) (by omega) D (by simpa using U)
theorem ze8{b:Bk}{ds:List LDr}{x:Str}{i:Nat}(V:BkOk b)(W:LdBk b ds)(hi:i<x.length){j:Nat}{y:Mk}(Y:(fitsP b ds x i)[j]?=some y)(Z:∀D B,(fitsP b ds x i)[D]?=some B->B.1.length<=y.1.length/\(D<j->B.1.length<y.1.length)):stepL b ds x i (bestL b ds x i)=takeL ds i y.1 y.2:=by
 have aa:=V.2.2.1;have ab:=List.mem_of_getElem? Y;have F:y∈possL b ds:=(List.mem_filter.mp ab).1;have ac:stAt x y.1 i=true:=(List.mem_filter.mp ab).2;have G:fitAt x i y.1=true:=by rw[←za4 (by omega)];exact ac
 have ad:=zcU (x:=x) (i:=i) aa (W.ok aa);have I:y.1∈fitL b ds x i:=List.mem_filter.mpr ⟨zbG F,G⟩;have ag:bestL b ds x i=y.1:=by
  unfold bestL;rcases zcd (l:=fitL b ds x i) λm ah=>ad m (List.mem_filter.mp ah).1 with⟨h1,_⟩|⟨h1,h2⟩
  .rw[h1] at I;cases I
  .have J0:=List.mem_filter.mp h1;obtain⟨B,O,e⟩:=zdJ J0.1;have:B∈fitsP b ds x i:=List.mem_filter.mpr ⟨O,by rw[e,za4 (by omega)];exact J0.2⟩;obtain⟨D,U⟩:=List.getElem?_of_mem this;have ai:=(Z D B U).1;rw[e] at ai;have am:=h2 y.1 I;exact zh0 J0.2 G (by omega)
 rw[ag];have ae:=ad y.1 (zbG F);obtain⟨r,aj⟩:=ze7 Y λD U B O=>(Z D B O).2 U;have ak:(possL b ds).filter (λz=>z.1==y.1)=(y.1,y.2)::r:=by
  rw[←aj];unfold fitsP;rw[List.filter_filter];refine List.filter_congr λz _=>?_;cases g:z.1==y.1 with
  |false=>rfl
  |true=>
   rw[eq_of_beq g,ac];rfl
 refine ze6 (λe=>?_) (λe=>?_) ak
 .have:=ae.1;rw[e,zb1] at this;exact absurd this (by decide)
 .by_cases af:(zak ds).toNat<b.length
  .exact zer V (zap tg0 af) (zd6 W (zbG F)) (ze5 (by omega) G ae.1) e
  .have al:b.getD (zak ds).toNat tg0=tg0:=by simp[af]
   rw[al] at e;have:(#[x.cps.getD i 0]:Array Nat)=#[]:=congrArg Str.cps e;simp at this
section
variable (b:Bk) (x:Str)
noncomputable def cnF:Nat->List LDr->Nat->Nat
 |0,ds,i=>if i=x.length/\ds=[] then 1 else 0
 |f+1,ds,i=>
  if x.length<=i then (if i=x.length/\ds=[] then 1 else 0)
  else if fitsP b ds x i=[] then (if (plainL b ds x i).2.2.1=Str.ofString "cut" then 0 else cnF f ds (i+(plainL b ds x i).2.1.toNat))
  else ((fitsP b ds x i).map λy=>cnF f (takeL ds i y.1 y.2).2 (i+y.1.length)).sum
noncomputable def cn(ds:List LDr)(i:Nat):Nat:=cnF b x (x.length-i) ds i
end
section
variable {b:Bk}{x:Str}
theorem zbe(b:Bk)(ds:List LDr)(x:Str)(i:Nat):1<=(plainL b ds x i).2.1.toNat/\(plainL b ds x i).2.1.toNat<=2/\((plainL b ds x i).2.1.toNat:Int)=(plainL b ds x i).2.1/\(i<x.length->i+(plainL b ds x i).2.1.toNat<=x.length):=by
 unfold plainL;split
 .split
  .exact⟨(by decide:(1:Nat)<=2),Nat.le_refl 2,J,λ_=>by show i+2<=_;omega⟩
  .exact⟨Nat.le_refl 1,(by decide:(1:Nat)<=2),J,λ_=>by show i+1<=_;omega⟩
 .exact⟨Nat.le_refl 1,(by decide:(1:Nat)<=2),J,λ_=>by show i+1<=_;omega⟩
theorem zbQ{ds:List LDr}{i:Nat}{y:Mk}(h:y∈fitsP b ds x i):i+y.1.length<=x.length:=by
 have:=(List.mem_filter.mp h).2;unfold stAt at this;rw[Bool.and_eq_true] at this;exact of_decide_eq_true this.1
theorem zbz{ds:List LDr}(j:∀t∈b,TgOk b.length t)(B:LdOk b ds){y:Mk}(h:y∈possL b ds):Sm y.1:=zcU (x:=⟨#[]⟩) (i:=0) j B _ (zbG h)
theorem zb4{ds:List LDr}{i:Nat}{y:Mk}(D:LdBk b ds)(F:y∈possL b ds):LdBk b (takeL ds i y.1 y.2).2:=by
 obtain⟨m,o⟩:=y;cases o with
 |none=>exact λd j=>D d (List.dropLast_subset _ j)
 |some I=>
  intro d j;rcases List.mem_append.mp j with h|h
  .exact D d h
  .rw[List.mem_singleton.mp h];unfold possL at F;rcases List.mem_append.mp F with h|h
   .obtain⟨_,_,e⟩:=List.mem_map.mp h;injection e with _ e;cases e
   .obtain⟨d',B,e⟩:=List.mem_map.mp h;injection e with _ e;injection e with e;subst e;by_cases G:(zak ds).toNat<b.length
    .exact⟨_,zap tg0 G,d',B,J,J⟩
    .have e:b.getD (zak ds).toNat tg0=tg0:=by simp[G]
     rw[e] at B;cases B
theorem zjR(F:∀t∈b,TgOk b.length t):∀(f g:Nat) (ds:List LDr) (i:Nat),LdBk b ds->x.length-i<=f->x.length-i<=g->cnF b x f ds i=cnF b x g ds i:=by
 have B:∀(g:Nat) (ds:List LDr) (i:Nat),x.length<=i->cnF b x g ds i=if i=x.length/\ds=[] then 1 else 0:=λg ds i h=>by
  cases g with
  |zero=>rfl
  |succ g=>unfold cnF;rw[if_pos h]
 intro f;induction f with
 |zero=>
  intro g ds i _ h1 _;rw[B g ds i (by omega)];rfl
 |succ f G=>
  intro g ds i D h1 h2;by_cases hi:x.length<=i
  .rw[B _ ds i hi,B _ ds i hi]
  .cases g with
   |zero=>omega
   |succ g=>
    unfold cnF;rw[if_neg hi,if_neg hi];obtain⟨O,p2,_,_⟩:=zbe b ds x i;by_cases j:fitsP b ds x i=[]
    .rw[if_pos j,if_pos j];split
     .rfl
     .exact G g ds _ D (by omega) (by omega)
    .rw[if_neg j,if_neg j];congr 1;refine List.map_congr_left λy I=>?_;have J0:=zbz F (D.ok F) (List.mem_filter.mp I).1;have U:=J0.1;refine G g _ _ ?_ (by omega) (by omega);exact zb4 D (List.mem_filter.mp I).1
theorem zd7(ds:List LDr):cn b x ds x.length=if ds=[] then 1 else 0:=by
 unfold cn;rw[Nat.sub_self];show (if x.length=x.length/\ds=[] then 1 else 0)=_;simp
theorem zbR{ds:List LDr}{i:Nat}(j:∀t∈b,TgOk b.length t)(B:LdBk b ds)(hi:i<x.length)(D:fitsP b ds x i=[]):cn b x ds i=if (plainL b ds x i).2.2.1=Str.ofString "cut" then 0 else cn b x ds (i+(plainL b ds x i).2.1.toNat):=by
 obtain⟨G,p2,_,_⟩:=zbe b ds x i;unfold cn;obtain⟨f,F⟩:∃f,x.length-i=f+1:=⟨x.length-i-1,by omega⟩;rw[F];show (if _ then _ else _)=_;rw[if_neg (by omega),if_pos D];split
 .rfl
 .exact zjR j _ _ ds _ B (by omega) (Nat.le_refl _)
theorem zb5{ds:List LDr}{i:Nat}(j:∀t∈b,TgOk b.length t)(B:LdBk b ds)(hi:i<x.length)(F:fitsP b ds x i≠[]):cn b x ds i=((fitsP b ds x i).map λy=>cn b x (takeL ds i y.1 y.2).2 (i+y.1.length)).sum:=by
 unfold cn;obtain⟨f,G⟩:∃f,x.length-i=f+1:=⟨x.length-i-1,by omega⟩;rw[G];show (if _ then _ else _)=_;rw[if_neg (by omega),if_neg F];congr 1;refine List.map_congr_left λy D=>?_;have I:=zbz j (B.ok j) (List.mem_filter.mp D).1;have J0:=I.1;exact zjR j _ _ _ _ (zb4 B (List.mem_filter.mp D).1) (by omega) (Nat.le_refl _)
theorem zkI{l:List Nat}:0<l.sum↔∃n∈l,0<n:=by
 induction l with
 |nil=>simp
 |cons a r j=>
  rw[List.sum_cons];constructor
  .intro h;by_cases g:0<a
   .exact⟨a,List.mem_cons_self,g⟩
   .obtain⟨n,hn,h'⟩:=j.mp (by omega);exact⟨n,List.mem_cons_of_mem _ hn,h'⟩
  .rintro⟨n,hn,h⟩;rcases List.mem_cons.mp hn with e|hn
   .rw[←e];omega
   .have:=j.mpr ⟨n,hn,h⟩;omega
end
noncomputable abbrev Rm:=Int×Str
noncomputable abbrev outR:Rm:=(0,Str.ofString "")
noncomputable def dsR(R:Rm):List LDr:=if R=outR then [] else [((0:Int),R.1,R.2)]
noncomputable def topR(ds:List LDr):Rm:=match ds.getLast? with
 |some d=>d.2
 |none=>outR
theorem zkJ{b:Bk}{ds:List LDr}(h:LdOk b ds){d:LDr}(j:d∈ds):d.2≠outR:=λe=>by
 have h1:=(h d j).2.1;rw[e] at h1;exact absurd h1 (by decide +kernel)
theorem zdK(ds:List LDr)(d:LDr):lastL (ds++[d])=[d]:=by
 unfold lastL;rw[List.length_append,List.length_singleton,Nat.add_sub_cancel,List.drop_left]
theorem zcu(ds:List LDr)(d:LDr):zak (ds++[d])=d.2.1:=by
 unfold zak;rw[List.getLast?_append];rfl
theorem zbS(ds:List LDr)(d:LDr):topR (ds++[d])=d.2:=by
 unfold topR;rw[List.getLast?_append];rfl
theorem zcW{ds:List LDr}(h:ds≠[]):∃j d,ds=j++[d]:=⟨ds.dropLast,ds.getLast h,(List.dropLast_concat_getLast h).symm⟩
section
variable {b:Bk}{x:Str}
theorem zjd{ds:List LDr}(h:LdOk b ds):possL b ds=possL b (dsR (topR ds)):=by
 by_cases e:ds=[]
 .subst e;show _=possL b (if outR=outR then [] else _);rw[if_pos rfl]
 .obtain⟨j,d,rfl⟩:=zcW e;rw[zbS];unfold dsR;rw[if_neg (zkJ h (List.mem_append_right _ List.mem_cons_self))];unfold possL;rw[zdK,zcu];rfl
theorem zcD{ds:List LDr}(h:LdOk b ds)(i:Nat):fitsP b ds x i=fitsP b (dsR (topR ds)) x i:=by
 unfold fitsP;rw[zjd h]
theorem zgR{ds:List LDr}(h:LdOk b ds):zak ds=zak (dsR (topR ds)):=by
 by_cases e:ds=[]
 .subst e;show _=zak (if outR=outR then [] else _);rw[if_pos rfl]
 .obtain⟨j,d,rfl⟩:=zcW e;rw[zbS];unfold dsR;rw[if_neg (zkJ h (List.mem_append_right _ List.mem_cons_self)),zcu];rfl
theorem ze9{ds:List LDr}(h:LdOk b ds)(i:Nat):(plainL b ds x i).2.1=(plainL b (dsR (topR ds)) x i).2.1/\(plainL b ds x i).2.2.1=(plainL b (dsR (topR ds)) x i).2.2.1:=by
 unfold plainL;rw[←zgR h];split
 .split
  .exact⟨J,J⟩
  .exact⟨J,J⟩
 .exact⟨J,J⟩
end
inductive Sh(b:Bk)(x:Str):Rm->Nat->Nat->Prop where
 |out:Sh b x outR x.length x.length
 |plain {R:Rm} {i e:Nat} (hi:i<x.length) (hf:fitsP b (dsR R) x i=[]) (hc:(plainL b (dsR R) x i).2.2.1≠Str.ofString "cut") (h:Sh b x R (i+(plainL b (dsR R) x i).2.1.toNat) e):Sh b x R i e
 |close {R:Rm} {i:Nat} {m:Str} (hi:i<x.length) (hy:((m,none):Mk)∈fitsP b (dsR R) x i):Sh b x R i (i+m.length)
 |opn {R:Rm} {i k e:Nat} {m:Str} {d:Dr} (hi:i<x.length) (hy:((m,some d):Mk)∈fitsP b (dsR R) x i) (h1:Sh b x d.2 (i+m.length) k) (h2:Sh b x R k e):Sh b x R i e
noncomputable def Chain(b:Bk)(x:Str):List Rm->Nat->Prop
 |[],_=>True
 |R::j,i=>∃e,Sh b x R i e/\Chain b x j e
noncomputable def rms(ds:List LDr):List Rm:=(ds.map (·.2)).reverse++[outR]
theorem zdk(ds:List LDr)(d:LDr):rms (ds++[d])=d.2::rms ds:=by
 unfold rms;rw[List.map_append,List.reverse_append];rfl
theorem zkK{b:Bk}{ds:List LDr}:∃j,rms ds=topR ds::j:=by
 by_cases e:ds=[]
 .subst e;exact⟨[],J⟩
 .obtain⟨B,d,rfl⟩:=zcW e;exact⟨rms B,by rw[zdk,zbS]⟩
section
variable {b:Bk}{x:Str}
theorem zch{ds:List LDr}{m:Str}(h:((m,none):Mk)∈possL b ds):∃B d,ds=B++[d]/\d.2.2=m:=by
 unfold possL at h;rcases List.mem_append.mp h with h|h
 .obtain⟨d,j,e⟩:=List.mem_map.mp h;injection e with e;have D:ds≠[]:=λq=>by rw[q] at j;cases j
  obtain⟨B,d',rfl⟩:=zcW D;rw[zdK] at j;rw[List.mem_singleton.mp j] at e;exact⟨B,d',J,e⟩
 .obtain⟨_,_,e⟩:=List.mem_map.mp h;injection e with _ e;cases e
theorem zbT{B:Type}{l:List B}{g:B->Nat}:0<(l.map g).sum↔∃y∈l,0<g y:=by
 rw[zkI];constructor
 .rintro⟨n,D,h⟩;obtain⟨y,j,rfl⟩:=List.mem_map.mp D;exact⟨y,j,h⟩
 .rintro⟨y,j,h⟩;exact⟨_,List.mem_map_of_mem j,h⟩
theorem zje(F:∀t∈b,TgOk b.length t):∀(f:Nat) (ds:List LDr) (i:Nat),LdBk b ds->x.length-i=f->i<=x.length->0<cn b x ds i->Chain b x (rms ds) i:=by
 intro f;induction f using Nat.strongRecOn with
 |ind f aa=>
  intro ds i D ah hi j;have G:=D.ok F;by_cases ac:i=x.length
  .subst ac;rw[zd7] at j;have e:ds=[]:=by
    by_cases e:ds=[]
    .exact e
    .rw[if_neg e] at j;cases j
   subst e;exact⟨_,.out,trivial⟩
  .have B:i<x.length:=by omega
   obtain⟨ai,J0⟩:=zkK (b:=b) (ds:=ds);by_cases O:fitsP b ds x i=[]
   .rw[zbR F D B O] at j;obtain⟨aj,p2,p3,p4⟩:=zbe b ds x i;by_cases hw:(plainL b ds x i).2.2.1=Str.ofString "cut"
    .rw[if_pos hw] at j;cases j
    .rw[if_neg hw] at j;have h:=aa _ (by have:=p4 B;omega) ds _ D rfl (p4 B) j;rw[J0] at h ⊢;obtain⟨e,h1,h2⟩:=h;obtain⟨ad,ae⟩:=ze9 (x:=x) G i;rw[ad] at h1;rw[ae] at hw;exact⟨e,.plain B (by rw[←zcD G];exact O) hw h1,h2⟩
   .rw[zb5 F D B O,zbT] at j;obtain⟨⟨m,o⟩,U,hpos⟩:=j;have V:=(List.mem_filter.mp U).1;have W:=zbQ U;have ab:=(zbz F G V).1;have W:i+m.length<=x.length:=W;have ab:1<=m.length:=ab;have h:=aa _ (by omega) _ _ (zb4 (i:=i) D V) rfl W hpos;have Y:((m,o):Mk)∈fitsP b (dsR (topR ds)) x i:=by rw[←zcD G];exact U
    cases o with
    |none=>
     obtain⟨I,d,rfl,rfl⟩:=zch V;have e:(takeL (I++[d]) i d.2.2 none).2=I:=by show (I++[d]).dropLast=I;simp
     rw[e] at h;rw[zdk];rw[zbS] at Y;exact⟨_,.close B Y,h⟩
    |some Z=>
     have e:(takeL ds i m (some Z)).2=ds++[((i:Int),Z.2.1,Z.2.2)]:=rfl;rw[e,zdk,J0] at h;obtain⟨k,h1,af,h2,ag⟩:=h;rw[J0];exact⟨af,.opn B Y h1 h2,ag⟩
theorem zdX(D:∀t∈b,TgOk b.length t){R:Rm}{i e:Nat}(h:Sh b x R i e):e<=x.length/\i<=e/\(R=outR->e=x.length/\0<cn b x [] i)/\∀ds d,d.2=R->LdBk b (ds++[d])->0<cn b x ds e->0<cn b x (ds++[d]) i:=by
 have Y:LdBk b []:=λd j=>by cases j
 induction h with
 |out=>
  refine⟨Nat.le_refl _,Nat.le_refl _,λ_=>⟨J,by rw[zd7,if_pos rfl];exact Nat.one_pos⟩,λds d e j _=>absurd e (zkJ (j.ok D) (List.mem_append_right _ List.mem_cons_self))⟩
 |@plain R i e hi U V h ae=>
  obtain⟨aa,af,Z,W⟩:=ae;refine⟨aa,by omega,λg=>⟨(Z g).1,?_⟩,λds d g j O=>?_⟩
  .subst g;have U:fitsP b [] x i=[]:=U;have V:(plainL b [] x i).2.2.1≠Str.ofString "cut":=V;rw[zbR D Y hi U,if_neg V];exact(Z J).2
  .have G:=j.ok D;obtain⟨ab,ac⟩:=ze9 (x:=x) G i;have I:topR (ds++[d])=R:=by rw[zbS,g]
   rw[I] at ab ac;rw[zbR D j hi (by rw[zcD G,I];exact U),if_neg (by rw[ac];exact V),ab];exact W ds d g j O
 |@close R i m hi B=>
  have ag:i+m.length<=x.length:=zbQ B;refine⟨ag,by omega,λg=>?_,λds d g j O=>?_⟩
  .subst g;have B:((m,none):Mk)∈fitsP b [] x i:=B;obtain⟨al,d,e,_⟩:=zch (List.mem_filter.mp B).1;exact absurd e (by simp)
  .have G:=j.ok D;have I:topR (ds++[d])=R:=by rw[zbS,g]
   have F:((m,none):Mk)∈fitsP b (ds++[d]) x i:=by rw[zcD G,I];exact B
   rw[zb5 D j hi (λq=>by rw[q] at F;cases F),zbT];refine⟨_,F,?_⟩;have e:(takeL (ds++[d]) i m none).2=ds:=by show (ds++[d]).dropLast=ds;simp
   show 0<cn b x (takeL (ds++[d]) i m none).2 _;rw[e];exact O
 |@opn R i k e m J0 hi B h1 h2 ah ai=>
  obtain⟨aa,af,Z,W⟩:=ah;obtain⟨aj,am,ad,ak⟩:=ai;refine⟨aj,by omega,λg=>⟨(ad g).1,?_⟩,λds d g j O=>?_⟩
  .subst g;have B:((m,some J0):Mk)∈fitsP b [] x i:=B;rw[zb5 D Y hi (λq=>by rw[q] at B;cases B),zbT];exact⟨_,B,W [] ((i:Int),J0.2.1,J0.2.2) J (zb4 (i:=i) Y (List.mem_filter.mp B).1) (ad J).2⟩
  .have G:=j.ok D;have I:topR (ds++[d])=R:=by rw[zbS,g]
   have F:((m,some J0):Mk)∈fitsP b (ds++[d]) x i:=by rw[zcD G,I];exact B
   rw[zb5 D j hi (λq=>by rw[q] at F;cases F),zbT];exact⟨_,F,W (ds++[d]) ((i:Int),J0.2.1,J0.2.2) J (zb4 (i:=i) j (List.mem_filter.mp F).1) (ak ds d g j O)⟩
theorem zgc(B:∀t∈b,TgOk b.length t):∀(n:Nat) (ds:List LDr) (i:Nat),ds.length=n->LdBk b ds->Chain b x (rms ds) i->0<cn b x ds i
 |0,ds,i,j,D,h=>by
  have e:ds=[]:=List.length_eq_zero_iff.mp j;subst e;obtain⟨e,h1,_⟩:=h;exact((zdX B h1).2.2.1 rfl).2
 |n+1,ds,i,j,D,h=>by
  obtain⟨F,d,rfl⟩:=zcW (ds:=ds) (λq=>by rw[q] at j;cases j);rw[zdk] at h;obtain⟨e,h1,h2⟩:=h;have G:LdBk b F:=λd' h'=>D d' (List.mem_append_left _ h');exact(zdX B h1).2.2.2 F d rfl D (zgc B n F e (by simpa using j) G h2)
theorem zlO(j:∀t∈b,TgOk b.length t){ds:List LDr}{i:Nat}(B:LdBk b ds)(hi:i<=x.length):0<cn b x ds i↔Chain b x (rms ds) i:=
 ⟨zje j _ ds i B J hi,zgc j _ ds i J B⟩
end
inductive Wk(b:Bk)(x:Str):List LDr->Nat->List Stp->Prop where
 |done:Wk b x [] x.length []
 |plain {ds:List LDr} {i:Nat} {ss:List Stp} (hi:i<x.length) (hf:fitsP b ds x i=[]) (hc:(plainL b ds x i).2.2.1≠Str.ofString "cut") (h:Wk b x ds (i+(plainL b ds x i).2.1.toNat) ss):Wk b x ds i (plainL b ds x i::ss)
 |mark {ds:List LDr} {i:Nat} {ss:List Stp} (y:Mk) (hi:i<x.length) (hy:y∈fitsP b ds x i) (h:Wk b x (takeL ds i y.1 y.2).2 (i+y.1.length) ss):Wk b x ds i ((takeL ds i y.1 y.2).1::ss)
inductive Pth(b:Bk)(x:Str):List Stp->List LDr->Nat->Prop where
 |nil:Pth b x [] [] 0
 |plain {ss:List Stp} {ds:List LDr} {i:Nat} (h:Pth b x ss ds i) (hi:i<x.length) (hf:fitsP b ds x i=[]) (hc:(plainL b ds x i).2.2.1≠Str.ofString "cut"):Pth b x (ss++[plainL b ds x i]) ds (i+(plainL b ds x i).2.1.toNat)
 |mark {ss:List Stp} {ds:List LDr} {i:Nat} (y:Mk) (h:Pth b x ss ds i) (hi:i<x.length) (hy:y∈fitsP b ds x i):Pth b x (ss++[(takeL ds i y.1 y.2).1]) (takeL ds i y.1 y.2).2 (i+y.1.length)
section
variable {b:Bk}{x:Str}
theorem zlP{D:List Stp}{ds:List LDr}{i:Nat}(h:Pth b x D ds i):∀ {j:List Stp},Wk b x ds i j->Wk b x [] 0 (D++j):=by
 induction h with
 |nil=>intro j h;exact h
 |plain h hi F G B=>
  intro j h';rw[List.append_assoc];exact B (.plain hi F G h')
 |mark y h hi I B=>
  intro j h';rw[List.append_assoc];exact B (.mark y hi I h')
theorem zcE{B:List Stp}{ds:List LDr}{i:Nat}(h:Pth b x B ds i):LdBk b ds/\i<=x.length/\ds.length<=B.length:=by
 induction h with
 |nil=>exact⟨λd F=>(by cases F),Nat.zero_le _,Nat.le_refl _⟩
 |plain h hi I J0 j=>
  obtain⟨h1,h2,G⟩:=j;exact⟨h1,(zbe b _ x _).2.2.2 hi,by rw[List.length_append];omega⟩
 |mark y h hi D j=>
  obtain⟨h1,h2,G⟩:=j;refine⟨zb4 h1 (List.mem_filter.mp D).1,zbQ D,?_⟩;rw[List.length_append,List.length_singleton];obtain⟨m,o⟩:=y;cases o with
  |none=>show (List.dropLast _).length<=_;rw[List.length_dropLast];omega
  |some d=>show (_++[_]:List LDr).length<=_;rw[List.length_append,List.length_singleton];omega
theorem zkL(B:∀t∈b,TgOk b.length t){j:List Stp}{ds:List LDr}{i:Nat}(h:Pth b x j ds i):j.length<=i:=by
 induction h with
 |nil=>exact Nat.le_refl _
 |@plain j ds i h hi G I D=>
  have:=(zbe b ds x i).1;rw[List.length_append,List.length_singleton];omega
 |mark y h hi F D=>
  have:=(zbz B ((zcE h).1.ok B) (List.mem_filter.mp F).1).1;rw[List.length_append,List.length_singleton];omega
noncomputable def hop(b:Bk)(x:Str)(ds:List LDr)(i:Nat):List Mk:=(fitsP b ds x i).filter λy=>decide (0<cn b x (takeL ds i y.1 y.2).2 (i+y.1.length))
structure WSt where
 at_:Nat
 ds:List LDr
 ss:List Stp
 ts:List Nat
noncomputable def wrS(b:Bk)(x:Str)(turn:Option Nat)(s:WSt):WSt:=
 if s.at_<x.length then
  let h:=hop b x s.ds s.at_;let ts:=if 1<h.length then s.ts++[s.at_] else s.ts
  if h=[] then ⟨s.at_+(plainL b s.ds x s.at_).2.1.toNat,s.ds,s.ss++[plainL b s.ds x s.at_],ts⟩
  else let y:=h.getD (if some s.at_=turn then 1 else 0) mk0
   ⟨s.at_+y.1.length,(takeL s.ds s.at_ y.1 y.2).2,s.ss++[(takeL s.ds s.at_ y.1 y.2).1],ts⟩
 else s
noncomputable def wrF(b:Bk)(x:Str)(turn:Option Nat):Nat->WSt
 |0=>⟨0,[],[],[]⟩
 |k+1=>wrS b x turn (wrF b x turn k)
theorem zd8{j:Type}(g:j->Nat):∀l:List j,(l.map g).sum=((l.filter λy=>decide (0<g y)).map g).sum
 |[]=>rfl
 |a::r=>by
  rw[List.map_cons,List.sum_cons,zd8 g r];by_cases h:0<g a
  .rw[List.filter_cons_of_pos (by simpa using h),List.map_cons,List.sum_cons]
  .rw[List.filter_cons_of_neg (by simpa using h)];omega
theorem zh7{ds:List LDr}{i:Nat}(j:∀t∈b,TgOk b.length t)(B:LdBk b ds)(hi:i<x.length)(D:fitsP b ds x i≠[]):cn b x ds i=((hop b x ds i).map λy=>cn b x (takeL ds i y.1 y.2).2 (i+y.1.length)).sum:=by
 rw[zb5 j B hi D,zd8];rfl
theorem zh8{ds:List LDr}{i:Nat}(D:∀t∈b,TgOk b.length t)(F:LdBk b ds)(hi:i<x.length)(j:0<cn b x ds i):hop b x ds i=[]↔fitsP b ds x i=[]:=by
 constructor
 .intro h;by_cases B:fitsP b ds x i=[]
  .exact B
  .rw[zh7 D F hi B,h] at j;cases j
 .intro h;unfold hop;rw[h];rfl
theorem zcX{ds:List LDr}{i:Nat}{y:Mk}(h:y∈hop b x ds i):y∈fitsP b ds x i/\0<cn b x (takeL ds i y.1 y.2).2 (i+y.1.length):=⟨(List.mem_filter.mp h).1,by simpa using (List.mem_filter.mp h).2⟩
structure WOk(b:Bk)(x:Str)(s:WSt):Prop where
 pth:Pth b x s.ss s.ds s.at_
 pos:0<cn b x s.ds s.at_
 one:s.ts=[]->cn b x [] 0=cn b x s.ds s.at_
 two:s.ts≠[]->2<=cn b x [] 0
theorem zkM{l:List Nat}(h:2<=l.length)(j:∀n∈l,0<n):2<=l.sum:=by
 match l,h with
 |a::c::r,_=>
  have h1:=j a List.mem_cons_self;have h2:=j c (List.mem_cons_of_mem _ List.mem_cons_self);rw[List.sum_cons,List.sum_cons];omega
theorem zkN{l:List Nat}{n:Nat}(h:n∈l):n<=l.sum:=by
 induction l with
 |nil=>cases h
 |cons a r j=>
  rw[List.sum_cons];rcases List.mem_cons.mp h with e|h
  .omega
  .have:=j h;omega
theorem zmm{F:List Stp}{ds:List LDr}{i:Nat}(D:∀t∈b,TgOk b.length t)(h:Pth b x F ds i):cn b x ds i<=cn b x [] 0:=by
 induction h with
 |nil=>exact Nat.le_refl _
 |plain h hi G I j=>
  rw[zbR D (zcE h).1 hi G,if_neg I] at j;exact j
 |mark y h hi B j=>
  refine Nat.le_trans ?_ j;rw[zb5 D (zcE h).1 hi (λq=>by rw[q] at B;cases B)];exact zkN (List.mem_map_of_mem (f:=λy=>cn b x (takeL _ _ y.1 y.2).2 (_+y.1.length)) B)
theorem zjS(B:∀t∈b,TgOk b.length t){turn:Option Nat}{s:WSt}(h:WOk b x s)(Z:some s.at_=turn->1<(hop b x s.ds s.at_).length):WOk b x (wrS b x turn s):=by
 unfold wrS;by_cases hi:s.at_<x.length
 .rw[if_pos hi];obtain⟨F,_⟩:=zcE h.pth;dsimp only;by_cases D:hop b x s.ds s.at_=[]
  .have G:=(zh8 B F hi h.pos).mp D;rw[if_pos D,D];have U:=h.pos;have J0:=zbR B F hi G;have W:(plainL b s.ds x s.at_).2.2.1≠Str.ofString "cut":=λq=>by rw[J0,if_pos q] at U;cases U
   rw[if_neg W] at J0;exact⟨.plain h.pth hi G W,by rw[←J0];exact U,λg=>by rw[←J0];exact h.one g,h.two⟩
  .rw[if_neg D];have G:fitsP b s.ds x s.at_≠[]:=λq=>D ((zh8 B F hi h.pos).mpr q);obtain⟨j,Y⟩:∃j,j=if some s.at_=turn then 1 else 0:=⟨_,J⟩;rw[←Y];have O:j<(hop b x s.ds s.at_).length:=by
    rw[Y];split
    .rename_i g;exact Z g
    .exact List.length_pos_iff.mpr D
   have V:(hop b x s.ds s.at_).getD j mk0∈hop b x s.ds s.at_:=by rw[List.getD_eq_getElem?_getD,List.getElem?_eq_getElem O];exact List.getElem_mem O
   obtain⟨aa,ab⟩:=zcX V;refine⟨.mark _ h.pth hi aa,ab,λg=>?_,λg=>?_⟩
   .by_cases I:1<(hop b x s.ds s.at_).length
    .rw[if_pos I] at g;exact absurd g (by simp)
    .rw[if_neg I] at g;rw[h.one g,zh7 B F hi G];obtain⟨y,e⟩:∃y,hop b x s.ds s.at_=[y]:=List.length_eq_one_iff.mp (by omega);have ac:j=0:=by rw[e] at O;simpa using O
     rw[e,ac];simp
   .by_cases I:1<(hop b x s.ds s.at_).length
    .refine Nat.le_trans ?_ (zmm B h.pth);rw[zh7 B F hi G];exact zkM (by rw[List.length_map];exact I) λn ad=>by
      obtain⟨y,V,rfl⟩:=List.mem_map.mp ad;exact(zcX V).2
    .rw[if_neg I] at g;exact h.two g
 .rw[if_neg hi];exact h
theorem zgd(j:0<cn b x [] 0):WOk b x ⟨0,[],[],[]⟩:=⟨.nil,j,λ_=>rfl,λh=>absurd J h⟩
theorem zbv(j:∀t∈b,TgOk b.length t)(B:0<cn b x [] 0):∀k,WOk b x (wrF b x none k)
 |0=>zgd B
 |k+1=>zjS j (zbv j B k) (λh=>by cases h)
theorem zge{turn:Option Nat}{s:WSt}(B:∀t∈b,TgOk b.length t)(h:WOk b x s)(F:some s.at_=turn->1<(hop b x s.ds s.at_).length)(hi:s.at_<x.length):s.at_<(wrS b x turn s).at_:=by
 unfold wrS;rw[if_pos hi];dsimp only;obtain⟨G,_⟩:=zcE h.pth;by_cases j:hop b x s.ds s.at_=[]
 .rw[if_pos j];have:=(zbe b s.ds x s.at_).1;show s.at_<s.at_+_;omega
 .rw[if_neg j];have D:(if some s.at_=turn then 1 else 0)<(hop b x s.ds s.at_).length:=by
   split
   .rename_i g;exact F g
   .exact List.length_pos_iff.mpr j
  have I:(hop b x s.ds s.at_).getD (if some s.at_=turn then 1 else 0) mk0∈hop b x s.ds s.at_:=by rw[List.getD_eq_getElem?_getD,List.getElem?_eq_getElem D];exact List.getElem_mem D
  have:=(zbz B (G.ok B) (List.mem_filter.mp (zcX I).1).1).1;show s.at_<s.at_+_;omega
theorem zlQ{s:WSt}(h:WOk b x s)(B:s.at_=x.length):s.ds=[]/\Wk b x [] 0 s.ss:=by
 have j:=h.pos;rw[B,zd7] at j;have e:s.ds=[]:=by
  by_cases e:s.ds=[]
  .exact e
  .rw[if_neg e] at j;cases j
 refine⟨e,?_⟩;have D:=h.pth;rw[B,e] at D;have:=zlP D .done;rw[List.append_nil] at this;exact this
theorem zkO{turn:Option Nat}(s:WSt):s.ts <+: (wrS b x turn s).ts:=by
 unfold wrS;by_cases hi:s.at_<x.length
 .rw[if_pos hi];dsimp only;have:s.ts <+: (if 1<(hop b x s.ds s.at_).length then s.ts++[s.at_] else s.ts):=by
   split
   .exact List.prefix_append _ _
   .exact List.prefix_refl _
  split<;>exact this
 .rw[if_neg hi];exact List.prefix_refl _
theorem zkP{turn:Option Nat}(s:WSt):s.ss <+: (wrS b x turn s).ss:=by
 unfold wrS;by_cases hi:s.at_<x.length
 .rw[if_pos hi];dsimp only;split<;>exact List.prefix_append _ _
 .rw[if_neg hi];exact List.prefix_refl _
theorem zgf{turn:Option Nat}(k j:Nat):(wrF b x turn k).ss <+: (wrF b x turn (k+j)).ss:=by
 induction j with
 |zero=>exact List.prefix_refl _
 |succ j B=>exact B.trans (zkP _)
theorem zcY{p:Nat}:∀ {k:Nat},(wrF b x none k).ts.head?=some p->∃j,j<k/\(wrF b x none j).ts=[]/\(wrF b x none j).at_=p/\p<x.length/\1<(hop b x (wrF b x none j).ds p).length
 |0,h=>by cases h
 |k+1,h=>by
  by_cases e:(wrF b x none k).ts=[]
  .have h:(wrS b x none (wrF b x none k)).ts.head?=some p:=h;unfold wrS at h;by_cases hi:(wrF b x none k).at_<x.length
   .rw[if_pos hi] at h;dsimp only at h;by_cases B:1<(hop b x (wrF b x none k).ds (wrF b x none k).at_).length
    .have D:(wrF b x none k).at_=p:=by
      rw[if_pos B,e] at h;split at h<;>simpa using h
     exact⟨k,Nat.lt_succ_self _,e,D,by rw[←D];exact hi,by rw[←D];exact B⟩
    .rw[if_neg B,e] at h;split at h<;>cases h
   .rw[if_neg hi,e] at h;cases h
  .have h':(wrF b x none k).ts.head?=some p:=by
    obtain⟨r,F⟩:=zkO (b:=b) (x:=x) (turn:=none) (wrF b x none k);have h:(wrS b x none (wrF b x none k)).ts.head?=some p:=h;rw[←F] at h;cases q:(wrF b x none k).ts with
    |nil=>exact absurd q e
    |cons a I=>rw[q] at h;exact h
   obtain⟨j,G,r⟩:=zcY h';exact⟨j,Nat.lt_succ_of_lt G,r⟩
theorem zes(B:∀t∈b,TgOk b.length t)(D:0<cn b x [] 0){j k:Nat}(I:j<k)(hi:(wrF b x none j).at_<x.length):(wrF b x none j).at_<(wrF b x none k).at_:=by
 induction k with
 |zero=>omega
 |succ k F=>
  have G:(wrF b x none k).at_<=(wrF b x none (k+1)).at_:=by
   by_cases h:(wrF b x none k).at_<x.length
   .exact Nat.le_of_lt (zge B (zbv B D k) (λq=>by cases q) h)
   .show _<=(wrS b x none (wrF b x none k)).at_;unfold wrS;rw[if_neg h];exact Nat.le_refl _
  by_cases e:j=k
  .subst e;exact zge B (zbv B D j) (λq=>by cases q) hi
  .exact Nat.lt_of_lt_of_le (F (by omega)) G
theorem zci(B:∀t∈b,TgOk b.length t)(D:0<cn b x [] 0){j p:Nat}(F:(wrF b x none j).at_=p)(G:p<x.length):∀k,k<=j->wrF b x (some p) k=wrF b x none k
 |0,_=>rfl
 |k+1,V=>by
  have I:=zci B D F G k (by omega);show wrS b x (some p) (wrF b x (some p) k)=wrS b x none (wrF b x none k);rw[I];have J0:(wrF b x none k).at_≠p:=by
   by_cases h:(wrF b x none k).at_<x.length
   .have:=zes B D (show k<j by omega) h;omega
   .omega
  unfold wrS;have O:(some (wrF b x none k).at_=some p)=False:=by simp[J0]
  have U:(some (wrF b x none k).at_=none)=False:=by simp
  simp only[O,U,if_false]
theorem zgg(B:∀t∈b,TgOk b.length t)(D:0<cn b x [] 0){j p:Nat}(F:(wrF b x none j).at_=p)(G:p<x.length)(I:1<(hop b x (wrF b x none j).ds p).length):∀k,WOk b x (wrF b x (some p) k)/\(j<k->p<(wrF b x (some p) k).at_)
 |0=>⟨zgd D,λh=>by omega⟩
 |k+1=>by
  obtain⟨J0,O⟩:=zgg B D F G I k;have U:some (wrF b x (some p) k).at_=some p->1<(hop b x (wrF b x (some p) k).ds (wrF b x (some p) k).at_).length:=λq=>by
   have V:(wrF b x (some p) k).at_=p:=by simpa using q
   by_cases W:k<=j
   .have e:=zci B D F G k W;rw[e] at V ⊢;have:k=j:=by
     by_cases g:k=j
     .exact g
     .have:=zes B D (show k<j by omega) (by rw[V];exact G);omega
    subst this;rw[F];exact I
   .have:=O (by omega);omega
  refine⟨zjS B J0 U,λW=>?_⟩;show p<(wrS b x (some p) (wrF b x (some p) k)).at_;by_cases hi:(wrF b x (some p) k).at_<x.length
  .have h1:=zge B J0 U hi;by_cases g:k=j
   .subst g;have e:=zci B D F G k (Nat.le_refl _);have:(wrF b x (some p) k).at_=p:=by rw[e];exact F
    omega
   .have:=O (by omega);omega
  .unfold wrS;rw[if_neg hi];omega
end
section
variable {b:Bk}{x:Str}
theorem zgS(G:BkOk b){d:LDr}(I:∃t∈b,∃j∈t.2,d.2.1=j.2.1/\d.2.2=j.2.2):d.2.2∉zaJ (b.getD d.2.1.toNat tg0).2:=by
 intro J0;obtain⟨Y,Z,O,B⟩:=id G;obtain⟨t,D,j,F,aa,U⟩:=I;have hi:=((O t D).2.2 j F).2.1;unfold bookB at B;simp only[Bool.and_eq_true,Bool.not_eq_true'] at B;have V:=List.any_eq_false.mp B.2 d.2.1.toNat (List.mem_range.mpr (by omega));apply V;unfold zcp;obtain⟨d',W,e⟩:=List.mem_map.mp J0;rw[List.any_eq_true];refine⟨d',W,?_⟩;rw[List.any_eq_true];refine⟨d.2.2,?_,?_⟩
 .unfold zdE;rw[List.mem_flatMap];refine⟨t,D,?_⟩;unfold zeo;rw[List.mem_filterMap];refine⟨j,F,?_⟩;rw[if_pos (by omega),U]
 .rw[e,za4 (Nat.zero_le _)];unfold fitAt;rw[show cutS d.2.2 (some ((0:Nat):Int)) (some (((0:Nat):Int)+(d.2.2.length:Int)))=d.2.2 from ?_]
  .simp
  .rw[zbP (by omega)];cases d.2.2;simp[Str.length]
theorem zfy(B:BkOk b){ds:List LDr}(G:LdBk b ds):((possL b ds).map (·.1)).Nodup:=by
 have D:(zaJ (b.getD (zak ds).toNat tg0).2).Nodup:=by
  have j:=B.2.2.2;unfold bookB at j;simp only[Bool.and_eq_true,Bool.not_eq_true'] at j;by_cases F:(zak ds).toNat<b.length
  .exact of_decide_eq_true (List.all_eq_true.mp j.1.1 _ (zap tg0 F))
  .have e:b.getD (zak ds).toNat tg0=tg0:=by simp[F]
   rw[e];exact .nil
 unfold possL;rw[List.map_append,List.map_map,List.map_map];by_cases e:ds=[]
 .subst e;exact D
 .obtain⟨I,d,rfl⟩:=zcW e;rw[zdK];have h1:=zgS B (G d (List.mem_append_right _ List.mem_cons_self));rw[←zcu I d] at h1;exact List.nodup_cons.mpr ⟨h1,D⟩
theorem zkQ(G:BkOk b){ds:List LDr}{i:Nat}(I:LdBk b ds)(hi:i<=x.length)(J0:1<(hop b x ds i).length):((hop b x ds i).getD 0 mk0).1.length≠((hop b x ds i).getD 1 mk0).1.length:=by
 have j:(hop b x ds i).map (·.1) |>.Nodup:=by
  refine List.Nodup.sublist ?_ (zfy G I);exact(List.filter_sublist.trans List.filter_sublist).map _
 intro e
 match h:hop b x ds i,J0 with
 |y0::B::r,_=>
  rw[h] at e j;have e:y0.1.length=B.1.length:=e;have O:y0∈fitsP b ds x i:=(zcX (by rw[h];exact List.mem_cons_self)).1;have h1:B∈fitsP b ds x i:=(zcX (by rw[h];exact List.mem_cons_of_mem _ List.mem_cons_self)).1;have D:=(List.mem_filter.mp O).2;have F:=(List.mem_filter.mp h1).2;rw[za4 hi] at D F;have:=zh0 D F e;rw[List.map_cons,List.map_cons,List.nodup_cons] at j;exact j.1 (by rw[this];exact List.mem_cons_self)
theorem zkR(J0:BkOk b)(B:0<cn b x [] 0){p k1 k2:Nat}(Z:(wrF b x none k1).ts.head?=some p)(h2:(wrF b x (some p) k2).at_=x.length):(wrF b x none k1).ss≠(wrF b x (some p) k2).ss:=by
 have D:=J0.2.2.1;obtain⟨j,ah,_,G,F,I⟩:=zcY Z;have es:=zci D B G F j (Nat.le_refl _);have ai:j<k2:=by
  rcases Nat.lt_or_ge j k2 with g|g
  .exact g
  .exfalso;have e:=zci D B G F k2 g;rw[e] at h2;by_cases q:k2=j
   .subst q;omega
   .have aa:=zes D B (show k2<j by omega);have:(wrF b x none j).at_<=x.length:=(zcE (zbv D B j).pth).2.1;have aj:(wrF b x none k2).at_<=(wrF b x none j).at_:=by
     by_cases O:(wrF b x none k2).at_<x.length
     .exact Nat.le_of_lt (aa O)
     .have ab:∀n,(wrF b x none (k2+n)).at_=(wrF b x none k2).at_:=λn=>by
       induction n with
       |zero=>rfl
       |succ n U=>
        show (wrS b x none (wrF b x none (k2+n))).at_=_;unfold wrS;rw[if_neg (by rw[U];exact O),U]
      have:=ab (j-k2);rw[show k2+(j-k2)=j by omega] at this;omega
    omega
 intro ac;have ad:=(zcE (zbv D B j).pth).1;have V:hop b x (wrF b x none j).ds p≠[]:=λq=>by rw[q] at I;cases I
 have ae:(wrF b x none (j+1)).ss=(wrF b x none j).ss++[(takeL (wrF b x none j).ds p ((hop b x (wrF b x none j).ds p).getD 0 mk0).1 ((hop b x (wrF b x none j).ds p).getD 0 mk0).2).1]:=by
  show (wrS b x none (wrF b x none j)).ss=_;unfold wrS;rw[G,if_pos F];dsimp only;rw[if_neg V,if_neg (by simp)]
 have af:(wrF b x (some p) (j+1)).ss=(wrF b x none j).ss++[(takeL (wrF b x none j).ds p ((hop b x (wrF b x none j).ds p).getD 1 mk0).1 ((hop b x (wrF b x none j).ds p).getD 1 mk0).2).1]:=by
  show (wrS b x (some p) (wrF b x (some p) j)).ss=_;rw[es];unfold wrS;rw[G,if_pos F];dsimp only;rw[if_neg V,if_pos rfl]
 have W:=zgf (b:=b) (x:=x) (turn:=none) (j+1) (k1-(j+1));have p2:=zgf (b:=b) (x:=x) (turn:=some p) (j+1) (k2-(j+1));rw[show j+1+(k1-(j+1))=k1 by omega,ae] at W;rw[show j+1+(k2-(j+1))=k2 by omega,af,←ac] at p2;have e:=(List.prefix_of_prefix_length_le W p2 (by simp)).eq_of_length (by simp);have e:=List.append_cancel_left e;injection e with e;have Y:∀(y:Mk),(takeL (wrF b x none j).ds p y.1 y.2).1.2.1=(y.1.length:Int):=λy=>by
  obtain⟨m,o⟩:=y;cases o<;>rfl
 have ag:=congrArg (λs:Stp=>s.2.1) e;rw[Y,Y] at ag;exact zkQ J0 ad (Nat.le_of_lt F) I (by omega)
end
section
variable {b:Bk}{x:Str}
theorem zgh{l:List Mk}(j:(l.map (·.1)).Nodup){y:Mk}(B:y∈l):l.filter (λz=>z.1==y.1)=[y]:=by
 induction l with
 |nil=>cases B
 |cons a r D=>
  rw[List.map_cons,List.nodup_cons] at j;rcases List.mem_cons.mp B with e|h
  .subst e;rw[List.filter_cons_of_pos (by simp)];have:r.filter (λz=>z.1==y.1)=[]:=by
    rw[List.filter_eq_nil_iff];intro z F q;exact j.1 (by rw[←eq_of_beq q];exact List.mem_map_of_mem F)
   rw[this]
  .rw[List.filter_cons_of_neg (λq=>j.1 (by rw[eq_of_beq q];exact List.mem_map_of_mem h))];exact D j.2 h
theorem zjf(j:BkOk b){ds:List LDr}{i:Nat}(B:LdBk b ds)(hi:i<x.length){y:Mk}(F:y∈fitsP b ds x i):stepL b ds x i y.1=takeL ds i y.1 y.2:=by
 have G:=j.2.2.1;have D:=(List.mem_filter.mp F).1;have I:=zbz G (B.ok G) D;have J0:=(List.mem_filter.mp F).2;rw[za4 (Nat.le_of_lt hi)] at J0;have U:(⟨#[x.cps.getD i 0]⟩:Str)≠(b.getD (zak ds).toNat tg0).1:=by
  have V:=ze5 (Nat.le_of_lt hi) J0 I.1;by_cases O:(zak ds).toNat<b.length
  .exact zer j (zap tg0 O) (zd6 B (zbG D)) V
  .have e:b.getD (zak ds).toNat tg0=tg0:=by simp[O]
   rw[e];intro q;have:(#[x.cps.getD i 0]:Array Nat).size=0:=by rw[show (#[x.cps.getD i 0]:Array Nat)=(⟨#[x.cps.getD i 0]⟩:Str).cps from rfl,q];rfl
   cases this
 have W:y.1≠Str.ofString "":=λq=>by
  have:=I.1;rw[q] at this;exact absurd this (by decide +kernel)
 exact ze6 (o:=y.2) (r:=[]) W U (zgh (zfy j B) D)
theorem zgi{ds:List LDr}{i:Nat}(hi:i<=x.length):fitsP b ds x i=[]↔fitL b ds x i=[]:=by
 constructor
 .intro h;unfold fitL;rw[List.filter_eq_nil_iff];intro m B q;obtain⟨y,j,rfl⟩:=zdJ B;unfold fitsP at h;rw[List.filter_eq_nil_iff] at h;apply h y j;rw[za4 hi];exact q
 .intro h;unfold fitsP;rw[List.filter_eq_nil_iff];intro y j q;unfold fitL at h;rw[List.filter_eq_nil_iff] at h;apply h y.1 (zbG j);rw[←za4 hi];exact q
theorem zcF{ds:List LDr}{i:Nat}(hi:i<=x.length):((fitsP b ds x i).map (·.1)).Perm (fitL b ds x i):=by
 have e:(fitsP b ds x i).map (·.1)=((possL b ds).map (·.1)).filter (fitAt x i):=by
  unfold fitsP;rw[List.filter_map];congr 1;refine List.filter_congr λy _=>?_;exact za4 hi
 rw[e];unfold fitL someL possL;rw[List.map_append,List.map_map,List.map_map,List.filter_append,List.filter_append];exact List.perm_append_comm
theorem zjg{l l':List Nat}(h:l.Perm l'):l.sum=l'.sum:=by
 induction h with
 |nil=>rfl
 |cons a _ j=>rw[List.sum_cons,List.sum_cons,j]
 |swap a c l=>rw[List.sum_cons,List.sum_cons,List.sum_cons,List.sum_cons];omega
 |trans _ _ B D=>exact B.trans D
theorem zgj(B:BkOk b){ds:List LDr}{i:Nat}(D:LdBk b ds)(hi:i<x.length){m:Str}(F:m∈fitL b ds x i):∃y∈fitsP b ds x i,y.1=m/\stepL b ds x i m=takeL ds i y.1 y.2:=by
 have:=(zcF (b:=b) (ds:=ds) (x:=x) (Nat.le_of_lt hi)).mem_iff.mpr F;obtain⟨y,j,rfl⟩:=List.mem_map.mp this;exact⟨y,j,J,zjf B D hi j⟩
end
end T1
namespace L2
open PySem PySem.Spec PyProof.Rows
section
variable {P:Program}{w:World}{K:W.Frag}{mg:Str->Option Value}{base:Heap}
theorem Fun.okC{x qual:Str}{st:Stmt}{f c:Addr}{fd:FuncData}{N ps:List Str}{k:Nat}{sp:Sp}(F:Fun K x qual st f fd)(j:fd.code=.ref c)(S:zau N ps (zah st))(len:∀vs H Q E,sp vs H Q E->vs.length=ps.length)(B:∀(A:Around) (outer:List Env) (s:Shared) (H:Hp) (vs:List V) (Q:VK) (E:XK),Room k (A.deeper (envOfC qual (zah st) s.heap.objs.size f (.ref c)))->sp vs H Q E ->
   ∃t,PSs (cxOf CX0 P w K mg base N qual (zah st) f (.ref c) A outer s H E).nox (zbn st) t/\t { nx:=λ_ H'=>Q .non H',rt:=Q } (start N vs) H):FnOk P w K mg base CX0 (k+1) f fd ps sp:=by
 obtain⟨oc,od,kV,doc,pm,an,cdv,ct,osl,rfl,D,G⟩:=F.ex;have j:cdv=.ref c:=j;subst j;refine zj5 D G S len λA outer s H vs Q E I J0=>?_;obtain⟨t,h,q⟩:=B A outer s H vs Q E I J0;exact⟨t,h.nox,q⟩
end
end L2
namespace T1
open PySem L2
variable {P:Program}{w:World}{K:W.Frag}{mg:Str->Option Value}{base:Heap}
noncomputable abbrev lamQ:Str:=(Str.ofString "read_step"++Str.ofString ".<locals>.")++Str.ofString "<lambda>"
noncomputable abbrev LamTb(tb:Addr)(H:Hp):Prop:=LamT tb lamLn lamCl lamQ H
theorem _root_.L2.LamT.same{P:Addr}{j cl:Nat}{q:Str}{H H':Hp}(h:LamT P j cl q H)(s:Same H H'):LamT P j cl q H':=by
 rcases h with h|⟨B,h1,h2⟩
 .exact .inl (s _ _ h)
 .exact .inr ⟨B,s _ _ h1,s _ _ h2⟩
theorem _root_.L2.LamT.sameX{P p:Addr}{B cl:Nat}{q:Str}{H H':Hp}{l:List V}(h:LamT P B cl q H)(j:H p=some (.lst l))(s:SameX p H H'):LamT P B cl q H':=by
 rcases h with h|⟨D,h1,h2⟩
 .exact .inl (s _ _ (zaI h j (by intro q;cases q)) h)
 .exact .inr ⟨D,s _ _ (zaI h1 j (by intro q;cases q)) h1,s _ _ (zaI h2 j (by intro q;cases q)) h2⟩
mutual
theorem Rep.butT{z P:Addr}{H H':Hp}{ps:Array Value}(j:H P=some (.tbl ps))(s:ButX P H H'):∀ {v:V}{d:D},Rep z H v d->Rep z H' v d
 |_,_,.non=>.non
 |_,_,.bl b=>.bl b
 |_,_,.int i=>.int i
 |_,_,.str x h=>.str x h
 |_,_,.tup h B r=>.tup (s _ _ (zaI h j (by intro q;cases q)) h) B (Reps.butT j s r)
 |_,_,.lst h B r=>.lst (s _ _ (zaI h j (by intro q;cases q)) h) B (Reps.butT j s r)
theorem Reps.butT{z P:Addr}{H H':Hp}{ps:Array Value}(j:H P=some (.tbl ps))(s:ButX P H H'):∀ {vs:List V}{ds:List D},Reps z H vs ds->Reps z H' vs ds
 |_,_,.nil=>.nil
 |_,_,.cons h t=>.cons (Rep.butT j s h) (Reps.butT j s t)
end
noncomputable def But2(q t:Addr)(H H':Hp):Prop:=∀b o,b≠q->b≠t->H b=some o->H' b=some o
inductive zdL(tb:Addr):List V->Hp->VK->XK->Prop where
 |mk {vs:List V} {H:Hp} {Q:VK} {E:XK} (z v b q ds x:_) (i:Nat) (c1:vs=[v,.str x,.int i,.ref q]) (c2:Bag z H) (c3:q≠z) (c4:Rep z H v (bkD b)) (c5:BkOk b) (c6:PDs z H q ds) (c7:LdBk b ds) (c8:i<x.length) (c9:x.length<=20000) (c10:ds.length<=20000) (c11:LamTb tb H) (c12:∀p H',But2 q tb H H'->H p=none->H' p=some (.tup (stV (stepL b ds x i (bestL b ds x i)).1))->PDs z H' q (stepL b ds x i (bestL b ds x i)).2->LamTb tb H'->Q (.ref p) H'):zdL tb vs H Q E
theorem scStepP:zau ["book","text","place","doors","fits","mark","door"] ["book","text","place","doors"] (zah sStep):=⟨J,J,J,by decide +kernel,J,by decide +kernel,by decide +kernel⟩
theorem zjh{f c tb Y Z aa:Addr}{fd al am ao:FuncData}(F:Fun K "read_step" "read_step" sStep f fd)(aH:fd.code=.ref c)(aI:W.codeHdIn K c tb=true)(aJ:base.BuiltinsAt mg tb)(T:TxtB mg)(aK:mg "max"=none)(k1:W.keepIn K (.ref Y)=true)(aL:Binds K al ["book","text","place","doors"] [])(aM:mg "fitting_marks"=some (.ref Y))(aN:FnOk P w K mg base CX0 3 Y al ["book","text","place","doors"] zdH)(k2:W.keepIn K (.ref Z)=true)(aO:Binds K am ["book","text","place","doors"] [])(aP:mg "read_plain"=some (.ref Z))(aQ:FnOk P w K mg base CX0 2 Z am ["book","text","place","doors"] zcf)(k3:W.keepIn K (.ref aa)=true)(aR:Binds K ao ["mark","door","place","doors"] [])(aS:mg "take_mark"=some (.ref aa))(aT:FnOk P w K mg base CX0 2 aa ao ["mark","door","place","doors"] zcV):FnOk P w K mg base CX0 4 f fd ["book","text","place","doors"] (zdL tb):=by
 refine F.okC aH scStepP (λvs H Q E h=>?_) (λA outer s H vs Q E J0 h=>?_)
 .obtain⟨z,v,b,q,ds,x,i,rfl,_⟩:=h;rfl
 .obtain⟨z,v,b,q,ds,x,i,rfl,ap,aU,aq,O,U,ar,hi,aV,aW,as,k⟩:=h;have ab:=scStepP.nd;have aX:=O.2.2.1;have au:=ar.ok aX;refine⟨_,zac (zaq (i:=4) ab J (Or.inl J) (zaj aN J0 J aM k1 aL .nil pass0 (zaa (pv 0) (zaa (pv 1) (zaa (pv 2) (zaa (pv 3) zad))))))
   (zac (zaY (zc0 (zb8 (pv 4) (λ_=>rfl))) (zaf (zas (zaj (aQ.mono (by omega)) J0 J aP k2 aO .nil pass0 (zaa (pv 0) (zaa (pv 1) (zaa (pv 2) (zaa (pv 3) zad))))))) zaz)
   (zac (zba (zgJ (P:=tb) (c:=c) J J0.in1.depth aK T.len J aI aJ (pv 4) (λ_ _ _ _=>rfl)) (zaZ J (zam (zai (i:=5) ab J (Or.inl J)) (zam (zai (i:=6) ab J (Or.inl J)) zaE))))
   (zaf (zas (zaj (aT.mono (by omega)) J0 J aS k3 aR .nil pass0 (zaa (pv 5) (zaa (pv 6) (zaa (pv 2) (zaa (pv 3) zad))))))))),?_⟩
  dsimp only[cxOf,Cx.nox,Cx.wish];have bm:=zaR;refine⟨_,J,_,J,_,J,_,J,z,v,b,q,ds,x,i,J,ap,aq,O,U,au,λaY D H1 B bn av ac=>?_⟩;have aZ:D.length=(fitsP b ds x i).length:=by have:=ac.length;simpa using this
  refine⟨_,J,_,.inl ⟨D,SqL.of av,J⟩,?_⟩;refine ite2 (λg=>?_) (λg=>?_)
  .have a1:fitsP b ds x i=[]:=by
    refine List.eq_nil_of_length_eq_zero ?_;cases D with
    |nil=>simp at aZ;omega
    |cons _ _=>simp at g
   have ad:=zcg (b:=b) (ds:=ds) hi a1;rw[ad] at k;refine⟨_,J,_,J,_,J,_,J,z,v,b,q,ds,x,i,J,aq.mono B.x,O,U.same B,au,hi,aV,λp H2 ae np af=>?_⟩;exact k p H2 (λb' o _ _ e=>(B.trans ae) b' o e) (B.free np) af (U.same (B.trans ae)) (as.same (B.trans ae))
  .have hpos:0<D.length:=by
    cases D with
    |nil=>simp at g
    |cons _ _=>simp
   have aw:=as.same B;refine⟨_,J,aY,D,(λj=>((fitsP b ds x i).getD j mk0).1),J,av,hpos,(λj I=>?_),aw,λH2 j y G ax I a2=>?_⟩
   .obtain⟨a,u,e,a3,ag,ah,ay⟩:=zc6 (zb3 (ms:=fitsP b ds x i) (i:=j) ac (by omega));refine⟨a,[u],?_,ag,ah⟩;have h2:D.getD j .non=D[j]:=by simp[I]
    rw[List.getElem?_eq_getElem I,←h2,e]
   .obtain⟨ps,V⟩:=aw.tbl;have bo:j<D.length:=(List.getElem?_eq_some_iff.mp I).1;have a4:y=D.getD j .non:=by rw[List.getD_eq_getElem?_getD,I];rfl
    have a5:=Rep.butT V G (zb3 (ms:=fitsP b ds x i) (i:=j) ac (by omega));obtain⟨a,u,e,a3,ag,ah,ay⟩:=zc6 a5;have az:(fitsP b ds x i)[j]?=some ((fitsP b ds x i).getD j mk0):=by
     have h1:j<(fitsP b ds x i).length:=by omega
     simp[h1]
    have ad:=ze8 O ar hi az (λai a6 aA=>by
     have h1:ai<(fitsP b ds x i).length:=(List.getElem?_eq_some_iff.mp aA).1;have:=a2 ai (by omega);have a7:(fitsP b ds x i).getD ai mk0=a6:=by rw[List.getD_eq_getElem?_getD,aA];rfl
     dsimp only at this;rw[a7] at this;exact this)
    rw[ad] at k;generalize bp:(fitsP b ds x i).getD j mk0=aj at *;have aB:aj∈possL b ds:=(List.mem_filter.mp (List.mem_of_getElem? az)).1;obtain⟨vs,a8,a9⟩:=U;have aC:=B _ _ a8;have aD:=G _ _ (zaI aC V (by intro q;cases q)) aC;have ba:=Reps.butT V G (a9.mono B.x);have bb:Bag z H2:=by
     obtain⟨bc,bd,aE⟩:=ap.same B;exact⟨bc,bd,G _ _ (zaI aE V (by intro q;cases q)) aE⟩
    rw[a4,e];refine⟨a,_,J,SqT.of ag,J,_,_,J,_,_,J,J,?_⟩;refine⟨_,J,_,J,_,J,_,J,z,aj.1,u,aj.2,i,q,ds,J,bb,aU,ay,ah,⟨vs,aD,ba⟩,aW,λaF=>?_,λp be aG np af bf=>?_⟩
    .have bg:0<ds.length:=by
      unfold possL at aB;rcases List.mem_append.mp aB with h|h
      .obtain⟨d,ak,_⟩:=List.mem_map.mp h;exact List.length_pos_iff.mpr (λq=>by rw[q] at ak;cases ak)
      .obtain⟨d,ak,bh⟩:=List.mem_map.mp h;rw[←bh] at aF;cases aF
     exact bg
    .refine k p be (λb' o bi bj bk=>aG b' o bi (G b' o bj (B b' o bk))) ?_ af bf (ax.sameX aD aG);cases e4:H p with
     |none=>rfl
     |some o=>
      have:H2 p=some o:=by
       refine G p o (λz=>?_) (B p o e4);subst z;obtain⟨bq,bl⟩:=ax.tbl;rw[bl] at np;cases np
      rw[this] at np;cases np
mutual
theorem Rep.but2{z q t:Addr}{H H':Hp}{l:List V}{ps:Array Value}(j:H q=some (.lst l))(B:H t=some (.tbl ps))(s:But2 q t H H'):∀ {v:V}{d:D},Rep z H v d->NoL d->Rep z H' v d
 |_,_,.non,_=>.non
 |_,_,.bl b,_=>.bl b
 |_,_,.int i,_=>.int i
 |_,_,.str x h,_=>.str x h
 |_,_,.tup h F r,.tup k=>.tup (s _ _ (zaI h j (by intro q;cases q)) (zaI h B (by intro q;cases q)) h) F (Reps.but2 j B s r k)
theorem Reps.but2{z q t:Addr}{H H':Hp}{l:List V}{ps:Array Value}(j:H q=some (.lst l))(B:H t=some (.tbl ps))(s:But2 q t H H'):∀ {vs:List V}{ds:List D},Reps z H vs ds->NoLs ds->Reps z H' vs ds
 |_,_,.nil,_=>.nil
 |_,_,.cons h k,.cons h' G=>.cons (Rep.but2 j B s h h') (Reps.but2 j B s k G)
end
theorem But2.trans{q t:Addr}{H H1 H2:Hp}(a:But2 q t H H1)(b:But2 q t H1 H2):But2 q t H H2:=λx o h1 h2 e=>b x o h1 h2 (a x o h1 h2 e)
theorem zh9{j:Type}(l:List j)(i k:Nat):(l.drop (min i l.length)).take (min (i+k) l.length-min i l.length)=(l.drop i).take k:=by
 by_cases h:i<=l.length
 .rw[Nat.min_eq_left h];by_cases h2:i+k<=l.length
  .rw[Nat.min_eq_left h2,Nat.add_sub_cancel_left]
  .rw[Nat.min_eq_right (by omega),List.take_of_length_le (by simp),List.take_of_length_le (by simp;omega)]
 .rw[Nat.min_eq_right (by omega),Nat.min_eq_right (by omega),List.drop_eq_nil_of_le (Nat.le_refl _),List.drop_eq_nil_of_le (by omega)];simp
theorem zb6{a c:Str}(h:a.cps.toList=c.cps.toList):a=c:=by
 obtain⟨⟨a⟩⟩:=a;obtain⟨⟨c⟩⟩:=c;have h:a=c:=h;rw[h]
theorem za5(x:Str):x.cps.toList.length=x.length:=by simp;rfl
theorem zgk(x:Str)(i k:Nat):(cutS x (some (i:Int)) (some ((i:Int)+(k:Int)))).cps.toList=(x.cps.toList.drop i).take k:=by
 unfold cutS;have e:((i:Int)+(k:Int))=((i+k:Nat):Int):=by omega
 rw[e,HT.sIx_nat,HT.sIx_nat];show ((x.cps.toList.drop (min i x.length)).take (min (i+k) x.length-min i x.length))=_;rw[←za5];exact zh9 _ _ _
theorem zbw(a c:Str):(a++c).cps.toList=a.cps.toList++c.cps.toList:=by
 show (a.cps++c.cps).toList=_;simp
theorem zcZ(a c:Str):(a++c).length=a.length+c.length:=by rw[←za5,zbw,List.length_append,za5,za5]
noncomputable def mapS(f:Nat->Nat)(x:Str):Str:=⟨x.cps.map f⟩
section
variable {f:Nat->Nat}{x y m:Str}
theorem zaX(f:Nat->Nat)(x:Str):(mapS f x).cps.toList=x.cps.toList.map f:=by
 show (x.cps.map f).toList=_;rw[Array.toList_map]
theorem zaB(f:Nat->Nat)(x:Str):(mapS f x).length=x.length:=by
 show (x.cps.map f).size=_;rw[Array.size_map];rfl
theorem zdl(f:Nat->Nat)(x y:Str):mapS f (x++y)=mapS f x++mapS f y:=zb6 (by rw[zaX,zbw,zbw,zaX,zaX,List.map_append])
theorem zdm(f:Nat->Nat)(c:Nat):mapS f ⟨#[c]⟩=⟨#[f c]⟩:=zb6 (by rw[zaX];rfl)
theorem zdn(j:∀a c,f a=f c->a=c)(h:mapS f x=mapS f y):x=y:=by
 have h:=congrArg (λz:Str=>z.cps.toList) h;simp only[zaX] at h;refine zb6 ?_;generalize x.cps.toList=l at h;generalize y.cps.toList=k at h;induction l generalizing k with
 |nil=>cases k with
  |nil=>rfl
  |cons a r=>cases h
 |cons a r B=>cases k with
  |nil=>cases h
  |cons c s=>
   rw[List.map_cons,List.map_cons] at h;injection h with h1 h2;rw[j _ _ h1,B _ h2]
theorem zia(f:Nat->Nat){i:Nat}(h:i<x.length):(mapS f x).cps.getD i 0=f (x.cps.getD i 0):=by
 have h1:i<x.cps.size:=h;show (x.cps.map f).getD i 0=_;simp[Array.getD,h1]
theorem fitAt_list{i:Nat}:fitAt x i m=true↔(x.cps.toList.drop i).take m.length=m.cps.toList:=by
 unfold fitAt;rw[decide_eq_true_iff];constructor
 .intro h;injection h with h;rw[←zgk,h]
 .intro h;congr 1;exact zb6 (by rw[zgk,h])
theorem zib(j:∀a c,f a=f c->a=c)(i:Nat):fitAt (mapS f x) i (mapS f m)=fitAt x i m:=by
 rw[Bool.eq_iff_iff,fitAt_list,fitAt_list,zaX,zaX,zaB,←List.map_drop,←List.map_take];constructor
 .intro h;generalize (x.cps.toList.drop i).take m.length=l at h;generalize m.cps.toList=k at h;induction l generalizing k with
  |nil=>cases k with
   |nil=>rfl
   |cons a r=>cases h
  |cons a r B=>cases k with
   |nil=>cases h
   |cons c s=>
    rw[List.map_cons,List.map_cons] at h;injection h with h1 h2;rw[j _ _ h1,B _ h2]
 .intro h;rw[h]
theorem zdo(j:∀a c,f a=f c->a=c){i:Nat}(hi:i<=x.length):stAt (mapS f x) (mapS f m) i=stAt x m i:=by
 rw[za4 (by rw[zaB];exact hi),za4 hi,zib j]
end
noncomputable def drM(f:Nat->Nat)(τ:Int->Int)(d:Dr):Dr:=(mapS f d.1,τ d.2.1,mapS f d.2.2)
noncomputable def ldM(f:Nat->Nat)(τ:Int->Int)(d:LDr):LDr:=(d.1,τ d.2.1,mapS f d.2.2)
noncomputable def mkM(f:Nat->Nat)(τ:Int->Int)(y:Mk):Mk:=(mapS f y.1,y.2.map (drM f τ))
noncomputable def stM(τ:Int->Int)(s:Stp):Stp:=(s.1,s.2.1,s.2.2.1,τ s.2.2.2.1,s.2.2.2.2)
structure Sim(f:Nat->Nat)(τ:Int->Int)(b b':Bk):Prop where
 ok:BkOk b
 ok':BkOk b'
 fi:∀a c,f a=f c->a=c
 len:b'.length=b.length
 t0:τ 0=0
 tn:∀t:Nat,t<b.length->∃t':Nat,τ (t:Int)=(t':Int)/\t'<b.length/\(b'.getD t' tg0).1=mapS f (b.getD t tg0).1/\((b'.getD t' tg0).2).Perm ((b.getD t tg0).2.map (drM f τ))
section
variable {f:Nat->Nat}{τ:Int->Int}{b b':Bk}{x:Str}
theorem Sim.tongue(S:Sim f τ b b')(ds:List LDr):zak (ds.map (ldM f τ))=τ (zak ds):=by
 unfold zak;rw[List.getLast?_map];cases ds.getLast? with
 |none=>exact S.t0.symm
 |some d=>rfl
theorem Sim.at(S:Sim f τ b b'){ds:List LDr}(j:LdBk b ds):(b'.getD (τ (zak ds)).toNat tg0).1=mapS f (b.getD (zak ds).toNat tg0).1/\((b'.getD (τ (zak ds)).toNat tg0).2).Perm ((b.getD (zak ds).toNat tg0).2.map (drM f τ)):=by
 obtain⟨B,_,D,_⟩:=id S.ok;obtain⟨F,e,G⟩:=zbg (j.ok D) B;obtain⟨t',I,U,J0,O⟩:=S.tn F G;rw[e,I];exact⟨J0,O⟩
theorem zic(ds:List LDr):lastL (ds.map (ldM f τ))=(lastL ds).map (ldM f τ):=by
 unfold lastL;rw[List.length_map,List.map_drop]
theorem Sim.poss(S:Sim f τ b b'){ds:List LDr}(j:LdBk b ds):(possL b' (ds.map (ldM f τ))).Perm ((possL b ds).map (mkM f τ)):=by
 unfold possL;rw[S.tongue,zic,List.map_append,List.map_map,List.map_map,List.map_map];refine List.Perm.append (List.Perm.of_eq J) ?_;have h:=((S.at j).2).map λd:Dr=>((d.1,some d):Mk);rw[List.map_map] at h;exact h
theorem Sim.fits(S:Sim f τ b b'){ds:List LDr}(j:LdBk b ds){i:Nat}(hi:i<=x.length):(fitsP b' (ds.map (ldM f τ)) (mapS f x) i).Perm ((fitsP b ds x i).map (mkM f τ)):=by
 unfold fitsP;refine((S.poss j).filter _).trans (List.Perm.of_eq ?_);rw[List.filter_map];congr 1;refine List.filter_congr λy _=>?_;exact zdo S.fi hi
theorem Sim.bk(S:Sim f τ b b'){ds:List LDr}(G:LdBk b ds):LdBk b' (ds.map (ldM f τ)):=by
 intro d I;obtain⟨j,J0,rfl⟩:=List.mem_map.mp I;obtain⟨t,O,B,U,V,W⟩:=G j J0;obtain⟨n,D,rfl⟩:=List.mem_iff_getElem.mp O;obtain⟨t',ab,Y,ac,F⟩:=S.tn n D;have Z:b.getD n tg0=b[n]:=za2 tg0 D;rw[Z] at F;have aa:drM f τ B∈(b'.getD t' tg0).2:=F.symm.subset (List.mem_map_of_mem U);refine⟨_,zap tg0 (by rw[S.len];exact Y),_,aa,?_,?_⟩
 .show τ j.2.1=τ B.2.1;rw[V]
 .show mapS f j.2.2=mapS f B.2.2;rw[W]
theorem Sim.plain(S:Sim f τ b b'){ds:List LDr}(j:LdBk b ds){i:Nat}(hi:i<x.length):plainL b' (ds.map (ldM f τ)) (mapS f x) i=stM τ (plainL b ds x i):=by
 unfold plainL;rw[S.tongue,(S.at j).1,zia f hi,←zdm,zaB,List.length_map];by_cases h:(⟨#[x.cps.getD i 0]⟩:Str)=(b.getD (zak ds).toNat tg0).1
 .rw[if_pos h,if_pos (by rw[h])];split<;>rfl
 .rw[if_neg h,if_neg (λq=>h (zdn S.fi q))];rfl
theorem zgl(ds:List LDr)(i:Nat)(m:Str)(o:Option Dr)(B:τ 0=0):takeL (ds.map (ldM f τ)) i (mapS f m) (o.map (drM f τ))=(stM τ (takeL ds i m o).1,(takeL ds i m o).2.map (ldM f τ)):=by
 have j:∀ds:List LDr,zak (ds.map (ldM f τ))=τ (zak ds):=λds=>by
  unfold zak;rw[List.getLast?_map];cases ds.getLast? with
  |none=>exact B.symm
  |some d=>rfl
 cases o with
 |none=>
  show ((_,_,_,zak ((ds.map (ldM f τ)).dropLast),_),(ds.map (ldM f τ)).dropLast)=_;rw[←List.map_dropLast,j,zaB,List.length_map];rfl
 |some d=>
  show ((_,_,_,zak (ds.map (ldM f τ)),_),ds.map (ldM f τ)++[_])=_;rw[j,zaB,List.length_map];show _=(_,(ds++[_]).map (ldM f τ));rw[List.map_append];rfl
theorem Sim.step(S:Sim f τ b b'){ds:List LDr}(B:LdBk b ds){i:Nat}(hi:i<x.length):stepL b' (ds.map (ldM f τ)) (mapS f x) i (bestL b' (ds.map (ldM f τ)) (mapS f x) i)=(stM τ (stepL b ds x i (bestL b ds x i)).1,(stepL b ds x i (bestL b ds x i)).2.map (ldM f τ)):=by
 have ab:=S.bk B;have V:i<(mapS f x).length:=by rw[zaB];exact hi
 have D:=S.fits (x:=x) B (i:=i) (by omega);by_cases F:fitsP b ds x i=[]
 .have I:fitsP b' (ds.map (ldM f τ)) (mapS f x) i=[]:=by rw[F] at D;exact List.Perm.eq_nil D
  rw[zcg hi F,zcg V I,S.plain B hi]
 .have I:fitsP b' (ds.map (ldM f τ)) (mapS f x) i≠[]:=λq=>by
   rw[q] at D;have:=D.symm.eq_nil;exact F (List.map_eq_nil_iff.mp this)
  have W:∀ {b:Bk} {ds:List LDr} {x:Str},BkOk b->LdBk b ds->i<x.length->fitsP b ds x i≠[]->∃y∈fitsP b ds x i,stepL b ds x i (bestL b ds x i)=takeL ds i y.1 y.2/\∀z∈fitsP b ds x i,z.1.length<=y.1.length:=λ{b ds x} ok B hi F=>by
   have ac:fitL b ds x i≠[]:=λq=>F ((zgi (by omega)).mpr q);rcases zcd (l:=fitL b ds x i) λm J0=>zcU (x:=x) (i:=i) ok.2.2.1 (B.ok ok.2.2.1) m (List.mem_filter.mp J0).1 with⟨h1,_⟩|⟨h1,h2⟩
   .exact absurd h1 ac
   .obtain⟨y,G,Y,Z⟩:=zgj ok B hi h1;refine⟨y,G,Z,λz O=>?_⟩;rw[Y];exact h2 _ (((zcF (by omega)).mem_iff).mp (List.mem_map_of_mem O))
  obtain⟨y,G,e,J0⟩:=W S.ok B hi F;obtain⟨ak,ad,ae,af⟩:=W S.ok' ab V I;obtain⟨j,U,rfl⟩:=List.mem_map.mp (D.subset ad);have ag:j.1.length=y.1.length:=by
   have h1:=J0 j U;have h2:(mkM f τ y).1.length<=(mkM f τ j).1.length:=af _ (D.symm.subset (List.mem_map_of_mem G));have Y:(mkM f τ y).1.length=y.1.length:=zaB f y.1;have Z:(mkM f τ j).1.length=j.1.length:=zaB f j.1;omega
  have aa:∀ {z:Mk},z∈fitsP b ds x i->(x.cps.toList.drop i).take z.1.length=z.1.cps.toList:=λ{z} O=>by
   have h:=(List.mem_filter.mp O).2;rw[za4 (by omega)] at h;exact fitAt_list.mp h
  have ah:j.1=y.1:=zb6 (by rw[←aa U,←aa G,ag]);have ai:j=y:=by
   have aj:=zfy S.ok B;have h1:=zgh aj (List.mem_filter.mp G).1;have h2:j∈(possL b ds).filter (λz=>z.1==y.1):=List.mem_filter.mpr ⟨(List.mem_filter.mp U).1,by rw[ah];exact beq_self_eq_true _⟩;rw[h1] at h2;exact List.mem_singleton.mp h2
  subst ai;rw[e,ae];exact zgl ds i j.1 j.2 S.t0
theorem Sim.run(S:Sim f τ b b'):∀n,runF b' (mapS f x) n=⟨(runF b x n).at_,(runF b x n).ds.map (ldM f τ),(runF b x n).ss.map (stM τ)⟩
 |0=>rfl
 |n+1=>by
  have j:=S.run n;show zaS b' (mapS f x) (runF b' (mapS f x) n)=_;rw[j];unfold zaS;rw[zaB];have B:=(zc4 (x:=x) S.ok.2.2.1 S.ok.1 n).bk;by_cases h:(runF b x n).at_<x.length
  .rw[if_pos h,S.step B h];show _=(⟨(zaS b x (runF b x n)).at_,(zaS b x (runF b x n)).ds.map (ldM f τ),(zaS b x (runF b x n)).ss.map (stM τ)⟩:RunSt);unfold zaS;rw[if_pos h,List.map_append];rfl
  .rw[if_neg h];show _=(⟨(zaS b x (runF b x n)).at_,(zaS b x (runF b x n)).ds.map (ldM f τ),(zaS b x (runF b x n)).ss.map (stM τ)⟩:RunSt);unfold zaS;rw[if_neg h]
theorem Sim.cn(S:Sim f τ b b'):∀(k:Nat) (ds:List LDr) (i:Nat),LdBk b ds->x.length-i=k->i<=x.length->cn b' (mapS f x) (ds.map (ldM f τ)) i=cn b x ds i:=by
 intro k;induction k using Nat.strongRecOn with
 |ind k U=>
  intro ds i j ab hi;have V:=S.bk j;have F:=S.ok.2.2.1;have W:=S.ok'.2.2.1;by_cases Z:i=x.length
  .subst Z;rw[zd7];have:=zd7 (b:=b') (x:=mapS f x) (ds.map (ldM f τ));rw[zaB] at this;rw[this];by_cases e:ds=[]
   .subst e;rfl
   .rw[if_neg e,if_neg (λq=>e (List.map_eq_nil_iff.mp q))]
  .have B:i<x.length:=by omega
   have Y:i<(mapS f x).length:=by rw[zaB];exact B
   have D:=S.fits (x:=x) j (i:=i) hi;by_cases G:fitsP b ds x i=[]
   .have I:fitsP b' (ds.map (ldM f τ)) (mapS f x) i=[]:=by rw[G] at D;exact List.Perm.eq_nil D
    rw[zbR F j B G,zbR W V Y I,S.plain j B];obtain⟨ac,ad,ae,J0⟩:=zbe b ds x i;have J0:=J0 B;show (if (plainL b ds x i).2.2.1=_ then _ else _)=_;split
    .rfl
    .exact U (x.length-(i+(plainL b ds x i).2.1.toNat)) (by omega) ds _ j rfl J0
   .have I:fitsP b' (ds.map (ldM f τ)) (mapS f x) i≠[]:=λq=>by
     rw[q] at D;exact G (List.map_eq_nil_iff.mp D.symm.eq_nil)
    rw[zb5 F j B G,zb5 W V Y I,zjg (D.map _),List.map_map];congr 1;refine List.map_congr_left λy O=>?_;have af:=(zbz F (j.ok F) (List.mem_filter.mp O).1).1;have aa:=zbQ O;show T1.cn b' (mapS f x) (takeL (ds.map (ldM f τ)) i (mapS f y.1) (y.2.map (drM f τ))).2 (i+(mapS f y.1).length)=_;rw[zgl ds i y.1 y.2 S.t0,zaB];exact U _ (by omega) _ _ (zb4 j (List.mem_filter.mp O).1) rfl aa
end
structure SimR(f:Nat->Nat)(τ:Int->Int)(b b':Bk):Prop where
 ok:BkOk b
 fi:∀a c,f a=f c->a=c
 fp:∀c,zaL (f c)=zaL c
 f10:∀c,f c=10↔c=10
 len:b'.length=b.length
 t0:τ 0=0
 tn:∀t:Nat,t<b.length->∃t':Nat,τ (t:Int)=(t':Int)/\t'<b.length/\(b'.getD t' tg0).1=mapS f (b.getD t tg0).1/\((b'.getD t' tg0).2).Perm ((b.getD t tg0).2.map (drM f τ))
 ts:∀t':Nat,t'<b.length->∃t:Nat,t<b.length/\τ (t:Int)=(t':Int)
 ti:∀s t:Nat,s<b.length->t<b.length->τ (s:Int)=τ (t:Int)->s=t
section
variable {f:Nat->Nat}{τ:Int->Int}{b b':Bk}{x:Str}
theorem SimR.mark(S:SimR f τ b b')(m:Str):markS (mapS f m)=markS m:=by
 unfold markS;rw[zaB,zaX,List.all_map];congr 1;congr 1;funext c;show (decide (f c=10) || zaL (f c))=_;rw[S.fp,decide_eq_decide.mpr (S.f10 c)]
theorem SimR.esc(S:SimR f τ b b')(e:Str):escD (.str (mapS f e))=escD (.str e):=by
 show (decide ((mapS f e).length<=1)&&(decide ((mapS f e).length=0) || zaL ((mapS f e).cps.getD 0 0)))=(decide (e.length<=1)&&(decide (e.length=0) || zaL (e.cps.getD 0 0)));rw[zaB];by_cases h:0<e.length
 .rw[zia f h,S.fp]
 .have:e.length=0:=by omega
  rw[this];rfl
theorem SimR.from(S:SimR f τ b b'){t':Nat}(h:t'<b'.length):∃t:Nat,t<b.length/\τ (t:Int)=(t':Int)/\(b'.getD t' tg0).1=mapS f (b.getD t tg0).1/\((b'.getD t' tg0).2).Perm ((b.getD t tg0).2.map (drM f τ)):=by
 rw[S.len] at h;obtain⟨t,j,e⟩:=S.ts t' h;obtain⟨B,D,_,F,G⟩:=S.tn t j;have:B=t':=by rw[e] at D;omega
 subst this;exact⟨t,j,e,F,G⟩
theorem SimR.fromM(S:SimR f τ b b'){g:Tg}(h:g∈b'):∃t∈b,g.1=mapS f t.1/\g.2.Perm (t.2.map (drM f τ)):=by
 obtain⟨n,j,rfl⟩:=List.mem_iff_getElem.mp h;obtain⟨t,F,_,B,D⟩:=S.from j;rw[za2 tg0 j] at B D;exact⟨_,zap tg0 F,B,D⟩
theorem zid{l:List Str}(j:∀a c,f a=f c->a=c)(h:l.Nodup):(l.map (mapS f)).Nodup:=List.pairwise_map.mpr (h.imp λB q=>B (zdn j q))
theorem mem_marks{b:Bk}{m:Str}:m∈zdD b↔∃t∈b,∃d∈t.2,m=d.1∨m=d.2.2:=by
 unfold zdD zhP;simp only[List.mem_flatMap];constructor
 .rintro⟨t,j,d,B,D⟩;refine⟨t,j,d,B,?_⟩;simpa using D
 .rintro⟨t,j,d,B,D⟩;refine⟨t,j,d,B,?_⟩;simpa using D
theorem mem_closes{b:Bk}{t:Int}{c:Str}:c∈zdE b t↔∃s∈b,∃d∈s.2,d.2.1=t/\c=d.2.2:=by
 unfold zdE zeo;simp only[List.mem_flatMap];constructor
 .rintro⟨s,j,D⟩;obtain⟨d,B,e⟩:=List.mem_filterMap.mp D;split at e
  .rename_i q;injection e with e;exact⟨s,j,d,B,q,e.symm⟩
  .cases e
 .rintro⟨s,j,d,B,e,rfl⟩;exact⟨s,j,List.mem_filterMap.mpr ⟨d,B,by rw[if_pos e]⟩⟩
theorem SimR.bk(S:SimR f τ b b'):BkOk b':=by
 obtain⟨ad,ae,ab,O⟩:=id S.ok;unfold bookB at O;simp only[Bool.and_eq_true,Bool.not_eq_true'] at O;obtain⟨⟨h1,h2⟩,af⟩:=O;refine⟨by rw[S.len];exact ad,by rw[S.len];exact ae,λg F=>?_,?_⟩
 .obtain⟨t,j,U,B⟩:=S.fromM F;obtain⟨k1,k2,k3⟩:=ab t j;refine⟨by rw[U,S.esc];exact k1,by rw[B.length_eq,List.length_map];exact k2,λd' G=>?_⟩;obtain⟨d,D,rfl⟩:=List.mem_map.mp (B.subset G);obtain⟨ag,⟨ay,az⟩,ah⟩:=k3 d D;obtain⟨t',V,aA,_⟩:=S.tn d.2.1.toNat (by omega);have W:((d.2.1.toNat:Nat):Int)=d.2.1:=by omega
  rw[W] at V;refine⟨?_,⟨?_,?_⟩,?_⟩
  .show markS (mapS f d.1)=true;rw[S.mark];exact ag
  .show 0<=τ d.2.1;rw[V];omega
  .show τ d.2.1<_;rw[V,S.len];omega
  .show markS (mapS f d.2.2)=true;rw[S.mark];exact ah
 .unfold bookB;simp only[Bool.and_eq_true,Bool.not_eq_true'];refine⟨⟨?_,?_⟩,?_⟩
  .rw[List.all_eq_true];intro g F;obtain⟨t,j,_,B⟩:=S.fromM F;have ai:(zaJ t.2).Nodup:=of_decide_eq_true (List.all_eq_true.mp h1 t j);refine decide_eq_true ?_;have aj:(zaJ g.2).Perm ((zaJ t.2).map (mapS f)):=by
    have:=B.map (λd:Dr=>d.1);rw[List.map_map] at this;unfold zaJ;rw[List.map_map];exact this
   exact(aj.nodup_iff).mpr (zid S.fi ai)
  .cases h:escB b' with
   |false=>rfl
   |true=>
    exfalso;unfold escB escIn at h;obtain⟨ak,al,h⟩:=List.any_eq_true.mp h;obtain⟨am,J0,h⟩:=List.any_eq_true.mp h;obtain⟨aB,ao,h⟩:=List.any_eq_true.mp h;have h:=eq_of_beq h;obtain⟨g,F,rfl⟩:=List.mem_map.mp ao;obtain⟨t,j,U,_⟩:=S.fromM F;obtain⟨s',Y,d',G,ap⟩:=mem_marks.mp al;obtain⟨s,I,_,B⟩:=S.fromM Y;obtain⟨d,D,rfl⟩:=List.mem_map.mp (B.subset G);obtain⟨m,aq,rfl⟩:∃m∈zdD b,ak=mapS f m:=by
     rcases ap with q|q
     .exact⟨d.1,mem_marks.mpr ⟨s,I,d,D,.inl J⟩,q⟩
     .exact⟨d.2.2,mem_marks.mpr ⟨s,I,d,D,.inr J⟩,q⟩
    rw[zaX] at J0;obtain⟨c,ar,rfl⟩:=List.mem_map.mp J0;rw[U,←zdm] at h;exact zer S.ok j aq ar (zdn S.fi h).symm
  .rw[List.any_eq_false];intro t' Z h;have Z:=List.mem_range.mp Z;obtain⟨t,j,as,_,B⟩:=S.from Z;unfold zcp at h;obtain⟨d',G,h⟩:=List.any_eq_true.mp h;obtain⟨am,J0,h⟩:=List.any_eq_true.mp h;obtain⟨d,D,rfl⟩:=List.mem_map.mp (B.subset G);obtain⟨s',Y,aC,au,aa,rfl⟩:=mem_closes.mp J0;obtain⟨s,I,_,av⟩:=S.fromM Y;obtain⟨q,ac,rfl⟩:=List.mem_map.mp (av.subset au);have hi:=((ab s I).2.2 q ac).2.1;have aw:q.2.1=(t:Int):=by
    have aa:τ q.2.1=(t':Int):=aa;have W:((q.2.1.toNat:Nat):Int)=q.2.1:=by omega
    have:=S.ti q.2.1.toNat t (by omega) j (by rw[W,aa,as]);omega
   have h:stAt (mapS f d.1) (mapS f q.2.2) 0=true:=h;rw[zdo S.fi (Nat.zero_le _)] at h;have ax:=List.any_eq_false.mp af t (List.mem_range.mpr j);apply ax;unfold zcp;exact List.any_eq_true.mpr ⟨d,D,List.any_eq_true.mpr ⟨q.2.2,mem_closes.mpr ⟨s,I,q,ac,aw,J⟩,h⟩⟩
theorem SimR.sim(S:SimR f τ b b'):Sim f τ b b':=⟨S.ok,S.bk,S.fi,S.len,S.t0,S.tn⟩
end
theorem zbk(x:Str):mapS (λc=>c) x=x:=zb6 (by rw[zaX,List.map_id'])
theorem zjT(d:Dr):drM (λc=>c) (λt=>t) d=d:=by unfold drM;rw[zbk,zbk]
theorem id_p:(∀a c:Nat,(λc=>c) a=(λc=>c) c->a=c):=λ_ _ h=>h
noncomputable def turnB(b:Bk):Bk:=b.map λt=>(t.1,t.2.reverse)
theorem za3{j B:Type}(g:j->B){l:List j}{i:Nat}(d:j)(e:B)(h:i<l.length):(l.map g).getD i e=g (l.getD i d):=by simp[h]
theorem zet{b:Bk}(h:BkOk b):SimR (λc=>c) (λt=>t) b (turnB b) where
 ok:=h
 fi:=id_p
 fp:=λ_=>rfl
 f10:=λ_=>Iff.rfl
 len:=List.length_map ..
 t0:=rfl
 tn:=λt j=>by
  refine⟨t,J,j,?_,?_⟩
  .unfold turnB;rw[za3 _ tg0 tg0 j,zbk]
  .unfold turnB;rw[za3 _ tg0 tg0 j];have:(b.getD t tg0).2.map (drM (λc=>c) λt=>t)=(b.getD t tg0).2:=(List.map_congr_left λd _=>zjT d).trans (List.map_id _);rw[this];exact List.reverse_perm _
 ts:=λt j=>⟨t,j,J⟩
 ti:=λs t _ _ e=>by omega
noncomputable def sgnB(f:Nat->Nat)(b:Bk):Bk:=b.map λt=>(mapS f t.1,t.2.map λd=>(mapS f d.1,d.2.1,mapS f d.2.2))
theorem zfz{f:Nat->Nat}{b:Bk}(h:BkOk b)(fi:∀a c,f a=f c->a=c)(fp:∀c,zaL (f c)=zaL c)(f10:∀c,f c=10↔c=10):SimR f (λt=>t) b (sgnB f b) where
 ok:=h
 fi:=fi
 fp:=fp
 f10:=f10
 len:=List.length_map ..
 t0:=rfl
 tn:=λt j=>by
  refine⟨t,J,j,?_,?_⟩
  .unfold sgnB;rw[za3 _ tg0 tg0 j]
  .unfold sgnB;rw[za3 _ tg0 tg0 j];exact List.Perm.refl _
 ts:=λt j=>⟨t,j,J⟩
 ti:=λs t _ _ e=>by omega
noncomputable def tauN(n:Nat)(t:Int):Int:=if t=0 then 0 else (n:Int)-t
noncomputable def ordN(n j:Nat):Nat:=if j=0 then 0 else n-j
noncomputable def numB(b:Bk):Bk:=(List.range b.length).map λj=>((b.getD (ordN b.length j) tg0).1,(b.getD (ordN b.length j) tg0).2.map λd=>(d.1,tauN b.length d.2.1,d.2.2))
theorem zfA{b:Bk}(h:BkOk b):SimR (λc=>c) (tauN b.length) b (numB b) where
 ok:=h
 fi:=id_p
 fp:=λ_=>rfl
 f10:=λ_=>Iff.rfl
 len:=by unfold numB;rw[List.length_map,List.length_range]
 t0:=rfl
 tn:=λt B=>by
  have h1:=h.1;have e:tauN b.length (t:Int)=(ordN b.length t:Nat):=by
   unfold tauN ordN;by_cases q:t=0
   .subst q;rfl
   .rw[if_neg q,if_neg (by omega)];omega
  have j:ordN b.length t<b.length:=by
   unfold ordN;split<;>omega
  have D:ordN b.length (ordN b.length t)=t:=by
   unfold ordN;by_cases q:t=0
   .subst q;rfl
   .rw[if_neg q,if_neg (by omega)];omega
  refine⟨ordN b.length t,e,j,?_,?_⟩
  .unfold numB;rw[za3 _ 0 tg0 (by rw[List.length_range];exact j)];have:(List.range b.length).getD (ordN b.length t) 0=ordN b.length t:=by simp[j]
   rw[this,D,zbk]
  .unfold numB;rw[za3 _ 0 tg0 (by rw[List.length_range];exact j)];have:(List.range b.length).getD (ordN b.length t) 0=ordN b.length t:=by simp[j]
   rw[this,D];refine List.Perm.of_eq (List.map_congr_left λd _=>?_);unfold drM;rw[zbk,zbk]
 ts:=λt B=>by
  refine⟨ordN b.length t,by unfold ordN;split<;>omega,?_⟩;unfold tauN ordN;by_cases q:t=0
  .subst q;rfl
  .rw[if_neg q,if_neg (by omega)];omega
 ti:=λs t F B e=>by
  unfold tauN at e;split at e<;>split at e<;>omega
noncomputable def sgI(c:Nat):Nat:=if c<37 then c-33 else c-34
noncomputable def sgC(j:Nat):Nat:=if j<4 then j+33 else j+34
noncomputable def sgF(j c:Nat):Nat:=if zaL c=true then sgC ((sgI c+j) % 93) else c
theorem zbH(c:Nat):zaL c=true↔33<=c/\c<=126/\c≠37:=by
 unfold zaL;simp[and_assoc]
theorem zgm{c:Nat}(h:zaL c=true):sgI c<93/\sgC (sgI c)=c:=by
 rw[zbH] at h;unfold sgI sgC;split<;>split<;>omega
theorem zcG{j:Nat}(h:j<93):zaL (sgC j)=true/\sgI (sgC j)=j:=by
 rw[zbH];unfold sgI sgC;split<;>split<;>omega
theorem zbI(n c:Nat):zaL (sgF n c)=zaL c:=by
 unfold sgF;by_cases h:zaL c=true
 .rw[if_pos h,h];exact(zcG (Nat.mod_lt _ (by decide))).1
 .rw[if_neg h]
theorem zfB(n c:Nat):sgF n c=10↔c=10:=by
 by_cases h:zaL c=true
 .have h1:=zbI n c;rw[h] at h1;have h2:=(zbH _).mp h1;have j:=(zbH _).mp h;omega
 .unfold sgF;rw[if_neg h]
theorem zfC(n:Nat)(a c:Nat)(e:sgF n a=sgF n c):a=c:=by
 have h1:=zbI n a;have h2:=zbI n c;by_cases j:zaL a=true
 .have B:zaL c=true:=by rw[←h2,←e,h1];exact j
  unfold sgF at e;rw[if_pos j,if_pos B] at e;have D:=congrArg sgI e;rw[(zcG (Nat.mod_lt _ (by decide))).2,(zcG (Nat.mod_lt _ (by decide))).2] at D;obtain⟨I,F⟩:=zgm j;obtain⟨J0,G⟩:=zgm B;have:sgI a=sgI c:=by omega
  rw[←F,←G,this]
 .have B:¬zaL c=true:=λq=>j (by rw[←h1,e,h2];exact q);unfold sgF at e;rw[if_neg j,if_neg B] at e;exact e
theorem zie{j:Type} [DecidableEq j]:∀ {l m:List j},l.Nodup->l ⊆ m->l.length<=m.length
 |[],_,_,_=>Nat.zero_le _
 |a::l,m,G,B=>by
  obtain⟨h1,h2⟩:=List.nodup_cons.mp G;have D:a∈m:=B List.mem_cons_self;have I:=zie (m:=m.erase a) h2 λx F=>(List.mem_erase_of_ne (λe=>h1 (by rw[←e];exact F))).mpr (B (List.mem_cons_of_mem _ F));rw[List.length_erase_of_mem D] at I;have:=List.length_pos_of_mem D;rw[List.length_cons];omega
theorem zfa{kvs:List (Key×V)}{k:Key}{v:V}{j:Key}:j∈(putK kvs k v).map (·.1)↔j∈kvs.map (·.1)∨j=k:=by
 unfold putK;split
 .rename_i h;have e:(kvs.map λB=>if B.1=k then (B.1,v) else B).map (·.1)=kvs.map (·.1):=by
   rw[List.map_map];apply List.map_congr_left;intro p _;show (if p.1=k then (p.1,v) else p).1=p.1;split<;>rfl
  rw[e];refine⟨.inl,λg=>g.elim id λg=>?_⟩;obtain⟨p,D,F⟩:=List.any_eq_true.mp h;rw[g,←of_decide_eq_true F];exact List.mem_map_of_mem D
 .rw[List.map_append,List.mem_append];simp
theorem zif{kvs:List (Key×V)}{k:Key}{v:V}(j:(kvs.map (·.1)).Nodup):((putK kvs k v).map (·.1)).Nodup:=by
 cases h:valV kvs k with
 |none=>exact zkk v j h
 |some u=>
  have e:(putK kvs k v).map (·.1)=kvs.map (·.1):=by
   unfold putK;rw[if_pos (by rw[zcy,h];rfl),List.map_map];apply List.map_congr_left;intro p _;show (if p.1=k then (p.1,v) else p).1=p.1;split<;>rfl
  rw[e];exact j
structure KSet(kv:List (Key×V))(S:Nat->Prop):Prop where
 nd:(kv.map (·.1)).Nodup
 iff:∀k,k∈kv.map (·.1)↔∃e:Nat,k=.inl (e:Int)/\S e
theorem KSet.nil:KSet [] λ_=>False:=⟨.nil,λk=>⟨(λh=>nomatch h),λ⟨_,_,h⟩=>h.elim⟩⟩
theorem KSet.to{j:List (Key×V)}{S T:Nat->Prop}(h:KSet j S)(g:∀e,S e↔T e):KSet j T:=⟨h.nd,λk=>(h.iff k).trans ⟨λ⟨e,h1,h2⟩=>⟨e,h1,(g e).mp h2⟩,λ⟨e,h1,h2⟩=>⟨e,h1,(g e).mpr h2⟩⟩⟩
theorem KSet.put{j:List (Key×V)}{S:Nat->Prop}(h:KSet j S)(n:Nat)(v:V):KSet (putK j (.inl (n:Int)) v) λe=>S e∨e=n:=⟨zif h.nd,λk=>by
 rw[zfa,h.iff];constructor
 .rintro(⟨e,h1,h2⟩|h)
  .exact⟨e,h1,.inl h2⟩
  .exact⟨n,h,.inr rfl⟩
 .rintro⟨e,h1,h2|h2⟩
  .exact .inl ⟨e,h1,h2⟩
  .exact .inr (by rw[h1,h2])⟩
theorem zdM:∀ {B kvs:List (Key×V)}{j:Key},j∈(zbZ kvs B).map (·.1)↔j∈kvs.map (·.1)∨j∈B.map (·.1)
 |[],kvs,j=>⟨.inl,λh=>h.elim id λh=>nomatch h⟩
 |p::r,kvs,j=>by
  show j∈(zbZ (putK kvs p.1 p.2) r).map (·.1)↔_;rw[zdM,zfa,List.map_cons,List.mem_cons,or_assoc]
theorem zfb:∀ {j kvs:List (Key×V)},(kvs.map (·.1)).Nodup->((zbZ kvs j).map (·.1)).Nodup
 |[],_,h=>h
 |p::r,kvs,h=>by
  show ((zbZ (putK kvs p.1 p.2) r).map (·.1)).Nodup;exact zfb (zif h)
theorem KSet.merge{j B:List (Key×V)}{S T:Nat->Prop}(h:KSet j S)(g:KSet B T):KSet (zbZ j B) λe=>S e∨T e:=⟨zfb h.nd,λk=>by
 rw[zdM,h.iff,g.iff];constructor
 .rintro(⟨e,h1,h2⟩|⟨e,h1,h2⟩)
  .exact⟨e,h1,.inl h2⟩
  .exact⟨e,h1,.inr h2⟩
 .rintro⟨e,h1,h2|h2⟩
  .exact .inl ⟨e,h1,h2⟩
  .exact .inr ⟨e,h1,h2⟩⟩
theorem KSet.len{j:List (Key×V)}{S:Nat->Prop}{n:Nat}(h:KSet j S)(B:∀e,S e->e<=n):j.length<=n+1:=by
 have D:=zie (m:=(List.range (n+1)).map λe:Nat=>(Sum.inl (e:Int):Key)) h.nd λk F=>by
  obtain⟨e,rfl,g⟩:=(h.iff k).mp F;exact List.mem_map.mpr ⟨e,List.mem_range.mpr (by have:=B e g;omega),J⟩
 simpa using D
theorem KSet.at{j:List (Key×V)}{S:Nat->Prop}(h:KSet j S){p:Key×V}(B:p∈j):∃e:Nat,p.1=.inl (e:Int)/\S e:=(h.iff _).mp (List.mem_map_of_mem B)
noncomputable abbrev shE:List Bool:=[false,true]
noncomputable def rmK(R:Rm):List Key:=[.inl R.1,.inr R.2]
noncomputable def keE(R:Rm)(i:Nat):List NKey:=[.inr (rmK R),.inl (.inl (i:Int))]
theorem zfD{R S:Rm}(h:rmK R=rmK S):R=S:=by
 unfold rmK at h;injection h with h1 h2;injection h2 with h2 _;injection h1 with h1;injection h2 with h2;exact Prod.ext h1 h2
theorem zfE{R S:Rm}{i j:Nat}(h:keE R i=keE S j):R=S/\i=j:=by
 unfold keE at h;injection h with h1 h2;injection h2 with h2 _;injection h1 with h1;injection h2 with h2;injection h2 with h2;exact⟨zfD h1,by omega⟩
theorem zji{K:W.Frag}{H H':Hp}{a:Addr}{xs:List V}(h:SqT K H a xs)(s:Same H H'):SqT K H' a xs:=by
 rcases h with(h|⟨o,h⟩)|h
 .exact .inl (.inl (s _ _ h))
 .exact .inl (.inr ⟨o,s _ _ h⟩)
 .exact .inr h
noncomputable def RmAt(K:W.Frag)(z:Addr)(H:Hp)(a:Addr)(R:Rm):Prop:=SqT K H a ((rmK R).map kV)/\(R≠outR->H a=some (.tup [.int R.1,.str R.2])/\a≠z)
theorem RmAt.same{K:W.Frag}{z:Addr}{H H':Hp}{a:Addr}{R:Rm}(h:RmAt K z H a R)(s:Same H H'):RmAt K z H' a R:=⟨zji h.1 s,λg=>⟨s _ _ (h.2 g).1,(h.2 g).2⟩⟩
structure RmsAt(K:W.Frag)(z:Addr)(H:Hp)(as:List Addr)(rs:List Rm):Prop where
 len:as.length=rs.length
 at_:∀i (h:i<as.length),RmAt K z H as[i] (rs.getD i outR)
theorem RmsAt.same{K:W.Frag}{z:Addr}{H H':Hp}{j:List Addr}{B:List Rm}(h:RmsAt K z H j B)(s:Same H H'):RmsAt K z H' j B:=⟨h.len,λi g=>(h.at_ i g).same s⟩
theorem RmsAt.snoc{K:W.Frag}{z:Addr}{H:Hp}{j:List Addr}{B:List Rm}{a:Addr}{R:Rm}(h:RmsAt K z H j B)(g:RmAt K z H a R):RmsAt K z H (j++[a]) (B++[R]):=⟨by rw[List.length_append,List.length_append,h.len];rfl,λi hi=>by
 rw[List.length_append] at hi;by_cases e:i<j.length
 .have h1:=h.at_ i e;rw[List.getElem_append_left e];have:(B++[R]).getD i outR=B.getD i outR:=by
   rw[List.getD_eq_getElem?_getD,List.getD_eq_getElem?_getD,List.getElem?_append_left (by rw[←h.len];exact e)]
  rw[this];exact h1
 .have D:i=j.length:=by have:[a].length=1:=rfl;omega
  subst D;rw[List.getElem_append_right (Nat.le_refl _)];have:(B++[R]).getD j.length outR=R:=by
   rw[h.len,List.getD_eq_getElem?_getD,List.getElem?_append_right (Nat.le_refl _),Nat.sub_self];rfl
  rw[this];simpa using g⟩
structure RmsOk(b:Bk)(rs:List Rm):Prop where
 nd:rs.Nodup
 out:outR∈rs
 all:∀t∈b,∀d∈t.2,d.2∈rs
 bk:∀R∈rs,R=outR∨∃t∈b,∃d∈t.2,R=d.2
 few:rs.length<=100
theorem zjU{b:Bk}{R:Rm}(h:R=outR∨∃t∈b,∃d∈t.2,R=d.2):LdBk b (dsR R):=by
 unfold dsR;split
 .exact λd j=>nomatch j
 .rename_i B;intro d j;obtain⟨t,D,F,G,e⟩:=h.resolve_left B;obtain rfl:=List.mem_singleton.mp j;exact⟨t,D,F,G,by rw[e],by rw[e]⟩
section
variable {b:Bk}{x:Str}
theorem zjV{R:Rm}{e:Nat}:Sh b x R x.length e↔R=outR/\e=x.length:=by
 constructor
 .intro h;generalize hi:x.length=i at h;cases h with
  |out=>exact⟨J,J⟩
  |plain j _ _ _=>omega
  |close j _=>omega
  |opn j _ _ _=>omega
 .rintro⟨rfl,rfl⟩;exact .out
theorem zjj{R:Rm}{i e:Nat}(hi:i<x.length)(B:fitsP b (dsR R) x i=[]):Sh b x R i e↔(plainL b (dsR R) x i).2.2.1≠Str.ofString "cut"/\Sh b x R (i+(plainL b (dsR R) x i).2.1.toNat) e:=by
 constructor
 .intro h;cases h with
  |out=>omega
  |plain _ _ D h=>exact⟨D,h⟩
  |close _ j=>rw[B] at j;cases j
  |opn _ j _ _=>rw[B] at j;cases j
 .rintro⟨D,h⟩;exact .plain hi B D h
noncomputable def via(b:Bk)(x:Str)(R:Rm)(i:Nat)(y:Mk)(e:Nat):Prop:=match y.2 with
 |none=>e=i+y.1.length
 |some d=>∃k,Sh b x d.2 (i+y.1.length) k/\Sh b x R k e
theorem zkS{R:Rm}{i e:Nat}(hi:i<x.length)(B:fitsP b (dsR R) x i≠[]):Sh b x R i e↔∃y∈fitsP b (dsR R) x i,via b x R i y e:=by
 constructor
 .intro h;cases h with
  |out=>omega
  |plain _ D _ _=>exact absurd D B
  |close _ j=>exact⟨_,j,J⟩
  |opn _ j h1 h2=>exact⟨_,j,_,h1,h2⟩
 .rintro⟨⟨m,o⟩,j,h⟩;cases o with
  |none=>
   have F:e=i+m.length:=h;subst F;exact .close hi j
  |some d=>
   obtain⟨k,h1,h2⟩:=h;exact .opn hi j h1 h2
end
noncomputable def EndAt(P:Program)(w:World)(H:Hp)(d:Addr)(b:Bk)(x:Str)(R:Rm)(i:Nat):Prop:=∃ep j,H d=some (dE P w d ep j)/\KSet j (Sh b x R i)
theorem EndAt.same{P:Program}{w:World}{H H':Hp}{d:Addr}{b:Bk}{x:Str}{R:Rm}{i:Nat}(h:EndAt P w H d b x R i)(s:Same H H'):EndAt P w H' d b x R i:=let ⟨ep,j,h1,h2⟩:=h;⟨ep,j,s _ _ h1,h2⟩
structure EndsD(P:Program)(w:World)(K:W.Frag)(H:Hp)(ed:Addr)(b:Bk)(x:Str)(rs:List Rm)(p:Nat)(kvs:List NEnt):Prop where
 here:H ed=some (dN P w shE ed kvs)
 keys:KeysW K H shE kvs
 at_:∀R∈rs,∀j,p<=j->j<=x.length->∃d,d≠ed/\nval kvs (keE R j)=some (.ref d)/\EndAt P w H d b x R j
theorem EndsD.same{P:Program}{w:World}{K:W.Frag}{H H':Hp}{B:Addr}{b:Bk}{x:Str}{D:List Rm}{p:Nat}{kvs:List NEnt}(h:EndsD P w K H B b x D p kvs)(s:Same H H'):EndsD P w K H' B b x D p kvs:=⟨s _ _ h.here,h.keys.same s,λR F j h1 h2=>let ⟨d,G,I,J0⟩:=h.at_ R F j h1 h2;⟨d,G,I,J0.same s⟩⟩
theorem zfc{K:W.Frag}{z:Addr}{H:Hp}{a r:Addr}{R:Rm}{i:Nat}(h:SqT K H a ((rmK R).map kV))(j:H r=some (.tup [.ref a,.int (i:Int)])):NKeyW K H (keE R i) r:=⟨_,j,.cons ⟨a,J,h⟩ (.cons rfl .nil)⟩
theorem zdN{kvs:List NEnt}{k j:List NKey}{r:Addr}{v:V}(h:nval kvs k=none):nval (kvs++[(k,r,v)]) j=if j=k then some v else nval kvs j:=by
 unfold nval at *;rw[List.find?_append];by_cases e:j=k
 .subst e;rw[if_pos rfl];cases g:kvs.find? λp=>decide (p.1=j) with
  |none=>simp[List.find?_cons]
  |some q=>rw[g] at h;cases h
 .rw[if_neg e];cases g:kvs.find? λp=>decide (p.1=j) with
  |none=>simp[List.find?_cons,Ne.symm e]
  |some q=>simp
structure TxO(mg:Str->Option Value)(K:W.Frag)(aO:Addr):Prop where
 g:mg "OUTSIDE"=some (.ref aO)
 t:∃(o:Obj) (its:Array Value) (n:Nat),K.lookup aO=some o/\o.cls=.type "tuple"/\o.data=.seq its n/\its.size<=sizeLine/\Vals ((rmK outR).map kV) its.toList
theorem TxO.rm{mg:Str->Option Value}{K:W.Frag}{j:Addr}(T:TxO mg K j)(z:Addr)(H:Hp):RmAt K z H j outR:=⟨.inr T.t,λh=>absurd J h⟩
theorem zjk{K:W.Frag}{H:Hp}{a p:Addr}{xs l l':List V}(j:H p=some (.lst l))(h:SqT K H a xs):SqT K (upd H p (.lst l')) a xs:=by
 rcases h with(h|⟨o,h⟩)|h
 .exact .inl (.inl (by rw[zan (zaI h j (by intro e;cases e))];exact h))
 .exact .inl (.inr ⟨o,by rw[zan (zaI h j (by intro e;cases e))];exact h⟩)
 .exact .inr h
theorem RmAt.updL{K:W.Frag}{z:Addr}{H:Hp}{a p:Addr}{R:Rm}{l l':List V}(j:H p=some (.lst l))(h:RmAt K z H a R):RmAt K z (upd H p (.lst l')) a R:=⟨zjk j h.1,λg=>⟨by rw[zan (zaI (h.2 g).1 j (by intro e;cases e))];exact(h.2 g).1,(h.2 g).2⟩⟩
inductive zeu(K:W.Frag):List V->Hp->VK->XK->Prop where
 |mk {vs:List V} {H:Hp} {Q:VK} {E:XK} (z v b:_) (c1:vs=[v]) (c2:Bag z H) (c3:Rep z H v (bkD b)) (c4:BkOk b)
  (q:∀p as rs H',Same H H'->H p=none->H' p=some (.lst (as.map V.ref))->RmsAt K z H' as rs->RmsOk b rs->Q (.ref p) H'):zeu K vs H Q E
structure RmsTo(b:Bk)(i:Nat)(j:Nat)(rs:List Rm):Prop where
 nd:rs.Nodup
 out:outR∈rs
 all:∀t∈b.take i,∀d∈t.2,d.2∈rs
 now:∀d∈(b.getD i tg0).2.take j,d.2∈rs
 bk:∀R∈rs,R=outR∨∃t∈b,∃d∈t.2,R=d.2
 few:rs.length<=1+6*i+j
theorem RmsTo.start(b:Bk):RmsTo b 0 0 [outR]:=⟨by simp,by simp,λt j=>(by simp at j),λd B=>(by simp at B),λR D=>.inl (by simpa using D),by simp⟩
theorem RmsTo.next{b:Bk}{i:Nat}{B:List Rm}(hi:i<b.length)(h:RmsTo b i (b.getD i tg0).2.length B)(D:(b.getD i tg0).2.length<=6):RmsTo b (i+1) 0 B:=⟨h.nd,h.out,λt ht d j=>by
  rw[List.take_add_one,List.mem_append] at ht;rcases ht with ht|ht
  .exact h.all t ht d j
  .rw[List.getElem?_eq_getElem hi] at ht;have e:t=b.getD i tg0:=by
    have:t=b[i]:=by simpa using ht
    rw[this];simp[hi]
   rw[e] at j;exact h.now d (by rw[List.take_length];exact j),λd j=>(by simp at j),h.bk,by have:=h.few;omega⟩
theorem RmsTo.more{b:Bk}{i j:Nat}{B:List Rm}(h:RmsTo b i j B)(hi:i<b.length)(D:j<(b.getD i tg0).2.length) :
  (((b.getD i tg0).2.getD j dr0).2∈B->RmsTo b i (j+1) B)/\(((b.getD i tg0).2.getD j dr0).2∉B->RmsTo b i (j+1) (B++[((b.getD i tg0).2.getD j dr0).2])):=by
 have tk:∀d,d∈(b.getD i tg0).2.take (j+1)->d∈(b.getD i tg0).2.take j∨d=(b.getD i tg0).2.getD j dr0:=λd hd=>by
  rw[List.take_add_one,List.mem_append] at hd;refine hd.imp id λhd=>?_;rw[List.getElem?_eq_getElem D] at hd;have:d=(b.getD i tg0).2[j]:=by simpa using hd
  rw[this];exact(za2 dr0 D).symm
 refine⟨λg=>⟨h.nd,h.out,h.all,λd hd=>?_,h.bk,by have:=h.few;omega⟩,λg=>⟨?_,List.mem_append_left _ h.out,λt G d hd=>List.mem_append_left _ (h.all t G d hd),λd hd=>?_,λR hR=>?_,by rw[List.length_append];have:=h.few;show _+1<=_;omega⟩⟩
 .rcases tk d hd with hd|hd
  .exact h.now d hd
  .rw[hd];exact g
 .rw[List.nodup_append];refine⟨h.nd,by simp,λa F c I e=>?_⟩;rw[List.mem_singleton.mp I] at e;rw[e] at F;exact g F
 .rcases tk d hd with hd|hd
  .exact List.mem_append_left _ (h.now d hd)
  .rw[hd];exact List.mem_append_right _ List.mem_cons_self
 .rcases List.mem_append.mp hR with hR|hR
  .exact h.bk R hR
  .exact .inr ⟨_,zap tg0 hi,_,zap dr0 D,List.mem_singleton.mp hR⟩
theorem RmsTo.done{b:Bk}{j:List Rm}(h:RmsTo b b.length 0 j)(D:b.length<=6):RmsOk b j:=⟨h.nd,h.out,λt B=>h.all t (by rw[List.take_length];exact B),h.bk,by have:=h.few;omega⟩
theorem scRooms:zau ["book","rooms","escape","doors","opening","inner","close"] ["book"] (zah zdh):=⟨J,J,J,by decide +kernel,J,by decide +kernel,by decide +kernel⟩
theorem zjl{f ad:Addr}{fd:FuncData}(F:Fun K "rooms_of" "rooms_of" zdh f fd)(TO:TxO mg K ad):FnOk P w K mg base CX0 1 f fd ["book"] (zeu K):=by
 refine F.ok scRooms (λvs H Q E h=>?_) (λcdv A outer s H vs Q E aG h=>?_)
 .obtain⟨z,v,b,rfl,_⟩:=h;rfl
 .obtain⟨z,v,b,rfl,au,aH,aI,k⟩:=h;obtain⟨a,xs,rfl,a5,av,aJ,R⟩:=zbd aH;obtain⟨a6,aK,aL,_⟩:=aI;have ac:=scRooms.nd;have aM:(A.deeper (PyProof.Rows.envOfC (Str.ofString "rooms_of") (zah zdh) s.heap.objs.size f cdv)).units+6<cLine:=by have:=aG.un;omega
  refine⟨_,zac (zaq (i:=1) ac J (Or.inl J) (zaO (zaa (zea (v:=.ref ad) J TO.g J) zad)))
   (zac (za0 PassesOwn.never J (zbm (pv 0)) (zaZ J (zam (zai (i:=2) ac J (Or.inl J)) (zam (zai (i:=3) ac J (Or.inl J)) zaE)))
    (zaf (za0 PassesOwn.never J (zbm (pv 3)) (zaZ J (zam (zai (i:=4) ac J (Or.inl J)) (zam (zai (i:=5) ac J (Or.inl J)) (zam (zai (i:=6) ac J (Or.inl J)) zaE))))
     (zaf (zaY (zax (zhC aM) (zaG (zaa (pv 5) (zaa (pv 6) zad))) (pv 1) J) (zaf (za7 (zcL PySem.F.plainAttrs_list PySem.F.slot_list_append PySem.F.type_list_append zaW (pv 1) (zaa (zaG (zaa (pv 5) (zaa (pv 6) zad))) zad)))) zaz)))))
   (zaf (zas (pv 1)))),?_⟩
  dsimp only[cxOf,Cx.nox,Cx.wish];have a7:=zaR;refine⟨by show (1:Nat)<=_;omega,λp np=>?_⟩;have aw:Same H (upd H p (.lst [.ref ad])):=Same.new np;have a8:p≠z:=au.ne np;refine⟨_,J,a,J,⟨_,SqT.of (aw _ _ av)⟩,zbV (K:=K) (a:=a) (xs:=xs) (λi σ H2=>∃G B U ak W Y Z,σ=[some (.ref a),some (.ref p),U,ak,W,Y,Z]/\Same H H2/\H2 p=some (.lst (G.map V.ref))/\RmsAt K z H2 G B/\RmsTo b i 0 B)
   ⟨[ad],[outR],_,_,_,_,_,J,aw,zab,⟨J,λi hi=>by
    have e:i=0:=by have:[ad].length=1:=rfl;omega
    subst e;exact TO.rm z _⟩,RmsTo.start b⟩ (λi σ H2 _ ⟨_,_,_,_,_,_,_,_,s,_⟩=>SqT.of (s _ _ av)) ?_ ?_⟩
  .rintro i y σ H2 hi ⟨G,B,U,ak,W,Y,Z,rfl,ae,aa,ab,I⟩;have ag:i<b.length:=by have:=(List.getElem?_eq_some_iff.mp hi).1;omega
   have aN:y=xs.getD i .non:=by rw[List.getD_eq_getElem?_getD,hi];rfl
   have ax:=aL _ (zap tg0 ag);obtain⟨c,d,ys,e,a9,ba,aO,ay,al,aP⟩:=zaH (zaA (b:=b) (i:=i) R ag);have al:ys.length=(b.getD i tg0).2.length:=al;rw[aN,e];have aQ:=ax.2.1;refine⟨c,_,J,SqT.of (ae _ _ aO),J,_,_,J,_,_,J,J,?_⟩;refine⟨_,J,d,J,⟨_,SqT.of (ae _ _ ay)⟩,zbV (K:=K) (a:=d) (xs:=ys) (λj σ J0=>∃G B U W Y Z,σ=[some (.ref a),some (.ref p),U,some (.ref d),W,Y,Z]/\Same H J0/\J0 p=some (.lst (G.map V.ref))/\RmsAt K z J0 G B/\RmsTo b i j B)
    ⟨G,B,_,_,_,_,J,ae,aa,ab,I⟩ (λj σ J0 _ ⟨_,_,_,_,_,_,_,s,_⟩=>SqT.of (s _ _ ay)) ?_ ?_⟩
   .rintro j aR σ J0 az ⟨G,B,U,W,Y,Z,rfl,ah,aa,ab,I⟩;have am:j<(b.getD i tg0).2.length:=by have:=(List.getElem?_eq_some_iff.mp az).1;omega
    have aS:aR=ys.getD j .non:=by rw[List.getD_eq_getElem?_getD,az];rfl
    obtain⟨q,aT,bb,aU⟩:=zbi (za6 (ds:=(b.getD i tg0).2) (i:=j) aP am);have bc:=ax.2.2 _ (zap dr0 am);have aA:=I.more ag am;have bd:=I.few;rw[aS,aT];generalize (b.getD i tg0).2.getD j dr0=D at *;refine⟨q,_,J,SqT.of (ah _ _ aU),J,_,_,J,_,_,J,_,_,J,J,?_⟩;refine⟨_,J,_,J,by show (2:Nat)<=_;omega,λai aV=>?_⟩;have ao:=Same.new (o:=.tup [.int D.2.1,.str D.2.2]) aV;have aW:upd J0 ai (.tup [.int D.2.1,.str D.2.2]) ai=some (.tup [.int D.2.1,.str D.2.2]):=zab;have ap:=ah.trans ao;have af:=ab.same ao;have aj:=ao _ _ aa;generalize upd J0 ai (.tup [.int D.2.1,.str D.2.2])=aB at *;have aX:(!((B.map rmK).any λm=>decide (m=rmK D.2)))=!decide (D.2∈B):=by
     congr 1;rw[Bool.eq_iff_iff,decide_eq_true_iff,List.any_eq_true];constructor
     .rintro⟨m,aY,e⟩;obtain⟨S,aZ,rfl⟩:=List.mem_map.mp aY;rw[←zfD (of_decide_eq_true e)];exact aZ
     .exact λh=>⟨_,List.mem_map_of_mem h,decide_eq_true J⟩
    refine⟨_,J,ai,p,G,rmK D.2,B.map rmK,J,J,aj,SqT.of aW,(by rw[List.length_map];exact af.len),λi hi=>?_,?_⟩
    .have e:(B.map rmK).getD i []=rmK (B.getD i outR):=by
      have h1:i<B.length:=by rw[←af.len];exact hi
      rw[za2 [] (by rw[List.length_map];exact h1),za2 outR h1,List.getElem_map]
     rw[e];exact⟨(af.at_ i hi).1,J⟩
    .rw[aX];refine⟨_,J,ite2 (λg=>?_) (λg=>?_)⟩
     .have g:D.2∉B:=by simpa using g
      refine⟨_,J,.inl ⟨J,_,SqL.of aj⟩,_,J,_,J,by show (2:Nat)<=_;omega,λO aC=>?_⟩;have aq:=Same.new (o:=.tup [.int D.2.1,.str D.2.2]) aC;have aD:upd aB O (.tup [.int D.2.1,.str D.2.2]) O=some (.tup [.int D.2.1,.str D.2.2]):=zab;have a1:O≠z:=(au.same ap).ne aC;have a2:=ap.trans aq;have ar:=af.same aq;have as:=aq _ _ aj;generalize upd aB O (.tup [.int D.2.1,.str D.2.2])=aE at *;refine⟨p,G.map V.ref,_,J,J,as,by rw[List.length_map,ar.len];omega,?_⟩;have a3:RmAt K z aE O D.2:=⟨SqT.of aD,λ_=>⟨aD,a1⟩⟩;have a4:RmsAt K z (upd aE p (.lst (G.map V.ref++[.ref O]))) (G++[O]) (B++[D.2]):=RmsAt.snoc ⟨ar.len,λi hi=>(ar.at_ i hi).updL as⟩ (a3.updL as);exact⟨G++[O],B++[D.2],_,_,_,_,J,λb' o aF=>by rw[zan (zae aF np)];exact a2 b' o aF,by rw[zab,List.map_append];rfl,a4,aA.2 g⟩
     .have g:D.2∈B:=by simpa using g
      exact⟨G,B,_,_,_,_,J,ap,aj,af,aA.1 g⟩
   .rintro σ J0 ⟨G,B,U,W,Y,Z,rfl,ah,aa,ab,I⟩;exact⟨G,B,_,_,_,_,_,J,ah,aa,ab,(by rw[al] at I;exact I.next ag aQ)⟩
  .rintro σ H2 ⟨G,B,U,ak,W,Y,Z,rfl,ae,aa,ab,I⟩;exact⟨_,J,k p G B H2 ae np aa ab ((by rw[aJ] at I;exact I:RmsTo b b.length 0 B).done aK)⟩
theorem rmEq(R S:Rm):decide (rmK R=rmK S)=decide (R=S):=decide_eq_decide.mpr ⟨zfD,λh=>by rw[h]⟩
theorem zlR{b:Bk}{R:Rm}(j:∀t∈b,TgOk b.length t)(h:R=outR∨∃t∈b,∃d∈t.2,R=d.2):R.2.length<=4:=by
 rcases h with h|⟨t,B,d,D,h⟩
 .rw[h];decide +kernel
 .rw[h];exact(zaM ((j t B).2.2 d D).2.2).1
theorem zjW{b:Bk}{x:Str}{R:Rm}{i e:Nat}{y:Mk}(j:∀t∈b,TgOk b.length t){ds:List LDr}(B:y∈fitsP b ds x i)(h:via b x R i y e):e<=x.length:=by
 rcases y with⟨m,o⟩;cases o with
 |none=>
  have D:e=i+m.length:=h;rw[D];exact zbQ B
 |some d=>
  obtain⟨k,_,h2⟩:=h;exact(zdX j h2).1
theorem zig{b:Bk}{x:Str}{R:Rm}{i:Nat}{m:Str}{d:Dr}(B:R=outR∨∃t∈b,∃d∈t.2,R=d.2)(D:1<=b.length)(F:∀t∈b,TgOk b.length t)(h:((m,some d):Mk)∈fitsP b (dsR R) x i):∃t∈b,d∈t.2:=by
 have h:=(List.mem_filter.mp h).1;unfold possL at h;rcases List.mem_append.mp h with h|h
 .obtain⟨_,_,e⟩:=List.mem_map.mp h;injection e with _ e;cases e
 .obtain⟨d',j,e⟩:=List.mem_map.mp h;injection e with _ e;injection e with e;rw[e] at j;obtain⟨J0,G,I⟩:=zbg ((zjU B).ok F) D;rw[G] at j;exact⟨_,zap tg0 I,j⟩
inductive zgn(P:Program)(w:World)(K:W.Frag):List V->Hp->VK->XK->Prop where
 |mk {vs:List V} {H:Hp} {Q:VK} {E:XK} (z v b x rs R:_) (i:Nat) (aR ed:Addr) (kvs:_) (c1:vs=[v,.str x,.int (i:Int),.ref aR,.ref ed]) (c2:Bag z H) (c3:Rep z H v (bkD b)) (c4:BkOk b) (c5:RmsOk b rs) (c6:R∈rs) (c7:RmAt K z H aR R) (c8:i<=x.length) (c9:x.length<=20000) (c10:EndsD P w K H ed b x rs (i+1) kvs)
  (q:∀d H',d≠ed->Same H H'->EndAt P w H' d b x R i->Q (.ref d) H'):zgn P w K vs H Q E
theorem scEnds:zau ["book","text","place","room","ends","doors","fits","step","found","mark","door","behind","opening","inner","close","back"] ["book","text","place","room","ends"] (zah zbF):=⟨J,J,J,by decide +kernel,J,by decide +kernel,by decide +kernel⟩
theorem zkT{f ao aI aJ:Addr}{fd be bf:FuncData}(F:Fun K "ends_from" "ends_from" zbF f fd)(TO:TxO mg K ao)(T:TxtB mg)(k1:W.keepIn K (.ref aI)=true)(bL:Binds K be ["book","text","place","doors"] [])(bM:mg "fitting_marks"=some (.ref aI))(bN:FnOk P w K mg base CX0 3 aI be ["book","text","place","doors"] zdH)(k2:W.keepIn K (.ref aJ)=true)(bO:Binds K bf ["book","text","place","doors"] [])(bP:mg "read_plain"=some (.ref aJ))(bQ:FnOk P w K mg base CX0 2 aJ bf ["book","text","place","doors"] zcf):FnOk P w K mg base CX0 4 f fd ["book","text","place","room","ends"] (zgn P w K):=by
 refine F.ok scEnds (λvs H Q E h=>?_) (λcdv A outer s H vs Q E ap h=>?_)
 .obtain⟨z,v,b,x,bg,R,i,G,ab,kvs,rfl,_⟩:=h;rfl
 .obtain⟨z,v,b,x,bg,R,i,G,ab,kvs,rfl,bR,bh,aK,bi,aL,aj,hi,bS,ac,q⟩:=h;have I:=scEnds.nd;have aM:(A.deeper (PyProof.Rows.envOfC (Str.ofString "ends_from") (zah zbF) s.heap.objs.size f cdv)).units+6<cLine:=by have:=ap.un;omega
  have bj:(A.deeper (PyProof.Rows.envOfC (Str.ofString "ends_from") (zah zbF) s.heap.objs.size f cdv)).units+4<cLine:=by have:=ap.un;omega
  have bT:(A.deeper (PyProof.Rows.envOfC (Str.ofString "ends_from") (zah zbF) s.heap.objs.size f cdv)).units+1<cLine:=by have:=ap.un;omega
  refine⟨_,zac (zaY (zax zgC (pv 2) (zar zaw (by rfl) T.len b_len (zaa (pv 1) zad)) (zaF _))
    (zaf (zas (zhG (zdb (zax (zjN bj) (pv 3) (zea (v:=.ref ao) J TO.g J) (zaF _)) (zkj (ziX (pv 2) zcj zki) J J (by simp) (by decide)) zde)))) zaz)
   (zac (zaq (i:=5) I J (Or.inl J) (zdb (zax (zjN bj) (pv 3) (zea (v:=.ref ao) J TO.g J) (zaF _)) (zaO zad) (zaO (zaa (pv 3) zad))))
   (zac (zaq (i:=6) I J (Or.inl J) (zaj bN ap J bM k1 bL .nil pass0 (zaa (pv 0) (zaa (pv 1) (zaa (pv 2) (zaa (pv 5) zad))))))
   (zac (zaY (zc0 (zb8 (pv 6) (λ_=>rfl))) (zac (zaq (i:=7) I J (Or.inl J) (zaj (bQ.mono (by omega)) ap J bP k2 bO .nil pass0 (zaa (pv 0) (zaa (pv 1) (zaa (pv 2) (zaa (pv 5) zad))))))
     (zaf (zas (zdb (zax zgC (zay ix_tup (pv 7) zag (λ_ _=>rfl)) zaD (zaF _)) (zhG zde) (zfY aM shE (pv 4) (zaG (zaa (pv 3) (zaa (zaC zbj (pv 2) (zay ix_tup (pv 7) zag (λ_ _=>rfl))) zad))) (λ_ _=>rfl)))))) zaz)
   (zac (zaq (i:=8) I J (Or.inl J) zde)
   (zac (za0 PassesOwn.never J (zbb (pv 6)) (zaZ J (zam (zai (i:=9) I J (Or.inl J)) (zam (zai (i:=10) I J (Or.inl J)) zaE)))
    (zac (zaq (i:=11) I J (Or.inl J) (zaC zbj (pv 2) (zar zaw (by rfl) T.len b_len (zaa (pv 9) zad))))
    (zaf (zaY (zax zjF (pv 10) zeD (zaF _)) (zaf (zkh bT (pv 8) (pv 11) zcj J))
     (zac (zba (pv 10) (zaZ J (zam (zai (i:=12) I J (Or.inl J)) (zam (zai (i:=13) I J (Or.inl J)) (zam (zai (i:=14) I J (Or.inl J)) zaE)))))
     (zaf (za0 PassesOwn.never J (zi2 (zfY aM shE (pv 4) (zaG (zaa (zaG (zaa (pv 13) (zaa (pv 14) zad))) (zaa (pv 11) zad))) (λ_ _=>rfl))) (zai (i:=15) I J (Or.inl J))
      (zaf (za7 (zhH (pv 8) (zfY aM shE (pv 4) (zaG (zaa (pv 3) (zaa (pv 15) zad))) (λ_ _=>rfl)) ⟨J,J,J,J⟩))))))))))
   (zaf (zas (zhG (pv 8))))))))),?_⟩
  dsimp only[cxOf,Cx.nox,Cx.wish];have cE:=zaR;have cF:(100000:Nat)<=sizeLine:=by rw[sizeLine_eq];decide
  obtain⟨bU,cG,Y,cH⟩:=id aK;have aN:=bi.bk R aL;have aO:=(zjU aN).ok Y;have cI:=zlR Y aN;have bk:=(TO.rm z H).1;refine zao λU O=>?_;refine⟨_,J,_,J,x,J,by omega,J,_,J,ite2 (λg=>?_) (λg=>O _ _ ?_)⟩
  .have g:i=x.length:=by
    have g:=of_decide_eq_true g;injection g with g;omega
   refine⟨_,J,G,ao,rmK R,rmK outR,J,J,aj.1,bk,J,_,J,?_⟩;rw[rmEq];refine ite2 (λg2=>?_) (λg2=>?_)
   .have g2:R=outR:=of_decide_eq_true g2;refine λp np=>⟨_,J,zab,[(.inl (i:Int),.bl true)],J,by show (1:Nat)<=15;decide,p,_,J,zab,λep=>?_⟩;refine q p _ (Ne.symm (zae ac.here np)) (λb' o B=>by rw[zan (zae B np),zan (zae B np),zan (zae B np)];exact B) ⟨ep,_,zab,(KSet.nil.put i (.bl true)).to λe=>?_⟩;rw[g,g2,zjV];exact⟨λh=>⟨J,h.resolve_left id⟩,λh=>.inr h.2⟩
   .have g2:R≠outR:=of_decide_eq_false (by simpa using g2);refine λp np=>⟨p,_,J,zab,λep=>?_⟩;refine q p _ (Ne.symm (zae ac.here np)) (λb' o B=>by rw[zan (zae B np),zan (zae B np)];exact B) ⟨ep,_,zab,KSet.nil.to λe=>?_⟩;rw[g,zjV];exact⟨False.elim,λh=>g2 h.1⟩
  have hi:i<x.length:=by
   have g:=of_decide_eq_false (by simpa using g);by_cases h:i=x.length
   .exact absurd (by rw[h]) g
   .omega
  clear g;refine zek (J0:=λσ' H2=>∃ad,σ'=[some v,some (.str x),some (.int (i:Int)),some (.ref G),some (.ref ab),some (.ref ad),none,none,none,none,none,none,none,none,none,none]/\Same H H2/\PDs z H2 ad (dsR R)) (λU J0=>?g1) ?g2
  case g1=>
   refine⟨_,J,G,ao,rmK R,rmK outR,J,J,aj.1,bk,J,_,J,?_⟩;rw[rmEq];refine ite2 (λg2=>?_) (λg2=>?_)
   .have g2:R=outR:=of_decide_eq_true g2;refine⟨Nat.zero_le _,λp np=>J0 _ _ ⟨p,J,Same.new np,[],zab,?_⟩⟩;unfold dsR;rw[if_pos g2];exact .nil
   .have g2:R≠outR:=of_decide_eq_false (by simpa using g2);refine⟨_,J,by show (1:Nat)<=_;omega,λp np=>J0 _ _ ⟨p,J,Same.new np,[.ref G],zab,?_⟩⟩;unfold dsR;rw[if_neg g2];exact .cons (.tup ((Same.new np) _ _ (aj.2 g2).1) (aj.2 g2).2 (.cons (.int _) (.cons (.str _ (by omega)) .nil))) .nil
  case g2=>
   rintro σ' H1 ⟨ad,rfl,aP,bl⟩;refine zao λU O=>?_;refine⟨_,J,_,J,_,J,_,J,z,v,b,ad,dsR R,x,i,J,bR.same aP,bh.mono aP.x,aK,bl,aO,λaw aq H2 bm cJ bn bo=>O _ _ (zao λU O=>?_)⟩;have ax:=aP.trans bm;have ay:aq.length=(fitsP b (dsR R) x i).length:=by have:=bo.length;simpa using this
   refine⟨_,J,_,.inl ⟨aq,SqL.of bn,J⟩,?_⟩;refine ite2 (λg=>?_) (λg=>O _ _ ?_)
   .have bV:fitsP b (dsR R) x i=[]:=by
     refine List.eq_nil_of_length_eq_zero ?_;cases aq with
     |nil=>simp at ay;omega
     |cons _ _=>simp at g
    refine⟨_,J,_,J,_,J,_,J,z,v,b,ad,dsR R,x,i,J,bh.mono ax.x,aK,bl.same bm,aO,hi,bS,λp az ar np bp=>?_⟩;have ak:=ax.trans ar;obtain⟨cK,cL,cM,bq⟩:=zbe b (dsR R) x i;have bq:=bq hi;have br:=λe=>zjj (b:=b) (x:=x) (R:=R) (i:=i) (e:=e) hi bV;refine⟨_,J,p,_,2,_,J,J,SqT.of bp,zal (j:=2) J,J,_,J,?_⟩;generalize plainL b (dsR R) x i=st at *;refine ite2 (λg2=>?_) (λg2=>?_)
    .have g2:st.2.2.1=Str.ofString "cut":=by
      have g2:=of_decide_eq_true g2;injection g2
     refine λbs aQ=>⟨bs,_,J,zab,λep=>?_⟩;refine q bs _ (Ne.symm (zae (ak _ _ ac.here) aQ)) (λb' o B=>?_) ⟨ep,_,zab,KSet.nil.to λe=>?_⟩
     .have aR:=ak _ _ B;rw[zan (zae aR aQ),zan (zae aR aQ)];exact aR
     .rw[br];exact⟨False.elim,λh=>h.1 g2⟩
    .have g2:st.2.2.1≠Str.ofString "cut":=λbW=>g2 (decide_eq_true (by rw[bW]));have bX:(i:Int)+st.2.1=((i+st.2.1.toNat:Nat):Int):=by omega
     generalize i+st.2.1.toNat=j at *;refine⟨_,J,_,J,_,J,_,J,p,_,1,_,J,J,SqT.of bp,zal (j:=1) J,_,_,J,J,by show (2:Nat)<=_;omega,λZ aS=>?_⟩;have bY:=Same.new (o:=.tup [.ref G,.int ((i:Int)+st.2.1)]) aS;have aT:upd az Z (.tup [.ref G,.int ((i:Int)+st.2.1)]) Z=some (.tup [.ref G,.int (j:Int)]):=by rw[zab,bX]
     have ae:=ak.trans bY;generalize upd az Z (.tup [.ref G,.int ((i:Int)+st.2.1)])=V at *;have aU:=ac.same ae;obtain⟨d,bZ,b0,b1⟩:=aU.at_ R aL j (by omega) (by omega);refine⟨ab,Z,keE R j,kvs,_,J,J,aU.here,aU.keys,zfc (z:=z) (aj.same ae).1 aT,J,b0,?_⟩;obtain⟨ep,aa,h1,h2⟩:=b1;exact q d V bZ ae ⟨ep,aa,h1,h2.to λe=>by rw[br];exact⟨λh=>⟨g2,h⟩,λh=>h.2⟩⟩
   .have b2:fitsP b (dsR R) x i≠[]:=λe=>by
     rw[e] at ay;rw[List.eq_nil_of_length_eq_zero ay] at g;simp at g
    have cN:(fitsP b (dsR R) x i).length<=10:=Nat.le_trans (List.length_filter_le _ _) (zdI Y);refine zao λU O=>?_;refine λfo bt=>O _ _ (zao λU O=>?_);have ar:=Same.new (o:=.dK []) bt;have ak:=ax.trans ar;have aA:upd H2 fo (.dK []) fo=some (.dK []):=zab;have aV:=ar _ _ bn;have b3:=bo.mono ar.x (z:=z);have as:H fo=none:=ax.free bt;generalize upd H2 fo (.dK [])=az at *;refine⟨_,J,aw,J,⟨_,SqL.of aV⟩,zcv (K:=K) (a:=aw) (xs:=aq) (λj σ V=>∃aa aW aX aY aZ a1 a2 af,σ=[some v,some (.str x),some (.int (i:Int)),some (.ref G),some (.ref ab),some (.ref ad),some (.ref aw),none,some (.ref fo),aW,aX,aY,aZ,a1,a2,af]/\SameX fo az V/\V fo=some (.dK aa)/\KSet aa λe=>∃y∈(fitsP b (dsR R) x i).take j,via b x R i y e)
     ⟨[],_,_,_,_,_,_,_,J,.refl,aA,KSet.nil.to λe=>⟨False.elim,λ⟨y,h,_⟩=>by simp at h⟩⟩ (λj σ V _ ⟨_,_,_,_,_,_,_,_,_,s,_⟩=>SqL.of (s _ _ (zaI aV aA (by intro e;cases e)) aV)) ?_ ?_⟩
    .rintro j y σ V bu ⟨aa,aW,aX,aY,aZ,a1,a2,af,rfl,ag,aB,au⟩;have aC:j<(fitsP b (dsR R) x i).length:=by have:=(List.getElem?_eq_some_iff.mp bu).1;omega
     have b4:y=aq.getD j .non:=by rw[List.getD_eq_getElem?_getD,bu];rfl
     obtain⟨a,u,e,cO,bv,b5,bw⟩:=zc6 (zb3 (ms:=fitsP b (dsR R) x i) (i:=j) b3 aC);have b6:=ag _ _ (zaI bv aA (by intro e;cases e)) bv;have ae:Same H V:=λb' o B=>ag _ _ (zae B as) (ak _ _ B);have a3:(fitsP b (dsR R) x i).getD j mk0∈fitsP b (dsR R) x i:=zap mk0 aC;have bx:(fitsP b (dsR R) x i).take (j+1)=(fitsP b (dsR R) x i).take j++[(fitsP b (dsR R) x i).getD j mk0]:=by
      rw[List.take_add_one,List.getElem?_eq_getElem aC,za2 mk0 aC];rfl
     have cP:=au.len (n:=x.length) λe ⟨y,hy,h⟩=>zjW Y (List.mem_of_mem_take hy) h;have b7:=zbQ a3;have b8:=zbz Y aO (List.mem_filter.mp a3).1;rw[b4,e];generalize cQ:(fitsP b (dsR R) x i).getD j mk0=b9 at *;obtain⟨m,o⟩:=b9;refine⟨a,_,J,SqT.of b6,J,_,_,J,_,_,J,J,?_⟩;refine⟨_,J,_,J,m,J,by have:m.length<=1000:=b5;omega,_,_,J,J,?_⟩;have bz:(i:Int)+(m.length:Int)=((i+m.length:Nat):Int):=by omega
     cases o with
     |none=>
      cases bw;refine⟨_,J,J,_,J,iteT ?_⟩;refine⟨_,J,_,J,fo,_,J,DPut.k (k:=.inl ((i:Int)+(m.length:Int))) aB (by omega),?_⟩;refine⟨_,_,_,_,_,_,_,_,J,λb' o al B=>by rw[zan al];exact ag _ _ al B,zab,?_⟩;rw[bz];refine(au.put (i+m.length) (.bl true)).to λe=>?_;rw[bx];constructor
      .rintro(⟨y,hy,h⟩|h)
       .exact⟨y,List.mem_append_left _ hy,h⟩
       .exact⟨_,List.mem_append_right _ List.mem_cons_self,h⟩
      .rintro⟨y,hy,h⟩;rcases List.mem_append.mp hy with hy|hy
       .exact .inl ⟨y,hy,h⟩
       .rw[List.mem_singleton.mp hy] at h;exact .inr h
     |some D=>
      obtain⟨bA,rfl,_,bB,cR⟩:=ze4 bw;have ca:=ag _ _ (zaI bB aA (by intro e;cases e)) bB;obtain⟨cb,cc,ce⟩:=zig aN bU Y a3;have cf:D.2∈bg:=bi.all cb cc D ce;have cS:1<=m.length:=b8.1;have cg:i+m.length<=x.length:=b7;refine⟨_,J,J,_,J,iteF ?_⟩;refine zao λU O=>?_;refine⟨_,J,bA,_,J,SqT.of ca,J,_,_,J,_,_,J,_,_,J,J,O _ _ ?_⟩;refine⟨_,J,_,J,_,J,by show (2:Nat)<=_;omega,λah ch=>?_⟩;have a4:=Same.new (o:=.tup [.int D.2.1,.str D.2.2]) ch;have ci:upd V ah (.tup [.int D.2.1,.str D.2.2]) ah=some (.tup [.int D.2.1,.str D.2.2]):=zab;have cj:=a4 _ _ aB;have ck:=ag.trans a4.x;have cm:=ae.trans a4;generalize upd V ah (.tup [.int D.2.1,.str D.2.2])=bC at *;refine⟨_,J,by show (2:Nat)<=_;omega,λZ aS=>?_⟩;have aD:=Same.new (o:=.tup [.ref ah,.int ((i:Int)+(m.length:Int))]) aS;have aT:upd bC Z (.tup [.ref ah,.int ((i:Int)+(m.length:Int))]) Z=some (.tup [.ref ah,.int ((i+m.length:Nat):Int)]):=by rw[zab,bz]
      have cn:=aD _ _ ci;have bD:=aD _ _ cj;have co:=ck.trans aD.x;have bE:=cm.trans aD;generalize upd bC Z (.tup [.ref ah,.int ((i:Int)+(m.length:Int))])=cp at *;have a5:=ac.same bE;obtain⟨a6,_,cq,ep,av,a7,a8⟩:=a5.at_ D.2 cf (i+m.length) (by omega) cg;refine⟨ab,Z,keE D.2 (i+m.length),kvs,_,J,J,a5.here,a5.keys,zfc (z:=z) (SqT.of cn) aT,J,cq,a6,ep,av,J,a7,?_⟩;have cr:a6≠fo:=zaI a7 bD (by intro e;cases e);refine zi1 (P:=P) (w:=w) (d:=a6) (ep:=ep) (kvs:=av) (λn σ ai=>∃am af,σ=[some v,some (.str x),some (.int (i:Int)),some (.ref G),some (.ref ab),some (.ref ad),some (.ref aw),none,some (.ref fo),some (.str m),some (.ref bA),some (.int ((i:Int)+(m.length:Int))),some (.str D.1),some (.int D.2.1),some (.str D.2.2),af]/\SameX fo cp ai/\ai fo=some (.dK am)/\KSet am λe=>(∃y∈(fitsP b (dsR R) x i).take j,via b x R i y e)∨∃k:Nat,Sum.inl (k:Int)∈(av.take n).map (·.1)/\Sh b x R k e)
       ⟨aa,_,J,.refl,bD,au.to λe=>⟨.inl,λh=>h.elim id λ⟨k,aE,_⟩=>by simp at aE⟩⟩ (λn σ ai _ ⟨_,_,_,s,_⟩=>s _ _ cr a7) (λn p σ ai al ⟨am,af,a9,aF,aG,aH⟩=>?_) (λσ ai ⟨am,af,a9,aF,aG,aH⟩=>?_)
      .subst a9;obtain⟨k,aE,cs⟩:=a8.at (List.mem_of_getElem? al);obtain⟨cu,cT,_⟩:=zdX Y cs;have cv:Same H ai:=λb' o B=>aF _ _ (zae B as) (bE _ _ B);have cU:=aH.len (n:=x.length) λe h=>by
        rcases h with⟨y,hy,h⟩|⟨k,_,h⟩
        .exact zjW Y (List.mem_of_mem_take hy) h
        .exact(zdX Y h).1
       rw[aE];refine⟨_,J,fo,J,.inl ⟨_,.inl aG⟩,_,J,_,J,_,J,by show (2:Nat)<=_;omega,λba cw=>?_⟩;have bb:=Same.new (o:=.tup [.ref G,.int (k:Int)]) cw;have cx:upd ai ba (.tup [.ref G,.int (k:Int)]) ba=some (.tup [.ref G,.int (k:Int)]):=zab;have bF:=bb _ _ aG;have cy:=aF.trans bb.x;have bG:=cv.trans bb;have bc:=ac.same bG;obtain⟨cz,_,cA,cB,cC,bH,bI⟩:=bc.at_ R aL k (by omega) cu;have cV:=bI.len (n:=x.length) λe h=>(zdX Y h).1;refine⟨ab,ba,keE R k,kvs,_,J,J,bc.here,bc.keys,zfc (z:=z) (aj.same bG).1 cx,J,cA,cz,am,cB,cC,J,zaI bF bH (by intro e;cases e),bF,bH,by omega,?_⟩;refine⟨_,_,J,λb' o bJ B=>by rw[zan bJ];exact cy _ _ bJ B,zab,(aH.merge bI).to λe=>?_⟩;have cW:=(List.getElem?_eq_some_iff.mp al).1;have cD:(av.take (n+1)).map (·.1)=(av.take n).map (·.1)++[Sum.inl (k:Int)]:=by
        rw[List.take_add_one,al,List.map_append];show _++[p.1]=_;rw[aE]
       rw[cD];constructor
       .rintro((h|⟨k2,h1,h2⟩)|h)
        .exact .inl h
        .exact .inr ⟨k2,List.mem_append_left _ h1,h2⟩
        .exact .inr ⟨k,List.mem_append_right _ List.mem_cons_self,h⟩
       .rintro(h|⟨k2,h1,h2⟩)
        .exact .inl (.inl h)
        .rcases List.mem_append.mp h1 with h1|h1
         .exact .inl (.inr ⟨k2,h1,h2⟩)
         .have h1:=List.mem_singleton.mp h1;injection h1 with h1;have:k2=k:=by omega
          rw[this] at h2;exact .inr h2
      .subst a9;refine⟨am,_,_,_,_,_,_,_,J,co.trans aF,aG,aH.to λe=>?_⟩;rw[bx,List.take_length];constructor
       .rintro(⟨y,hy,h⟩|⟨k,h1,h2⟩)
        .exact⟨y,List.mem_append_left _ hy,h⟩
        .obtain⟨k2,bK,bd⟩:=(a8.iff _).mp h1;injection bK with bK;have:k=k2:=by omega
         rw[this] at h2;exact⟨_,List.mem_append_right _ List.mem_cons_self,k2,bd,h2⟩
       .rintro⟨y,hy,h⟩;rcases List.mem_append.mp hy with hy|hy
        .exact .inl ⟨y,hy,h⟩
        .rw[List.mem_singleton.mp hy] at h;obtain⟨k,bd,h2⟩:=h;exact .inr ⟨k,(a8.iff _).mpr ⟨k,J,bd⟩,h2⟩
    .rintro σ V ⟨aa,aW,aX,aY,aZ,a1,a2,af,rfl,ag,aB,au⟩;have ae:Same H V:=λb' o B=>ag _ _ (zae B as) (ak _ _ B);refine O _ _ ⟨_,J,fo,aa,J,aB,λep=>?_⟩;refine q fo _ (Ne.symm (zae ac.here as)) (λb' o B=>?_) ⟨ep,aa,zab,au.to λe=>?_⟩
     .rw[zan (zae B as)];exact ae _ _ B
     .rw[zkS hi b2,ay,List.take_length]
theorem zih{kvs:List NEnt}{k:List NKey}(h:∀p∈kvs,p.1≠k):nval kvs k=none:=by
 unfold nval;have:(kvs.find? λp=>decide (p.1=k))=none:=List.find?_eq_none.mpr λp j g=>h p j (of_decide_eq_true g);rw[this];rfl
theorem zkU{K:W.Frag}{H H':Hp}{a j:Addr}{xs:List V}{P:Program}{w:World}{sh:List Bool}{kvs:List NEnt}(B:H j=some (dN P w sh j kvs))(s:SameX j H H')(h:SqT K H a xs):SqT K H' a xs:=by
 rcases h with(h|⟨o,h⟩)|h
 .exact .inl (.inl (s _ _ (zaI h B (by intro e;cases e)) h))
 .exact .inl (.inr ⟨o,s _ _ (zaI h B (by intro e;cases e)) h⟩)
 .exact .inr h
theorem zgo{K:W.Frag}{H H':Hp}{a j:Addr}{ks:List NKey}{P:Program}{w:World}{sh:List Bool}{kvs:List NEnt}(B:H j=some (dN P w sh j kvs))(s:SameX j H H')(h:NKeyW K H ks a):NKeyW K H' ks a:=by
 obtain⟨vs,e,r⟩:=h;refine⟨vs,s _ _ (zaI e B (by intro e;cases e)) e,?_⟩;clear e;induction r with
 |nil=>exact .nil
 |@cons x v xs vs h1 _ D=>
  refine .cons ?_ D;cases x with
  |inl _=>exact h1
  |inr l=>obtain⟨d,e,h2⟩:=h1;exact⟨d,e,zkU B s h2⟩
structure EndsN(P:Program)(w:World)(K:W.Frag)(H:Hp)(ed:Addr)(b:Bk)(x:Str)(rs:List Rm)(i m:Nat)(kvs:List NEnt):Prop where
 base:EndsD P w K H ed b x rs (i+1) kvs
 now:∀R∈rs.take m,∃d,d≠ed/\nval kvs (keE R i)=some (.ref d)/\EndAt P w H d b x R i
 only:∀p∈kvs,∃R j,p.1=keE R j/\(i<j∨j=i/\R∈rs.take m)
 few:kvs.length<=rs.length*(x.length-i)+m
theorem EndsN.same{H H':Hp}{j:Addr}{b:Bk}{x:Str}{B:List Rm}{i m:Nat}{kvs:List NEnt}(h:EndsN P w K H j b x B i m kvs)(s:Same H H'):EndsN P w K H' j b x B i m kvs:=⟨h.base.same s,λR D=>let ⟨d,F,G,I⟩:=h.now R D;⟨d,F,G,I.same s⟩,h.only,h.few⟩
theorem EndsN.fresh{H:Hp}{F:Addr}{b:Bk}{x:Str}{B:List Rm}{i m:Nat}{kvs:List NEnt}(h:EndsN P w K H F b x B i m kvs)(G:B.Nodup)(D:m<B.length):nval kvs (keE (B.getD m outR) i)=none:=zih λp I e=>by
 obtain⟨R,j,J0,h2⟩:=h.only p I;rw[J0] at e;obtain⟨O,V⟩:=zfE e;rcases h2 with h2|⟨_,h2⟩
 .omega
 .rw[O,za2 outR D] at h2;obtain⟨n,W,U⟩:=List.mem_take_iff_getElem.mp h2;have:=(List.getElem_inj (h₀:=by omega) (h₁:=D) G).mp U;omega
theorem EndsN.put{H:Hp}{D d r:Addr}{b:Bk}{x:Str}{B:List Rm}{i m:Nat}{kvs:List NEnt}(h:EndsN P w K H D b x B i m kvs)(ad:B.Nodup)(O:m<B.length)(aa:d≠D)(ae:EndAt P w H d b x (B.getD m outR) i)(af:NKeyW K H (keE (B.getD m outR) i) r) :
  EndsN P w K (upd H D (dN P w shE D (kvs++[(keE (B.getD m outR) i,r,.ref d)]))) D b x B i (m+1) (kvs++[(keE (B.getD m outR) i,r,.ref d)]):=by
 have W:=h.fresh ad O;have ab:SameX D H (upd H D (dN P w shE D (kvs++[(keE (B.getD m outR) i,r,.ref d)]))):=λb' o Y ag=>by rw[zan Y];exact ag
 have ai:∀ {d R j},d≠D->EndAt P w H d b x R j->EndAt P w (upd H D (dN P w shE D (kvs++[(keE (B.getD m outR) i,r,.ref d)]))) d b x R j:=λY ⟨ep,F,h1,h2⟩=>⟨ep,F,by rw[zan Y];exact h1,h2⟩;have ac:B.take (m+1)=B.take m++[B.getD m outR]:=by
  rw[List.take_add_one,List.getElem?_eq_getElem O,za2 outR O];rfl
 have aj:B.getD m outR∈B:=zap outR O;refine⟨⟨zab,λp hp=>?_,λR U j h1 h2=>?_⟩,λR U=>?_,λp hp=>?_,?_⟩
 .rcases List.mem_append.mp hp with hp|hp
  .exact⟨zgo h.base.here ab (h.base.keys p hp).1,(h.base.keys p hp).2⟩
  .rw[List.mem_singleton.mp hp];exact⟨zgo h.base.here ab af,J⟩
 .obtain⟨d',G,Z,ep,F,I,J0⟩:=h.base.at_ R U j h1 h2;refine⟨d',G,?_,ep,F,by rw[zan G];exact I,J0⟩;rw[zdN W,if_neg (λe=>by have:=(zfE e).2;omega)];exact Z
 .rw[ac] at U;by_cases e:R=B.getD m outR
  .rw[e];obtain⟨ep,F,I,J0⟩:=ae;exact⟨d,aa,by rw[zdN W,if_pos rfl],ep,F,by rw[zan aa];exact I,J0⟩
  .obtain⟨d',G,Z,ep,F,I,J0⟩:=h.now R ((List.mem_append.mp U).resolve_right λg=>e (List.mem_singleton.mp g));refine⟨d',G,?_,ep,F,by rw[zan G];exact I,J0⟩;rw[zdN W,if_neg (λg=>e (zfE g).1)];exact Z
 .rw[ac];rcases List.mem_append.mp hp with hp|hp
  .obtain⟨R,j,ah,V⟩:=h.only p hp;exact⟨R,j,ah,V.imp id λV=>⟨V.1,List.mem_append_left _ V.2⟩⟩
  .rw[List.mem_singleton.mp hp];exact⟨_,_,J,.inr ⟨J,List.mem_append_right _ List.mem_cons_self⟩⟩
 .rw[List.length_append];have:=h.few;show _+1<=_;omega
theorem EndsN.done{H:Hp}{D:Addr}{b:Bk}{x:Str}{B:List Rm}{i:Nat}{kvs:List NEnt}(h:EndsN P w K H D b x B i B.length kvs):EndsD P w K H D b x B i kvs/\(∀p∈kvs,∃R j,p.1=keE R j/\i<=j):=by
 refine⟨⟨h.base.here,h.base.keys,λR F j h1 h2=>?_⟩,λp G=>?_⟩
 .by_cases e:j=i
  .rw[e];exact h.now R (by rw[List.take_length];exact F)
  .exact h.base.at_ R F j (by omega) h2
 .obtain⟨R,j,I,e2⟩:=h.only p G;exact⟨R,j,I,by rcases e2 with e2|e2<;>omega⟩
inductive zcH(P:Program)(w:World)(K:W.Frag):List V->Hp->VK->XK->Prop where
 |mk {vs:List V} {H:Hp} {Q:VK} {E:XK} (z v b x:_) (c1:vs=[v,.str x]) (c2:Bag z H) (c3:Rep z H v (bkD b)) (c4:BkOk b) (c5:x.length<=20000)
  (q:∀ed rs kvs H',Same H H'->RmsOk b rs->EndsD P w K H' ed b x rs 0 kvs->Q (.ref ed) H'):zcH P w K vs H Q E
theorem scAllEnds:zau ["book","text","rooms","ends","place","room"] ["book","text"] (zah zdi):=⟨J,J,J,by decide +kernel,J,by decide +kernel,by decide +kernel⟩
theorem zgT{f ak al:Addr}{fd ax ay:FuncData}(F:Fun K "all_ends" "all_ends" zdi f fd)(T:TxtB mg)(aN:mg "reversed"=none)(k1:W.keepIn K (.ref ak)=true)(aO:Binds K ax ["book"] [])(aP:mg "rooms_of"=some (.ref ak))(aQ:FnOk P w K mg base CX0 1 ak ax ["book"] (zeu K))(k2:W.keepIn K (.ref al)=true)(aR:Binds K ay ["book","text","place","room","ends"] [])(aS:mg "ends_from"=some (.ref al))(aT:FnOk P w K mg base CX0 4 al ay ["book","text","place","room","ends"] (zgn P w K)):FnOk P w K mg base CX0 5 f fd ["book","text"] (zcH P w K):=by
 refine F.ok scAllEnds (λvs H Q E h=>?_) (λcdv A outer s H vs Q E am h=>?_)
 .obtain⟨z,v,b,x,rfl,_⟩:=h;rfl
 .obtain⟨z,v,b,x,rfl,az,aA,ao,aU,q⟩:=h;have af:=scAllEnds.nd;have aV:(A.deeper (PyProof.Rows.envOfC (Str.ofString "all_ends") (zah zdi) s.heap.objs.size f cdv)).units+6<cLine:=by have:=am.un;omega
  refine⟨_,zac (zaq (i:=2) af J (Or.inl J) (zaj (aQ.mono (by omega)) am J aP k1 aO .nil pass0 (zaa (pv 0) zad)))
   (zac (zaq (i:=3) af J (Or.inl J) (ziZ shE))
   (zac (za0 PassesOwn.never J (zfq J aN J T.range (zaa (zaC zbj (zar zaw (by rfl) T.len b_len (zaa (pv 1) zad)) zag) zad)) (zai (i:=4) af J (Or.inl J))
    (zaf (za0 PassesOwn.never J (zbb (pv 2)) (zai (i:=5) af J (Or.inl J))
     (zaf (zba (zaj aT am J aS k2 aR .nil pass0 (zaa (pv 0) (zaa (pv 1) (zaa (pv 4) (zaa (pv 5) (zaa (pv 3) zad)))))) (zfH (pv 3) (zaG (zaa (pv 5) (zaa (pv 4) zad))) (zmi aV shE)))))))
   (zaf (zas (pv 3))))),?_⟩
  dsimp only[cxOf,Cx.nox,Cx.wish];have be:=zaR;have bf:(100000:Nat)<=sizeLine:=by rw[sizeLine_eq];decide
  have bg:=sizeLine_eq;obtain⟨bh,bi,bj,bk⟩:=id ao;refine zao λU O=>?_;refine⟨_,J,z,v,b,J,az,aA,ao,λag G D H1 aB bl aC ap Y=>O _ _ (zao λU O=>?_)⟩;refine λB aD=>O _ _ (zao λU O=>?_);have aW:=Same.new (o:=dN P w shE B []) aD;have aX:upd H1 B (dN P w shE B []) B=some (dN P w shE B []):=zab;generalize upd H1 B (dN P w shE B [])=H2 at *;have aY:=Y.few;refine⟨_,J,x,J,by omega,_,_,J,J,x.length+1,by show [V.int ((x.length:Int)+1)]=_;rfl,by omega,?_⟩;refine zgM (λt σ Z=>∃kvs aq I,σ=[some v,some (.str x),some (.ref ag),some (.ref B),aq,I]/\Same H1 Z/\EndsD P w K Z B b x D (x.length+1-t) kvs/\(∀p∈kvs,∃R j,p.1=keE R j/\x.length+1-t<=j)/\kvs.length<=D.length*t)
   ⟨[],_,_,J,aW,⟨aX,λp aa=>(nomatch aa),λR _ j h1 h2=>absurd h1 (by omega)⟩,λp aa=>(nomatch aa),Nat.zero_le _⟩ (λt σ Z bm ⟨kvs,aq,I,ar,ah,ab,as,aE⟩=>?_) (λσ Z ⟨kvs,aq,I,ar,ah,ab,as,aE⟩=>?_)
  .subst ar;have aZ:(((x.length+1:Nat):Int)-1+(t:Int)*(-1))=((x.length-t:Nat):Int):=by omega
   rw[aZ];have a1:x.length+1-t=x.length-t+1:=by omega
   have aF:x.length-(x.length-t)=t:=by omega
   have a2:x.length+1-(t+1)=x.length-t:=by omega
   have a3:x.length-t<=x.length:=by omega
   rw[a1] at ab as;rw[a2];generalize x.length-t=i at *;refine⟨_,J,ag,J,⟨_,SqL.of (ah _ _ aC)⟩,zcv (K:=K) (a:=ag) (xs:=G.map V.ref) (λm σ ac=>∃kvs I,σ=[some v,some (.str x),some (.ref ag),some (.ref B),some (.int (i:Int)),I]/\Same H1 ac/\EndsN P w K ac B b x D i m kvs)
    ⟨kvs,_,J,ah,ab,λR a4=>(by simp at a4),λp aa=>let ⟨R,j,h1,h2⟩:=as p aa;⟨R,j,h1,.inl h2⟩,by rw[aF];exact aE⟩ (λm σ ac _ ⟨_,_,_,s,_⟩=>SqL.of (s _ _ aC)) ?_ ?_⟩
   .rintro m y σ ac ad ⟨kvs,I,rfl,ae,J0⟩;have au:m<G.length:=by have:=(List.getElem?_eq_some_iff.mp ad).1;simpa using this
    have av:m<D.length:=by rw[←ap.len];exact au
    have a5:y=.ref G[m]:=by
     rw[List.getElem?_map,List.getElem?_eq_getElem au] at ad;injection ad with ad;exact ad.symm
    subst a5;have aG:=ap.at_ m au;have a6:D.getD m outR∈D:=zap outR av;have aH:=aB.trans ae;have bn:D.length*(x.length-i)<=100*20000:=Nat.mul_le_mul aY (by omega);have bo:=J0.few;refine⟨_,J,_,J,_,J,_,J,_,J,z,v,b,x,D,D.getD m outR,i,G[m],B,kvs,J,az.same aH,aA.mono aH.x,ao,Y,a6,aG.same ae,a3,aU,J0.base,λd aI a7 aJ a8=>?_⟩;refine⟨_,J,_,J,_,J,by show (2:Nat)<=_;omega,λai a9=>?_⟩;have aw:=Same.new (o:=.tup [.ref G[m],.int (i:Int)]) a9;have ba:upd aI ai (.tup [.ref G[m],.int (i:Int)]) ai=some (.tup [.ref G[m],.int (i:Int)]):=zab;have aK:=(ae.trans aJ).trans aw;have aj:=J0.same (aJ.trans aw);have bb:=a8.same aw;generalize upd aI ai (.tup [.ref G[m],.int (i:Int)])=bp at *;have aL:=zfc (z:=z) (i:=i) (aG.same aK).1 ba;refine⟨B,ai,keE (D.getD m outR) i,kvs,J,J,aj.base.here,aj.base.keys,aL,J,aj.fresh Y.nd av,by omega,?_⟩;exact⟨_,_,J,λb' o aM=>by rw[zan (zae aM aD)];exact aK _ _ aM,aj.put Y.nd av a7 bb aL⟩
   .rintro σ ac ⟨kvs,I,rfl,ae,J0⟩;rw[List.length_map,ap.len] at J0;obtain⟨bc,bd⟩:=J0.done;refine⟨kvs,_,_,J,ae,bc,bd,?_⟩;have:=J0.few;rw[aF] at this;rw[Nat.mul_add,Nat.mul_one];exact this
  .subst ar;refine O _ _ ⟨_,J,q B D kvs Z (aB.trans ah) Y ?_⟩;rw[Nat.sub_self] at ab;exact ab
noncomputable def Rch(b:Bk)(x:Str):List Rm->Nat->Nat->Prop
 |[],i,e=>e=i
 |R::j,i,e=>∃k,Sh b x R i k/\Rch b x j k e
theorem rch_chain{b:Bk}{x:Str}:∀ {j:List Rm}{i:Nat},Chain b x j i↔∃e,Rch b x j i e
 |[],i=>⟨λ_=>⟨i,J⟩,λ_=>trivial⟩
 |R::j,i=>by
  constructor
  .rintro⟨k,h1,h2⟩;obtain⟨e,B⟩:=rch_chain.mp h2;exact⟨e,k,h1,B⟩
  .rintro⟨e,k,h1,h2⟩;exact⟨k,h1,rch_chain.mpr ⟨e,h2⟩⟩
theorem rch_snoc{b:Bk}{x:Str}{R:Rm}:∀ {j:List Rm}{i e:Nat},Rch b x (j++[R]) i e↔∃k,Rch b x j i k/\Sh b x R k e
 |[],i,e=>by
  constructor
  .rintro⟨k,h1,h2⟩;have h2:e=k:=h2;rw[h2];exact⟨i,J,h1⟩
  .rintro⟨k,h1,h2⟩;have h1:k=i:=h1;rw[h1] at h2;exact⟨e,h2,J⟩
 |S::j,i,e=>by
  constructor
  .rintro⟨k,h1,h2⟩;obtain⟨k2,B,D⟩:=rch_snoc.mp h2;exact⟨k2,⟨k,h1,B⟩,D⟩
  .rintro⟨k2,⟨k,h1,B⟩,D⟩;exact⟨k,h1,rch_snoc.mpr ⟨k2,B,D⟩⟩
theorem zjX{b:Bk}{x:Str}(j:∀t∈b,TgOk b.length t):∀ {B:List Rm}{i e:Nat},i<=x.length->Rch b x B i e->e<=x.length
 |[],i,e,hi,h=>by
  have h:e=i:=h;omega
 |R::B,i,e,hi,⟨k,h1,h2⟩=>zjX j (zdX j h1).1 h2
theorem KSet.ints{j:List (Key×V)}{S:Nat->Prop}(h:KSet j S):∃B:List Nat,(j.map λp=>kV p.1)=B.map (λe:Nat=>V.int (e:Int))/\(∀e,e∈B↔S e)/\B.length=j.length:=by
 have U:∀j:List (Key×V),(∀k∈j.map (·.1),∃e:Nat,k=.inl (e:Int))->∃B:List Nat,(j.map λp=>kV p.1)=B.map (λe:Nat=>V.int (e:Int))/\j.map (·.1)=B.map (λe:Nat=>(Sum.inl (e:Int):Key)):=by
  intro j;induction j with
  |nil=>intro _;exact⟨[],J,J⟩
  |cons p r W=>
   intro g;obtain⟨B,h1,h2⟩:=W λk I=>g k (List.mem_cons_of_mem _ I);obtain⟨e,D⟩:=g p.1 List.mem_cons_self;exact⟨e::B,by rw[List.map_cons,List.map_cons,h1,D];rfl,by rw[List.map_cons,List.map_cons,h2,D]⟩
 obtain⟨B,h1,h2⟩:=U j λk I=>let ⟨e,D,_⟩:=(h.iff k).mp I;⟨e,D⟩;refine⟨B,h1,λe=>?_,by have:=congrArg List.length h2;simpa using this.symm⟩;have J0:=h.iff (.inl (e:Int));rw[h2] at J0;constructor
 .intro D;obtain⟨O,F,G⟩:=J0.mp (List.mem_map.mpr ⟨e,D,J⟩);injection F with F;have:e=O:=by omega
  rw[this];exact G
 .intro D;obtain⟨O,F,G⟩:=List.mem_map.mp (J0.mpr ⟨e,J,D⟩);injection G with G;have:O=e:=by omega
  rw[←this];exact F
theorem zmn{b:Bk}{j:List Rm}(h:RmsOk b j){ds:List LDr}(D:LdBk b ds){d:LDr}(F:d∈ds):d.2∈j:=by
 obtain⟨t,G,B,I,J0,O⟩:=D d F;have:d.2=B.2:=Prod.ext J0 O;rw[this];exact h.all t G B I
theorem zlS{b:Bk}{j:List Rm}(h:RmsOk b j){ds:List LDr}(B:LdBk b ds){R:Rm}(hm:R∈rms ds):R∈j:=by
 unfold rms at hm;rcases List.mem_append.mp hm with hm|hm
 .obtain⟨d,D,rfl⟩:=List.mem_map.mp (List.mem_reverse.mp hm);exact zmn h B D
 .rw[List.mem_singleton.mp hm];exact h.out
theorem zii(ds:List LDr):(rms ds).length=ds.length+1:=by
 unfold rms;rw[List.length_append,List.length_reverse,List.length_map];rfl
theorem zlT{K:W.Frag}{mg:Str->Option Value}{z B:Addr}{H:Hp}{vs:List V}{ds:List LDr}(TO:TxO mg K B)(r:Reps z H vs (ds.map pdD)){t:Nat}(Z:t<ds.length+1){y:V}(j:(V.ref B::vs)[(V.ref B::vs).length-1-t]?=some y):∃a,y=.ref a/\RmAt K z H a ((rms ds).getD t outR):=by
 have J0:vs.length=ds.length:=by have:=r.length;simpa using this
 have O:(V.ref B::vs).length-1-t=ds.length-t:=by rw[List.length_cons,J0];omega
 rw[O] at j;unfold rms;by_cases h:t<ds.length
 .obtain⟨n,aa⟩:∃n,n=ds.length-t-1:=⟨_,J⟩;have F:ds.length-t=n+1:=by omega
  rw[F,List.getElem?_cons_succ] at j;have U:y=vs.getD n .non:=by rw[List.getD_eq_getElem?_getD,j];rfl
  obtain⟨a,D,Y,I⟩:=zjP (zh2 (ds:=ds) (i:=n) r (by omega));refine⟨a,by rw[U,D],?_⟩;have G:((ds.map (·.2)).reverse++[outR]).getD t outR=(ds.getD n ld0).2:=by
   rw[List.getD_eq_getElem?_getD,List.getElem?_append_left (by simpa using h),List.getElem?_reverse (by simpa using h),List.length_map,List.getElem?_map];have:ds.length-1-t=n:=by omega
   rw[this,List.getElem?_eq_getElem (by omega),za2 ld0 (by omega)];rfl
  rw[G];exact⟨SqT.of I,λ_=>⟨I,Y⟩⟩
 .have F:ds.length-t=0:=by omega
  have D:t=ds.length:=by omega
  rw[F] at j;injection j with j;refine⟨B,j.symm,?_⟩;have G:((ds.map (·.2)).reverse++[outR]).getD t outR=outR:=by
   rw[List.getD_eq_getElem?_getD,List.getElem?_append_right (by simp[D])];simp[D]
  rw[G];exact TO.rm z H
inductive spCan(P:Program)(w:World)(K:W.Frag):List V->Hp->VK->XK->Prop where
 |mk {vs:List V} {H:Hp} {Q:VK} {E:XK} (z b x ds rs:_) (i:Nat) (q ed:Addr) (kvs:_) (c1:vs=[.int (i:Int),.ref q,.ref ed]) (c4:BkOk b) (c5:RmsOk b rs) (c6:PDs z H q ds) (c7:LdBk b ds) (c8:i<=x.length) (c9:x.length<=20000) (c11:ds.length<=20000) (c10:EndsD P w K H ed b x rs 0 kvs)
  (k:∀H',Same H H'->Q (.bl (decide (0<cn b x ds i))) H'):spCan P w K vs H Q E
theorem scCan:zau ["place","doors","ends","places","room","behind","begin"] ["place","doors","ends"] (zah zbM):=⟨J,J,J,by decide +kernel,J,by decide +kernel,by decide +kernel⟩
theorem zlU{f B:Addr}{fd:FuncData}(F:Fun K "can_be_whole" "can_be_whole" zbM f fd)(TO:TxO mg K B)(T:TxtB mg)(aU:Txt2 mg)(aV:mg "reversed"=none):FnOk P w K mg base CX0 1 f fd ["place","doors","ends"] (spCan P w K):=by
 refine F.ok scCan (λvs H Q E h=>?_) (λcdv A outer s H vs Q E aW h=>?_)
 .obtain⟨z,b,x,ds,aG,i,q,ai,kvs,rfl,_⟩:=h;rfl
 .obtain⟨z,b,x,ds,aG,i,q,ai,kvs,rfl,aX,aY,⟨vs,aZ,aH⟩,aI,hi,bC,bD,a1,k⟩:=h;have ad:=scCan.nd;have a2:(A.deeper (PyProof.Rows.envOfC (Str.ofString "can_be_whole") (zah zbM) s.heap.objs.size f cdv)).units+6<cLine:=by have:=aW.un;omega
  refine⟨_,zac (zaq (i:=3) ad J (Or.inl J) (zaO (zaa (pv 0) zad)))
   (zac (za0 PassesOwn.never J (zhK J aV (zaa (zaC zfO (zaO (zaa (zea (v:=.ref B) J TO.g J) zad)) (pv 1)) zad)) (zai (i:=4) ad J (Or.inl J))
    (zac (zaq (i:=5) ad J (Or.inl J) zde)
    (zac (za0 PassesOwn.never J (zbb (pv 3)) (zai (i:=6) ad J (Or.inl J))
     (zaf (za7 (zhH (pv 5) (zfY a2 shE (pv 2) (zaG (zaa (pv 4) (zaa (pv 6) zad))) (λ_ _=>rfl)) ⟨J,J,J,J⟩))))
    (zaf (zaq (i:=3) ad J (Or.inl J) (zaV (zdW J) (by rfl) aU.list zfQ (zaa (pv 5) zad)))))))
   (zaf (zas (zg9 ziD (zar zat (by rfl) T.len b_len (zaa (pv 3) zad)) zag (zaF _))))),?_⟩
  dsimp only[cxOf,Cx.nox,Cx.wish];have bE:=zaR;have bF:=sizeLine_eq;obtain⟨bG,bH,ae,bI⟩:=id aX;have a3:vs.length=ds.length:=by have:=aH.length;simpa using this
  refine zao λU O=>?_;refine⟨_,J,by show (1:Nat)<=_;omega,λD a4=>O _ _ (zao λU O=>?_)⟩;have a5:=Same.new (o:=.lst [.int (i:Int)]) a4;have a6:upd H D (.lst [.int (i:Int)]) D=some (.lst [.int (i:Int)]):=zab;generalize upd H D (.lst [.int (i:Int)])=H1 at *;refine⟨by show (1:Nat)<=_;omega,λaj a7=>?_⟩;have aJ:=Same.new (o:=.lst [.ref B]) a7;have a8:upd H1 aj (.lst [.ref B]) aj=some (.lst [.ref B]):=zab;have aK:=a5.trans aJ;have a9:=aJ _ _ a6;generalize upd H1 aj (.lst [.ref B])=H2 at *;refine⟨_,J,aj,q,_,_,J,J,a8,aK _ _ aZ,by show 1+vs.length<=_;omega,λaf ba=>?_⟩;have aL:=Same.new (o:=.lst ([.ref B]++vs)) ba;have aM:upd H2 af (.lst ([.ref B]++vs)) af=some (.lst (.ref B::vs)):=zab;have ak:=aK.trans aL;have bb:=aL _ _ a9;generalize upd H2 af (.lst ([.ref B]++vs))=aN at *;refine⟨af,.ref B::vs,J,SqL.of aM,?_⟩;have aO:(V.ref B::vs).length=ds.length+1:=by rw[List.length_cons,a3]
  refine zi3 (K:=K) (a:=af) (xs:=.ref B::vs) (λt σ I=>∃D j as au W,σ=[some (.int (i:Int)),some (.ref q),some (.ref ai),some (.ref D),as,au,W]/\Same aN I/\I D=some (.lst (j.map λe:Nat=>V.int (e:Int)))/\(∀e,e∈j↔Rch b x ((rms ds).take t) i e)/\j.length<=x.length+1)
   ⟨D,[i],_,_,_,J,Same.refl _,bb,λe=>?_,by show 1<=_;omega⟩ (λt σ I _ ⟨_,_,_,_,_,_,s,_⟩=>SqL.of (s _ _ aM)) (λt y σ I av bc ⟨D,j,as,au,W,aw,Y,ax,Z,bd⟩=>?_) (λσ I ⟨D,j,as,au,W,aw,Y,ax,Z,bd⟩=>?_)
  .show e∈[i]↔e=i;exact List.mem_singleton
  .subst aw;rw[aO] at av;obtain⟨ag,rfl,be⟩:=zlT TO (aH.mono (ak.trans Y).x) av bc;have ay:t<(rms ds).length:=by rw[zii];exact av
   have bf:(rms ds).getD t outR∈aG:=zlS aY aI (zap outR ay);have bg:(rms ds).take (t+1)=(rms ds).take t++[(rms ds).getD t outR]:=by
    rw[List.take_add_one,List.getElem?_eq_getElem ay,za2 outR ay];rfl
   rw[bg];generalize (rms ds).getD t outR=R at *;refine zao λU O=>?_;refine λfo az=>O _ _ (zao λU O=>?_);have al:=Same.new (o:=.dK []) az;have bJ:=(ak.trans Y).trans al;have aP:upd I fo (.dK []) fo=some (.dK []):=zab;have aA:=al _ _ ax;generalize upd I fo (.dK [])=bh at *;have bK:∀ {k},k∈j->k<=x.length->True:=λ_ _=>trivial;refine⟨_,J,D,J,⟨_,SqL.of aA⟩,zcv (K:=K) (a:=D) (xs:=j.map λe:Nat=>V.int (e:Int)) (λn σ J0=>∃ab W,σ=[some (.int (i:Int)),some (.ref q),some (.ref ai),some (.ref D),some (.ref ag),some (.ref fo),W]/\SameX fo bh J0/\J0 fo=some (.dK ab)/\KSet ab λe=>∃k∈j.take n,Sh b x R k e)
    ⟨[],_,J,.refl,aP,KSet.nil.to λe=>⟨False.elim,λ⟨k,h,_⟩=>by simp at h⟩⟩ (λn σ J0 _ ⟨_,_,_,s,_⟩=>SqL.of (s _ _ (zaI aA aP (by intro e;cases e)) aA)) ?_ ?_⟩
   .rintro n y σ J0 ah ⟨ab,W,rfl,am,ao,ac⟩;have aB:n<j.length:=by have:=(List.getElem?_eq_some_iff.mp ah).1;simpa using this
    have bi:y=V.int ((j[n]:Nat):Int):=by
     rw[List.getElem?_map,List.getElem?_eq_getElem aB] at ah;injection ah with ah;exact ah.symm
    subst bi;have bj:j[n]∈j:=List.getElem_mem aB;have bk:j.take (n+1)=j.take n++[j[n]]:=by
     rw[List.take_add_one,List.getElem?_eq_getElem aB];rfl
    have bl:j[n]<=x.length:=zjX ae hi ((Z _).mp bj);generalize j[n]=aa at *;have ap:∀b' o,I b'=some o->J0 b'=some o:=λb' o G=>am _ _ (zae G az) (al _ _ G);have bm:Same H J0:=λb' o G=>ap _ _ ((ak.trans Y) _ _ G);have bn:=ac.len (n:=x.length) λe ⟨k,_,h⟩=>(zdX ae h).1;refine⟨_,J,fo,J,.inl ⟨_,.inl ao⟩,_,J,_,J,_,J,by show (2:Nat)<=_;omega,λaq bo=>?_⟩;have ar:=Same.new (o:=.tup [.ref ag,.int (aa:Int)]) bo;have bp:upd J0 aq (.tup [.ref ag,.int (aa:Int)]) aq=some (.tup [.ref ag,.int (aa:Int)]):=zab;have aQ:=ar _ _ ao;have bq:=bm.trans ar;have br:=(be.same (λb' o G=>ap _ _ G)).same ar;have bs:=am.trans ar.x;generalize upd J0 aq (.tup [.ref ag,.int (aa:Int)])=bL at *;have aC:=a1.same bq;obtain⟨bt,_,bu,bv,bw,aR,aS⟩:=aC.at_ R bf aa (Nat.zero_le _) bl;have bM:=aS.len (n:=x.length) λe h=>(zdX ae h).1;refine⟨ai,aq,keE R aa,kvs,_,J,J,aC.here,aC.keys,zfc (z:=z) br.1 bp,J,bu,bt,ab,bv,bw,J,zaI aQ aR (by intro e;cases e),aQ,aR,by omega,?_⟩;refine⟨_,_,J,λb' o aT G=>by rw[zan aT];exact bs _ _ aT G,zab,(ac.merge aS).to λe=>?_⟩;rw[bk];constructor
    .rintro(⟨k2,h1,h2⟩|h)
     .exact⟨k2,List.mem_append_left _ h1,h2⟩
     .exact⟨aa,List.mem_append_right _ List.mem_cons_self,h⟩
    .rintro⟨k2,h1,h2⟩;rcases List.mem_append.mp h1 with h1|h1
     .exact .inl ⟨k2,h1,h2⟩
     .rw[List.mem_singleton.mp h1] at h2;exact .inr h2
   .rintro σ J0 ⟨ab,W,rfl,am,ao,ac⟩;rw[List.length_map,List.take_length] at ac;have ap:Same aN J0:=λb' o G=>am _ _ (zae (Y _ _ G) az) (al _ _ (Y _ _ G));refine O _ _ ?_;refine⟨_,J,fo,ab,J,ao,λpn bx=>?_⟩;obtain⟨bz,h1,h2,bN⟩:=ac.ints;have bn:=ac.len (n:=x.length) λe ⟨k,_,h⟩=>(zdX ae h).1;refine⟨pn,bz,_,_,_,J,ap.trans (Same.new bx),by rw[zab,h1],λe=>?_,by omega⟩;rw[h2,rch_snoc];refine⟨λbA=>?_,λ⟨k,aD,aE⟩=>⟨k,(Z k).mpr aD,aE⟩⟩;obtain⟨k,aD,aE⟩:=bA;exact⟨k,(Z k).mp aD,aE⟩
  .subst aw;refine O _ _ ?_;refine⟨_,J,D,_,J,.inl (SqL.of ax),_,_,J,J,?_⟩;have bB:(rms ds).take (V.ref B::vs).length=rms ds:=by rw[aO,←zii,List.take_length]
   rw[bB] at Z;have e:decide ((((j.map λe:Nat=>V.int (e:Int)).length:Nat):Int)>0)=decide (0<cn b x ds i):=by
    refine decide_eq_decide.mpr ?_;rw[zlO ae aI hi,rch_chain,List.length_map];constructor
    .intro g;obtain⟨e,aF⟩:=List.exists_mem_of_length_pos (l:=j) (by omega);exact⟨e,(Z e).mp aF⟩
    .rintro⟨e,aF⟩;have:=List.length_pos_of_mem ((Z e).mpr aF);omega
   show Q (.bl (decide ((((j.map λe:Nat=>V.int (e:Int)).length:Nat):Int)>0))) I;rw[e];exact k I (ak.trans Y)
theorem scHop:zau ["mark","door","place","doors","ends","tried"] ["mark","door","place","doors","ends"] (zah zcT):=⟨J,J,J,by decide +kernel,J,by decide +kernel,by decide +kernel⟩
inductive spHop(P:Program)(w:World)(K:W.Frag):List V->Hp->VK->XK->Prop where
 |mk {vs:List V} {H:Hp} {Q:VK} {E:XK} (z b x ds rs m u o:_) (i:Nat) (q ed:Addr) (kvs:_) (c1:vs=[.str m,u,.int (i:Int),.ref q,.ref ed]) (c2:Bag z H) (c4:BkOk b) (c5:RmsOk b rs) (c6:PDs z H q ds) (c7:LdBk b ds) (c3:Rep z H u (mkOD o)) (c8:((m,o):Mk)∈fitsP b ds x i) (c9:x.length<=20000) (c11:ds.length<=i) (c10:EndsD P w K H ed b x rs 0 kvs)
  (k:∀H',Same H H'->Q (.bl (decide (0<cn b x (takeL ds i m o).2 (i+m.length)))) H'):spHop P w K vs H Q E
theorem zjm(ds:List LDr)(i:Nat)(m:Str)(o:Option Dr):(takeL ds i m o).2.length<=ds.length+1:=by
 cases o with
 |none=>
  show ds.dropLast.length<=_;rw[List.length_dropLast];omega
 |some d=>
  show (ds++[_]).length<=_;rw[List.length_append];exact Nat.le_refl _
theorem zlV{f G I:Addr}{fd Z aa:FuncData}(F:Fun K "is_hopeful" "is_hopeful" zcT f fd)(T:TxtB mg)(al:Txt2 mg)(k1:W.keepIn K (.ref G)=true)(am:Binds K Z ["mark","door","place","doors"] [])(ao:mg "take_mark"=some (.ref G))(ap:FnOk P w K mg base CX0 2 G Z ["mark","door","place","doors"] zcV)(k2:W.keepIn K (.ref I)=true)(aq:Binds K aa ["place","doors","ends"] [])(ar:mg "can_be_whole"=some (.ref I))(as:FnOk P w K mg base CX0 1 I aa ["place","doors","ends"] (spCan P w K)):FnOk P w K mg base CX0 3 f fd ["mark","door","place","doors","ends"] (spHop P w K):=by
 refine F.ok scHop (λvs H Q E h=>?_) (λcdv A outer s H vs Q E ab h=>?_)
 .obtain⟨z,b,x,ds,ac,m,u,o,i,q,ad,kvs,rfl,_⟩:=h;rfl
 .obtain⟨z,b,x,ds,ac,m,u,o,i,q,ad,kvs,rfl,ae,af,au,⟨vs,av,aw⟩,ag,ax,B,ay,aK,az,k⟩:=h;have aA:=scHop.nd;refine⟨_,zac (zaq (i:=5) aA J (Or.inl J) (zaV zc1 (by rfl) al.list zfQ (zaa (pv 3) zad)))
   (zac (za7 (zaj ap ab J ao k1 am .nil pass0 (zaa (pv 0) (zaa (pv 1) (zaa (pv 2) (zaa (pv 5) zad))))))
   (zaf (zas (zaj (as.mono (by omega)) ab J ar k2 aq .nil pass0 (zaa (zaC zbj (pv 2) (zar zaw (by rfl) T.len b_len (zaa (pv 0) zad))) (zaa (pv 5) (zaa (pv 4) zad))))))),?_⟩
  dsimp only[cxOf,Cx.nox,Cx.wish];have aL:=zaR;have aM:=sizeLine_eq;obtain⟨aN,aO,ah,aP⟩:=id af;have aB:=ag.ok ah;have J0:=zbQ B;have ai:=zbz ah aB (List.mem_filter.mp B).1;have aQ:1<=m.length:=ai.1;have aR:m.length<=4:=ai.2;have J0:i+m.length<=x.length:=J0;refine zao λU O=>?_;refine⟨_,J,q,_,J,.inl (SqL.of av),λj Y=>O _ _ (zao λU O=>?_)⟩;have D:=Same.new (o:=.lst vs) Y;have aC:upd H j (.lst vs) j=some (.lst vs):=zab;have aD:j≠z:=ae.ne Y;generalize upd H j (.lst vs)=H1 at *;have aE:o=none->0<ds.length:=λe=>by
   subst e;obtain⟨aS,d,rfl,_⟩:=zch (List.mem_filter.mp B).1;rw[List.length_append];show 0<_+1;omega
  refine⟨_,J,_,J,_,J,_,J,z,m,u,o,i,j,ds,J,ae.same D,aD,ax.mono D.x,by omega,⟨vs,aC,aw.mono D.x⟩,by omega,aE,λp H2 aF np aT aG=>O _ _ ?_⟩;have aj:Same H H2:=λb' o ak=>aF _ _ (zae ak Y) (D _ _ ak);have aU:=zjm ds i m o;have aH:(i:Int)+(m.length:Int)=((i+m.length:Nat):Int):=by omega
  refine⟨_,J,_,J,m,J,by omega,_,_,J,J,_,J,_,J,z,b,x,(takeL ds i m o).2,ac,i+m.length,j,ad,kvs,by show [V.int ((i:Int)+(m.length:Int)),_,_]=_;rw[aH],af,au,aG,zb4 (y:=(m,o)) ag (List.mem_filter.mp B).1,J0,ay,by omega,az.same aj,λaI aJ=>k aI (aj.trans aJ)⟩
noncomputable abbrev st0:Stp:=(0,0,⟨#[]⟩,0,0)
theorem zkV{z:Addr}{H:Hp}{v:V}{d:Stp}(r:Rep z H v (stD d)):∃a,v=.ref a/\a≠z/\H a=some (.tup (stV d))/\d.2.2.1.length<=1000:=by
 cases r with
 |tup h j r=>
  cases r with
  |cons B r=>
   cases r with
   |cons D r=>
    cases r with
    |cons F r=>
     cases r with
     |cons G r=>
      cases r with
      |cons I r=>
       cases r;cases B;cases D;cases G;cases I;cases F with
       |str _ J0=>exact⟨_,J,j,h,J0⟩
theorem zkW{z:Addr}{H:Hp}{B:List V}{j:List Stp}{t:Nat}(R:Reps z H B (j.map stD))(h:t<j.length):Rep z H (B.getD t .non) (stD (j.getD t st0)):=by
 have:=R.get (i:=t) (by simp;omega);simpa [h] using this
theorem zij{z p:Addr}{H:Hp}{d:Stp}(h:H p=some (.tup (stV d)))(j:p≠z)(B:d.2.2.1.length<=1000):Rep z H (.ref p) (stD d):=.tup h j (.cons (.int _) (.cons (.int _) (.cons (.str _ B) (.cons (.int _) (.cons (.int _) .nil)))))
noncomputable def turnV:Option Nat->V
 |none=>.non
 |some p=>.int (p:Int)
theorem zkX(i:Nat)(t:Option Nat):decide (V.int (i:Int)=turnV t)=decide (some i=t):=by
 refine decide_eq_decide.mpr ?_;cases t with
 |none=>exact⟨(λh=>nomatch h),(λh=>nomatch h)⟩
 |some p=>
  constructor
  .intro h;injection h with h;have:i=p:=by omega
   rw[this]
  .intro h;injection h with h;rw[h];rfl
theorem zik(ds:List LDr)(i:Nat)(m:Str)(o:Option Dr):(takeL ds i m o).1.2.1=(m.length:Int):=by cases o<;>rfl
theorem zil(ds:List LDr)(i:Nat)(m:Str)(o:Option Dr):(takeL ds i m o).1.2.2.1.length<=1000:=by
 cases o with
 |none=>show (Str.ofString "close").length<=_;decide +kernel
 |some d=>show (Str.ofString "open").length<=_;decide +kernel
theorem zgU(b:Bk)(ds:List LDr)(x:Str)(i:Nat):(plainL b ds x i).2.2.1.length<=1000:=by
 unfold plainL;split
 .split
  .show (Str.ofString "escape").length<=_;decide +kernel
  .show (Str.ofString "cut").length<=_;decide +kernel
 .show (Str.ofString "sign").length<=_;decide +kernel
noncomputable def tsN(b:Bk)(x:Str)(s:WSt):List Nat:=if 1<(hop b x s.ds s.at_).length then s.ts++[s.at_] else s.ts
theorem zkY{b:Bk}{x:Str}{turn:Option Nat}{s:WSt}(hi:s.at_<x.length)(h:hop b x s.ds s.at_=[]):wrS b x turn s=⟨s.at_+(plainL b s.ds x s.at_).2.1.toNat,s.ds,s.ss++[plainL b s.ds x s.at_],tsN b x s⟩:=by
 unfold wrS tsN;rw[if_pos hi];simp only[h,if_true]
theorem zjn{b:Bk}{x:Str}{turn:Option Nat}{s:WSt}(hi:s.at_<x.length)(h:hop b x s.ds s.at_≠[]){y:Mk}(j:y=(hop b x s.ds s.at_).getD (if some s.at_=turn then 1 else 0) mk0):wrS b x turn s=⟨s.at_+y.1.length,(takeL s.ds s.at_ y.1 y.2).2,s.ss++[(takeL s.ds s.at_ y.1 y.2).1],tsN b x s⟩:=by
 unfold wrS tsN;rw[if_pos hi];simp only[if_neg h];rw[j]
inductive zev(P:Program)(w:World)(K:W.Frag):List V->Hp->VK->XK->Prop where
 |mk {vs:List V} {H:Hp} {Q:VK} {E:XK} (z v b x rs turn:_) (ed:Addr) (kvs:_) (c1:vs=[v,.str x,.ref ed,turnV turn]) (c2:Bag z H) (c3:Rep z H v (bkD b)) (c4:BkOk b) (c5:RmsOk b rs) (c9:x.length<=20000) (c10:EndsD P w K H ed b x rs 0 kvs) (c11:0<cn b x [] 0)
  (c12:∀n,WOk b x (wrF b x turn n)/\(some (wrF b x turn n).at_=turn->1<(hop b x (wrF b x turn n).ds (wrF b x turn n).at_).length))
  (q:∀n p pt pn ws H',(wrF b x turn n).at_=x.length->Same H H'->H p=none->H' p=some (.tup [.ref pt,.ref pn])->H pt=none->pt≠z->H' pt=some (.lst ws)->Reps z H' ws ((wrF b x turn n).ss.map stD)->H' pn=some (.lst ((wrF b x turn n).ts.map λe:Nat=>V.int (e:Int)))->Q (.ref p) H'):zev P w K vs H Q E
theorem scWhole:zau ["book","text","ends","turn","told","turns","doors","place","fits","hopeful","mark","door","step"] ["book","text","ends","turn"] (zah zbl):=⟨J,J,J,by decide +kernel,J,by decide +kernel,by decide +kernel⟩
theorem zlW:(["fit","doors","ends","place"]:List Str).Nodup:=by decide +kernel
theorem zjo{f aQ aR aS aT:Addr}{fd bp bq br bs:FuncData}(F:Fun K "whole_reading" "whole_reading" zbl f fd)(T:TxtB mg)(k1:W.keepIn K (.ref aQ)=true)(aU:Binds K bp ["book","text","place","doors"] [])(bZ:mg "fitting_marks"=some (.ref aQ))(b0:FnOk P w K mg base CX0 3 aQ bp ["book","text","place","doors"] zdH)(k2:W.keepIn K (.ref aR)=true)(b1:Binds K bq ["book","text","place","doors"] [])(b2:mg "read_plain"=some (.ref aR))(b3:FnOk P w K mg base CX0 2 aR bq ["book","text","place","doors"] zcf)(k3:W.keepIn K (.ref aS)=true)(b4:Binds K br ["mark","door","place","doors"] [])(b5:mg "take_mark"=some (.ref aS))(b6:FnOk P w K mg base CX0 2 aS br ["mark","door","place","doors"] zcV)(b7:W.keepIn K (.ref aT)=true)(b8:Binds K bs ["mark","door","place","doors","ends"] [])(b9:mg "is_hopeful"=some (.ref aT))(ca:FnOk P w K mg base CX0 3 aT bs ["mark","door","place","doors","ends"] (spHop P w K)):FnOk P w K mg base CX0 4 f fd ["book","text","ends","turn"] (zev P w K):=by
 refine F.ok scWhole (λvs H Q E h=>?_) (λcdv A outer s H vs Q E aD h=>?_)
 .obtain⟨z,v,b,x,bt,turn,af,kvs,rfl,_⟩:=h;rfl
 .obtain⟨z,v,b,x,bt,turn,af,kvs,rfl,ac,bu,aE,cb,bv,cc,c4,bw,k⟩:=h;have O:=scWhole.nd;refine⟨_,zac (zaq (i:=4) O J (Or.inl J) (zaO zad))
   (zac (zaq (i:=5) O J (Or.inl J) (zaO zad))
   (zac (zaq (i:=6) O J (Or.inr J) (zaO zad))
   (zac (zaq (i:=7) O J (Or.inr J) zag)
   (zac (zeb PassesOwn.never (zax zeG (pv 7) (zar zaw (by rfl) T.len b_len (zaa (pv 1) zad)) (zaF _))
    (zac (zaq (i:=8) O J (Or.inl J) (zaj b0 (aD.mono (by decide)) J bZ k1 aU .nil pass0 (zaa (pv 0) (zaa (pv 1) (zaa (pv 7) (zaa (pv 6) zad))))))
    (zac (za8 (N':=["fit","doors","ends","place"]) (js:=[none,some 6,some 2,some 7]) (i:=9) J J O J (Or.inl J) (zbp (zah zbl) (by decide +kernel)) ⟨J,Or.inr (Or.inl J),J,J,Or.inr (Or.inl J),J,J,Or.inr (Or.inl J),J,trivial⟩
     (zbb (pv 8)) (λcl s H fp=>zai (i:=0) zlW J (Or.inl J))
     (λcl s H fp=>zeh (zck (zaj ca aD J b9 b7 b8 .nil pass0 (zaa (zay za1 (pv 0) zag (λ_ _=>rfl)) (zaa (zay za1 (pv 0) zag (λ_ _=>rfl)) (zaa (pv 3) (zaa (pv 1) (zaa (pv 2) zad))))))))
     (λcl s H fp=>pv 0))
    (zac (zaY (zax ziD (zar zat (by rfl) T.len b_len (zaa (pv 9) zad)) zag (zaF _))
     (zaf (za7 (zcL PySem.F.plainAttrs_list PySem.F.slot_list_append PySem.F.type_list_append zaW (pv 5) (zaa (pv 7) zad)))) zaz)
    (zac (zaY (zb8 (pv 9) (λ_=>rfl))
     (zac (zba (zay ix_list (pv 9) (zdb (zax zgC (pv 7) (pv 3) (zaF _)) zag zag) (λ_ _=>rfl)) (zaZ J (zam (zai (i:=10) O J (Or.inl J)) (zam (zai (i:=11) O J (Or.inl J)) zaE))))
     (zaf (zaq (i:=12) O J (Or.inl J) (zaj b6 (aD.mono (by decide)) J b5 k3 b4 .nil pass0 (zaa (pv 10) (zaa (pv 11) (zaa (pv 7) (zaa (pv 6) zad))))))))
     (zaf (zaq (i:=12) O J (Or.inl J) (zaj b3 (aD.mono (by decide)) J b2 k2 b1 .nil pass0 (zaa (pv 0) (zaa (pv 1) (zaa (pv 7) (zaa (pv 6) zad))))))))
    (zac (za7 (zcL PySem.F.plainAttrs_list PySem.F.slot_list_append PySem.F.type_list_append zaW (pv 4) (zaa (pv 12) zad)))
    (zaf (zg2 (i:=7) O J (Or.inr J) (zay ix_tup (pv 12) zag (λ_ _=>rfl)) zg3))))))))
   (zaf (zas (zaG (zaa (pv 4) (zaa (pv 5) zad))))))))),?_⟩
  dsimp only[cxOf,Cx.nox,Cx.wish];have c5:=zaR;have c6:=sizeLine_eq;obtain⟨c7,c8,as,c9⟩:=id aE;refine⟨Nat.zero_le _,λB aF=>⟨Nat.zero_le _,λpn aG=>⟨Nat.zero_le _,λq au=>?_⟩⟩⟩;have aV:=Same.new (o:=.lst []) aF;have bx:upd H B (.lst []) B=some (.lst []):=zab;have ce:B≠z:=ac.ne aF;generalize upd H B (.lst [])=H1 at *;have bz:=Same.new (o:=.lst []) aG;have bA:upd H1 pn (.lst []) pn=some (.lst []):=zab;have da:pn≠z:=(ac.same aV).ne aG;have bB:=bz _ _ bx;have bC:pn≠B:=(zae bx aG).symm;have cf:H pn=none:=aV.free aG;generalize upd H1 pn (.lst [])=H2 at *;have aW:=Same.new (o:=.lst []) au;have cg:upd H2 q (.lst []) q=some (.lst []):=zab;have aX:=aV.trans bz;have ch:q≠z:=(ac.same aX).ne au;have ci:=aW _ _ bB;have cj:=aW _ _ bA;have bD:q≠B:=(zae bB au).symm;have bE:q≠pn:=(zae bA au).symm;have ck:H q=none:=aX.free au;have cm:=aX.trans aW;generalize upd H2 q (.lst [])=co at *;refine zed (λσ ag=>∃n bF bG aY aZ a1,σ=[some v,some (.str x),some (.ref af),some (turnV turn),some (.ref B),some (.ref pn),some (.ref q),some (.int ((wrF b x turn n).at_:Int)),bF,bG,aY,aZ,a1]/\Same H ag/\PDs z ag q (wrF b x turn n).ds/\(∃ab,ag B=some (.lst ab)/\Reps z ag ab ((wrF b x turn n).ss.map stD))/\ag pn=some (.lst ((wrF b x turn n).ts.map λe:Nat=>V.int (e:Int)))/\(wrF b x turn n).ts.length<=(wrF b x turn n).at_)
   (λσ ag=>match σ[7]? with|some (some (V.int i))=>x.length-i.toNat|_=>0) ⟨0,_,_,_,_,_,J,cm,⟨[],cg,.nil⟩,⟨[],ci,.nil⟩,cj,Nat.le_refl _⟩ ?_ ?_
  .rintro σ ag ⟨n,bF,bG,aY,aZ,a1,rfl,av,a2,⟨ab,a3,bH⟩,a4,db⟩;obtain⟨a5,bI⟩:=bw n;have cp:=(bw (n+1)).1;obtain⟨bJ,dc,dd⟩:=zcE a5.pth;have de:=zkL as a5.pth;have a6:=bJ.ok as;have aH:=λh=>zge as a5 bI h;have a7:wrF b x turn (n+1)=wrS b x turn (wrF b x turn n):=rfl;generalize a8:wrF b x turn n=S at *;refine⟨_,J,_,J,x,J,by omega,_,_,J,J,_,J,?_⟩;refine ite2 (λad=>?_) (λad=>?_)
   .have ad:S.at_<x.length:=by have:=of_decide_eq_true ad;omega
    have aH:=aH ad;refine zao λU aw=>?_;refine⟨_,J,_,J,_,J,_,J,z,v,b,q,S.ds,x,S.at_,J,ac.same av,bu.mono av.x,aE,a2,a6,λak fs df D dg a9 bK=>aw _ _ (zao λU aw=>?_)⟩;have ba:=av.trans D;have cq:fs.length=(fitsP b S.ds x S.at_).length:=by have:=bK.length;simpa using this
    have dh:(fitsP b S.ds x S.at_).length<=10:=Nat.le_trans (List.length_filter_le _ _) (zdI as);refine⟨_,J,ak,J,⟨_,SqL.of a9⟩,λY ax=>?_⟩;have bL:ak≠Y:=zae a9 ax;refine za9 (z:=z) (λj=>decide (0<cn b x (takeL S.ds S.at_ ((fitsP b S.ds x S.at_).getD j mk0).1 ((fitsP b S.ds x S.at_).getD j mk0).2).2 (S.at_+((fitsP b S.ds x S.at_).getD j mk0).1.length))) (λj=>mkD ((fitsP b S.ds x S.at_).getD j mk0)) (λσ=>∃u,σ=[u,some (.ref q),some (.ref af),some (.int (S.at_:Int))]) ⟨none,J⟩ ax (by omega) (zbt (xs:=fs) (by rw[zan bL];exact a9) bL) (λj=>zh5 _) (λj σ bb di dj ah ⟨u,cr⟩ bc cs cu=>?_) (λσ bb aa ay bd al=>?_)
    .subst cr;have az:j<(fitsP b S.ds x S.at_).length:=by omega
     have am:=(zb3 (ms:=fitsP b S.ds x S.at_) (i:=j) bK az).mono bc.x (z:=z);have be:=zap mk0 az;generalize (fitsP b S.ds x S.at_).getD j mk0=ai at *;obtain⟨m,o⟩:=ai;obtain⟨a,u,e,cv,aI,cw,bf⟩:=zc6 am;have aJ:=ba.trans bc;rw[e] at am ⊢;refine⟨_,J,a,_,0,_,J,J,SqT.of aI,zal (j:=0) J,_,J,a,_,1,_,J,J,SqT.of aI,zal (j:=1) J,_,J,_,J,_,J,z,b,x,S.ds,bt,m,u,o,S.at_,q,af,kvs,J,ac.same aJ,aE,cb,a2.same (D.trans bc),bJ,bf,be,bv,by omega,cc.same aJ,λao bg=>⟨_,J,?_⟩⟩;refine ite2 (λh=>?_) (λh=>?_)
     .exact⟨_,J,cs h _ _ _ ⟨_,J⟩ bg (am.mono bg.x)⟩
     .exact cu (by simpa using h) _ _ ⟨_,J⟩ bg
    .rw[cq,zc5 (fitsP b S.ds x S.at_) mk0 (λy=>decide (0<cn b x (takeL S.ds S.at_ y.1 y.2).2 (S.at_+y.1.length))) mkD] at al;have al:Reps z bb aa ((hop b x S.ds S.at_).map mkD):=al;have bh:aa.length=(hop b x S.ds S.at_).length:=by have:=al.length;simpa using this
     have aJ:=ba.trans ay;have bM:=(D.trans ay) _ _ a3;have aj:=(D.trans ay) _ _ a4;have bN:=bH.mono (D.trans ay).x (z:=z);have bO:=a2.same (D.trans ay);have dk:H Y=none:=ba.free ax;have cx:Y≠pn:=(zae (D _ _ a4) ax).symm;have dl:Y≠B:=(zae (D _ _ a3) ax).symm;refine aw _ _ ?_;refine zek (J0:=λσ' ao=>σ'=[some v,some (.str x),some (.ref af),some (turnV turn),some (.ref B),some (.ref pn),some (.ref q),some (.int (S.at_:Int)),some (.ref ak),some (.ref Y),aY,aZ,a1]/\SameX pn bb ao/\ao pn=some (.lst ((tsN b x S).map λe:Nat=>V.int (e:Int)))) (λU J0=>?g1) ?g2
     case g1=>
      refine⟨_,J,Y,_,J,.inl (SqL.of bd),_,_,J,J,_,J,ite2 (λg=>?_) (λg=>?_)⟩
      .have g:1<(hop b x S.ds S.at_).length:=by have:=of_decide_eq_true g;omega
       refine⟨_,J,.inl ⟨J,_,SqL.of aj⟩,_,J,pn,_,_,J,J,aj,by rw[List.length_map];omega,J0 _ _ ⟨J,λb' o bi I=>by rw[zan bi];exact I,?_⟩⟩;rw[zab];unfold tsN;rw[if_pos g,List.map_append];rfl
      .have g:¬1<(hop b x S.ds S.at_).length:=λh=>g (decide_eq_true (by show (1:Int)<_;omega));refine J0 _ _ ⟨J,SameX.refl,?_⟩;unfold tsN;rw[if_neg g];exact aj
     case g2=>
      rintro σ' ao ⟨rfl,ae,bP⟩;have bQ:=ae _ _ bC.symm bM;have bj:=ae _ _ cx bd;have bR:=Reps.butL aj ae bN (zcs _);have cy:=Reps.butL aj ae al (zeq _);have aK:PDs z ao q S.ds:=by
       obtain⟨aL,g1,g2⟩:=bO;exact⟨aL,ae _ _ bE g1,Reps.butL aj ae g2 (zct _)⟩
      have ap:Same H ao:=λb' o I=>ae _ _ (zae I cf) (aJ _ _ I);have dm:(tsN b x S).length<=S.at_+1:=by
       unfold tsN;split
       .rw[List.length_append];show _+1<=_;omega
       .omega
      clear al bd aj bN bO ae bM;refine zek (J0:=λσ' G=>∃ps st aA aM aN,σ'=[some v,some (.str x),some (.ref af),some (turnV turn),some (.ref B),some (.ref pn),some (.ref q),some (.int (S.at_:Int)),some (.ref ak),some (.ref Y),aM,aN,some (.ref ps)]/\Same H G/\G ps=some (.tup (stV st))/\ps≠z/\st.2.2.1.length<=1000/\((st.2.1.toNat:Nat):Int)=st.2.1/\PDs z G q aA/\(∃ab,G B=some (.lst ab)/\Reps z G ab (S.ss.map stD))/\G pn=some (.lst ((tsN b x S).map λe:Nat=>V.int (e:Int)))/\wrF b x turn (n+1)=⟨S.at_+st.2.1.toNat,aA,S.ss++[st],tsN b x S⟩) (λU J0=>?h1) ?h2
      case h1=>
       refine⟨_,J,_,.inl ⟨aa,SqL.of bj,J⟩,ite2 (λg=>?_) (λg=>?_)⟩
       .have bS:hop b x S.ds S.at_≠[]:=λe=>by
         rw[e] at bh;rw[List.eq_nil_of_length_eq_zero bh] at g;simp at g
        have hpos:=List.length_pos_iff.mpr bS;have cz:scal (V.int (S.at_:Int)) (turnV turn)=true:=by cases turn<;>rfl
        refine zao λdn cA=>?_;refine⟨_,J,_,J,_,J,cz,_,J,?_⟩;rw[zkX];obtain⟨j,ah⟩:∃j,j=if some S.at_=turn then 1 else 0:=⟨_,J⟩;have az:j<(hop b x S.ds S.at_).length:=by
         rw[ah];split
         .rename_i h;exact bI h
         .exact hpos
        obtain⟨ai,bk⟩:∃ai,ai=(hop b x S.ds S.at_).getD j mk0:=⟨_,J⟩;have Z:wrF b x turn (n+1)=_:=a7.trans (zjn (y:=ai) ad bS (by rw[←ah];exact bk));have cB:ai∈hop b x S.ds S.at_:=by rw[bk];exact zap mk0 az
        have am:=zb3 (ms:=hop b x S.ds S.at_) (i:=j) cy az;rw[←bk] at am;obtain⟨m,o⟩:=ai;obtain⟨a,u,e,cv,aI,cw,bf⟩:=zc6 am;have bT:aa[j]?=some (.ref a):=by
         have h1:j<aa.length:=by omega
         have h2:aa.getD j .non=aa[j]:=by simp[h1]
         rw[List.getElem?_eq_getElem h1,←h2,e]
        have be:=(zcX cB).1;have bU:=(List.mem_filter.mp be).1;have cC:o=none->0<S.ds.length:=λe=>by
         subst e;obtain⟨aA,d,e,_⟩:=zch bU;rw[e,List.length_append];show 0<_+1;omega
        have cD:=zbz as a6 bU;have dp:m.length<=4:=cD.2;have bV:=zik S.ds S.at_ m o;have cE:=zil S.ds S.at_ m o;have Z:wrF b x turn (n+1)=⟨S.at_+(takeL S.ds S.at_ m o).1.2.1.toNat,(takeL S.ds S.at_ m o).2,S.ss++[(takeL S.ds S.at_ m o).1],tsN b x S⟩:=by
         rw[Z,bV];rfl
        by_cases aO:some S.at_=turn
        case' pos=>
         rw[decide_eq_true aO];rw[if_pos aO] at ah;subst ah;refine iteT ⟨Y,aa,1,.ref a,J,J,SqL.of bj,zal (j:=1) bT,?_⟩
        case' neg=>
         rw[decide_eq_false aO];rw[if_neg aO] at ah;subst ah;refine iteF ⟨Y,aa,0,.ref a,J,J,SqL.of bj,zal (j:=0) bT,?_⟩
        all_goals
         refine⟨a,_,J,SqT.of aI,J,_,_,J,_,_,J,J,cA _ _ ?_⟩;refine⟨_,J,_,J,_,J,_,J,z,m,u,o,S.at_,q,S.ds,J,ac.same ap,ch,bf,by omega,aK,by omega,cC,λp G aP np bl bm=>J0 _ _ ?_⟩;obtain⟨aL,cF,_⟩:=id aK;exact⟨p,(takeL S.ds S.at_ m o).1,(takeL S.ds S.at_ m o).2,_,_,J,λb' o' I=>aP _ _ (zae I ck) (ap _ _ I),bl,(ac.same ap).ne np,cE,by rw[bV];omega,bm,⟨ab,aP _ _ bD.symm bQ,Reps.butL cF aP bR (zcs _)⟩,aP _ _ bE.symm bP,Z⟩
       .have cG:hop b x S.ds S.at_=[]:=by
         refine List.eq_nil_of_length_eq_zero ?_;cases aa with
         |nil=>simp at bh;omega
         |cons _ _=>simp at g
        have Z:wrF b x turn (n+1)=_:=a7.trans (zkY ad cG);have cH:=zbe b S.ds x S.at_;refine⟨_,J,_,J,_,J,_,J,z,v,b,q,S.ds,x,S.at_,J,bu.mono ap.x,aE,aK,a6,ad,bv,λp G aB np bl=>J0 _ _ ⟨p,plainL b S.ds x S.at_,S.ds,_,_,J,ap.trans aB,bl,(ac.same ap).ne np,zgU b S.ds x S.at_,cH.2.2.1,aK.same aB,⟨ab,aB _ _ bQ,bR.mono aB.x⟩,aB _ _ bP,Z⟩⟩
      case h2=>
       rintro σ' G ⟨ps,st,aA,aM,aN,rfl,cI,bW,cJ,hw,dq,bm,⟨aq,aC,bX⟩,cK,Z⟩;have dr:aq.length=S.ss.length:=by have:=bX.length;simpa using this
       refine zao λU aw=>?_;refine⟨_,J,.inl ⟨J,_,SqL.of aC⟩,_,J,B,_,_,J,J,aC,by omega,aw _ _ ?_⟩;have ar:SameX B G (upd G B (.lst (aq++[.ref ps]))):=λb' o bi I=>by rw[zan bi];exact I
       have cL:upd G B (.lst (aq++[.ref ps])) B=some (.lst (aq++[.ref ps])):=zab;generalize upd G B (.lst (aq++[.ref ps]))=bn at *;have bY:=ar _ _ (zaI bW aC (by intro e;cases e)) bW;have cM:Reps z bn (aq++[.ref ps]) ((S.ss++[st]).map stD):=by
        rw[List.map_append];exact(Reps.butL aC ar bX (zcs _)).append (.cons (zij bY cJ hw) .nil)
       have cN:PDs z bn q aA:=by
        obtain⟨aL,g1,g2⟩:=bm;exact⟨aL,ar _ _ bD g1,Reps.butL aC ar g2 (zct _)⟩
       have cO:Same H bn:=λb' o I=>ar _ _ (zae I aF) (cI _ _ I);have cP:=ar _ _ bC cK;refine⟨_,J,_,J,ps,_,1,_,J,J,SqT.of bY,zal (j:=1) J,_,_,J,J,?_⟩;have aH:S.at_<(wrF b x turn (n+1)).at_:=by rw[a7];exact aH
       have cQ:(S.at_:Int)+st.2.1=((wrF b x turn (n+1)).at_:Int):=by
        rw[Z];show _=((S.at_+st.2.1.toNat:Nat):Int);omega
       refine⟨⟨n+1,some (.ref ak),some (.ref Y),aM,aN,some (.ref ps),?_,cO,by rw[Z];exact cN,⟨_,cL,by rw[Z];exact cM⟩,by rw[Z];exact cP,?_⟩,?_⟩
       .show [some v,some (.str x),some (.ref af),some (turnV turn),some (.ref B),some (.ref pn),some (.ref q),some (.int ((S.at_:Int)+st.2.1)),some (.ref ak),some (.ref Y),aM,aN,some (.ref ps)]=_;rw[cQ]
       .have bo:(wrF b x turn (n+1)).ts=tsN b x S:=by rw[Z]
        rw[bo];omega
       .show x.length-((S.at_:Int)+st.2.1).toNat<x.length-(S.at_:Int).toNat;have:=(zcE cp.pth).2.1;omega
   .have cR:S.at_=x.length:=by
     have:¬((S.at_:Int)<(x.length:Int)):=λq=>ad (decide_eq_true q);omega
    refine⟨_,J,_,J,by show (2:Nat)<=_;omega,λp np=>?_⟩;have D:=Same.new (o:=.tup [.ref B,.ref pn]) np;refine k n p B pn ab _ (by rw[a8];exact cR) (av.trans D) (av.free np) zab aF ce (D _ _ a3) (by rw[a8];exact bH.mono D.x) (by rw[a8];exact D _ _ a4)
  .rintro σ co dt du cS ⟨cT,bo,cU,cV,cW,cX,cY,cZ,c0,c1,c2,aU,c3,h⟩;exact⟨cT,bo,cU,cV,cW,cX,cY,cZ,c0,c1,c2,aU,c3,cS _ _ h⟩
inductive FreeT(b:Bk)(x:Str)(z:Addr)(H:Hp):List V->Nat->Prop where
 |none (h:cn b x [] 0=0):FreeT b x z H [.str "none"] 0
 |one {pt:Addr} {ws:List V} {ss:List Stp} (h:cn b x [] 0=1) (hz:pt≠z) (hp:H pt=some (.lst ws)) (r:Reps z H ws (ss.map stD)) (k:Wk b x [] 0 ss):FreeT b x z H [.str "one",.ref pt] 1
 |two {pt pu:Addr} {ws us:List V} {ss ts:List Stp} (h:2<=cn b x [] 0) (hz:pt≠z) (hp:H pt=some (.lst ws)) (r:Reps z H ws (ss.map stD)) (k:Wk b x [] 0 ss) (hz2:pu≠z) (hp2:H pu=some (.lst us)) (r2:Reps z H us (ts.map stD)) (k2:Wk b x [] 0 ts) (ne:ss≠ts):FreeT b x z H [.str "two",.ref pt,.ref pu] 2
theorem zim(b:Bk){x:Str}(B:∀t∈b,TgOk b.length t)(D:0<cn b x [] 0){N p:Nat}(h:(wrF b x none N).ts.head?=some p):∀n,WOk b x (wrF b x (some p) n)/\(some (wrF b x (some p) n).at_=some p->1<(hop b x (wrF b x (some p) n).ds (wrF b x (some p) n).at_).length):=by
 obtain⟨j,W,_,F,G,J0⟩:=zcY h;intro n;obtain⟨h1,h2⟩:=zgg B D F G J0 n;refine⟨h1,λe=>?_⟩;injection e with e;have O:n<=j:=by
  rcases Nat.lt_or_ge j n with g|g
  .have:=h2 g;omega
  .exact g
 have I:=zci B D F G n O;rcases Nat.lt_or_ge n j with g|g
 .have U:=zes B D g (by rw[←I,e];exact G);rw[←I,e,F] at U;omega
 .have V:n=j:=by omega
  rw[e,I,V];exact J0
inductive zgp:List V->Hp->VK->XK->Prop where
 |mk {vs:List V} {H:Hp} {Q:VK} {E:XK} (z v b x:_) (c1:vs=[v,.str x]) (c2:Bag z H) (c3:Rep z H v (bkD b)) (c4:BkOk b) (c9:x.length<=20000)
  (q:∀p ts n H',Same H H'->H p=none->H' p=some (.tup ts)->FreeT b x z H' ts n->Q (.ref p) H'):zgp vs H Q E
theorem scFree:zau ["book","text","ends","told","turns","other","more"] ["book","text"] (zah zbN):=⟨J,J,J,by decide +kernel,J,by decide +kernel,by decide +kernel⟩
theorem zkZ{f ad ae af:Addr}{fd ap aq ar:FuncData}(F:Fun K "free_readings" "free_readings" zbN f fd)(k1:W.keepIn K (.ref ad)=true)(aL:Binds K ap ["book","text"] [])(aM:mg "all_ends"=some (.ref ad))(aN:FnOk P w K mg base CX0 5 ad ap ["book","text"] (zcH P w K))(k2:W.keepIn K (.ref ae)=true)(aO:Binds K aq ["place","doors","ends"] [])(aP:mg "can_be_whole"=some (.ref ae))(aQ:FnOk P w K mg base CX0 1 ae aq ["place","doors","ends"] (spCan P w K))(k3:W.keepIn K (.ref af)=true)(as:Binds K ar ["book","text","ends","turn"] [])(au:mg "whole_reading"=some (.ref af))(av:FnOk P w K mg base CX0 4 af ar ["book","text","ends","turn"] (zev P w K)):FnOk P w K mg base CX0 6 f fd ["book","text"] zgp:=by
 refine F.ok scFree (λvs H Q E h=>?_) (λcdv A outer s H vs Q E aa h=>?_)
 .obtain⟨z,v,b,x,rfl,_⟩:=h;rfl
 .obtain⟨z,v,b,x,rfl,ag,ah,I,ab,k⟩:=h;have J0:=scFree.nd;refine⟨_,zac (zaq (i:=2) J0 J (Or.inl J) (zaj aN aa J aM k1 aL .nil pass0 (zaa (pv 0) (zaa (pv 1) zad))))
   (zac (zaY (zc0 (zck (zaj aQ (aa.mono (by decide)) J aP k2 aO .nil pass0 (zaa zag (zaa (zaO zad) (zaa (pv 2) zad)))))) (zaf (zas (zaG (zaa zaD zad)))) zaz)
   (zac (zba (zaj av (aa.mono (by decide)) J au k3 as .nil pass0 (zaa (pv 0) (zaa (pv 1) (zaa (pv 2) (zaa zeD zad))))) (zaZ J (zam (zai (i:=3) J0 J (Or.inl J)) (zam (zai (i:=4) J0 J (Or.inl J)) zaE))))
   (zac (zaY (zc0 (zb8 (pv 4) (λ_=>rfl))) (zaf (zas (zaG (zaa zaD (zaa (pv 3) zad))))) zaz)
   (zac (zba (zaj av (aa.mono (by decide)) J au k3 as .nil pass0 (zaa (pv 0) (zaa (pv 1) (zaa (pv 2) (zaa (zay ix_list (pv 4) zag (λ_ _=>rfl)) zad))))) (zaZ J (zam (zai (i:=5) J0 J (Or.inl J)) (zam (zai (i:=6) J0 J (Or.inl J)) zaE))))
   (zaf (zas (zaG (zaa zaD (zaa (pv 3) (zaa (pv 5) zad)))))))))),?_⟩
  dsimp only[cxOf,Cx.nox,Cx.wish];have a7:=zaR;have a8:=sizeLine_eq;obtain⟨a9,ba,O,bb⟩:=id I;have aR:LdBk b []:=λd aS=>nomatch aS;refine zao λU B=>?_;refine⟨_,J,_,J,z,v,b,x,J,ag,ah,I,ab,λai aj kvs H1 aT ak aw=>B _ _ (zao λU B=>?_)⟩;refine⟨Nat.zero_le _,λac aU=>⟨_,J,?_⟩⟩;have al:=Same.new (o:=.lst []) aU;have aV:=aT.trans al;have aW:upd H1 ac (.lst []) ac=some (.lst []):=zab;generalize upd H1 ac (.lst [])=H2 at *;refine⟨z,b,x,[],aj,0,ac,ai,kvs,J,I,ak,⟨[],aW,.nil⟩,aR,Nat.zero_le _,ab,Nat.zero_le _,aw.same al,λbc ax=>⟨_,J,?_⟩⟩;have V:=aV.trans ax;have ay:=aw.same (al.trans ax);refine ite2 (λg=>?_) (λg=>B _ _ (zao λU B=>?_))
  .have g:cn b x [] 0=0:=by
    have:¬0<cn b x [] 0:=by simpa using g
    omega
   refine⟨by show (1:Nat)<=_;omega,λp np=>?_⟩;exact k p _ 0 _ (V.trans (Same.new np)) (V.free np) zab (.none g)
  .have D:0<cn b x [] 0:=by
    have:¬ ¬0<cn b x [] 0:=by simpa using g
    omega
   clear g;refine⟨_,J,_,J,_,J,z,v,b,x,aj,none,ai,kvs,J,ag.same V,ah.mono V.x,I,ak,ab,ay,D,λn=>⟨zbv O D n,λe=>nomatch e⟩,λN p az pn bd be aA aB np aX bf aC aD aE aF=>?_⟩;have Y:=V.trans aB;obtain⟨aY,aG⟩:=zlQ (zbv O D N) aA;have aH:=zbv O D N;refine⟨p,_,J,SqT.of aX,J,_,_,J,_,_,J,J,B _ _ (zao λU B=>?_)⟩;refine⟨_,J,_,.inl ⟨_,SqL.of aF,J⟩,ite2 (λg=>?_) (λg=>B _ _ ?_)⟩
   .have g:(wrF b x none N).ts=[]:=by
     cases e:(wrF b x none N).ts with
     |nil=>rfl
     |cons a r=>rw[e] at g;simp at g
    refine⟨_,J,by show (2:Nat)<=_;omega,λp np=>?_⟩;have G:=Same.new (o:=.tup [.str "one",.ref az]) np;refine k p _ 1 _ (Y.trans G) (Y.free np) zab (.one ?_ aC (G _ _ aD) (aE.mono G.x) aG);rw[aH.one g,aY,aA,zd7];rfl
   .obtain⟨a,r,am⟩:∃a r,(wrF b x none N).ts=a::r:=by
     cases e:(wrF b x none N).ts with
     |nil=>rw[e] at g;simp at g
     |cons a r=>exact⟨a,r,J⟩
    have ao:(wrF b x none N).ts.head?=some a:=by rw[am];rfl
    have aZ:=ay.same aB;have aI:=aF;rw[am] at aI;refine zao λU B=>?_;refine⟨_,J,_,J,_,J,_,J,pn,_,0,_,J,J,SqL.of aI,zal (j:=0) J,z,v,b,x,aj,some a,ai,kvs,J,ag.same Y,ah.mono Y.x,I,ak,ab,aZ,D,zim b O D ao,λa1 p2 a2 bg bh bi aJ G bj a3 bk a4 a5 a6 bl=>?_⟩;refine⟨p2,_,J,SqT.of a3,J,_,_,J,_,_,J,J,B _ _ ?_⟩;have aK:=Y.trans G;refine⟨_,J,_,J,by show (3:Nat)<=_;omega,λp np=>?_⟩;have Z:=Same.new (o:=.tup [.str "two",.ref az,.ref a2]) np;exact k p _ 2 _ (aK.trans Z) (aK.free np) zab (.two (aH.two (by rw[am];exact(λe=>nomatch e))) aC ((G.trans Z) _ _ aD) (aE.mono (G.trans Z).x) aG a4 (Z _ _ a5) (a6.mono Z.x) (zlQ (zim b O D ao a1).1 aJ).2 (zkR I D ao aJ))
theorem scNum:zau ["thing","bound"] ["thing","bound"] (zah zbx):=⟨J,J,J,by decide +kernel,J,by decide +kernel,by decide +kernel⟩
noncomputable def inN(i n:Int):Bool:=decide (0<=i)&&decide (i<n)
inductive zgq:List V->Hp->VK->XK->Prop where
 |mk {vs:List V} {H:Hp} {Q:VK} {E:XK} (i n:Int) (c1:vs=[.int i,.int n]) (c4:Q (.bl (inN i n)) H):zgq vs H Q E
noncomputable abbrev tgAt(b:Bk)(t:Int):Tg:=b.getD t.toNat tg0
noncomputable abbrev drAt(b:Bk)(t i:Int):Dr:=(tgAt b t).2.getD i.toNat dr0
noncomputable def isDr(b:Bk)(t i:Int):Bool:=inN t b.length&&inN i (tgAt b t).2.length
inductive zgr(CD:Addr):List V->Hp->VK->XK->Prop where
 |mk {vs:List V} {H:Hp} {Q:VK} {E:XK} (z v b:_) (t i:Int) (c1:vs=[v,.int t,.int i]) (c2:Bag z H) (c3:Rep z H v (bkD b)) (c4:BkOk b)
  (q:isDr b t i=true->∀p H',Same H H'->H p=none->H' p=some (.tup [.int (drAt b t i).2.1,.str (drAt b t i).2.2])->Q (.ref p) H') (e:isDr b t i=false->E (.ref CD) none H):zgr CD vs H Q E
theorem zk0{f:Addr}{fd:FuncData}(F:Fun K "is_number_below" "is_number_below" zbx f fd)(T:TxtB mg):FnOk P w K mg base CX0 1 f fd ["thing","bound"] zgq:=by
 refine F.ok scNum (λvs H Q E h=>?_) (λcdv A outer s H vs Q E j h=>?_)
 .obtain⟨i,n,rfl,_⟩:=h;rfl
 .obtain⟨i,n,rfl,k⟩:=h;refine⟨_,zac (zaY (PW.pt (zj3 (zc0 (zck (zjK T.isinst T.int zlt (pv 0)))) (zg1 (zck (zjK T.isinst T.bool zlu (pv 0)))))) (zaf (zas zcj)) zaz)
   (zaf (zas (ziE zmc zeG zag (pv 0) (pv 1)))),?_⟩
  dsimp only[cxOf,Cx.nox,Cx.wish];refine⟨_,J,_,_,_,_,J,.int i,zkd K (.int i),_,J,?_⟩;refine iteF ⟨_,J,_,_,_,_,J,.int i,ziO K (.int i),_,J,iteF ?_⟩;refine⟨_,J,_,_,J,J,_,J,?_⟩;unfold inN at k;refine ite2 (λg=>?_) (λg=>?_)
  .rw[g] at k;exact⟨_,J,_,_,J,J,k⟩
  .rw[Bool.eq_false_iff.mpr g] at k;exact k
theorem scRoom:zau ["book","tongue","number","escape","doors","opening","inner","close"] ["book","tongue","number"] (zah zcr):=⟨J,J,J,by decide +kernel,J,by decide +kernel,by decide +kernel⟩
theorem zk1{f I J0:Addr}{fd U:FuncData}(F:Fun K "room_behind" "room_behind" zcr f fd)(T:TxtB mg)(V:W.excIn K J0 bmVE "ValueError.__new__"=true)(Y:mg "NoDoor"=some (.ref J0))(k1:W.keepIn K (.ref I)=true)(Z:Binds K U ["thing","bound"] [])(aa:mg "is_number_below"=some (.ref I))(ab:FnOk P w K mg base CX0 1 I U ["thing","bound"] zgq):FnOk P w K mg base (CXE P w) 2 f fd ["book","tongue","number"] (zgr J0):=by
 refine F.okX scRoom (λvs H Q E h=>?_) (λcdv A outer s H vs Q E ac h=>?_)
 .obtain⟨z,v,b,t,i,rfl,_⟩:=h;rfl
 .obtain⟨z,v,b,t,i,rfl,as,ah,ai,q,e⟩:=h;obtain⟨a,xs,rfl,au,ad,av,R⟩:=zbd ah;obtain⟨aw,ax,ay,_⟩:=ai;have G:=scRoom.nd;have az:=zaR;refine⟨_,zac (zaY (zc0 (zck (zaj ab ac J aa k1 Z .nil pass0 (zaa (pv 1) (zaa (zar zat (by rfl) T.len b_len (zaa (pv 0) zad)) zad))))) (zaf (zen V J J Y (zaa zaD zad) zkp)) zaz)
   (zac (zba (zay ix_tup (pv 0) (pv 1) (λ_ _=>rfl)) (zaZ J (zam (zai (i:=3) G J (Or.inl J)) (zam (zai (i:=4) G J (Or.inl J)) zaE))))
   (zac (zaY (zc0 (zck (zaj ab ac J aa k1 Z .nil pass0 (zaa (pv 2) (zaa (zar zat (by rfl) T.len b_len (zaa (pv 4) zad)) zad))))) (zaf (zen V J J Y (zaa zaD zad) zkp)) zaz)
   (zac (zba (zay ix_tup (pv 4) (pv 2) (λ_ _=>rfl)) (zaZ J (zam (zai (i:=5) G J (Or.inl J)) (zam (zai (i:=6) G J (Or.inl J)) (zam (zai (i:=7) G J (Or.inl J)) zaE)))))
   (zaf (zas (zaG (zaa (pv 6) (zaa (pv 7) zad)))))))),?_⟩
  dsimp only[cxOf];unfold isDr at q e;refine⟨_,J,_,J,a,xs,J,.inr (SqT.of ad),t,xs.length,J,_,J,?_⟩;rw[show (xs.length:Int)=(b.length:Int) by omega];cases g:inN t b.length with
  |false=>
   refine iteT ?_;exact⟨by simp[sizeLine_eq],e (by rw[g];rfl)⟩
  |true=>
   refine iteF ?_;rw[g] at q e;unfold inN at g;rw[Bool.and_eq_true] at g;have aA:=of_decide_eq_true g.1;have aB:=of_decide_eq_true g.2;obtain⟨B,rfl⟩:∃j:Nat,t=(j:Int):=⟨t.toNat,by omega⟩;have aj:B<b.length:=by omega
   obtain⟨c,d,ys,ak,aC,aD,al,ae,af,O⟩:=zaH (zaA (b:=b) (i:=B) R aj);have am:xs[B]?=some (.ref c):=by
    have h1:B<xs.length:=by omega
    have h2:xs.getD B .non=xs[B]:=by simp[h1]
    rw[List.getElem?_eq_getElem h1,←h2,ak]
   have af:ys.length=(tgAt b B).2.length:=af;have O:Reps z H ys ((tgAt b B).2.map drD):=O;refine⟨_,J,_,J,a,xs,B,_,J,J,SqT.of ad,zal am,c,_,J,SqT.of al,J,_,_,J,_,_,J,J,?_⟩;refine⟨_,J,_,J,d,ys,J,.inr (SqT.of ae),i,ys.length,J,_,J,?_⟩;rw[show (ys.length:Int)=((tgAt b B).2.length:Int) by omega];cases g2:inN i (tgAt b B).2.length with
   |false=>
    refine iteT ?_;exact⟨by simp[sizeLine_eq],e (by rw[g2];rfl)⟩
   |true=>
    refine iteF ?_;rw[g2] at q;unfold inN at g2;rw[Bool.and_eq_true] at g2;have aE:=of_decide_eq_true g2.1;have aF:=of_decide_eq_true g2.2;obtain⟨D,rfl⟩:∃j:Nat,i=(j:Int):=⟨i.toNat,by omega⟩;have ao:D<(tgAt b B).2.length:=by omega
    obtain⟨ag,ap,aG,aq⟩:=zbi (za6 (ds:=(tgAt b B).2) (i:=D) O ao);have ar:ys[D]?=some (.ref ag):=by
     have h1:D<ys.length:=by omega
     have h2:ys.getD D .non=ys[D]:=by simp[h1]
     rw[List.getElem?_eq_getElem h1,←h2,ap]
    refine⟨_,J,_,J,d,ys,D,_,J,J,SqT.of ae,zal ar,ag,_,J,SqT.of aq,J,_,_,J,_,_,J,_,_,J,J,?_⟩;exact⟨_,J,_,J,by show (2:Nat)<=_;omega,λp np=>q J p _ (Same.new np) np zab⟩
theorem scPut:zau ["book","tongue","number","text","inner","close","escape","ways","marks","written","sign"] ["book","tongue","number","text"] (zah zf8):=⟨J,J,J,by decide +kernel,J,by decide +kernel,by decide +kernel⟩
noncomputable def zc7(ms:List Str)(r:Str):Bool:=ms.any λm=>stAt r m 0 || stAt m r 0
noncomputable def needC(esc:Str)(ms:List Str)(w:Str)(c:Nat):Bool:=decide ((⟨#[c]⟩:Str)=esc) || zc7 ms (⟨#[c]⟩++w)
noncomputable def putW(esc:Str)(ms:List Str)(close:Str):List Nat->Str
 |[]=>close
 |c::r=>if needC esc ms (putW esc ms close r) c=true then esc++(⟨#[c]⟩++putW esc ms close r) else ⟨#[c]⟩++putW esc ms close r
noncomputable def needE(esc:Str)(ms:List Str)(close:Str):List Nat->Bool
 |[]=>false
 |c::r=>needE esc ms close r || needC esc ms (putW esc ms close r) c
noncomputable def zaK(b:Bk)(j:Int)(close:Str):List Str:=close::zaJ (b.getD j.toNat tg0).2
theorem zdp(esc:Str)(ms:List Str)(close:Str)(j:esc.length<=1):∀l:List Nat,(putW esc ms close l).length<=close.length+2*l.length
 |[]=>Nat.le_refl _
 |c::r=>by
  have B:=zdp esc ms close j r;have h1:(⟨#[c]⟩:Str).length=1:=rfl;unfold putW;split
  .rw[zaP,zaP,List.length_cons];omega
  .rw[zaP,List.length_cons];omega
theorem zd9{esc:Str}{ms:List Str}{close:Str}:∀(l:List Nat) (k:Nat),needE esc ms close (l.drop k)=true->needE esc ms close l=true
 |l,0,h=>h
 |[],k+1,h=>by simp at h;exact h
 |c::r,k+1,h=>by
  have:=zd9 r k h;show (needE esc ms close r || _)=true;rw[this];rfl
theorem zdO{t:Tg}(h:escD (.str t.1)=true):t.1.length<=1:=by
 unfold escD at h;rw[Bool.and_eq_true] at h;exact of_decide_eq_true h.1
theorem zk2(b:Bk)(j:Int)(close:Str):(possL b [((0:Int),j,close)]).map (·.1)=zaK b j close:=by
 unfold possL zaK zaJ lastL zak;simp
theorem zjp{l:List Nat}{i c:Nat}(hi:i<l.length)(j:l[l.length-1-i]?=some c):l.drop (l.length-(i+1))=c::l.drop (l.length-i):=by
 have h1:l.length-(i+1)<l.length:=by omega
 rw[List.drop_eq_getElem_cons h1];have B:l.length-(i+1)+1=l.length-i:=by omega
 have D:l[l.length-(i+1)]=c:=by
  have F:l.length-1-i=l.length-(i+1):=by omega
  rw[F,List.getElem?_eq_getElem h1] at j;exact Option.some.inj j
 rw[B,D]
inductive zew:List V->Hp->VK->XK->Prop where
 |mk {vs:List V} {H:Hp} {Q:VK} {E:XK} (p:Addr) (ms:List Str) (r:Str) (c1:vs=[.ref p,.str r]) (c2:H p=some (.lst (ms.map V.str))) (c3:ms.length<=100) (q:∀H',Same H H'->Q (.bl (zc7 ms r)) H'):zew vs H Q E
theorem zk3:zau ["marks","rest"] ["marks","rest"] (zah zcB):=⟨J,J,J,by decide +kernel,J,by decide +kernel,by decide +kernel⟩
theorem ndMRp:(["mark","rest"]:List Str).Nodup:=by decide +kernel
theorem zjq{f:Addr}{fd:FuncData}(F:Fun K "could_fit" "could_fit" zcB f fd)(T:TxtB mg):FnOk P w K mg base CX0 1 f fd ["marks","rest"] zew:=by
 refine F.ok zk3 (λvs H Q E h=>?_) (λcdv A outer s H vs Q E ad h=>?_)
 .obtain⟨p,ms,r,rfl,_⟩:=h;rfl
 .obtain⟨p,ms,r,rfl,D,ae,k⟩:=h;refine⟨_,zaf (zas (zar (ziJ J) (by rfl) T.any_ zme (zaa (zbs (N':=["mark","rest"]) (js:=[none,some 1]) J J (zbp (zah zcB) (by decide +kernel)) ⟨J,Or.inr (Or.inl J),J,trivial⟩ (zbb (pv 0))
   (λcl s H fp=>zai (i:=0) ndMRp J (Or.inl J)) (λcl s H fp=>zbo)
   (λcl s H fp=>zmb (zd3 PySem.F.plainAttrs_str PySem.F.slot_str_startswith PySem.F.type_str_startswith zbK (pv 1) (zaa (pv 0) zad)) (zlf (zd3 PySem.F.plainAttrs_str PySem.F.slot_str_startswith PySem.F.type_str_startswith zbK (pv 0) (zaa (pv 1) zad))))) zad))),?_⟩
  dsimp only[cxOf,Cx.nox,Cx.wish];refine⟨_,J,p,J,⟨_,SqL.of D⟩,λI J0=>?_⟩;have O:p≠I:=zae D J0;refine zca (λj=>some (V.bl (stAt r (ms.getD j ⟨#[]⟩) 0 || stAt (ms.getD j ⟨#[]⟩) r 0))) (λσ=>∃u,σ=[u,some (.str r)]) ⟨none,J⟩ J0 (by rw[List.length_map];omega) (zbt (xs:=ms.map V.str) (by rw[zan O];exact D) O) (λj σ Y C U ⟨u,Z⟩ W B=>?_) (λσ Y W G=>?_)
  .subst Z;have aa:j<ms.length:=by rw[List.length_map] at U;exact U
   have ab:(ms.map V.str).getD j .non=V.str (ms.getD j ⟨#[]⟩):=by simp[aa]
   rw[ab];dsimp only[tYes,gName];rw[if_pos rfl];refine⟨_,J,J,_,J,r,_,J,J,_,J,?_⟩;generalize ms.getD j ⟨#[]⟩=m at *;refine ite2 (λg=>?_) (λg=>?_)
   .rw[g] at B;exact B _ _ ⟨_,J⟩ (Same.refl _)
   .rw[Bool.eq_false_iff.mpr g] at B;exact⟨_,J,J,_,J,m,r,J,J,B _ _ ⟨_,J⟩ (Same.refl _)⟩
  .rw[zbY,List.length_map] at G;have e:(List.range ms.length).map (λj=>V.bl (stAt r (ms.getD j ⟨#[]⟩) 0 || stAt (ms.getD j ⟨#[]⟩) r 0))=(ms.map λm=>stAt r m 0 || stAt m r 0).map V.bl:=by
    refine List.ext_getElem (by simp) λi h1 h2=>?_;simp at h1;simp[h1]
   rw[e] at G;refine⟨I,_,J,SqL.of G,?_⟩;have ac:(ms.map λm=>stAt r m 0 || stAt m r 0).any id=zc7 ms r:=by
    unfold zc7;rw[List.any_map];rfl
   rw[ac];exact k _ W
inductive spPut(CW:Addr):List V->Hp->VK->XK->Prop where
 |mk {vs:List V} {H:Hp} {Q:VK} {E:XK} (z v b x:_) (t i:Int) (esc close:Str) (inner:Int) (c1:vs=[v,.int t,.int i,.str x]) (c2:Bag z H) (c3:Rep z H v (bkD b)) (c4:BkOk b) (c5:isDr b t i=true) (c6:x.length<=20000)
  (d1:inner=(drAt b t i).2.1) (d2:close=(drAt b t i).2.2) (d3:esc=(b.getD inner.toNat tg0).1)
  (q:(esc≠Str.ofString ""∨needE esc (zaK b inner close) close x.cps.toList=false)->∀H',Same H H'->Q (.str (cutS (putW esc (zaK b inner close) close x.cps.toList) none (some (((putW esc (zaK b inner close) close x.cps.toList).length:Int)-(close.length:Int))))) H')
  (e:esc=Str.ofString ""->needE esc (zaK b inner close) close x.cps.toList=true->∀H',Same H H'->E (.ref CW) none H'):spPut CW vs H Q E
theorem ndMDP:(["mark","door"]:List Str).Nodup:=by decide +kernel
theorem zlX{f ak al am bh ao:Addr}{fd aK aL aM:FuncData}(F:Fun K "put_in" "put_in" zf8 f fd)(T:TxtB mg)(bi:mg "reversed"=none)(bj:W.excIn K ao bmVE "ValueError.__new__"=true)(bk:mg "NoWay"=some (.ref ao))(k1:W.keepIn K (.ref ak)=true)(bl:Binds K aK ["book","tongue","number"] [])(bm:mg "room_behind"=some (.ref ak))(bn:FnOk P w K mg base (CXE P w) 2 ak aK ["book","tongue","number"] (zgr bh))(k2:W.keepIn K (.ref al)=true)(bo:Binds K aL ["book","doors"] [])(bp:mg "possible_marks"=some (.ref al))(bq:FnOk P w K mg base CX0 2 al aL ["book","doors"] ze2)(k3:W.keepIn K (.ref am)=true)(br:Binds K aM ["marks","rest"] [])(bs:mg "could_fit"=some (.ref am))(bt:FnOk P w K mg base CX0 1 am aM ["marks","rest"] zew):FnOk P w K mg base (CXE P w) 3 f fd ["book","tongue","number","text"] (spPut ao):=by
 refine F.okX scPut (λvs H Q E h=>?_) (λcdv A outer s H vs Q E ap h=>?_)
 .obtain⟨z,v,b,x,t,i,esc,close,aq,rfl,_⟩:=h;rfl
 .obtain⟨z,v,b,x,t,i,esc,close,aq,rfl,aN,aO,ar,aP,bu,aQ,aR,Z,q,e⟩:=h;have I:=scPut.nd;have bv:Room 1 _:=ap.mono (by decide);refine⟨_,zac (zba (zaj bn ap J bm k1 bl .nil zhM (zaa (pv 0) (zaa (pv 1) (zaa (pv 2) zad)))) (zaZ J (zam (zai (i:=4) I J (Or.inl J)) (zam (zai (i:=5) I J (Or.inl J)) zaE))))
   (zac (zba (zay ix_tup (pv 0) (pv 4) (λ_ _=>rfl)) (zaZ J (zam (zai (i:=6) I J (Or.inl J)) (zam (zai (i:=7) I J (Or.inl J)) zaE))))
   (zac (zlI (za8 (i:=8) (N':=["mark","door"]) (js:=[none,none]) J J I J (Or.inl J) (zbp (zah zf8) (by decide +kernel)) trivial
    (zbb (zaj bq ap J bp k2 bo .nil pass0 (zaa (pv 0) (pa_L (zaO (pa_T (zaG (zaa (pv 4) (zaa (pv 5) zad))) zad)) zad))))
    (λcl s H fp=>zej 2 rfl (zam (zai (i:=0) ndMDP J (Or.inl J) (Or.inr J)) (zam (zai (i:=1) ndMDP J (Or.inl J) (Or.inr J)) zaE))) (λcl s H fp=>zbo) (λcl s H fp=>pv 0)))
   (zac (zaq (i:=9) I J (Or.inl J) (pv 5))
   (zac (zkt (zkn J bi (zaa (pv 3) zad)) (zai (i:=10) I J (Or.inl J))
    (zac (zaq (i:=9) I J (Or.inl J) (zaC zbf (pv 10) (pv 9)))
    (zaf (zaY (PW.pt (zj3 (zax zgC (pv 10) (pv 6) (zaF _)) (zg1 (zck (zaj bt bv J bs k3 br .nil pass0 (zaa (pv 8) (zaa (pv 9) zad))))))) 
     (zac (zaY (zax zgC (pv 6) zaD (zaF _)) (zaf (zen bj J J bk (zaa zaD zad) zlH)) zaz)
     (zaf (zaq (i:=9) I J (Or.inl J) (zaC zbf (pv 6) (pv 9))))) zaz))))
   (zaf (zas (zdc zhv (pv 9) zee (zcK (zaC zfI (zar zaw (by rfl) T.len b_len (zaa (pv 9) zad)) (zar zaw (by rfl) T.len b_len (zaa (pv 5) zad))))))))))),?_⟩
  dsimp only[cxOf,Cx.nox,Cx.wish];have bR:(100000:Nat)<=sizeLine:=by rw[sizeLine_eq];decide
  obtain⟨bS,bT,aa,_⟩:=id ar;have as:=aP;unfold isDr inN at as;simp only[Bool.and_eq_true,decide_eq_true_eq] at as;obtain⟨⟨bU,bV⟩,J0,ab⟩:=as;have bw:t.toNat<b.length:=by omega
  have bx:i.toNat<(tgAt b t).2.length:=by omega
  have bz:DrOk b.length (drAt b t i):=(aa _ (zap tg0 bw)).2.2 _ (zap dr0 bx);obtain⟨_,⟨aS,aT⟩,aU⟩:=bz;rw[←aQ] at aS aT;rw[←aR] at aU;have aV:=zaM aU;refine⟨_,J,_,J,_,J,z,v,b,t,i,J,aN,aO,ar,λ_ p H1 ac np au=>?_,λg=>by (rw[aP] at g;cases g)⟩;rw[←aQ,←aR] at au;refine⟨p,_,J,SqT.of au,J,_,_,J,_,_,J,J,?_⟩;have av:=aN.same ac;have aw:=aO.mono ac.x (z:=z);obtain⟨a,xs,rfl,bW,bA,bX,R⟩:=zbd aw;obtain⟨B,rfl⟩:∃j:Nat,aq=(j:Int):=⟨aq.toNat,by omega⟩;have ad:B<b.length:=by omega
  obtain⟨c,d,ys,bB,bY,bZ,ae,b0,b1,b2⟩:=zaH (zaA (b:=b) (i:=B) R ad);have bC:xs[B]?=some (.ref c):=by
   have h1:B<xs.length:=by omega
   have h2:xs.getD B .non=xs[B]:=by simp[h1]
   rw[List.getElem?_eq_getElem h1,←h2,bB]
  have ae:H1 c=some (.tup [.str (b.getD B tg0).1,.ref d]):=ae;have Z:esc=(b.getD B tg0).1:=Z;rw[←Z] at ae;refine⟨_,J,_,J,a,xs,B,_,J,J,SqT.of bA,zal bC,c,_,J,SqT.of ae,J,_,_,J,_,_,J,J,?_⟩;have aW:esc.length<=1:=by rw[Z];exact zdO (aa _ (zap tg0 ad)).1
  -- the marks
  refine⟨_,J,_,J,_,J,by show (2:Nat)<=_;omega,λG ax=>⟨by show (1:Nat)<=_;omega,λY aX=>?_⟩⟩;have aY:=Same.new (o:=.tup [.int B,.str close]) ax;have ay:=Same.new (o:=.lst [.ref G]) aX;have aZ:upd (upd H1 G (.tup [.int B,.str close])) Y (.lst [.ref G]) G=some (.tup [.int B,.str close]):=ay _ _ zab;have bD:G≠z:=av.ne ax;have af:=aY.trans ay;have a1:upd (upd H1 G (.tup [.int B,.str close])) Y (.lst [.ref G]) Y=some (.lst [.ref G]):=zab;generalize upd (upd H1 G (.tup [.int B,.str close])) Y (.lst [.ref G])=b3 at *;have a2:=av.same af;have a3:=aw.mono af.x (z:=z);have bE:LdOk b [((0:Int),(B:Int),close)]:=λd' bF=>by
   rw[List.mem_singleton.mp bF];exact⟨⟨aS,aT⟩,aV.2,aV.1⟩
  refine⟨z,.ref a,b,Y,[((0:Int),(B:Int),close)],J,a2,a3,ar,⟨[.ref G],a1,.cons (.tup aZ bD (.cons (.int _) (.cons (.str _ (by omega)) .nil))) .nil⟩,bE,λl a4 b4 a5 bG ag az=>?_⟩;have aA:=zk2 b (B:Int) close;have b5:(possL b [((0:Int),(B:Int),close)]).length<=7:=by
   have:=congrArg List.length aA;rw[List.length_map] at this;rw[this];unfold zaK zaJ;rw[List.length_cons,List.length_map];have:=(aa _ (zap tg0 ad)).2.1;show (b.getD B tg0).2.length+1<=7;omega
  have a6:a4.length=(possL b [((0:Int),(B:Int),close)]).length:=by have:=az.length;simpa using this
  refine⟨l,J,⟨_,SqL.of ag⟩,λaB aC=>?_⟩;have aD:l≠aB:=zae ag aC;refine zca (λj=>some (V.str ((possL b [((0:Int),(B:Int),close)]).getD j mk0).1)) (λσ=>∃u a7,σ=[u,a7]) ⟨none,none,J⟩ aC (by omega) (zbt (xs:=a4) (by rw[zan aD];exact ag) aD) (λj σ a8 C b6 ⟨u,a7,bH⟩ ah bI=>?_) (λσ a8 ah aE=>?_)
  .subst bH;have Rm:=zb3 (az.mono ah.x (z:=z)) (i:=j) (by omega);obtain⟨bJ,b7,bK,b8,bL,a9,b9⟩:=zc6 Rm;rw[bK];refine⟨bJ,_,J,SqT.of bL,J,_,_,J,_,_,J,J,?_⟩;dsimp only[tYes];rw[if_pos rfl];exact⟨_,J,bI _ _ ⟨_,_,J⟩ (Same.refl _)⟩
  rw[zbY,a6] at aE;have ba:(List.range (possL b [((0:Int),(B:Int),close)]).length).map (λj=>V.str ((possL b [((0:Int),(B:Int),close)]).getD j mk0).1)=(zaK b B close).map V.str:=by
   rw[←aA,List.map_map];refine List.ext_getElem (by simp) λk h1 h2=>?_;simp at h1;simp[h1]
  rw[ba] at aE;have aF:=((ac.trans af).trans a5).trans ah;clear aA ba a6 az ag aC aD bG a5 ah aZ a1 aY ay af aX ax a3 a2 av aw au np ac;have a9:(zaK b B close).length<=100:=by
   unfold zaK zaJ;rw[List.length_cons,List.length_map];have:=(aa _ (zap tg0 ad)).2.1;show (b.getD B tg0).2.length+1<=100;omega
  generalize zaK b B close=ms at *;refine⟨_,J,?_⟩;have hsz:x.cps.size=x.cps.toList.length:=by simp
  have ca:x.cps.toList.length<=20000:=by rw[←hsz];exact bu
  refine⟨_,J,x,J,by omega,zi6 (λk σ ai=>∃aG,σ=[some (.ref a),some (.int t),some (.int i),some (.str x),some (.int B),some (.str close),some (.str esc),some (.ref d),some (.ref aB),some (.str (putW esc ms close (x.cps.toList.drop (x.cps.toList.length-k)))),aG]/\Same a8 ai/\(esc=Str.ofString ""->needE esc ms close (x.cps.toList.drop (x.cps.toList.length-k))=false)) ⟨none,?_,Same.refl _,λ_=>?_⟩ ?_ ?_⟩
  .rw[Nat.sub_zero,List.drop_length];rfl
  .rw[Nat.sub_zero,List.drop_length];rfl
  .rintro k D σ ai bM bN ⟨aG,rfl,U,aj⟩;have bO:k<x.cps.toList.length:=by rw[←hsz];exact bM
   have bP:x.cps.toList[x.cps.toList.length-1-k]?=some D:=by
    rw[←hsz];rw[←bN];simp
   have bb:=zjp bO bP;have bc:=zdp esc ms close aW (x.cps.toList.drop (x.cps.toList.length-k));rw[List.length_drop] at bc;have aH:putW esc ms close (x.cps.toList.drop (x.cps.toList.length-(k+1)))=if needC esc ms (putW esc ms close (x.cps.toList.drop (x.cps.toList.length-k))) D=true then esc++(⟨#[D]⟩++putW esc ms close (x.cps.toList.drop (x.cps.toList.length-k))) else ⟨#[D]⟩++putW esc ms close (x.cps.toList.drop (x.cps.toList.length-k)):=by rw[bb];rfl
   have aI:needE esc ms close (x.cps.toList.drop (x.cps.toList.length-(k+1)))=(needE esc ms close (x.cps.toList.drop (x.cps.toList.length-k)) || needC esc ms (putW esc ms close (x.cps.toList.drop (x.cps.toList.length-k))) D):=by rw[bb];rfl
   have bd:=zd9 (esc:=esc) (ms:=ms) (close:=close) x.cps.toList (x.cps.toList.length-(k+1));generalize x.cps.toList.drop (x.cps.toList.length-(k+1))=cb at *;generalize needE esc ms close (x.cps.toList.drop (x.cps.toList.length-k))=cc at *;generalize putW esc ms close (x.cps.toList.drop (x.cps.toList.length-k))=W at *;have ce:(⟨#[D]⟩:Str).length=1:=rfl;have cf:(⟨#[D]⟩++W).length=1+W.length:=zaP ..;refine⟨_,J,_,J,_,_,J,J,by omega,?_⟩;refine⟨_,J,_,J,J,_,J,ite2 (λg=>?_) (λg=>?_)⟩
   .have O:needC esc ms W D=true:=by
     unfold needC;have:(⟨#[D]⟩:Str)=esc:=by
      have:=of_decide_eq_true g;injection this
     rw[decide_eq_true this];rfl
    refine iteT ?_;refine⟨_,J,J,_,J,ite2 (λJ0=>?_) (λJ0=>?_)⟩
    .have aJ:esc=Str.ofString "":=by
      have:=of_decide_eq_true J0;injection this
     exact⟨by simp[sizeLine_eq],e aJ (bd (by rw[aI,O,Bool.or_true])) _ (aF.trans U)⟩
    .refine⟨_,J,_,J,_,_,J,J,by omega,some (.str ⟨#[D]⟩),?_,U,λh=>absurd (decide_eq_true (by rw[h])) J0⟩;rw[aH,if_pos O];rfl
   .have be:needC esc ms W D=zc7 ms (⟨#[D]⟩++W):=by
     unfold needC;rw[decide_eq_false (λq=>g (decide_eq_true (by rw[q])))];rfl
    refine⟨_,J,_,J,aB,ms,_,J,U _ _ aE,a9,λcg bf=>⟨_,J,ite2 (λab=>?_) (λab=>?_)⟩⟩
    .have O:needC esc ms W D=true:=be.trans ab;have bg:=U.trans bf;refine⟨_,J,J,_,J,ite2 (λJ0=>?_) (λJ0=>?_)⟩
     .have aJ:esc=Str.ofString "":=by
       have:=of_decide_eq_true J0;injection this
      exact⟨by simp[sizeLine_eq],e aJ (bd (by rw[aI,O,Bool.or_true])) _ (aF.trans bg)⟩
     .refine⟨_,J,_,J,_,_,J,J,by omega,some (.str ⟨#[D]⟩),?_,bg,λh=>absurd (decide_eq_true (by rw[h])) J0⟩;rw[aH,if_pos O];rfl
    .have O:needC esc ms W D=false:=be.trans (Bool.eq_false_iff.mpr ab);refine⟨some (.str ⟨#[D]⟩),?_,U.trans bf,λh=>?_⟩
     .rw[aH,if_neg (by rw[O];exact Bool.false_ne_true)];rfl
     .rw[aI,aj h,O];rfl
  .rintro σ ai ⟨aG,rfl,U,aj⟩;have bQ:x.cps.toList.length-x.cps.size=0:=by omega
   rw[bQ,List.drop_zero] at aj ⊢;have bc:=zdp esc ms close aW x.cps.toList;refine⟨_,J,_,J,_,J,by omega,_,J,close,J,by omega,_,_,J,J,_,J,_,J,by omega,q ?_ ai (aF.trans U)⟩;by_cases c:esc=Str.ofString ""
   .exact .inr (aj c)
   .exact .inl c
theorem zgs(c:Nat):(⟨#[c]⟩:Str).cps.toList=[c]:=rfl
section
variable (esc:Str) (ms:List Str) (close:Str)
noncomputable def costG:List Nat->Nat
 |[]=>0
 |c::r=>if needC esc ms (putW esc ms close r) c=true then costG r+1 else costG r
end
theorem zex{esc:Str}{ms:List Str}{close:Str}:∀l:List Nat,(esc.length=1∨needE esc ms close l=false)->(putW esc ms close l).length=close.length+l.length+costG esc ms close l
 |[],_=>rfl
 |c::r,B=>by
  have F:esc.length=1∨needE esc ms close r=false:=B.imp id λg=>by
   have g:(needE esc ms close r || _)=false:=g;exact(Bool.or_eq_false_iff.mp g).1
  have D:=zex r F;show (if _ then _ else _:Str).length=close.length+(r.length+1)+(if _ then _ else _);by_cases j:needC esc ms (putW esc ms close r) c=true
  .have G:esc.length=1:=B.elim id λg=>by
    have g:(needE esc ms close r || needC esc ms (putW esc ms close r) c)=false:=g;rw[j,Bool.or_true] at g;cases g
   rw[if_pos j,if_pos j,zcZ,zcZ,G,D];show 1+(1+_)=_;omega
  .rw[if_neg j,if_neg j,zcZ,D];show 1+_=_;omega
theorem zk4(y:Str){k:Nat}(h:k<=y.length):(cutS y none (some (k:Int))).cps.toList=y.cps.toList.take k:=by
 unfold cutS;have j:HT.sIx y.length 0 none=0:=rfl;have B:HT.sIx y.length y.length (some (k:Int))=k:=by
  show (if (k:Int)<0 then ((k:Int)+(y.length:Int)).toNat else min (k:Int).toNat y.length)=k;rw[if_neg (by omega)];omega
 rw[j,B];simp
theorem zdP(esc:Str)(ms:List Str)(close:Str):∀l:List Nat,close.length<=(putW esc ms close l).length
 |[]=>Nat.le_refl _
 |c::r=>by
  have j:=zdP esc ms close r;show _<=(if _ then _ else _:Str).length;split
  .rw[zcZ,zcZ];omega
  .rw[zcZ];omega
theorem zfd(esc:Str)(ms:List Str)(close:Str):∀l:List Nat,∃u,(putW esc ms close l).cps.toList=u++close.cps.toList
 |[]=>⟨[],J⟩
 |c::r=>by
  obtain⟨u,j⟩:=zfd esc ms close r;cases hn:needC esc ms (putW esc ms close r) c with
  |true=>exact⟨esc.cps.toList++c::u,by
   show (if _ then _ else _:Str).cps.toList=_;rw[if_pos hn,zbw,zbw,zgs,j];simp⟩
  |false=>exact⟨c::u,by
   show (if _ then _ else _:Str).cps.toList=_;rw[if_neg (by rw[hn];exact Bool.false_ne_true),zbw,zgs,j];simp⟩
theorem zin{esc close:Str}{ms:List Str}{x:Str}(D:esc.length=1∨needE esc ms close x.cps.toList=false) :
  ((cutS (putW esc ms close x.cps.toList) none (some (((putW esc ms close x.cps.toList).length:Int)-(close.length:Int))))++close).cps.toList=(putW esc ms close x.cps.toList).cps.toList /\
  (cutS (putW esc ms close x.cps.toList) none (some (((putW esc ms close x.cps.toList).length:Int)-(close.length:Int)))).length=x.length+costG esc ms close x.cps.toList:=by
 have F:=zex x.cps.toList D;have O:=zdP esc ms close x.cps.toList;rw[za5 x] at F;obtain⟨t,j⟩:=zfd esc ms close x.cps.toList;generalize putW esc ms close x.cps.toList=W at *;have G:((W.length:Int)-(close.length:Int))=((W.length-close.length:Nat):Int):=by omega
 rw[G];have B:=zk4 W (k:=W.length-close.length) (by omega);have I:W.cps.toList.length=W.length:=za5 W;have J0:close.cps.toList.length=close.length:=za5 close;constructor
 .rw[zbw,B,j];have:W.length-close.length=t.length:=by rw[←I,j,List.length_append,J0];omega
  rw[this,List.take_left]
 .rw[←za5,B,List.length_take];omega
inductive spFew(CW:Addr):List V->Hp->VK->XK->Prop where
 |mk {vs:List V} {H:Hp} {Q:VK} {E:XK} (z v b x:_) (t i:Int) (esc close:Str) (inner:Int) (c1:vs=[v,.int t,.int i,.str x]) (c2:Bag z H) (c3:Rep z H v (bkD b)) (c4:BkOk b) (c5:isDr b t i=true) (c6:x.length<=20000)
  (d1:inner=(drAt b t i).2.1) (d2:close=(drAt b t i).2.2) (d3:esc=(b.getD inner.toNat tg0).1)
  (q:(esc.length=1∨needE esc (zaK b inner close) close x.cps.toList=false)->∀H',Same H H'->Q (.int (costG esc (zaK b inner close) close x.cps.toList:Nat)) H')
  (e:esc=Str.ofString ""->needE esc (zaK b inner close) close x.cps.toList=true->∀H',Same H H'->E (.ref CW) none H'):spFew CW vs H Q E
theorem zk5:zau ["book","tongue","number","text"] ["book","tongue","number","text"] (zah zby):=⟨J,J,J,by decide +kernel,J,by decide +kernel,by decide +kernel⟩
theorem zk6{esc:Str}(h:esc.length=0∨esc.length=1){A:Prop}(g:esc≠Str.ofString ""∨A):esc.length=1∨A:=g.imp (λg=>h.resolve_left λq=>g (zb6 (by rw[List.length_eq_zero_iff.mp ((za5 esc).trans q)];rfl))) id
theorem zlY{f B I:Addr}{fd J0:FuncData}(F:Fun K "fewest_escapes" "fewest_escapes" zby f fd)(T:TxtB mg)(k1:W.keepIn K (.ref B)=true)(aa:Binds K J0 ["book","tongue","number","text"] [])(ab:mg "put_in"=some (.ref B))(ac:FnOk P w K mg base (CXE P w) 3 B J0 ["book","tongue","number","text"] (spPut I)):FnOk P w K mg base (CXE P w) 4 f fd ["book","tongue","number","text"] (spFew I):=by
 refine F.okX zk5 (λvs H Q E h=>?_) (λcdv A outer s H vs Q E ad h=>?_)
 .obtain⟨z,v,b,x,t,i,esc,close,j,rfl,_⟩:=h;rfl
 .obtain⟨z,v,b,x,t,i,esc,close,j,rfl,ae,af,D,O,ag,U,V,Y,q,e⟩:=h;refine⟨_,zaf (zas (zaC zfI (zar zaw (by rfl) T.len b_len (zaa (zaj ac ad J ab k1 aa .nil zhM (zaa (pv 0) (zaa (pv 1) (zaa (pv 2) (zaa (pv 3) zad))))) zad)) (zar zaw (by rfl) T.len b_len (zaa (pv 3) zad)))),?_⟩;have as:(100000:Nat)<=sizeLine:=by rw[sizeLine_eq];decide
  have G:=O;unfold isDr inN at G;simp only[Bool.and_eq_true,decide_eq_true_eq] at G;obtain⟨⟨au,av⟩,aw,ax⟩:=G;have ah:t.toNat<b.length:=by omega
  have ai:i.toNat<(tgAt b t).2.length:=by omega
  have aj:DrOk b.length (drAt b t i):=(D.2.2.1 _ (zap tg0 ah)).2.2 _ (zap dr0 ai);obtain⟨_,⟨ak,al⟩,Z⟩:=aj;rw[←U] at ak al;rw[←V] at Z;have ay:=zaM Z;have am:esc.length=0∨esc.length=1:=by
   have:=zdO (D.2.2.1 _ (zap tg0 (show j.toNat<b.length by omega))).1;rw[←Y] at this;omega
  have ao:=zdp esc (zaK b j close) close (by omega) x.cps.toList;rw[za5 x] at ao;refine⟨_,J,_,J,_,J,_,J,z,v,b,x,t,i,esc,close,j,J,ae,af,D,O,ag,U,V,Y,λh H' s'=>?_,e⟩;have h:=zk6 am h;obtain⟨az,ap⟩:=zin (x:=x) (ms:=zaK b j close) (close:=close) h;have aq:=zex x.cps.toList h;rw[za5 x] at aq;refine⟨_,J,by omega,_,J,x,J,by omega,_,_,J,J,?_⟩;rw[ap];have ar:((x.length+costG esc (zaK b j close) close x.cps.toList:Nat):Int)-(x.length:Int)=(costG esc (zaK b j close) close x.cps.toList:Nat):=by omega
  show Q (.int _) H';rw[ar];exact q h H' s'
noncomputable def byLen(a c:Str):Bool:=decide (c.length<=a.length)
noncomputable def canon(l:List Str):List Str:=l.mergeSort byLen
theorem zgV(l:List Str):(canon l).Perm l:=List.mergeSort_perm l byLen
theorem zjr(l:List Str):(canon l).Pairwise (λa c=>c.length<=a.length):=by
 have:=List.pairwise_mergeSort (le:=byLen) (λa b c h1 h2=>by unfold byLen at *;simp at *;omega) (λa b=>by unfold byLen;simp;omega) l;exact this.imp λh=>of_decide_eq_true h
theorem zdQ:∀ {B D:List Str},B.Perm D->B.Pairwise (λa c=>c.length<=a.length)->D.Pairwise (λa c=>c.length<=a.length)->(∀a∈B,∀c∈B,a.length=c.length->a=c)->B=D
 |[],D,j,_,_,_=>(List.Perm.nil_eq j)
 |a::r,[],j,_,_,_=>absurd j.length_eq (by simp)
 |a::r,c::I,j,h1,h2,F=>by
  have G:c∈a::r:=j.mem_iff.mpr List.mem_cons_self;have J0:a∈c::I:=j.mem_iff.mp List.mem_cons_self;have B:c.length<=a.length:=by
   rcases List.mem_cons.mp G with e|h
   .rw[e];exact Nat.le_refl _
   .exact(List.pairwise_cons.mp h1).1 c h
  have D:a.length<=c.length:=by
   rcases List.mem_cons.mp J0 with e|h
   .rw[e];exact Nat.le_refl _
   .exact(List.pairwise_cons.mp h2).1 a h
  have e:a=c:=F a List.mem_cons_self c G (by omega);subst e;rw[zdQ (List.Perm.cons_inv j) (List.pairwise_cons.mp h1).2 (List.pairwise_cons.mp h2).2 (λx O y U=>F x (List.mem_cons_of_mem _ O) y (List.mem_cons_of_mem _ U))]
theorem zjs{b:Bk}{ds:List LDr}{x:Str}{i:Nat}{ys:List Str}(j:ys.Perm (fitL b ds x i))(hw:ys.Pairwise (λa c=>c.length<=a.length)):ys=canon (fitL b ds x i):=by
 refine zdQ (j.trans (zgV _).symm) hw (zjr _) λa B c D e=>?_;have h1:=(List.mem_filter.mp (j.mem_iff.mp B)).2;have h2:=(List.mem_filter.mp (j.mem_iff.mp D)).2;exact zh0 h1 h2 e
theorem zio{b:Bk}{ds:List LDr}{x:Str}{i:Nat}(hi:i<=x.length):((fitsP b ds x i).map (·.1)).Perm (fitL b ds x i):=by
 have j:(fitsP b ds x i).map (·.1)=((possL b ds).map (·.1)).filter (fitAt x i):=by
  unfold fitsP;rw[List.filter_map];congr 1;refine List.filter_congr λm _=>?_;exact za4 hi
 rw[j];unfold fitL;refine List.Perm.filter _ ?_;unfold possL someL zaJ;rw[List.map_append,List.map_map,List.map_map];exact List.perm_append_comm
noncomputable def fkL(b:Bk)(x:Str):Nat->List (Nat×List Str)
 |0=>[]
 |n+1=>fkL b x n++(if (runF b x n).at_<x.length/\1<(fitL b (runF b x n).ds x (runF b x n).at_).length then [((runF b x n).at_,canon (fitL b (runF b x n).ds x (runF b x n).at_))] else [])
noncomputable def fkD(f:Nat×List Str):D:=.tup [.int f.1,.tup (f.2.map D.str)]
theorem zdR{b:Bk}{x:Str}{n:Nat}(h:(runF b x n).at_=x.length):∀k,fkL b x (n+k)=fkL b x n/\runF b x (n+k)=runF b x n
 |0=>⟨J,J⟩
 |k+1=>by
  obtain⟨B,j⟩:=zdR h k;refine⟨?_,?_⟩
  .show fkL b x (n+k)++(if (runF b x (n+k)).at_<x.length/\1<(fitL b (runF b x (n+k)).ds x (runF b x (n+k)).at_).length then [((runF b x (n+k)).at_,canon (fitL b (runF b x (n+k)).ds x (runF b x (n+k)).at_))] else [])=_;rw[B,j,if_neg (λq=>by have:=q.1;omega),List.append_nil]
  .show zaS b x (runF b x (n+k))=_;rw[j];unfold zaS;rw[if_neg (by omega)]
theorem zlZ{b:Bk}{x:Str}{n m:Nat}(h:(runF b x n).at_=x.length)(h':(runF b x m).at_=x.length):fkL b x n=fkL b x m:=by
 have a:=(zdR h m).1;have c:=(zdR h' n).1;rw[←a,←c,Nat.add_comm]
theorem zgt(b:Bk)(x:Str)(B:∀t∈b,TgOk b.length t)(D:1<=b.length):∀n,(fkL b x n).length<=(runF b x n).at_
 |0=>Nat.zero_le _
 |n+1=>by
  have F:=zgt b x B D n;by_cases j:(runF b x n).at_<x.length
  .have G:=zc4 (x:=x) B D n;obtain⟨I,p2,_⟩:=zbO (x:=x) B G.bk D j;rw[ze0 j];show (fkL b x n++_).length<=(runF b x n).at_+_;rw[List.length_append];split
   .show _+1<=_;omega
   .show _+0<=_;omega
  .have e:runF b x (n+1)=runF b x n:=by
    show zaS b x (runF b x n)=_;unfold zaS;rw[if_neg j]
   rw[e];show (fkL b x n++_).length<=_;rw[if_neg (λq=>j q.1),List.append_nil];exact F
theorem zl0(f:Nat×List Str):NoL (fkD f):=by
 have:∀l:List Str,NoLs (l.map D.str):=λl=>by
  induction l with
  |nil=>exact .nil
  |cons a r j=>exact .cons (.str _) j
 exact .tup (.cons (.int _) (.cons (.tup (this _)) .nil))
theorem zey:∀fs:List (Nat×List Str),NoLs (fs.map fkD)
 |[]=>.nil
 |f::r=>.cons (zl0 f) (zey r)
theorem zfe{z:Addr}{H:Hp}:∀ {l:List Str},(∀m∈l,m.length<=1000)->Reps z H (l.map V.str) (l.map D.str)
 |[],_=>.nil
 |a::r,h=>.cons (.str _ (h a List.mem_cons_self)) (zfe λm j=>h m (List.mem_cons_of_mem _ j))
inductive zez(tb:Addr):List V->Hp->VK->XK->Prop where
 |mk {vs:List V} {H:Hp} {Q:VK} {E:XK} (z v b x:_) (c1:vs=[v,.str x]) (c2:Bag z H) (c3:Rep z H v (bkD b)) (c4:BkOk b) (c5:x.length<=20000) (c6:LamTb tb H) (c7:∀p fv n H',ButX tb H H'->H p=none->H' p=some (.lst fv)->(runF b x n).at_=x.length->Reps z H' fv ((fkL b x n).map fkD)->Bag z H'->LamTb tb H'->Q (.ref p) H'):zez tb vs H Q E
theorem zgW(ms:List Mk):(List.range ms.length).map (λj=>V.str (ms.getD j mk0).1)=(ms.map (·.1)).map V.str:=by
 refine List.ext_getElem (by simp) λi h1 h2=>?_;have B:i<ms.length:=by simpa using h2
 simp[B]
theorem scForks:zau ["book","text","found","doors","place","marks"] ["book","text"] (zah zf7):=⟨J,J,J,by decide +kernel,J,by decide +kernel,by decide +kernel⟩
theorem ndMDJ:(["mark","door"]:List Str).Nodup:=by decide +kernel
theorem zjt{f tb ar as:Addr}{fd aQ aR:FuncData}(F:Fun K "forks" "forks" zf7 f fd)(T:TxtB mg)(k1:W.keepIn K (.ref ar)=true)(au:Binds K aQ ["book","text","place","doors"] [])(bl:mg "fitting_marks"=some (.ref ar))(bm:FnOk P w K mg base CX0 3 ar aQ ["book","text","place","doors"] zdH)(k2:W.keepIn K (.ref as)=true)(bn:Binds K aR ["book","text","place","doors"] [])(bo:mg "read_step"=some (.ref as))(bp:FnOk P w K mg base CX0 4 as aR ["book","text","place","doors"] (zdL tb)):FnOk P w K mg base CX0 5 f fd ["book","text"] (zez tb):=by
 refine F.ok scForks (λvs H Q E h=>?_) (λcdv A outer s H vs Q E aS h=>?_)
 .obtain⟨z,v,b,x,rfl,_⟩:=h;rfl
 .obtain⟨z,v,b,x,rfl,av,bq,aw,br,bs,k⟩:=h;have ag:=scForks.nd;have bt:Room 3 _:=aS.mono (by decide);obtain⟨aj,ck,ab,_⟩:=id aw;refine⟨_,zac (zaq (i:=2) ag J (Or.inl J) (zaO zad))
   (zac (zaq (i:=3) ag J (Or.inl J) (zaO zad))
   (zac (zaq (i:=4) ag J (Or.inl J) zag)
   (zac (zeb PassesOwn.never (zax zeG (pv 4) (zar zaw (by rfl) T.len b_len (zaa (pv 1) zad)) (zaF _))
    (zac (za8 (N':=["mark","door"]) (js:=[none,none]) (i:=5) J J ag J (Or.inl J) (zbp (zah zf7) (by decide +kernel)) trivial
     (zbb (zaj bm bt J bl k1 au .nil pass0 (zaa (pv 0) (zaa (pv 1) (zaa (pv 4) (zaa (pv 3) zad))))))
     (λcl s H fp=>zej 2 rfl (zam (zai (i:=0) ndMDJ J (Or.inl J) (Or.inr J)) (zam (zai (i:=1) ndMDJ J (Or.inl J) (Or.inr J)) zaE))) (λcl s H fp=>zbo) (λcl s H fp=>pv 0))
    (zac (zaY (zax ziD (zar zat (by rfl) T.len b_len (zaa (pv 5) zad)) zag (zaF _))
     (zaf (za7 (zcL PySem.F.plainAttrs_list PySem.F.slot_list_append PySem.F.type_list_append zaW (pv 2) (zaa (zaG (zaa (pv 4) (zaa (zaV zaT (by rfl) T.tuple zcl (zaa (zdV T.sorted T.len (pv 5)) zad)) zad))) zad)))) zaz)
    (zaf (zg2 (i:=4) ag J (Or.inl J) (zay ix_tup (zaj bp aS J bo k2 bn .nil pass0 (zaa (pv 0) (zaa (pv 1) (zaa (pv 4) (zaa (pv 3) zad))))) zag (λ_ _=>rfl)) zg3)))))
   (zaf (zas (pv 2)))))),?_⟩
  dsimp only[cxOf,Cx.nox,Cx.wish];have cm:=zaR;have cn:(100000:Nat)<=sizeLine:=by rw[sizeLine_eq];decide
  refine⟨Nat.zero_le _,λB ak=>⟨Nat.zero_le _,λq al=>?_⟩⟩;have ax:=Same.new (o:=.lst []) ak;have aT:=Same.new (o:=.lst []) al;have am:=ax.trans aT;have aU:upd H B (.lst []) B=some (.lst []):=zab;have bu:B≠z:=av.ne ak;have aV:q≠z:=(av.same ax).ne al;have aW:q≠B:=(zae aU al).symm;have bv:H q=none:=ax.free al;refine zed (λσ J0=>∃n u,σ=[some v,some (.str x),some (.ref B),some (.ref q),some (.int (runF b x n).at_),u]/\ButX tb H J0/\Bag z J0/\Rep z J0 v (bkD b)/\PDs z J0 q (runF b x n).ds/\LamTb tb J0/\∃D,J0 B=some (.lst D)/\Reps z J0 D ((fkL b x n).map fkD))
   (λσ J0=>match σ[4]? with|some (some (V.int i))=>x.length-i.toNat|_=>0) ⟨0,none,J,λb' o _ e=>am b' o e,av.same am,bq.mono am.x,⟨[],zab,.nil⟩,bs.same am,[],aT _ _ aU,.nil⟩ ?_ ?_
  .rintro σ J0 ⟨n,u,rfl,ay,az,aX,aY,aA,D,aZ,aB⟩;have ac:=zc4 (x:=x) ab aj n;have co:=ac.le;refine⟨_,J,_,J,x,J,by omega,_,_,J,J,_,J,?_⟩;refine ite2 (λI=>?_) (λI=>?_)
   .have I:(runF b x n).at_<x.length:=by have:=of_decide_eq_true I;omega
    have cp:=ac.dl;have cq:=ac.sl;have aC:=ac.bk.ok ab;have cr:=zgt b x ab aj n;have cs:D.length=(fkL b x n).length:=by have:=aB.length;simpa using this
    refine⟨_,J,_,J,_,J,_,J,z,v,b,q,(runF b x n).ds,x,(runF b x n).at_,J,az,aX,aw,aY,aC,λa1 a2 cu aD cv aE a3=>?_⟩;have bw:a2.length=(fitsP b (runF b x n).ds x (runF b x n).at_).length:=by have:=a3.length;simpa using this
    have aF:=zio (b:=b) (ds:=(runF b x n).ds) (x:=x) (i:=(runF b x n).at_) (by omega);have a4:∀m∈(fitsP b (runF b x n).ds x (runF b x n).at_).map (·.1),Sm m:=λm aG=>zcU (x:=x) (i:=(runF b x n).at_) ab aC m (List.mem_filter.mp (aF.mem_iff.mp aG)).1;have cw:(fitsP b (runF b x n).ds x (runF b x n).at_).length<64:=by
     obtain⟨bx,bz,bA⟩:=zbg aC aj;have bB:(zak (runF b x n).ds).toNat=bx:=by rw[bz];rfl
     have cx:=(ab _ (zap tg0 bA)).2.1;unfold fitsP;refine Nat.lt_of_le_of_lt (List.length_filter_le _ _) ?_;unfold possL lastL;rw[bB,List.length_append,List.length_map,List.length_map,List.length_drop];omega
    refine⟨a1,J,⟨_,SqL.of aE⟩,λU ad=>?_⟩;have a5:a1≠U:=zae aE ad;refine zca (λj=>some (V.str ((fitsP b (runF b x n).ds x (runF b x n).at_).getD j mk0).1)) (λσ=>∃bC a6,σ=[bC,a6]) ⟨none,none,J⟩ ad (by omega) (zbt (xs:=a2) (by rw[zan a5];exact aE) a5) (λj σ O C cy ⟨cz,cA,hw⟩ aH bD=>?_) (λσ O aH aI=>?_)
    .subst hw;obtain⟨a,a6,e,cB,bE,cC,cD⟩:=zc6 ((zb3 (ms:=fitsP b (runF b x n).ds x (runF b x n).at_) (i:=j) a3 (by omega)).mono aH.x);rw[e];refine⟨a,_,J,SqT.of bE,J,_,_,J,_,_,J,J,?_⟩;dsimp only[tYes];rw[if_pos rfl];exact⟨_,J,bD _ _ ⟨_,_,J⟩ (Same.refl _)⟩
    .rw[zbY,bw,zgW] at aI;have aa:=aD.trans aH;have ae:=aa _ _ aZ;have a7:=aB.mono aa.x (z:=z);have aJ:=az.same aa;have bF:=aX.mono aa.x (z:=z);have bG:=aY.same aa;have bH:=aA.same aa;have cE:H U=none:=by
      cases e:H U with
      |none=>rfl
      |some o=>
       exfalso;by_cases I:U=tb
       .obtain⟨cF,bI⟩:=(aA.same aD).tbl;rw[I,bI] at ad;cases ad
       .rw[aD _ _ (ay U o I e)] at ad;cases ad
     have bJ:ButX tb H O:=λb' o h e=>aa b' o (ay b' o h e);refine⟨_,J,U,_,J,.inl (SqL.of aI),_,_,J,J,_,J,?_⟩;have cG:((fitsP b (runF b x n).ds x (runF b x n).at_).map (·.1)).map V.str=(((fitsP b (runF b x n).ds x (runF b x n).at_).map (·.1)).map V.str):=rfl;have bK:(((fitsP b (runF b x n).ds x (runF b x n).at_).map (·.1)).map V.str).length=(fitL b (runF b x n).ds x (runF b x n).at_).length:=by
      rw[List.length_map];exact aF.length_eq
     rw[bK];have bL:∀ {b':Addr} {o:HO},H b'=some o->b'≠B:=λe=>zae e ak;refine ite2 (λg=>?_) (λg=>?_)
     case' refine_2=>
      have g':¬1<(fitL b (runF b x n).ds x (runF b x n).at_).length:=by
       intro q;apply g;simp;omega
      have aK:fkL b x (n+1)=fkL b x n:=by
       show fkL b x n++_=_;rw[if_neg (λq=>g' q.2),List.append_nil]
      obtain⟨Y,aL,Z,ao,ah,ap⟩:∃Y,O=Y/\SameX B O Y/\∃ao,Y B=some (.lst ao)/\Reps z Y ao ((fkL b x (n+1)).map fkD):=⟨O,J,SameX.refl,D,ae,by rw[aK];exact a7⟩;rw[aL]
     case' refine_1=>
      have g':1<(fitL b (runF b x n).ds x (runF b x n).at_).length:=by
       have:=of_decide_eq_true g;omega
      refine⟨_,J,.inl ⟨J,_,SqL.of ae⟩,_,J,_,J,U,_,J,SqL.of aI,by rw[List.length_map];omega,λy bM=>by have:=(a4 y bM).2;omega,λaf ys bN a8 bO=>?_⟩;have aM:=Same.new (o:=.lst (ys.map V.str)) bN;have bP:ys=canon (fitL b (runF b x n).ds x (runF b x n).at_):=zjs (a8.trans aF) (bO.imp λh=>by simpa using h);have aK:fkL b x (n+1)=fkL b x n++[((runF b x n).at_,ys)]:=by
       show fkL b x n++_=_;rw[if_pos ⟨I,g'⟩,bP]
      refine⟨af,_,J,.inl ⟨SqL.of zab,λl a9=>⟨by show (2:Nat)<=_;omega,λG ba=>?_⟩⟩⟩;have bb:=Same.new (o:=.tup (ys.map V.str)) a9;have bc:=Same.new (o:=.tup [.int (runF b x n).at_,.ref l]) ba;have aN:=(aM.trans bb).trans bc;have bd:=aN _ _ ae;refine⟨B,D,_,J,J,bd,by omega,?_⟩;have bQ:l≠z:=(aJ.same aM).ne a9;have bR:G≠z:=((aJ.same aM).same bb).ne ba;have bS:∀m∈ys,m.length<=1000:=λm aG=>by have:=(a4 m (a8.mem_iff.mp aG)).2;omega
      have bT:Rep z (upd (upd (upd O af (.lst (ys.map V.str))) l (.tup (ys.map V.str))) G (.tup [.int (runF b x n).at_,.ref l])) (.ref G) (fkD ((runF b x n).at_,ys)):=.tup zab bR (.cons (.int _) (.cons (.tup (bc _ _ zab) bQ (zfe bS)) .nil));have Z:SameX B O (upd (upd (upd (upd O af (.lst (ys.map V.str))) l (.tup (ys.map V.str))) G (.tup [.int (runF b x n).at_,.ref l])) B (.lst (D++[.ref G]))):=aN.x.upd;have ah:upd (upd (upd (upd O af (.lst (ys.map V.str))) l (.tup (ys.map V.str))) G (.tup [.int (runF b x n).at_,.ref l])) B (.lst (D++[.ref G])) B=some (.lst (D++[.ref G])):=zab;have ap:Reps z (upd (upd (upd (upd O af (.lst (ys.map V.str))) l (.tup (ys.map V.str))) G (.tup [.int (runF b x n).at_,.ref l])) B (.lst (D++[.ref G]))) (D++[.ref G]) ((fkL b x (n+1)).map fkD):=by
       rw[aK,List.map_append];exact Reps.updL bd ((a7.mono aN.x).append (.cons bT .nil)) ((zey _).append (zey [_]))
      generalize upd (upd (upd (upd O af (.lst (ys.map V.str))) l (.tup (ys.map V.str))) G (.tup [.int (runF b x n).at_,.ref l])) B (.lst (D++[.ref G]))=Y at Z ah ap;generalize D++[.ref G]=ao at ah ap
     all_goals
      have be:Bag z Y:=by
       obtain⟨aO,aP,e⟩:=aJ;exact⟨aO,aP,Z _ _ bu.symm e⟩
      have bf:=Rep.butL ae Z bF (.tup (zdG b));have bg:PDs z Y q (runF b x n).ds:=by
       obtain⟨bU,bV,bW⟩:=bG;exact⟨bU,Z _ _ aW bV,Reps.butL ae Z bW (zct _)⟩
      have bh:=bH.sameX ae Z;have bX:ButX tb H Y:=λb' o h e=>Z b' o (bL e) (bJ b' o h e);obtain⟨cH,bi,_⟩:=id bg;obtain⟨ps,aq⟩:=bh.tbl;refine⟨_,J,_,J,_,J,_,J,_,J,z,v,b,q,(runF b x n).ds,x,(runF b x n).at_,J,be,aV,bf,aw,bg,ac.bk,I,br,by omega,bh,λp bj ai np bY bk bZ=>?_⟩;obtain⟨cI,p2,p3,p4,p5,cJ⟩:=zbO (x:=x) ab ac.bk aj I;rw[←ze1 I] at bk;have b0:=Rep.but2 bi aq ai bf (.tup (zdG b));have b1:=Reps.but2 bi aq ai ap (zey _);have b2:=ai _ _ aW.symm (zaI ah aq (by intro q;cases q)) ah;have b3:Bag z bj:=by
       obtain⟨aO,aP,e⟩:=be;exact⟨aO,aP,ai _ _ aV.symm (zaI e aq (by intro q;cases q)) e⟩
      have b4:ButX tb H bj:=λb' o h e=>ai b' o (zae e bv) h (bX b' o h e);refine⟨p,_,1,_,J,J,SqT.of bY,zal (j:=1) J,_,_,J,J,?_⟩;have b5:((runF b x n).at_:Int)+(stepL b (runF b x n).ds x (runF b x n).at_ (bestL b (runF b x n).ds x (runF b x n).at_)).1.2.1=((runF b x (n+1)).at_:Int):=by
       rw[ze0 I];show _=((_+_:Nat):Int);omega
      refine⟨⟨n+1,some (.ref U),?_,b4,b3,b0,bk,bZ,_,b2,b1⟩,?_⟩
      .show [some v,some (.str x),some (.ref B),some (.ref q),some (V.int (((runF b x n).at_:Int)+(stepL b (runF b x n).ds x (runF b x n).at_ (bestL b (runF b x n).ds x (runF b x n).at_)).1.2.1)),some (.ref U)]=_;rw[b5]
      .show x.length-(((runF b x n).at_:Int)+(stepL b (runF b x n).ds x (runF b x n).at_ (bestL b (runF b x n).ds x (runF b x n).at_)).1.2.1).toNat<x.length-((runF b x n).at_:Int).toNat;omega
   .have b6:(runF b x n).at_=x.length:=by
     have:¬(((runF b x n).at_:Int)<(x.length:Int)):=λq=>I (decide_eq_true q);omega
    exact⟨_,J,k B D n J0 ay ak aZ b6 aB az aA⟩
  .rintro σ J0 cK cL b7 ⟨b8,b9,ca,cb,cc,ce,cf,cg,ch,ci,aL,au,cj,h⟩;exact⟨b8,b9,ca,cb,cc,ce,cf,cg,ch,ci,aL,au,cj,b7 _ _ h⟩
section
variable {f:Nat->Nat}{τ:Int->Int}{b b':Bk}{x:Str}
theorem Sim.fkn(S:Sim f τ b b'){ds:List LDr}(j:LdBk b ds){i:Nat}(hi:i<=x.length):(fitL b' (ds.map (ldM f τ)) (mapS f x) i).length=(fitL b ds x i).length:=by
 have h1:=(S.fits (x:=x) j hi).length_eq;have h2:=(zcF (b:=b) (ds:=ds) hi).length_eq;have B:=(zcF (b:=b') (x:=mapS f x) (ds:=ds.map (ldM f τ)) (by rw[zaB];exact hi)).length_eq;rw[List.length_map] at h1 h2 B;omega
theorem Sim.fk(S:Sim f τ b b'):∀n,(fkL b' (mapS f x) n).map (·.1)=(fkL b x n).map (·.1)
 |0=>rfl
 |n+1=>by
  have j:=S.fk n;show (fkL b' (mapS f x) n++(if (runF b' (mapS f x) n).at_<(mapS f x).length/\1<(fitL b' (runF b' (mapS f x) n).ds (mapS f x) (runF b' (mapS f x) n).at_).length then [((runF b' (mapS f x) n).at_,canon (fitL b' (runF b' (mapS f x) n).ds (mapS f x) (runF b' (mapS f x) n).at_))] else [])).map (·.1)=(fkL b x n++(if (runF b x n).at_<x.length/\1<(fitL b (runF b x n).ds x (runF b x n).at_).length then [((runF b x n).at_,canon (fitL b (runF b x n).ds x (runF b x n).at_))] else [])).map (·.1);have B:=zc4 (x:=x) S.ok.2.2.1 S.ok.1 n;have e:=S.run (x:=x) n;have D:(runF b' (mapS f x) n).at_=(runF b x n).at_:=by rw[e]
  have F:(runF b' (mapS f x) n).ds=(runF b x n).ds.map (ldM f τ):=by rw[e]
  rw[List.map_append,List.map_append,j,D,F,zaB];congr 1;by_cases h:(runF b x n).at_<x.length
  .rw[S.fkn B.bk (by omega)];split<;>rfl
  .rw[if_neg (λq=>h q.1),if_neg (λq=>h q.1)]
theorem Sim.free(S:Sim f τ b b'):T1.cn b' (mapS f x) [] 0=T1.cn b x [] 0:=S.cn _ [] 0 (λ_ h=>(nomatch h)) rfl (Nat.zero_le _)
noncomputable def wdN(n:Nat):Str:=match n with|0=>"none"|1=>"one"|_=>"two"
theorem zdq{z:Addr}{H:Hp}{ts:List V}{n:Nat}(h:FreeT b x z H ts n):∃j,ts=.str (wdN (T1.cn b x [] 0))::j:=by
 cases h with
 |none h=>rw[h];exact⟨_,J⟩
 |one h=>rw[h];exact⟨_,J⟩
 |two h=>
  obtain⟨k,B⟩:∃k,T1.cn b x [] 0=k+2:=⟨_,(Nat.sub_add_cancel h).symm⟩;rw[B];exact⟨_,J⟩
theorem ziq{ms j:List Str}(fi:∀a c,f a=f c->a=c)(B:j.Perm (ms.map (mapS f)))(r:Str):zc7 j (mapS f r)=zc7 ms r:=by
 unfold zc7;rw[B.any_eq,List.any_map];congr 1;funext m;show (stAt (mapS f r) (mapS f m) 0 || stAt (mapS f m) (mapS f r) 0)=_;rw[zdo fi (Nat.zero_le _),zdo fi (Nat.zero_le _)]
theorem zeA{esc:Str}{ms j:List Str}(fi:∀a c,f a=f c->a=c)(B:j.Perm (ms.map (mapS f)))(w:Str)(c:Nat):needC (mapS f esc) j (mapS f w) (f c)=needC esc ms w c:=by
 unfold needC;rw[←zdm,←zdl,ziq fi B];congr 1;exact decide_eq_decide.mpr ⟨λh=>zdn fi h,λh=>by rw[h]⟩
theorem zir{esc close:Str}{ms j:List Str}(fi:∀a c,f a=f c->a=c)(B:j.Perm (ms.map (mapS f))):∀l:List Nat,putW (mapS f esc) j (mapS f close) (l.map f)=mapS f (putW esc ms close l)/\needE (mapS f esc) j (mapS f close) (l.map f)=needE esc ms close l/\costG (mapS f esc) j (mapS f close) (l.map f)=costG esc ms close l
 |[]=>⟨J,J,J⟩
 |c::r=>by
  obtain⟨h1,h2,D⟩:=zir (esc:=esc) (close:=close) fi B r;refine⟨?_,?_,?_⟩
  .show (if needC (mapS f esc) j (putW (mapS f esc) j (mapS f close) (r.map f)) (f c)=true then mapS f esc++(⟨#[f c]⟩++putW (mapS f esc) j (mapS f close) (r.map f)) else ⟨#[f c]⟩++putW (mapS f esc) j (mapS f close) (r.map f))=mapS f (if needC esc ms (putW esc ms close r) c=true then esc++(⟨#[c]⟩++putW esc ms close r) else ⟨#[c]⟩++putW esc ms close r);rw[h1,zeA fi B,←zdm];split
   .rw[zdl,zdl]
   .rw[zdl]
  .show (needE (mapS f esc) j (mapS f close) (r.map f) || needC (mapS f esc) j (putW (mapS f esc) j (mapS f close) (r.map f)) (f c))=(needE esc ms close r || needC esc ms (putW esc ms close r) c);rw[h1,h2,zeA fi B]
  .show (if needC (mapS f esc) j (putW (mapS f esc) j (mapS f close) (r.map f)) (f c)=true then costG (mapS f esc) j (mapS f close) (r.map f)+1 else costG (mapS f esc) j (mapS f close) (r.map f))=(if needC esc ms (putW esc ms close r) c=true then costG esc ms close r+1 else costG esc ms close r);rw[h1,D,zeA fi B]
noncomputable def fewV(esc:Str)(ms:List Str)(close:Str)(l:List Nat):V:=if esc.length=1∨needE esc ms close l=false then .int (costG esc ms close l:Nat) else .str "none"
noncomputable def fewD(b:Bk)(d:Dr)(x:Str):V:=fewV (b.getD d.2.1.toNat tg0).1 (zaK b d.2.1 d.2.2) d.2.2 x.cps.toList
theorem Sim.few(S:Sim f τ b b'){d:Dr}(U:0<=d.2.1)(h1:d.2.1<b.length)(x:Str):fewD b' (drM f τ d) (mapS f x)=fewD b d x:=by
 obtain⟨t',j,V,G,I⟩:=S.tn d.2.1.toNat (by omega);have J0:((d.2.1.toNat:Nat):Int)=d.2.1:=by omega
 rw[J0] at j;have B:(drM f τ d).2.1.toNat=t':=by
  show (τ d.2.1).toNat=t';rw[j];omega
 have O:(zaK b' (drM f τ d).2.1 (drM f τ d).2.2).Perm ((zaK b d.2.1 d.2.2).map (mapS f)):=by
  unfold zaK;rw[B,List.map_cons];refine List.Perm.cons _ ?_;have:=I.map (λd:Dr=>d.1);rw[List.map_map] at this;unfold zaJ;rw[List.map_map];exact this
 obtain⟨_,D,F⟩:=zir (esc:=(b.getD d.2.1.toNat tg0).1) (close:=d.2.2) S.fi O x.cps.toList;unfold fewD fewV;rw[B,G,zaX,zaB];have:(drM f τ d).2.2=mapS f d.2.2:=rfl;rw[this];rw[this] at D F;rw[D,F]
end
theorem zju{b:Bk}(h:BkOk b){i n:Nat}(F:(b.getD 0 tg0).2.length=n)(hi:i<n)(x:Str):fewD (turnB b) (((turnB b).getD 0 tg0).2.getD (n-1-i) dr0) x=fewD b ((b.getD 0 tg0).2.getD i dr0) x:=by
 have h1:=h.1;have e:((turnB b).getD 0 tg0).2.getD (n-1-i) dr0=(b.getD 0 tg0).2.getD i dr0:=by
  unfold turnB;rw[za3 _ tg0 tg0 (by omega)];show ((b.getD 0 tg0).2.reverse).getD (n-1-i) dr0=_;generalize (b.getD 0 tg0).2=ds at *;rw[List.getD_eq_getElem?_getD,List.getD_eq_getElem?_getD,List.getElem?_reverse (by omega)];congr 2;omega
 have j:=(h.2.2.1 _ (zap tg0 (show 0<b.length by omega))).2.2 _ (zap dr0 (show i<(b.getD 0 tg0).2.length by omega));obtain⟨_,⟨B,D⟩,_⟩:=j;rw[e];have:=(zet h).sim.few B D x;rw[zjT,zbk] at this;exact this
theorem zk7{f:Nat->Nat}{b:Bk}(h:BkOk b)(fi:∀a c,f a=f c->a=c)(fp:∀c,zaL (f c)=zaL c)(f10:∀c,f c=10↔c=10){i:Nat}(hi:i<(b.getD 0 tg0).2.length)(x:Str):fewD (sgnB f b) (((sgnB f b).getD 0 tg0).2.getD i dr0) (mapS f x)=fewD b ((b.getD 0 tg0).2.getD i dr0) x:=by
 have h1:=h.1;have e:((sgnB f b).getD 0 tg0).2.getD i dr0=drM f (λt=>t) ((b.getD 0 tg0).2.getD i dr0):=by
  unfold sgnB;rw[za3 _ tg0 tg0 (by omega)];exact za3 _ dr0 dr0 hi
 have j:=(h.2.2.1 _ (zap tg0 (show 0<b.length by omega))).2.2 _ (zap dr0 hi);obtain⟨_,⟨B,D⟩,_⟩:=j;rw[e];exact(zfz h fi fp f10).sim.few B D x
noncomputable abbrev sgS:Str:=Str.ofString "!\"#$&'()*+,-./0123456789:;<=>?@ABCDEFGHIJKLMNOPQRSTUVWXYZ[\\]^_`abcdefghijklmnopqrstuvwxyz{|}~"
theorem zis:sgS.cps.toList=(List.range 93).map sgC:=by decide +kernel
theorem zl1(c:Nat):(!(Builtin.Str.occurrences sgS ⟨#[c]⟩ 0 sgS.length 1).isEmpty)=zaL c:=by
 rw[PySem.StrLaws.found_one,zis,Bool.eq_iff_iff,decide_eq_true_iff,List.mem_map];constructor
 .rintro⟨j,B,rfl⟩;exact(zcG (List.mem_range.mp B)).1
 .intro h;exact⟨sgI c,List.mem_range.mpr (zgm h).1,(zgm h).2⟩
theorem zmo:∀c∈List.range 127,zaL c=true->occ1 sgS ⟨#[c]⟩=(sgI c:Nat):=by decide +kernel
theorem zk8(c:Nat):occ1 sgS ⟨#[c]⟩=if zaL c=true then ((sgI c:Nat):Int) else -1:=by
 by_cases h:zaL c=true
 .rw[if_pos h];exact zmo c (List.mem_range.mpr (by have:=(zbH c).mp h;omega)) h
 .rw[if_neg h];have h1:=zl1 c;rw[Bool.eq_false_iff.mpr h] at h1;unfold occ1;cases q:Builtin.Str.occurrences sgS ⟨#[c]⟩ 0 sgS.length 1 with
  |nil=>rfl
  |cons a l=>rw[q] at h1;cases h1
theorem zl2{k:Int}(B:0<=k)(h1:k<93):atI sgS.cps.toList k=some (sgC k.toNat):=by
 obtain⟨j,rfl⟩:∃j:Nat,k=(j:Int):=⟨k.toNat,by omega⟩;refine zal (j:=j) ?_;have:j<93:=by omega
 rw[zis];simp[this]
inductive zdS:List V->Hp->VK->XK->Prop where
 |mk {vs:List V} {H:Hp} {Q:VK} {E:XK} (x:Str) (n:Nat) (c1:vs=[.str x,.int n]) (c2:x.length<=1000) (q:∀H',Same H H'->Q (.str (mapS (sgF n) x)) H'):zdS vs H Q E
theorem zjv{f:Nat->Nat}{x:Str}{i c:Nat}{y:Str}(j:y.cps.toList=(x.cps.toList.take i).map f)(B:x.cps[i]?=some c):(y++(⟨#[f c]⟩:Str)).cps.toList=(x.cps.toList.take (i+1)).map f:=by
 have D:x.cps.toList[i]?=some c:=by rw[Array.getElem?_toList];exact B
 rw[zbw,j,List.take_add_one,D,List.map_append];rfl
theorem scSigns:zau ["text","by","signs","found","sign"] ["text","by"] (zah zhY):=⟨J,J,J,by decide +kernel,J,by decide +kernel,by decide +kernel⟩
theorem zjw{f:Addr}{fd:FuncData}(F:Fun K "_law_signs" "_law_signs" zhY f fd)(T:TxtB mg):FnOk P w K mg base CX0 1 f fd ["text","by"] zdS:=by
 refine F.ok scSigns (λvs H Q E h=>?_) (λcdv A outer s H vs Q E U h=>?_)
 .obtain⟨x,n,rfl,_⟩:=h;rfl
 .obtain⟨x,n,rfl,V,k⟩:=h;have B:=scSigns.nd;refine⟨_,zac (zaq (i:=2) B J (Or.inl J) zaD)
   (zac (zaq (i:=3) B J (Or.inl J) zaD)
   (zac (za0 PassesOwn.never J (zlq (pv 0)) (zai (i:=4) B J (Or.inl J))
    (zaf (zaq (i:=3) B J (Or.inl J) (zaC zbf (pv 3) (zay ix_list (zaO (zaa (pv 4) (zaa (zay zfM (pv 2) (zaC zcw (zaC zbj (zcL PySem.F.plainAttrs_str PySem.F.slot_str_find PySem.F.type_str_find zkx (pv 2) (zaa (pv 4) zad)) (pv 1)) zag) (λ_ _=>rfl)) zad))) (zaV zhb (by rfl) T.int zlt (zaa (zg9 zeH (pv 4) (pv 2) (by with_unfolding_all rfl)) zad)) (λ_ _=>rfl))))))
   (zaf (zas (pv 3))))),?_⟩
  dsimp only[cxOf,Cx.nox,Cx.wish];have W:(100000:Nat)<=sizeLine:=by rw[sizeLine_eq];decide
  refine⟨_,J,x,J,?_⟩;refine zkw (λi σ H2=>∃y u,σ=[some (.str x),some (.int n),some (.str sgS),some (.str y),u]/\y.cps.toList=(x.cps.toList.take i).map (sgF n)/\Same H H2) ⟨_,none,J,J,.refl _⟩ ?_ ?_
  .rintro i c σ H2 hi I ⟨y,u,rfl,D,G⟩;have Y:y.length<=1000:=by
    rw[←za5,D,List.length_map,List.length_take,za5];omega
   have J0:0<=(occ1 sgS ⟨#[c]⟩+(n:Int)) % 93:=Int.emod_nonneg _ (by decide);have O:(occ1 sgS ⟨#[c]⟩+(n:Int)) % 93<93:=Int.emod_lt_of_pos _ (by decide);have Z:sgS.length=93:=by decide +kernel
   refine⟨_,J,_,J,_,J,_,J,J,_,J,sgS,_,J,J,_,J,_,_,J,J,_,_,J,J,(by show (0:Int)<93;decide),sgS,_,_,J,J,by omega,zl2 J0 O,by show (2:Nat)<=_;omega,λp np=>?_⟩;refine⟨_,J,_,J,_,_,J,J,.inr ⟨_,J,p,_,_,.str ⟨#[sgF n c]⟩,J,J,SqL.of zab,?_,_,_,J,J,by show y.length+1<=_;omega,_,_,J,zjv D I,G.trans (Same.new np)⟩⟩;rw[zl1];unfold sgF;by_cases h:zaL c=true
   .rw[if_pos h,h,zk8,if_pos h];refine zal (j:=1) ?_;show some _=some _;congr 4
   .rw[if_neg h,Bool.eq_false_iff.mpr h];exact zal (j:=0) rfl
  .rintro σ H2 ⟨y,u,rfl,D,G⟩;have e:y=mapS (sgF n) x:=zb6 (by
    rw[D,zaX,List.take_of_length_le (by simp)])
   rw[←e] at k;exact⟨_,J,k _ G⟩
theorem zff{z p:Addr}{H2 j:Hp}{vs:List V}{v:V}{F:Nat->D}{i:Nat}(R:Reps z H2 vs ((List.range i).map F))(s:Same H2 j)(B:j p=some (.lst vs))(G:Rep z j v (F i))(I:∀i,NoL (F i)):Reps z (upd j p (.lst (vs++[v]))) (vs++[v]) ((List.range (i+1)).map F):=by
 have J0:∀l:List Nat,NoLs (l.map F):=λl=>by
  induction l with
  |nil=>exact .nil
  |cons a r O=>exact .cons (I a) O
 refine Reps.updL B ?_ (J0 _);rw[List.range_succ,List.map_append];exact(R.mono s.x).append (.cons G .nil)
theorem zbr{j B:Type}(g:j->B)(xs:List j)(d:j):(List.range xs.length).map (λi=>g (xs.getD i d))=xs.map g:=by
 refine List.ext_getElem (by simp) λi h1 h2=>?_;have D:i<xs.length:=by simpa using h2
 simp[D]
theorem zbJ{j:Type}(l:List j):l.filter (λ_=>true)=l:=List.filter_eq_self.mpr λ_ _=>rfl
theorem zit(t:Tg):NoL (tgD t):=.tup (.cons (.str _) (.cons (.tup (zfs _)) .nil))
noncomputable def drS(f:Nat->Nat)(d:Dr):Dr:=(mapS f d.1,d.2.1,mapS f d.2.2)
noncomputable def tgS(f:Nat->Nat)(t:Tg):Tg:=(mapS f t.1,t.2.map (drS f))
theorem zl3(f:Nat->Nat)(b:Bk):sgnB f b=b.map (tgS f):=rfl
inductive spBkS:List V->Hp->VK->XK->Prop where
 |mk {vs:List V} {H:Hp} {Q:VK} {E:XK} (z:Addr) (v:V) (b:Bk) (n:Nat) (c1:vs=[v,.int n]) (c2:Bag z H) (c3:Rep z H v (bkD b)) (c4:BkOk b) (q:∀v' H',Same H H'->Rep z H' v' (bkD (sgnB (sgF n) b))->Q v' H'):spBkS vs H Q E
theorem scBkS:zau ["book","by","found","escape","doors","some"] ["book","by"] (zah zcc):=⟨J,J,J,by decide +kernel,J,by decide +kernel,by decide +kernel⟩
theorem ndDB:(["door","by"]:List Str).Nodup:=by decide +kernel
theorem zl4{f ac:Addr}{fd ap:FuncData}(F:Fun K "_law_book_signs" "_law_book_signs" zcc f fd)(T:TxtB mg)(k1:W.keepIn K (.ref ac)=true)(ad:Binds K ap ["text","by"] [])(ae:mg "_law_signs"=some (.ref ac))(af:FnOk P w K mg base CX0 1 ac ap ["text","by"] zdS):FnOk P w K mg base CX0 2 f fd ["book","by"] spBkS:=by
 refine F.ok scBkS (λvs H Q E h=>?_) (λcdv A outer s H vs Q E aK h=>?_)
 .obtain⟨z,v,b,n,rfl,_⟩:=h;rfl
 .obtain⟨z,v,b,n,rfl,aL,aM,aN,k⟩:=h;obtain⟨a,xs,rfl,a5,aq,aO,R⟩:=zbd aM;obtain⟨a6,a7,aP,_⟩:=aN;have O:=scBkS.nd;have ag:Room 1 _:=aK;refine⟨_,zac (zaq (i:=2) O J (Or.inl J) (zaO zad))
   (zac (za0 PassesOwn.never J (zbm (pv 0)) (zaZ J (zam (zai (i:=3) O J (Or.inl J)) (zam (zai (i:=4) O J (Or.inl J)) zaE)))
    (zac (za8 (i:=5) (N':=["door","by"]) (js:=[none,some 1]) J J O J (Or.inl J) (zbp (zah zcc) (by decide +kernel)) ⟨J,Or.inr (Or.inl J),J,trivial⟩ (zbm (pv 4))
      (λcl s H fp=>zai (i:=0) ndDB J (Or.inl J)) (λcl s H fp=>zbo)
      (λcl s H fp=>zaG (zaa (zaj af ag J ae k1 ad .nil pass0 (zaa (zay za1 (pv 0) zag (λ_ _=>rfl)) (zaa (pv 1) zad))) (zaa (zay za1 (pv 0) zag (λ_ _=>rfl)) (zaa (zaj af ag J ae k1 ad .nil pass0 (zaa (zay za1 (pv 0) zag (λ_ _=>rfl)) (zaa (pv 1) zad))) zad)))))
    (zaf (za7 (zcL PySem.F.plainAttrs_list PySem.F.slot_list_append PySem.F.type_list_append zaW (pv 2) (zaa (zaG (zaa (zaj af ag J ae k1 ad .nil pass0 (zaa (pv 3) (zaa (pv 1) zad))) (zaa (zaV zaT (by rfl) T.tuple zcl (zaa (pv 5) zad)) zad))) zad))))))
   (zaf (zas (zaV zaT (by rfl) T.tuple zcl (zaa (pv 2) zad))))),?_⟩
  dsimp only[cxOf,Cx.nox,Cx.wish];have a8:=zaR;have a9:(100000:Nat)<=sizeLine:=by rw[sizeLine_eq];decide
  obtain⟨ba,zs,U⟩:=id aL;refine⟨Nat.zero_le _,λp np=>?_⟩;have ar:Same H (upd H p (.lst [])):=Same.new np;have bb:p≠z:=(zae U np).symm;refine⟨_,J,a,J,⟨_,SqT.of (ar _ _ aq)⟩,zbV (K:=K) (a:=a) (xs:=xs) (λi σ H2=>∃D ah ai aj,σ=[some (.ref a),some (.int n),some (.ref p),ah,ai,aj]/\Same H H2/\H2 p=some (.lst D)/\D.length=i/\Reps z H2 D ((List.range i).map λj=>tgD (tgS (sgF n) (b.getD j tg0))))
   ⟨[],none,none,none,J,ar,zab,J,.nil⟩ (λi σ H2 _ ⟨_,_,_,_,_,s,_⟩=>SqT.of (s _ _ aq)) ?_ ?_⟩
  .rintro i y σ H2 hi ⟨D,ah,ai,aj,rfl,G,V,as,Y⟩;have au:i<b.length:=by have:=(List.getElem?_eq_some_iff.mp hi).1;omega
   have aQ:y=xs.getD i .non:=by rw[List.getD_eq_getElem?_getD,hi];rfl
   have ak:=aP _ (zap tg0 au);obtain⟨c,d,ys,e,bc,bd,aR,aS,al,aT⟩:=zaH (zaA (b:=b) (i:=i) R au);have al:ys.length=(b.getD i tg0).2.length:=al;rw[aQ,e];have aU:(λj=>tgD (tgS (sgF n) (b.getD j tg0))) i=tgD (tgS (sgF n) (b.getD i tg0)):=rfl;generalize be:b.getD i tg0=tt at *;have bf:=ak.2.1;have am:=G _ _ aS;refine⟨c,_,J,SqT.of (G _ _ aR),J,_,_,J,_,_,J,J,?_⟩;refine⟨_,J,d,J,⟨_,SqT.of am⟩,λav aw=>?_⟩;have ax:d≠av:=zae am aw;refine za9 (z:=z) (λ_=>true) (λj=>drD (drS (sgF n) (tt.2.getD j dr0))) (λσ=>∃u,σ=[u,some (.int n)]) ⟨none,J⟩ aw (by omega) (zb9 (xs:=ys) (by rw[zan ax];exact am) ax) (λj=>zgb _) (λj σ aV bg bh bi ⟨u,aW⟩ I aX _=>?_) (λσ aV fn I aY ao=>?_)
   .subst aW;have ay:j<tt.2.length:=by omega
    have az:=ak.2.2 _ (zap dr0 ay);obtain⟨q,aZ,bj,Z⟩:=zbi ((za6 (ds:=tt.2) (i:=j) aT ay).mono (G.trans I).x);rw[aZ];have a1:(tt.2.getD j (⟨#[]⟩,0,⟨#[]⟩))=tt.2.getD j dr0:=rfl;rw[a1] at Z;generalize tt.2.getD j dr0=dd at *;have bk:=zaM az.1;have bl:=zaM az.2.2;dsimp only[tYes,gName];rw[if_pos rfl];refine⟨_,J,q,_,0,_,J,J,SqT.of Z,zal (j:=0) J,_,J,dd.1,n,J,by omega,λaA B=>?_⟩;refine⟨_,J,q,_,1,_,J,J,SqT.of (B _ _ Z),zal (j:=1) J,_,J,q,_,2,_,J,J,SqT.of (B _ _ Z),zal (j:=2) J,_,J,dd.2.2,n,J,by omega,λbm J0=>?_⟩;refine⟨by show (3:Nat)<=_;omega,λp3 aB=>?_⟩;have aa:=Same.new (o:=.tup [.str (mapS (sgF n) dd.1),.int dd.2.1,.str (mapS (sgF n) dd.2.2)]) aB;have S:=(B.trans J0).trans aa;refine aX rfl _ _ _ ⟨_,J⟩ S (.tup zab ?_ (.cons (.str _ (by rw[zaB];omega)) (.cons (.int _) (.cons (.str _ (by rw[zaB];omega)) .nil))));exact(zae ((B.trans J0) _ _ ((G.trans I) _ _ U)) aB).symm
   .rw[zbJ,al,zbr (λd=>drD (drS (sgF n) d)) tt.2 dr0] at ao;have aC:=G.trans I;have bn:fn.length<=6:=by have:=ao.length;rw[List.length_map] at this;omega
    have bo:tt.1.length<=1:=zdO ak.1;refine⟨_,J,.inl ⟨J,_,SqL.of (I _ _ V)⟩,_,J,_,J,tt.1,n,J,by omega,λaA B=>?_⟩;refine⟨_,J,av,fn,J,.inl ⟨SqL.of (B _ _ aY),λp5 aD=>?_⟩⟩;have J0:=Same.new (o:=.tup fn) aD;refine⟨by show (2:Nat)<=_;omega,λab aE=>?_⟩;have aa:=Same.new (o:=.tup [.str (mapS (sgF n) tt.1),.ref p5]) aE;have S:=(B.trans J0).trans aa;have a2:=aC.trans S;have aF:=S _ _ (I _ _ V);have aG:=(aC.trans B) _ _ U;have a3:p5≠z:=(zae aG aD).symm;have a4:ab≠z:=(zae (J0 _ _ aG) aE).symm;refine⟨p,_,_,J,J,aF,by omega,?_⟩;have aH:Rep z (upd (upd aA p5 (.tup fn)) ab (.tup [.str (mapS (sgF n) tt.1),.ref p5])) (.ref ab) (tgD (tgS (sgF n) tt)):=by
     refine .tup zab a4 (.cons (.str _ (by rw[zaB];omega)) (.cons (.tup (aa _ _ zab) a3 ?_) .nil));have:=ao.mono S.x;show Reps _ _ _ ((tt.2.map (drS (sgF n))).map drD);rw[List.map_map];exact this
    rw[←aU] at aH;exact⟨D++[.ref ab],_,_,_,J,λb' o aI=>by rw[zan (zae aI np)];exact a2 b' o aI,zab,by rw[List.length_append,as];rfl,zff Y (I.trans S) aF aH (λ_=>zit _)⟩
  .rintro σ H2 ⟨D,ah,ai,aj,rfl,G,V,as,Y⟩;refine⟨_,J,p,D,J,.inl ⟨SqL.of V,λp4 aJ=>?_⟩⟩;have B:=Same.new (o:=.tup D) aJ;rw[aO,zbr (λt=>tgD (tgS (sgF n) t)) b tg0] at Y;refine k _ _ (G.trans B) (.tup zab (zae (G _ _ U) aJ).symm ?_);rw[zl3,List.map_map];exact Y.mono B.x
noncomputable def ordL(n:Nat):List V:=(List.range n).map λj=>.int (ordN n j:Nat)
theorem ziu{n j:Nat}(h:j<n):(ordL n)[j]?=some (.int (ordN n j:Nat)):=by
 unfold ordL;simp[h]
theorem zfg{n j:Nat}(h:j<n):ordN n j<n:=by unfold ordN;split<;>omega
theorem ziv{n t:Nat}(h:t<n):tauN n (t:Int)=(ordN n t:Nat)/\ordN n (ordN n t)=t:=by
 unfold tauN ordN;by_cases q:t=0
 .subst q;exact⟨J,J⟩
 .rw[if_neg q,if_neg (by omega)];refine⟨by omega,?_⟩;rw[if_neg (by omega)];omega
theorem zgu(n:Nat):(ordL n).all flatV=true:=by
 unfold ordL;rw[List.all_map];exact List.all_eq_true.mpr λ_ _=>rfl
theorem ziw{n:Nat}{t:Int}(O:n<=6)(U:0<=t)(h1:t<n):∃j:Nat,(j:Int)=tauN n t/\j<(ordL n).length/\j<1000/\(∀v,(ordL n)[j]?=some v->eqV v (.int t)=true)/\∀m v,m<j->(ordL n)[m]?=some v->eqV v (.int t)=false:=by
 obtain⟨k,rfl⟩:∃k:Nat,t=(k:Int):=⟨t.toNat,by omega⟩;have D:k<n:=by omega
 obtain⟨G,I⟩:=ziv D;refine⟨ordN n k,G.symm,?_,?_,λv B=>?_,λm v J0 B=>?_⟩
 .unfold ordL;rw[List.length_map,List.length_range];exact zfg D
 .have:=zfg D;omega
 .rw[ziu (zfg D),I] at B;injection B with B;rw[←B];exact decide_eq_true rfl
 .have F:m<n:=by have:=zfg D;omega
  rw[ziu F] at B;injection B with B;rw[←B];refine decide_eq_false λq=>?_;have:ordN n m=k:=by omega
  rw[←this,(ziv F).2] at J0;omega
noncomputable def drN(n:Nat)(d:Dr):Dr:=(d.1,tauN n d.2.1,d.2.2)
noncomputable def tgN(b:Bk)(j:Nat):Tg:=((b.getD (ordN b.length j) tg0).1,(b.getD (ordN b.length j) tg0).2.map (drN b.length))
theorem zl5(b:Bk):numB b=(List.range b.length).map (tgN b):=rfl
inductive spNmb:List V->Hp->VK->XK->Prop where
 |mk {vs:List V} {H:Hp} {Q:VK} {E:XK} (z o:Addr) (v:V) (b:Bk) (c1:vs=[v,.ref o]) (c2:Bag z H) (c3:Rep z H v (bkD b)) (c4:BkOk b) (c5:H o=some (.lst (ordL b.length))) (q:∀v' H',Same H H'->Rep z H' v' (bkD (numB b))->Q v' H'):spNmb vs H Q E
inductive zdr:List V->Hp->VK->XK->Prop where
 |mk {vs:List V} {H:Hp} {Q:VK} {E:XK} (z:Addr) (v:V) (b:Bk) (c1:vs=[v]) (c2:Bag z H) (c3:Rep z H v (bkD b)) (c4:BkOk b) (q:∀v' H',Same H H'->Rep z H' v' (bkD (turnB b))->Q v' H'):zdr vs H Q E
theorem Reps.rev{z:Addr}{H:Hp}:∀ {vs:List V}{ds:List D},Reps z H vs ds->Reps z H vs.reverse ds.reverse
 |_,_,.nil=>.nil
 |_,_,.cons h t=>by rw[List.reverse_cons,List.reverse_cons];exact(Reps.rev t).append (.cons h .nil)
theorem scNmb:zau ["book","order","found","tongue","escape","doors"] ["book","order"] (zah zcC):=⟨J,J,J,by decide +kernel,J,by decide +kernel,by decide +kernel⟩
theorem ndDO:(["door","order"]:List Str).Nodup:=by decide +kernel
theorem zl6{f:Addr}{fd:FuncData}(F:Fun K "_law_numbered" "_law_numbered" zcC f fd)(T:TxtB mg):FnOk P w K mg base CX0 1 f fd ["book","order"] spNmb:=by
 refine F.ok scNmb (λvs H Q E h=>?_) (λcdv A outer s H vs Q E a6 h=>?_)
 .obtain⟨z,o,v,b,rfl,_⟩:=h;rfl
 .obtain⟨z,o,v,b,rfl,aG,aH,aI,aa,k⟩:=h;obtain⟨a,xs,rfl,a7,aJ,a8,R⟩:=zbd aH;obtain⟨a9,aK,aL,_⟩:=aI;have I:=scNmb.nd;refine⟨_,zac (zaq (i:=2) I J (Or.inl J) (zaO zad))
   (zac (za0 PassesOwn.never J (zbb (pv 1)) (zai (i:=3) I J (Or.inl J))
    (zac (zba (zay ix_tup (pv 0) (pv 3) (λ_ _=>rfl)) (zaZ J (zam (zai (i:=4) I J (Or.inl J)) (zam (zai (i:=5) I J (Or.inl J)) zaE))))
    (zaf (za7 (zcL PySem.F.plainAttrs_list PySem.F.slot_list_append PySem.F.type_list_append zaW (pv 2) (zaa (zaG (zaa (pv 4) (zaa (zaV zaT (by rfl) T.tuple zcl (zaa (zbs (N':=["door","order"]) (js:=[none,some 1]) J J (zbp (zah zcC) (by decide +kernel)) ⟨J,Or.inr (Or.inl J),J,trivial⟩ (zbm (pv 5))
      (λcl s H fp=>zai (i:=0) ndDO J (Or.inl J)) (λcl s H fp=>zbo)
      (λcl s H fp=>zaG (zaa (zay za1 (pv 0) zag (λ_ _=>rfl)) (zaa (zd3 PySem.F.plainAttrs_list PySem.F.slot_list_index PySem.F.type_list_index zf2 (pv 1) (zaa (zay za1 (pv 0) zag (λ_ _=>rfl)) zad)) (zaa (zay za1 (pv 0) zag (λ_ _=>rfl)) zad))))) zad)) zad))) zad))))))
   (zaf (zas (zaV zaT (by rfl) T.tuple zcl (zaa (pv 2) zad))))),?_⟩
  dsimp only[cxOf,Cx.nox,Cx.wish];have ba:=zaR;have bb:(100000:Nat)<=sizeLine:=by rw[sizeLine_eq];decide
  obtain⟨bc,zs,J0⟩:=id aG;have aM:(ordL b.length).length=b.length:=by unfold ordL;rw[List.length_map,List.length_range]
  refine⟨Nat.zero_le _,λp np=>?_⟩;have ai:Same H (upd H p (.lst [])):=Same.new np;have bd:p≠z:=(zae J0 np).symm;refine⟨_,J,o,J,⟨_,SqL.of (ai _ _ aa)⟩,zcv (K:=K) (a:=o) (xs:=ordL b.length) (λi σ H2=>∃D ab ac ad,σ=[some (.ref a),some (.ref o),some (.ref p),ab,ac,ad]/\Same H H2/\H2 p=some (.lst D)/\D.length=i/\Reps z H2 D ((List.range i).map λj=>tgD (tgN b j)))
   ⟨[],none,none,none,J,ai,zab,J,.nil⟩ (λi σ H2 _ ⟨_,_,_,_,_,s,_⟩=>SqL.of (s _ _ aa)) ?_ ?_⟩
  .rintro i y σ H2 hi ⟨D,ab,ac,ad,rfl,B,O,aj,U⟩;have ak:i<b.length:=by have:=(List.getElem?_eq_some_iff.mp hi).1;omega
   rw[ziu ak] at hi;injection hi with hi;subst hi;have al:=zfg ak;have ae:=aL _ (zap tg0 al);obtain⟨c,d,ys,e,be,bf,aN,aO,af,aP⟩:=zaH (zaA (b:=b) (i:=ordN b.length i) R al);have af:ys.length=(b.getD (ordN b.length i) tg0).2.length:=af;have aQ:(λj=>tgD (tgN b j)) i=tgD ((b.getD (ordN b.length i) tg0).1,(b.getD (ordN b.length i) tg0).2.map (drN b.length)):=rfl;generalize bg:b.getD (ordN b.length i) tg0=tt at *;have bh:=ae.2.1;have ag:=B _ _ aO;have ex:atI xs ((ordN b.length i:Nat):Int)=some (.ref c):=zal (j:=ordN b.length i) (by
    have am:ordN b.length i<xs.length:=by omega
    rw[List.getElem?_eq_getElem am,←e];simp[am])
   refine⟨_,J,_,J,a,xs,_,_,J,J,SqT.of (B _ _ aJ),ex,c,_,J,SqT.of (B _ _ aN),J,_,_,J,_,_,J,J,?_⟩;refine⟨_,J,.inl ⟨J,_,SqL.of O⟩,_,J,_,J,d,J,⟨_,SqT.of ag⟩,λao ap=>?_⟩;have aq:d≠ao:=zae ag ap;refine za9 (z:=z) (λ_=>true) (λj=>drD (drN b.length (tt.2.getD j dr0))) (λσ=>∃u,σ=[u,some (.ref o)]) ⟨none,J⟩ ap (by omega) (zb9 (xs:=ys) (by rw[zan aq];exact ag) aq) (λj=>zgb _) (λj σ ar bi bj bk ⟨u,aR⟩ G aS _=>?_) (λσ ar fn G aT ah=>?_)
   .subst aR;have as:j<tt.2.length:=by omega
    have V:=ae.2.2 _ (zap dr0 as);obtain⟨q,aU,bl,W⟩:=zbi ((za6 (ds:=tt.2) (i:=j) aP as).mono (B.trans G).x);rw[aU];have aV:(tt.2.getD j (⟨#[]⟩,0,⟨#[]⟩))=tt.2.getD j dr0:=rfl;rw[aV] at W;generalize tt.2.getD j dr0=dd at *;have bm:=zaM V.1;have bn:=zaM V.2.2;have au:=(B.trans G) _ _ aa;obtain⟨aW,aX,aY,aZ,a1,a2⟩:=ziw aK V.2.1.1 V.2.1.2;dsimp only[tYes,gName];rw[if_pos rfl];refine⟨_,J,q,_,0,_,J,J,SqT.of W,zal (j:=0) J,_,J,.inl ⟨J,_,SqL.of au⟩,_,J,q,_,1,_,J,J,SqT.of W,zal (j:=1) J,o,_,_,aW,J,J,au,J,zgu _,aY,aZ,a1,a2,?_⟩;rw[aX];refine⟨_,J,q,_,2,_,J,J,SqT.of W,zal (j:=2) J,by show (3:Nat)<=_;omega,λp3 av=>?_⟩;have Y:=Same.new (o:=.tup [.str dd.1,.int (tauN b.length dd.2.1),.str dd.2.2]) av;refine aS rfl _ _ _ ⟨_,J⟩ Y (.tup zab ?_ (.cons (.str _ (by omega)) (.cons (.int _) (.cons (.str _ (by omega)) .nil))));exact(zae ((B.trans G) _ _ J0) av).symm
   .rw[zbJ,af,zbr (λd=>drD (drN b.length d)) tt.2 dr0] at ah;have aw:=B.trans G;have bo:fn.length<=6:=by have:=ah.length;rw[List.length_map] at this;omega
    have bp:tt.1.length<=1:=zdO ae.1;refine⟨ao,fn,J,.inl ⟨SqL.of aT,λp5 ax=>?_⟩⟩;have ay:=Same.new (o:=.tup fn) ax;refine⟨by show (2:Nat)<=_;omega,λZ az=>?_⟩;have Y:=Same.new (o:=.tup [.str tt.1,.ref p5]) az;have S:=ay.trans Y;have a3:=aw.trans S;have aA:=S _ _ (G _ _ O);have aB:=aw _ _ J0;have a4:p5≠z:=(zae aB ax).symm;have a5:Z≠z:=(zae (ay _ _ aB) az).symm;refine⟨p,_,_,J,J,aA,by omega,?_⟩;have aC:Rep z (upd (upd ar p5 (.tup fn)) Z (.tup [.str tt.1,.ref p5])) (.ref Z) (tgD (tt.1,tt.2.map (drN b.length))):=by
     refine .tup zab a5 (.cons (.str _ (by omega)) (.cons (.tup (Y _ _ zab) a4 ?_) .nil));have:=ah.mono S.x;show Reps _ _ _ ((tt.2.map (drN b.length)).map drD);rw[List.map_map];exact this
    rw[←aQ] at aC;exact⟨D++[.ref Z],_,_,_,J,λb' o aD=>by rw[zan (zae aD np)];exact a3 b' o aD,zab,by rw[List.length_append,aj];rfl,zff U (G.trans S) aA aC (λ_=>zit _)⟩
  .rintro σ H2 ⟨D,ab,ac,ad,rfl,B,O,aj,U⟩;refine⟨_,J,p,D,J,.inl ⟨SqL.of O,λp4 aE=>?_⟩⟩;have aF:=Same.new (o:=.tup D) aE;rw[aM] at U;refine k _ _ (B.trans aF) (.tup zab (zae (B _ _ J0) aE).symm ?_);rw[zl5,List.map_map];exact U.mono aF.x
theorem scTurned:zau ["book"] ["book"] (zah zbu):=⟨J,J,J,by decide +kernel,J,by decide +kernel,by decide +kernel⟩
theorem zjY:(["escape","doors"]:List Str).Nodup:=by decide +kernel
theorem zix{f:Addr}{fd:FuncData}(F:Fun K "_law_doors_turned" "_law_doors_turned" zbu f fd)(T:TxtB mg):FnOk P w K mg base CX0 1 f fd ["book"] zdr:=by
 refine F.ok scTurned (λvs H Q E h=>?_) (λcdv A outer s H vs Q E ay h=>?_)
 .obtain⟨z,v,b,rfl,_⟩:=h;rfl
 .obtain⟨z,v,b,rfl,ag,ah,ai,k⟩:=h;obtain⟨a,xs,rfl,az,D,aj,R⟩:=zbd ah;obtain⟨aA,aB,ak,_⟩:=ai;have aC:=scTurned.nd;refine⟨_,zaf (zas (zaV zaT (by rfl) T.tuple zcl (zaa (zbs (N':=["escape","doors"]) (js:=[none,none]) J J (zbp (zah zbu) (by decide +kernel)) trivial (zbm (pv 0))
      (λcl s H fp=>zej 2 rfl (zam (zai (i:=0) zjY J (Or.inl J) (Or.inr J)) (zam (zai (i:=1) zjY J (Or.inl J) (Or.inr J)) zaE))) (λcl s H fp=>zbo)
      (λcl s H fp=>zaG (zaa (pv 0) (zaa (zi8 (pv 1) (zcK (ziC zfJ zag))) zad)))) zad))),?_⟩
  dsimp only[cxOf,Cx.nox,Cx.wish];have aD:=zaR;have aE:(100000:Nat)<=sizeLine:=by rw[sizeLine_eq];decide
  obtain⟨aF,zs,J0⟩:=id ag;refine⟨_,J,a,J,⟨_,SqT.of D⟩,λO U=>?_⟩;have V:a≠O:=zae D U;refine za9 (z:=z) (λ_=>true) (λj=>tgD ((b.getD j tg0).1,(b.getD j tg0).2.reverse)) (λσ=>∃u v,σ=[u,v]) ⟨none,none,J⟩ U (by omega) (zb9 (xs:=xs) (by rw[zan V];exact D) V) (λj=>zit _) (λj σ al aG aH aI ⟨u,aJ,am⟩ B ao _=>?_) (λσ al fn B ap W=>?_)
  .subst am;have Y:j<b.length:=by omega
   have aq:=ak _ (zap tg0 Y);obtain⟨c,d,ys,e,aK,aL,Z,ar,as,aa⟩:=zaH ((zaA (b:=b) (i:=j) R Y).mono B.x);rw[e];have au:(b.getD j (⟨#[]⟩,[]))=b.getD j tg0:=rfl;rw[au] at Z as aa;generalize b.getD j tg0=tt at *;have aM:tt.1.length<=1:=zdO aq.1;dsimp only[tYes];refine⟨c,_,J,SqT.of Z,J,_,_,J,_,_,J,J,?_⟩;show (if true=true then (_:Prop) else _);rw[if_pos rfl];refine⟨_,J,_,J,1,J,_,J,J,d,ys,J,SqT.of ar,λp5 ab=>?_⟩;have G:=Same.new (o:=.tup ys.reverse) ab;refine⟨by show (2:Nat)<=_;omega,λav ac=>?_⟩;have I:=Same.new (o:=.tup [.str tt.1,.ref p5]) ac;have ad:=B _ _ J0;have aw:p5≠z:=(zae ad ab).symm;have ax:av≠z:=(zae (G _ _ ad) ac).symm;refine ao rfl _ _ _ ⟨_,_,J⟩ (G.trans I) (.tup zab ax (.cons (.str _ (by omega)) (.cons (.tup (I _ _ zab) aw ?_) .nil)));rw[List.map_reverse];exact Reps.rev (aa.mono (G.trans I).x)
  .rw[zbJ,aj,zbr (λt:Tg=>tgD (t.1,t.2.reverse)) b tg0] at W;refine⟨O,fn,J,.inl ⟨SqL.of ap,λp4 ae=>?_⟩⟩;have af:=Same.new (o:=.tup fn) ae;refine k _ _ (B.trans af) (.tup zab (zae (B _ _ J0) ae).symm ?_);unfold turnB;rw[List.map_map];exact W.mono af.x
inductive spOn(tb:Addr):List V->Hp->VK->XK->Prop where
 |mk {vs:List V} {H:Hp} {Q:VK} {E:XK} (z v b q x:_) (c1:vs=[v,.str x,.ref q]) (c2:Bag z H) (c3:q≠z) (c4:Rep z H v (bkD b)) (c5:BkOk b) (c6:H q=some (.lst [])) (c7:x.length<=20000) (c8:LamTb tb H) (c9:∀p fv n H',But2 q tb H H'->H p=none->H' p=some (.lst fv)->(runF b x n).at_=x.length->Reps z H' fv ((runF b x n).ss.map stD)->PDs z H' q (runF b x n).ds->Bag z H'->LamTb tb H'->Q (.ref p) H'):spOn tb vs H Q E
inductive zds(tb:Addr):List V->Hp->VK->XK->Prop where
 |mk {vs:List V} {H:Hp} {Q:VK} {E:XK} (z v b x:_) (c1:vs=[v,.str x]) (c2:Bag z H) (c3:Rep z H v (bkD b)) (c4:BkOk b) (c5:x.length<=20000) (c6:LamTb tb H) (c7:∀p fv n H',ButX tb H H'->H p=none->H' p=some (.lst fv)->(runF b x n).at_=x.length->Reps z H' fv ((runF b x n).ss.map stD)->Bag z H'->LamTb tb H'->Q (.ref p) H'):zds tb vs H Q E
theorem scOn:zau ["book","text","doors","told","place","step"] ["book","text","doors"] (zah sOn):=⟨J,J,J,by decide +kernel,J,by decide +kernel,by decide +kernel⟩
theorem zmp{f tb af:Addr}{fd ap:FuncData}(F:Fun K "read_on" "read_on" sOn f fd)(T:TxtB mg)(k1:W.keepIn K (.ref af)=true)(ag:Binds K ap ["book","text","place","doors"] [])(aL:mg "read_step"=some (.ref af))(aM:FnOk P w K mg base CX0 4 af ap ["book","text","place","doors"] (zdL tb)):FnOk P w K mg base CX0 5 f fd ["book","text","doors"] (spOn tb):=by
 refine F.ok scOn (λvs H Q E h=>?_) (λcdv A outer s H vs Q E aN h=>?_)
 .obtain⟨z,v,b,q,x,rfl,_⟩:=h;rfl
 .obtain⟨z,v,b,q,x,rfl,aq,ar,aO,as,ab,aP,aQ,k⟩:=h;have ac:=scOn.nd;have aR:=as;obtain⟨au,bg,av,_⟩:=aR;refine⟨_,zac (zaq (i:=3) ac J (Or.inl J) (zaO zad))
   (zac (zaq (i:=4) ac J (Or.inl J) zag)
   (zac (zeb PassesOwn.never (zax zeG (pv 4) (zar zaw (by rfl) T.len b_len (zaa (pv 1) zad)) (zaF _))
    (zac (zaq (i:=5) ac J (Or.inl J) (zaj aM aN J aL k1 ag .nil pass0 (zaa (pv 0) (zaa (pv 1) (zaa (pv 4) (zaa (pv 2) zad))))))
    (zac (za7 (zcL PySem.F.plainAttrs_list PySem.F.slot_list_append PySem.F.type_list_append zaW (pv 3) (zaa (pv 5) zad)))
    (zaf (zg2 (i:=4) ac J (Or.inl J) (zay ix_tup (pv 5) zag (λ_ _=>rfl)) zg3)))))
   (zaf (zas (pv 3))))),?_⟩
  dsimp only[cxOf,Cx.nox,Cx.wish];have bh:=zaR;have bi:(100000:Nat)<=sizeLine:=by rw[sizeLine_eq];decide
  refine⟨Nat.zero_le _,λD U=>?_⟩;have Y:=Same.new (o:=.lst []) U;have aS:D≠z:=aq.ne U;have aw:q≠D:=zae ab U;refine zed (λσ G=>∃n u,σ=[some v,some (.str x),some (.ref q),some (.ref D),some (.int (runF b x n).at_),u]/\But2 q tb H G/\Bag z G/\Rep z G v (bkD b)/\PDs z G q (runF b x n).ds/\LamTb tb G/\∃B,G D=some (.lst B)/\Reps z G B ((runF b x n).ss.map stD))
   (λσ G=>match σ[4]? with|some (some (V.int i))=>x.length-i.toNat|_=>0) ⟨0,none,J,λb' o _ _ e=>Y b' o e,aq.same Y,aO.mono Y.x,⟨[],Y _ _ ab,.nil⟩,aQ.same Y,[],zab,.nil⟩ ?_ ?_
  .rintro σ G ⟨n,u,rfl,ax,ad,ay,ah,ai,B,aj,ak⟩;have Z:=zc4 (x:=x) av au n;have bj:=Z.le;refine⟨_,J,_,J,x,J,by omega,_,_,J,J,_,J,?_⟩;refine ite2 (λJ0=>?_) (λJ0=>?_)
   .have J0:(runF b x n).at_<x.length:=by have:=of_decide_eq_true J0;omega
    have bk:=Z.dl;have bl:=Z.sl;refine⟨_,J,_,J,_,J,_,J,z,v,b,q,(runF b x n).ds,x,(runF b x n).at_,J,ad,ar,ay,as,ah,Z.bk,J0,aP,by omega,ai,λp I aa np al az aT=>?_⟩;obtain⟨bm,p2,p3,p4,p5,bn⟩:=zbO (x:=x) av Z.bk au J0;rw[←ze1 J0] at az;obtain⟨bo,aA,_⟩:=ah;obtain⟨ps,ae⟩:=ai.tbl;have aU:=Rep.but2 aA ae aa ay (.tup (zdG b));have aV:=Reps.but2 aA ae aa ak (zcs _);have O:=aa _ _ aw.symm (zaI aj ae (by intro q;cases q)) aj;have aW:Bag z I:=by
     obtain⟨am,ao,e⟩:=ad;exact⟨am,ao,aa _ _ ar.symm (zaI e ae (by intro q;cases q)) e⟩
    have aX:p≠z:=ad.ne np;have bp:B.length=(runF b x n).ss.length:=by have:=ak.length;simpa using this
    refine⟨_,J,.inl ⟨J,_,SqL.of O⟩,_,J,D,B,_,J,J,O,by omega,?_⟩;have aY:Rep z I (.ref p) (stD (stepL b (runF b x n).ds x (runF b x n).at_ (bestL b (runF b x n).ds x (runF b x n).at_)).1):=.tup al aX (.cons (.int _) (.cons (.int _) (.cons (.str _ (by omega)) (.cons (.int _) (.cons (.int _) .nil)))));have aB:upd I D (.lst (B++[.ref p])) D=some (.lst (B++[.ref p])):=zab;have aC:Reps z (upd I D (.lst (B++[.ref p]))) (B++[.ref p]) ((runF b x (n+1)).ss.map stD):=by
     rw[zh1 J0,List.map_append];exact Reps.updL O (aV.append (.cons aY .nil)) ((zcs _).append (zcs [_]))
    have aD:=Rep.updL (l':=B++[.ref p]) O aU (.tup (zdG b));obtain⟨aE,aZ,a1⟩:=az;have aF:upd I D (.lst (B++[.ref p])) q=some (.lst aE):=by rw[zan aw];exact aZ
    have aG:=Reps.updL (l':=B++[.ref p]) O a1 (zct _);have aH:LamTb tb (upd I D (.lst (B++[.ref p]))):=aT.sameX O (SameX.refl.upd);have aI:upd I D (.lst (B++[.ref p])) p=some (.tup (stV (stepL b (runF b x n).ds x (runF b x n).at_ (bestL b (runF b x n).ds x (runF b x n).at_)).1)):=by
     rw[zan (zaI al O (by intro q;cases q))];exact al
    have aJ:Bag z (upd I D (.lst (B++[.ref p]))):=by
     obtain⟨am,ao,e⟩:=aW;exact⟨am,ao,by rw[zan aS.symm];exact e⟩
    have aK:But2 q tb H (upd I D (.lst (B++[.ref p]))):=λb' o h1 h2 e=>by rw[zan (zae e U)];exact(ax.trans aa) b' o h1 h2 e
    generalize upd I D (.lst (B++[.ref p]))=bq at aB aC aD aF aG aH aI aJ aK;refine⟨_,J,_,J,p,_,1,_,J,J,SqT.of aI,zal (j:=1) J,_,_,J,J,?_⟩;have a2:((runF b x n).at_:Int)+(stepL b (runF b x n).ds x (runF b x n).at_ (bestL b (runF b x n).ds x (runF b x n).at_)).1.2.1=((runF b x (n+1)).at_:Int):=by
     rw[ze0 J0];show _=((_+_:Nat):Int);omega
    refine⟨⟨n+1,some (.ref p),?_,aK,aJ,aD,⟨aE,aF,aG⟩,aH,_,aB,aC⟩,?_⟩
    .show [some v,some (.str x),some (.ref q),some (.ref D),some (V.int (((runF b x n).at_:Int)+(stepL b (runF b x n).ds x (runF b x n).at_ (bestL b (runF b x n).ds x (runF b x n).at_)).1.2.1)),some (.ref p)]=_;rw[a2]
    .show x.length-(((runF b x n).at_:Int)+(stepL b (runF b x n).ds x (runF b x n).at_ (bestL b (runF b x n).ds x (runF b x n).at_)).1.2.1).toNat<x.length-((runF b x n).at_:Int).toNat;omega
   .have a3:(runF b x n).at_=x.length:=by
     have:¬(((runF b x n).at_:Int)<(x.length:Int)):=λq=>J0 (decide_eq_true q);omega
    exact⟨_,J,k D B n G ax U aj a3 ak ah ad ai⟩
  .rintro σ G br bs ab ⟨a4,a5,a6,a7,a8,a9,ba,bb,bc,bd,be,ag,bf,h⟩;exact⟨a4,a5,a6,a7,a8,a9,ba,bb,bc,bd,be,ag,bf,ab _ _ h⟩
theorem zjx:zau ["book","text"] ["book","text"] (zah zhW):=⟨J,J,J,by decide +kernel,J,by decide +kernel,by decide +kernel⟩
theorem ziy{f tb B:Addr}{fd G:FuncData}(F:Fun K "steps" "steps" zhW f fd)(k1:W.keepIn K (.ref B)=true)(J0:Binds K G ["book","text","doors"] [])(O:mg "read_on"=some (.ref B))(U:FnOk P w K mg base CX0 5 B G ["book","text","doors"] (spOn tb)):FnOk P w K mg base CX0 6 f fd ["book","text"] (zds tb):=by
 refine F.ok zjx (λvs H Q E h=>?_) (λcdv A outer s H vs Q E V h=>?_)
 .obtain⟨z,v,b,x,rfl,_⟩:=h;rfl
 .obtain⟨z,v,b,x,rfl,I,Y,Z,aa,ab,k⟩:=h;refine⟨_,zaf (zas (zaj U V J O k1 J0 .nil pass0 (zaa (pv 0) (zaa (pv 1) (zaa (zaO zad) zad))))),?_⟩;refine⟨_,J,_,J,Nat.zero_le _,λq D=>?_⟩;have j:=Same.new (o:=.lst []) D;refine⟨z,v,b,q,x,J,I.same j,I.ne D,Y.mono j.x,Z,zab,aa,ab.same j,λp ac n H2 ad np ae af ag aj ah ai=>?_⟩;exact k p ac n H2 (λb' o h e=>ad b' o (zae e D) h (j b' o e)) (j.free np) ae af ag ah ai
inductive zgv:List V->Hp->VK->XK->Prop where
 |mk {vs:List V} {H:Hp} {Q:VK} {E:XK} (z:Addr) (v:V) (b:Bk) (x:Str) (i:Nat) (c1:vs=[v,.int 0,.int i,.str x]) (c2:Bag z H) (c3:Rep z H v (bkD b)) (c4:BkOk b) (c5:i<(b.getD 0 tg0).2.length) (c6:x.length<=20000) (q:∀H',Same H H'->Q (fewD b ((b.getD 0 tg0).2.getD i dr0) x) H'):zgv vs H Q E
theorem scFewL:zau ["book","tongue","number","text","found"] ["book","tongue","number","text"] (zah zfv):=⟨J,J,J,by decide +kernel,J,by decide +kernel,by decide +kernel⟩
theorem zk9{f B j:Addr}{fd I:FuncData}(F:Fun K "_law_fewest" "_law_fewest" zfv f fd)(U:mg "NoWay"=some (.ref j))(V:W.exmOne K (.ref j) (.ref j)=some true)(k1:W.keepIn K (.ref B)=true)(Y:Binds K I ["book","tongue","number","text"] [])(Z:mg "fewest_escapes"=some (.ref B))(aa:FnOk P w K mg base (CXE P w) 4 B I ["book","tongue","number","text"] (spFew j)):FnOk P w K mg base CX0 5 f fd ["book","tongue","number","text"] zgv:=by
 refine F.ok scFewL (λvs H Q E h=>?_) (λcdv A outer s H vs Q E ab h=>?_)
 .obtain⟨z,v,b,x,i,rfl,_⟩:=h;rfl
 .obtain⟨z,v,b,x,i,rfl,ac,ad,J0,hi,ae,q⟩:=h;have G:=scFewL.nd;refine⟨_,zac (zaq (i:=4) G J (Or.inl J) zeD)
   (zac (zlG J J J U (zkr (zlF (i:=4) G J (Or.inl J) (zi5 aa ab J Z k1 Y .nil (zaa (pv 0) (zaa (pv 1) (zaa (pv 2) (zaa (pv 3) zad)))))))
    (λa=>zaf (zaq (i:=4) G J (Or.inl J) zaD)))
   (zaf (zas (pv 4)))),?_⟩
  dsimp only[cxOf,Cx.nox,Cx.wish];have ak:=J0.1;have af:isDr b 0 i=true:=by
   unfold isDr inN;have ag:tgAt b 0=b.getD 0 tg0:=rfl;rw[ag,decide_eq_true (by decide),decide_eq_true (by omega),decide_eq_true (by omega),decide_eq_true (by omega)];rfl
  generalize O:(b.getD 0 tg0).2.getD i dr0=D at *;have ah:(((b.getD D.2.1.toNat tg0).1).length=1∨needE (b.getD D.2.1.toNat tg0).1 (zaK b D.2.1 D.2.2) D.2.2 x.cps.toList=false)->∀H',Same H H'->Q (.int (costG (b.getD D.2.1.toNat tg0).1 (zaK b D.2.1 D.2.2) D.2.2 x.cps.toList:Nat)) H':=λh H' s'=>by
   have:=q H' s';unfold fewD fewV at this;rw[if_pos h] at this;exact this
  have ai:(b.getD D.2.1.toNat tg0).1=Str.ofString ""->needE (b.getD D.2.1.toNat tg0).1 (zaK b D.2.1 D.2.2) D.2.2 x.cps.toList=true->∀H',Same H H'->Q (.str "none") H':=λh1 h2 H' s'=>by
   have:=q H' s';unfold fewD fewV at this;rw[if_neg (λc=>by
    rcases c with c|c
    .rw[h1] at c;exact absurd c (by decide)
    .rw[h2] at c;cases c)] at this
   exact this
  exact⟨_,J,_,J,_,J,_,J,z,v,b,x,0,(i:Int),_,D.2.2,D.2.1,J,ac,ad,J0,af,ae,by rw[←O];rfl,by rw[←O];rfl,J,λh H' s'=>⟨_,J,ah h H' s'⟩,λh1 h2 H' s'=>⟨V,λa aj=>⟨_,J,ai h1 h2 _ (s'.trans (Same.new aj))⟩⟩⟩
structure Ge(z tb:Addr)(H H':Hp):Prop where
 s:But2 z tb H H'
 B:Bag z H'
 L:LamTb tb H'
mutual
theorem Rep.ge{z tb:Addr}{H H':Hp}{ps:Array Value}(j:H tb=some (.tbl ps))(s:But2 z tb H H'):∀ {v:V}{d:D},Rep z H v d->Rep z H' v d
 |_,_,.non=>.non
 |_,_,.bl b=>.bl b
 |_,_,.int i=>.int i
 |_,_,.str x h=>.str x h
 |_,_,.tup h B r=>.tup (s _ _ B (zaI h j (by intro q;cases q)) h) B (Reps.ge j s r)
 |_,_,.lst h B r=>.lst (s _ _ B (zaI h j (by intro q;cases q)) h) B (Reps.ge j s r)
theorem Reps.ge{z tb:Addr}{H H':Hp}{ps:Array Value}(j:H tb=some (.tbl ps))(s:But2 z tb H H'):∀ {vs:List V}{ds:List D},Reps z H vs ds->Reps z H' vs ds
 |_,_,.nil=>.nil
 |_,_,.cons h t=>.cons (Rep.ge j s h) (Reps.ge j s t)
end
section
variable {z tb p:Addr}{H H' H2:Hp}{v:V}{d:D}{xs:List V}
theorem Ge.refl(j:Bag z H)(L:LamTb tb H):Ge z tb H H:=⟨λ_ _ _ _ e=>e,j,L⟩
theorem Ge.same(g:Ge z tb H H')(s:Same H' H2):Ge z tb H H2:=⟨λb o h1 h2 e=>s b o (g.s b o h1 h2 e),g.B.same s,g.L.same s⟩
theorem Ge.butX(g:Ge z tb H H')(s:ButX tb H' H2)(j:Bag z H2)(L:LamTb tb H2):Ge z tb H H2:=⟨λb o h1 h2 e=>s b o h2 (g.s b o h1 h2 e),j,L⟩
theorem Ge.aft(g:Ge z tb H H')(A:Aft z H' H2):Ge z tb H H2:=by
 obtain⟨B,D,j⟩:=id g.B;exact⟨λb o h1 h2 e=>A.1 b o h1 (g.s b o h1 h2 e),A.2,g.L.sameX j A.1⟩
theorem Ge.trans(g:Ge z tb H H')(j:Ge z tb H' H2):Ge z tb H H2:=⟨λb o h1 h2 e=>j.s b o h1 h2 (g.s b o h1 h2 e),j.B,j.L⟩
theorem Ge.rep(g:Ge z tb H H')(L:LamTb tb H)(r:Rep z H v d):Rep z H' v d:=let ⟨_,j⟩:=L.tbl;Rep.ge j g.s r
theorem Ge.lst(g:Ge z tb H H')(L:LamTb tb H)(j:p≠z)(h:H p=some (.lst xs)):H' p=some (.lst xs):=let ⟨_,B⟩:=L.tbl;g.s _ _ j (zaI h B (by intro q;cases q)) h
end
section
variable {f:Nat->Nat}{τ:Int->Int}{b b':Bk}{x:Str}{n n':Nat}
theorem zl7(h:(runF b x n).at_=x.length)(h':(runF b x n').at_=x.length):runF b x n=runF b x n':=by
 have a:=(zdR h n').2;have c:=(zdR h' n).2;rw[←a,←c,Nat.add_comm]
theorem Sim.steps(S:Sim f τ b b')(h:(runF b x n).at_=x.length)(h':(runF b' (mapS f x) n').at_=(mapS f x).length):(runF b' (mapS f x) n').ss=(runF b x n).ss.map (stM τ):=by
 have e:=S.run (x:=x) n';rw[e,zaB] at h';rw[e,zl7 h h']
theorem Sim.forks(S:Sim f τ b b')(h:(runF b x n).at_=x.length)(h':(runF b' (mapS f x) n').at_=(mapS f x).length):(fkL b' (mapS f x) n').map (·.1)=(fkL b x n).map (·.1):=by
 have e:=S.run (x:=x) n';rw[e,zaB] at h';rw[S.fk,zlZ h h']
theorem zjZ(l:List Stp):l.map (stM λt=>t)=l:=List.map_id _
end
theorem zcI(k:Nat):∀j:List Stp,Deps (k+1) (j.map stD)
 |[]=>.nil _
 |s::r=>.cons (.tup (.cons (.int _ _) (.cons (.int _ _) (.cons (.str _ _) (.cons (.int _ _) (.cons (.int _ _) (.nil _))))))) (zcI k r)
theorem zgw(k:Nat):∀l:List Nat,Deps k (l.map λi=>D.int (i:Nat))
 |[]=>.nil _
 |i::r=>.cons (.int _ _) (zgw k r)
theorem zgx{z:Addr}{H:Hp}{v:V}{f:Nat×List Str}(r:Rep z H v (fkD f)):∃a u,v=.ref a/\H a=some (.tup [.int f.1,u]):=by
 cases r with
 |tup h B r=>
  cases r with
  |cons j r=>
   cases r with
   |cons D r=>
    cases r;cases j;exact⟨_,_,J,h⟩
theorem zjy{n:Nat}(h:1<=n):V.int 0::(((List.range ((n:Int)-1).toNat).map λk:Nat=>V.int (1+(k:Int))).reverse)=ordL n:=by
 refine List.ext_getElem ?_ λi h1 h2=>?_
 .unfold ordL;simp;omega
 .unfold ordL at h2 ⊢;rw[List.length_map,List.length_range] at h2;cases i with
  |zero=>simp[ordN]
  |succ i=>
   simp only[List.getElem_cons_succ,List.getElem_reverse,List.getElem_map,List.getElem_range,List.length_map,List.length_range];unfold ordN;rw[if_neg (by omega)];congr 1;omega
theorem zgy{b:Bk}{x:Str}(ok:BkOk b):∀n,∀s∈(runF b x n).ss,0<=s.2.2.2.1/\s.2.2.2.1<b.length
 |0,s,hs=>nomatch hs
 |n+1,s,hs=>by
  have F:=zgy (x:=x) ok n;have j:=(zc4 (x:=x) ok.2.2.1 ok.1 n).bk;have hs:s∈(zaS b x (runF b x n)).ss:=hs;unfold zaS at hs;by_cases B:(runF b x n).at_<x.length
  .rw[if_pos B] at hs;rcases List.mem_append.mp hs with hs|hs
   .exact F s hs
   .have tg:∀ds:List LDr,LdBk b ds->0<=zak ds/\zak ds<b.length:=λds j=>by
     obtain⟨U,e,V⟩:=zbg (j.ok ok.2.2.1) ok.1;rw[e];omega
    have hs:=List.mem_singleton.mp hs;rw[hs];generalize (runF b x n).ds=ds at *;generalize (runF b x n).at_=i at *;by_cases G:fitsP b ds x i=[]
    .rw[zcg B G];have e:(plainL b ds x i).2.2.2.1=zak ds:=by
      unfold plainL;split
      .split<;>rfl
      .rfl
     show 0<=(plainL b ds x i).2.2.2.1/\(plainL b ds x i).2.2.2.1<b.length;rw[e];exact tg ds j
    .have I:fitL b ds x i≠[]:=λq=>G ((zgi (by omega)).mpr q);rcases zcd (l:=fitL b ds x i) λm J0=>zcU (x:=x) (i:=i) ok.2.2.1 (j.ok ok.2.2.1) m (List.mem_filter.mp J0).1 with⟨h1,_⟩|⟨h1,h2⟩
     .exact absurd h1 I
     .obtain⟨y,W,Y,D⟩:=zgj ok j B h1;have D:stepL b ds x i (bestL b ds x i)=takeL ds i y.1 y.2:=D;rw[D];cases hy2:y.2 with
      |none=>exact tg ds.dropLast (λd O=>j d (List.dropLast_subset _ O))
      |some d=>exact tg ds j
  .rw[if_neg B] at hs;exact F s hs
theorem zfF{z ab:Addr}{H:Hp}{b:Bk}(R:Rep z H (.ref ab) (bkD b)):∃xs,H ab=some (.tup xs)/\xs.length=b.length/\Reps z H xs (b.map tgD):=by
 obtain⟨a,xs,e,_,h1,h2,j⟩:=zbd R;injection e with e;subst e;exact⟨xs,h1,h2,j⟩
theorem zj0{z:Addr}{H:Hp}{xs:List V}{b:Bk}(R:Reps z H xs (b.map tgD))(G:1<=b.length):∃c d ys,xs[0]?=some (.ref c)/\H c=some (.tup [.str (b.getD 0 tg0).1,.ref d])/\H d=some (.tup ys)/\ys.length=(b.getD 0 tg0).2.length:=by
 obtain⟨c,d,ys,e,I,J0,B,D,F,O⟩:=zaH (zaA (b:=b) (i:=0) R (by omega));have j:0<xs.length:=by have:=R.length;rw[List.length_map] at this;omega
 refine⟨c,d,ys,?_,B,D,F⟩;rw[List.getElem?_eq_getElem j,←e];simp[j]
noncomputable def zeB(K:W.Frag)(tb:Addr):Sp:=λvs H Q _=>∃a,∃j:List Int,vs=[.ref a]/\SqL K H a (j.map V.int)/\LamTb tb H/\∀H',Q (.bl true) H'
theorem ziz{K:W.Frag}{H H':Hp}{a t:Addr}{xs:List V}{ps:Array Value}(j:H t=some (.tbl ps))(e:ButX t H H')(h:SqL K H a xs):SqL K H' a xs:=by
 rcases h with(h|⟨o,h⟩)|h
 .exact .inl (.inl (e _ _ (zaI h j (by intro q;cases q)) h))
 .exact .inl (.inr ⟨o,e _ _ (zaI h j (by intro q;cases q)) h⟩)
 .exact .inr h
theorem zl8(l:Nat):∃n:Nat,(if (20:Int)<(l:Int) then (20:Int) else (l:Int))=(n:Int)/\n<=20:=by
 by_cases h:(20:Int)<(l:Int)
 .exact⟨20,by rw[if_pos h];rfl,by decide⟩
 .exact⟨l,by rw[if_neg h],by omega⟩
theorem zjz(s:Stp):NoL (stD s):=.tup (.cons (.int _) (.cons (.int _) (.cons (.str _) (.cons (.int _) (.cons (.int _) .nil)))))
theorem zfh{z:Addr}{H:Hp}{xs:List V}{l:List (Nat×List Str)}{i:Nat}(r:Reps z H xs (l.map fkD))(hi:i<l.length):Rep z H (xs.getD i .non) (fkD (l.getD i (0,[]))):=by
 have:=r.get (i:=i) (by simpa using hi);have e:(l.map fkD).getD i .non=fkD (l.getD i (0,[])):=by simp[hi]
 rw[e] at this;exact this
theorem zgz(b:Bk)(d:Dr)(x:Str):scal (fewD b d x) (fewD b d x)=true:=by
 unfold fewD fewV;split<;>rfl
theorem zl9(x:Str):(cutS x none (some 60)).length<=60:=by
 unfold cutS;show (List.toArray _).size<=_;rw[List.size_toArray,List.length_take];have e:HT.sIx x.length x.length (some 60)<=60:=by
  show (if (60:Int)<0 then ((60:Int)+(x.length:Int)).toNat else min (60:Int).toNat x.length)<=60;rw[if_neg (by decide)];omega
 omega
inductive Ou28(tb a:Addr)(H:Hp):L2.St->Hp->Prop where
 |mk {σ:L2.St} {H2:Hp} (u1 u2 u3 u4 u5 u6 u7 u8 u9 u10 u11 u12 u13:Option V) (e:σ=[some (.ref a),u1,u2,u3,u4,u5,u6,u7,u8,u9,u10,u11,u12,u13]) (h1:ButX tb H H2) (h2:LamTb tb H2):Ou28 tb a H σ H2
theorem scLaw28:zau ["script","k","bag","book","text","due","order","named","by","other","signs","number","many","turned"] ["script"] (zah lLaw):=⟨J,J,J,by decide +kernel,J,by decide +kernel,by decide +kernel⟩
theorem ndSO:(["step","order"]:List Str).Nodup:=by decide +kernel
theorem ndRow:(["row"]:List Str).Nodup:=by decide +kernel
theorem zjA{f tb bp bq br bs bt bu bv bw bx f10 bz bA:Addr}{fd cj ck cm cn co cp cq cr cs cu cv cw:FuncData}(F:Fun K "law" "law" lLaw f fd)(T:TxtB mg)(cx:Txt2 mg)(k1:W.keepIn K (.ref bp)=true)(dO:Binds K cj ["script","k"] [])(dP:mg "_law_bag"=some (.ref bp))(dQ:FnOk P w K mg base CX0 1 bp cj ["script","k"] (spBag K))(k2:W.keepIn K (.ref bq)=true)(dR:Binds K ck ["bag"] [])(dS:mg "_law_book"=some (.ref bq))(dT:FnOk P w K mg base CX0 3 bq ck ["bag"] zf6)(k3:W.keepIn K (.ref br)=true)(dU:Binds K cm ["bag","book","most"] [])(dV:mg "_law_text"=some (.ref br))(dW:FnOk P w K mg base CX0 2 br cm ["bag","book","most"] zf9)(dX:W.keepIn K (.ref bs)=true)(dY:Binds K cn ["bag","many"] [])(dZ:mg "_law_take"=some (.ref bs))(d0:FnOk P w K mg base CX0 1 bs cn ["bag","many"] zdF)(k5:W.keepIn K (.ref bt)=true)(aS:Binds K co ["book","text"] [])(aT:mg "steps"=some (.ref bt))(aU:FnOk P w K mg base CX0 6 bt co ["book","text"] (zds tb))(d1:W.keepIn K (.ref bu)=true)(d2:Binds K cp ["book","by"] [])(d3:mg "_law_book_signs"=some (.ref bu))(d4:FnOk P w K mg base CX0 2 bu cp ["book","by"] spBkS)(d5:W.keepIn K (.ref bv)=true)(d6:Binds K cq ["text","by"] [])(d7:mg "_law_signs"=some (.ref bv))(d8:FnOk P w K mg base CX0 1 bv cq ["text","by"] zdS)(cy:W.keepIn K (.ref bw)=true)(cz:Binds K cr ["book","order"] [])(cA:mg "_law_numbered"=some (.ref bw))(cB:FnOk P w K mg base CX0 1 bw cr ["book","order"] spNmb)(cC:W.keepIn K (.ref bx)=true)(cD:Binds K cs ["book"] [])(cE:mg "_law_doors_turned"=some (.ref bx))(cF:FnOk P w K mg base CX0 1 bx cs ["book"] zdr)(cG:W.keepIn K (.ref f10)=true)(cH:Binds K cu ["book","text"] [])(cI:mg "forks"=some (.ref f10))(cJ:FnOk P w K mg base CX0 5 f10 cu ["book","text"] (zez tb))(aV:W.keepIn K (.ref bz)=true)(aW:Binds K cv ["book","text"] [])(aX:mg "free_readings"=some (.ref bz))(aY:FnOk P w K mg base CX0 6 bz cv ["book","text"] zgp)(bB:W.keepIn K (.ref bA)=true)(bC:Binds K cw ["book","tongue","number","text"] [])(bD:mg "_law_fewest"=some (.ref bA))(bE:FnOk P w K mg base CX0 5 bA cw ["book","tongue","number","text"] zgv):FnOk P w K mg base CX0 7 f fd ["script"] (zeB K tb):=by
 refine F.ok scLaw28 (λvs H Q E h=>?_) (λcdv A outer s H vs Q E ap h=>?_)
 .obtain⟨a,bF,rfl,_⟩:=h;rfl
 .obtain⟨a,bF,rfl,cK,cL,k⟩:=h;have O:=scLaw28.nd;have ak:Room 1 _:=ap.mono (by decide);have cM:Room 2 _:=ap.mono (by decide);have d9:Room 3 _:=ap.mono (by decide);have ac:Room 5 _:=ap.mono (by decide);have af:Room 6 _:=ap.mono (by decide);refine⟨_,zac (za0 PassesOwn.never J (zbB J T.range (pa_B (zaC zbj (zar (zha J) (by rfl) cx.min zmf (zaa (zar zat (by rfl) T.len b_len (zaa (pv 0) zad)) (pa_K zag zad))) zag) zad)) (zai (i:=1) O J (Or.inl J))
    (zac (zaq (i:=2) O J (Or.inl J) (zaj dQ ak J dP k1 dO .nil pass0 (zaa (pv 0) (zaa (pv 1) zad))))
    (zac (zaq (i:=3) O J (Or.inl J) (zaj dT d9 J dS k2 dR .nil pass0 (zaa (pv 2) zad)))
    (zac (zaq (i:=4) O J (Or.inl J) (zdc zhv (zaj dW cM J dV k3 dU .nil pass0 (zaa (pv 2) (zaa (pv 3) (pa_K zag zad)))) zee (zcK zag)))
    (zac (zaq (i:=5) O J (Or.inl J) (zaj aU af J aT k5 aS .nil pass0 (zaa (pv 3) (zaa (pv 4) zad))))
    (zac (zaq (i:=6) O J (Or.inr J) (zaC zfO (zaO (pa_K zag zad)) (zku (zeS ap.hd J cx.list zfQ J T.range (pa_K zag (zaa (zar zat (by rfl) T.len b_len (zaa (pv 3) zad)) zad))) (zcK (ziC zfJ zag)))))
    (zac (za8 (i:=7) (N':=["step","order"]) (js:=[none,some 6]) J J O J (Or.inl J) (zbp (zah lLaw) (by decide +kernel)) ⟨J,Or.inr (Or.inl J),J,trivial⟩ (zbb (pv 5))
      (λcl s H fp=>zai (i:=0) ndSO J (Or.inl J)) (λcl s H fp=>zbo)
      (λcl s H fp=>zaC ziS (zdc zkl (pv 0) zee (zcK zag)) (zaG (zaa (zd3 PySem.F.plainAttrs_list PySem.F.slot_list_index PySem.F.type_list_index zf2 (pv 1) (zaa (zay za1 (pv 0) zag (λ_ _=>rfl)) zad)) (zaa (zay za1 (pv 0) zag (λ_ _=>rfl)) zad)))))
    (zac (zaq (i:=8) O J (Or.inl J) (zaC zbj zag (zaj d0 ak J dZ dX dY .nil pass0 (zaa (pv 2) (zaa zag zad)))))
    (zac (zaq (i:=9) O J (Or.inl J) (zaj d4 cM J d3 d1 d2 .nil pass0 (zaa (pv 3) (zaa (pv 8) zad))))
    (zac (zaq (i:=10) O J (Or.inl J) (zaj d8 ak J d7 d5 d6 .nil pass0 (zaa (pv 4) (zaa (pv 8) zad))))
    (zac (zaY (PW.pt (zj3 (zax (zcb ac) (zaj aU af J aT k5 aS .nil pass0 (zaa (zaj cB ak J cA cy cz .nil pass0 (zaa (pv 3) (zaa (pv 6) zad))) (zaa (pv 4) zad))) (pv 7) (zaF _)) (zg1 (zax (zcb ac) (zaj aU af J aT k5 aS .nil pass0 (zaa (zaj cF ak J cE cC cD .nil pass0 (zaa (pv 3) zad)) (zaa (pv 4) zad))) (pv 5) (zaF _))))) (zaf (zas zcj)) zaz)
    (zac (zaY (zax (zcb ac) (zaj aU af J aT k5 aS .nil pass0 (zaa (pv 9) (zaa (pv 10) zad))) (pv 5) (zaF _)) (zaf (zas zcj)) zaz)
    (zac (zaY (zax (zcb ac)
      (zbs (N':=["row"]) (js:=[none]) J J (zbp (zah lLaw) (by decide +kernel)) trivial (zbb (zaj cJ ac J cI cG cH .nil pass0 (zaa (pv 9) (zaa (pv 10) zad)))) (λcl s H fp=>zai (i:=0) ndRow J (Or.inl J)) (λcl s H fp=>zbo) (λcl s H fp=>zay za1 (pv 0) zag (λ_ _=>rfl)))
      (zbs (N':=["row"]) (js:=[none]) J J (zbp (zah lLaw) (by decide +kernel)) trivial (zbb (zaj cJ ac J cI cG cH .nil pass0 (zaa (pv 3) (zaa (pv 4) zad)))) (λcl s H fp=>zai (i:=0) ndRow J (Or.inl J)) (λcl s H fp=>zbo) (λcl s H fp=>zay za1 (pv 0) zag (λ_ _=>rfl))) (zaF _)) (zaf (zas zcj)) zaz)
    (zac (zaY (zax zeF (zay ix_tup (zaj aY af J aX aV aW .nil pass0 (zaa (pv 9) (zaa (pv 10) zad))) zag (λ_ _=>rfl)) (zay ix_tup (zaj aY af J aX aV aW .nil pass0 (zaa (pv 3) (zaa (pv 4) zad))) zag (λ_ _=>rfl)) (zaF _)) (zaf (zas zcj)) zaz)
    (zac (zaY (zax zeF (zay ix_tup (zaj aY af J aX aV aW .nil pass0 (zaa (zaj cB ak J cA cy cz .nil pass0 (zaa (pv 3) (zaa (pv 6) zad))) (zaa (pv 4) zad))) zag (λ_ _=>rfl)) (zay ix_tup (zaj aY af J aX aV aW .nil pass0 (zaa (pv 3) (zaa (pv 4) zad))) zag (λ_ _=>rfl)) (zaF _)) (zaf (zas zcj)) zaz)
    (zaf (za0 PassesOwn.never J (zbB J T.range (zaa (zar zat (by rfl) T.len b_len (zaa (zay ix_tup (zay ix_tup (pv 3) zag (λ_ _=>rfl)) zag (λ_ _=>rfl)) zad)) zad)) (zai (i:=11) O J (Or.inl J))
     (zac (zaq (i:=12) O J (Or.inl J) (zaj bE ac J bD bB bC .nil pass0 (zaa (pv 3) (pa_K zag (zaa (pv 11) (zaa (pv 4) zad))))))
     (zac (zaq (i:=13) O J (Or.inl J) (zaC zfI (zaC zfI (zar zat (by rfl) T.len b_len (zaa (zay ix_tup (zay ix_tup (pv 3) zag (λ_ _=>rfl)) zag (λ_ _=>rfl)) zad)) zag) (pv 11)))
     (zac (zaY (zax zeF (zaj bE ac J bD bB bC .nil pass0 (zaa (pv 9) (pa_K zag (zaa (pv 11) (zaa (pv 10) zad))))) (pv 12) (zaF _)) (zaf (zas zcj)) zaz)
     (zaf (zaY (zax zeF (zaj bE ac J bD bB bC .nil pass0 (zaa (zaj cF ak J cE cC cD .nil pass0 (zaa (pv 3) zad)) (pa_K zag (zaa (pv 13) (zaa (pv 4) zad))))) (pv 12) (zaF _)) (zaf (zas zcj)) zaz))))))))))))))))))))))
   (zaf (zas zcj)),?_⟩
  dsimp only[cxOf,Cx.nox,Cx.wish];have gc:=zaR;have gd:(100000:Nat)<=sizeLine:=by rw[sizeLine_eq];decide
  obtain⟨n,eb,ge⟩:=zl8 (bF.map V.int).length;obtain⟨gf,ec⟩:=cL.tbl;refine zd1 λD gg ed _ _=>zao λU B=>?_;refine⟨_,J,a,_,J,.inl cK,_,_,J,_,_,J,J,(n:Int)+2,?_,by omega,by omega,?_⟩
  .rw[←eb]
  refine zbW (λ_=>Ou28 tb a H) ⟨none,none,none,none,none,none,none,none,none,none,none,none,none,J,λb o _ e=>e,cL⟩ ?_ ?_
  .rintro i σ gh hi ⟨ee,bG,ef,eg,eh,ei,ej,ek,el,em,en,eo,ep,rfl,cN,eq⟩;have gi:i<n+2:=by omega
   show (tSeq _ _) _ _ _;refine zd1 λgj er gk _ _=>zao λU B=>?_;refine⟨_,J,_,J,a,bF,i,by simp,ziz ec cN cK,by omega,λz H1 et cO cP=>B _ _ (zao λU B=>?_)⟩;have eu:=eq.same cO;refine⟨_,J,z,J,cP,λv b H2 cQ cR I=>B _ _ (zao λU B=>?_)⟩;have ew:=(Ge.refl cP eu).aft cQ;refine⟨_,J,_,J,z,v,b,20,J,cQ.2,cR,I,by decide,by decide,λcS ey cT gl=>?_⟩;have aq:=ew.aft cT;have aZ:=cR.mono cT.1;have gm:=zl9 cS;refine⟨_,J,_,J,by omega,B _ _ (zao λU B=>?_)⟩;generalize cutS cS none (some 60)=x at *;obtain⟨ab,gn,rfl,go,gp,gq,gr⟩:=zbd aZ;obtain⟨aB,ez,bH,_⟩:=id I;have bI:=aq.L;refine⟨_,J,_,J,z,.ref ab,b,x,J,aq.B,aZ,I,by omega,bI,λar cU Y a1 eA eB bJ as a2 eC eD=>B _ _ (zao λU B=>?_)⟩;have bK:Ge z tb ey a1:=(Ge.refl aq.B aq.L).butX eA eC eD;have eE:ar≠z:=aq.B.ne eB;have eF:Rep z a1 (.ref ar) (.lst ((runF b x Y).ss.map stD)):=.lst bJ eE a2;have eG:=bK.rep bI aZ;obtain⟨Z,eH,eI,_⟩:=zfF eG;have eJ:=(zc4 (x:=x) bH aB Y).sl;have eK:=zgy (x:=x) I Y;rw[as] at eJ;generalize bL:(runF b x Y).ss=ad at *;have eL:cU.length=ad.length:=by have:=a2.length;simpa using this
   refine⟨by show (1:Nat)<=_;omega,λbM cV=>?_⟩;have a3:=Same.new (o:=.lst [.int 0]) cV;refine⟨_,J,ab,Z,J,.inr (SqT.of (a3 _ _ eH)),1,(Z.length:Int),J,⟨by omega,by omega,by omega,by omega⟩,by omega,λp2 cW=>?_⟩;have a4:=Same.new (o:=.lst ((List.range ((Z.length:Int)-1).toNat).map λk:Nat=>V.int (1+(k:Int)))) cW;refine⟨1,J,_,J,J,p2,_,J,SqL.of zab,λp3 cX=>?_⟩;have a5:=Same.new (o:=.lst (((List.range ((Z.length:Int)-1).toNat).map λk:Nat=>V.int (1+(k:Int))).reverse)) cX;refine⟨bM,p3,[.int 0],_,J,J,(a4.trans a5) _ _ zab,zab,by rw[List.length_reverse,List.length_map,List.length_range];show 1+_<=_;omega,λae bN=>B _ _ (zao λU B=>?_)⟩;have cY:=Same.new (o:=.lst ([V.int 0]++(((List.range ((Z.length:Int)-1).toNat).map λk:Nat=>V.int (1+(k:Int))).reverse))) bN;have au:=((a3.trans a4).trans a5).trans cY;have a6:=bK.same au;have cZ:ae≠z:=((bK.same a3).same (a4.trans a5)).B.ne bN;have c0:[V.int 0]++(((List.range ((Z.length:Int)-1).toNat).map λk:Nat=>V.int (1+(k:Int))).reverse)=ordL b.length:=by
    rw[eI];exact zjy aB
   rw[c0] at au a6 ⊢;have bO:upd (upd (upd (upd a1 bM (.lst [.int 0])) p2 (.lst ((List.range ((Z.length:Int)-1).toNat).map λk:Nat=>V.int (1+(k:Int))))) p3 (.lst (((List.range ((Z.length:Int)-1).toNat).map λk:Nat=>V.int (1+(k:Int))).reverse))) ae (.lst (ordL b.length)) ae=some (.lst (ordL b.length)):=zab;generalize upd (upd (upd (upd a1 bM (.lst [.int 0])) p2 (.lst ((List.range ((Z.length:Int)-1).toNat).map λk:Nat=>V.int (1+(k:Int))))) p3 (.lst (((List.range ((Z.length:Int)-1).toNat).map λk:Nat=>V.int (1+(k:Int))).reverse))) ae (.lst (ordL b.length))=gs at *;clear a3 a4 a5 cY c0 bN cV cW cX;have a7:=au _ _ bJ;have c1:=a2.mono au.x;refine⟨_,J,ar,J,⟨_,SqL.of a7⟩,λa8 a9=>?_⟩;have bP:ar≠a8:=zae a7 a9;refine za9 (z:=z) (λ_=>true) (λj=>stD (stM (tauN b.length) (ad.getD j st0))) (λσ=>∃u,σ=[u,some (.ref ae)]) ⟨none,J⟩ a9 (by omega) (zbt (xs:=cU) (by rw[zan bP];exact a7) bP) (λj=>zjz _) (λj σ ba c2 c3 al ⟨u,aC⟩ ag aD _=>?_) (λσ ba fn ag c4 bQ=>?_)
   .subst aC;obtain⟨q,e,gt,ah,eM⟩:=zkV ((zkW (t:=j) c1 (by omega)).mono ag.x);rw[e];have c5:=eK _ (zap (i:=j) st0 (by omega));generalize ad.getD j st0=r at *;have ah:ba q=some (.tup [.int r.1,.int r.2.1,.str r.2.2.1,.int r.2.2.2.1,.int r.2.2.2.2]):=ah;have c6:=ag _ _ bO;obtain⟨eN,eO,eP,eQ,eR,eT⟩:=ziw ez c5.1 c5.2;dsimp only[tYes,gName];rw[if_pos rfl];refine⟨_,J,3,J,q,_,J,SqT.of ah,(show ¬(HT.sIx 5 0 none=0/\HT.sIx 5 5 (some 3)=5) by decide),λeU eV=>?_⟩;have aE:=Same.new (o:=.tup [.int r.1,.int r.2.1,.str r.2.2.1]) eV;have c7:=aE _ _ ah;refine⟨_,J,.inl ⟨J,_,SqL.of (aE _ _ c6)⟩,_,J,q,_,3,_,J,J,SqT.of c7,zal (j:=3) J,ae,_,_,eN,J,J,aE _ _ c6,J,zgu _,eP,eQ,eR,eT,?_⟩;rw[eO];refine⟨_,J,q,_,4,_,J,J,SqT.of c7,zal (j:=4) J,by show (2:Nat)<=_;omega,λeW eX=>?_⟩;have av:=Same.new (o:=.tup [.int (tauN b.length r.2.2.2.1),.int r.2.2.2.2]) eX;refine⟨eU,eW,_,_,J,J,SqT.of (av _ _ zab),SqT.of zab,(by intro bR;have:(3:Nat)=0:=congrArg List.length bR;omega),by show 3+2<=_;omega,λbR=>(by have:(2:Nat)=0:=congrArg List.length bR;omega),λ_ gu c8=>?_⟩;have aF:=Same.new (o:=.tup (stV (stM (tauN b.length) r))) c8;have S:=(aE.trans av).trans aF;have eY:=(((a6.same ag).same aE).same av).B.ne c8;exact aD rfl _ _ _ ⟨_,J⟩ S (zij zab eY eM)
   .rw[zbJ,eL,zbr (λr=>stD (stM (tauN b.length) r)) ad st0] at bQ;have aG:=a6.same ag;have eZ:a8≠z:=a6.B.ne a9;have c9:Rep z ba (.ref a8) (.lst ((ad.map (stM (tauN b.length))).map stD)):=.lst c4 eZ (by rw[List.map_map];exact bQ);have da:=ag _ _ bO;have db:Rep z ba (.ref ar) (.lst (ad.map stD)):=(eF.mono au.x).mono ag.x;have bS:=aG.rep bI aZ;refine B _ _ (zao λU B=>?_);clear bQ c4 ag a9 c1 a7 bP au bO a2 bJ;refine⟨_,J,z,92,J,aG.B,by decide,by decide,λbT gv gw dc=>?_⟩;obtain⟨G,dd⟩:∃G:Nat,(1:Int)+(bT:Int)=(G:Int):=⟨1+bT,by omega⟩;refine⟨_,_,J,J,B _ _ (zao λU B=>?_)⟩;have aw:=aG.L;have bb:=(Ge.refl aG.B aw).aft dc;refine⟨_,J,_,J,z,.ref ab,b,G,congrArg (λi=>[V.ref ab,V.int i]) dd,bb.B,bb.rep aw bS,I,λax gx av de=>B _ _ (zao λU B=>?_)⟩;refine⟨_,J,_,J,x,G,congrArg (λi=>[V.str x,V.int i]) dd,by omega,λe0 aF=>B _ _ (zao λU B=>?_)⟩;have ai:=(bb.same av).same aF;have e1:=aG.trans ai;have bc:=de.mono aF.x;have aa:=ai.rep aw bS;have df:=ai.rep aw db;have e2:=ai.rep aw c9;have dg:=ai.lst aw cZ da;have J0:=ai.L;have dh:=ai.B;have di:=(zfA I).bk;have dj:=(zet I).bk;have ay:=(zfz I (zfC G) (zbI G) (zfB G)).bk;have gy:=zaB (sgF G) x;clear bb ai de bS db c9 da dc av aF;refine⟨_,J,_,J,z,ae,.ref ab,b,J,dh,aa,I,dg,λe3 gz e4 e5=>?_⟩;have aH:=(Ge.refl dh J0).same e4;refine⟨_,J,z,e3,numB b,x,J,aH.B,e5,di,by omega,aH.L,λe6 e7 aI gA e8 bU aJ bV am dk e9=>?_⟩;have bd:=aH.butX e8 dk e9;have fa:(runF (numB b) x aI).ss=ad.map (stM (tauN b.length)):=by
     have:=(zfA I).sim.steps (x:=x) (n:=Y) (n':=aI) as (by rw[zbk];exact bV);rw[zbk,bL] at this;exact this
    rw[fa] at am;refine⟨_,J,z,z,_,.lst aJ (aH.B.ne bU) am,bd.rep J0 e2,zcI 3 _,_,J,iteF ?_⟩;refine⟨_,J,z,.ref ab,b,J,dk,bd.rep J0 aa,I,λfb gB fc fe=>?_⟩;have aK:=bd.same fc;refine⟨_,J,z,fb,turnB b,x,J,aK.B,fe,dj,by omega,aK.L,λgC gD dl gE ff fg dm fh bW fi fj=>?_⟩;have ao:=aK.butX ff fi fj;have fl:(runF (turnB b) x dl).ss=ad:=by
     have:=(zet I).sim.steps (x:=x) (n:=Y) (n':=dl) as (by rw[zbk];exact fh);rw[zbk,bL,zjZ] at this;exact this
    rw[fl] at bW;refine⟨_,J,z,z,_,.lst dm (aK.B.ne fg) bW,ao.rep J0 df,zcI 3 _,_,J,iteF (B _ _ (zao λU B=>?_))⟩;clear am bW aJ dm aH bd aK;have bX:=(zfz I (zfC G) (zbI G) (zfB G)).sim;refine⟨_,J,_,J,z,ax,sgnB (sgF G) b,mapS (sgF G) x,J,ao.B,ao.rep J0 bc,ay,by omega,ao.L,λe6 e7 aI gF fm bU aJ bV am fo fq=>?_⟩;have az:=ao.butX fm fo fq;have eS:(runF (sgnB (sgF G) b) (mapS (sgF G) x) aI).ss=ad:=by
     have:=bX.steps (x:=x) (n:=Y) (n':=aI) as bV;rw[bL,zjZ] at this;exact this
    rw[eS] at am;refine⟨_,J,z,z,_,.lst aJ (ao.B.ne bU) am,az.rep J0 df,zcI 3 _,_,J,iteF (B _ _ (zao λU B=>?_))⟩;clear am aJ ao;refine⟨_,J,_,J,z,ax,sgnB (sgF G) b,mapS (sgF G) x,J,az.B,az.rep J0 bc,ay,by omega,az.L,λdn fk bY gG fr gH be dp bZ ft fu=>?_⟩;have b0:=az.butX fr ft fu;have dq:=zgt (sgnB (sgF G) b) (mapS (sgF G) x) ay.2.2.1 ay.1 bY;rw[dp] at dq;have dr:(fkL (sgnB (sgF G) b) (mapS (sgF G) x) bY).map (·.1)=(fkL b x Y).map (·.1):=bX.forks as dp;generalize fkL (sgnB (sgF G) b) (mapS (sgF G) x) bY=bf at *;have aL:fk.length=bf.length:=by have:=bZ.length;simpa using this
    refine⟨dn,J,⟨_,SqL.of be⟩,λdt bg=>?_⟩;have b1:dn≠dt:=zae be bg;refine za9 (z:=z) (λ_=>true) (λj=>T1.D.int ((bf.getD j (0,[])).1:Nat)) (λσ=>∃u,σ=[u]) ⟨none,J⟩ bg (by omega) (zbt (xs:=fk) (by rw[zan b1];exact be) b1) (λj=>.int _) (λj σ du c2 c3 al ⟨u,aC⟩ b2 aD _=>?_) (λσ du fn b2 dv b3=>?_)
    .subst aC;have b4:j<bf.length:=by omega
     obtain⟨q,bG,e,ah⟩:=zgx (zfh (bZ.mono b2.x) b4);rw[e];dsimp only[tYes,gName];rw[if_pos rfl];exact⟨_,J,q,_,0,_,J,J,SqT.of ah,zal (j:=0) J,aD J _ _ _ ⟨_,J⟩ (Same.refl _) (.int _)⟩
    rw[zbJ,aL,zbr (λf:Nat×List Str=>T1.D.int (f.1:Nat)) bf (0,[])] at b3;have dw:Rep z du (.ref dt) (.lst (((fkL b x Y).map (·.1)).map λi=>T1.D.int (i:Nat))):=.lst dv (b0.B.ne bg) (by rw[←dr,List.map_map];exact b3);have aj:=b0.same b2;clear bZ b3 dv be b1 bg dr dq aL;refine⟨_,J,_,J,z,.ref ab,b,x,J,aj.B,aj.rep J0 aa,I,by omega,aj.L,λdy dz dA gI dB gJ bh dC bi dD dE=>?_⟩;have b5:=aj.butX dB dD dE;have dF:=(Ge.refl aj.B aj.L).butX dB dD dE;have b6:=zgt b x bH aB dA;rw[dC] at b6;have dG:fkL b x dA=fkL b x Y:=zlZ dC as;rw[dG] at bi b6;have aL:dz.length=(fkL b x Y).length:=by have:=bi.length;simpa using this
    refine⟨dy,J,⟨_,SqL.of bh⟩,λfv bj=>?_⟩;have b7:dy≠fv:=zae bh bj;generalize gK:fkL b x Y=b8 at *;refine za9 (z:=z) (λ_=>true) (λj=>T1.D.int ((b8.getD j (0,[])).1:Nat)) (λσ=>∃u,σ=[u]) ⟨none,J⟩ bj (by omega) (zbt (xs:=dz) (by rw[zan b7];exact bh) b7) (λj=>.int _) (λj σ fw c2 c3 al ⟨u,aC⟩ bk aD _=>?_) (λσ fw gL bk dH b9=>?_)
    .subst aC;have b4:j<b8.length:=by omega
     obtain⟨q,bG,e,ah⟩:=zgx (zfh (bi.mono bk.x) b4);rw[e];dsimp only[tYes,gName];rw[if_pos rfl];exact⟨_,J,q,_,0,_,J,J,SqT.of ah,zal (j:=0) J,aD J _ _ _ ⟨_,J⟩ (Same.refl _) (.int _)⟩
    rw[zbJ,aL,zbr (λf:Nat×List Str=>T1.D.int (f.1:Nat)) b8 (0,[])] at b9;have bl:=b5.same bk;have dI:=dF.same bk;refine⟨z,z,_,dI.rep aj.L dw,.lst dH (b5.B.ne bj) (by rw[List.map_map];exact b9),zgw 4 _,_,J,iteF (B _ _ (zao λU B=>?_))⟩;clear bi b9 dH bh b7 bj dw dF dI az b0 aj b5 b6 aL dG;refine⟨_,J,_,J,z,ax,sgnB (sgF G) b,mapS (sgF G) x,J,bl.B,bl.rep J0 bc,ay,by omega,λca ts fx gM fy fz aM aN=>?_⟩;have bm:=bl.same fy;obtain⟨fA,aO⟩:=zdq aN;rw[bX.free] at aO;subst aO;refine⟨ca,_,0,_,J,J,SqT.of aM,zal (j:=0) J,_,J,_,J,z,.ref ab,b,x,J,bm.B,bm.rep J0 aa,I,by omega,λcb us fB gN fC fD aP aQ=>?_⟩;have aR:=bm.same fC;obtain⟨fE,rfl⟩:=zdq aQ;refine⟨cb,_,0,_,J,J,SqT.of aP,zal (j:=0) J,J,_,J,ite2 (λg=>absurd g (by simp)) (λ_=>B _ _ (zao λU B=>?_))⟩;clear aN aQ aM aP bl bm;refine⟨_,J,_,J,z,ae,.ref ab,b,J,aR.B,aR.rep J0 aa,I,aR.lst J0 cZ dg,λfF gO fG fH=>?_⟩;have cc:=aR.same fG;refine⟨_,J,z,fF,numB b,x,J,cc.B,fH,di,by omega,λca ts fx gP fI fz aM aN=>?_⟩;have bn:=cc.same fI;obtain⟨fA,aO⟩:=zdq aN;have dJ:=(zfA I).sim.free (x:=x);rw[zbk] at dJ;rw[dJ] at aO;subst aO;refine⟨ca,_,0,_,J,J,SqT.of aM,zal (j:=0) J,_,J,_,J,z,.ref ab,b,x,J,bn.B,bn.rep J0 aa,I,by omega,λcb us fB gQ fJ fD aP aQ=>?_⟩;have dK:=bn.same fJ;obtain⟨fE,rfl⟩:=zdq aQ;refine⟨cb,_,0,_,J,J,SqT.of aP,zal (j:=0) J,J,_,J,ite2 (λg=>absurd g (by simp)) (λ_=>B _ _ ?_)⟩;clear aN aQ aM aP aR cc bn;have fK:=dK.rep J0 aa;obtain⟨fL,fM,gR,fN⟩:=zfF fK;obtain⟨c,d,ys,fO,fP,fQ,gS⟩:=zj0 fN aB;have gT:=(bH _ (zap tg0 (show 0<b.length by omega))).2.1;refine⟨_,J,ab,fL,0,_,J,J,SqT.of fM,zal (j:=0) fO,c,_,1,_,J,J,SqT.of fP,zal (j:=1) J,d,ys,J,.inr (SqT.of fQ),(ys.length:Int),J,by omega,by omega,?_⟩;refine zbW (λj σ H'=>∃ce cf cg,σ=[some (.ref a),some (.int (0+i)),some (.ref z),some (.ref ab),some (.str x),some (.ref ar),some (.ref ae),some (.ref a8),some (.int (1+(bT:Int))),some ax,some (.str (mapS (sgF G) x)),ce,cf,cg]/\Ge z tb e0 H') ⟨_,_,_,J,dK⟩ ?_ ?_
    .rintro j σ fR al ⟨ce,cf,cg,rfl,aA⟩;have al:j<(b.getD 0 tg0).2.length:=by omega
     show (tSeq _ _) _ _ _;refine zd1 λgU fS _ _ _=>zao λU B=>?_;have fT:=aA.rep J0 aa;refine⟨_,J,_,J,_,J,z,.ref ab,b,x,j,congrArg (λi=>[V.ref ab,V.int 0,V.int i,V.str x]) (Int.zero_add _),aA.B,fT,I,al,by omega,λgW fU=>B _ _ (zao λU B=>?_)⟩;have bo:=aA.same fU;have fV:=bo.rep J0 aa;obtain⟨fW,fX,gX,fY⟩:=zfF fV;obtain⟨fZ,f0,f1,f2,f3,f4,gY⟩:=zj0 fY aB;refine⟨_,J,ab,fW,0,_,J,J,SqT.of fX,zal (j:=0) f2,fZ,_,1,_,J,J,SqT.of f3,zal (j:=1) J,f0,f1,J,.inr (SqT.of f4),_,_,J,J,_,J,_,_,J,J,B _ _ (zao λU B=>?_)⟩;have f5:=zk7 I (zfC G) (zbI G) (zfB G) al x;have gZ:((sgnB (sgF G) b).getD 0 tg0).2.length=(b.getD 0 tg0).2.length:=by
      unfold sgnB;rw[za3 _ tg0 tg0 (by omega)];exact List.length_map ..
     refine⟨_,J,_,J,_,J,z,ax,sgnB (sgF G) b,mapS (sgF G) x,j,congrArg (λi=>[ax,V.int 0,V.int i,V.str (mapS (sgF G) x)]) (Int.zero_add _),bo.B,bo.rep J0 bc,ay,by omega,by omega,λg0 f6=>?_⟩;rw[f5];have ch:=bo.same f6;refine⟨_,J,zgz _ _ _,_,J,ite2 (λg=>absurd g (by simp)) (λ_=>B _ _ ?_)⟩;refine⟨_,J,z,.ref ab,b,J,ch.B,ch.rep J0 aa,I,λdL g1 f7 f8=>?_⟩;have dM:=ch.same f7;have f9:=zju I (i:=j) rfl al x;have g2:((turnB b).getD 0 tg0).2.length=(b.getD 0 tg0).2.length:=by
      unfold turnB;rw[za3 _ tg0 tg0 (by omega)];exact List.length_reverse ..
     refine⟨_,J,_,J,z,dL,turnB b,x,(b.getD 0 tg0).2.length-1-j,congrArg (λi=>[dL,V.int 0,V.int i,V.str x]) (by omega),dM.B,f8,dj,by omega,by omega,λg3 ga=>?_⟩;rw[f9];refine⟨_,J,zgz _ _ _,_,J,ite2 (λg=>absurd g (by simp)) (λ_=>fS _ _ ⟨_,_,_,J,dM.same ga⟩)⟩
    .rintro σ fR ⟨ce,cf,cg,rfl,aA⟩;refine er _ _ ⟨_,_,_,_,_,_,_,_,_,_,_,_,_,J,λb' o dN e=>?_,aA.L⟩;have ci:=cN b' o dN e;have gb:=(aq.trans e1).trans aA;exact gb.s b' o (λq=>by rw[q,et] at ci;cases ci) dN (cO b' o ci)
  .rintro σ H2 ⟨ee,bG,ef,eg,eh,ei,ej,ek,el,em,en,eo,ep,rfl,g4,g5⟩;exact B _ _ (ed _ _ (k _))
noncomputable def outB(K:W.Frag)(a:Addr):Bool:=match K.lookup a with
 |some o=>(match o.cls with|.type n=>n=="tuple"|_=>false)&&(match o.data with
  |.seq its _=>(match its.toList with|[.int i _,.str x _]=>i==0&&x==Str.ofString ""|_=>false)
  |_=>false)
 |none=>false
theorem zma{mg:Str->Option Value}{K:W.Frag}{j:Addr}(h:outB K j=true)(g:mg "OUTSIDE"=some (.ref j)):TxO mg K j:=by
 refine⟨g,?_⟩;unfold outB at h;cases e:K.lookup j with
 |none=>rw[e] at h;cases h
 |some o=>
  rw[e] at h;dsimp only at h;rw[Bool.and_eq_true] at h;obtain⟨h1,h2⟩:=h;have D:o.cls=.type "tuple":=by
   cases hk:o.cls with
   |type n=>
    rw[hk] at h1;have h1:(n=="tuple")=true:=h1;rw[eq_of_beq h1]
   |_=>rw[hk] at h1;cases h1
  cases hd:o.data with
  |seq its n=>
   rw[hd] at h2;dsimp only at h2;refine⟨o,its,n,J,D,hd,?_⟩;split at h2
   .rename_i i F x G B;rw[Bool.and_eq_true] at h2;have I:i=0:=eq_of_beq h2.1;have J0:x=Str.ofString "":=eq_of_beq h2.2;subst I J0;have hsz:its.size=2:=by
     have:=congrArg List.length B;simpa using this
    refine⟨by rw[hsz,sizeLine_eq];decide,?_⟩;rw[B];exact .cons ⟨F,J⟩ (.cons ⟨G,J⟩ .nil)
   .cases h2
  |_=>rw[hd] at h2;cases h2
end T1
namespace L2
open PySem PySem.Spec PyProof.Rows
theorem law_callT{P:Program}{w:World}{K:W.Frag}{mg ac:Str->Option Value}{CX:CXT}{k:Nat}{ad a c tb:Addr}{fd:FuncData}{x:Str}{sp:Sp}{j:Shared}{vs:List Value}{O:List Int}(ae:K.In j.heap)(af:j.heap.Ns mainGlobals mg)(B:j.heap.Ns builtinsNs ac)(aw:∀x:Str,x≠"__name__"->ac x=bootBuiltins x)(ax:j.heap.NoLimit)(ay:j.gens=#[])(az:∃U ob,mg "__builtins__"=some (.ref U)/\U≠builtinsNs/\j.heap.get? U=some ob/\ob.cls=.type "module"/\ob.dict=some builtinsNs/\ob.data=.plain)(aA:W.codeHdIn K c tb=true)(G:j.heap.get? tb=some (W.tabObj #[]))(aj:K.lookup tb=none)(I:j.heap.get? a=some { cls:=.type "list",data:=.seq vs.toArray })(hi:IntsAre vs O)(ak:O.length<=sizeLine)(aB:Room k callerA)(F:∀base:Heap,K.In base->base.Ns mainGlobals mg->base.BuiltinsAt mg tb->FnOk P w K mg base CX k ad fd [x] sp)(aC:∀(s:Shared) (u:Value),BindsTo s fd ⟨[u],[]⟩ [(x,u)])(aD:∀H:Hp,H tb=some (.tbl #[])->SqL K H a (O.map V.int)->sp [.ref a] H (λv _=>v=.bl true) λ_ _ _=>False)(aE:∀H e s',CX [] H j (λ_ _ _=>False) e s'->False) :
  codeAny (model P w) callerA (.call (.ref ad) ⟨[.ref a],[]⟩) (λr s'=>r=.ok (.ret (.bool true))/\OldK j.heap s'.heap/\s'.os=j.os/\AllBare s'.gens) j:=by
 have al:=zeN hi;have aF:=hi.length;have aG:a≠tb:=λz=>by
  rw[z,G] at I;cases I
 have am:∀H:Hp,H tb=some (.tbl #[])->(∀b,b≠tb->H b=none∨∃o xs,H b=some (.frz o (.lst xs)))->SqL K H a (O.map V.int)->HOk P w H j.heap->(∀b,H b≠none->b=a∨b=tb)->(∀b,H b≠none->K.lookup b=none) ->
   codeAny (model P w) callerA (.call (.ref ad) ⟨[.ref a],[]⟩) (λr s'=>r=.ok (.ret (.bool true))/\OldK j.heap s'.heap/\s'.os=j.os/\AllBare s'.gens) j:=by
  intro H ao aH aI ap aq aJ;have ag:∀ {b:Addr} {o:Obj},j.heap.get? b=some o->H b=none->(hidT j.heap H).get? b=some o:=λe n=>ziA e n;have aK:∀ {b:Addr} {o:Obj},j.heap.get? b=some o->(o.cls=.type "list"->False)->(o.cls=.none->False)->H b=none:=λ{b o} e aL aM=>by
   cases q:H b with
   |none=>rfl
   |some u=>
    rcases aq b (by rw[q];simp) with e'|e'
    .subst e';rw[I] at e;cases e;exact(aL J).elim
    .subst e';rw[G] at e;cases e;exact(aM J).elim
  have aN:∀ {b:Addr} {o:Obj} {es:Array DictEntry} {ep:Nat},j.heap.get? b=some o->o.data=.dict es ep->H b=none:=λ{b o es ep} e d=>by
   cases q:H b with
   |none=>rfl
   |some u=>
    rcases aq b (by rw[q];simp) with e'|e'
    .subst e';rw[I] at e;cases e;have d':Data.seq vs.toArray _=Data.dict es ep:=d;cases d'
    .subst e';rw[G] at e;cases e;have d':Data.fields #[]=Data.dict es ep:=d;cases d'
  have Y:∀ {b:Addr} {m:Str->Option Value},j.heap.Ns b m->(hidT j.heap H).Ns b m:=λ{b m} ⟨o,es,ep,e,d,r⟩=>⟨o,es,ep,ag e (aN e d),d,r⟩;have ar:K.In (hidT j.heap H):=λb o e=>ag (ae b o e) (by
   cases q:H b with
   |none=>rfl
   |some u=>rw[aJ b (by rw[q];simp)] at e;cases e)
  have aO:Mod K mg (hidT j.heap H):=⟨ar,Y af,⟨ac,Y B,aw⟩,let ⟨aP,h1,h2⟩:=ax;⟨aP,Y h1,h2⟩⟩;have aQ:(hidT j.heap H).BuiltinsAt mg tb:=by
   obtain⟨U,ob,aR,aS,J0,Z,aT,ah⟩:=az;refine⟨U,ob,aR,aS,λq=>?_,λq=>?_,ag J0 (aK J0 (λq=>by rw[Z] at q;injection q with q;exact absurd q (by decide)) (λq=>by rw[Z] at q;cases q)),Z,aT,ah⟩
   .obtain⟨o,es,ep,e,aU,_⟩:=af;rw[q,e] at J0;cases J0;rw[aU] at ah;cases ah
   .rw[q,G] at J0;cases J0;cases Z
  have aV:Env0 P w K mg (hidT j.heap H) callerA [] j H:=⟨J,aO,λb o e=>zj1 e,Nat.le_of_eq (zgZ _ _),trivial,λb B=>absurd (show b∈([]:List Addr) from B) (by simp),ap,.of_eq ay⟩;refine codeAny_mono ((F _ ar (Y af) aQ).run callerA [] j H ⟨[.ref a],[]⟩ [.ref a] [.ref a] _ _ aB aV (aC j (.ref a)) (.cons rfl .nil) (aD H ao aI)) λr s' h=>?_;cases r with
  |error e=>exact(aE H e s' h).elim
  |ok aW=>
   cases aW with
   |next=>exact False.elim h
   |brk=>exact False.elim h
   |cont=>exact False.elim h
   |ret u=>
    obtain⟨v,H',os,aX,aa,as,aY,q⟩:=h;have aZ:v=.bl true:=q;subst aZ;obtain rfl:u=Value.bool true:=aY;refine⟨J,⟨λb o e=>?_,λb o e=>aa.there b o e (by simp)⟩,os,aX⟩;by_cases au:b=tb
    .subst au;rw[G] at e;cases e;obtain⟨av,ab⟩:=aa.tbls b _ ao;have ai:s'.heap.get? b=some { cls:=.none,data:=.fields (#[]++av) }:=as b _ ab;have TA:=(W.codeHd_of_K ae aA).tab G;exact .inr (.inl ⟨TA.isCodeTable,J,#[],av,J,ai⟩)
    .refine .inl ?_;cases q:H b with
     |none=>exact aa.keep b o e q (by intro z;exact absurd (show b∈([]:List Addr) from z) (by simp)) (by simp)
     |some u=>
      rcases aH b au with z|⟨ob,xs,z⟩
      .rw[q] at z;cases z
      .have a1:=aa.frzs b ob _ z;obtain⟨ab,_⟩:=ap b _ z;obtain⟨ai,_⟩:=as b _ a1;rw[e] at ab;cases ab;exact ai
 cases hk:K.lookup a with
 |some o=>
  have e:=ae a o hk;rw[I] at e;cases e;refine am (λb=>if b=tb then some (.tbl #[]) else none) (if_pos J) (λb B=>.inl (if_neg B)) (.inr ⟨_,vs.toArray,_,hk,J,J,J,by rw[List.size_toArray,aF];exact ak,by simpa using al⟩) (λb u z=>?_) (λb z=>?_) λb z=>?_
  .by_cases B:b=tb
   .have z':=(if_pos B).symm.trans z;cases z';subst B;exact G
   .have z':=(if_neg B).symm.trans z;cases z'
  .by_cases B:b=tb
   .exact .inr B
   .exact absurd (if_neg B) z
  .by_cases B:b=tb
   .rw[B];exact aj
   .exact absurd (if_neg B) z
 |none=>
  refine am (λb=>if b=tb then some (.tbl #[]) else if b=a then some (.frz { cls:=.type "list",data:=.seq vs.toArray } (.lst (O.map V.int))) else none) (if_pos J) (λb B=>?_) (.inl (.inr ⟨{ cls:=.type "list",data:=.seq vs.toArray },(if_neg aG).trans (if_pos J)⟩)) (λb u z=>?_) (λb z=>?_) λb z=>?_
  .by_cases D:b=a
   .exact .inr ⟨_,_,(if_neg B).trans (if_pos D)⟩
   .exact .inl ((if_neg B).trans (if_neg D))
  .by_cases B:b=tb
   .have z':=(if_pos B).symm.trans z;cases z';subst B;exact G
   .by_cases D:b=a
    .have z':=((if_neg B).trans (if_pos D)).symm.trans z;cases z';subst D;exact⟨I,by rw[List.length_map];exact ak,vs,_,al,I⟩
    .have z':=((if_neg B).trans (if_neg D)).symm.trans z;cases z'
  .by_cases B:b=tb
   .exact .inr B
   .by_cases D:b=a
    .exact .inl D
    .exact absurd ((if_neg B).trans (if_neg D)) z
  .by_cases B:b=tb
   .rw[B];exact aj
   .by_cases D:b=a
    .rw[D];exact hk
    .exact absurd ((if_neg B).trans (if_neg D)) z
theorem walk_ofT{l:W.OpenLaw}{n k:Nat}{q:Program}{O:List Str}{XP:(Str->Option Value)->Heap->Prop}{G:World->Heap->Prop}{d:DefRec}{K:Params->W.Frag}{CX:World->CXT}{sp:World->Sp}{x:Str}{tb:Addr}(U:l.most=some n)(Y:n<=sizeLine)(Z:d.params.defaults=[])(aa:Room k callerA)(ab:∀(w:World) (h:Heap),G w h->(K w.params).In h/\h.get? tb=some (W.tabObj #[]))(F:∀(w:World) (mg:Str->Option Value) (B:Addr) (h:Heap),(K w.params).In h->h.Ns mainGlobals mg->mg d.name=some (.ref B) ->
   ∃(fd:FuncData) (c:Addr),W.codeHdIn (K w.params) c tb=true/\(K w.params).lookup tb=none/\(∀(s:Shared) (u:Value),BindsTo s fd ⟨[u],[]⟩ [(x,u)]) /\
    ∀base:Heap,(K w.params).In base->base.Ns mainGlobals mg->base.BuiltinsAt mg tb->FnOk l.prog w (K w.params) mg base (CX w) k B fd [x] (sp w))(ac:∀(w:World) (H:Hp) (a:Addr) (D:List Int),D.length<=n->H tb=some (.tbl #[])->SqL (K w.params) H a (D.map V.int)->sp w [.ref a] H (λv _=>v=.bl true) λ_ _ _=>False)(ad:∀(w:World) (H:Hp) (s:Shared) (e:Value) (s':Shared),CX w [] H s (λ_ _ _=>False) e s'->False) :
  W.WalkO q O XP G l.row.toRowW d [] (λf vs=>PySem.call f vs):=by
 refine Att.attach_call U Z λw s₀ ae mg as B o pm cd doc a vs D j af au av aw ag ah ai I aj=>?_;obtain⟨J0,ak⟩:=ab w _ af;obtain⟨fd,c,al,am,ao,ap⟩:=F w mg B _ J0 j.T.g ag;exact law_callT J0 j.T.g j.T.b j.T.builtins j.T.nolimit aj j.T.bmain al ak am ah ai (Nat.le_trans I Y) aa ap ao (λH aq ar=>ac w H a D I aq ar) λH e s'=>ad w H ae e s'
end L2
namespace T1
open PySem L2
structure FK(K:W.Frag)(n:Str)(st:Stmt)(f:Addr)(fd:FuncData):Prop where
 a:W.nsIn K mainGlobals n=some (some (.ref f))
 F:Fun K n n st f fd
section
variable {K:W.Frag}{n q x:Str}{st:Stmt}{f C:Addr}{fd:FuncData}{oc kV doc pm cdv ct:Value}{od an:Option Addr}{osl:Array (Option Value)}
theorem fk(a:W.nsIn K mainGlobals n=some (some (.ref f)))(l:K.lookup f=some ⟨oc,od,.func (W.fnOf n n (zbX st) (zbn st) (zah st) .none kV doc pm an cdv ct),osl⟩)(c:W.codeIn K cdv n=true)(k:W.keepIn K (.ref f)=true) :
  FK K n st f (W.fnOf n n (zbX st) (zbn st) (zah st) .none kV doc pm an cdv ct):=⟨a,zjI l c k⟩
theorem FK.m{h:Heap}{mg:Str->Option Value}(A:FK K n st f fd)(X:K.In h)(j:h.Ns mainGlobals mg):mg n=some (.ref f):=W.mg_of X j A.a
theorem FK.law{h:Heap}{mg:Str->Option Value}(A:FK K n st f fd)(X:K.In h)(j:h.Ns mainGlobals mg){g:Addr}(e:mg n=some (.ref g)):g=f:=by
 have:=e.symm.trans (A.m X j);injection this with this;injection this
noncomputable abbrev fo(x q:Str)(st:Stmt)(kV doc pm:Value)(an:Option Addr)(cdv ct:Value):FuncData:=W.fnOf x q (zbX st) (zbn st) (zah st) .none kV doc pm an cdv ct
theorem bn1{p:Str}(F:Fun K x q st f fd)(h:∀kV doc pm an cdv ct a,bindArgs (fo x q st kV doc pm an cdv ct) ⟨[a],[]⟩=pure [(p,a)]):Binds K fd [p] []:=
 F.binds λ_ _ _ _ _ _ us j=>bd1 (f:=λus=>bindArgs _ ⟨us,[]⟩) (g:=λus=>pure (List.zip _ us)) (h _ _ _ _ _ _) us j
theorem bn2{p p2:Str}(F:Fun K x q st f fd)(h:∀kV doc pm an cdv ct a b,bindArgs (fo x q st kV doc pm an cdv ct) ⟨[a,b],[]⟩=pure [(p,a),(p2,b)]):Binds K fd [p,p2] []:=
 F.binds λ_ _ _ _ _ _ us j=>bd2 (f:=λus=>bindArgs _ ⟨us,[]⟩) (g:=λus=>pure (List.zip _ us)) (h _ _ _ _ _ _) us j
theorem bn3{p p2 p3:Str}(F:Fun K x q st f fd)(h:∀kV doc pm an cdv ct a b c,bindArgs (fo x q st kV doc pm an cdv ct) ⟨[a,b,c],[]⟩=pure [(p,a),(p2,b),(p3,c)]):Binds K fd [p,p2,p3] []:=
 F.binds λ_ _ _ _ _ _ us j=>bd3 (f:=λus=>bindArgs _ ⟨us,[]⟩) (g:=λus=>pure (List.zip _ us)) (h _ _ _ _ _ _) us j
theorem bn4{p p2 p3 p4:Str}(F:Fun K x q st f fd)(h:∀kV doc pm an cdv ct a b c d,bindArgs (fo x q st kV doc pm an cdv ct) ⟨[a,b,c,d],[]⟩=pure [(p,a),(p2,b),(p3,c),(p4,d)]):Binds K fd [p,p2,p3,p4] []:=
 F.binds λ_ _ _ _ _ _ us j=>bd4 (f:=λus=>bindArgs _ ⟨us,[]⟩) (g:=λus=>pure (List.zip _ us)) (h _ _ _ _ _ _) us j
theorem bn5{p p2 p3 p4 p5:Str}(F:Fun K x q st f fd)(h:∀kV doc pm an cdv ct a b c d e,bindArgs (fo x q st kV doc pm an cdv ct) ⟨[a,b,c,d,e],[]⟩=pure [(p,a),(p2,b),(p3,c),(p4,d),(p5,e)]):Binds K fd [p,p2,p3,p4,p5] []:=
 F.binds λ_ _ _ _ _ _ us j=>bd5 (f:=λus=>bindArgs _ ⟨us,[]⟩) (g:=λus=>pure (List.zip _ us)) (h _ _ _ _ _ _) us j
theorem bnl(F:Fun K x q st f fd)(h:∀kV doc pm an cdv ct (s:Shared) (v:Value),BindsTo s (fo x q st kV doc pm an cdv ct) ⟨[v],[]⟩ [("script",v)]):∀(s:Shared) (v:Value),BindsTo s fd ⟨[v],[]⟩ [("script",v)]:=by
 obtain⟨oc,od,kV,doc,pm,an,cdv,ct,osl,rfl,j,B⟩:=F.ex;exact h _ _ _ _ _ _
end
/-! ### what the top has written,and the law's own head -/
theorem all_mk{l:W.OpenLaw}{w:World}{K:W.Frag}{h:Heap}{mg:Str->Option Value}{fa cc  f1 f2 f3 f4 f5 f6 f7 f8 f9 f10 f11 f12 f13 f14 f15 f16 f17 f18 f19 f20 f21 f22 f23 f24 f25 f26 f27 f28 f29 f30 f31 f32 f33 f34 y1 y2 aO:Addr}{aY aZ a1 a2 a3 a4 a5 a6 a7 a8 a9 ba bb bc bd be bf bg bh bi bj bk bl bm bn bo bp bq br bs bt bu bv:FuncData}{od an:Option Addr}{bw:Array (Option Value)}{oc kV bx pm ct:Value}(X:K.In h)(j:h.Ns mainGlobals mg)(bz:mg "law"=some (.ref fa))(F:FK K "tongue_within" zft f1 aY)(J0:FK K "possible_marks" sPoss f2 aZ)(B:FK K "fitting_marks" zdg f3 a1)(G:FK K "take_mark" zhV f4 a2)(I:FK K "read_plain" zfu f5 a3)(bA:W.nsIn K mainGlobals "read_step"=some (some (.ref f6)))(bB:K.lookup f6=some ⟨oc,od,.func (W.fnOf "read_step" "read_step" (zbX sStep) (zbn sStep) (zah sStep) .none kV bx pm an (.ref cc) ct),bw⟩)(bC:W.codeIn K (.ref cc) "read_step"=true)(aC:W.keepIn K (.ref f6)=true)(Y:FK K "read_on" sOn f7 a4)(Z:FK K "steps" zhW f8 a5)(aa:FK K "forks" zf7 f9 a6)(ab:FK K "rooms_of" zdh f10 a7)(ac:FK K "ends_from" zbF f11 a8)(ad:FK K "all_ends" zdi f12 a9)(O:FK K "can_be_whole" zbM f13 ba)(ae:FK K "is_hopeful" zcT f14 bb)(af:FK K "whole_reading" zbl f15 bc)(ag:FK K "free_readings" zbN f16 bd)(ah:FK K "is_number_below" zbx f17 be)(ai:FK K "room_behind" zcr f18 bf)(aj:FK K "could_fit" zcB f19 bg)(ak:FK K "put_in" zf8 f20 bh)(al:FK K "fewest_escapes" zby f21 bi)(am:FK K "_law_bag" lBag f22 bj)(D:FK K "_law_take" lTake f23 bk)(ao:FK K "_law_mark" lMk f24 bl)(ap:FK K "_law_fits_book" lFits f25 bm)(aq:FK K "_law_book" lBook f26 bn)(ar:FK K "_law_marks" zhX f27 bo)(as:FK K "_law_text" lText f28 bp)(au:FK K "_law_numbered" zcC f29 bq)(av:FK K "_law_doors_turned" zbu f30 br)(U:FK K "_law_signs" zhY f31 bs)(aw:FK K "_law_book_signs" zcc f32 bt)(ax:FK K "_law_fewest" zfv f33 bu)(aD:FK K "law" lLaw f34 bv)(aL:W.codeHdIn K cc 49=true)(bD:K.lookup 49=none)(bE:W.nsIn K mainGlobals "len"=some none)(bF:W.nsIn K mainGlobals "ord"=some none)(bG:W.nsIn K mainGlobals "all"=some none)(bH:W.nsIn K mainGlobals "any"=some none)(bI:W.nsIn K mainGlobals "isinstance"=some none)(bJ:W.nsIn K mainGlobals "str"=some none)(bK:W.nsIn K mainGlobals "int"=some none)(bL:W.nsIn K mainGlobals "bool"=some none)(bM:W.nsIn K mainGlobals "tuple"=some none)(bN:W.nsIn K mainGlobals "range"=some none)(bO:W.nsIn K mainGlobals "sorted"=some none)(bP:W.nsIn K mainGlobals "max"=some none)(bQ:W.nsIn K mainGlobals "list"=some none)(bR:W.nsIn K mainGlobals "set"=some none)(bS:W.nsIn K mainGlobals "min"=some none)(bT:W.nsIn K mainGlobals "reversed"=some none)(bU:W.nsIn K mainGlobals "NoDoor"=some (some (.ref y1)))(bV:W.nsIn K mainGlobals "NoWay"=some (some (.ref y2)))(bW:W.excIn K y1 bmVE "ValueError.__new__"=true)(bX:W.excIn K y2 bmVE "ValueError.__new__"=true)(bY:W.exmOne K (.ref y2) (.ref y2)=some true)(bZ:W.nsIn K mainGlobals "OUTSIDE"=some (some (.ref aO)))(b0:outB K aO=true) :
  ∃(fd:FuncData) (c:Addr),W.codeHdIn K c 49=true/\K.lookup 49=none/\(∀(s:Shared) (v:Value),BindsTo s fd ⟨[v],[]⟩ [("script",v)])/\∀base:Heap,K.In base->base.Ns mainGlobals mg->base.BuiltinsAt mg 49->FnOk l.prog w K mg base CX0 7 fa fd ["script"] (zeB K 49):=by
 have e:=aD.law X j bz;subst e;have T:TxtB mg:=⟨W.mg_none_of X j bE,W.mg_none_of X j bF,W.mg_none_of X j bG,W.mg_none_of X j bH,W.mg_none_of X j bI,W.mg_none_of X j bJ,W.mg_none_of X j bK,W.mg_none_of X j bL,W.mg_none_of X j bM,W.mg_none_of X j bN,W.mg_none_of X j bO,W.mg_none_of X j bP⟩;have V:Txt2 mg:=⟨W.mg_none_of X j bQ,W.mg_none_of X j bR,W.mg_none_of X j bS⟩;have aE:=W.mg_none_of X j bT;have aF:=bn1 (p:="doors") F.F λ_ _ _ _ _ _ _=>rfl;have aM:=bn2 (p:="book") (p2:="doors") J0.F λ_ _ _ _ _ _ _ _=>rfl;have ay:=bn4 (p:="book") (p2:="text") (p3:="place") (p4:="doors") B.F λ_ _ _ _ _ _ _ _ _ _=>rfl;have aG:=bn4 (p:="mark") (p2:="door") (p3:="place") (p4:="doors") G.F λ_ _ _ _ _ _ _ _ _ _=>rfl;have aH:=bn4 (p:="book") (p2:="text") (p3:="place") (p4:="doors") I.F λ_ _ _ _ _ _ _ _ _ _=>rfl;have aN:=zjI (st:=sStep) bB bC aC;have aP:=W.mg_of X j bA;have aQ:=bn4 (p:="book") (p2:="text") (p3:="place") (p4:="doors") aN λ_ _ _ _ _ _ _ _ _ _=>rfl;have b1:=bn3 (p:="book") (p2:="text") (p3:="doors") Y.F λ_ _ _ _ _ _ _ _ _=>rfl;have b2:=bn2 (p:="book") (p2:="text") Z.F λ_ _ _ _ _ _ _ _=>rfl;have b3:=bn2 (p:="book") (p2:="text") aa.F λ_ _ _ _ _ _ _ _=>rfl;have b4:=bn1 (p:="book") ab.F λ_ _ _ _ _ _ _=>rfl;have b5:=bn5 (p:="book") (p2:="text") (p3:="place") (p4:="room") (p5:="ends") ac.F λ_ _ _ _ _ _ _ _ _ _ _=>rfl;have b6:=bn2 (p:="book") (p2:="text") ad.F λ_ _ _ _ _ _ _ _=>rfl;have aR:=bn3 (p:="place") (p2:="doors") (p3:="ends") O.F λ_ _ _ _ _ _ _ _ _=>rfl;have b7:=bn5 (p:="mark") (p2:="door") (p3:="place") (p4:="doors") (p5:="ends") ae.F λ_ _ _ _ _ _ _ _ _ _ _=>rfl;have b8:=bn4 (p:="book") (p2:="text") (p3:="ends") (p4:="turn") af.F λ_ _ _ _ _ _ _ _ _ _=>rfl;have b9:=bn2 (p:="book") (p2:="text") ag.F λ_ _ _ _ _ _ _ _=>rfl;have ca:=bn2 (p:="thing") (p2:="bound") ah.F λ_ _ _ _ _ _ _ _=>rfl;have cb:=bn3 (p:="book") (p2:="tongue") (p3:="number") ai.F λ_ _ _ _ _ _ _ _ _=>rfl;have ce:=bn2 (p:="marks") (p2:="rest") aj.F λ_ _ _ _ _ _ _ _=>rfl;have cf:=bn4 (p:="book") (p2:="tongue") (p3:="number") (p4:="text") ak.F λ_ _ _ _ _ _ _ _ _ _=>rfl;have cg:=bn4 (p:="book") (p2:="tongue") (p3:="number") (p4:="text") al.F λ_ _ _ _ _ _ _ _ _ _=>rfl;have ch:=bn2 (p:="script") (p2:="k") am.F λ_ _ _ _ _ _ _ _=>rfl;have az:=bn2 (p:="bag") (p2:="many") D.F λ_ _ _ _ _ _ _ _=>rfl;have ci:=bn2 (p:="bag") (p2:="signs") ao.F λ_ _ _ _ _ _ _ _=>rfl;have cj:=bn1 (p:="book") ap.F λ_ _ _ _ _ _ _=>rfl;have ck:=bn1 (p:="bag") aq.F λ_ _ _ _ _ _ _=>rfl;have cm:=bn1 (p:="book") ar.F λ_ _ _ _ _ _ _=>rfl;have cn:=bn3 (p:="bag") (p2:="book") (p3:="most") as.F λ_ _ _ _ _ _ _ _ _=>rfl;have co:=bn2 (p:="book") (p2:="order") au.F λ_ _ _ _ _ _ _ _=>rfl;have cp:=bn1 (p:="book") av.F λ_ _ _ _ _ _ _=>rfl;have aS:=bn2 (p:="text") (p2:="by") U.F λ_ _ _ _ _ _ _ _=>rfl;have cq:=bn2 (p:="book") (p2:="by") aw.F λ_ _ _ _ _ _ _ _=>rfl;have cr:=bn4 (p:="book") (p2:="tongue") (p3:="number") (p4:="text") ax.F λ_ _ _ _ _ _ _ _ _ _=>rfl;refine⟨_,cc,aL,bD,bnl aD.F λ_ _ _ _ _ _ s v=>.of_eq J,λbase _ _ cs=>?_⟩;have aI:FnOk l.prog w K mg base CX0 1 f1 _ ["doors"] zce:=zh4 F.F ;have aT:FnOk l.prog w K mg base CX0 2 f2 _ ["book","doors"] ze2:=zkG J0.F F.F.kp aF (F.m X j) aI;have aA:FnOk l.prog w K mg base CX0 3 f3 _ ["book","text","place","doors"] zdH:=zkH B.F J0.F.kp aM (J0.m X j) aT;have aJ:FnOk l.prog w K mg base CX0 2 f4 _ ["mark","door","place","doors"] zcV:=zjc G.F T F.F.kp aF (F.m X j) aI;have aK:FnOk l.prog w K mg base CX0 2 f5 _ ["book","text","place","doors"] zcf:=zh6 I.F T F.F.kp aF (F.m X j) aI;have aU:FnOk l.prog w K mg base CX0 4 f6 _ ["book","text","place","doors"] (zdL 49):=zjh aN rfl aL cs T T.max B.F.kp ay (B.m X j) aA I.F.kp aH (I.m X j) aK G.F.kp aG (G.m X j) aJ;have cu:FnOk l.prog w K mg base CX0 5 f7 _ ["book","text","doors"] (spOn 49):=zmp Y.F T aC aQ aP aU;have cv:FnOk l.prog w K mg base CX0 6 f8 _ ["book","text"] (zds 49):=ziy Z.F Y.F.kp b1 (Y.m X j) cu;have cw:FnOk l.prog w K mg base CX0 5 f9 _ ["book","text"] (zez 49):=zjt aa.F T B.F.kp ay (B.m X j) aA aC aQ aP aU;have TO:=zma b0 (W.mg_of X j bZ);have cx:FnOk l.prog w K mg base CX0 1 f10 _ ["book"] (zeu K):=zjl ab.F TO ;have cy:FnOk l.prog w K mg base CX0 4 f11 _ ["book","text","place","room","ends"] (zgn l.prog w K):=zkT ac.F TO T B.F.kp ay (B.m X j) aA I.F.kp aH (I.m X j) aK;have cz:FnOk l.prog w K mg base CX0 5 f12 _ ["book","text"] (zcH l.prog w K):=zgT ad.F T aE ab.F.kp b4 (ab.m X j) cx ac.F.kp b5 (ac.m X j) cy;have aV:FnOk l.prog w K mg base CX0 1 f13 _ ["place","doors","ends"] (spCan l.prog w K):=zlU O.F TO T V aE ;have cA:FnOk l.prog w K mg base CX0 3 f14 _ ["mark","door","place","doors","ends"] (spHop l.prog w K):=zlV ae.F T V G.F.kp aG (G.m X j) aJ O.F.kp aR (O.m X j) aV;have cB:FnOk l.prog w K mg base CX0 4 f15 _ ["book","text","ends","turn"] (zev l.prog w K):=zjo af.F T B.F.kp ay (B.m X j) aA I.F.kp aH (I.m X j) aK G.F.kp aG (G.m X j) aJ ae.F.kp b7 (ae.m X j) cA;have cC:FnOk l.prog w K mg base CX0 6 f16 _ ["book","text"] zgp:=zkZ ag.F ad.F.kp b6 (ad.m X j) cz O.F.kp aR (O.m X j) aV af.F.kp b8 (af.m X j) cB;have cD:FnOk l.prog w K mg base CX0 1 f17 _ ["thing","bound"] zgq:=zk0 ah.F T ;have cE:=W.mg_of X j bU;have aW:=W.mg_of X j bV;have cF:FnOk l.prog w K mg base (CXE l.prog w) 2 f18 _ ["book","tongue","number"] (zgr y1):=zk1 ai.F T bW cE ah.F.kp ca (ah.m X j) cD;have cG:FnOk l.prog w K mg base CX0 1 f19 _ ["marks","rest"] zew:=zjq aj.F T ;have cH:FnOk l.prog w K mg base (CXE l.prog w) 3 f20 _ ["book","tongue","number","text"] (spPut y2):=zlX ak.F T aE bX aW ai.F.kp cb (ai.m X j) cF J0.F.kp aM (J0.m X j) aT aj.F.kp ce (aj.m X j) cG;have cI:FnOk l.prog w K mg base (CXE l.prog w) 4 f21 _ ["book","tongue","number","text"] (spFew y2):=zlY al.F T ak.F.kp cf (ak.m X j) cH;have cJ:FnOk l.prog w K mg base CX0 1 f22 _ ["script","k"] (spBag K):=zlM am.F T ;have aB:FnOk l.prog w K mg base CX0 1 f23 _ ["bag","many"] zdF:=zkC D.F ;have cK:FnOk l.prog w K mg base CX0 2 f24 _ ["bag","signs"] spMk:=zml ao.F T D.F.kp az (D.m X j) aB;have cL:FnOk l.prog w K mg base CX0 1 f25 _ ["book"] zf3:=zkD ap.F T V ;have cM:FnOk l.prog w K mg base CX0 3 f26 _ ["bag"] zf6:=zja aq.F T V D.F.kp az (D.m X j) aB ao.F.kp ci (ao.m X j) cK ap.F.kp cj (ap.m X j) cL;have cN:FnOk l.prog w K mg base CX0 1 f27 _ ["book"] zdj:=zhZ ar.F ;have cO:FnOk l.prog w K mg base CX0 2 f28 _ ["bag","book","most"] zf9:=zkF as.F T D.F.kp az (D.m X j) aB ar.F.kp cm (ar.m X j) cN;have cP:FnOk l.prog w K mg base CX0 1 f29 _ ["book","order"] spNmb:=zl6 au.F T ;have cQ:FnOk l.prog w K mg base CX0 1 f30 _ ["book"] zdr:=zix av.F T ;have aX:FnOk l.prog w K mg base CX0 1 f31 _ ["text","by"] zdS:=zjw U.F T ;have cR:FnOk l.prog w K mg base CX0 2 f32 _ ["book","by"] spBkS:=zl4 aw.F T U.F.kp aS (U.m X j) aX;have cS:FnOk l.prog w K mg base CX0 5 f33 _ ["book","tongue","number","text"] zgv:=zk9 ax.F aW bY al.F.kp cg (al.m X j) cI;exact zjA aD.F T V am.F.kp ch (am.m X j) cJ aq.F.kp ck (aq.m X j) cM as.F.kp cn (as.m X j) cO D.F.kp az (D.m X j) aB Z.F.kp b2 (Z.m X j) cv aw.F.kp cq (aw.m X j) cR U.F.kp aS (U.m X j) aX au.F.kp co (au.m X j) cP av.F.kp cp (av.m X j) cQ aa.F.kp b3 (aa.m X j) cw ag.F.kp b9 (ag.m X j) cC ax.F.kp cr (ax.m X j) cS
theorem walk{l:W.OpenLaw}{q:Program}{D:List Str}{XP:(Str->Option Value)->Heap->Prop}{j:World->Heap->Prop}{d:DefRec}{K:Params->W.Frag}(G:l.most=some 63)(I:d.params.defaults=[])(J0:∀(w:World) (h:Heap),j w h->(K w.params).In h/\h.get? 49=some (W.tabObj #[]))(F:∀(w:World) (mg:Str->Option Value) (B:Addr) (h:Heap),(K w.params).In h->h.Ns mainGlobals mg->mg d.name=some (.ref B) ->
   ∃(fd:FuncData) (c:Addr),W.codeHdIn (K w.params) c 49=true/\(K w.params).lookup 49=none/\(∀(s:Shared) (u:Value),BindsTo s fd ⟨[u],[]⟩ [("script",u)])/\∀base:Heap,(K w.params).In base->base.Ns mainGlobals mg->base.BuiltinsAt mg 49->FnOk l.prog w (K w.params) mg base CX0 7 B fd ["script"] (zeB (K w.params) 49)) :
  W.WalkO q D XP j l.row.toRowW d [] (λf vs=>PySem.call f vs):=
 L2.walk_ofT (n:=63) (k:=7) (x:="script") (tb:=49) (CX:=λ_=>CX0) (sp:=λw=>zeB (K w.params) 49) G (by decide) I ⟨J,by decide,by decide⟩ J0 F (λ_ _ a O Y U V=>⟨a,O,J,V,.inl U,λ_=>rfl⟩) λ_ _ _ _ _ z=>z
end T1
open PySem PySem.W PyProof.Rows
local macro_rules|`(tactic| walk_at "own def")=>`(tactic| (refine' T1.fk ?k1 ?k2 ?k3 ?k4;(case k1=>k_is);(case k2=>k_is);(case k3=>k_is);(case k4=>k_is)))
local macro_rules|`(tactic| walk_at "own method")=>`(tactic| (refine' T1.mkm ?k1 ?k2 ?k3 ?k4 ?k5;(case k1=>k_is);(case k2=>k_is);(case k3=>k_is);(case k4=>k_is);(case k5=>k_is)))
def PySem.W.Fast.tw14614436686762332518 : Nat := 0
def PySem.W.Fast.tw10484655328070896320 : Nat := 0
def PySem.W.Fast.tw17473097470284156160 : Nat := 0
def PySem.W.Fast.tw5372809884875256650 : Nat := 0
def PySem.W.Fast.tw6400500187230979259 : Nat := 0
def PySem.W.Fast.tw13948305478533660721 : Nat := 0
def PySem.W.Fast.tw5948010166085571652 : Nat := 0
def PySem.W.Fast.tw5617530966383603750 : Nat := 0
def PySem.W.Fast.tw6196239686955431033 : Nat := 0
def PySem.W.Fast.tw6707852383570533678 : Nat := 0
def PySem.W.Fast.tw12412937561335779278 : Nat := 0
def PySem.W.Fast.tw15063973115116917710 : Nat := 0
def PySem.W.Fast.tw7431130909013671397 : Nat := 0
def PySem.W.Fast.tw8260187195754936585 : Nat := 0
def PySem.W.Fast.tw18370105607063414294 : Nat := 0
def PySem.W.Fast.tw7684881754111025381 : Nat := 0
def PySem.W.Fast.tw13296719053598094809 : Nat := 0
def PySem.W.Fast.tw2052428401239887983 : Nat := 0
def PySem.W.Fast.tw18421223802491136213 : Nat := 0
def PySem.W.Fast.tw9040059311446488165 : Nat := 0
def PySem.W.Fast.tw2468321879421855046 : Nat := 0
def PySem.W.Fast.tw11860341719734551801 : Nat := 0
def PySem.W.Fast.tw17486054520251353049 : Nat := 0
def PySem.W.Fast.tw2726347303603134258 : Nat := 0
def PySem.W.Fast.tw757626398037393191 : Nat := 0
def PySem.W.Fast.tw14141364620351508730 : Nat := 0
def PySem.W.Fast.tw7939938223987289561 : Nat := 0
def PySem.W.Fast.tw4401277807455618405 : Nat := 0
def PySem.W.Fast.tw16789947666419760259 : Nat := 0
def PySem.W.Fast.tw12849125628950543829 : Nat := 0
def PySem.W.Fast.tw4202054364417777433 : Nat := 0
def PySem.W.Fast.tw2992071675813066980 : Nat := 0
def PySem.W.Fast.tw5427351157203201487 : Nat := 0
def PySem.W.Fast.tw15472290570504593336 : Nat := 0
def PySem.W.Fast.tw18297921298934617549 : Nat := 0
def PySem.W.Fast.tw8217280507639839868 : Nat := 0
def PySem.W.Fast.tw12421343717779654321 : Nat := 0
def PySem.W.Fast.tw17902882651796048189 : Nat := 0
def PySem.W.Fast.tw9979351869265638599 : Nat := 0
def PySem.W.Fast.tw11212160464298697599 : Nat := 0
def PySem.W.Fast.tw17334806648619764749 : Nat := 0
def PySem.W.Fast.tw12098860675098901529 : Nat := 0
def PySem.W.Fast.tw12332057993509832238 : Nat := 0
def PySem.W.Fast.tw17681920322297479600 : Nat := 0
def PySem.W.Fast.tw8655658453873583397 : Nat := 0
def PySem.W.Fast.tw8660409666806711943 : Nat := 0
def PySem.W.Fast.tw3376989130121359216 : Nat := 0
def PySem.W.Fast.tw6811413839860567878 : Nat := 0
def PySem.W.Fast.tw8388100220811577033 : Nat := 0
def PySem.W.Fast.tw12263232852302379473 : Nat := 0
def PySem.W.Fast.tw14148294735943870140 : Nat := 0
def PySem.W.Fast.tw5222919269713271930 : Nat := 0
def PySem.W.Fast.tw16962818899218831891 : Nat := 0
def PySem.W.Fast.tw12212046058427751859 : Nat := 0
def PySem.W.Fast.tw2798317133470184644 : Nat := 0
def PySem.W.Fast.tw5877999641961731751 : Nat := 0
def PySem.W.Fast.tw14158634955822229041 : Nat := 0
def PySem.W.Fast.tw17594477439502377185 : Nat := 0
def PySem.W.Fast.tw69258407276205248 : Nat := 0
def PySem.W.Fast.tw17139162005100116158 : Nat := 0
def PySem.W.Fast.tw13704569692347678816 : Nat := 0
def PySem.W.Fast.tw9234741134271829599 : Nat := 0
def PySem.W.Fast.tw7757309105386711699 : Nat := 0
def PySem.W.Fast.tw1221769212989960216 : Nat := 0
def PySem.W.Fast.tw5946471358294448762 : Nat := 0
def PySem.W.Fast.tw13609312583980615148 : Nat := 0
def PySem.W.Fast.tw18425605712722270187 : Nat := 0
def PySem.W.Fast.tw11585576935199118996 : Nat := 0
def PySem.W.Fast.tw5396161164071949551 : Nat := 0
def PySem.W.Fast.tw832060921632335935 : Nat := 0
def PySem.W.Fast.tw9068565382508526089 : Nat := 0
def PySem.W.Fast.tw1465173366462776831 : Nat := 0
def PySem.W.Fast.tw6584685713447031428 : Nat := 0
def PySem.W.Fast.tw2346806613334828242 : Nat := 0
def PySem.W.Fast.tw12524120676893067921 : Nat := 0
def PySem.W.Fast.tw1934117415866527974 : Nat := 0
def PySem.W.Fast.tw12288296551267342586 : Nat := 0
def PySem.W.Fast.tw12805778215098403897 : Nat := 0
set_option maxRecDepth 100000 in
set_option maxHeartbeats 0 in
theorem PySem.Challenge.cw_tonguenest_k28_whole_books_told_otherwis_holds : PySem.Challenge.rw_tonguenest_k28_whole_books_told_otherwis.Holds := by
  w_on; o_law; k_head; (case hw => w_witness2)
  k_fill
  refine T1.walk (l := PySem.Challenge.rw_tonguenest_k28_whole_books_told_otherwis) rfl rfl (fun w h Y => ⟨PySem.W.km_in_of Y, PySem.W.km_tabs_of Y 49 (by simp)⟩) ?F
  case F =>
    intro w mg fa h KX G hmg
    refine' T1.all_mk KX G hmg ?A1 ?A2 ?A3 ?A4 ?A5 ?a6 ?l6 ?c6 ?k6 ?A7 ?A8 ?A9 ?A10 ?A11 ?A12 ?A13 ?A14 ?A15 ?A16 ?A17 ?A18 ?A19 ?A20 ?A21 ?A22 ?A23 ?A24 ?A25 ?A26 ?A27 ?A28 ?A29 ?A30 ?A31 ?A32 ?A33 ?A34 ?hd ?hp ?z1 ?z2 ?z3 ?z4 ?z5 ?z6 ?z7 ?z8 ?z9 ?z10 ?z11 ?z12 ?z13 ?z14 ?z15 ?z16 ?aD ?aW ?xD ?xW ?xM ?aO1 ?hO
    (case A1 => walk_at "own def")
    (case A2 => walk_at "own def")
    (case A3 => walk_at "own def")
    (case A4 => walk_at "own def")
    (case A5 => walk_at "own def")
    (case a6 => k_is)
    (case l6 => k_is)
    (case c6 => k_is)
    (case k6 => k_is)
    (case A7 => walk_at "own def")
    (case A8 => walk_at "own def")
    (case A9 => walk_at "own def")
    (case A10 => walk_at "own def")
    (case A11 => walk_at "own def")
    (case A12 => walk_at "own def")
    (case A13 => walk_at "own def")
    (case A14 => walk_at "own def")
    (case A15 => walk_at "own def")
    (case A16 => walk_at "own def")
    (case A17 => walk_at "own def")
    (case A18 => walk_at "own def")
    (case A19 => walk_at "own def")
    (case A20 => walk_at "own def")
    (case A21 => walk_at "own def")
    (case A22 => walk_at "own def")
    (case A23 => walk_at "own def")
    (case A24 => walk_at "own def")
    (case A25 => walk_at "own def")
    (case A26 => walk_at "own def")
    (case A27 => walk_at "own def")
    (case A28 => walk_at "own def")
    (case A29 => walk_at "own def")
    (case A30 => walk_at "own def")
    (case A31 => walk_at "own def")
    (case A32 => walk_at "own def")
    (case A33 => walk_at "own def")
    (case A34 => walk_at "own def")
    (case hd => kernel_rfl)
    (case hp => kernel_rfl)
    (case z1 => k_is)
    (case z2 => k_is)
    (case z3 => k_is)
    (case z4 => k_is)
    (case z5 => k_is)
    (case z6 => k_is)
    (case z7 => k_is)
    (case z8 => k_is)
    (case z9 => k_is)
    (case z10 => k_is)
    (case z11 => k_is)
    (case z12 => k_is)
    (case z13 => k_is)
    (case z14 => k_is)
    (case z15 => k_is)
    (case z16 => k_is)
    (case aD => k_is)
    (case aW => k_is)
    (case xD => kernel_rfl)
    (case xW => kernel_rfl)
    (case xM => kernel_rfl)
    (case aO1 => k_is)
    (case hO => kernel_rfl)
