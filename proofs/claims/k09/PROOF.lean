import PyProof.Rows.All
import Wide.All
import OpenK.AllK
import Wide.FinOn
import Lean
import PyProof.EqAt
import PyProof.EqKinds
import PyProof.TupleCall
import PyProof.NeKinds
import KE.KSortKey
import KE.KMinKey
import PyProof.StrBlockG
import PyProof.StrBlockI
import KE.KRevSl
import PyProof.MeetsStr
import KE.KLam
import KE.KNestM
import PyProof.Rows.ZipForRows
import PyProof.Rows.FactsT2
import PyProof.StrOps2
import PyProof.Rows.SumAny
import KE.KDictSum
import PyProof.WalkInts
import PyProof.Rows.MinMaxN
import PyProof.TupleKey
import PyProof.DictRoadsH
import PyProof.ListRange
import KE.KDictIter
import PyProof.DictUpdate
import KE.KDictList
import PyProof.StrLawsIn
import PyProof.ListMulRoad
import PySem.Challenge.RW_tonguenest_k09_whole_changes_taken_back
set_option maxHeartbeats 0
set_option Elab.async false
set_option linter.all false
set_option maxRecDepth 100000
-- CHANGE: your row's module here,as the last of these rows
theorem J.{u}{a:Sort u}{b:a}:b=b:=rfl
namespace L2
open PySem PySem.Spec PyProof.Rows
noncomputable abbrev Key:=Sum Int Str
noncomputable def keyIs:Key->Value->Bool
 |.inl k,v=>Value.isInt k v
 |.inr x,v=>Value.isStrOf x v
noncomputable def keyH(w:World):Key->Int
 |.inl k=>hashInt k
 |.inr x=>hashStr w x
theorem zaT:∀ {k:Key}{v:Value},keyIs k v=true->(∃i t,k=Sum.inl i/\v=Value.int i t)∨(∃x t,k=Sum.inr x/\v=Value.str x t)
 |.inl i,v,h=>by
  obtain⟨t,e⟩:=Value.isInt_shape (k:=i) (v:=v) h;exact .inl ⟨i,t,J,e⟩
 |.inr x,v,h=>by
  obtain⟨t,e⟩:=Value.isStrOf_shape (x:=x) (v:=v) h;exact .inr ⟨x,t,J,e⟩
theorem zhI(i:Int)(t:Tok):keyIs (.inl i) (.int i t)=true:=by simp[keyIs,Value.isInt]
theorem zhJ(x:Str)(t:Tok):keyIs (.inr x) (.str x t)=true:=by simp[keyIs,Value.isStrOf]
theorem zlN(a b:Int):decide ((Sum.inl a:Key)=Sum.inl b)=(a==b):=by
 by_cases e:a=b
 .subst e;simp
 .have h:¬(Sum.inl a:Key)=Sum.inl b:=λq=>e (Sum.inl.inj q);rw[decide_eq_false h];exact(beq_eq_false_iff_ne.mpr e).symm
theorem zlO(a b:Str):decide ((Sum.inr a:Key)=Sum.inr b)=decide (a=b):=by
 by_cases e:a=b
 .subst e;simp
 .have h:¬(Sum.inr a:Key)=Sum.inr b:=λq=>e (Sum.inr.inj q);rw[decide_eq_false h,decide_eq_false e]
theorem zlP(a:Int)(b:Str):decide ((Sum.inl a:Key)=Sum.inr b)=false:=decide_eq_false (λq=>nomatch q)
theorem zlQ(a:Str)(b:Int):decide ((Sum.inr a:Key)=Sum.inl b)=false:=decide_eq_false (λq=>nomatch q)
noncomputable def zaF(prog:Program)(w:World):PySem.KeyKind prog w Key where
 is:=keyIs
 hash:=keyH w
 inj:=λv a b G F=>by
  rcases zaT G with⟨i,t,rfl,rfl⟩|⟨x,t,rfl,rfl⟩
  .rcases zaT F with⟨j,u,rfl,e⟩|⟨y,u,rfl,e⟩
   .injection e with B _;rw[B]
   .exact nomatch e
  .rcases zaT F with⟨j,u,rfl,e⟩|⟨y,u,rfl,e⟩
   .exact nomatch e
   .injection e with B _;rw[B]
 byValue:=λk v h=>by
  rcases zaT h with⟨i,t,rfl,rfl⟩|⟨x,t,rfl,rfl⟩<;>rfl
 pyHash:=λD h=>by
  rcases zaT D with⟨i,t,rfl,rfl⟩|⟨x,t,rfl,rfl⟩
  .exact wpAny_pyHash_int h
  .exact wpAny_pyHash_str h
 eqBool:=λI D h=>by
  rcases zaT I with⟨i,t,rfl,rfl⟩|⟨x,t,rfl,rfl⟩
  .rcases zaT D with⟨j,u,rfl,rfl⟩|⟨y,u,rfl,rfl⟩
   .rw[zlN] at h;exact wpAny_eqBool_int h
   .rw[zlP] at h;exact SeqAt.EqAt.int_str i t y u _ _ _ _ h
  .rcases zaT D with⟨j,u,rfl,rfl⟩|⟨y,u,rfl,rfl⟩
   .rw[zlQ] at h;exact SeqAt.EqAt.str_int x t j u _ _ _ _ h
   .rw[zlO] at h;exact wpAny_eqBool_str h
 «strs»:=λk x t v h=>by
  rcases zaT h with⟨i,u,rfl,e⟩|⟨y,u,rfl,e⟩
  .exact nomatch e
  .injection e with B _;subst B;cases v<;>rfl
theorem zfS(prog:Program)(w:World)(i:Int)(t:Tok):(zaF prog w).is (.inl i) (.int i t)=true:=zhI i t
theorem zfT(prog:Program)(w:World)(x:Str)(t:Tok):(zaF prog w).is (.inr x) (.str x t)=true:=zhJ x t
inductive V where
 |non|bl (b:Bool)|int (i:Int)|str (x:Str)|byt (b:Array UInt8)|flt (b:UInt64)|ref (a:Addr)|ty (n:String)
 deriving DecidableEq
noncomputable def RelV:V->Value->Prop
 |.non,u=>u=Value.none
 |.bl b,u=>u=Value.bool b
 |.int i,u=>∃t,u=Value.int i t
 |.str x,u=>∃t,u=Value.str x t
 |.byt b,u=>∃t,u=Value.bytes b t
 |.flt b,u=>∃t,u=Value.float b t
 |.ref a,u=>u=Value.ref a
 |.ty n,u=>u=Value.type n
noncomputable abbrev Vals:List V->List Value->Prop:=Paired RelV
theorem Vals.length{xs:List V}{us:List Value}(r:Vals xs us):xs.length=us.length:=Paired.length r
theorem Vals.get:∀ {xs:List V}{us:List Value}{i:Nat}{x:V},Vals xs us->xs[i]?=some x->∃u,us[i]?=some u/\RelV x u
 |_,_,_,_,.nil,e=>by simp at e
 |_,_,0,_,.cons r _,e=>by simp at e;subst e;exact⟨_,J,r⟩
 |_,_,i+1,x,.cons _ t,e=>by
  obtain⟨u,h1,h2⟩:=Vals.get (i:=i) (x:=x) t (by simpa using e);exact⟨u,by simpa using h1,h2⟩
theorem Vals.set{x:V}{u:Value}(r:RelV x u):∀ {xs:List V}{us:List Value}(i:Nat),Vals xs us->Vals (xs.set i x) (us.set i u)
 |_,_,_,.nil=>.nil
 |_,_,0,.cons _ t=>.cons r t
 |_,_,i+1,.cons q t=>.cons q (Vals.set r i t)
theorem Vals.append:∀ {xs ys:List V}{us B:List Value},Vals xs us->Vals ys B->Vals (xs++ys) (us++B)
 |_,_,_,_,.nil,s=>s
 |_,_,_,_,.cons r t,s=>.cons r (Vals.append t s)
theorem Vals.take:∀ {xs:List V}{us:List Value}(n:Nat),Vals xs us->Vals (xs.take n) (us.take n)
 |_,_,0,_=>.nil
 |_,_,_+1,.nil=>.nil
 |_,_,n+1,.cons r t=>.cons r (Vals.take n t)
theorem Vals.drop:∀ {xs:List V}{us:List Value}(n:Nat),Vals xs us->Vals (xs.drop n) (us.drop n)
 |_,_,0,r=>r
 |_,_,_+1,.nil=>.nil
 |_,_,n+1,.cons _ t=>Vals.drop n t
noncomputable def RelO:Option V->Option Value->Prop
 |some v,some u=>RelV v u
 |none,none=>True
 |_,_=>False
noncomputable def KV{κ:Type}:List (κ×V)->List (κ×Value)->Prop:=Paired λ(p:κ×V) (q:κ×Value)=>p.1=q.1/\RelV p.2 q.2
noncomputable def kV:Key->V
 |.inl i=>.int i
 |.inr x=>.str x
inductive HO where
 /-- a list -/
 |lst (xs:List V)
 /-- a tuple (never changes) -/
 |tup (xs:List V)
 /-- a dict whose keys are ints and texts;one whose keys are tuples of ints and texts (the empty one is both) -/
 |dK (kvs:List (Key×V))|dT (kvs:List (List Key×V))
 /-- a set of ints: its members,its size -/
 |set (S:Int->Bool) (n:Nat)
 /-- an instance of the class at C,its dict at dx,its attributes -/
 |ins (C dx:Addr) (fs:List (Str×V))
 /-- the dict of the instance at x -/
 |own (x:Addr)
 /-- the dict of an exception -/
 |xd (fs:List (Str×V))
 /-- a bound method,f of x -/
 |met (f x:Addr)
 /-- a range object lo,lo+1,.. below hi -/
 |rng (lo hi:Int)
 /-- a thing that is known to the object (the script;a dict while a loop walks it): read,never written while it is so -/
 |frz (o:Obj) (u:HO)
 /-- a code object's table -/
 |tbl (ps:Array Value)
 /-- any other thing,by what is true of its one object (a def of one's own: SetO a S n:=HO.ext λh=>..) -/
 |ext (φ:Heap->Prop)
noncomputable abbrev Hp:=Addr->Option HO
noncomputable def upd(H:Hp)(a:Addr)(o:HO):Hp:=λb=>if b=a then some o else H b
theorem zab{H:Hp}{a:Addr}{o:HO}:upd H a o a=some o:=by unfold upd;rw[if_pos rfl]
theorem zak{H:Hp}{a b:Addr}{o:HO}(h:b≠a):upd H a o b=H b:=by unfold upd;rw[if_neg h]
theorem zar{H:Hp}{a b:Addr}{o u:HO}(h:H a=some o)(h':H b=some u)(d:o≠u):a≠b:=by
 intro e;subst e;rw[h] at h';exact d (Option.some.inj h')
theorem zae{H:Hp}{a b:Addr}{o:HO}(h:H a=some o)(h':H b=none):a≠b:=by
 intro e;subst e;rw[h] at h';cases h'
section
variable (P:Program) (w:World)
noncomputable def ObjOk(H:Hp)(h:Heap)(a:Addr):HO->Prop
 |.lst xs=>xs.length<=sizeLine/\∃(its:List Value) (n:Nat),Vals xs its/\h.get? a=some { cls:=.type "list",data:=.seq its.toArray n }
 |.tup xs=>xs.length<=sizeLine/\∃its:List Value,Vals xs its/\IsTup h a its.toArray
 |.dK kvs=>kvs.length<=sizeLine/\(a==sysModules)=false/\∃vs,KV kvs vs/\h.DictOf (zaF P w) a vs
 |.dT kvs=>kvs.length<=sizeLine/\(a==sysModules)=false/\∃xs:List (List Key×Addr×Value),
   Paired (λ(p:List Key×V) (q:List Key×Addr×Value)=>p.1=q.1/\H q.2.1=some (.tup (p.1.map kV))/\RelV p.2 q.2.2) kvs xs /\
   ∃o es ep,h.get? a=some o/\o.ExactDict/\o.data=.dict es ep/\es.toList=xs.map (entryOfKey (tupleKind (zaF P w)))/\(xs.map (·.1)).Nodup
 |.set S n=>h.SetOf (intKind P w) a S n
 |.ins C dx fs=>H dx=some (.own a)/\fs.length<=1000/\dx≠a/\h.get? a=some (W.instObj C dx) /\
   ∃mA,h.Ns1 dx mA/\(∀f,RelO (fs.lookup f) (mA f))/\PySem.Within mA (fs.map (·.1))
 |.own _=>∃o,h.get? a=some o
 |.xd fs=>∃mA,h.Ns1 a mA/\∀f,RelO (fs.lookup f) (mA f)
 |.rng lo hi=>∃t u v,h.get? a=some { cls:=.type "range",data:=.fields #[.int lo t,.int hi u,.int 1 v] }
 |.frz o u=>h.get? a=some o/\ObjOk H h a u
 |.tbl ps=>h.get? a=some { cls:=.none,data:=.fields ps }
 |.met f x=>h.get? a=some (W.methodObj (.ref f) (.ref x))
 |.ext B=>B h/\(∃o,h.get? a=some o)/\∀h1 h2:Heap,B h1->(∀o,h1.get? a=some o->h2.get? a=some o)->B h2
noncomputable def HOk(H:Hp)(h:Heap):Prop:=∀a o,H a=some o->ObjOk P w H h a o
end
section
variable {P:Program}{w:World}{H H':Hp}{h h':Heap}{a:Addr}{o:HO}
theorem ObjOk.lt(x:ObjOk P w H h a o):a<h.objs.size:=by
 cases o with
 |lst xs=>obtain⟨_,_,_,_,e⟩:=x;exact Heap.lt_size e
 |tup xs=>obtain⟨_,_,_,p⟩:=x;exact p.lt
 |dK kvs=>obtain⟨_,_,_,_,o,_,_,e,_⟩:=x;exact Heap.lt_size e
 |dT kvs=>obtain⟨_,_,_,_,o,_,_,e,_⟩:=x;exact Heap.lt_size e
 |set S n=>obtain⟨o,_,_,_,e,_⟩:=x;exact Heap.lt_size e
 |ins C dx fs=>obtain⟨_,_,_,e,_⟩:=x;exact Heap.lt_size e
 |own y=>obtain⟨_,e⟩:=x;exact Heap.lt_size e
 |xd fs=>obtain⟨_,⟨_,_,_,e,_⟩,_⟩:=x;exact Heap.lt_size e
 |rng lo hi=>obtain⟨_,_,_,e⟩:=x;exact Heap.lt_size e
 |frz ob u=>obtain⟨e,_⟩:=x;exact Heap.lt_size e
 |tbl ps=>exact Heap.lt_size (show h.get? a=some _ from x)
 |met f y=>exact Heap.lt_size (show h.get? a=some _ from x)
 |ext B=>obtain⟨_,⟨_,e⟩,_⟩:=x;exact Heap.lt_size e
theorem Paired.mapP{B D:Type}{F G:B->D->Prop}:∀ {I:List B}{J0:List D},Paired F I J0->(∀a b,F a b->G a b)->Paired G I J0
 |_,_,.nil,_=>.nil
 |_,_,.cons r t,f=>.cons (f _ _ r) (Paired.mapP t f)
theorem ObjOk.stay(x:ObjOk P w H h a o)(k:∀b u,(b=a∨H b=some (.own a))->h.get? b=some u->h'.get? b=some u)(B:∀b,H b=some (.own a)->H' b=some (.own a))(D:∀b xs,H b=some (.tup xs)->H' b=some (.tup xs)):ObjOk P w H' h' a o:=by
 induction o with
 |lst xs=>obtain⟨z,its,n,r,e⟩:=x;exact⟨z,its,n,r,k _ _ (.inl J) e⟩
 |tup xs=>obtain⟨z,its,r,ob,e,c⟩:=x;exact⟨z,its,r,ob,k _ _ (.inl J) e,c⟩
 |dK kvs=>obtain⟨z,y,vs,r,ob,es,ep,e,c⟩:=x;exact⟨z,y,vs,r,ob,es,ep,k _ _ (.inl J) e,c⟩
 |dT kvs=>
  obtain⟨z,y,xs,r,ob,es,ep,e,c⟩:=x;exact⟨z,y,xs,Paired.mapP r λp q z=>⟨z.1,D _ _ z.2.1,z.2.2⟩,ob,es,ep,k _ _ (.inl J) e,c⟩
 |set S n=>obtain⟨ob,es,ep,t,e,c⟩:=x;exact⟨ob,es,ep,t,k _ _ (.inl J) e,c⟩
 |ins C dx fs=>
  obtain⟨d,z,ne,e,mA,⟨od,es,ep,F,c⟩,r⟩:=x;exact⟨B _ d,z,ne,k _ _ (.inl J) e,mA,⟨od,es,ep,k _ _ (.inr d) F,c⟩,r⟩
 |own y=>obtain⟨ob,e⟩:=x;exact⟨ob,k _ _ (.inl J) e⟩
 |xd fs=>obtain⟨mA,⟨od,es,ep,e,c⟩,r⟩:=x;exact⟨mA,⟨od,es,ep,k _ _ (.inl J) e,c⟩,r⟩
 |rng lo hi=>obtain⟨t,u,v,e⟩:=x;exact⟨t,u,v,k _ _ (.inl J) e⟩
 |frz ob u G=>obtain⟨e,q⟩:=x;exact⟨k _ _ (.inl J) e,G q⟩
 |tbl ps=>
  have e:h.get? a=some { cls:=.none,data:=.fields ps }:=x;show h'.get? a=some { cls:=.none,data:=.fields ps };exact k a _ (.inl J) e
 |met f y=>
  have e:h.get? a=some (W.methodObj (.ref f) (.ref y)):=x;show h'.get? a=some (W.methodObj (.ref f) (.ref y));exact k a _ (.inl J) e
 |ext I=>obtain⟨p,⟨o,e⟩,st⟩:=x;exact⟨st _ _ p λo q=>k _ _ (.inl J) q,⟨o,k _ _ (.inl J) e⟩,st⟩
theorem HOk.lt(x:HOk P w H h)(e:H a=some o):a<h.objs.size:=(x a o e).lt
theorem HOk.fresh(x:HOk P w H h)(e:h.objs.size<=a):H a=none:=by
 cases q:H a with
 |none=>rfl
 |some u=>exact absurd (Nat.lt_of_lt_of_le (x.lt q) e) (Nat.lt_irrefl _)
theorem HOk.kept(x:HOk P w H h)(k:∀b u,h.get? b=some u->h'.get? b=some u):HOk P w H h':=λa o e=>
 (x a o e).stay (λb u _ q=>k b u q) (λ_ q=>q) λ_ _ q=>q
theorem HOk.laid(x:HOk P w H h)(k:∀b u,h.get? b=some u->h'.get? b=some u)(F:h.objs.size<=a)(G:ObjOk P w (upd H a o) h' a o):HOk P w (upd H a o) h':=λb u e=>by
 have B:=x.fresh F;by_cases D:b=a
 .subst D;rw[zab] at e;cases e;exact G
 .rw[zak D] at e;exact(x b u e).stay (λc v _ q=>k c v q) (λc q=>by rw[zak (zae q B)];exact q) λc xs q=>by rw[zak (zae q B)];exact q
end
noncomputable def Rd(H:Hp)(a:Addr)(u:HO):Prop:=H a=some u∨∃o,H a=some (.frz o u)
theorem Rd.ok{P:Program}{w:World}{H:Hp}{h:Heap}{a:Addr}{u:HO}(r:Rd H a u)(x:HOk P w H h):ObjOk P w H h a u:=by
 rcases r with r|⟨o,r⟩
 .exact x a u r
 .obtain⟨_,q⟩:=x a _ r;exact q
noncomputable def Mut:Option HO->Prop
 |some (.lst _)=>True
 |some (.dK _)=>True
 |some (.dT _)=>True
 |some (.set _ _)=>True
 |some (.ins _ _ _)=>True
 |some (.ext _)=>True
 |_=>False
section
variable {P:Program}{w:World}{H:Hp}{h h':Heap}{x e:Addr}{o':HO}
theorem HOk.write(O:HOk P w H h)(B:Mut (H x))(G:e=x∨H e=some (.own x))(k:∀b u,b≠e->h.get? b=some u->h'.get? b=some u)(U:∃u,h'.get? e=some u)(V:ObjOk P w (upd H x o') h' x o'):HOk P w (upd H x o') h':=λb u q=>by
 have I:∀c y,H c=some (.own y)->c≠x:=λc y r z=>by subst z;rw[r] at B;exact B
 have W:∀c xs,H c=some (.tup xs)->c≠x:=λc xs r z=>by subst z;rw[r] at B;exact B
 by_cases D:b=x
 .subst D;rw[zab] at q;cases q;exact V
 .rw[zak D] at q;by_cases F:b=e
  .have J0:H b=some (.own x):=by
    rcases G with z|z
    .exact absurd (F.trans z) D
    .rw[F];exact z
   rw[q] at J0;cases J0;obtain⟨v,Y⟩:=U;exact⟨v,by rw[F];exact Y⟩
  .refine(O b u q).stay (λc v hc r=>k c v ?_ r) (λc r=>by rw[zak (I c b r)];exact r) λc xs r=>by rw[zak (W c xs r)];exact r
   rcases hc with rfl|hc
   .exact F
   .rintro rfl;rcases G with z|z
    .exact I c b hc z
    .rw[hc] at z;cases z;exact D rfl
end
structure Un(fs ex:List Addr)(H H':Hp)(h h':Heap):Prop where
 keep:∀b o,h.get? b=some o->H b=none->b∉fs->b∉ex->h'.get? b=some o
 slot:∀b o,h.get? b=some o->H b=none->b∈fs->b∉ex->∃sl,h'.get? b=some { o with slots:=sl }
 free:∀b o,h.get? b=some o->H b=none->b∉ex->H' b=none
 there:∀b o,h.get? b=some o->b∉ex->∃o',h'.get? b=some o'
 tups:∀b xs,H b=some (.tup xs)->H' b=some (.tup xs)
 frzs:∀b o u,H b=some (.frz o u)->H' b=some (.frz o u)
 tbls:∀b ps,H b=some (.tbl ps)->∃more,H' b=some (.tbl (ps++more))
section
variable {fs fs' ex ex':List Addr}{H H1 H2:Hp}{h h1 h2 h':Heap}{a x e:Addr}{o:HO}
theorem Un.any(u:Un fs ex H H1 h h1){b:Addr}{ob:Obj}(q:h.get? b=some ob)(n:H b=none)(B:b∉ex):∃F,h1.get? b=some { ob with slots:=F }:=by
 by_cases D:b∈fs
 .exact u.slot b ob q n D B
 .exact⟨ob.slots,u.keep b ob q n D B⟩
theorem Un.trans(a:Un fs ex H H1 h h1)(b:Un fs ex H1 H2 h1 h2):Un fs ex H H2 h h2 where
 keep:=λc ob q n F B=>b.keep c ob (a.keep c ob q n F B) (a.free c ob q n B) F B
 slot:=λc ob q n F B=>by
  obtain⟨U,D⟩:=a.slot c ob q n F B;obtain⟨I,G⟩:=b.slot c _ D (a.free c ob q n B) F B;exact⟨I,G⟩
 free:=λc ob q n B=>by
  obtain⟨o',D⟩:=a.there c ob q B;exact b.free c o' D (a.free c ob q n B) B
 there:=λc ob q B=>by
  obtain⟨o',D⟩:=a.there c ob q B;exact b.there c o' D B
 tups:=λc xs q=>b.tups c xs (a.tups c xs q)
 frzs:=λc ob xs q=>b.frzs c ob xs (a.frzs c ob xs q)
 tbls:=λc ps q=>by
  obtain⟨J0,D⟩:=a.tbls c ps q;obtain⟨O,G⟩:=b.tbls c _ D;exact⟨J0++O,by rw[G,Array.append_assoc]⟩
theorem Un.kept(k:∀b u,h.get? b=some u->h'.get? b=some u):Un fs ex H H h h':=
 ⟨λb ob q _ _ _=>k b ob q,λb ob q _ _ _=>⟨ob.slots,k b ob q⟩,λ_ _ _ n _=>n,λb ob q _=>⟨ob,k b ob q⟩,λ_ _ q=>q,λ_ _ _ q=>q,λ_ ps q=>⟨#[],by rw[q];simp⟩⟩
theorem Un.refl:Un fs ex H H h h:=Un.kept λ_ _ q=>q
theorem Un.laid(k:∀b u,h.get? b=some u->h'.get? b=some u)(D:h.objs.size<=a)(B:H a=none):Un fs ex H (upd H a o) h h' where
 keep:=λb u q _ _ _=>k b u q
 slot:=λb u q _ _ _=>⟨u.slots,k b u q⟩
 free:=λb u q n _=>by rw[zak (Nat.ne_of_lt (Nat.lt_of_lt_of_le (Heap.lt_size q) D))];exact n
 there:=λb u q _=>⟨u,k b u q⟩
 tups:=λb xs q=>by rw[zak (zae q B)];exact q
 frzs:=λb u xs q=>by rw[zak (zae q B)];exact q
 tbls:=λb ps q=>⟨#[],by rw[zak (zae q B),q];simp⟩
theorem Un.write(B:Mut (H x))(J0:e=x∨H e=some (.own x))(k:∀b u,b≠e->h.get? b=some u->h'.get? b=some u)(O:∃u,h'.get? e=some u):Un fs ex H (upd H x o) h h':=by
 have F:∀b,H b=none->b≠x:=λb n z=>by subst z;rw[n] at B;exact B
 have G:∀b,H b=none->b≠e:=λb n z=>by
  subst z;rcases J0 with r|r
  .exact F b n r
  .rw[n] at r;cases r
 have D:∀b u,H b=some u->¬Mut (some u)->b≠x:=λb u q nm z=>by subst z;rw[q] at B;exact nm B
 refine⟨λb u q n _ _=>k b u (G b n) q,λb u q n _ _=>⟨u.slots,k b u (G b n) q⟩,λb u q n _=>by rw[zak (F b n)];exact n,λb u q _=>?_,
  λb xs q=>by rw[zak (D b _ q λz=>z)];exact q,λb u xs q=>by rw[zak (D b _ q λz=>z)];exact q,λb ps q=>⟨#[],by rw[zak (D b _ q λz=>z),q];simp⟩⟩
 by_cases I:b=e
 .subst I;exact O
 .exact⟨u,k b u I q⟩
end
noncomputable def trk(h:Heap)(H:Hp):List Addr:=(List.range h.objs.size).filter λa=>(H a).isSome
noncomputable def hidT(h:Heap)(H:Hp):Heap:=W.hideAll h (trk h H)
theorem zhK(h:Heap)(H:Hp):(hidT h H).objs.size=h.objs.size:=W.hideAll_size _ _
theorem zjs{h:Heap}{H:Hp}{b:Addr}{o:Obj}(e:h.get? b=some o)(n:H b=none):(hidT h H).get? b=some o:=
 W.hideAll_get _ e λB=>by
  have q:(H b).isSome=true:=(List.mem_filter.mp B).2;rw[n] at q;simp at q
theorem zkW{h:Heap}{H:Hp}{b:Addr}{o:Obj}(e:(hidT h H).get? b=some o):h.get? b=some o/\H b=none:=by
 have B:h.get? b=some o:=W.of_hideAll (trk h H) e;refine⟨B,?_⟩;cases q:H b with
 |none=>rfl
 |some x=>
  have D:b∈trk h H:=List.mem_filter.mpr ⟨List.mem_range.mpr (Heap.lt_size B),by simp[q]⟩;have z:(hidT h H).get? b=none:=W.hideAll_none (trk h H) D;rw[z] at e;cases e
structure Mod(K:W.Frag)(mg:Str->Option Value)(base:Heap):Prop where
 kin:K.In base
 glob:base.Ns mainGlobals mg
 blt:∃mb,base.Ns builtinsNs mb/\∀x:Str,x≠"__name__"->mb x=bootBuiltins x
 nolimit:base.NoLimit
structure Cx where
 prog:Program
 w:World
 K:W.Frag
 mg:Str->Option Value
 base:Heap
 A:Around
 N:List Str
 s₀:Shared
 H₀:Hp
 env:Env
 outer:List Env
 stack:List Env
 ex:List Addr
 fn:Str->Bool
 calm:Bool
 pn:List (Addr×Obj)
 xe:Value->Shared->Prop
noncomputable def frs(l:List Env):List Addr:=l.filterMap (·.frame)
noncomputable abbrev Cx.fs(X:Cx):List Addr:=frs X.outer
noncomputable def Vis(sc:Scope)(x:Str):Prop:=sc.names.lookup x=some .local∨sc.names.lookup x=some .cell∨sc.names.lookup x=some .free
noncomputable def Loc(sc:Scope)(x:Str):Prop:=sc.names.lookup x=some .local∨sc.names.lookup x=some .cell
noncomputable def Look(env:Env)(h:Heap)(m:Str->Option Value)(x:Str)(u:Value):Prop:=
 (env.kindOf x=some .local/\m x=some u)∨((env.kindOf x=some .cell∨env.kindOf x=some .free)/\∃c,env.cells.lookup x=some c/\h.IsCell c (some u))
structure Cx.Ok(X:Cx):Prop where
 mod:Mod X.K X.mg X.base
 kind:X.env.scope.kind=.function
 glob:X.env.globals=mainGlobals
 blt:X.env.builtins=builtinsNs
 above:X.s₀.heap.objs.size<=X.env.locals
 inj:∀x y c,X.env.cells.lookup x=some c->X.env.cells.lookup y=some c->x=y
 has:∀x,(X.env.kindOf x=some .cell∨X.env.kindOf x=some .free)->∃c,X.env.cells.lookup x=some c
 cab:∀x c,X.fn x=true->X.env.cells.lookup x=some c->X.s₀.heap.objs.size<=c
 hd:X.calm=true->X.A.handled=none
 frames:X.A.frames=some X.stack
 stk:X.stack=X.outer∨(X.stack=X.env::X.outer/\X.env.frame=some X.env.locals)
 exf:∀b∈X.ex,b≠X.env.locals/\∀x c,X.env.cells.lookup x=some c->c≠b
 bs:∀b o,X.base.get? b=some o->X.s₀.heap.get? b=some o/\X.H₀ b=none
 bsz:X.base.objs.size<=X.s₀.heap.objs.size
 noex:∀b o,X.base.get? b=some o->b∉X.ex
 exfs:∀b∈X.ex,b∉X.fs
 funs:X.s₀.heap.FunFrames X.base X.outer
 frf:∀b∈X.fs,X.H₀ b=none
structure Inv(X:Cx)(pins:List (Addr×Obj))(σ:List (Option V))(H:Hp)(s:Shared):Prop where
 ok:X.Ok
 os:s.os=X.s₀.os
 bare:AllBare s.gens
 base:Un X.fs X.ex X.H₀ H X.s₀.heap s.heap
 loc:∃m,s.heap.Ns X.env.locals m/\∀(i:Nat) (x:Str) (v:V),X.N[i]?=some x->σ[i]?=some (some v)->Vis X.env.scope x->∃u,RelV v u/\Look X.env s.heap m x u
 cell:∀x c,X.env.cells.lookup x=some c->∃v,s.heap.IsCell c v
 free:H X.env.locals=none
 freeC:∀x c,X.env.cells.lookup x=some c->H c=none
 pin:∀p∈X.pn++pins,s.heap.get? p.1=some p.2/\H p.1=none/\p.1≠X.env.locals/\p.1∉X.fs/\∀v,p.2.data≠.cell v
 hok:HOk X.prog X.w H s.heap
 len:σ.length=X.N.length
section
variable {X:Cx}{pins:List (Addr×Obj)}{σ:List (Option V)}{H H':Hp}{s:Shared}{h':Heap}
theorem Cx.Ok.nofr(B:X.Ok){b:Addr}{o:Obj}(e:X.base.get? b=some o):b∉X.fs:=λD=>by
 have:=(B.funs.mem D).1;rw[e] at this;cases this
theorem Inv.bs(B:Inv X pins σ H s):∀b o,X.base.get? b=some o->s.heap.get? b=some o/\H b=none:=λb o e=>
 ⟨B.base.keep b o (B.ok.bs b o e).1 (B.ok.bs b o e).2 (B.ok.nofr e) (B.ok.noex b o e),B.base.free b o (B.ok.bs b o e).1 (B.ok.bs b o e).2 (B.ok.noex b o e)⟩
theorem Inv.bk(B:Inv X pins σ H s):∀b o,X.base.get? b=some o->s.heap.get? b=some o:=λb o e=>(B.bs b o e).1
theorem Inv.mod(B:Inv X pins σ H s):Mod X.K X.mg X.base:=B.ok.mod
theorem Inv.kIn(B:Inv X pins σ H s):X.K.In s.heap:=B.ok.mod.kin.keeps B.bk
theorem Inv.lt(B:Inv X pins σ H s):X.env.locals<s.heap.objs.size:=let ⟨_,D,_⟩:=B.loc;D.lt
theorem Inv.sz(B:Inv X pins σ H s):X.s₀.heap.objs.size<=s.heap.objs.size:=Nat.le_trans B.ok.above (Nat.le_of_lt B.lt)
theorem Inv.nofs(B:Inv X pins σ H s){a:Addr}(h:s.heap.objs.size<=a):a∉X.fs:=λD=>by
 obtain⟨_,o,F,_⟩:=B.ok.funs.mem D;exact absurd (Nat.lt_of_lt_of_le (Heap.lt_size F) (Nat.le_trans B.sz h)) (Nat.lt_irrefl _)
theorem Inv.cne(B:Inv X pins σ H s):∀x c,X.env.cells.lookup x=some c->c≠X.env.locals:=λx c e z=>by
 obtain⟨v,o,D,F⟩:=B.cell x c e;obtain⟨m,⟨o',es,ep,G,I,_⟩,_⟩:=B.loc;rw[z,G] at D;cases D;rw[I] at F;cases F
theorem Inv.funs(B:Inv X pins σ H s):s.heap.FunFrames X.base X.outer:=by
 have J0:∀(l:List Env),(∀b∈frs l,b∈X.fs)->X.s₀.heap.FunFrames X.base l->s.heap.FunFrames X.base l:=by
  intro l;induction l with
  |nil=>intro _ _;trivial
  |cons env r O=>
   intro I U;obtain⟨V,⟨L,o,D,W,Y,Z⟩,aa⟩:=U;have F:L∈X.fs:=I L (by unfold frs;rw[List.filterMap_cons,D];exact List.mem_cons_self);obtain⟨ab,e⟩:=B.base.slot L o Y (B.ok.frf L F) F λz=>B.ok.exfs L z F;exact⟨V,⟨L,_,D,W,e,Z⟩,O (λb G=>I b (by unfold frs;rw[List.filterMap_cons,D];exact List.mem_cons_of_mem _ G)) aa⟩
 exact J0 X.outer (λ_ G=>G) B.ok.funs
theorem Inv.stack(B:Inv X pins σ H s):s.heap.FunFrames X.base X.stack:=by
 rcases B.ok.stk with e|⟨e,D⟩
 .rw[e];exact B.funs
 .rw[e];obtain⟨m,F,_⟩:=B.loc;refine .cons (by rw[B.ok.kind];decide) D F ?_ B.funs;exact Heap.get?_none_of_le (Nat.le_trans B.ok.bsz B.ok.above)
theorem Inv.stkSub(D:Inv X pins σ H s):∀b∈frs X.stack,b∈X.env.locals::X.fs:=λb B=>by
 rcases D.ok.stk with e|⟨e,F⟩
 .rw[e] at B;exact List.mem_cons_of_mem _ B
 .rw[e] at B;unfold frs at B;rw[List.filterMap_cons,F] at B;exact B
theorem Inv.stkFree(B:Inv X pins σ H s):∀b∈frs X.stack,H b=none:=λb hb=>by
 rcases List.mem_cons.mp (B.stkSub b hb) with e|hb
 .rw[e];exact B.free
 .obtain⟨_,o,D,_⟩:=B.ok.funs.mem hb;exact B.base.free b o D (B.ok.frf b hb) λz=>B.ok.exfs b z hb
theorem Inv.step{g':Array GenState}{t':Nat}{d':Drawn}{ch:List Addr}(B:Inv X pins σ H s)(J0:∀b∈ch,(b∈X.ex∨X.s₀.heap.objs.size<=b)/\b≠X.env.locals/\(∀x c,X.env.cells.lookup x=some c->c≠b)/\∀p∈X.pn++pins,p.1≠b)(keep:∀b o,b≠X.env.locals->b∉X.fs->b∉ch->s.heap.get? b=some o->H b=none->h'.get? b=some o)(slot:∀b o,b≠X.env.locals->b∈X.fs->b∉ch->s.heap.get? b=some o->H b=none->∃W,h'.get? b=some { o with slots:=W })(free:∀b o,b∉ch->s.heap.get? b=some o->H b=none->H' b=none)(there:∀b o,b∉ch->s.heap.get? b=some o->∃o',h'.get? b=some o')(tups:∀b xs,H b=some (.tup xs)->H' b=some (.tup xs))(frzs:∀b o u,H b=some (.frz o u)->H' b=some (.frz o u))(tbls:∀b ps,H b=some (.tbl ps)->∃more,H' b=some (.tbl (ps++more)))(ae:∀m,s.heap.Ns X.env.locals m->h'.Ns X.env.locals m)(af:HOk X.prog X.w H' h')(ag:AllBare g') :
  Inv X pins σ H' { s with heap:=h',gens:=g',drawn:=d',toks:=t' }:=by
 have Z:∀b o,X.s₀.heap.get? b=some o->b≠X.env.locals:=λb o e=>Nat.ne_of_lt (Nat.lt_of_lt_of_le (Heap.lt_size e) B.ok.above);have V:∀b o,X.s₀.heap.get? b=some o->b∉X.ex->b∉ch:=λb o e D G=>by
  rcases(J0 b G).1 with z|z
  .exact D z
  .exact absurd (Nat.lt_of_lt_of_le (Heap.lt_size e) z) (Nat.lt_irrefl _)
 have aa:∀x c,X.env.cells.lookup x=some c->∀v,s.heap.IsCell c v->h'.IsCell c v:=λx c e v ⟨o,I,Y⟩=>by
  have O:c∉ch:=λz=>(J0 c z).2.2.1 x c e rfl;by_cases ab:c∈X.fs
  .obtain⟨W,q⟩:=slot c o (B.cne x c e) ab O I (B.freeC x c e);exact⟨_,q,Y⟩
  .exact⟨o,keep c o (B.cne x c e) ab O I (B.freeC x c e),Y⟩
 refine⟨B.ok,B.os,ag,⟨λb o e n G D=>?_,λb o e n G D=>?_,λb o e n D=>?_,λb o e D=>?_,λb xs e=>tups b xs (B.base.tups b xs e),λb o xs e=>frzs b o xs (B.base.frzs b o xs e),λb ps e=>?_⟩,?_,λx c e=>?_,?_,λx c e=>?_,λp ac=>?_,af,B.len⟩
 .exact keep b o (Z b o e) G (V b o e D) (B.base.keep b o e n G D) (B.base.free b o e n D)
 .obtain⟨W,F⟩:=B.base.slot b o e n G D;obtain⟨ah,U⟩:=slot b _ (Z b o e) G (V b o e D) F (B.base.free b o e n D);exact⟨ah,U⟩
 .obtain⟨o',F⟩:=B.base.there b o e D;exact free b o' (V b o e D) F (B.base.free b o e n D)
 .obtain⟨o',F⟩:=B.base.there b o e D;exact there b o' (V b o e D) F
 .obtain⟨ai,F⟩:=B.base.tbls b ps e;obtain⟨aj,U⟩:=tbls b _ F;exact⟨ai++aj,by rw[U,Array.append_assoc]⟩
 .obtain⟨m,ak,al⟩:=B.loc;refine⟨m,ae m ak,λi x v F U am=>?_⟩;obtain⟨u,r,l⟩:=al i x v F U am;refine⟨u,r,?_⟩;rcases l with l|⟨k,c,e,z⟩
  .exact .inl l
  .exact .inr ⟨k,c,e,aa x c e _ z⟩
 .obtain⟨v,z⟩:=B.cell x c e;exact⟨v,aa x c e v z⟩
 .obtain⟨m,⟨o,_,_,I,_⟩,_⟩:=B.loc;exact free _ o (λz=>(J0 _ z).2.1 rfl) I B.free
 .obtain⟨v,o,I,Y⟩:=B.cell x c e;exact free c o (λz=>(J0 c z).2.2.1 x c e J) I (B.freeC x c e)
 .obtain⟨e,n,ne,ad,d⟩:=B.pin p ac;have O:p.1∉ch:=λz=>(J0 p.1 z).2.2.2 p ac rfl;exact⟨keep p.1 p.2 ne ad O e n,free p.1 p.2 O e n,ne,ad,d⟩
theorem Inv.un{t':Nat}(B:Inv X pins σ H s)(u:Un X.fs [] H H' s.heap h')(I:HOk X.prog X.w H' h'):Inv X pins σ H' { s with heap:=h',toks:=t' }:=by
 obtain⟨m,⟨o,es,ep,F,r⟩,_⟩:=id B.loc;obtain⟨Y,J0⟩:=u.any F B.free (by simp);exact B.step (g':=s.gens) (d':=s.drawn) (ch:=[]) (λ_ z=>nomatch z) (λb o _ D _ e n=>u.keep b o e n D (by simp)) (λb o _ D _ e n=>u.slot b o e n D (by simp)) (λb o _ e n=>u.free b o e n (by simp)) (λb o _ e=>u.there b o e (by simp)) u.tups u.frzs u.tbls (λZ O=>by
  obtain⟨o',U,V,G,W⟩:=O;rw[F] at G;cases G;exact⟨_,U,V,J0,W⟩) I B.bare
theorem Inv.call{g':Array GenState}{t':Nat}{d':Drawn}{ch:List Addr}(D:Inv X pins σ H s)(u:Un (frs X.stack) ch H H' s.heap h')(O:HOk X.prog X.w H' h')(U:AllBare g')(G:∀b∈ch,(b∈X.ex∨X.s₀.heap.objs.size<=b)/\b≠X.env.locals/\(∀x c,X.env.cells.lookup x=some c->c≠b)/\∀p∈X.pn++pins,p.1≠b) :
  Inv X pins σ H' { s with heap:=h',gens:=g',drawn:=d',toks:=t' }:=by
 obtain⟨m,⟨o,es,ep,I,r⟩,_⟩:=id D.loc;obtain⟨ab,F⟩:=u.any I D.free λz=>(G _ z).2.1 rfl;exact D.step (ch:=ch) G (λb o F V B e n=>u.keep b o e n (λz=>(List.mem_cons.mp (D.stkSub b z)).elim F V) B) (λb o _ _ B e n=>u.any e n B) (λb o B e n=>u.free b o e n B) (λb o B e=>u.there b o e B) u.tups u.frzs u.tbls (λac W=>by
  obtain⟨o',Y,Z,J0,aa⟩:=W;rw[I] at J0;cases J0;exact⟨_,Y,Z,F,aa⟩) O U
theorem Inv.turned{t':Nat}{it:Addr}(D:Inv X pins σ H s)(k:∀b o,b≠it->s.heap.get? b=some o->h'.get? b=some o)(I:H it=none)(F:it≠X.env.locals)(h1:it∈X.ex∨X.s₀.heap.objs.size<=it)(h2:∀x c,X.env.cells.lookup x=some c->c≠it)(J0:∀p∈X.pn++pins,p.1≠it):Inv X pins σ H { s with heap:=h',toks:=t' }:=by
 have G:∀b u,H b=some u->b≠it:=λb u e z=>by rw[z,I] at e;cases e
 refine D.step (g':=s.gens) (d':=s.drawn) (ch:=[it]) (λb O=>?_) (λb o _ _ B e _=>k b o (λz=>B (by simp[z])) e) (λb o _ _ B e _=>⟨o.slots,k b o (λz=>B (by simp[z])) e⟩) (λ_ _ _ _ n=>n)
  (λb o B e=>⟨o,k b o (λz=>B (by simp[z])) e⟩) (λ_ _ e=>e) (λ_ _ _ e=>e) (λb ps e=>⟨#[],by rw[e];simp⟩) (λm U=>?_) (λb u e=>?_) D.bare
 .have e:b=it:=by simpa using O
  subst e;exact⟨h1,F,h2,J0⟩
 .obtain⟨o,es,ep,V,r⟩:=U;exact⟨o,es,ep,k _ o (Ne.symm F) V,r⟩
 .refine(D.hok b u e).stay (λc v B q=>k c v ?_ q) (λ_ q=>q) λ_ _ q=>q;rcases B with z|z
  .rw[z];exact G b u e
  .exact G c _ z
theorem Inv.tok(B:Inv X pins σ H s)(t:Nat):Inv X pins σ H { s with toks:=t }:=B.un (h':=s.heap) (t':=t) Un.refl B.hok
theorem Inv.kept{t':Nat}(B:Inv X pins σ H s)(k:∀b u,s.heap.get? b=some u->h'.get? b=some u):Inv X pins σ H { s with heap:=h',toks:=t' }:=B.un (Un.kept k) (B.hok.kept k)
theorem Inv.laid{a:Addr}{o:HO}{t':Nat}(B:Inv X pins σ H s)(k:∀b u,s.heap.get? b=some u->h'.get? b=some u)(D:s.heap.objs.size<=a)(F:ObjOk X.prog X.w (upd H a o) h' a o) :
  Inv X pins σ (upd H a o) { s with heap:=h',toks:=t' }:=B.un (Un.laid k D (B.hok.fresh D)) (B.hok.laid k D F)
theorem Inv.write{x e:Addr}{o:HO}{t':Nat}(B:Inv X pins σ H s)(D:Mut (H x))(F:e=x∨H e=some (.own x))(k:∀b u,b≠e->s.heap.get? b=some u->h'.get? b=some u)(G:∃u,h'.get? e=some u)(I:ObjOk X.prog X.w (upd H x o) h' x o):Inv X pins σ (upd H x o) { s with heap:=h',toks:=t' }:=B.un (Un.write D F k G) (B.hok.write D F k G I)
theorem Inv.pins_of{D:List (Addr×Obj)}(B:Inv X pins σ H s)(h:∀p∈D,s.heap.get? p.1=some p.2/\H p.1=none/\p.1≠X.env.locals/\p.1∉X.fs/\∀v,p.2.data≠.cell v):Inv X D σ H s:=
 ⟨B.ok,B.os,B.bare,B.base,B.loc,B.cell,B.free,B.freeC,λp F=>(List.mem_append.mp F).elim (λz=>B.pin p (List.mem_append_left _ z)) (h p),B.hok,B.len⟩
theorem zer{N:List Str}(B:N.Nodup){i j:Nat}{x:Str}(a:N[i]?=some x)(b:N[j]?=some x):i=j:=by
 obtain⟨h1,D⟩:=List.getElem?_eq_some_iff.mp a;obtain⟨h2,F⟩:=List.getElem?_eq_some_iff.mp b;exact(List.getElem_inj B).mp (D.trans F.symm)
theorem zff{M:Model}{A:Around}{E:Value->Shared->Prop}{i:Nat}{x:Str}{v:V}{u:Value}{Q:Unit->Shared->Prop}(B:Inv X pins σ H s)(ai:X.N.Nodup)(hi:X.N[i]?=some x)(G:Loc X.env.scope x)(r:RelV v u)(h:∀s',Inv X pins (σ.set i (some v)) H s'->(∃a,Heap.SameBut a s.heap s'.heap/\(a=X.env.locals∨X.env.cells.lookup x=some a))->Q () s')(ar:X.fn x=true∨X.env.scope.names.lookup x=some .local:=by first|exact .inl rfl|exact .inr rfl|assumption):wpAny M A (storeName X.env x u) Q E s:=by
 obtain⟨m,Y,aj⟩:=id B.loc;have as:(X.env.scope.kind==.class || (X.env.scope.kind==.module&&X.env.locals != X.env.globals))=false:=by rw[B.ok.kind];rfl
 have ak:i<σ.length:=by rw[B.len];exact(List.getElem?_eq_some_iff.mp hi).1
 have Z:=B.cne;have al:∀ {a:Addr} {h':Heap},(∃o,s.heap.get? a=some o/\H a=none)->Heap.SameBut a s.heap h'->HOk X.prog X.w H h':=λ{a h'} au D b ob e=>by
  obtain⟨_,_,am⟩:=au;refine(B.hok b ob e).stay (λc U hc q=>(D.2 c ?_).trans q) (λ_ q=>q) λ_ _ q=>q;rintro rfl;rcases hc with rfl|hc
  .rw[am] at e;cases e
  .rw[am] at hc;cases hc
 rcases G with hk|hk
 .refine wpAny_storeName_local hk Y (λh' av D=>?_) as;obtain⟨aw,_,_,ax,_⟩:=id Y;refine h _ ⟨B.ok,B.os,B.bare,⟨λb o e n J0 G=>?_,λb o e n J0 G=>?_,B.base.free,λb o e G=>?_,B.base.tups,B.base.frzs,B.base.tbls⟩,⟨_,av,λj y aa F I ab=>?_⟩,λy c e=>?_,B.free,B.freeC,λp ac=>?_,al ⟨aw,ax,B.free⟩ D,by simpa using B.len⟩ ⟨_,D,.inl J⟩
  .exact(D.2 b (Nat.ne_of_lt (Nat.lt_of_lt_of_le (Heap.lt_size e) B.ok.above))).trans (B.base.keep b o e n J0 G)
  .obtain⟨ad,F⟩:=B.base.slot b o e n J0 G;exact⟨ad,(D.2 b (Nat.ne_of_lt (Nat.lt_of_lt_of_le (Heap.lt_size e) B.ok.above))).trans F⟩
  .obtain⟨o',F⟩:=B.base.there b o e G;exact⟨o',(D.2 b (Nat.ne_of_lt (Nat.lt_of_lt_of_le (Heap.lt_size e) B.ok.above))).trans F⟩
  .by_cases O:j=i
   .subst O;rw[hi] at F;cases F;rw[List.getElem?_set_self ak] at I;cases I;exact⟨u,r,.inl ⟨hk,by simp⟩⟩
   .rw[List.getElem?_set_ne (Ne.symm O)] at I;obtain⟨ae,af,q⟩:=aj j y aa F I ab;refine⟨ae,af,?_⟩;rcases q with⟨k,e⟩|⟨k,c,e,z⟩
    .refine .inl ⟨k,?_⟩;have:y≠x:=λe=>O (zer ai F (e ▸ hi));simp[this,e]
    .exact .inr ⟨k,c,e,z.sameBut D (Z y c e)⟩
  .obtain⟨U,z⟩:=B.cell y c e;exact⟨U,z.sameBut D (Z y c e)⟩
  .obtain⟨e,n,ne,ag,d⟩:=B.pin p ac;exact⟨(D.2 p.1 ne).trans e,n,ne,ag,d⟩
 .have ah:X.fn x=true:=by
   rcases ar with z|z
   .exact z
   .rw[z] at hk;cases hk
  obtain⟨c,hc⟩:=B.ok.has x (.inl hk);obtain⟨U,z⟩:=B.cell x c hc;refine wpAny_storeName_cell B.ok.kind hk hc z (λh' ao D=>?_);obtain⟨oc,ap,ay⟩:=id z;refine h { s with heap:=h' } ⟨B.ok,B.os,B.bare,⟨λb o e n J0 G=>?_,λb o e n J0 G=>?_,B.base.free,λb o e G=>?_,B.base.tups,B.base.frzs,B.base.tbls⟩,⟨m,Y.sameBut D (Ne.symm (Z x c hc)),λj y aa F I ab=>?_⟩,λy W e=>?_,B.free,B.freeC,λp ac=>?_,al ⟨oc,ap,B.freeC x c hc⟩ D,by simpa using B.len⟩ ⟨c,D,.inr hc⟩
  .exact(D.2 b (Nat.ne_of_lt (Nat.lt_of_lt_of_le (Heap.lt_size e) (B.ok.cab x c ah hc)))).trans (B.base.keep b o e n J0 G)
  .obtain⟨ad,F⟩:=B.base.slot b o e n J0 G;exact⟨ad,(D.2 b (Nat.ne_of_lt (Nat.lt_of_lt_of_le (Heap.lt_size e) (B.ok.cab x c ah hc)))).trans F⟩
  .obtain⟨o',F⟩:=B.base.there b o e G;exact⟨o',(D.2 b (Nat.ne_of_lt (Nat.lt_of_lt_of_le (Heap.lt_size e) (B.ok.cab x c ah hc)))).trans F⟩
  .by_cases O:j=i
   .subst O;rw[hi] at F;cases F;rw[List.getElem?_set_self ak] at I;cases I;exact⟨u,r,.inr ⟨.inl hk,c,hc,ao⟩⟩
   .rw[List.getElem?_set_ne (Ne.symm O)] at I;obtain⟨ae,af,q⟩:=aj j y aa F I ab;refine⟨ae,af,?_⟩;rcases q with q|⟨k,W,e,z'⟩
    .exact .inl q
    .refine .inr ⟨k,W,e,z'.sameBut D ?_⟩;rintro rfl;exact O (zer ai F (B.ok.inj _ _ _ e hc ▸ hi))
  .by_cases aq:W=c
   .subst aq;exact⟨_,ao⟩
   .obtain⟨az,aA⟩:=B.cell y W e;exact⟨az,aA.sameBut D aq⟩
  .obtain⟨e,n,ne,ag,d⟩:=B.pin p ac;refine⟨(D.2 p.1 ?_).trans e,n,ne,ag,d⟩;intro q;rw[q,ap] at e;have aB:oc=p.2:=Option.some.inj e;exact d U (by rw[←aB];exact ay)
theorem zct{M:Model}{A:Around}{E:Value->Shared->Prop}{i:Nat}{x:Str}{v:V}{u:Value}{Q:Unit->Shared->Prop}(B:Inv X pins σ H s)(D:X.N.Nodup)(hi:X.N[i]?=some x)(F:Loc X.env.scope x)(r:RelV v u)(h:∀s',Inv X pins (σ.set i (some v)) H s'->Q () s')(G:X.fn x=true∨X.env.scope.names.lookup x=some .local:=by first|exact .inl rfl|exact .inr rfl|assumption):wpAny M A (storeName X.env x u) Q E s:=
 zff B D hi F r (λs' I _=>h s' I) G
theorem Inv.call'{s':Shared}{ch:List Addr}(B:Inv X pins σ H s)(D:s'.os=s.os)(u:Un (frs X.stack) ch H H' s.heap s'.heap)(F:HOk X.prog X.w H' s'.heap)(G:AllBare s'.gens)(I:∀b∈ch,(b∈X.ex∨X.s₀.heap.objs.size<=b)/\b≠X.env.locals/\(∀x c,X.env.cells.lookup x=some c->c≠b)/\∀p∈X.pn++pins,p.1≠b):Inv X pins σ H' s':=by
 obtain⟨h',g',d',t',o'⟩:=s';have e:o'=s.os:=D;subst e;exact B.call (g':=g') (t':=t') (d':=d') u F G I
end
noncomputable abbrev XK:=Value->Option Addr->Hp->Prop
noncomputable abbrev St:=List (Option V)
noncomputable abbrev VK:=V->Hp->Prop
noncomputable abbrev TE:=St->Hp->VK->Prop
noncomputable abbrev TT:=St->Hp->(Bool->Hp->Prop)->Prop
noncomputable abbrev TA:=St->Hp->(List V->Hp->Prop)->Prop
structure Ends where
 nx:St->Hp->Prop
 rt:VK
 bk:St->Hp->Prop:=λ_ _=>False
 ct:St->Hp->Prop:=λ_ _=>False
noncomputable abbrev TS:=Ends->St->Hp->Prop
noncomputable def EP(X:Cx)(pins:List (Addr×Obj))(σ:St)(Q:VK)(u:Value)(s':Shared):Prop:=∃v H',Inv X pins σ H' s'/\RelV v u/\Q v H'
noncomputable def TP(X:Cx)(pins:List (Addr×Obj))(σ:St)(Q:Bool->Hp->Prop)(b:Bool)(s':Shared):Prop:=∃H',Inv X pins σ H' s'/\Q b H'
noncomputable def AP(X:Cx)(pins:List (Addr×Obj))(σ:St)(Q:List V->Hp->Prop)(us:List Value)(s':Shared):Prop:=∃vs H',Inv X pins σ H' s'/\Vals vs us/\Q vs H'
noncomputable def SP(X:Cx)(pins:List (Addr×Obj))(D:Ends)(f:Flow)(s':Shared):Prop:=
 match f with
 |.next=>∃σ' H',Inv X pins σ' H' s'/\D.nx σ' H'
 |.brk=>∃σ' H',Inv X pins σ' H' s'/\D.bk σ' H'
 |.cont=>∃σ' H',Inv X pins σ' H' s'/\D.ct σ' H'
 |.ret u=>∃v σ' H',Inv X pins σ' H' s'/\RelV v u/\D.rt v H'
noncomputable def PE(X:Cx)(e:Expr)(t:TE):Prop:=
 ∀(pins:List (Addr×Obj)) (s:Shared) (σ:St) (H:Hp) (Q:VK),Inv X pins σ H s->t σ H Q->wpAny (model X.prog X.w) X.A (eval e X.env) (EP X pins σ Q) X.xe s
noncomputable def PT(X:Cx)(e:Expr)(t:TT):Prop:=
 ∀(pins:List (Addr×Obj)) (s:Shared) (σ:St) (H:Hp) (Q:Bool->Hp->Prop),Inv X pins σ H s->t σ H Q->wpAny (model X.prog X.w) X.A (isTrue e X.env (eval e X.env)) (TP X pins σ Q) X.xe s
noncomputable def PW(X:Cx)(e:Expr)(t:TT):Prop:=
 ∀(B:Sem Value) (pins:List (Addr×Obj)) (s:Shared) (σ:St) (H:Hp) (Q:Bool->Hp->Prop),Inv X pins σ H s->t σ H Q->wpAny (model X.prog X.w) X.A (isTrue e X.env B) (TP X pins σ Q) X.xe s
theorem PW.pt{X:Cx}{e:Expr}{t:TT}(h:PW X e t):PT X e t:=h _
noncomputable def PA(X:Cx)(es:List Expr)(t:TA):Prop:=
 ∀(pos:Pos) (pins:List (Addr×Obj)) (s:Shared) (σ:St) (H:Hp) (Q:List V->Hp->Prop),Inv X pins σ H s->t σ H Q->wpAny (model X.prog X.w) X.A (spliced (backTo pos (starEach es X.env))) (AP X pins σ Q) X.xe s
noncomputable def PS(X:Cx)(st:Stmt)(t:TS):Prop:=
 ∀(pins:List (Addr×Obj)) (s:Shared) (σ:St) (H:Hp) (D:Ends),Inv X pins σ H s->t D σ H->wpAny (model X.prog X.w) X.A (exec st X.env) (SP X pins D) X.xe s
noncomputable def PSs(X:Cx)(st:List Stmt)(t:TS):Prop:=
 ∀(pins:List (Addr×Obj)) (s:Shared) (σ:St) (H:Hp) (D:Ends),Inv X pins σ H s->t D σ H->wpAny (model X.prog X.w) X.A (execs st X.env) (SP X pins D) X.xe s
theorem thn{B:Type}{t:Sem B}{Q D:B->Shared->Prop}{M:Model}{A:Around}{E:Value->Shared->Prop}{s:Shared}(h:wpAny M A t Q E s)(F:∀a s,Q a s->D a s):wpAny M A t D E s:=wpAny_mono h F λ_ _ x=>x
section
variable {X:Cx}
theorem bin{a b:Expr}{ta tb:TE}(G:PE X a ta)(I:PE X b tb){pins:List (Addr×Obj)}{s:Shared}{σ:St}{H:Hp}{R:V->V->Hp->Prop}(J0:Inv X pins σ H s)(h:ta σ H λx H1=>tb σ H1 λy H2=>R x y H2){F:Type}{Q:F->Shared->Prop}{f:Value->Value->Sem F}(O:∀v u B x y H2,Inv X pins σ H2 B->RelV x v->RelV y u->R x y H2->wpAny (model X.prog X.w) X.A (f v u) Q X.xe B) :
  wpAny (model X.prog X.w) X.A (eval a X.env) (λv U=>wpAny (model X.prog X.w) X.A (eval b X.env) (λu W=>wpAny (model X.prog X.w) X.A (f v u) Q X.xe W) X.xe U) X.xe s:=by
 refine thn (G pins s σ H _ J0 h) λv Y D=>?_;obtain⟨x,H1,Z,aa,q1⟩:=D;refine thn (I pins Y σ H1 _ Z q1) λu B D=>?_;obtain⟨y,H2,ab,ac,ad⟩:=D;exact O v u B x y H2 ab aa ac ad
noncomputable def tVar(i:Nat):TE:=λσ H Q=>∃v,σ[i]?=some (some v)/\Q v H
noncomputable def tC(v:V):TE:=λ_ H Q=>Q v H
theorem zlR{i:Nat}{x:Str}{pos:Pos}(J0:X.N[i]?=some x)(O:Vis X.env.scope x)(D:(x==("__debug__":Str))=false:=by decide)(U:(x==("__classdict__":Str))=false:=by decide):PE X (.Name x pos) (tVar i):=by
 intro pins s σ H Q B h;obtain⟨v,e,h⟩:=h;obtain⟨m,V,W⟩:=B.loc;obtain⟨u,r,l⟩:=W i x v J0 e O;have F:EP X pins σ Q u s:=⟨v,H,B,r,h⟩;rcases l with⟨hk,Y⟩|⟨hk,c,G,I⟩
 .exact wpAny_Name (wpAny_loadName_local B.ok.kind hk V Y F) D
 .rcases hk with hk|hk
  .exact wpAny_Name (wpAny_loadName_cell B.ok.kind hk G I F) D
  .exact wpAny_Name (wpAny_loadName_free B.ok.kind hk G I F U) D
theorem zaf{i j pos}:PE X (.Constant (.int i) j pos) (tC (.int i)):=λ_ _ _ H _ B h=>wpAny_Constant_int ⟨.int i,H,B.tok _,⟨_,J⟩,h⟩
theorem zd6{b j pos}:PE X (.Constant (.bool b) j pos) (tC (.bl b)):=λ_ _ _ H _ B h=>Constant_bool ⟨.bl b,H,B,J,h⟩
theorem zea{j pos}:PE X (.Constant .none j pos) (tC .non):=λ_ _ _ H _ B h=>Constant_none ⟨.non,H,B,J,h⟩
theorem zay{x j pos}:PE X (.Constant (.str x) j pos) (tC (.str x)):=λ_ _ _ H _ B h=>Calls.Constant_str ⟨.str x,H,B.tok _,⟨_,J⟩,h⟩
noncomputable def Gl(X:Cx)(x:Str):Prop:=X.env.kindOf x=some .globalImplicit
theorem zcG{E:Value->Shared->Prop}{pins:List (Addr×Obj)}{s:Shared}{σ:St}{H:Hp}{x:Str}{u:Value}{pos:Pos}{Q:Value->Shared->Prop}(B:Inv X pins σ H s)(D:Gl X x)(F:X.mg x=some u)(h:Q u s)(G:(x==("__debug__":Str))=false:=by decide):wpAny (model X.prog X.w) X.A (eval (.Name x pos) X.env) Q E s:=
 Calls.Name_function_global B.ok.kind D (Calls.loadGlobal_global (by rw[B.ok.glob];exact B.mod.glob.keeps B.bk) F h) G
theorem zcE{E:Value->Shared->Prop}{pins:List (Addr×Obj)}{s:Shared}{σ:St}{H:Hp}{x:Str}{u:Value}{pos:Pos}{Q:Value->Shared->Prop}(B:Inv X pins σ H s)(D:Gl X x)(F:X.mg x=none)(G:bootBuiltins x=some u)(h:Q u s)(I:x≠"__name__":=by decide)(J0:(x==("__debug__":Str))=false:=by decide):wpAny (model X.prog X.w) X.A (eval (.Name x pos) X.env) Q E s:=by
 obtain⟨O,h1,h2⟩:=B.mod.blt;exact Calls.Name_function_global B.ok.kind D (Calls.loadGlobal_builtin (by rw[B.ok.glob];exact B.mod.glob.keeps B.bk) F (by rw[B.ok.blt];exact h1.keeps B.bk) ((h2 x I).trans G) h) J0
theorem zes{x:Str}{v:V}{u:Value}{pos:Pos}(D:Gl X x)(F:X.mg x=some u)(r:RelV v u)(G:(x==("__debug__":Str))=false:=by decide):PE X (.Name x pos) (tC v):=
 λ_ _ _ H _ B h=>zcG B D F ⟨v,H,B,r,h⟩ G
theorem zkX{x:Str}{v:V}{u:Value}{pos:Pos}(D:Gl X x)(F:X.mg x=none)(G:bootBuiltins x=some u)(r:RelV v u)(I:x≠"__name__":=by decide)(J0:(x==("__debug__":Str))=false:=by decide):PE X (.Name x pos) (tC v):=
 λ_ _ _ H _ B h=>zcE B D F G ⟨v,H,B,r,h⟩ I J0
variable {a b:Expr}{ta tb:TE}{pos:Pos}
noncomputable def PC(X:Cx)(op:CmpOp)(a b:Expr)(t:TE):Prop:=
 ∀(pins:List (Addr×Obj)) (s:Shared) (σ:St) (H:Hp) (Q:VK),Inv X pins σ H s->t σ H Q ->
  wpAny (model X.prog X.w) X.A (eval a X.env) (λv B=>wpAny (model X.prog X.w) X.A (eval b X.env) (λu D=>wpAny (model X.prog X.w) X.A (compareOp op v u) (EP X pins σ Q) X.xe D) X.xe B) X.xe s
noncomputable def tB(t:TE):TT:=λσ H Q=>t σ H λx H1=>∃c,x=.bl c/\Q c H1
theorem zlS{op:CmpOp}{t:TE}(h:PC X op a b t)(h1:behindInMarks op b=false:=by first|exact nobehind _ (by decide) (by decide)|rfl):PE X (.Compare a [op] [b] pos) t:=λpins s σ H Q B hw=>wpAny_Compare1 (h pins s σ H Q B hw) h1
theorem zhL{op:CmpOp}{t:TE}(h:PC X op a b t)(h1:behindInMarks op b=false:=by first|exact nobehind _ (by decide) (by decide)|rfl):PT X (.Compare a [op] [b] pos) (tB t):=by
 intro pins s σ H Q B hw;refine wpAny_isTrue_Compare1 (thn (h pins s σ H _ B hw) λv I h1=>thn h1 λu J0 h2=>thn h2 λc O D=>?_) h1;obtain⟨x,H1,F,G,q1⟩:=D;obtain⟨d,rfl,q⟩:=q1;cases G;exact wpAny_truthy_bool ⟨H1,F,q⟩
theorem zeb{e:Expr}{t:TE}(h:PE X e t)(D:∀B,isTrue e X.env B=(do let v ← B;standAt e.pos;holding [v] (truthy v)):=by intro _;rfl):PT X e (tB t):=by
 intro pins s σ H Q F hw;refine isTrue_plain (thn (h pins s σ H _ F hw) λv O G=>?_) (D _);obtain⟨x,H1,I,J0,q1⟩:=G;obtain⟨d,rfl,q⟩:=q1;cases J0;exact wpAny_truthy_bool ⟨H1,I,q⟩
variable {tA tB':TT}{rest:List Expr}
noncomputable def tAnd(t u:TT):TT:=λσ H Q=>t σ H λc H1=>if c=true then u σ H1 Q else Q false H1
noncomputable def tOr(t u:TT):TT:=λσ H Q=>t σ H λc H1=>if c=true then Q true H1 else u σ H1 Q
noncomputable def tNot(t:TT):TT:=λσ H Q=>t σ H λc H1=>Q (!c) H1
theorem zbZ(B:PT X a tA):PW X (.BoolOp .And [a] pos) tA:=by
 intro F pins s σ H Q D h;refine isTrue_and (thn (B pins s σ H Q D h) λc G e=>?_);cases c with
 |true=>exact isTrue_and_nil e
 |false=>exact e
theorem zky(B:PT X a tA):PW X (.BoolOp .Or [a] pos) tA:=by
 intro F pins s σ H Q D h;refine isTrue_or (thn (B pins s σ H Q D h) λc G e=>?_);cases c with
 |false=>exact isTrue_or_nil e
 |true=>exact e
theorem zcF(D:PT X a tA)(F:PW X (.BoolOp .And (b::rest) pos) tB'):PW X (.BoolOp .And (a::b::rest) pos) (tAnd tA tB'):=by
 intro G pins s σ H Q I h;refine isTrue_and (thn (D pins s σ H _ I h) λc J0 O=>?_);obtain⟨H1,B,q1⟩:=O;cases c with
 |true=>exact F G pins J0 σ H1 Q B q1
 |false=>exact⟨H1,B,q1⟩
theorem zlT(D:PT X a tA)(F:PW X (.BoolOp .Or (b::rest) pos) tB'):PW X (.BoolOp .Or (a::b::rest) pos) (tOr tA tB'):=by
 intro G pins s σ H Q I h;refine isTrue_or (thn (D pins s σ H _ I h) λc J0 O=>?_);obtain⟨H1,B,q1⟩:=O;cases c with
 |true=>exact⟨H1,B,q1⟩
 |false=>exact F G pins J0 σ H1 Q B q1
theorem zdD(B:PT X a tA):PT X (.UnaryOp .Not a pos) (tNot tA):=by
 intro pins s σ H Q D h;exact isTrue_not (B pins s σ H (λc H1=>Q (!c) H1) D h)
noncomputable def tAndV(ta tb:TE):TE:=λσ H Q=>ta σ H λx H1=>∃c,x=.bl c/\if c=true then tb σ H1 Q else Q (.bl false) H1
noncomputable def tNotV(ta:TE):TE:=λσ H Q=>ta σ H λx H1=>∃c,x=.bl c/\Q (.bl (!c)) H1
theorem zkz{op}{t:TE}(h:PE X a t):PE X (.BoolOp op [a] pos) t:=λpins s σ H Q B hw=>BoolOp_one (h pins s σ H Q B hw)
theorem zkA(D:PE X a ta)(F:PE X (.BoolOp .And (b::rest) pos) tb):PE X (.BoolOp .And (a::b::rest) pos) (tAndV ta tb):=by
 intro pins s σ H Q G h;refine BoolOp_and (thn (D pins s σ H _ G h) λv I J0=>?_);obtain⟨x,H1,B,O,q1⟩:=J0;obtain⟨c,rfl,q1⟩:=q1;cases O;refine wpAny_truthy_bool ?_;cases c with
 |true=>exact F pins I σ H1 Q B q1
 |false=>exact⟨.bl false,H1,B,J,q1⟩
theorem zlU(B:PE X a ta):PE X (.UnaryOp .Not a pos) (tNotV ta):=by
 intro pins s σ H Q D h;refine UnaryOp_ (thn (B pins s σ H _ D h) λv J0 F=>?_);obtain⟨x,H1,G,I,q1⟩:=F;obtain⟨c,rfl,q1⟩:=q1;cases I;exact not_of (wpAny_truthy_bool ⟨.bl (!c),H1,G,J,q1⟩)
end
noncomputable def SqL(K:W.Frag)(H:Hp)(a:Addr)(xs:List V):Prop:=
 Rd H a (.lst xs) ∨
  ∃(o:Obj) (its:Array Value) (n:Nat),K.lookup a=some o/\o.cls=.type "list"/\o.dict=none/\o.data=.seq its n/\its.size<=sizeLine/\Vals xs its.toList
noncomputable def SqT(K:W.Frag)(H:Hp)(a:Addr)(xs:List V):Prop:=
 Rd H a (.tup xs) ∨
  ∃(o:Obj) (its:Array Value) (n:Nat),K.lookup a=some o/\o.cls=.type "tuple"/\o.data=.seq its n/\its.size<=sizeLine/\Vals xs its.toList
noncomputable def absV:Value->Option V
 |.none=>some .non
 |.bool b=>some (.bl b)
 |.int i _=>some (.int i)
 |.str x _=>some (.str x)
 |.bytes b _=>some (.byt b)
 |.float b _=>some (.flt b)
 |.ref a=>some (.ref a)
 |.type n=>some (.ty n)
 |_=>none
theorem RelV.abs{x:V}{u:Value}(r:RelV x u):absV u=some x:=by
 cases x with
 |non=>cases r;rfl
 |bl _=>cases r;rfl
 |int _=>obtain⟨t,rfl⟩:=r;rfl
 |str _=>obtain⟨t,rfl⟩:=r;rfl
 |byt _=>obtain⟨t,rfl⟩:=r;rfl
 |flt _=>obtain⟨t,rfl⟩:=r;rfl
 |ref _=>cases r;rfl
 |ty _=>cases r;rfl
theorem RelV.inj{x y:V}{u:Value}(r:RelV x u)(q:RelV y u):x=y:=Option.some.inj (r.abs.symm.trans q.abs)
theorem Vals.inj:∀ {xs ys:List V}{us:List Value},Vals xs us->Vals ys us->xs=ys
 |_,_,_,.nil,.nil=>rfl
 |_,_,_,.cons r t,.cons B t'=>by rw[r.inj B,Vals.inj t t']
section
variable {X:Cx}{pins:List (Addr×Obj)}{σ:St}{H:Hp}{s:Shared}{a:Addr}{xs ys:List V}
theorem SqL.of{K:W.Frag}(h:H a=some (.lst xs)):SqL K H a xs:=.inl (.inl h)
theorem SqT.of{K:W.Frag}(h:H a=some (.tup xs)):SqT K H a xs:=.inl (.inl h)
theorem Inv.list(B:Inv X pins σ H s)(h:SqL X.K H a xs):∃its:List Value,Vals xs its/\PlainL s.heap a its.toArray/\xs.length<=sizeLine:=by
 rcases h with h|⟨o,its,n,D,F,G,I,J0,r⟩
 .obtain⟨z,its,n,r,e⟩:=h.ok B.hok;exact⟨its,r,⟨_,n,e,J,J,J⟩,z⟩
 .refine⟨its.toList,r,⟨o,n,B.kIn a o D,F,G,by simpa using I⟩,?_⟩;have e:=r.length;simp only[Array.length_toList] at e;omega
theorem Inv.tuple(B:Inv X pins σ H s)(h:SqT X.K H a xs):∃its:List Value,Vals xs its/\IsTup s.heap a its.toArray/\xs.length<=sizeLine:=by
 rcases h with h|⟨o,its,n,D,F,G,I,r⟩
 .obtain⟨z,its,r,p⟩:=h.ok B.hok;exact⟨its,r,p,z⟩
 .refine⟨its.toList,r,⟨o,B.kIn a o D,F,n,by simpa using G⟩,?_⟩;have e:=r.length;simp only[Array.length_toList] at e;omega
theorem Inv.list_inj(B:Inv X pins σ H s)(h:SqL X.K H a xs)(h':SqL X.K H a ys):xs=ys:=by
 obtain⟨its,r,⟨o,n,e,_,_,d⟩,_⟩:=B.list h;obtain⟨its',F,⟨o',I,D,_,_,d'⟩,_⟩:=B.list h';rw[e] at D;cases D;rw[d] at d';injection d' with G _;have:its=its':=by simpa using congrArg Array.toList G
 subst this;exact r.inj F
theorem Inv.tuple_inj(B:Inv X pins σ H s)(h:SqT X.K H a xs)(h':SqT X.K H a ys):xs=ys:=by
 obtain⟨its,r,⟨o,e,_,n,d⟩,_⟩:=B.tuple h;obtain⟨its',F,⟨o',D,_,I,d'⟩,_⟩:=B.tuple h';rw[e] at D;cases D;rw[d] at d';injection d' with G _;have:its=its':=by simpa using congrArg Array.toList G
 subst this;exact r.inj F
end
noncomputable abbrev Cx.wish(X:Cx)(E:Value->Shared->Prop):Cx:={ X with xe:=E }
noncomputable abbrev Cx.nox(X:Cx):Cx:=X.wish λ_ _=>False
theorem Cx.Ok.wish{X:Cx}(B:X.Ok)(E:Value->Shared->Prop):(X.wish E).Ok:=
 ⟨B.mod,B.kind,B.glob,B.blt,B.above,B.inj,B.has,B.cab,B.hd,B.frames,B.stk,B.exf,B.bs,B.bsz,B.noex,B.exfs,B.funs,B.frf⟩
theorem Cx.Ok.unwish{X:Cx}{E:Value->Shared->Prop}(B:(X.wish E).Ok):X.Ok:=
 ⟨B.mod,B.kind,B.glob,B.blt,B.above,B.inj,B.has,B.cab,B.hd,B.frames,B.stk,B.exf,B.bs,B.bsz,B.noex,B.exfs,B.funs,B.frf⟩
section
variable {X:Cx}{pins:List (Addr×Obj)}{σ:St}{H:Hp}{s:Shared}{E:Value->Shared->Prop}
theorem Inv.wish(B:Inv X pins σ H s)(E:Value->Shared->Prop):Inv (X.wish E) pins σ H s:=⟨B.ok.wish E,B.os,B.bare,B.base,B.loc,B.cell,B.free,B.freeC,B.pin,B.hok,B.len⟩
theorem Inv.unwish(B:Inv (X.wish E) pins σ H s):Inv X pins σ H s:=⟨B.ok.unwish,B.os,B.bare,B.base,B.loc,B.cell,B.free,B.freeC,B.pin,B.hok,B.len⟩
theorem SP.unwish{D:Ends}{f:Flow}{s':Shared}(h:SP (X.wish E) pins D f s'):SP X pins D f s':=by
 cases f with
 |next=>obtain⟨σ',H',B,q⟩:=h;exact⟨σ',H',B.unwish,q⟩
 |brk=>obtain⟨σ',H',B,q⟩:=h;exact⟨σ',H',B.unwish,q⟩
 |cont=>obtain⟨σ',H',B,q⟩:=h;exact⟨σ',H',B.unwish,q⟩
 |ret u=>obtain⟨v,σ',H',B,r,q⟩:=h;exact⟨v,σ',H',B.unwish,r,q⟩
theorem PSs.nox{st:List Stmt}{t:TS}(h:PSs X.nox st t):PSs X st t:=λpins s σ H D B hw=>
 wpAny_mono (h pins s σ H D (B.wish _) hw) (λ_ _ q=>q.unwish) λ_ _ z=>False.elim z
end
section
variable {X:Cx}{st:Stmt}{rest:List Stmt}{t u:TS}{e:Expr}{te:TE}{pos:Pos}
noncomputable def tNext:TS:=λD σ H=>D.nx σ H
noncomputable def tSeq(t u:TS):TS:=λD σ H=>t { D with nx:=u D } σ H
theorem zaA:PSs X [] tNext:=λ_ _ σ H _ B h=>wpAny_execs_nil ⟨σ,H,B,h⟩
theorem zac(h1:PS X st t)(h2:PSs X rest u):PSs X (st::rest) (tSeq t u):=by
 intro pins s σ H D B h;refine wpAny_execs_cons (thn (h1 pins s σ H { D with nx:=u D } B h) λf F q=>?_);cases f with
 |next=>
  obtain⟨σ',H',G,q⟩:=q;exact h2 pins F σ' H' D G q
 |ret v=>exact q
 |brk=>exact q
 |cont=>exact q
theorem zai(h1:PS X st t):PSs X [st] t:=by
 intro pins s σ H D B h;refine wpAny_execs_cons (thn (h1 pins s σ H D B h) λf F q=>?_);cases f with
 |next=>exact wpAny_execs_nil q
 |ret v=>exact q
 |brk=>exact q
 |cont=>exact q
theorem Inv.quiet{pins:List (Addr×Obj)}{σ:St}{H:Hp}{s:Shared}(B:Inv X pins σ H s):interactive X.env=false:=by simp[interactive,B.ok.kind]
noncomputable def tDrop(te:TE):TS:=λD σ H=>te σ H λ_ H1=>D.nx σ H1
theorem zaU(F:PE X e te)(G:swapsWith e none pos.line X.env=pure false:=by rfl):PS X (.Expr e pos) (tDrop te):=by
 intro pins s σ H D B h;refine wpAny_Expr_any (thn (F pins s σ H _ B h) λv O I=>?_) B.quiet G;obtain⟨x,H1,J0,U,q1⟩:=I;exact⟨σ,H1,J0,q1⟩
noncomputable def tRet(te:TE):TS:=λD σ H=>te σ H D.rt
theorem zax(B:PE X e te):PS X (.Return (some e) pos) (tRet te):=by
 intro pins s σ H D F h;refine wpAny_Return_some (thn (B pins s σ H _ F h) λv O G=>?_);obtain⟨x,H1,I,J0,q1⟩:=G;exact⟨x,σ,H1,I,J0,q1⟩
noncomputable def tIfS(c:TT)(t u:TS):TS:=λD σ H=>c σ H λb H1=>if b=true then t D σ H1 else u D σ H1
theorem zaY{c:Expr}{a b:List Stmt}{tc:TT}(G:PT X c tc)(I:PSs X a t)(J0:PSs X b u):PS X (.If c a b pos) (tIfS tc t u):=by
 intro pins s σ H D O h;refine wpAny_If (thn (G pins s σ H _ O h) λd B U=>?_);obtain⟨H1,F,q1⟩:=U;cases d with
 |true=>exact I pins B σ H1 D F q1
 |false=>exact J0 pins B σ H1 D F q1
noncomputable def zlV:TS:=λ_ _ _=>False
theorem zbQ{B:List Stmt}:PSs X B zlV:=λ_ _ _ _ _ _ h=>h.elim
end
noncomputable abbrev TG:=V->St->Hp->(St->Hp->Prop)->Prop
noncomputable abbrev TGs:=List V->St->Hp->(St->Hp->Prop)->Prop
noncomputable def PG(X:Cx)(B:Expr)(t:TG):Prop:=
 ∀(pins:List (Addr×Obj)) (s:Shared) (σ:St) (H:Hp) (v:V) (u:Value) (Q:St->Hp->Prop),Inv X pins σ H s->RelV v u->t v σ H Q ->
  wpAny (model X.prog X.w) X.A (assign B X.env u) (λ_ s'=>∃σ' H',Inv X pins σ' H' s'/\Q σ' H') X.xe s
noncomputable def PGs(X:Cx)(ts:List Expr)(t:TGs):Prop:=
 ∀(pins:List (Addr×Obj)) (s:Shared) (σ:St) (H:Hp) (vs:List V) (us:List Value) (Q:St->Hp->Prop),Inv X pins σ H s->Vals vs us->t vs σ H Q ->
  wpAny (model X.prog X.w) X.A (assignInOrder ((assignEach ts X.env).map (·.2)) us) (λ_ s'=>∃σ' H',Inv X pins σ' H' s'/\Q σ' H') X.xe s
noncomputable abbrev TSet:=V->V->V->Hp->(Hp->Prop)->Prop
noncomputable def PSet(X:Cx)(t:TSet):Prop:=
 ∀(pins:List (Addr×Obj)) (s:Shared) (σ:St) (H:Hp) (o i v:V) (B D u:Value) (Q:Hp->Prop),Inv X pins σ H s->RelV o B->RelV i D->RelV v u->t o i v H Q ->
  wpAny (model X.prog X.w) X.A (setItem B D u) (λ_ s'=>∃H',Inv X pins σ H' s'/\Q H') X.xe s
noncomputable abbrev TIp:=V->V->Hp->VK->Prop
noncomputable def PIp(X:Cx)(op:Operator)(t:TIp):Prop:=
 ∀(pins:List (Addr×Obj)) (s:Shared) (σ:St) (H:Hp) (x y:V) (v u:Value) (Q:VK),Inv X pins σ H s->RelV x v->RelV y u->t x y H Q ->
  wpAny (model X.prog X.w) X.A (inplaceOp op v u) (EP X pins σ Q) X.xe s
section
variable {X:Cx}{pos:Pos}
noncomputable def gName(i:Nat):TG:=λv σ H Q=>Q (σ.set i (some v)) H
theorem zaq{i:Nat}{x:Str}(B:X.N.Nodup)(hi:X.N[i]?=some x)(D:Loc X.env.scope x)(F:X.fn x=true∨X.env.scope.names.lookup x=some .local:=by first|exact .inl rfl|exact .inr rfl|assumption):PG X (.Name x pos) (gName i):=by
 intro pins s σ H v u Q G r h;exact wpAny_assign_Name (zct G B hi D r (λs' I=>⟨_,H,I,h⟩) F)
noncomputable def gNil:TGs:=λvs σ H Q=>vs=[]/\Q σ H
noncomputable def gCons(t:TG)(u:TGs):TGs:=λvs σ H Q=>∃v r,vs=v::r/\t v σ H λσ' H'=>u r σ' H' Q
theorem za6:PGs X [] gNil:=by
 intro pins s σ H vs us Q B r h;obtain⟨e,h⟩:=h;subst e;cases r;exact assignInOrder_nil ⟨σ,H,B,h⟩
theorem zaw{e:Expr}{es:List Expr}{t:TG}{u:TGs}(h1:PG X e t)(h2:PGs X es u)(B:(assignEach (e::es) X.env).map (·.2)=assign e X.env::(assignEach es X.env).map (·.2):=by rfl):PGs X (e::es) (gCons t u):=by
 intro pins s σ H vs us Q D r h;obtain⟨v,V,F,h⟩:=h;subst F;cases r with
 |cons r G=>
  rw[B];refine assignInOrder_cons (thn (h1 pins s σ H _ _ _ D r h) λ_ I J0=>?_);obtain⟨O,H1,U,q1⟩:=J0;exact h2 pins I O H1 _ _ Q U G q1
noncomputable def gTup(K:W.Frag)(n:Nat)(t:TGs):TG:=λv σ H Q=>∃a xs,v=.ref a/\SqT K H a xs/\xs.length=n/\t xs σ H Q
theorem zbF{es:List Expr}{k:Nat}{t:TGs}{n:Nat}(F:X.calm=true)(h:PGs X es t)(G:(assignEach es X.env).length=n:=by rfl)(I:(assignEach es X.env).findIdx? (·.1)=none:=by rfl):PG X (.Tuple es k pos) (gTup X.K n t):=by
 intro pins s σ H v u Q B r hw;obtain⟨a,xs,J0,O,U,hw⟩:=hw;subst J0;cases r;obtain⟨its,D,V,Z⟩:=B.tuple O;refine assign_Tuple_tuple (B.ok.hd F) V (by simp[G,←U,D.length]) I λh' W=>?_;have Y:Inv X pins σ H { s with heap:=h' }:=B.kept (t':=s.toks) λb o e=>W b o (Nat.ne_of_lt (Heap.lt_size e)) e;exact h pins _ σ H xs _ Q Y (by simpa using D) hw
noncomputable def gSub(to ti:TE)(t:TSet):TG:=λv σ H Q=>to σ H λo H1=>ti σ H1 λi H2=>t o i v H2 λB=>Q σ B
theorem zgq{o i:Expr}{to ti:TE}{t:TSet}(G:PE X o to)(hi:PE X i ti)(I:PSet X t)(J0:∀v,assign (.Subscript o i pos) X.env v=(do
   let B ← holding [v] (eval o X.env);let D ← holding [v,B] (eval i X.env)
   standAt pos
   holding [v,B,D] (setItem B D v)
   release [v,B,D] []):=by intro _;rfl):PG X (.Subscript o i pos) (gSub to ti t):=by
 intro pins s σ H v u Q O r h;rw[J0];refine wpAny_bind (wpAny_holding (thn (G pins s σ H _ O h) λB U F=>?_));obtain⟨x,H1,V,W,q1⟩:=F;refine wpAny_bind (wpAny_holding (thn (hi pins U σ H1 _ V q1) λD Y F=>?_));obtain⟨y,H2,Z,aa,ab⟩:=F;refine wpAny_bind (wpAny_standAt (wpAny_bind (wpAny_holding (thn (I pins Y σ H2 x y v B D u _ Z W aa r ab) λ_ af F=>?_))));obtain⟨ac,ad,ae⟩:=F;exact wpAny_release ⟨σ,ac,ad,ae⟩
noncomputable def tAsg(te:TE)(g:TG):TS:=λD σ H=>te σ H λx H1=>g x σ H1 D.nx
theorem zbz{tg e:Expr}{te:TE}{g:TG}(B:PE X e te)(F:PG X tg g)(G:swapsWithSole [tg] e pos.line X.env=pure false:=by rfl)(hw:swappedStores [tg] e X.env=pure none:=by rfl)(h1:(assignEach [tg] X.env).map (·.2)=[assign tg X.env]:=by rfl):PS X (.Assign [tg] e pos) (tAsg te g):=by
 intro pins s σ H D I h;refine wpAny_Assign_stores (thn (B pins s σ H _ I h) λv J0 O=>?_) G hw;obtain⟨x,H1,U,V,q1⟩:=O;rw[h1];exact thn (F pins J0 σ H1 x v _ U V q1) λ_ W q=>q
theorem zap{i:Nat}{x:Str}{e:Expr}{te:TE}{pos':Pos}(B:X.N.Nodup)(hi:X.N[i]?=some x)(F:Loc X.env.scope x)(G:PE X e te)(I:swapsWith e (some (.Name x pos')) pos.line X.env=pure false:=by rfl)(J0:X.fn x=true∨X.env.scope.names.lookup x=some .local:=by first|exact .inl rfl|exact .inr rfl|assumption) :
  PS X (.Assign [.Name x pos'] e pos) (tAsg te (gName i)):=by
 intro pins s σ H D O h;refine wpAny_Assign_Name (thn (G pins s σ H _ O h) λv Z U=>?_) I;obtain⟨y,H1,V,W,q1⟩:=U;exact zct V B hi F W (λaa Y=>⟨_,H1,Y,q1⟩) J0
noncomputable def tAug(i:Nat)(te:TE)(ti:TIp):TS:=λD σ H=>∃x,σ[i]?=some (some x)/\te σ H λy H1=>ti x y H1 λz H2=>D.nx (σ.set i (some z)) H2
theorem zkB{i:Nat}{x:Str}{e:Expr}{te:TE}{op:Operator}{ti:TIp}{pos':Pos}(I:X.N.Nodup)(hi:X.N[i]?=some x)(F:Loc X.env.scope x)(J0:PE X e te)(O:PIp X op ti)(U:X.fn x=true∨X.env.scope.names.lookup x=some .local:=by first|exact .inl rfl|exact .inr rfl|assumption) :
  PS X (.AugAssign (.Name x pos') op e pos) (tAug i te ti):=by
 intro pins s σ H D B h;obtain⟨v,V,h⟩:=h;obtain⟨m,W,Y⟩:=B.loc;have Z:Vis X.env.scope x:=by rcases F with k|k;exact .inl k;exact .inr (.inl k)
 obtain⟨u,r,l⟩:=Y i x v hi V Z;refine wpAny_AugAssign_Name ?_;have go:wpAny (model X.prog X.w) X.A (eval e X.env) (λw aa=>wpAny (model X.prog X.w) X.A (inplaceOp op u w) (λr ab=>wpAny (model X.prog X.w) X.A (storeName X.env x r) (λ_=>SP X pins D .next) X.xe ab) X.xe aa) X.xe s:=by
  refine thn (J0 pins s σ H _ B h) λw ac G=>?_;obtain⟨y,H1,ad,ae,q1⟩:=G;refine thn (O pins ac σ H1 v y u w _ ad r ae q1) λz am G=>?_;obtain⟨ao,H2,af,ag,ah⟩:=G;exact zct af I hi F ag (λap ai=>⟨_,H2,ai,ah⟩) U
 rcases l with⟨hk,aj⟩|⟨hk,c,ak,al⟩
 .exact wpAny_loadName_local B.ok.kind hk W aj go
 .rcases hk with hk|hk
  .exact wpAny_loadName_cell B.ok.kind hk ak al go
  .rcases F with k|k
   .have:X.env.scope.names.lookup x=some .free:=hk;rw[k] at this;cases this
   .have:X.env.scope.names.lookup x=some .free:=hk;rw[k] at this;cases this
noncomputable def ipI(f:Int->Int->Int):TIp:=λx y H Q=>∃i j,x=.int i/\y=.int j/\Q (.int (f i j)) H
theorem zkC:PIp X .Add (ipI λi j=>i+j):=by
 intro pins s σ H x y v u Q B D F h;obtain⟨i,j,G,I,q⟩:=h;subst G;subst I;obtain⟨t,rfl⟩:=D;obtain⟨t',rfl⟩:=F;exact iadd_int ⟨.int _,H,B.tok _,⟨_,J⟩,q⟩
end
section
variable {X:Cx}{pos:Pos}
noncomputable def zkD(c:TT)(tb:TS):TS:=λD σ H=>∃W:Nat->St->Hp->Prop,(∃m,W m σ H)/\∀m σ H,W m σ H ->
 c σ H λb H1=>if b=true then ∃N:St->Hp->Prop,(∀σ' H',N σ' H'->∃B,B<m/\W B σ' H')/\tb { D with nx:=N,ct:=N,bk:=D.nx } σ H1 else D.nx σ H1
theorem zb0{c:Expr}{body:List Stmt}{tc:TT}{tb:TS}(aa:PassesOwn (model X.prog X.w) X.A X.env X.xe)(ad:PT X c tc)(ae:PSs X body tb):PS X (.While c body [] pos) (zkD tc tb):=by
 intro pins s σ H D af h;obtain⟨W,⟨ag,ah⟩,ai⟩:=h;refine wpAny_While (codeAny_whileLoop (λn s'=>∃σ' H',Inv X pins σ' H' s'/\W n σ' H') ?_ ag ⟨σ,H,af,ah⟩);rintro n aj ⟨G,H1,ak,al⟩;refine wpAny_passesOwn aa (thn (ad pins aj G H1 _ ak (ai n G H1 al)) λb am ao=>?_);obtain⟨H2,ab,I⟩:=ao;cases b with
 |true=>
  obtain⟨N,ac,I⟩:=I;rw[if_pos rfl];refine wpAny_passesOwn aa (thn (ae pins am G H2 _ ab I) λf ap J0=>?_);cases f with
  |next=>
   obtain⟨B,F,O,U⟩:=J0;obtain⟨V,Y,Z⟩:=ac B F U;exact⟨V,Y,B,F,O,Z⟩
  |cont=>
   obtain⟨B,F,O,U⟩:=J0;obtain⟨V,Y,Z⟩:=ac B F U;exact⟨V,Y,B,F,O,Z⟩
  |brk=>exact J0
  |ret v=>exact J0
 |false=>
  rw[if_neg Bool.false_ne_true];exact wpAny_execs_nil ⟨G,H2,ab,I⟩
end
structure It where
 go:Nat->Hp->Prop
 yld:Nat->Hp->V->Hp->Prop
 stop:Nat->Hp->Prop
noncomputable def FpOk(X:Cx)(pins:List (Addr×Obj))(H:Hp)(b:Addr):Prop:=
 H b=none/\b≠X.env.locals/\b∉X.fs/\(b∈X.ex∨X.s₀.heap.objs.size<=b)/\(∀x c,X.env.cells.lookup x=some c->c≠b)/\∀p∈X.pn++pins,p.1≠b
theorem Inv.fpOk{X:Cx}{pins:List (Addr×Obj)}{σ:St}{H H':Hp}{s:Shared}{b:Addr}(B:Inv X pins σ H s)(D:s.heap.objs.size<=b)(F:H' b=none):FpOk X pins H' b:=by
 refine⟨F,Nat.ne_of_gt (Nat.lt_of_lt_of_le B.lt D),B.nofs D,.inr (Nat.le_trans B.sz D),λx c e z=>?_,λp G z=>?_⟩
 .obtain⟨v,q⟩:=B.cell x c e;exact absurd (Nat.lt_of_lt_of_le q.lt (by rw[z];exact D)) (Nat.lt_irrefl _)
 .exact absurd (Nat.lt_of_lt_of_le (Heap.lt_size (B.pin p G).1) (by rw[z];exact D)) (Nat.lt_irrefl _)
structure Turn(P:Program)(w:World)(K:W.Frag)(tg:Expr)(J0:It)(fp:List Addr)(it:Addr)(tn:Nat->Heap->Prop):Prop where
 mem:it∈fp
 obj:∀i h,tn i h->∀b∈fp,∃o,h.get? b=some o/\∀v,o.data≠.cell v
 keep:∀i h h',tn i h->(∀b∈fp,∀o,h.get? b=some o->h'.get? b=some o)->tn i h'
 item:∀(X:Cx),X.prog=P->X.w=w->X.K=K->X.calm=true->∀(i:Nat) (pins:List (Addr×Obj)) (s:Shared) (σ:St) (H:Hp) (E:Value->Shared->Prop),Inv X pins σ H s->(∀b∈fp,FpOk X pins H b)->tn i s.heap->J0.go i H ->
  wpAny (model P w) X.A (pyNext (.ref it)) (λr s1=>∃u,r=some u /\
   wpAny (model P w) X.A (letOwnedTupleGo tg (.ref it) u) (λ_ s2=>∃x H',Inv X pins σ H' s2/\RelV x u/\J0.yld i H x H'/\tn (i+1) s2.heap/\∀b∈fp,H' b=none) E s1) E s
 done:∀(X:Cx),X.prog=P->X.w=w->X.K=K->X.calm=true->∀(i:Nat) (pins:List (Addr×Obj)) (s:Shared) (σ:St) (H:Hp) (E:Value->Shared->Prop),Inv X pins σ H s->(∀b∈fp,FpOk X pins H b)->tn i s.heap->J0.stop i H ->
  wpAny (model P w) X.A (pyNext (.ref it)) (λr s1=>r=none/\Inv X pins σ H s1) E s
 self:∀(A:Around) (i:Nat) (s:Shared) (Q:Value->Shared->Prop) (E:Value->Shared->Prop),tn i s.heap->Q (.ref it) s->wpAny (model P w) A (pyIter (.ref it)) Q E s
noncomputable abbrev TI:=St->Hp->(It->Hp->Prop)->Prop
noncomputable def PIE(X:Cx)(pins:List (Addr×Obj))(σ:St)(tg:Expr)(R:It->Hp->Prop)(F:Value)(B:Shared):Prop:=
 ∃(it:Addr) (fp:List Addr) (D:Nat->Heap->Prop) (J0:It) (H':Hp),F=.ref it/\Inv X pins σ H' B/\Turn X.prog X.w X.K tg J0 fp it D/\D 0 B.heap/\(∀b∈fp,FpOk X pins H' b)/\R J0 H'
noncomputable def PI(X:Cx)(tg iter:Expr)(wi:TI):Prop:=
 ∀(pins:List (Addr×Obj)) (s:Shared) (σ:St) (H:Hp) (R:It->Hp->Prop),Inv X pins σ H s->wi σ H R ->
  wpAny (model X.prog X.w) X.A (eval iter X.env) (λv B=>wpAny (model X.prog X.w) X.A (pyIter v) (PIE X pins σ tg R) X.xe B) X.xe s
theorem zhM{M:Model}{A:Around}{E:Value->Shared->Prop}{s:Shared}{tg:Expr}{it:Addr}{u:Value}{o:Obj}{n:String}{vs:Array Value}{Q:Unit->Shared->Prop}(D:s.heap.get? it=some o)(F:o.cls=.type n)(G:o.data=.fields vs)(I:["enumerate","zip","dict_itemiterator","dict_reverseitemiterator","odict_iterator","itertools.zip_longest","itertools.pairwise"].contains n=false)(B:Q () s):wpAny M A (letOwnedTupleGo tg (.ref it) u) Q E s:=by
 unfold letOwnedTupleGo;cases tg<;>first
  |exact wpAny_pure B
  |(cases u<;>first
    |exact wpAny_pure B
    |(refine wpAny_bind (wpAny_load D ?_)
      rw[F,G];show wpAny M A (if (["enumerate","zip","dict_itemiterator","dict_reverseitemiterator","odict_iterator","itertools.zip_longest","itertools.pairwise"].contains n&&vs[0]?==some (rawInt _))=true then _ else _) Q E s;rw[if_neg (by intro h;rw[I,Bool.false_and] at h;cases h)];exact wpAny_pure B))
noncomputable def Itl(K:W.Frag)(a:Addr):It:=
 ⟨λi H=>∃xs x,SqL K H a xs/\xs[i]?=some x,λi H x H'=>H'=H/\∀xs,SqL K H a xs->xs[i]?=some x,λi H=>∃xs,SqL K H a xs/\xs.length<=i⟩
noncomputable def Itt(K:W.Frag)(a:Addr):It:=
 ⟨λi H=>∃xs x,SqT K H a xs/\xs[i]?=some x,λi H x H'=>H'=H/\∀xs,SqT K H a xs->xs[i]?=some x,λi H=>∃xs,SqT K H a xs/\xs.length<=i⟩
noncomputable def Itr(lo:Int)(n:Nat):It:=⟨λi _=>i<n,λi H x H'=>H'=H/\x=.int (lo+i),λi _=>n<=i⟩
theorem zhN{P:Program}{w:World}{K:W.Frag}{tg:Expr}(a it:Addr):Turn P w K tg (Itl K a) [it] it (λi h=>h.IsListIter it a i) where
 mem:=by simp
 obj:=λi h st b B=>by
  have e:b=it:=by simpa using B
  subst e;obtain⟨o,e,c,d⟩:=st;exact⟨o,e,λv z=>by rw[d] at z;cases z⟩
 keep:=λi h h' st k=>st.at λo e=>k it (by simp) o e
 item:=by
  intro X I hw J0 ad i pins s σ H E D F st O;subst I hw J0;obtain⟨xs,x,G,U⟩:=O;obtain⟨its,V,p,af⟩:=D.list G;obtain⟨u,ag,ah⟩:=V.get U;obtain⟨Y,Z,ai,aa,ab,ac⟩:=F it (by simp);refine wpAny_pyNext_list_item st p.isList (x:=u) (by simpa using ag) λh' ae aj=>?_;have ak:Inv X pins σ H { s with heap:=h' }:=D.turned (t':=s.toks) (λb o B e=>(aj.2 b B).trans e) Y Z aa ab ac;obtain⟨o,e,c,d⟩:=id ae;exact⟨u,J,zhM (s:={ s with heap:=h' }) e c d (by decide) ⟨x,H,ak,ah,⟨J,λys al=>by rw[D.list_inj al G];exact U⟩,ae,λb B=>(F b B).1⟩⟩
 done:=by
  intro X I hw J0 ad i pins s σ H E D F st O;subst I hw J0;obtain⟨xs,G,U⟩:=O;obtain⟨its,V,p,af⟩:=D.list G;obtain⟨Y,Z,ai,aa,ab,ac⟩:=F it (by simp);have ao:=V.length;exact wpAny_pyNext_list_end (D.ok.hd ad) st p.isList (by simp;omega) λh' am=>⟨J,D.turned (t':=s.toks) (λb o B e=>am b o B e) Y Z aa ab ac⟩
 self:=λ_ _ _ _ _ st h=>wpAny_pyIter_listiter st h
theorem zg7{P:Program}{w:World}{K:W.Frag}{tg:Expr}(a it:Addr):Turn P w K tg (Itt K a) [it] it (λi h=>h.IsTupleIter it a i) where
 mem:=by simp
 obj:=λi h st b B=>by
  have e:b=it:=by simpa using B
  subst e;obtain⟨o,e,c,d⟩:=st;exact⟨o,e,λv z=>by rw[d] at z;cases z⟩
 keep:=λi h h' st k=>st.at λo e=>k it (by simp) o e
 item:=by
  intro X I hw J0 ad i pins s σ H E D F st O;subst I hw J0;obtain⟨xs,x,G,U⟩:=O;obtain⟨its,V,p,af⟩:=D.tuple G;obtain⟨u,ag,ah⟩:=V.get U;obtain⟨Y,Z,ai,aa,ab,ac⟩:=F it (by simp);refine wpAny_pyNext_tuple_item st (show s.heap.IsTuple a its.toArray from p) (x:=u) (by simpa using ag) λh' ae aj=>?_;have ak:Inv X pins σ H { s with heap:=h' }:=D.turned (t':=s.toks) (λb o B e=>(aj.2 b B).trans e) Y Z aa ab ac;obtain⟨o,e,c,d⟩:=id ae;exact⟨u,J,zhM (s:={ s with heap:=h' }) e c d (by decide) ⟨x,H,ak,ah,⟨J,λys al=>by rw[D.tuple_inj al G];exact U⟩,ae,λb B=>(F b B).1⟩⟩
 done:=by
  intro X I hw J0 ad i pins s σ H E D F st O;subst I hw J0;obtain⟨xs,G,U⟩:=O;obtain⟨its,V,p,af⟩:=D.tuple G;obtain⟨Y,Z,ai,aa,ab,ac⟩:=F it (by simp);have ao:=V.length;exact wpAny_pyNext_tuple_end (D.ok.hd ad) st (show s.heap.IsTuple a its.toArray from p) (by simp;omega) λh' am=>⟨J,D.turned (t':=s.toks) (λb o B e=>am b o B e) Y Z aa ab ac⟩
 self:=λ_ _ _ _ _ st h=>wpAny_pyIter_tupleiter st h
theorem zg8{P:Program}{w:World}{K:W.Frag}{tg:Expr}(it:Addr)(lo:Int)(n:Nat):Turn P w K tg (Itr lo n) [it] it (λi h=>IsRangeIter h it (lo+(i:Nat)*1) ((n:Int)-(i:Nat)) 1) where
 mem:=by simp
 obj:=λi h st b B=>by
  have e:b=it:=by simpa using B
  subst e;exact⟨_,st,λv z=>by
   have z':Data.fields _=Data.cell v:=z;cases z'⟩
 keep:=λi h h' st k=>k it (by simp) _ st
 item:=by
  intro X G hw I J0 i pins s σ H E D F st O;subst G hw I;obtain⟨U,V,ac,Y,Z,aa⟩:=F it (by simp);have W:=Walks.range (prog:=X.prog) (w:=X.w) (D.ok.hd J0) it lo 1 n;refine W.item i s _ _ O st λv h' tk ad ab ae=>?_;obtain⟨t,rfl⟩:=ad;have af:Inv X pins σ H { s with heap:=h',toks:=tk }:=D.turned (λb o B e=>ae b o (by simpa using B) e) U V Y Z aa;refine⟨_,J,zhM (s:={ s with heap:=h',toks:=tk }) (n:="range_iterator") ab J J (by decide) ⟨.int (lo+i),H,af,⟨t,?_⟩,⟨J,J⟩,ab,λb B=>(F b B).1⟩⟩;rw[Int.mul_one]
 done:=by
  intro X G hw I J0 i pins s σ H E D F st O;subst G hw I;obtain⟨U,V,ac,Y,Z,aa⟩:=F it (by simp);exact wpAny_pyNext_range_end (D.ok.hd J0) st (by have:n<=i:=O;omega) λh' ag=>⟨J,D.turned (t':=s.toks) (λb o B e=>ag b o B e) U V Y Z aa⟩
 self:=λ_ _ _ _ _ st h=>wpAny_pyIter_rangeiter st h
section
variable {X:Cx}{tg:Expr}
noncomputable def iList(K:W.Frag)(tl:TE):TI:=λσ H R=>tl σ H λx H1=>∃a,x=.ref a/\(∃xs,SqL K H1 a xs)/\R (Itl K a) H1
noncomputable def iTup(K:W.Frag)(tl:TE):TI:=λσ H R=>tl σ H λx H1=>∃a,x=.ref a/\(∃xs,SqT K H1 a xs)/\R (Itt K a) H1
theorem zbg{l:Expr}{tl:TE}(F:PE X l tl):PI X tg l (iList X.K tl):=by
 intro pins s σ H R G h;refine thn (F pins s σ H _ G h) λv B I=>?_;obtain⟨x,H1,D,J0,q1⟩:=I;obtain⟨a,e,⟨xs,O⟩,q⟩:=q1;subst e;cases J0;obtain⟨its,V,p,W⟩:=D.list O;refine wpAny_pyIter_list p.isList ?_;refine⟨B.heap.objs.size,[B.heap.objs.size],_,_,H1,J,D.kept (t':=B.toks) λb o e=>Heap.get?_push_of_some _ e,zhN a _,⟨_,Heap.get?_push_size _ J,J,J⟩,λb U=>?_,q⟩;have e:b=B.heap.objs.size:=by simpa using U
 subst e;exact D.fpOk (Nat.le_refl _) (D.hok.fresh (Nat.le_refl _))
theorem zce{l:Expr}{tl:TE}(F:PE X l tl):PI X tg l (iTup X.K tl):=by
 intro pins s σ H R G h;refine thn (F pins s σ H _ G h) λv B I=>?_;obtain⟨x,H1,D,J0,q1⟩:=I;obtain⟨a,e,⟨xs,O⟩,q⟩:=q1;subst e;cases J0;obtain⟨its,V,p,W⟩:=D.tuple O;refine wpAny_pyIter_tuple (show B.heap.IsTuple a its.toArray from p) ?_;refine⟨B.heap.objs.size,[B.heap.objs.size],_,_,H1,J,D.kept (t':=B.toks) λb o e=>Heap.get?_push_of_some _ e,zg7 a _,⟨_,Heap.get?_push_size _ J,J,J⟩,λb U=>?_,q⟩;have e:b=B.heap.objs.size:=by simpa using U
 subst e;exact D.fpOk (Nat.le_refl _) (D.hok.fresh (Nat.le_refl _))
theorem zjt{pins:List (Addr×Obj)}{σ:St}{H:Hp}{s:Shared}{R:It->Hp->Prop}{E:Value->Shared->Prop}{lo hi:Int}{t u v:Tok}{tk:Nat}(D:Inv X pins σ H s)(h1:-(2 ^ 62)<=lo)(h2:lo<2 ^ 62)(F:-(2 ^ 62)<=hi)(G:hi<2 ^ 62)(q:R (Itr lo (hi-lo).toNat) H):wpAny (model X.prog X.w) X.A (pyIter (.ref s.heap.objs.size)) (PIE X pins σ tg R) E { s with heap:=s.heap.push { cls:=.type "range",data:=.fields #[.int lo t,.int hi u,.int 1 v] },toks:=tk }:=by
 refine wpAny_pyIter_range (IsRange.new ..) (small_one h1 h2 F G) ?_;have B:Inv X pins σ H { s with heap:=s.heap.push { cls:=.type "range",data:=.fields #[.int lo t,.int hi u,.int 1 v] },toks:=tk }:=D.kept λb o e=>Heap.get?_push_of_some _ e;refine⟨(s.heap.push { cls:=.type "range",data:=.fields #[.int lo t,.int hi u,.int 1 v] }).objs.size,[(s.heap.push { cls:=.type "range",data:=.fields #[.int lo t,.int hi u,.int 1 v] }).objs.size],_,_,H,J,
  B.kept (t':=tk) λb o e=>Heap.get?_push_of_some _ e,zg8 _ lo (hi-lo).toNat,?_,λb I=>?_,q⟩
 .have J0:lo+((0:Nat):Int)*1=lo:=by simp
  have O:(((hi-lo).toNat:Nat):Int)-((0:Nat):Int)=Builtin.Range.rangeSize lo hi 1:=by rw[rangeSize_one];split<;>omega
  show IsRangeIter _ _ (lo+((0:Nat):Int)*1) ((((hi-lo).toNat:Nat):Int)-((0:Nat):Int)) 1;rw[J0,O];exact Heap.get?_push_size _ rfl
 .have e:b=(s.heap.push { cls:=.type "range",data:=.fields #[.int lo t,.int hi u,.int 1 v] }).objs.size:=by simpa using I
  subst e;exact B.fpOk (Nat.le_refl _) (B.hok.fresh (Nat.le_refl _))
noncomputable def iRng1(ta:TA):TI:=λσ H R=>ta σ H λvs H1=>∃j:Int,vs=[.int j]/\-(2 ^ 62)<=j/\j<2 ^ 62/\R (Itr 0 j.toNat) H1
theorem zbj{a:Expr}{ta:TA}{p pos:Pos}(D:Gl X "range")(F:X.mg "range"=none)(G:PA X [a] ta)(I:starEach [a] X.env=[(false,eval a X.env)]:=by rfl):PI X tg (.Call (.Name "range" p) [a] [] pos) (iRng1 ta):=by
 intro pins s σ H R B h;refine Call_ (zcE B D F boot_range (PyProof.Rows.callWith_type1 (thn (G pos pins s σ H _ B h) λus Y J0=>?_) I J));obtain⟨vs,H1,O,U,q1⟩:=J0;obtain⟨j,e,q1,V,q⟩:=q1;subst e;cases U with
 |cons r W=>
  cases W;obtain⟨t,rfl⟩:=r;exact call_range_1 (zjt O (by omega) (by omega) q1 V (by simpa using q))
noncomputable def tFor(wi:TI)(g:TG)(tb:TS):TS:=λD σ H=>wi σ H λJ0 H1=>∃W:Nat->Nat->St->Hp->Prop,(∃m,W 0 m σ H1)/\∀i m σ H,W i m σ H ->
 (J0.stop i H/\D.nx σ H)∨(J0.go i H/\∃N:St->Hp->Prop,(∀σ' H',N σ' H'->∃B,B<m/\W (i+1) B σ' H')/\∀x H',J0.yld i H x H'->g x σ H' λF H2=>tb { D with nx:=N,ct:=N,bk:=D.nx } F H2)
noncomputable def zec(fp:List Addr)(h:Heap):List (Addr×Obj):=fp.filterMap λb=>(h.get? b).map λo=>(b,o)
theorem zbE{fp:List Addr}{h:Heap}{b:Addr}{o:Obj}(B:b∈fp)(e:h.get? b=some o):(b,o)∈zec fp h:=List.mem_filterMap.mpr ⟨b,B,by rw[e];rfl⟩
theorem zhO{fp:List Addr}{h:Heap}{p:Addr×Obj}(B:p∈zec fp h):p.1∈fp/\h.get? p.1=some p.2:=by
 obtain⟨b,D,e⟩:=List.mem_filterMap.mp B;cases q:h.get? b with
 |none=>rw[q] at e;cases e
 |some o=>
  rw[q] at e;have F:(b,o)=p:=Option.some.inj e;subst F;exact⟨D,q⟩
theorem Inv.pinned{pins:List (Addr×Obj)}{σ:St}{H:Hp}{s:Shared}{fp:List Addr}(B:Inv X pins σ H s)(G:∀b∈fp,FpOk X pins H b)(I:∀b∈fp,∃o,s.heap.get? b=some o/\∀v,o.data≠.cell v):Inv X (pins++zec fp s.heap) σ H s:=
 B.pins_of λp J0=>(List.mem_append.mp J0).elim (λz=>B.pin p (List.mem_append_right _ z)) λz=>by
  obtain⟨D,e⟩:=zhO z;obtain⟨O,U,V,_⟩:=G p.1 D;obtain⟨o,F,d⟩:=I p.1 D;rw[e] at F;cases F;exact⟨e,O,U,V,d⟩
theorem Inv.unpinned{pins pl:List (Addr×Obj)}{σ:St}{H:Hp}{s:Shared}(B:Inv X (pins++pl) σ H s):Inv X pins σ H s:=B.pins_of λp D=>B.pin p (List.mem_append_right _ (List.mem_append_left _ D))
theorem zbG{iter:Expr}{body:List Stmt}{wi:TI}{g:TG}{tb:TS}{pos:Pos}(U:PassesOwn (model X.prog X.w) X.A X.env X.xe)(af:X.calm=true)(hi:PI X tg iter wi)(ap:PG X tg g)(B:PSs X body tb)(aq:∀x,foldedSetIterable iter X.env x=pure x:=by intro _;rfl):PS X (.For tg iter body [] pos) (tFor wi g tb):=by
 intro pins s σ H D ar h;refine wpAny_For (thn (hi pins s σ H _ ar h) λv aU h1=>thn h1 λaV aW h2=>?_) aq;obtain⟨it,fp,ag,J0,H2,e,as,T,au,ah,W,⟨av,aw⟩,ax⟩:=h2;subst e
 -- what stays true of the iterator's objects through the loop
 have aa:∀ {H':Hp},(∀b∈fp,H' b=none)->∀b∈fp,FpOk X pins H' b:=λay b B=>⟨ay b B,(ah b B).2⟩;refine codeAny_forLoop_any (λn s'=>∃i σ' H',Inv X pins σ' H' s'/\ag i s'.heap/\(∀b∈fp,H' b=none)/\W i n σ' H') ?_ av ⟨0,σ,H2,as,au,λb B=>(ah b B).1,aw⟩;rintro n ai ⟨i,V,Z,aj,ak,al,az⟩;rcases ax i n V Z az with⟨stop,aA⟩|⟨go,N,aB,step⟩
 .refine wpAny_passesOwn U (thn (T.done X J J J af i pins ai V Z X.xe aj (aa al) ak stop) λr aC ⟨ab,aD⟩=>?_);subst ab;exact wpAny_execs_nil ⟨V,Z,aD,aA⟩
 .refine wpAny_passesOwn U (thn (T.item X J J J af i pins ai V Z X.xe aj (aa al) ak go) λr aC ⟨u,ab,aE⟩=>?_);subst ab;refine wpAny_passesOwn U (thn aE λ_ am ac=>?_);obtain⟨x,ao,aF,aG,aH,ad,aI⟩:=ac;have aJ:=aF.pinned (aa aI) (T.obj _ _ ad);refine wpAny_passesOwn U (thn (ap _ am V ao x u _ aJ aG (step x ao aH)) λ_ aK ac=>?_);obtain⟨aL,aM,aN,aO⟩:=ac;refine wpAny_passesOwn U (thn (B _ aK aL aM _ aN aO) λf ae O=>?_);have again:∀ {F:St} {G:Hp},Inv X (pins++zec fp am.heap) F G ae->N F G->∃m,m<n/\∃i σ' H',Inv X pins σ' H' ae/\ag i ae.heap/\(∀b∈fp,H' b=none)/\W i m σ' H':=λ{F G} I Y=>by
   obtain⟨aP,aQ,aR⟩:=aB F G Y;refine⟨aP,aQ,i+1,F,G,I.unpinned,T.keep _ _ _ ad λb B o e=>(I.pin (b,o) (List.mem_append_right _ (List.mem_append_right _ (zbE B e)))).1,λb B=>?_,aR⟩;obtain⟨o,e,d⟩:=T.obj _ _ ad b B;exact(I.pin (b,o) (List.mem_append_right _ (List.mem_append_right _ (zbE B e)))).2.1
  cases f with
  |next=>obtain⟨F,G,I,Y⟩:=O;exact again I Y
  |cont=>obtain⟨F,G,I,Y⟩:=O;exact again I Y
  |brk=>obtain⟨F,G,I,O⟩:=O;exact⟨F,G,I.unpinned,O⟩
  |ret v=>obtain⟨aS,F,G,I,aT,O⟩:=O;exact⟨aS,F,G,I.unpinned,aT,O⟩
end
theorem zgr{K:W.Frag}{a:Addr}{xs:List V}{g:TG}{tb:TS}{D:Ends}{σ:St}{H:Hp}(Pv:Nat->St->Hp->Prop)(I:Pv 0 σ H)(J0:∀i σ H,i<=xs.length->Pv i σ H->SqL K H a xs)(O:∀i x σ H,xs[i]?=some x->Pv i σ H->g x σ H λB H2=>tb { D with nx:=Pv (i+1),ct:=Pv (i+1),bk:=D.nx } B H2)(U:∀σ H,Pv xs.length σ H->D.nx σ H) :
  ∃W:Nat->Nat->St->Hp->Prop,(∃m,W 0 m σ H)/\∀i m σ H,W i m σ H ->
   ((Itl K a).stop i H/\D.nx σ H)∨((Itl K a).go i H/\∃N:St->Hp->Prop,(∀σ' H',N σ' H'->∃F,F<m/\W (i+1) F σ' H')/\∀x H',(Itl K a).yld i H x H'->g x σ H' λB H2=>tb { D with nx:=N,ct:=N,bk:=D.nx } B H2):=by
 refine⟨λi m σ H=>m=xs.length-i/\i<=xs.length/\Pv i σ H,⟨xs.length,by simp,Nat.zero_le _,I⟩,?_⟩;rintro i m σ H ⟨rfl,hi,p⟩;have q:=J0 i σ H hi p;by_cases G:i<xs.length
 .refine .inr ⟨⟨xs,xs[i],q,by simp[G]⟩,Pv (i+1),λσ' H' Y=>⟨xs.length-(i+1),by omega,J,G,Y⟩,λx H' y=>?_⟩;obtain⟨e,y⟩:=y;subst e;exact O i x σ _ (y xs q) p
 .have e:i=xs.length:=by omega
  subst e;exact .inl ⟨⟨xs,q,Nat.le_refl _⟩,U σ H p⟩
theorem zdE{K:W.Frag}{a:Addr}{xs:List V}{g:TG}{tb:TS}{D:Ends}{σ:St}{H:Hp}(Pv:Nat->St->Hp->Prop)(I:Pv 0 σ H)(J0:∀i σ H,i<=xs.length->Pv i σ H->SqT K H a xs)(O:∀i x σ H,xs[i]?=some x->Pv i σ H->g x σ H λB H2=>tb { D with nx:=Pv (i+1),ct:=Pv (i+1),bk:=D.nx } B H2)(U:∀σ H,Pv xs.length σ H->D.nx σ H) :
  ∃W:Nat->Nat->St->Hp->Prop,(∃m,W 0 m σ H)/\∀i m σ H,W i m σ H ->
   ((Itt K a).stop i H/\D.nx σ H)∨((Itt K a).go i H/\∃N:St->Hp->Prop,(∀σ' H',N σ' H'->∃F,F<m/\W (i+1) F σ' H')/\∀x H',(Itt K a).yld i H x H'->g x σ H' λB H2=>tb { D with nx:=N,ct:=N,bk:=D.nx } B H2):=by
 refine⟨λi m σ H=>m=xs.length-i/\i<=xs.length/\Pv i σ H,⟨xs.length,by simp,Nat.zero_le _,I⟩,?_⟩;rintro i m σ H ⟨rfl,hi,p⟩;have q:=J0 i σ H hi p;by_cases G:i<xs.length
 .refine .inr ⟨⟨xs,xs[i],q,by simp[G]⟩,Pv (i+1),λσ' H' Y=>⟨xs.length-(i+1),by omega,J,G,Y⟩,λx H' y=>?_⟩;obtain⟨e,y⟩:=y;subst e;exact O i x σ _ (y xs q) p
 .have e:i=xs.length:=by omega
  subst e;exact .inl ⟨⟨xs,q,Nat.le_refl _⟩,U σ H p⟩
theorem zbA{lo:Int}{n:Nat}{g:TG}{tb:TS}{D:Ends}{σ:St}{H:Hp}(Pv:Nat->St->Hp->Prop)(I:Pv 0 σ H)(J0:∀i σ H,i<n->Pv i σ H->g (.int (lo+i)) σ H λB H2=>tb { D with nx:=Pv (i+1),ct:=Pv (i+1),bk:=D.nx } B H2)(O:∀σ H,Pv n σ H->D.nx σ H) :
  ∃W:Nat->Nat->St->Hp->Prop,(∃m,W 0 m σ H)/\∀i m σ H,W i m σ H ->
   ((Itr lo n).stop i H/\D.nx σ H)∨((Itr lo n).go i H/\∃N:St->Hp->Prop,(∀σ' H',N σ' H'->∃G,G<m/\W (i+1) G σ' H')/\∀x H',(Itr lo n).yld i H x H'->g x σ H' λB H2=>tb { D with nx:=N,ct:=N,bk:=D.nx } B H2):=by
 refine⟨λi m σ H=>m=n-i/\i<=n/\Pv i σ H,⟨n,by simp,Nat.zero_le _,I⟩,?_⟩;rintro i m σ H ⟨rfl,hi,p⟩;by_cases F:i<n
 .refine .inr ⟨F,Pv (i+1),λσ' H' U=>⟨n-(i+1),by omega,J,F,U⟩,λx H' y=>?_⟩;obtain⟨e,y⟩:=y;subst e y;exact J0 i σ _ F p
 .have e:i=n:=by omega
  subst e;exact .inl ⟨Nat.le_refl _,O σ H p⟩
theorem zb1{c:TT}{tb:TS}{D:Ends}{σ:St}{H:Hp}(Pv:St->Hp->Prop)(B:St->Hp->Nat)(G:Pv σ H)(I:∀σ H,Pv σ H->c σ H λb H1=>if b=true then tb { D with nx:=λσ' H'=>Pv σ' H'/\B σ' H'<B σ H,ct:=λσ' H'=>Pv σ' H'/\B σ' H'<B σ H,bk:=D.nx } σ H1 else D.nx σ H1)(J0:∀σ H Q F,(∀b H1,Q b H1->F b H1)->c σ H Q->c σ H F):zkD c tb D σ H:=by
 refine⟨λm σ H=>m=B σ H/\Pv σ H,⟨_,J,G⟩,?_⟩;rintro m σ H ⟨rfl,p⟩;refine J0 σ H _ _ (λb H1 q=>?_) (I σ H p);cases b with
 |true=>exact⟨_,λσ' H' ⟨O,l⟩=>⟨_,l,J,O⟩,q⟩
 |false=>exact q
noncomputable abbrev R2:=V->V->Hp->VK->Prop
noncomputable def OpR(X:Cx)(f:Value->Value->Sem Value)(r:R2):Prop:=
 ∀(pins:List (Addr×Obj)) (s:Shared) (σ:St) (H:Hp) (x y:V) (v u:Value) (Q:VK),Inv X pins σ H s->RelV x v->RelV y u->r x y H Q ->
  wpAny (model X.prog X.w) X.A (f v u) (EP X pins σ Q) X.xe s
noncomputable def UnR(X:Cx)(f:Value->Sem Value)(r:V->Hp->VK->Prop):Prop:=
 ∀(pins:List (Addr×Obj)) (s:Shared) (σ:St) (H:Hp) (x:V) (v:Value) (Q:VK),Inv X pins σ H s->RelV x v->r x H Q ->
  wpAny (model X.prog X.w) X.A (f v) (EP X pins σ Q) X.xe s
noncomputable def CallR(X:Cx)(f:Value)(r:List V->Hp->VK->Prop):Prop:=
 ∀(pins:List (Addr×Obj)) (s:Shared) (σ:St) (H:Hp) (xs:List V) (us:List Value) (Q:VK),Inv X pins σ H s->Vals xs us->r xs H Q ->
  wpAny (model X.prog X.w) X.A (call f us) (EP X pins σ Q) X.xe s
noncomputable def TruR(X:Cx)(r:V->Hp->(Bool->Hp->Prop)->Prop):Prop:=
 ∀(pins:List (Addr×Obj)) (s:Shared) (σ:St) (H:Hp) (x:V) (v:Value) (Q:Bool->Hp->Prop),Inv X pins σ H s->RelV x v->r x H Q ->
  wpAny (model X.prog X.w) X.A (truthy v) (TP X pins σ Q) X.xe s
noncomputable def tOp(r:R2)(ta tb:TE):TE:=λσ H Q=>ta σ H λx H1=>tb σ H1 λy H2=>r x y H2 Q
noncomputable def tUn(r:V->Hp->VK->Prop)(ta:TE):TE:=λσ H Q=>ta σ H λx H1=>r x H1 Q
noncomputable def rI(C:Int->Int->Prop)(g:Int->Int->V):R2:=λx y H Q=>∃i j,x=.int i/\y=.int j/\C i j/\Q (g i j) H
noncomputable def rI0(g:Int->Int->V):R2:=λx y H Q=>∃i j,x=.int i/\y=.int j/\Q (g i j) H
noncomputable def rU(g:Int->V):V->Hp->VK->Prop:=λx H Q=>∃i,x=.int i/\Q (g i) H
section
variable {X:Cx}{a b c:Expr}{ta tb tc:TE}{pos:Pos}
theorem binT(F:PE X a ta)(G:PE X b tb){pins:List (Addr×Obj)}{s:Shared}{σ:St}{H:Hp}{R:V->V->Hp->Prop}(I:Inv X pins σ H s)(h:ta σ H λx H1=>tb σ H1 λy H2=>R x y H2){Q:Value->Shared->Prop}{f:Value->Value->Sem Value}(J0:∀v u B x y H2,Inv X pins σ H2 B->RelV x v->RelV y u->R x y H2->wpAny (model X.prog X.w) X.A (f v u) Q X.xe B) :
  wpAny (model X.prog X.w) X.A (eval a X.env) (λv O=>wpAny (model X.prog X.w) X.A (eval b X.env) (λu U=>wpAny (model X.prog X.w) X.A (f v u) Q X.xe U) X.xe O) X.xe s:=by
 refine thn (F pins s σ H _ I h) λv W D=>?_;obtain⟨x,H1,Y,Z,q1⟩:=D;refine thn (G pins W σ H1 _ Y q1) λu B D=>?_;obtain⟨y,H2,aa,ab,ac⟩:=D;exact J0 v u B x y H2 aa Z ab ac
theorem zaB{op:Operator}{r:R2}(B:OpR X (binaryOp op) r)(D:PE X a ta)(F:PE X b tb):PE X (.BinOp a op b pos) (tOp r ta tb):=by
 intro pins s σ H Q G h;exact wpAny_BinOp (binT D F G h λv u I x y H2 J0 O U q=>B pins I σ H2 x y v u Q J0 O U q)
theorem zbL{op:UnaryOp}{r:V->Hp->VK->Prop}(B:UnR X (unaryOp op) r)(D:PE X a ta):PE X (.UnaryOp op a pos) (tUn r ta):=by
 intro pins s σ H Q F h;refine UnaryOp_ (thn (D pins s σ H _ F h) λv G I=>?_);obtain⟨x,H1,J0,O,q1⟩:=I;exact B pins G σ H1 x v Q J0 O q1
theorem opI{f:Value->Value->Sem Value}{C:Int->Int->Prop}{g:Int->Int->Int}(rule:∀(i j:Int) (t u:Tok) (s:Shared) (Q:Value->Shared->Prop) (E:Value->Shared->Prop),C i j->Q (.int (g i j) s.toks) { s with toks:=s.toks+1 }->wpAny (model X.prog X.w) X.A (f (.int i t) (.int j u)) Q E s) :
  OpR X f (rI C λi j=>.int (g i j)):=by
 intro pins s σ H x y v u Q B D F h;obtain⟨i,j,rfl,rfl,G,q⟩:=h;obtain⟨t,rfl⟩:=D;obtain⟨t',rfl⟩:=F;exact rule i j t t' s _ _ G ⟨.int (g i j),H,B.tok _,⟨_,J⟩,q⟩
theorem opI0{f:Value->Value->Sem Value}{g:Int->Int->Int}(rule:∀(i j:Int) (t u:Tok) (s:Shared) (Q:Value->Shared->Prop) (E:Value->Shared->Prop),Q (.int (g i j) s.toks) { s with toks:=s.toks+1 }->wpAny (model X.prog X.w) X.A (f (.int i t) (.int j u)) Q E s) :
  OpR X f (rI0 λi j=>.int (g i j)):=by
 intro pins s σ H x y v u Q B D F h;obtain⟨i,j,rfl,rfl,q⟩:=h;obtain⟨t,rfl⟩:=D;obtain⟨t',rfl⟩:=F;exact rule i j t t' s _ _ ⟨.int (g i j),H,B.tok _,⟨_,J⟩,q⟩
theorem opB0{f:Value->Value->Sem Value}{g:Int->Int->Bool}(rule:∀(i j:Int) (t u:Tok) (s:Shared) (Q:Value->Shared->Prop) (E:Value->Shared->Prop),Q (.bool (g i j)) s->wpAny (model X.prog X.w) X.A (f (.int i t) (.int j u)) Q E s) :
  OpR X f (rI0 λi j=>.bl (g i j)):=by
 intro pins s σ H x y v u Q B D F h;obtain⟨i,j,rfl,rfl,q⟩:=h;obtain⟨t,rfl⟩:=D;obtain⟨t',rfl⟩:=F;exact rule i j t t' s _ _ ⟨.bl (g i j),H,B,J,q⟩
noncomputable def CDiv(i j:Int):Prop:=0<j/\j<1073741824
noncomputable def CPow(i j:Int):Prop:=0<=j/\j<=1000000/\i.natAbs<2 ^ 64
noncomputable def CMul(i j:Int):Prop:=(-(2 ^ 64)<i/\i<2 ^ 64)∨(-(2 ^ 64)<j/\j<2 ^ 64)
theorem CMul.ok{i j:Int}(h:CMul i j):IntMulOk i j:=by
 rcases h with⟨h1,h2⟩|⟨h1,h2⟩
 .exact .of_left (intBits_le_64 h1 h2)
 .exact .of_right (intBits_le_64 h1 h2)
theorem zaN:OpR X (binaryOp .Add) (rI0 λi j=>.int (i+j)):=opI0 λ_ _ _ _ _ _ _ q=>add_int q
theorem zcf:OpR X (binaryOp .Sub) (rI0 λi j=>.int (i-j)):=opI0 λ_ _ _ _ _ _ _ q=>sub_int q
theorem zdF:OpR X (binaryOp .Mult) (rI CMul λi j=>.int (i*j)):=opI λ_ _ _ _ _ _ _ B q=>mul_int q B.ok
theorem zet:OpR X (binaryOp .FloorDiv) (rI CDiv λi j=>.int (i / j)):=opI λi j _ _ _ _ _ B q=>by
 have h1:(0:Int)<j:=B.1;have h2:j<1073741824:=B.2;exact floordiv_int (by omega) (by rw[Int.fdiv_eq_ediv_of_nonneg i (by omega)];exact q) (.inl (PyProof.noPylong_small (by omega)))
theorem zdh:OpR X (binaryOp .Mod) (rI (λ_ j=>0<j) λi j=>.int (i % j)):=opI λi j _ _ _ _ _ B q=>by
 have h1:(0:Int)<j:=B;exact mod_int' (by omega) (by rw[Int.fmod_eq_emod_of_nonneg i (by omega)];exact q)
theorem zkE:OpR X (binaryOp .Pow) (rI CPow λi j=>.int (i ^ j.toNat)):=opI λ_ _ _ _ _ _ _ B q=>pow_int_small B.1 B.2.1 B.2.2 q
theorem unI{f:Value->Sem Value}{g:Int->Int}(rule:∀(i:Int) (t:Tok) (s:Shared) (Q:Value->Shared->Prop) (E:Value->Shared->Prop),Q (.int (g i) s.toks) { s with toks:=s.toks+1 }->wpAny (model X.prog X.w) X.A (f (.int i t)) Q E s) :
  UnR X f (rU λi=>.int (g i)):=by
 intro pins s σ H x v Q B D h;obtain⟨i,rfl,q⟩:=h;obtain⟨t,rfl⟩:=D;exact rule i t s _ _ ⟨.int (g i),H,B.tok _,⟨_,J⟩,q⟩
theorem zbb:UnR X (unaryOp .USub) (rU λi=>.int (-i)):=unI λ_ _ _ _ _ q=>neg_int q
end
noncomputable def scal:V->V->Bool
 |.non,.non=>true|.non,.int _=>true|.int _,.non=>true|.non,.bl _=>true|.bl _,.non=>true|.non,.str _=>true|.str _,.non=>true
 |.int _,.int _=>true|.bl _,.bl _=>true|.str _,.str _=>true|.byt _,.byt _=>true
 |.int _,.str _=>true|.str _,.int _=>true|.bl _,.str _=>true|.str _,.bl _=>true
 |_,_=>false
noncomputable def rEq:R2:=λx y H Q=>scal x y=true/\Q (.bl (decide (x=y))) H
noncomputable def rNe:R2:=λx y H Q=>scal x y=true/\Q (.bl (!decide (x=y))) H
theorem zhP{i j:Int}:decide (V.int i=V.int j)=(i==j):=by
 rw[Bool.eq_iff_iff];simp
theorem zkF{i j:Bool}:decide (V.bl i=V.bl j)=(i==j):=by
 rw[Bool.eq_iff_iff];simp
theorem zfU{i j:Str}:decide (V.str i=V.str j)=(i==j):=by
 rw[Bool.eq_iff_iff];simp
theorem zhQ{i j:Array UInt8}:decide (V.byt i=V.byt j)=(i.toList==j.toList):=by
 rw[Bool.eq_iff_iff];cases i;cases j;simp
section
variable {X:Cx}{a b c:Expr}{ta tb tc:TE}{pos:Pos}
theorem zaO{pins:List (Addr×Obj)}{σ:St}{H:Hp}{s:Shared}{Q:VK}{k B:Bool}(D:Inv X pins σ H s)(q:Q (.bl k) H)(e:k=B):EP X pins σ Q (.bool B) s:=by
 subst e;exact⟨.bl k,H,D,J,q⟩
theorem zcg:OpR X (compareOp .Eq) rEq:=by
 intro pins s σ H x y v u Q B G D h;obtain⟨F,q⟩:=h;cases x with
 |non=>
  cases G;cases y with
  |non=>cases D;exact PySem.EqNone.eq_none_none (zaO B q (by simp))
  |bl j=>cases D;exact PySem.EqNone.eq_none_bool (zaO B q (by simp))
  |int j=>obtain⟨t',rfl⟩:=D;exact PySem.EqNone.eq_none_int (zaO B q (by simp))
  |str j=>obtain⟨t',rfl⟩:=D;exact PySem.EqNone.eq_none_str (zaO B q (by simp))
  |_=>exact absurd (show false=true from F) Bool.false_ne_true
 |bl i=>
  cases G;cases y with
  |non=>cases D;exact PySem.EqNone.eq_bool_none (zaO B q (by simp))
  |bl j=>cases D;exact eq_bool (zaO B q zkF)
  |str j=>obtain⟨t',rfl⟩:=D;exact PySem.EqMixed.eq_bool_str (zaO B q (by simp))
  |_=>exact absurd (show false=true from F) Bool.false_ne_true
 |int i=>
  obtain⟨t,rfl⟩:=G;cases y with
  |non=>cases D;exact PySem.EqNone.eq_int_none (zaO B q (by simp))
  |int j=>obtain⟨t',rfl⟩:=D;exact eq_int (zaO B q zhP)
  |str j=>obtain⟨t',rfl⟩:=D;exact PySem.EqMixed.eq_int_str (zaO B q (by simp))
  |_=>exact absurd (show false=true from F) Bool.false_ne_true
 |str i=>
  obtain⟨t,rfl⟩:=G;cases y with
  |non=>cases D;exact PySem.EqNone.eq_str_none (zaO B q (by simp))
  |bl j=>cases D;exact PySem.EqMixed.eq_str_bool (zaO B q (by simp))
  |int j=>obtain⟨t',rfl⟩:=D;exact PySem.EqMixed.eq_str_int (zaO B q (by simp))
  |str j=>obtain⟨t',rfl⟩:=D;exact eq_str (zaO B q zfU)
  |_=>exact absurd (show false=true from F) Bool.false_ne_true
 |byt i=>
  obtain⟨t,rfl⟩:=G;cases y with
  |byt j=>obtain⟨t',rfl⟩:=D;exact W.eq_bytes (zaO B q zhQ)
  |_=>exact absurd (show false=true from F) Bool.false_ne_true
 |_=>cases y<;>exact absurd (show false=true from F) Bool.false_ne_true
theorem zfg:OpR X (compareOp .NotEq) rNe:=by
 intro pins s σ H x y v u Q B G D h;obtain⟨F,q⟩:=h;cases x with
 |non=>
  cases G;cases y with
  |non=>cases D;exact PySem.EqNone.ne_none_none (zaO B q (by simp))
  |bl j=>cases D;exact PySem.EqNone.ne_none_bool (zaO B q (by simp))
  |int j=>obtain⟨t',rfl⟩:=D;exact PySem.EqNone.ne_none_int (zaO B q (by simp))
  |str j=>obtain⟨t',rfl⟩:=D;exact PySem.EqNone.ne_none_str (zaO B q (by simp))
  |_=>exact absurd (show false=true from F) Bool.false_ne_true
 |bl i=>
  cases G;cases y with
  |non=>cases D;exact PySem.EqNone.ne_bool_none (zaO B q (by simp))
  |bl j=>cases D;exact ne_bool (zaO B q (congrArg not zkF))
  |str j=>obtain⟨t',rfl⟩:=D;exact PySem.EqMixed.ne_bool_str (zaO B q (by simp))
  |_=>exact absurd (show false=true from F) Bool.false_ne_true
 |int i=>
  obtain⟨t,rfl⟩:=G;cases y with
  |non=>cases D;exact PySem.EqNone.ne_int_none (zaO B q (by simp))
  |int j=>obtain⟨t',rfl⟩:=D;exact ne_int (zaO B q (congrArg not zhP))
  |str j=>obtain⟨t',rfl⟩:=D;exact PySem.EqMixed.ne_int_str (zaO B q (by simp))
  |_=>exact absurd (show false=true from F) Bool.false_ne_true
 |str i=>
  obtain⟨t,rfl⟩:=G;cases y with
  |non=>cases D;exact PySem.EqNone.ne_str_none (zaO B q (by simp))
  |bl j=>cases D;exact PySem.EqMixed.ne_str_bool (zaO B q (by simp))
  |int j=>obtain⟨t',rfl⟩:=D;exact PySem.EqMixed.ne_str_int (zaO B q (by simp))
  |str j=>obtain⟨t',rfl⟩:=D;exact ne_str (zaO B q (congrArg not zfU))
  |_=>exact absurd (show false=true from F) Bool.false_ne_true
 |byt i=>
  obtain⟨t,rfl⟩:=G;cases y with
  |byt j=>obtain⟨t',rfl⟩:=D;exact W.ne_bytes (zaO B q (congrArg not zhQ))
  |_=>exact absurd (show false=true from F) Bool.false_ne_true
 |_=>cases y<;>exact absurd (show false=true from F) Bool.false_ne_true
theorem zd7:OpR X (compareOp .Lt) (rI0 λi j=>.bl (decide (i<j))):=opB0 λ_ _ _ _ _ _ _ q=>lt_int q
theorem zfV:OpR X (compareOp .LtE) (rI0 λi j=>.bl (decide (i<=j))):=opB0 λ_ _ _ _ _ _ _ q=>le_int q
theorem zg9:OpR X (compareOp .Gt) (rI0 λi j=>.bl (decide (j<i))):=opB0 λ_ _ _ _ _ _ _ q=>gt_int q
theorem zmz:OpR X (compareOp .GtE) (rI0 λi j=>.bl (decide (j<=i))):=opB0 λ_ _ _ _ _ _ _ q=>ge_int q
theorem zhR:OpR X (compareOp .In) (λx y H Q=>∃i j,x=.str i/\y=.str j/\Q (.bl (!(Builtin.Str.occurrences j i 0 j.length 1).isEmpty)) H):=by
 intro pins s σ H x y v u Q B D F h;obtain⟨i,j,rfl,rfl,q⟩:=h;obtain⟨t,rfl⟩:=D;obtain⟨t',rfl⟩:=F;exact in_str (zaO B q J)
theorem zlW:OpR X (compareOp .Is) (λx y H Q=>y=.non/\Q (.bl (decide (x=.non))) H):=by
 intro pins s σ H x y v u Q D B F h;obtain⟨rfl,q⟩:=h;cases F;refine is_none_gen (zaO D q ?_);cases x<;>first
  |(cases B;rfl)
  |(obtain⟨t,rfl⟩:=B;rfl)
theorem zaz(b:Expr){op:CmpOp}(h:op≠.In:=by decide)(h2:op≠.NotIn:=by decide):behindInMarks op b=false:=by
 have B:(op==CmpOp.In)=false:=by cases op<;>first|rfl|exact absurd rfl h
 have D:(op==CmpOp.NotIn)=false:=by cases op<;>first|rfl|exact absurd rfl h2
 cases b<;>simp[behindInMarks,B,D]
theorem zfW{op:CmpOp}{r:R2}(B:OpR X (compareOp op) r)(D:PE X a ta)(F:PE X b tb)(G:behindInMarks op b=false):PE X (.Compare a [op] [b] pos) (tOp r ta tb):=by
 intro pins s σ H Q I h;exact wpAny_Compare1 (binT D F I h λv u J0 x y H2 O U V q=>B pins J0 σ H2 x y v u Q O U V q) G
noncomputable def tTest(t:TE):TT:=λσ H Q=>t σ H λx H'=>∃k,x=.bl k/\Q k H'
theorem zat{op:CmpOp}{r:R2}(B:OpR X (compareOp op) r)(D:PE X a ta)(F:PE X b tb)(G:behindInMarks op b=false):PT X (.Compare a [op] [b] pos) (tTest (tOp r ta tb)):=by
 intro pins s σ H Q I h;refine wpAny_isTrue_Compare1 (thn (D pins s σ H _ I h) λv J0 ⟨x,H1,O,U,q1⟩=>thn (F pins J0 σ H1 _ O q1) λu V ⟨y,H2,W,Y,Z⟩=>
  thn (B pins V σ H2 x y v u _ W U Y Z) λc ae ⟨z,aa,ab,ac,k,e,ad⟩=>?_) G
 subst e;cases ac;exact wpAny_truthy_bool ⟨aa,ab,ad⟩
noncomputable def zlX(r D:R2)(ta tb tc:TE):TE:=λσ H Q=>ta σ H λx H1=>tb σ H1 λy H2=>r x y H2 λz B=>∃k,z=.bl k /\
 (if k=true then tc σ B λF G=>D y F G Q else Q (.bl false) B)
theorem zju{op B:CmpOp}{r D:R2}(O:OpR X (compareOp op) r)(U:OpR X (compareOp B) D)(V:PE X a ta)(W:PE X b tb)(Y:PE X c tc)(Z:lastMarks [op,B] [b,c]=false:=by with_unfolding_all rfl):PT X (.Compare a [op,B] [b,c] pos) (tTest (zlX r D ta tb tc)):=by
 intro pins s σ H Q aa h;refine isTrue_chain (thn (V pins s σ H _ aa h) λv ab ⟨x,H1,ac,ad,q1⟩=>test_link (thn (W pins ab σ H1 _ ac q1) λu ae ⟨y,H2,af,F,ag⟩=>
  thn (O pins ae σ H2 x y v u _ af ad F ag) λd ah ⟨z,G,I,ai,k,e,J0⟩=>?_)) Z
 subst e;cases ai;refine wpAny_truthy_bool ?_;cases k with
 |false=>
  obtain⟨aA,aj,ak⟩:=J0;cases aj;exact ite_ff ⟨G,I,ak⟩
 |true=>
  refine ite_tt (test_last (thn (Y pins ah σ G _ I J0) λal am ao=>?_));obtain⟨z',ap,aq,ar,as⟩:=ao;refine thn (U pins am σ ap y z' u al _ aq F ar as) λd' aB au=>?_;obtain⟨aC,av,aw,ax,k2,ay,az⟩:=au;subst ay;cases ax;exact wpAny_truthy_bool ⟨av,aw,az⟩
noncomputable def TruV(K:W.Frag)(x:V)(H:Hp)(k:Bool):Prop:=
 match x with
 |.non=>k=false
 |.bl b=>k=b
 |.int i=>k=(i != 0)
 |.str y=>y.length<=sizeLine/\k=((y.length:Int) != 0)
 |.byt y=>y.size<=sizeLine/\k=((y.size:Int) != 0)
 |.ref p=>(∃xs,SqL K H p xs/\k=!xs.isEmpty)∨(∃xs,SqT K H p xs/\k=!xs.isEmpty)∨∃kvs,H p=some (.dK kvs)/\k=!kvs.isEmpty
 |_=>False
theorem zha{κ:Type}{kvs:List (κ×V)}{vs:List (κ×Value)}(r:KV kvs vs):(!vs.isEmpty)=!kvs.isEmpty:=by
 cases r<;>rfl
theorem zed{xs:List V}{its:List Value}(r:Vals xs its):(!its.toArray.isEmpty)=!xs.isEmpty:=by
 cases r<;>simp
theorem zcO:(sizeLine:Nat)<2 ^ 63:=by rw[sizeLine_eq];decide
theorem zlY:TruR X (λx H Q=>∃k,TruV X.K x H k/\Q k H):=by
 intro pins s σ H x v Q D F h;obtain⟨k,e,q⟩:=h;have V:=zcO;have Y:sizeLine=16777216:=sizeLine_eq;cases x with
 |non=>
  cases F;have B:k=false:=e;subst B;exact truthy_none ⟨H,D,q⟩
 |bl b=>
  cases F;have B:k=b:=e;subst B;exact wpAny_truthy_bool ⟨H,D,q⟩
 |int i=>
  obtain⟨t,rfl⟩:=F;have B:k=(i != 0):=e;subst B;exact PySem.P.truthy_int ⟨H,D,q⟩
 |str y=>
  obtain⟨t,rfl⟩:=F;obtain⟨O,B⟩:y.length<=sizeLine/\k=((y.length:Int) != 0):=e;subst B;exact PySem.P.truthy_str (by omega) ⟨H,D.tok _,q⟩
 |byt y=>
  obtain⟨t,rfl⟩:=F;obtain⟨O,B⟩:y.size<=sizeLine/\k=((y.size:Int) != 0):=e;subst B;exact W.truthy_bytes (by omega) ⟨H,D.tok _,q⟩
 |ref p=>
  cases F;have B:(∃xs,SqL X.K H p xs/\k=!xs.isEmpty)∨(∃xs,SqT X.K H p xs/\k=!xs.isEmpty)∨∃kvs,H p=some (.dK kvs)/\k=!kvs.isEmpty:=e;rcases B with⟨xs,G,B⟩|⟨xs,G,B⟩|⟨kvs,G,B⟩
  .subst B;obtain⟨its,r,pl,I⟩:=D.list G;have J0:=r.length;exact wpAny_truthy_list pl.isList (by simp only[List.size_toArray];omega) ⟨H,D.tok _,by rw[zed r];exact q⟩
  .subst B;obtain⟨its,r,pl,I⟩:=D.tuple G;have J0:=r.length;exact truthy_tuple pl (by simp only[List.size_toArray];omega) ⟨H,D.tok _,by rw[zed r];exact q⟩
  .subst B;obtain⟨I,U,vs,r,m⟩:kvs.length<=sizeLine/\(p==sysModules)=false/\∃vs,KV kvs vs/\s.heap.DictOf (zaF X.prog X.w) p vs:=D.hok p _ G;have J0:kvs.length=vs.length:=Paired.length r;exact wpAny_truthy_dict U m (by omega) ⟨H,D.tok _,by rw[zha r];exact q⟩
 |_=>exact(show False from e).elim
theorem zcP(D:PE X a ta)(F:∀B,isTrue a X.env B=(do let v ← B;standAt a.pos;holding [v] (truthy v))) :
  PT X a (λσ H Q=>ta σ H λx H'=>∃k,TruV X.K x H' k/\Q k H'):=by
 intro pins s σ H Q G h;refine isTrue_plain (thn (D pins s σ H _ G h) λv I J0=>?_) (F _);obtain⟨x,H1,O,U,q1⟩:=J0;exact zlY pins I σ H1 x v Q O U q1
theorem zbh:OpR X (binaryOp .Add) (λx y H Q=>∃i j,x=.str i/\y=.str j/\i.length+j.length<=sizeLine/\Q (.str (i++j)) H):=by
 intro pins s σ H x y v u Q B D F h;obtain⟨i,j,rfl,rfl,G,q⟩:=h;obtain⟨t,rfl⟩:=D;obtain⟨t',rfl⟩:=F;exact add_str (λt' tk=>⟨.str (i++j),H,B.tok _,⟨_,J⟩,q⟩) G
theorem vals1{x:V}{us:List Value}(r:Vals [x] us):∃u,us=[u]/\RelV x u:=by
 cases r with
 |cons B D=>cases D;exact⟨_,J,B⟩
theorem vals2{x y:V}{us:List Value}(r:Vals [x,y] us):∃u B,us=[u,B]/\RelV x u/\RelV y B:=by
 cases r with
 |cons D F=>
  cases F with
  |cons G I=>cases I;exact⟨_,_,J,D,G⟩
theorem zhS(F:X.calm=true):CallR X (.builtin "max") (λxs H Q=>∃i j,xs=[.int i,.int j]/\Q (.int (if j>i then j else i)) H):=by
 intro pins s σ H xs us Q D r h;obtain⟨i,j,rfl,q⟩:=h;obtain⟨u,G,rfl,⟨t,rfl⟩,⟨t',rfl⟩⟩:=vals2 r;refine max_two_ints (D.ok.hd F) λh' tk k=>⟨_,H,D.kept k,?_,q⟩;by_cases B:j>i
 .rw[if_pos B,if_pos B];exact⟨_,J⟩
 .rw[if_neg B,if_neg B];exact⟨_,J⟩
theorem zfh(F:X.calm=true):CallR X (.builtin "min") (λxs H Q=>∃i j,xs=[.int i,.int j]/\Q (.int (if j<i then j else i)) H):=by
 intro pins s σ H xs us Q D r h;obtain⟨i,j,rfl,q⟩:=h;obtain⟨u,G,rfl,⟨t,rfl⟩,⟨t',rfl⟩⟩:=vals2 r;refine min_two_ints (D.ok.hd F) λh' tk k=>⟨_,H,D.kept k,?_,q⟩;by_cases B:j<i
 .rw[if_pos B,if_pos B];exact⟨_,J⟩
 .rw[if_neg B,if_neg B];exact⟨_,J⟩
theorem zhT:CallR X (.type "int") (λxs H Q=>(∃i,xs=[.int i]/\Q (.int i) H)∨∃k,xs=[.bl k]/\Q (.int (if k then 1 else 0)) H):=by
 intro pins s σ H xs us Q B r h;rcases h with⟨i,rfl,q⟩|⟨k,rfl,q⟩
 .obtain⟨u,rfl,t,rfl⟩:=vals1 r;exact call_int_int ⟨.int i,H,B,⟨_,J⟩,q⟩
 .obtain⟨u,rfl,D⟩:=vals1 r;cases D;exact call_int_bool ⟨.int (if k then 1 else 0),H,B.tok _,⟨_,J⟩,q⟩
end
structure ObjM(h:Heap)(x dx C:Addr)(mA:Str->Option Value):Prop where
 obj:h.get? x=some (W.instObj C dx)
 ns:h.Ns1 dx mA
 ne:dx≠x
theorem zhU{h:Heap}{dx:Addr}{mA:Str->Option Value}(n:h.Ns1 dx mA):∃od,h.get? dx=some od/\∀name,W.lookIn name od=some (mA name):=by
 obtain⟨o,es,ep,B,D,F,_,G⟩:=n;refine⟨o,B,λname=>?_⟩;have e:=G name;unfold nsFind findBy at e;rw[←Array.find?_toList] at e;unfold W.lookIn;rw[D];dsimp only;split
 .rename_i y q;rw[q] at e;exact congrArg some e
 .rename_i q;rw[q] at e;have a:es.toList.any (·.refKey)=false:=by
   rw[List.any_eq_false];intro y I;obtain⟨z,t,J0⟩:=F y (Array.mem_toList_iff.mp I);simp[DictEntry.refKey,J0]
  have O:¬es.toList.any (·.refKey)=true:=by rw[a];exact Bool.false_ne_true
  rw[if_neg O];exact congrArg some e
theorem ObjM.look{h:Heap}{x dx C:Addr}{mA:Str->Option Value}(B:ObjM h x dx C mA):∃od,W.InstAt h x (W.instObj C dx) C (some od)/\∀name,W.lookIn name od=some (mA name):=
 let ⟨od,D,F⟩:=zhU B.ns
 ⟨od,⟨B.obj,J,J,D⟩,F⟩
section
variable {prog:Program}{w:World}{A:Around}{E:Value->Shared->Prop}{s:Shared}{K:W.Frag}{x dx C f:Addr}{mA:Str->Option Value}{name:Str}{v:Value}
theorem zkY{B:Bool}{Q:Value->Shared->Prop}(X:K.In s.heap)(D:ObjM s.heap x dx C mA)(F:W.plainGet K C name=true)(G:W.hasDictIn K C=true)(I:W.findIn K (.ref C) name=some none)(O:mA name=some v)(U:W.handedIn v=true)(h:Q v { s with toks:=s.toks+1 }) :
  wpAny (model prog w) A (getAttr (.ref x) name B) Q E s:=by
 obtain⟨od,J0,V⟩:=D.look;exact W.get_value X J0 (W.plainGet_of F).1 (W.findObj_own G I J (by rw[V,O])) U h
theorem zjv{pl:Sem Bool}{Q:Value×List Value->Shared->Prop}(X:K.In s.heap)(D:ObjM s.heap x dx C mA)(B:W.plainGet K C name=true)(F:W.findIn K (.ref C) name=some (some (.ref f)))(G:W.isFn K (.ref f)=true)(I:mA name=none)(h:Q (.ref f,[.ref x]) s) :
  wpAny (model prog w) A (getMethod (.ref x) name pl) Q E s:=by
 obtain⟨od,J0,O⟩:=D.look;exact W.method_fn X J0 (W.plainGet_of B).1 (W.plainGet_of B).2 F (beq_iff_eq.mp G) (by show (W.lookIn name od).map (·.isSome)=some false;rw[O,I];rfl) h
theorem zkZ{D:List Str}{Q:Unit->Shared->Prop}(X:K.In s.heap)(B:ObjM s.heap x dx C mA)(I:W.findIn K (.ref C) "__setattr__"=some (some (.builtin "object.__setattr__")))(O:W.plainOver K C=true)(U:W.takerIn K C name=some none)(V:W.hasDictIn K C=true)(hw:PySem.Within mA D)(hsz:D.length<=sizeLine)(h:∀h',ObjM h' x dx C (λy=>if y=name then some v else mA y)->Heap.SameBut dx s.heap h'->Q () { s with heap:=h',toks:=s.toks+2 }) :
  wpAny (model prog w) A (setAttr (.ref x) name v) Q E s:=by
 obtain⟨od,J0,ae⟩:=B.look;refine W.set_plain X J0 I (W.osa_open (s:={ s with toks:=s.toks+1 }) (r:=none) X J0 O U λb=>?_);obtain⟨cd,Y,Z⟩:=W.any_some V;have aa:s.heap.get? x=some ⟨.ref C,some dx,.plain,#[]⟩:=B.obj;refine wpAny_bind (wpAny_pure (wpAny_bind (wpAny_bind (wpAny_loadPart aa (wpAny_bind (W.Looks.here (s:={ s with toks:=s.toks+1 }) (W.looks_clsIn X Y) ?_))))));rw[Z];refine wpAny_pure (a:=some dx) (wpAny_bind (wpAny_pure (wpAny_bind ?_)));refine wpAny_nsSet1 (s:={ s with toks:=s.toks+1 }) B.ns λh' F G=>?_;obtain⟨af,ag,ah,ab,ac,ad⟩:=F.count (PySem.Within.cons name v hw);refine wpAny_bind (wpAny_lookBehind ab (by rw[ac];exact pastItsLine_dict (Nat.le_trans ad (by rw[List.length_cons];omega))) ?_);exact wpAny_pure (h _ ⟨(G.2 _ (Ne.symm B.ne)).trans B.obj,F,B.ne⟩ G)
theorem zjw{R:Result->Shared->Prop}{vs:List Value}{B:List (Str×Value)}(X:K.In s.heap)(D:W.makesIn K C=true)(hi:W.findIn K (.ref C) "__init__"=some (some (.ref f)))(F:W.typeIn K (.ref f)=some (.type "function"))(h:codeAny (model prog w) (A.under (.builtin "type.__call__" ⟨.ref C::vs,B⟩)) (.call (.ref f) ⟨.ref (s.heap.objs.size+1)::vs,B⟩) (W.InitBack (s.heap.objs.size+1) R)
   { s with heap:=(s.heap.push W.emptyDict).push (W.instObj C s.heap.objs.size) }) :
  codeAny (model prog w) A (.call (.ref C) ⟨vs,B⟩) R s:=by
 obtain⟨G,g,d,t,os⟩:=s;exact W.make_core (W.makes_of X D) (W.looks_findIn X hi) (λself=>W.bind_fn X self F) (.inl J) h
end
noncomputable def putF(f:Str)(v:V):List (Str×V)->List (Str×V)
 |[]=>[(f,v)]
 |(g,x)::r=>if g=f then (g,v)::r else (g,x)::putF f v r
theorem zdG(f g:Str)(v:V):∀fs:List (Str×V),(putF f v fs).lookup g=if g=f then some v else fs.lookup g
 |[]=>by
  show List.lookup g [(f,v)]=_;by_cases h:g=f
  .have B:(g==f)=true:=beq_iff_eq.mpr h;simp only[List.lookup,B,if_pos h]
  .have B:(g==f)=false:=beq_eq_false_iff_ne.mpr h;simp only[List.lookup,B,if_neg h]
 |(k,x)::r=>by
  have F:=zdG f g v r;rw[show putF f v ((k,x)::r)=(if k=f then (k,v)::r else (k,x)::putF f v r) from rfl];by_cases D:k=f
  .rw[if_pos D];by_cases h:g=k
   .have B:(g==k)=true:=beq_iff_eq.mpr h;simp only[List.lookup,B,if_pos (h.trans D)]
   .have B:(g==k)=false:=beq_eq_false_iff_ne.mpr h;simp only[List.lookup,B,if_neg (λe:g=f=>h (e.trans D.symm))]
  .rw[if_neg D];by_cases h:g=k
   .have B:(g==k)=true:=beq_iff_eq.mpr h;simp only[List.lookup,B,if_neg (λe:g=f=>D (h.symm.trans e))]
   .have B:(g==k)=false:=beq_eq_false_iff_ne.mpr h;simp only[List.lookup,B];exact F
theorem zdH(f:Str)(v:V):∀fs:List (Str×V),f∈(putF f v fs).map (·.1)/\∀g,g∈fs.map (·.1)->g∈(putF f v fs).map (·.1)
 |[]=>⟨by simp[putF],λg h=>by simp at h⟩
 |(k,x)::r=>by
  obtain⟨D,F⟩:=zdH f v r;rw[show putF f v ((k,x)::r)=(if k=f then (k,v)::r else (k,x)::putF f v r) from rfl];by_cases B:k=f
  .rw[if_pos B];subst B;exact⟨by simp,λg h=>by simpa using h⟩
  .rw[if_neg B];refine⟨?_,λg h=>?_⟩
   .rw[List.map_cons];exact List.mem_cons_of_mem _ D
   .rw[List.map_cons] at h ⊢;rcases List.mem_cons.mp h with e|e
    .exact List.mem_cons.mpr (.inl e)
    .exact List.mem_cons_of_mem _ (F g e)
theorem zdI(f:Str)(v:V):∀fs:List (Str×V),(putF f v fs).length<=fs.length+1
 |[]=>by simp[putF]
 |(k,x)::r=>by
  have D:=zdI f v r;rw[show putF f v ((k,x)::r)=(if k=f then (k,v)::r else (k,x)::putF f v r) from rfl];by_cases B:k=f
  .rw[if_pos B,List.length_cons,List.length_cons];omega
  .rw[if_neg B,List.length_cons,List.length_cons];omega
theorem RelO.some_of{v:V}{o:Option Value}(r:RelO (some v) o):∃u,o=some u/\RelV v u:=by
 cases o with
 |none=>exact(show False from r).elim
 |some u=>exact⟨u,J,r⟩
theorem RelO.none_of{o:Option Value}(r:RelO none o):o=none:=by
 cases o with
 |none=>rfl
 |some u=>exact(show False from r).elim
theorem zhV{v:V}{u:Value}(r:RelV v u):W.handedIn u=true:=by
 cases v with
 |non=>cases (show u=Value.none from r);rfl
 |bl b=>cases (show u=Value.bool b from r);rfl
 |int i=>obtain⟨t,e⟩:=(show ∃t,u=Value.int i t from r);cases e;rfl
 |str x=>obtain⟨t,e⟩:=(show ∃t,u=Value.str x t from r);cases e;rfl
 |byt b=>obtain⟨t,e⟩:=(show ∃t,u=Value.bytes b t from r);cases e;rfl
 |flt b=>obtain⟨t,e⟩:=(show ∃t,u=Value.float b t from r);cases e;rfl
 |ref a=>cases (show u=Value.ref a from r);rfl
 |ty n=>cases (show u=Value.type n from r);rfl
section
variable {P:Program}{w:World}{H H':Hp}{h h':Heap}{a C dx:Addr}{fs fs':List (Str×V)}
theorem zfX(B:HOk P w H h)(e:H a=some (.ins C dx fs)):∃mA,ObjM h a dx C mA/\(∀f,RelO (fs.lookup f) (mA f))/\PySem.Within mA (fs.map (·.1))/\fs.length<=1000/\H dx=some (.own a):=by
 obtain⟨d,z,ne,ob,mA,n,r,q⟩:=(show ObjOk P w H h a (.ins C dx fs) from B a _ e);exact⟨mA,⟨ob,n,ne⟩,r,q,z,d⟩
end
structure Cls(K:W.Frag)(C:Addr):Prop where
 pg:W.plainGet K C Str.empty=true
 hd:W.hasDictIn K C=true
 po:W.plainOver K C=true
 sa:W.findIn K (.ref C) "__setattr__"=some (some (.builtin "object.__setattr__"))
theorem Cls.get{K:W.Frag}{C:Addr}(c:Cls K C)(f:Str):W.plainGet K C f=true:=c.pg
noncomputable def NoAttr(K:W.Frag)(C:Addr)(f:Str):Prop:=W.findIn K (.ref C) f=some none
theorem NoAttr.taker{K:W.Frag}{C:Addr}{f:Str}(n:NoAttr K C f):W.takerIn K C f=some none:=by
 unfold W.takerIn;rw[show W.findIn K (.ref C) f=some none from n];rfl
structure Meth(K:W.Frag)(C:Addr)(m:Str)(f:Addr):Prop where
 at_:W.findIn K (.ref C) m=some (some (.ref f))
 fn:W.isFn K (.ref f)=true
 kp:W.keepIn K (.ref f)=true
section
variable {X:Cx}{pins:List (Addr×Obj)}{σ:St}{H:Hp}{s:Shared}{a C dx:Addr}{fs:List (Str×V)}{f:Str}{v:V}{A:Around}{E:Value->Shared->Prop}
theorem zhb{b:Bool}{Q:Value->Shared->Prop}(B:Inv X pins σ H s)(e:H a=some (.ins C dx fs))(c:Cls X.K C)(n:NoAttr X.K C f)(l:fs.lookup f=some v)(h:∀u s',Inv X pins σ H s'->RelV v u->Q u s'):wpAny (model X.prog X.w) A (getAttr (.ref a) f b) Q E s:=by
 obtain⟨mA,F,r,_,_,_⟩:=zfX B.hok e;obtain⟨u,G,D⟩:=RelO.some_of (v:=v) (o:=mA f) (by rw[←l];exact r f);exact zkY B.kIn F (c.get f) c.hd n G (zhV D) (h u _ (B.tok _) D)
theorem zbR{m:Str}{g:Addr}{pl:Sem Bool}{Q:Value×List Value->Shared->Prop}(B:Inv X pins σ H s)(e:H a=some (.ins C dx fs))(c:Cls X.K C)(k:Meth X.K C m g)(l:fs.lookup m=none)(h:Q (.ref g,[.ref a]) s):wpAny (model X.prog X.w) A (getMethod (.ref a) m pl) Q E s:=by
 obtain⟨mA,D,r,_,_,_⟩:=zfX B.hok e;have F:mA m=none:=RelO.none_of (by rw[←l];exact r m);exact zjv B.kIn D (c.get m) k.at_ k.fn F h
theorem zhc{y:V}{u:Value}{Q:Unit->Shared->Prop}(B:Inv X pins σ H s)(e:H a=some (.ins C dx fs))(c:Cls X.K C)(n:NoAttr X.K C f)(aa:fs.length<1000)(I:RelV y u)(h:∀s',Inv X pins σ (upd H a (.ins C dx (putF f y fs))) s'->Q () s'):wpAny (model X.prog X.w) A (setAttr (.ref a) f u) Q E s:=by
 obtain⟨mA,D,r,wi,_,G⟩:=zfX B.hok e;have J0:(fs.map (·.1)).length<=sizeLine:=by rw[List.length_map,sizeLine_eq];omega
 refine zkZ B.kIn D c.sa c.po n.taker c.hd wi J0 λh' F O=>h _ ?_;have U:∃o,h'.get? dx=some o:=let ⟨o,_,_,W,_⟩:=F.ns;⟨o,W⟩;refine B.write (x:=a) (e:=dx) (by rw[e];exact True.intro) (.inr G) (λb q Y z=>(O.2 b Y).trans z) U ?_;refine⟨by rw[zak D.ne];exact G,?_,D.ne,F.obj,_,F.ns,λg=>?_,λg Z=>?_⟩
 .have:=zdI f y fs;omega
 .show RelO ((putF f y fs).lookup g) (if g=f then some u else mA g);rw[zdG];by_cases q:g=f
  .rw[if_pos q,if_pos q];exact I
  .rw[if_neg q,if_neg q];exact r g
 .by_cases q:g=f
  .rw[q];exact(zdH f y fs).1
  .refine(zdH f y fs).2 g (wi g λz=>Z ?_);show (if g=f then some u else mA g)=none;rw[if_neg q];exact z
theorem Inv.made(D:Inv X pins σ H s):Inv X pins σ (upd (upd H s.heap.objs.size (.own (s.heap.objs.size+1))) (s.heap.objs.size+1) (.ins C s.heap.objs.size []))
  { s with heap:=(s.heap.push W.emptyDict).push (W.instObj C s.heap.objs.size) }:=by
 have B:(s.heap.push W.emptyDict).get? s.heap.objs.size=some W.emptyDict:=Heap.get?_push_size s.heap rfl;have F:((s.heap.push W.emptyDict).push (W.instObj C s.heap.objs.size)).get? (s.heap.objs.size+1)=some (W.instObj C s.heap.objs.size):=by
  have:=Heap.get?_push_size (s.heap.push W.emptyDict) (o:=W.instObj C s.heap.objs.size) rfl
  rwa [Heap.size_push] at this
 have G:(s.heap.push W.emptyDict).Ns s.heap.objs.size (λ_=>none):=⟨W.emptyDict,#[],_,B,J,(λe I=>absurd I (by simp)),λ_=>rfl⟩;have J0:=D.laid (a:=s.heap.objs.size) (o:=.own (s.heap.objs.size+1)) (h':=s.heap.push W.emptyDict) (t':=s.toks) (λb u q=>Heap.get?_push_of_some _ q) (Nat.le_refl _) ⟨_,B⟩;refine J0.laid (a:=s.heap.objs.size+1) (o:=.ins C s.heap.objs.size []) (t':=s.toks) (λb u q=>Heap.get?_push_of_some _ q) (Nat.le_of_eq (Heap.size_push _ _)) ?_;have ne:s.heap.objs.size≠s.heap.objs.size+1:=Nat.ne_of_lt (Nat.lt_succ_self _);refine⟨by rw[zak ne,zab],Nat.zero_le _,ne,F,λ_=>none,(Heap.Ns1.of_empty G).at λo q=>Heap.get?_push_of_some _ q,λ_=>True.intro,λy O=>absurd J O⟩
theorem zk0{prog:Program}{w:World}{env:Env}{e:Expr}{f:Str}{pos:Pos}{s:Shared}{Q:Value->Shared->Prop}(B:attributeBase e f env (eval e env)=eval e env)(h:wpAny (model prog w) A (eval e env) (λo D=>wpAny (model prog w) A (getAttr o f true) Q E D) E s):wpAny (model prog w) A (eval (.Attribute e f pos) env) Q E s:=
 Attribute_any_ h (by rw[arm_eval_Attribute,B])
end
noncomputable def tFld(K:W.Frag)(ta:TE)(f:Str):TE:=λσ H Q=>ta σ H λx H1=>∃a C dx fs v,x=.ref a/\H1 a=some (.ins C dx fs)/\Cls K C/\NoAttr K C f/\fs.lookup f=some v/\Q v H1
noncomputable def sFld(K:W.Frag)(ta tv:TE)(f:Str):TS:=λD σ H=>tv σ H λy H1=>ta σ H1 λx H2=>∃a C dx fs,x=.ref a/\H2 a=some (.ins C dx fs)/\Cls K C/\NoAttr K C f/\fs.length<1000 /\
 D.nx σ (upd H2 a (.ins C dx (putF f y fs)))
section
variable {X:Cx}{o e value:Expr}{f:Str}{pos pos' tpos:Pos}{ta tv:TE}
theorem zaI(B:PE X e ta)(D:attributeBase e f X.env (eval e X.env)=eval e X.env):PE X (.Attribute e f pos) (tFld X.K ta f):=by
 intro pins s σ H Q F h;refine zk0 D (thn (B pins s σ H _ F h) λu V G=>?_);obtain⟨x,H1,I,J0,a,C,dx,fs,v,ex,ea,c,n,l,q⟩:=G;subst ex;obtain rfl:u=Value.ref a:=J0;exact zhb I ea c n l λW Y O U=>⟨v,H1,O,U,q⟩
theorem zch(B:PE X o ta)(F:PE X value tv)(G:swapsWith value (some (.Attribute o f pos')) pos.line X.env=pure false):PS X (.Assign [.Attribute o f pos'] value pos) (sFld X.K ta tv f):=by
 intro pins s σ H D I h;refine plainObj_wpAny_Assign_Attribute (thn (F pins s σ H _ I h) λu J0 O=>?_) G;obtain⟨y,H1,U,V,q⟩:=O;refine thn (B pins J0 σ H1 _ U q) λW ad Y=>?_;obtain⟨x,H2,Z,aa,a,C,dx,fs,ex,ea,c,n,l,ab⟩:=Y;subst ex;obtain rfl:W=Value.ref a:=aa;exact zhc Z ea c n l V λae ac=>⟨σ,_,ac,ab⟩
theorem zk1{pl:Sem Bool}{m:Str}{apos:Pos}{args:List Expr}{pins:List (Addr×Obj)}{s:Shared}{σ:St}{H:Hp}{Q:Value->Shared->Prop}{te:TE}(G:PE X e te)(I:Inv X pins σ H s)(h:te σ H λx H1=>∃a C dx fs g,x=.ref a/\H1 a=some (.ins C dx fs)/\Cls X.K C/\Meth X.K C m g/\fs.lookup m=none /\
   ∀B,Inv X pins σ H1 B->wpAny (model X.prog X.w) X.A (callWith pos (.ref g) [.ref a] (backTo pos (starEach args X.env)) (backToKw pos (keywordEach [] X.env))) Q X.xe B)(J0:eval (.Call (.Attribute e m apos) args [] pos) X.env=(do
   let D ← eval e X.env
   standAt apos.atName
   let (f,first) ← holding [D] (getMethod D m pl)
   callWith pos f first (backTo pos (starEach args X.env)) (backToKw pos (keywordEach [] X.env)))) :
  wpAny (model X.prog X.w) X.A (eval (.Call (.Attribute e m apos) args [] pos) X.env) Q X.xe s:=by
 refine W.methodCall_KW (pl:=pl) (thn (G pins s σ H _ I h) λu B O=>?_) J0;obtain⟨x,H1,F,U,a,C,dx,fs,g,ex,ea,c,k,l,q⟩:=O;subst ex;obtain rfl:u=Value.ref a:=U;exact zbR F ea c k l (q B F)
end
section
variable {X:Cx}{pins:List (Addr×Obj)}{σ:St}{H:Hp}{s:Shared}{A:Around}{E:Value->Shared->Prop}{Q:Value->Shared->Prop}{c:Value}{b:Bool}
end
structure Room(k:Nat)(A:Around):Prop where
 hd:A.handled=none
 dp:A.depth+3*k+5<recursionLimit
 un:A.units+16*k+200<cLine
theorem Room.mono{j k:Nat}{A:Around}(r:Room k A)(h:j<=k):Room j A:=⟨r.hd,by have:=r.dp;omega,by have:=r.un;omega⟩
theorem Room.deeper{k:Nat}{A:Around}(r:Room (k+1) A)(env:Env):Room k (A.deeper env):=
 ⟨r.hd,by have:=r.dp;show A.depth+1+3*k+5<_;omega,by have:=r.un;show A.units+3+16*k+200<_;omega⟩
theorem Room.in1{k:Nat}{A:Around}(r:Room (k+1) A):Room k A.in1:=
 ⟨r.hd,by have:=r.dp;show A.depth+3*k+5<_;omega,by have:=r.un;show A.units+1+16*k+200<_;omega⟩
theorem zhd{A:Around}{C:Addr}{us:List Value}{B:List (Str×Value)}:(A.under (.builtin "type.__call__" ⟨.ref C::us,B⟩)).depth=A.depth+1:=by
 first|rfl|simp[Around.under,Code.weight,Code.isCreation,Code.isGuard,Code.isCaller,Code.frames,Code.isFrame,guardIds]
theorem zhe{A:Around}{C:Addr}{us:List Value}{B:List (Str×Value)}:(A.under (.builtin "type.__call__" ⟨.ref C::us,B⟩)).units=A.units+1:=by
 first|rfl|simp[Around.under,Code.cUnits,Code.frames,Code.isFrame]
theorem Room.make{k:Nat}{A:Around}(r:Room (k+1) A)(C:Addr)(us:List Value)(B:List (Str×Value)):Room k (A.under (.builtin "type.__call__" ⟨.ref C::us,B⟩)):=
 ⟨r.hd,by have:=r.dp;rw[zhd];omega,by have:=r.un;rw[zhe];omega⟩
theorem Room.depth{k:Nat}{A:Around}(r:Room k A):A.depth<recursionLimit:=by have:=r.dp;omega
theorem Room.units0{k:Nat}{A:Around}(r:Room k A):A.units<cLine:=by have:=r.un;omega
noncomputable def tNil:TA:=λ_ H Q=>Q [] H
noncomputable def tCons(ta:TE)(B:TA):TA:=λσ H Q=>ta σ H λx H1=>B σ H1 λxs H2=>Q (x::xs) H2
section
variable {X:Cx}{e:Expr}{es:List Expr}{te:TE}{t:TA}{pos:Pos}
theorem zad:PA X [] tNil:=λ_ _ _ _ H Q B h=>Calls.spliced_nil ⟨[],H,B,.nil,h⟩
theorem zaa(D:PE X e te)(F:PA X es t)(G:starEach (e::es) X.env=(false,eval e X.env)::starEach es X.env:=by rfl):PA X (e::es) (tCons te t):=by
 intro pos pins s σ H Q I h;rw[G];show wpAny _ _ (spliced ((false,eval e X.env)::backTo pos (starEach es X.env))) _ _ s;refine Calls.spliced_cons (thn (D pins s σ H _ I h) λu J0 B=>?_);obtain⟨x,H1,O,U,q1⟩:=B;refine thn (F pos pins J0 σ H1 _ O q1) λus Z B=>?_;obtain⟨xs,H2,V,W,Y⟩:=B;exact⟨x::xs,H2,V,.cons U W,Y⟩
noncomputable def tTup(t:TA):TE:=λσ H Q=>t σ H λxs H1=>xs.length<=sizeLine/\∀p,H1 p=none->Q (.ref p) (upd H1 p (.tup xs))
noncomputable def tLst(t:TA):TE:=λσ H Q=>t σ H λxs H1=>xs.length<=sizeLine/\∀p,H1 p=none->Q (.ref p) (upd H1 p (.lst xs))
theorem za9{x1}(h:PA X es t):PE X (.Tuple es x1 pos) (tTup t):=by
 intro pins s σ H Q F G;refine wpAny_Tuple_spliced (thn (h pos pins s σ H _ F G) λus B I=>?_);obtain⟨xs,H1,D,r,z,q⟩:=I;refine⟨by rw[←r.length];exact z,?_⟩;have J0:H1 B.heap.objs.size=none:=D.hok.fresh (Nat.le_refl _);refine⟨.ref B.heap.objs.size,upd H1 B.heap.objs.size (.tup xs),D.laid (t':=B.toks) (λb u e=>Heap.get?_push_of_some _ e) (Nat.le_refl _) ?_,J,q _ J0⟩;exact⟨z,us,r,⟨_,Heap.get?_push_size _ J,J,_,J⟩⟩
theorem zaE(h:PA X es t):PE X (.List es pos) (tLst t):=by
 intro pins s σ H Q F G;refine wpAny_List_spliced (thn (h pos pins s σ H _ F G) λus B I=>?_);obtain⟨xs,H1,D,r,z,q⟩:=I;refine⟨by rw[←r.length];exact z,?_⟩;have J0:H1 B.heap.objs.size=none:=D.hok.fresh (Nat.le_refl _);refine⟨.ref B.heap.objs.size,upd H1 B.heap.objs.size (.lst xs),D.laid (t':=B.toks) (λb u e=>Heap.get?_push_of_some _ e) (Nat.le_refl _) ?_,J,q _ J0⟩;exact⟨z,us,0,r,Heap.get?_push_size _ J⟩
end
noncomputable abbrev Sp:=List V->Hp->VK->XK->Prop
noncomputable abbrev CXT:=List Env->Hp->Shared->XK->Value->Shared->Prop
structure Env0(P:Program)(w:World)(K:W.Frag)(mg:Str->Option Value)(base:Heap)(A:Around)(outer:List Env)(s:Shared)(H:Hp):Prop where
 frames:A.frames=some outer
 mod:Mod K mg base
 bs:∀b o,base.get? b=some o->s.heap.get? b=some o/\H b=none
 bsz:base.objs.size<=s.heap.objs.size
 funs:s.heap.FunFrames base outer
 frf:∀b∈frs outer,H b=none
 hok:HOk P w H s.heap
 bare:AllBare s.gens
noncomputable def CE(outer:List Env)(P:Program)(w:World)(H:Hp)(s:Shared)(Q:VK)(u:Value)(s':Shared):Prop:=
 ∃v H',s'.os=s.os/\AllBare s'.gens/\Un (frs outer) [] H H' s.heap s'.heap/\HOk P w H' s'.heap/\RelV v u/\Q v H'
noncomputable def CR(CX:CXT)(outer:List Env)(P:Program)(w:World)(H:Hp)(s:Shared)(Q:VK)(E:XK)(r:Result)(s':Shared):Prop:=
 match r with
 |.ok (.ret u)=>CE outer P w H s Q u s'
 |.ok _=>False
 |.error e=>CX outer H s E e s'
structure FnOk(P:Program)(w:World)(K:W.Frag)(mg:Str->Option Value)(base:Heap)(CX:CXT)(k:Nat)(f:Addr)(fd:FuncData)(ps:List Str)(sp:Sp):Prop where
 len:∀vs H Q E,sp vs H Q E->vs.length=ps.length
 run:∀(A:Around) (outer:List Env) (s:Shared) (H:Hp) (args:Args) (us:List Value) (vs:List V) (Q:VK) (E:XK),Room k A->Env0 P w K mg base A outer s H->BindsTo s fd args (ps.zip us)->Vals vs us->sp vs H Q E ->
  codeAny (model P w) A (.call (.ref f) args) (CR CX outer P w H s Q E) s
theorem FnOk.mono{P:Program}{w:World}{K:W.Frag}{mg:Str->Option Value}{base:Heap}{CX:CXT}{j k:Nat}{f:Addr}{fd:FuncData}{ps:List Str}{sp:Sp}(F:FnOk P w K mg base CX j f fd ps sp)(h:j<=k) :
  FnOk P w K mg base CX k f fd ps sp:=⟨F.len,λA outer s H args us vs Q E B=>F.run A outer s H args us vs Q E (B.mono h)⟩
theorem Env0.make{P:Program}{w:World}{K:W.Frag}{mg:Str->Option Value}{base:Heap}{A:Around}{outer:List Env}{s:Shared}{H:Hp}(e:Env0 P w K mg base A outer s H)(C:Addr)(us:List Value)(B:List (Str×Value)) :
  Env0 P w K mg base (A.under (.builtin "type.__call__" ⟨.ref C::us,B⟩)) outer s H:=⟨by first|exact e.frames|(simpa [Around.under,Code.envs,Code.isFrame,pushEnvs] using e.frames),e.mod,e.bs,e.bsz,e.funs,e.frf,e.hok,e.bare⟩
section
variable {X:Cx}{pins:List (Addr×Obj)}{σ:St}{H:Hp}{s s':Shared}
theorem Inv.env0(B:Inv X pins σ H s):Env0 X.prog X.w X.K X.mg X.base X.A X.stack s H:=
 ⟨B.ok.frames,B.ok.mod,B.bs,Nat.le_trans B.ok.bsz B.sz,B.stack,B.stkFree,B.hok,B.bare⟩
theorem Inv.after{Q:VK}{u:Value}(B:Inv X pins σ H s)(h:CE X.stack X.prog X.w H s Q u s'):EP X pins σ Q u s':=by
 obtain⟨v,H',os,D,F,G,r,q⟩:=h;obtain⟨I,g,d,t,J0⟩:=s';obtain rfl:J0=s.os:=os;exact⟨v,H',B.call (h':=I) (g':=g) (d':=d) (t':=t) (ch:=[]) F G D (λb z=>absurd z (by simp)),r,q⟩
end
noncomputable def tCall(sp:Sp)(dvs:List V)(E:XK)(t:TA):TE:=λσ H Q=>t σ H λvs H1=>sp (vs++dvs) H1 Q E
noncomputable def tMeth(C:Addr)(m:Str)(sp:Sp)(dvs:List V)(E:XK)(ta:TE)(t:TA):TE:=λσ H Q=>ta σ H λx H1=>∃a dx fs,x=.ref a/\H1 a=some (.ins C dx fs)/\fs.lookup m=none /\
 t σ H1 λvs H2=>sp (x::(vs++dvs)) H2 Q E
noncomputable def tMake(C:Addr)(sp:Sp)(dvs:List V)(E:XK)(t:TA):TE:=λσ H Q=>t σ H λvs H1=>∀x dx,H1 x=none->H1 dx=none->dx≠x ->
 sp (.ref x::(vs++dvs)) (upd (upd H1 dx (.own x)) x (.ins C dx [])) (λv H2=>v=.non/\Q (.ref x) H2) E
noncomputable def Binds(K:W.Frag)(fd:FuncData)(ps:List Str)(ds:List Value):Prop:=
 ∀(s:Shared) (us:List Value),K.In s.heap->(us++ds).length=ps.length->BindsTo s fd ⟨us,[]⟩ (ps.zip (us++ds))
theorem Binds.all{K:W.Frag}{fd:FuncData}{ps:List Str}(h:∀us:List Value,us.length=ps.length->bindArgs fd ⟨us,[]⟩=pure (ps.zip us)):Binds K fd ps []:=λs us _ B=>by
 rw[List.append_nil] at B ⊢;exact .of_eq (h us B)
noncomputable def zdi(CX:CXT)(X:Cx)(E:XK):Prop:=∀(pins:List (Addr×Obj)) (σ:St) (H:Hp) (s:Shared) (e:Value) (s':Shared),Inv X pins σ H s->CX X.stack H s E e s'->X.xe e s'
section
variable {X:Cx}{CX:CXT}{k:Nat}{f C:Addr}{fd:FuncData}{ps:List Str}{sp:Sp}{dvs:List V}{ds:List Value}{E:XK}{x m:Str}{p pos apos:Pos}{e o:Expr}{es:List Expr}{ta:TE}{t:TA}
theorem zhW{pins:List (Addr×Obj)}{σ:St}{H:Hp}{s:Shared}{Q:VK}{us:List Value}{vs:List V}(F:FnOk X.prog X.w X.K X.mg X.base CX k f fd ps sp)(I:Room k X.A)(J0:Binds X.K fd ps ds)(O:Vals dvs ds)(U:zdi CX X E)(D:Inv X pins σ H s)(r:Vals vs us)(h:sp (vs++dvs) H Q E):wpAny (model X.prog X.w) X.A (call (.ref f) us) (EP X pins σ Q) X.xe s:=by
 have G:Vals (vs++dvs) (us++ds):=r.append O;have W:(us++ds).length=ps.length:=by rw[←G.length];exact F.len _ _ _ _ h
 refine wpAny_call (codeAny_mono (F.run X.A X.stack s H ⟨us,[]⟩ (us++ds) (vs++dvs) Q E I D.env0 (J0 s us D.kIn W) G h) λr s' B=>?_);cases r with
 |error e=>exact U pins σ H s e s' D B
 |ok Y=>
  cases Y with
  |ret u=>exact D.after B
  |next=>exact False.elim B
  |brk=>exact False.elim B
  |cont=>exact False.elim B
theorem zas(F:FnOk X.prog X.w X.K X.mg X.base CX k f fd ps sp)(G:Room k X.A)(I:Gl X x)(J0:X.mg x=some (.ref f))(O:W.keepIn X.K (.ref f)=true)(U:Binds X.K fd ps ds)(V:Vals dvs ds)(Y:zdi CX X E)(Z:PA X (e::es) t)(aa:(x==("__debug__":Str))=false:=by decide)(ab:starEach (e::es) X.env=(false,eval e X.env)::starEach es X.env:=by rfl)(ac:(backTo pos (starEach es X.env)).any (·.1)=false:=by rfl) :
  PE X (.Call (.Name x p) (e::es) [] pos) (tCall sp dvs E t):=by
 intro pins s σ H Q B h;refine wpAny_Call_Name_kw (zcG B I J0 ?_ aa);refine W.callWith_K (h₀:=X.base) B.ok.mod.kin O (thn (Z pos pins s σ H _ B h) λus ae ad=>?_) ab ac;obtain⟨vs,H1,D,r,q⟩:=ad;refine⟨D.kIn,?_⟩;exact zhW F G U V Y D r q
theorem zaV{pl:Sem Bool}(U:PE X o ta)(c:Cls X.K C)(D:Meth X.K C m f)(F:FnOk X.prog X.w X.K X.mg X.base CX k f fd ps sp)(V:Room k X.A)(Y:Binds X.K fd ps ds)(Z:Vals dvs ds)(aa:zdi CX X E)(ab:PA X (e::es) t)(ac:starEach (e::es) X.env=(false,eval e X.env)::starEach es X.env:=by rfl)(ad:(backTo pos (starEach es X.env)).any (·.1)=false:=by rfl)(ae:eval (.Call (.Attribute o m apos) (e::es) [] pos) X.env=(do
   let G ← eval o X.env
   standAt apos.atName
   let (f,first) ← holding [G] (getMethod G m pl)
   callWith pos f first (backTo pos (starEach (e::es) X.env)) (backToKw pos (keywordEach [] X.env))):=by rfl) :
  PE X (.Call (.Attribute o m apos) (e::es) [] pos) (tMeth C m sp dvs E ta t):=by
 intro pins s σ H Q I h;refine W.methodCall_KW (pl:=pl) (thn (U pins s σ H _ I h) λu af B=>?_) ae;obtain⟨x,H1,J0,ag,a,dx,fs,ex,ea,l,q⟩:=B;subst ex;obtain rfl:u=Value.ref a:=ag;refine zbR J0 ea c D l ?_;refine W.callWith_K (first:=[.ref a]) (h₀:=X.base) I.ok.mod.kin D.kp (thn (ab pos pins af σ H1 _ J0 q) λus ai B=>?_) ac ad
 obtain⟨vs,H2,O,r,ah⟩:=B;refine⟨O.kIn,?_⟩;exact zhW (us:=.ref a::us) (vs:=.ref a::vs) F V Y Z aa O (.cons J r) ah
theorem zgs{pl:Sem Bool}(I:PE X o ta)(c:Cls X.K C)(D:Meth X.K C m f)(F:FnOk X.prog X.w X.K X.mg X.base CX k f fd ps sp)(J0:Room k X.A)(O:Binds X.K fd ps ds)(U:Vals dvs ds)(V:zdi CX X E)(Y:eval (.Call (.Attribute o m apos) [] [] pos) X.env=(do
   let G ← eval o X.env
   standAt apos.atName
   let (f,first) ← holding [G] (getMethod G m pl)
   callWith pos f first (backTo pos (starEach [] X.env)) (backToKw pos (keywordEach [] X.env))):=by rfl) :
  PE X (.Call (.Attribute o m apos) [] [] pos) (tMeth C m sp dvs E ta tNil):=by
 intro pins s σ H Q Z h;refine W.methodCall_KW (pl:=pl) (thn (I pins s σ H _ Z h) λu ac aa=>?_) Y;obtain⟨x,H1,B,ab,a,dx,fs,ex,ea,l,q⟩:=aa;subst ex;obtain rfl:u=Value.ref a:=ab;refine zbR B ea c D l ?_;exact W.callWith_K0 (first:=[.ref a]) B.kIn D.kp (zhW (us:=[.ref a]) (vs:=[.ref a]) F J0 O U V B (.cons rfl .nil) q)
structure Mk(K:W.Frag)(C f:Addr):Prop where
 makes:W.makesIn K C=true
 init:W.findIn K (.ref C) "__init__"=some (some (.ref f))
 fn:W.isFn K (.ref f)=true
 kp:W.keepIn K (.ref C)=true
theorem zgt{pins:List (Addr×Obj)}{σ:St}{H:Hp}{s:Shared}{Q:VK}{us:List Value}{vs:List V}(M:Mk X.K C f)(F:FnOk X.prog X.w X.K X.mg X.base CX k f fd ps sp)(O:Room (k+1) X.A)(U:Binds X.K fd ps ds)(W:Vals dvs ds)(Y:zdi CX X E)(D:Inv X pins σ H s)(r:Vals vs us)(h:∀x dx,H x=none->H dx=none->dx≠x->sp (.ref x::(vs++dvs)) (upd (upd H dx (.own x)) x (.ins C dx [])) (λv H2=>v=.non/\Q (.ref x) H2) E) :
  wpAny (model X.prog X.w) X.A (call (.ref C) us) (EP X pins σ Q) X.xe s:=by
 have I:=h (s.heap.objs.size+1) s.heap.objs.size (D.hok.fresh (Nat.le_succ _)) (D.hok.fresh (Nat.le_refl _)) (Nat.ne_of_lt (Nat.lt_succ_self _));have G:=Inv.made (C:=C) D;have J0:Vals (V.ref (s.heap.objs.size+1)::(vs++dvs)) (Value.ref (s.heap.objs.size+1)::(us++ds)):=.cons rfl (r.append W);have Z:(Value.ref (s.heap.objs.size+1)::us++ds).length=ps.length:=by
  have e:=J0.length;rw[F.len _ _ _ _ I] at e;exact e.symm
 refine wpAny_call (zjw (f:=f) D.kIn M.makes M.init (beq_iff_eq.mp M.fn) (codeAny_mono (F.run _ X.stack _ _ ⟨Value.ref (s.heap.objs.size+1)::us,[]⟩ (Value.ref (s.heap.objs.size+1)::(us++ds)) _ _ E (O.make C us [])
  (G.env0.make C us []) (U _ (Value.ref (s.heap.objs.size+1)::us) G.kIn Z) J0 I) λr s' B=>?_))
 cases r with
 |error e=>exact Y pins σ _ _ e s' G B
 |ok aa=>
  cases aa with
  |ret u=>
   obtain⟨v,H',ab,ac,ev,ad⟩:=G.after B;subst ev;exact⟨ac,⟨V.ref (s.heap.objs.size+1),H',ab,J,ad⟩⟩
  |next=>exact False.elim B
  |brk=>exact False.elim B
  |cont=>exact False.elim B
theorem zk2(M:Mk X.K C f)(F:FnOk X.prog X.w X.K X.mg X.base CX k f fd ps sp)(G:Room (k+1) X.A)(I:Gl X x)(J0:X.mg x=some (.ref C))(O:Binds X.K fd ps ds)(U:Vals dvs ds)(V:zdi CX X E)(Y:PA X (e::es) t)(Z:(x==("__debug__":Str))=false:=by decide)(aa:starEach (e::es) X.env=(false,eval e X.env)::starEach es X.env:=by rfl)(ab:(backTo pos (starEach es X.env)).any (·.1)=false:=by rfl) :
  PE X (.Call (.Name x p) (e::es) [] pos) (tMake C sp dvs E t):=by
 intro pins s σ H Q B h;refine wpAny_Call_Name_kw (zcG B I J0 ?_ Z);refine W.callWith_K (h₀:=X.base) B.ok.mod.kin M.kp (thn (Y pos pins s σ H _ B h) λus ad ac=>?_) aa ab;obtain⟨vs,H1,D,r,q⟩:=ac;refine⟨D.kIn,?_⟩;exact zgt M F G O U V D r q
theorem zjx(M:Mk X.K C f)(F:FnOk X.prog X.w X.K X.mg X.base CX k f fd ps sp)(D:Room (k+1) X.A)(G:Gl X x)(I:X.mg x=some (.ref C))(J0:Binds X.K fd ps ds)(O:Vals dvs ds)(U:zdi CX X E)(V:(x==("__debug__":Str))=false:=by decide):PE X (.Call (.Name x p) [] [] pos) (tMake C sp dvs E tNil):=by
 intro pins s σ H Q B h;refine wpAny_Call_Name_kw (zcG B G I ?_ V);exact W.callWith_K0 B.kIn M.kp (zgt (us:=[]) M F D J0 O U B .nil h)
end
section
variable {X:Cx}{CX:CXT}{k:Nat}{f C:Addr}{fd:FuncData}{ps ks:List Str}{sp:Sp}{E:XK}{x m:Str}{p pos apos kpos:Pos}{e o:Expr}{es:List Expr}{kws:List Keyword}{te ta:TE}{t tk:TA}{nm:Option Str}
variable {g:List Value->List Value->List Value}{gV:List V->List V->List V}
end
structure zav(N P:List Str)(sc:Scope):Prop where
 kind:sc.kind=.function
 co:sc.isCoroutine=false
 gen:sc.isGenerator=false
 nd:N.Nodup
 pre:N.take P.length=P
 par:∀x∈P,sc.names.lookup x=some .local∨sc.names.lookup x=some .cell
 nofree:∀y∈sc.names,y.2≠.free
theorem zfi{kindOf:Str->Option NameKind}{x:Str}:∀ {B:List (Str×Value)}{m:Str->Option Value},(∀v,(x,v)∉B)->bindL kindOf B m x=m x
 |[],_,_=>rfl
 |(n,v)::r,m,h=>by
  unfold bindL;rw[zfi λw hw=>h w (List.mem_cons_of_mem _ hw)];split
  .have:x≠n:=by rintro rfl;exact h v List.mem_cons_self
   simp[this]
  .rfl
theorem zfj{kindOf:Str->Option NameKind}{x:Str}:∀ {B:List (Str×Value)}{m:Str->Option Value},(∀v,(x,v)∉B)->bindC kindOf B m x=m x
 |[],_,_=>rfl
 |(n,v)::r,m,h=>by
  unfold bindC;rw[zfj λw hw=>h w (List.mem_cons_of_mem _ hw)];split
  .rfl
  .have:x≠n:=by rintro rfl;exact h v List.mem_cons_self
   simp[this]
theorem zfk{kindOf:Str->Option NameKind}{x:Str}{v:Value}:∀ {P:List Str}{vs:List Value}{i:Nat}{m:Str->Option Value},P.Nodup->P[i]?=some x->vs[i]?=some v->kindOf x=some .local ->
  bindL kindOf (P.zip vs) m x=some v
 |[],_,_,_,_,h,_,_=>by simp at h
 |_::_,[],_,_,_,_,h,_=>by simp at h
 |p::P,w::vs,0,m,B,h1,h2,D=>by
  simp at h1 h2;subst h1;subst h2;show bindL kindOf ((p,w)::P.zip vs) m p=_;unfold bindL;rw[zfi λv F=>(List.nodup_cons.mp B).1 (List.of_mem_zip F).1,if_pos D];simp
 |p::P,w::vs,i+1,m,B,h1,h2,D=>by
  show bindL kindOf ((p,w)::P.zip vs) m x=_;unfold bindL;exact zfk (i:=i) (List.nodup_cons.mp B).2 (by simpa using h1) (by simpa using h2) D
theorem zfl{kindOf:Str->Option NameKind}{x:Str}{v:Value}:∀ {P:List Str}{vs:List Value}{i:Nat}{m:Str->Option Value},P.Nodup->P[i]?=some x->vs[i]?=some v->kindOf x≠some .local ->
  bindC kindOf (P.zip vs) m x=some v
 |[],_,_,_,_,h,_,_=>by simp at h
 |_::_,[],_,_,_,_,h,_=>by simp at h
 |p::P,w::vs,0,m,B,h1,h2,D=>by
  simp at h1 h2;subst h1;subst h2;show bindC kindOf ((p,w)::P.zip vs) m p=_;unfold bindC;rw[zfj λv F=>(List.nodup_cons.mp B).1 (List.of_mem_zip F).1,if_neg D];simp
 |p::P,w::vs,i+1,m,B,h1,h2,D=>by
  show bindC kindOf ((p,w)::P.zip vs) m x=_;unfold bindC;exact zfl (i:=i) (List.nodup_cons.mp B).2 (by simpa using h1) (by simpa using h2) D
noncomputable def start(N:List Str)(vs:List V):St:=vs.map some++List.replicate (N.length-vs.length) none
noncomputable def cxOf(CX:CXT)(P:Program)(w:World)(K:W.Frag)(mg:Str->Option Value)(base:Heap)(N:List Str)(qual:Str)(scope:Scope)(f:Addr)(cd:Value)(A:Around)(outer:List Env)(s:Shared)(H:Hp)(E:XK):Cx where
 prog:=P
 w:=w
 K:=K
 mg:=mg
 base:=base
 A:=A.deeper (envOfC qual scope s.heap.objs.size f cd)
 N:=N
 s₀:=s
 H₀:=H
 env:=envOfC qual scope s.heap.objs.size f cd
 outer:=outer
 stack:=envOfC qual scope s.heap.objs.size f cd::outer
 ex:=[]
 calm:=true
 fn:=λ_=>true
 pn:=[]
 xe:=λe s'=>wpAny (model P w) (A.deeper (envOfC qual scope s.heap.objs.size f cd)) (leaving (envOfC qual scope s.heap.objs.size f cd) e) (λ_ B=>CX outer H s E e B) (λD B=>CX outer H s E D B) s'
theorem zgu{sc:Scope}{n:Nat}{x:Str}(h:sc.names.lookup x=some .cell):∃c,(cellsFrom n sc.names []).lookup x=some c:=by
 have q:=W.cellsFrom_some sc.names n [] (.inl h);exact Option.isSome_iff_exists.mp q
theorem zfm{CX:CXT}{P:Program}{w:World}{K:W.Frag}{mg:Str->Option Value}{base:Heap}{N ps:List Str}{qual:Str}{scope:Scope}{f:Addr}{cd:Value}{A:Around}{outer:List Env}{s G:Shared}{H:Hp}{E:XK}{us:List Value}{vs:List V}(S:zav N ps scope)(U:A.handled=none)(B:Env0 P w K mg base A outer s H)(aa:vs.length=ps.length)(r:Vals vs us)(x:InCallC s s.heap.objs.size (bindL (envOfC qual scope s.heap.objs.size f cd).kindOf (ps.zip us) λ_=>none) (cellsFrom (s.heap.objs.size+1) scope.names []) (bindC (envOfC qual scope s.heap.objs.size f cd).kindOf (ps.zip us) λ_=>none) G) :
  Inv (cxOf CX P w K mg base N qual scope f cd A outer s H E) [] (start N vs) H G:=by
 have ab:ps.length<=N.length:=by have:=congrArg List.length S.pre;rw[List.length_take] at this;omega
 obtain⟨h1,tk,rfl,I⟩:=x.done;have F:∀b:Addr,b∉(cxOf CX P w K mg base N qual scope f cd A outer s H E).ex:=λb z=>absurd (show b∈([]:List Addr) from z) (by simp);refine⟨⟨B.mod,S.kind,J,J,Nat.le_refl _,λy z c h1 h2=>?_,λy hy=>?_,λy c _ h=>?_,λ_=>U,Around.frames_deeper B.frames,.inr ⟨J,J⟩,λb z=>absurd z (F b),B.bs,B.bsz,λb _ _=>F b,λb z=>absurd z (F b),B.funs,B.frf⟩,
  J,B.bare,Un.kept I,⟨_,x.toInCall.ns,λi y v h1 h2 ac=>?_⟩,λy c h=>⟨_,x.cell y c h⟩,B.hok.fresh (Nat.le_refl _),λy c h=>?_,λp D=>absurd (show p∈([]:List (Addr×Obj)) from D) (by simp),B.hok.kept I,?_⟩
 .exact name_of_addr x.apart (PySem.mem_of_lookup h1) (PySem.mem_of_lookup h2)
 .have hy:scope.names.lookup y=some .cell∨scope.names.lookup y=some .free:=hy;rcases hy with hy|hy
  .exact zgu hy
  .exact absurd rfl (S.nofree _ (PySem.mem_of_lookup hy))
 .exact Nat.le_of_lt (x.above y c (PySem.mem_of_lookup h))
 .have hi:i<vs.length:=by
   unfold start at h2;by_cases hi:i<vs.length
   .exact hi
   .rw[List.getElem?_append_right (by simpa using hi)] at h2;rw[List.getElem?_replicate] at h2;split at h2<;>cases h2
  have Y:vs[i]?=some v:=by
   unfold start at h2;rw[List.getElem?_append_left (by simpa using hi),List.getElem?_map] at h2;cases e:vs[i]? with
   |none=>rw[e] at h2;cases h2
   |some a=>rw[e] at h2;cases h2;rfl
  obtain⟨u,J0,Z⟩:=r.get Y;have D:ps[i]?=some y:=by
   rw[←S.pre,List.getElem?_take_of_lt (by omega)];exact h1
  have O:ps.Nodup:=by rw[←S.pre];exact S.nd.sublist (List.take_sublist _ _)
  refine⟨u,Z,?_⟩;rcases S.par y (List.mem_of_getElem? D) with k|k
  .exact .inl ⟨k,zfk O D J0 k⟩
  .obtain⟨c,e⟩:=zgu (n:=s.heap.objs.size+1) k;refine .inr ⟨.inl k,c,e,?_⟩;have q:=x.cell y c e;rw[zfl O D J0 (by show scope.names.lookup y≠_;rw[k];decide)] at q;exact q
 .exact B.hok.fresh (Nat.le_of_lt (x.above y c (PySem.mem_of_lookup h)))
 .unfold start;show _=N.length;rw[List.length_append,List.length_map,List.length_replicate];omega
theorem zk3{CX:CXT}{P:Program}{w:World}{K:W.Frag}{mg:Str->Option Value}{base:Heap}{k:Nat}{f:Addr}{name qual:Str}{I:Arguments}{body:List Stmt}{scope:Scope}{O kV doc pm cdv ct oc:Value}{an od:Option Addr}{osl:Array (Option Value)}{N ps:List Str}{sp:Sp}(ac:K.lookup f=some ⟨oc,od,.func (W.fnOf name qual I body scope O kV doc pm an cdv ct),osl⟩)(ad:W.codeIn K cdv qual=true)(S:zav N ps scope)(U:∀vs H Q E,sp vs H Q E->vs.length=ps.length)(ae:∀(A:Around) (outer:List Env) (s:Shared) (H:Hp) (vs:List V) (Q:VK) (E:XK),Room k (A.deeper (envOfC qual scope s.heap.objs.size f cdv))->sp vs H Q E ->
   ∃t,PSs (cxOf CX P w K mg base N qual scope f cdv A outer s H E) body t/\t { nx:=λ_ H'=>Q .non H',rt:=Q } (start N vs) H) :
  FnOk P w K mg base CX (k+1) f (W.fnOf name qual I body scope O kV doc pm an cdv ct) ps sp:=by
 refine⟨U,λA outer s H args us vs Q E F D af r Y=>?_⟩;have ag:=U _ _ _ _ Y;have Z:K.In s.heap:=D.mod.kin.keeps λb o e=>(D.bs b o e).1;have ah:s.heap.NoLimit:=D.mod.nolimit.keeps λb o e=>(D.bs b o e).1;have ai:∀y∈ps.zip us,scope.names.lookup y.1=some .local∨(scope.names.lookup y.1=some .cell/\((cellsFrom (s.heap.objs.size+1) scope.names []).lookup y.1).isSome=true):=λ⟨n,v⟩ aj=>by
  rcases S.par n (List.of_mem_zip aj).1 with q|q
  .exact .inl q
  .exact .inr ⟨q,W.cellsFrom_some _ _ _ (.inl q)⟩
 refine codeAny_call_function F.depth (Z _ _ ac) rfl S.co S.gen rfl (W.codeRec_of Z ad) (af _ _ _ _ ?_);refine wpAny_newFunctionEnv_cells S.kind ai λenv ak aa x=>?_;subst ak;refine⟨ah.keeps x.toInCall.keep,codeAny_func ?_⟩;obtain⟨t,al,am⟩:=ae A outer s H vs Q E (F.deeper _) Y;have ao:Inv (cxOf CX P w K mg base N qual scope f cdv A outer s H E) [] (start N vs) H aa:=zfm S F.hd D ag r x;refine wpAny_mono (al [] aa (start N vs) H _ ao am) (λap s' B=>?_) λe s' B=>B;have ab:∀ {σ':St} {H':Hp} {v:V} {u:Value},Inv (cxOf CX P w K mg base N qual scope f cdv A outer s H E) [] σ' H' s'->RelV v u->Q v H'->CE outer P w H s Q u s':=
  λ{σ' H' v u} J0 G q=>⟨v,H',J0.os,J0.bare,J0.base,J0.hok,G,q⟩
 cases ap with
 |ret u=>
  obtain⟨v,σ',H',J0,G,q⟩:=B;exact ab J0 G q
 |next=>
  obtain⟨σ',H',J0,q⟩:=B;exact ab (v:=V.non) (u:=Value.none) J0 rfl q
 |brk=>
  obtain⟨_,_,_,q⟩:=B;exact False.elim q
 |cont=>
  obtain⟨_,_,_,q⟩:=B;exact False.elim q
section
variable {X:Cx}{x:Str}{p pos:Pos}{e:Expr}{es:List Expr}{t:TA}{id T:String}{r:List V->Hp->VK->Prop}
noncomputable def tCB(r:List V->Hp->VK->Prop)(t:TA):TE:=λσ H Q=>t σ H λvs H1=>r vs H1 Q
theorem zao(D:CallR X (.builtin id) r)(F:Gl X x)(G:X.mg x=none)(I:bootBuiltins x=some (.builtin id))(J0:PA X (e::es) t)(O:x≠"__name__":=by decide)(U:(x==("__debug__":Str))=false:=by decide)(V:starEach (e::es) X.env=(false,eval e X.env)::starEach es X.env:=by rfl)(W:(backTo pos (starEach es X.env)).any (·.1)=false:=by rfl):PE X (.Call (.Name x p) (e::es) [] pos) (tCB r t):=by
 intro pins s σ H Q B h;refine wpAny_Call_Name_kw (zcE B F G I ?_ O U);refine PyProof.Rows.callWith_builtin1 (thn (J0 pos pins s σ H _ B h) λus Y Z=>?_) V W;obtain⟨vs,H1,aa,ab,q1⟩:=Z;exact D pins Y σ H1 vs us Q aa ab q1
theorem zbk(D:CallR X (.type T) r)(F:Gl X x)(G:X.mg x=none)(I:bootBuiltins x=some (.type T))(J0:PA X (e::es) t)(O:x≠"__name__":=by decide)(U:(x==("__debug__":Str))=false:=by decide)(V:starEach (e::es) X.env=(false,eval e X.env)::starEach es X.env:=by rfl)(W:(backTo pos (starEach es X.env)).any (·.1)=false:=by rfl):PE X (.Call (.Name x p) (e::es) [] pos) (tCB r t):=by
 intro pins s σ H Q B h;refine wpAny_Call_Name_kw (zcE B F G I ?_ O U);refine PyProof.Rows.callWith_type1 (thn (J0 pos pins s σ H _ B h) λus Y Z=>?_) V W;obtain⟨vs,H1,aa,ab,q1⟩:=Z;exact D pins Y σ H1 vs us Q aa ab q1
end
end L2
namespace HT
open PySem PyProof.Rows
section
open PySem.SeqAt
open PySem.AutoSeq1 (wpAny_loadPart')
open PySem.MeetsSeq PySem.MeetsSeq2 PySem.MeetsSeq3
end
section
variable {prog:Program}{w:World}{A:Around}{E:Value->Shared->Prop}{s:Shared}
theorem cat_tup{t b:Addr}{vs B:List Value}{Q:Value->Shared->Prop}(aa:IsTup s.heap t vs.toArray)(ab:IsTup s.heap b B.toArray)(G:vs≠[])(h1:B=[]->Q (.ref t) s)(h2:B≠[]->Q (.ref s.heap.objs.size) { s with heap:=s.heap.push { cls:=.type "tuple",data:=.seq (vs++B).toArray } })(hsz:vs.length+B.length<=sizeLine):wpAny (model prog w) A (binaryOp .Add (.ref t) (.ref b)) Q E s:=by
 obtain⟨⟨cls,dd,data,I⟩,D,J0,n,O⟩:=id aa;obtain⟨⟨ac,U,data2,V⟩,F,W,Y,Z⟩:=id ab;simp only at J0 O W Z;subst J0 O W Z;have e:vs.toArray++B.toArray=(vs++B).toArray:=by simp
 by_cases hw:B=[]
 .exact concat_meets ⟨_,D,J⟩ ⟨_,F,J⟩ noFill_tuple_add seq_tuple_add PySem.F.slot_tuple_add PySem.F.entry_tuple_add (PySem.F.args_tuple_add_2 _ _)
   (tuple_addW1 t b vs.toArray B.toArray n Y dd U I V (by simpa using G) (by simp[hw])) ⟨D,F,h1 hw⟩
 .refine concat_meets ⟨_,D,J⟩ ⟨_,F,J⟩ noFill_tuple_add seq_tuple_add PySem.F.slot_tuple_add PySem.F.entry_tuple_add (PySem.F.args_tuple_add_2 _ _)
   (tuple_addW2 t b vs.toArray B.toArray n Y dd U I V (by simpa using G) (by simpa using hw) (by rw[List.size_toArray,List.size_toArray];exact hsz)) ⟨D,F,?_⟩
  rw[e];exact h2 hw
noncomputable def sIx(n d:Nat):Option Int->Nat
 |none=>d
 |some v=>if v<0 then (v+(n:Int)).toNat else min v.toNat n
theorem sIx_none(n d:Nat):sIx n d none=d:=rfl
theorem sIx_nat(n d k:Nat):sIx n d (some (k:Int))=min k n:=by
 show (if (k:Int)<0 then ((k:Int)+(n:Int)).toNat else min (k:Int).toNat n)=min k n;rw[if_neg (by omega),Int.toNat_natCast]
theorem sIx_le(n d:Nat)(D:d<=n)(o:Option Int):sIx n d o<=n:=by
 cases o with
 |none=>exact D
 |some v=>
  show (if v<0 then (v+(n:Int)).toNat else min v.toNat n)<=n;by_cases B:v<0
  .rw[if_pos B];omega
  .rw[if_neg B];exact Nat.min_le_right _ _
theorem zhX(v:Int)(n d:Nat):(if v<0 then max (v+(n:Int)) 0 else min v (n:Int))=((sIx n d (some v):Nat):Int):=by
 show (if v<0 then max (v+(n:Int)) 0 else min v (n:Int))=(((if v<0 then (v+(n:Int)).toNat else min v.toNat n):Nat):Int);by_cases B:v<0
 .simp only[if_pos B];omega
 .simp only[if_neg B];omega
theorem zhf(lo hi:Option Int)(n:Nat):Builtin.Slice.sliceAdjust lo hi 1 (n:Int)=(((sIx n 0 lo:Nat):Int),((sIx n n hi:Nat):Int)):=by
 have h1:¬((1:Int)<0):=by omega
 unfold Builtin.Slice.sliceAdjust;simp only[h1,if_false];refine Prod.ext ?_ ?_
 .cases lo with
  |none=>rfl
  |some v=>exact zhX v n 0
 .cases hi with
  |none=>rfl
  |some v=>exact zhX v n n
theorem zhg(i j:Nat):Builtin.Slice.slicePlaces (i:Int) (j:Int) 1=j-i:=by
 unfold Builtin.Slice.slicePlaces;have h1:(1:Int)>0:=by omega
 simp only[h1,if_true,Int.ediv_one];split<;>omega
theorem zee{v:Value}{o:Option Int}{Q:Option Int->Shared->Prop}(p:IsPart v o)(h:Q o s):wpAny (model prog w) A (Builtin.Slice.slicePartIndex v) Q E s:=by
 cases p with
 |none=>exact slicePart_none h
 |int i t=>exact slicePart_int h
theorem zdn{I:Addr}{B D:Value}{lo hi:Option Int}{n:Nat}{Q:Int×Int×Nat->Shared->Prop}(J0:s.heap.IsSliceOf I B D .none)(pl:IsPart B lo)(O:IsPart D hi)(h:Q (((sIx n 0 lo:Nat):Int),1,sIx n n hi-sIx n 0 lo) s):wpAny (model prog w) A (Builtin.Slice.sliceApplied (.ref I) (pure (n:Int))) Q E s:=by
 obtain⟨os,F,U,G⟩:=id J0;unfold Builtin.Slice.sliceApplied Builtin.Slice.sliceFields;refine wpAny_bind (wpAny_bind (wpAny_field F G (x:=B) J (wpAny_bind (wpAny_field F G (x:=D) J (wpAny_bind (wpAny_field F G (x:=.none) J (wpAny_pure ?_)))))));refine wpAny_bind (slicePart_none ?_);show wpAny _ _ (if ((1:Int)==0)=true then _ else _) _ _ s;rw[if_neg (by decide)];refine wpAny_bind (zee pl (wpAny_bind (zee O (wpAny_bind (wpAny_pure ?_)))));show wpAny _ _ (match Builtin.Slice.sliceAdjust lo hi 1 (n:Int) with|(lo,hi)=>pure (lo,(1:Int),Builtin.Slice.slicePlaces lo hi 1)) _ _ s
 rw[zhf lo hi n];show wpAny _ _ (pure (((sIx n 0 lo:Nat):Int),(1:Int),Builtin.Slice.slicePlaces ((sIx n 0 lo:Nat):Int) ((sIx n n hi:Nat):Int) 1)) _ _ s;rw[zhg];exact wpAny_pure h
theorem zjy(xs:Array Value)(i k:Nat):((List.range k).filterMap λ(m:Nat)=>xs[((i:Int)+(m:Int)*1).toNat]?).toArray=((xs.toList.drop i).take k).toArray:=by
 have e:(λ(m:Nat)=>xs[((i:Int)+(m:Int)*1).toNat]?)=λm=>xs[i+m]?:=by
  funext m;have:((i:Int)+(m:Int)*1).toNat=i+m:=by omega
  rw[this]
 rw[e];have:=pick_run xs i k;rw[List.filterMap_map] at this;have B:((λx=>xs[x]?)∘λx=>i+x)=λm=>xs[i+m]?:=rfl;rw[B] at this;rw[this]
theorem getItem_tuple_cut{t G:Addr}{B:Array Value}{I J0:Value}{lo hi:Option Int}{Q:Value->Shared->Prop}(D:IsTup s.heap t B)(O:s.heap.IsSliceOf G I J0 .none)(pl:IsPart I lo)(U:IsPart J0 hi)(hw:¬(sIx B.size 0 lo=0/\sIx B.size B.size hi=B.size))(h:Q (.ref s.heap.objs.size) { s with heap:=s.heap.push { cls:=.type "tuple",data:=.seq ((B.toList.drop (sIx B.size 0 lo)).take (sIx B.size B.size hi-sIx B.size 0 lo)).toArray } })(hsz:B.size<=sizeLine):wpAny (model prog w) A (getItem (.ref t) (.ref G)) Q E s:=by
 have F:sizeOk (.seq ((B.toList.drop (sIx B.size 0 lo)).take (sIx B.size B.size hi-sIx B.size 0 lo)).toArray):=by
  show ((B.toList.drop (sIx B.size 0 lo)).take (sIx B.size B.size hi-sIx B.size 0 lo)).toArray.size<=sizeLine;rw[List.size_toArray,List.length_take,List.length_drop,Array.length_toList];omega
 have aa:sIx B.size B.size hi<=B.size:=sIx_le _ _ (Nat.le_refl _) hi;obtain⟨os,V,W,ab⟩:=id O;have Y:s.TypeIs (.ref G) "slice":=⟨os,V,W⟩;unfold getItem
 try with_reducible refine wpAny_holding ?_
 first|refine wpAny_bind (wpAny_pure ?_)|skip
 refine wpAny_bind (wpAny_sequenceKey D.typeIs (by decide) ?_);refine wpAny_bind (wpAny_callSpecial?_slot (name:=Str.ofString "__getitem__") D.typeIs PyProof.Rows.slot_tuple_getitem
  (wpAny_call_entry PyProof.Rows.slot_tuple_getitem D.typeIs entry_tuple_getitem ?_ (args_tuple_getitem _ _)))
 show wpAny _ _ (Builtin.Tuple.tupleItemsOf (.ref t) >>= _) _ _ s;refine wpAny_bind (tupleItemsOf_ D ?_);refine wpAny_bind (wpAny_typeOf Y ?_);rw[if_pos (by decide)];refine wpAny_bind (zdn O pl U ?_);have Z:¬((((sIx B.size 0 lo:Nat):Int)==0&&(1:Int)==1&&(sIx B.size B.size hi-sIx B.size 0 lo)==B.size)=true):=by
  intro q;rw[Bool.and_eq_true,Bool.and_eq_true] at q;have q1:((sIx B.size 0 lo:Nat):Int)=0:=eq_of_beq q.1.1;have ac:sIx B.size B.size hi-sIx B.size 0 lo=B.size:=eq_of_beq q.2;exact hw ⟨by omega,by omega⟩
 show wpAny _ _ (if (((sIx B.size 0 lo:Nat):Int)==0&&(1:Int)==1&&(sIx B.size B.size hi-sIx B.size 0 lo)==B.size)=true then _ else _) _ _ s;rw[if_neg Z,zjy]
 first
  |exact wpAny_bind (m:=Builtin.Tuple.tupleExact _) (wpAny_newObj_type (wpAny_pure ⟨_,J,wpAny_pure h⟩) F)
  |exact wpAny_bind (m:=Builtin.Tuple.tupleExact _) (wpAny_newObj_type (wpAny_bind (wpAny_pure (wpAny_pure ⟨_,J,wpAny_pure h⟩))) F)
  |exact wpAny_bind (wpAny_bind (m:=Builtin.Tuple.tupleExact _) (wpAny_newObj_type (wpAny_pure (wpAny_pure ⟨_,J,wpAny_pure h⟩)) F))
  |exact wpAny_bind (wpAny_bind (m:=Builtin.Tuple.tupleExact _) (wpAny_newObj_type (wpAny_pure ⟨_,J,wpAny_pure h⟩) F))
end
end HT
namespace L2
open PySem PySem.Spec PyProof.Rows
noncomputable abbrev TO:=St->Hp->(Option Int->Hp->Prop)->Prop
noncomputable def PO(X:Cx)(e:Option Expr)(t:TO):Prop:=
 ∀(pins:List (Addr×Obj)) (s:Shared) (σ:St) (H:Hp) (Q:Option Int->Hp->Prop),Inv X pins σ H s->t σ H Q ->
  wpAny (model X.prog X.w) X.A (evalPart e X.env) (λu s'=>∃o H',Inv X pins σ H' s'/\IsPart u o/\Q o H') X.xe s
noncomputable def zk4:TO:=λ_ H Q=>Q none H
noncomputable def tPart(t:TE):TO:=λσ H Q=>t σ H λx H1=>∃i,x=.int i/\Q (some i) H1
theorem zef{B:List Int}:∀ {us:List Value},Vals (B.map V.int) us->IntsAre us B:=by
 induction B with
 |nil=>intro us r;rw[List.map_nil] at r;cases r;exact .nil
 |cons n B D=>
  intro us r;rw[List.map_cons] at r;cases r with
  |cons F G=>
   obtain⟨t,e⟩:=F;subst e;exact .cons n t (D G)
section
variable {X:Cx}{e:Expr}{te:TE}{lo hi:Option Expr}{tl th:TO}{pos p2:Pos}
theorem zaW:PO X none zk4:=by
 intro pins s σ H Q B h;rw[evalPart_none];exact wpAny_pure ⟨none,H,B,.none,h⟩
theorem zaJ(h:PE X e te):PO X (some e) (tPart te):=by
 intro pins s σ H Q B hw;rw[evalPart_some];refine thn (h pins s σ H _ B hw) λu I D=>?_;obtain⟨x,H1,F,G,q1⟩:=D;obtain⟨i,rfl,q⟩:=q1;obtain⟨t,rfl⟩:=G;exact⟨some i,H1,F,.int i t,q⟩
noncomputable def SlR(X:Cx)(r:V->Option Int->Option Int->Hp->VK->Prop):Prop:=
 ∀(pins:List (Addr×Obj)) (s:Shared) (σ:St) (H:Hp) (x:V) (v B D:Value) (lo hi:Option Int) (F:Addr) (Q:VK),Inv X pins σ H s->RelV x v->s.heap.IsSliceOf F B D .none->IsPart B lo->IsPart D hi->r x lo hi H Q ->
  ∃T id,typeLookup (.type T) "__getitem__"=pure (some (.builtin id))/\s.TypeIs v T/\wpAny (model X.prog X.w) X.A (getItem v (.ref F)) (EP X pins σ Q) X.xe s
noncomputable def tSl(r:V->Option Int->Option Int->Hp->VK->Prop)(te:TE)(tl th:TO):TE:=λσ H Q=>te σ H λx H1=>tl σ H1 λl H2=>th σ H2 λu B=>r x l u B Q
theorem zaG{r:V->Option Int->Option Int->Hp->VK->Prop}(J0:SlR X r)(O:PE X e te)(U:PO X lo tl)(W:PO X hi th):PE X (.Subscript e (.Slice lo hi none p2) pos) (tSl r te tl th):=by
 intro pins s σ H Q Y h;refine Subscript_ (thn (O pins s σ H _ Y h) λv Z G=>?_);obtain⟨x,H1,aa,ab,q1⟩:=G;refine wpAny_Slice (thn (U pins Z σ H1 _ aa q1) λD ac G=>?_);obtain⟨l,H2,ad,pl,ae⟩:=G;refine thn (W pins ac σ H2 _ ad ae) λF B af=>?_;obtain⟨u,I,ag,ah,ai⟩:=af;rw[evalPart_none];refine wpAny_pure ?_;have aj:Inv X pins σ I { B with heap:=B.heap.push { cls:=.type "slice",data:=.fields #[D,F,.none] } }:=ag.kept (t':=B.toks) λb ob q=>Heap.get?_push_of_some _ q;obtain⟨T,id,ak,al,am⟩:=J0 pins { B with heap:=B.heap.push { cls:=.type "slice",data:=.fields #[D,F,.none] } } σ I x v D F l u B.heap.objs.size Q aj ab (Heap.IsSliceOf.new ..) pl ah ai;show wpAny (model X.prog X.w) X.A (subscriptTail e (.Slice lo hi none p2) v (.ref B.heap.objs.size)) (EP X pins σ Q) X.xe { B with heap:=B.heap.push { cls:=.type "slice",data:=.fields #[D,F,.none] } };exact tail_any (ops:=[.ref B.heap.objs.size,v]) al ak am (by with_unfolding_all rfl)
noncomputable def cutV(xs:List V)(lo hi:Option Int):List V:=(xs.drop (HT.sIx xs.length 0 lo)).take (HT.sIx xs.length xs.length hi-HT.sIx xs.length 0 lo)
theorem zdJ(xs:List V)(lo hi:Option Int):(cutV xs lo hi).length<=xs.length:=by
 unfold cutV;rw[List.length_take,List.length_drop];omega
noncomputable def rSlT(K:W.Frag):V->Option Int->Option Int->Hp->VK->Prop:=λx lo hi H Q=>∃a xs,x=.ref a/\SqT K H a xs /\
 ¬(HT.sIx xs.length 0 lo=0/\HT.sIx xs.length xs.length hi=xs.length)/\∀p,H p=none->Q (.ref p) (upd H p (.tup (cutV xs lo hi)))
theorem zlZ:SlR X (rSlT X.K):=by
 intro pins s σ H x v V W lo hi Y Q B I J0 pl O h;obtain⟨a,xs,rfl,U,hw,q⟩:=h;cases I;obtain⟨its,r,F,G⟩:=B.tuple U;have D:its.toArray.size=xs.length:=by rw[List.size_toArray];exact r.length.symm
 refine⟨"tuple",_,PyProof.Rows.slot_tuple_getitem.lookup,F.typeIs,?_⟩;refine HT.getItem_tuple_cut F J0 pl O (by rw[D];exact hw) ?_ (by rw[D];exact G);rw[D];refine⟨.ref s.heap.objs.size,_,B.laid (t':=s.toks) (o:=.tup (cutV xs lo hi)) (λb ob q=>Heap.get?_push_of_some _ q) (Nat.le_refl _) ?_,J,q _ (B.hok.fresh (Nat.le_refl _))⟩;exact⟨Nat.le_trans (zdJ xs lo hi) G,_,(r.drop (HT.sIx xs.length 0 lo)).take (HT.sIx xs.length xs.length hi-HT.sIx xs.length 0 lo),IsTup.new _ _⟩
noncomputable def rCatT(K:W.Frag):R2:=λx y H Q=>∃a b xs ys,x=.ref a/\y=.ref b/\SqT K H a xs/\SqT K H b ys/\xs≠[]/\xs.length+ys.length<=sizeLine /\
 (ys=[]->Q (.ref a) H)/\(ys≠[]->∀p,H p=none->Q (.ref p) (upd H p (.tup (xs++ys))))
theorem Vals.nil_iff{xs:List V}{us:List Value}(r:Vals xs us):us=[]↔xs=[]:=by
 cases r with
 |nil=>simp
 |cons _ _=>simp
theorem zk5:OpR X (binaryOp .Add) (rCatT X.K):=by
 intro pins s σ H x y v u Q B I J0 h;obtain⟨a,b,xs,ys,rfl,rfl,O,U,V,G,q1,W⟩:=h;cases I;cases J0;obtain⟨its,F,Y,_⟩:=B.tuple O;obtain⟨Z,D,p2,_⟩:=B.tuple U;refine HT.cat_tup Y p2 (λz=>V (F.nil_iff.mp z)) (λz=>⟨.ref a,H,B,J,q1 (D.nil_iff.mp z)⟩) (λz=>?_) (by rw[←F.length,←D.length];exact G);refine⟨.ref s.heap.objs.size,_,B.laid (t':=s.toks) (o:=.tup (xs++ys)) (λb ob q=>Heap.get?_push_of_some _ q) (Nat.le_refl _) ?_,J,W (λw=>z (D.nil_iff.mpr w)) _ (B.hok.fresh (Nat.le_refl _))⟩;exact⟨by rw[List.length_append];exact G,_,F.append D,IsTup.new _ _⟩
end
noncomputable def ixN(n:Nat)(i:Int):Option Nat:=if 0<=i then (if i<n then some i.toNat else none) else if -(n:Int)<=i then some (i+n).toNat else none
noncomputable def atI{B:Type}(xs:List B)(i:Int):Option B:=(ixN xs.length i).bind λj=>xs[j]?
theorem zhY{n:Nat}{i:Int}{j:Nat}(h:ixN n i=some j):seqIndex? i n=some j/\j<n/\-(n:Int)<=i/\i<n:=by
 unfold ixN at h;by_cases B:0<=i
 .rw[if_pos B] at h;by_cases h1:i<n
  .rw[if_pos h1] at h;have e:i.toNat=j:=Option.some.inj h;exact⟨by rw[seqIndex_of B h1,e],by omega,by omega,h1⟩
  .rw[if_neg h1] at h;cases h
 .rw[if_neg B] at h;by_cases h1:-(n:Int)<=i
  .rw[if_pos h1] at h;have e:(i+n).toNat=j:=Option.some.inj h;exact⟨by rw[seqIndex_neg (by omega) h1,e],by omega,h1,by omega⟩
  .rw[if_neg h1] at h;cases h
theorem zfY{B:Type}{xs:List B}{i:Int}{v:B}(h:atI xs i=some v):∃j,seqIndex? i xs.length=some j/\xs[j]?=some v/\j<xs.length/\-(xs.length:Int)<=i/\i<xs.length:=by
 unfold atI at h;cases e:ixN xs.length i with
 |none=>rw[e] at h;cases h
 |some j=>
  rw[e] at h;obtain⟨h1,h2,D,F⟩:=zhY e;exact⟨j,h1,h,h2,D,F⟩
theorem zaj{B:Type}{xs:List B}{j:Nat}{v:B}(h:xs[j]?=some v):atI xs (j:Int)=some v:=by
 have D:j<xs.length:=(List.getElem?_eq_some_iff.mp h).1;have e:ixN xs.length (j:Int)=some j:=by
  unfold ixN;rw[if_pos (by omega),if_pos (by omega)];simp
 unfold atI;rw[e];exact h
theorem zb2{B:Type}(xs:List B)(v:B):atI (xs++[v]) (-1)=some v:=by
 have D:(xs++[v]).length=xs.length+1:=by simp
 have e:ixN (xs++[v]).length (-1)=some xs.length:=by
  unfold ixN;rw[D,if_neg (by decide),if_pos (by omega)];congr 1;omega
 unfold atI;rw[e];show (xs++[v])[xs.length]?=some v;simp
noncomputable def zk6(b:Expr):Prop:=∀o i,subscripted b false o i=operate [o,i] (getItem o i)
noncomputable def IxR(X:Cx)(r:R2):Prop:=
 ∀(value B:Expr) (pins:List (Addr×Obj)) (s:Shared) (σ:St) (H:Hp) (x y:V) (v u:Value) (Q:VK),Inv X pins σ H s->RelV x v->RelV y u->r x y H Q ->
  subscripted B false v u=operate [v,u] (getItem v u)->wpAny (model X.prog X.w) X.A (subscriptTail value B v u) (EP X pins σ Q) X.xe s
noncomputable def MtR(X:Cx)(id:String)(r:V->List V->Hp->VK->Prop):Prop:=
 ∀(pins:List (Addr×Obj)) (s:Shared) (σ:St) (H:Hp) (x:V) (xs:List V) (v:Value) (us:List Value) (Q:VK),Inv X pins σ H s->RelV x v->Vals xs us->r x xs H Q ->
  wpAny (model X.prog X.w) X.A (call (.builtin id) (v::us)) (EP X pins σ Q) X.xe s
section
variable {X:Cx}{a b:Expr}{ta tb:TE}{pos:Pos}
theorem IxR.or{r B:R2}(h:IxR X r)(h':IxR X B):IxR X (λx y H Q=>r x y H Q∨B x y H Q):=by
 intro value D pins s σ H x y v u Q F G I q J0;rcases q with q|q
 .exact h value D pins s σ H x y v u Q F G I q J0
 .exact h' value D pins s σ H x y v u Q F G I q J0
theorem zau{r:R2}(B:IxR X r)(D:PE X a ta)(F:PE X b tb)(G:zk6 b):PE X (.Subscript a b pos) (tOp r ta tb):=by
 intro pins s σ H Q I h;exact Subscript_ (binT D F I h λv u J0 x y H2 O U V q=>B a b pins J0 σ H2 x y v u Q O U V q (G _ _))
noncomputable def rIxL(K:W.Frag):R2:=λx y H Q=>∃p xs i v,x=.ref p/\y=.int i/\SqL K H p xs/\atI xs i=some v/\Q v H
noncomputable def rIxT(K:W.Frag):R2:=λx y H Q=>∃p xs i v,x=.ref p/\y=.int i/\SqT K H p xs/\atI xs i=some v/\Q v H
noncomputable def rIxS:R2:=λx y H Q=>∃z i c,x=.str z/\y=.int i/\z.length<=sizeLine/\atI z.cps.toList i=some c/\Q (.str ⟨#[c]⟩) H
theorem ix_list:IxR X (rIxL X.K):=by
 intro value ac pins s σ H x y v u Q D O U h F;obtain⟨p,xs,i,z,rfl,rfl,V,W,q⟩:=h;cases O;obtain⟨t,rfl⟩:=U;obtain⟨its,r,pl,ad⟩:=D.list V;obtain⟨j,h1,h2,ae,Y,Z⟩:=zfY W;obtain⟨w,G,aa⟩:=r.get h2;have ab:=r.length;have af:=zcO;have I:EP X pins σ Q w s:=⟨z,H,D,aa,q⟩;by_cases J0:0<=i
 .have B:i.toNat=j:=by
   rw[seqIndex_of J0 Z] at h1;exact Option.some.inj h1
  exact item_listR pl.isList J0 (by omega) (by rw[B];simpa using G) I F
 .have B:(i+(its.toArray.size:Int)).toNat=j:=by
   rw[seqIndex_neg (by omega) Y] at h1;rw[List.size_toArray,←ab];exact Option.some.inj h1
  exact subscriptTail_builtinR (x:=w) pl.isList.typeIs slot_list_getitem.lookup
   (wpAny_getItem_list_neg (Q:=λr s'=>r=w/\EP X pins σ Q r s') pl.isList (by omega) (by rw[List.size_toArray]<;>omega) (by omega) (by rw[B];simpa using G) ⟨J,I⟩) F
theorem ix_tup:IxR X (rIxT X.K):=by
 intro value Y pins s σ H x y v u Q B D F h G;obtain⟨p,xs,i,z,rfl,rfl,I,J0,q⟩:=h;cases D;obtain⟨t,rfl⟩:=F;obtain⟨its,r,pl,Z⟩:=B.tuple I;obtain⟨j,h1,h2,aa,ab,ac⟩:=zfY J0;obtain⟨w,O,U⟩:=r.get h2;have V:=r.length;have ad:=zcO;have W:EP X pins σ Q w s:=⟨z,H,B,U,q⟩;exact subscriptTail_builtinR (x:=w) pl.typeIs slot_tuple_getitem.lookup
  (getItem_tuple (j:=j) (Q:=λr s'=>r=w/\EP X pins σ Q r s') pl (by omega) (by omega) (by rw[List.size_toArray,←V];exact h1) (by simpa using O) ⟨J,W⟩) G
theorem zgv:IxR X rIxS:=by
 intro value Y pins s σ H x y v u Q B D F h G;obtain⟨z,i,c,rfl,rfl,Z,I,q⟩:=h;obtain⟨t,rfl⟩:=D;obtain⟨t',rfl⟩:=F;obtain⟨j,h1,h2,aa,J0,O⟩:=zfY I;have U:z.cps.toList.length=z.length:=by simp[Str.length]
 rw[U] at h1 J0 O;have ab:=zcO;exact tail_any (typeIs_str s z t) slot_str_getitem.lookup (getItem_str (c:=c) (by
  have V:decide (i < -(2 ^ 63:Int))=false:=decide_eq_false (by omega);have W:decide (i ≥ 2 ^ 63)=false:=decide_eq_false (by omega);rw[V,W,Bool.or_false]) (by rw[h1];simpa using h2) ⟨.str ⟨#[c]⟩,H,B.tok _,⟨_,J⟩,q⟩) G
noncomputable def rIx(K:W.Frag):R2:=λx y H Q=>rIxL K x y H Q∨rIxT K x y H Q∨rIxS x y H Q
theorem zl0:IxR X (rIx X.K):=ix_list.or (ix_tup.or zgv)
theorem zhh(its:List Value)(n j:Nat)(u:Value):Obj.mapSeq (·.setIfInBounds j u) { cls:=.type "list",data:=.seq its.toArray n }={ cls:=.type "list",data:=.seq (its.set j u).toArray n }:=by
 simp[Obj.mapSeq]
theorem Inv.lst{pins:List (Addr×Obj)}{σ:St}{H:Hp}{s:Shared}{p:Addr}{xs:List V}(B:Inv X pins σ H s)(h:H p=some (.lst xs)) :
  ∃(its:List Value) (n:Nat),Vals xs its/\s.heap.get? p=some { cls:=.type "list",data:=.seq its.toArray n }/\xs.length<=sizeLine:=by
 obtain⟨z,its,n,r,e⟩:=B.hok p _ h;exact⟨its,n,r,e,z⟩
theorem Inv.lstUpd{pins:List (Addr×Obj)}{σ:St}{H:Hp}{s:Shared}{p:Addr}{xs ys:List V}{its its':List Value}{n B:Nat}{f:Obj->Obj}(F:Inv X pins σ H s)(h:H p=some (.lst xs))(G:s.heap.get? p=some { cls:=.type "list",data:=.seq its.toArray n })(D:f { cls:=.type "list",data:=.seq its.toArray n }={ cls:=.type "list",data:=.seq its'.toArray B })(r:Vals ys its')(I:ys.length<=sizeLine)(t:Nat) :
  Inv X pins σ (upd H p (.lst ys)) { s with heap:=s.heap.update p f,toks:=t }:=by
 have e:(s.heap.update p f).get? p=some { cls:=.type "list",data:=.seq its'.toArray B }:=by
  rw[Heap.get?_update_self f G (by rw[D]<;>rfl),D]
 refine F.write (x:=p) (e:=p) (by rw[h];trivial) (.inl J) (λb u J0 q=>(Heap.get?_update_other _ _ (Ne.symm J0)).trans q) ⟨_,e⟩ ?_;exact⟨I,its',B,r,e⟩
noncomputable def rSetL:V->V->V->Hp->(Hp->Prop)->Prop:=λo i v H Q=>∃p xs k j,o=.ref p/\i=.int k/\H p=some (.lst xs)/\ixN xs.length k=some j/\Q (upd H p (.lst (xs.set j v)))
theorem zeu:PSet X rSetL:=by
 intro pins s σ H o i v ad ae u Q G Y Z aa h;obtain⟨p,xs,k,j,rfl,rfl,I,ab,q⟩:=h;cases Y;obtain⟨t,rfl⟩:=Z;obtain⟨its,n,r,B,ac⟩:=G.lst I;obtain⟨h1,h2,J0,O⟩:=zhY ab;have D:=r.length;have af:=zcO;have U:Inv X pins σ (upd H p (.lst (xs.set j v))) { s with heap:=s.heap.update p (Obj.mapSeq (·.setIfInBounds j u)) }:=
  G.lstUpd I B (zhh its n j u) (r.set aa j) (by rw[List.length_set];exact ac) s.toks
 by_cases V:0<=k
 .have F:k.toNat=j:=by
   rw[seqIndex_of V O] at h1;exact Option.some.inj h1
  exact W.ki_setAt B V (by omega) (by rw[List.size_toArray,←D];exact O) (by rw[F];exact⟨_,U,q⟩)
 .have F:(k+(its.toArray.size:Int)).toNat=j:=by
   rw[seqIndex_neg (by omega) J0] at h1;rw[List.size_toArray,←D];exact Option.some.inj h1
  exact W.ki_setBack B (by omega) (by rw[List.size_toArray,←D];exact J0) (by omega) (by rw[F];exact⟨_,U,q⟩)
theorem zfn(lo hi:Option Int)(n:Nat):(sliceBounds lo hi none n).1=((HT.sIx n 0 lo:Nat):Int)/\(sliceBounds lo hi none n).2.1=((HT.sIx n n hi:Nat):Int)/\(sliceBounds lo hi none n).2.2=1:=by
 refine⟨?_,?_,J⟩
 .cases lo with
  |none=>simp[sliceBounds,HT.sIx]
  |some i=>
   simp only[sliceBounds,HT.sIx,Option.getD_none,show (1:Int)>0 by decide,if_true];by_cases h:i<0
   .simp only[h,if_true]<;>omega
   .simp only[h,if_false]<;>omega
 .cases hi with
  |none=>simp[sliceBounds,HT.sIx]
  |some i=>
   simp only[sliceBounds,HT.sIx,Option.getD_none,show (1:Int)>0 by decide,if_true];by_cases h:i<0
   .simp only[h,if_true]<;>omega
   .simp only[h,if_false]<;>omega
theorem zev(its:List Value)(lo hi:Option Int):slicePick its.toArray lo hi none=((its.drop (HT.sIx its.length 0 lo)).take (HT.sIx its.length its.length hi-HT.sIx its.length 0 lo)).toArray:=by
 obtain⟨h1,h2,B⟩:=zfn lo hi its.toArray.size;unfold slicePick;rw[h1,h2,B];simp only[sliceRange_one,pick_run,List.size_toArray]<;>rfl
noncomputable def rSlL(K:W.Frag):V->Option Int->Option Int->Hp->VK->Prop:=λx lo hi H Q=>∃a xs,x=.ref a/\SqL K H a xs/\∀p,H p=none->Q (.ref p) (upd H p (.lst (cutV xs lo hi)))
theorem zbM:SlR X (rSlL X.K):=by
 intro pins s σ H x v V W lo hi Y Q B F G pl I h;obtain⟨a,xs,rfl,J0,q⟩:=h;cases F;obtain⟨its,r,D,O⟩:=B.list J0;have U:=r.length;refine⟨"list",_,slot_list_getitem.lookup,D.isList.typeIs,?_⟩;refine wpAny_getItem_list_slice D.isList G pl I .none (by simp) ?_ (by rw[List.size_toArray]<;>omega);rw[zev,←U];refine⟨.ref s.heap.objs.size,_,B.laid (t':=s.toks) (o:=.lst (cutV xs lo hi)) (λb ob q=>Heap.get?_push_of_some _ q) (Nat.le_refl _) ?_,J,q _ (B.hok.fresh (Nat.le_refl _))⟩;exact⟨Nat.le_trans (zdJ xs lo hi) O,_,0,(r.drop (HT.sIx xs.length 0 lo)).take (HT.sIx xs.length xs.length hi-HT.sIx xs.length 0 lo),Heap.get?_push_size _ J⟩
theorem zaD:CallR X (.builtin "len") (λxs H Q=>∃p ys,xs=[.ref p]/\(SqL X.K H p ys∨SqT X.K H p ys)/\Q (.int ys.length) H):=by
 intro pins s σ H xs us Q B r h;obtain⟨p,ys,rfl,hq,q⟩:=h;obtain⟨u,rfl,G⟩:=vals1 r;cases G;have J0:=zcO;rcases hq with hq|hq
 .obtain⟨its,D,pl,I⟩:=B.list hq;have F:=D.length;exact Calls.call_len_list pl.isList (by simp only[List.size_toArray]<;>omega) ⟨.int ys.length,H,B.tok _,⟨s.toks+1,by rw[List.size_toArray,F]⟩,q⟩
 .obtain⟨its,D,pl,I⟩:=B.tuple hq;have F:=D.length;exact len_tuple pl (by simp only[List.size_toArray]<;>omega) ⟨.int ys.length,H,B.tok _,⟨s.toks+1,by rw[List.size_toArray,F]⟩,q⟩
theorem zam:CallR X (.builtin "len") (λxs H Q=>∃z,xs=[.str z]/\z.length<=sizeLine/\Q (.int z.length) H):=by
 intro pins s σ H xs us Q B r h;obtain⟨z,rfl,D,q⟩:=h;obtain⟨u,rfl,t,rfl⟩:=vals1 r;have F:=zcO;exact len_str (by omega) ⟨.int z.length,H,B.tok _,⟨_,J⟩,q⟩
theorem zci:CallR X (.type "list") (λxs H Q=>∃p ys,xs=[.ref p]/\(SqL X.K H p ys∨SqT X.K H p ys)/\∀l,H l=none->Q (.ref l) (upd H l (.lst ys))):=by
 intro pins s σ H xs us Q I r h;obtain⟨p,ys,rfl,hq,q⟩:=h;obtain⟨u,rfl,W⟩:=vals1 r;cases W;have V:∀(its:List Value),Vals ys its->ys.length<=sizeLine->∀(h':Heap) (B:Nat),(∀b o',s.heap.get? b=some o'->h'.get? b=some o') ->
   h'.get? s.heap.objs.size=some { cls:=.type "list",dict:=none,data:=.seq its.toArray B,slots:=#[] }->EP X pins σ Q (.ref s.heap.objs.size) { s with heap:=h' }:=λits D F h' B G e=>
  ⟨.ref s.heap.objs.size,_,I.laid (t':=s.toks) G (Nat.le_refl _) (show ObjOk X.prog X.w _ h' _ (.lst ys) from ⟨F,its,B,D,e⟩),J,q _ (I.hok.fresh (Nat.le_refl _))⟩
 rcases hq with hq|hq
 .obtain⟨its,D,pl,F⟩:=I.list hq;have Y:=D.length;obtain⟨o,J0,O,n,U⟩:=pl.isList;exact call_list_seq p (.inl J) J0 O U (λh' B G e=>V its D F h' B G e) (by simp only[List.size_toArray]<;>omega)
 .obtain⟨its,D,pl,F⟩:=I.tuple hq;have Y:=D.length;obtain⟨o,J0,O,n,U⟩:=pl;exact call_list_seq p (.inr J) J0 O U (λh' B G e=>V its D F h' B G e) (by simp only[List.size_toArray]<;>omega)
theorem zbD:CallR X (.type "tuple") (λxs H Q=>∃p ys,xs=[.ref p]/\((SqL X.K H p ys/\∀l,H l=none->Q (.ref l) (upd H l (.tup ys)))∨(SqT X.K H p ys/\Q (.ref p) H))):=by
 intro pins s σ H xs us Q B r h;obtain⟨p,ys,rfl,h⟩:=h;obtain⟨u,rfl,J0⟩:=vals1 r;cases J0;rcases h with⟨D,q⟩|⟨D,q⟩
 .obtain⟨its,F,pl,G⟩:=B.list D;have V:=F.length;refine call_tuple_list pl.isList (λh' O=>?_) (by simp only[List.size_toArray]<;>omega);have I:Inv X pins σ H { s with heap:=h' }:=B.kept (t':=s.toks) O;have U:Inv X pins σ (upd H h'.objs.size (.tup ys)) { s with heap:=h'.push { cls:=.type "tuple",data:=.seq its.toArray } }:=
   I.laid (t':=s.toks) (λb o e=>Heap.get?_push_of_some _ e) (Nat.le_refl _) (show ObjOk X.prog X.w _ _ _ (.tup ys) from ⟨G,its,F,IsTup.new _ _⟩)
  exact⟨.ref h'.objs.size,_,U,J,q _ (I.hok.fresh (Nat.le_refl _))⟩
 .obtain⟨its,F,pl,G⟩:=B.tuple D;exact call_tuple_same pl ⟨.ref p,H,B,J,q⟩
noncomputable def tyV(K:W.Frag)(T:String)(x:V)(H:Hp):Prop:=match x with
 |.str _=>T="str"
 |.int _=>T="int"
 |.ref p=>(T="list"/\∃xs,SqL K H p xs)∨(T="tuple"/\∃o,K.lookup p=some o/\o.cls=.type "tuple"/\o.dict=none) ∨
   (T="dict"/\((∃kvs,H p=some (.dK kvs))∨∃kvs,H p=some (.dT kvs)))∨(T="set"/\∃S n,H p=some (.set S n))
 |_=>False
theorem zkG{pins:List (Addr×Obj)}{σ:St}{H:Hp}{s:Shared}{T:String}{x:V}{v:Value}(D:Inv X pins σ H s)(r:RelV x v)(ty:tyV X.K T x H) :
  s.TypeIs v T/\∀a,v=.ref a->∃ob,s.heap.get? a=some ob/\ob.dict=none:=by
 cases x with
 |str z=>
  obtain⟨t,rfl⟩:=r;cases (show T="str" from ty);exact⟨typeIs_str s z t,λ_ e=>nomatch e⟩
 |int i=>
  obtain⟨t,rfl⟩:=r;cases (show T="int" from ty);exact⟨typeIs_int s i t,λ_ e=>nomatch e⟩
 |ref p=>
  cases r;rcases ty with⟨rfl,xs,I⟩|⟨rfl,o,B,J0,F⟩|⟨rfl,B⟩|⟨rfl,S,n,B⟩
  .obtain⟨its,_,pl,_⟩:=D.list I;refine⟨pl.isList.typeIs,λa e=>?_⟩;cases e;obtain⟨o,n,e,c,F,_⟩:=pl;exact⟨o,e,F⟩
  .refine⟨⟨o,D.kIn p o B,J0⟩,λa e=>?_⟩;cases e;exact⟨o,D.kIn _ o B,F⟩
  .have z:∃o,s.heap.get? p=some o/\o.ExactDict:=by
    rcases B with⟨kvs,B⟩|⟨kvs,B⟩
    .obtain⟨_,_,_,_,o,_,_,e,ex,_⟩:=D.hok p _ B;exact⟨o,e,ex⟩
    .obtain⟨_,_,_,_,o,_,_,e,ex,_⟩:=D.hok p _ B;exact⟨o,e,ex⟩
   obtain⟨o,e,ex⟩:=z;refine⟨⟨o,e,ex.1⟩,λa G=>?_⟩;cases G;exact⟨o,e,ex.2.1⟩
  .obtain⟨o,_,_,_,e,ex,_⟩:=D.hok p _ B;refine⟨⟨o,e,ex.1⟩,λa G=>?_⟩;cases G;exact⟨o,e,ex.2.1⟩
 |_=>exact False.elim ty
noncomputable def tBM0(K:W.Frag)(T:String)(r:V->List V->Hp->VK->Prop)(to:TE):TE:=λσ H Q=>to σ H λx H1=>tyV K T x H1/\r x [] H1 Q
noncomputable def tBM(K:W.Frag)(T:String)(r:V->List V->Hp->VK->Prop)(to:TE)(t:TA):TE:=λσ H Q=>to σ H λx H1=>tyV K T x H1/\t σ H1 λxs H2=>r x xs H2 Q
variable {o e:Expr}{es:List Expr}{to:TE}{t:TA}{name:Str}{apos cpos:Pos}{T id:String}{r:V->List V->Hp->VK->Prop}
theorem zfo(F:PlainAttrs T)(slot:Slot T name id)(G:typeOf (.builtin id)=pure (.type "method_descriptor"))(I:MtR X id r)(J0:PE X o to)(O:attributeBase o name X.env (eval o X.env)=eval o X.env:=by rfl)(U:(apos.endLine==cpos.line)=true:=by rfl):PE X (.Call (.Attribute o name apos) [] [] cpos) (tBM0 X.K T r to):=by
 intro pins s σ H Q V h;refine wpAny_Call_method0_late O U (thn (J0 pins s σ H _ V h) λv W Y=>?_);obtain⟨x,H1,B,D,ty,q1⟩:=Y;obtain⟨h1,h2⟩:=zkG B D ty;exact⟨T,id,F,slot,G,h1,h2,Calls.callWith_builtin J (PySem.evalArgs_none (I pins W σ H1 x [] v [] Q B D .nil q1))⟩
theorem zbN(I:PlainAttrs T)(slot:Slot T name id)(J0:typeOf (.builtin id)=pure (.type "method_descriptor"))(O:MtR X id r)(U:PE X o to)(V:PA X (e::es) t)(W:attributeBase o name X.env (eval o X.env)=eval o X.env:=by rfl)(Y:((backTo cpos (starEach (e::es) X.env)).all (λx=>!x.1)&&(backToKw cpos (keywordEach [] X.env)).all (λx=>x.1.isSome)
   && decide ((e::es).length+([]:List Keyword).length+(if ([]:List Keyword).isEmpty then 0 else 1)<30))=true:=by rfl)(Z:(apos.endLine==cpos.line)=true:=by rfl)(aa:starEach (e::es) X.env=(false,eval e X.env)::starEach es X.env:=by rfl)(ab:(backTo cpos (starEach es X.env)).any (·.1)=false:=by rfl) :
  PE X (.Call (.Attribute o name apos) (e::es) [] cpos) (tBM X.K T r to t):=by
 intro pins s σ H Q ac h;refine wpAny_Call_method_late W Y Z rfl (thn (U pins s σ H _ ac h) λv ad B=>?_);obtain⟨x,H1,D,F,ty,q1⟩:=B;obtain⟨h1,h2⟩:=zkG D F ty;refine⟨T,id,I,slot,J0,h1,h2,?_⟩;have G:=V cpos pins ad σ H1 _ D q1;rw[aa] at G ⊢;refine Calls.callWith_builtin (by show (false || (backTo cpos (starEach es X.env)).any (·.1))=false;rw[ab]<;>rfl) (Calls.evalArgs_plain ?_);refine thn G λus ae B=>?_;obtain⟨vs,H2,af,ag,ah⟩:=B;exact O pins ae σ H2 x vs v us Q af F ag ah
end
noncomputable def MtM(X:Cx)(id:String)(r:V->List V->Hp->VK->Prop):Prop:=
 ∀(pins:List (Addr×Obj)) (s:Shared) (σ:St) (H:Hp) (x:V) (xs:List V) (v:Value) (us:List Value) (Q:VK),Inv X pins σ H s->RelV x v->Vals xs us->r x xs H Q ->
  wpAny (model X.prog X.w) X.A (call (.builtin id) (v::us)) (EP X pins σ Q) X.xe s
theorem Vals.unc{x:V}{xs:List V}{us:List Value}(h:Vals (x::xs) us):∃u r,us=u::r/\RelV x u/\Vals xs r:=by
 cases h with
 |cons r q=>exact⟨_,_,J,r,q⟩
theorem Vals.emp{us:List Value}(h:Vals [] us):us=[]:=by
 cases h;rfl
theorem Vals.one{x:V}{us:List Value}(h:Vals [x] us):∃u,us=[u]/\RelV x u:=by
 obtain⟨u,r,e,h1,h2⟩:=h.unc;exact⟨u,by rw[e,h2.emp],h1⟩
theorem Vals.two{x y:V}{us:List Value}(h:Vals [x,y] us):∃u v,us=[u,v]/\RelV x u/\RelV y v:=by
 obtain⟨u,r,e,h1,h2⟩:=h.unc;obtain⟨v,B,D⟩:=h2.one;exact⟨u,v,by rw[e,B],h1,D⟩
theorem Vals.zero:∀ {us:List Value},Vals [] us->us=[]
 |_,.nil=>rfl
theorem Vals.dropLast{xs:List V}{us:List Value}(h:Vals xs us):Vals xs.dropLast us.dropLast:=by
 induction h with
 |nil=>exact .nil
 |cons r t B=>
  cases t with
  |nil=>exact .nil
  |cons q t'=>exact .cons r B
theorem Vals.reverse{xs:List V}{us:List Value}(h:Vals xs us):Vals xs.reverse us.reverse:=by
 induction h with
 |nil=>exact .nil
 |cons r t B=>rw[List.reverse_cons,List.reverse_cons];exact Vals.append B (.cons r .nil)
theorem zhi{B:Type}(l:List B):l.eraseIdx (l.length-1)=l.dropLast:=by
 induction l with
 |nil=>rfl
 |cons a r D=>
  cases r with
  |nil=>rfl
  |cons b r=>
   have e:(a::b::r).length-1=((b::r).length-1)+1:=by
    have h1:(a::b::r).length=r.length+2:=rfl;have h2:(b::r).length=r.length+1:=rfl;omega
   rw[e,List.eraseIdx_cons_succ,D]
   all_goals rfl
section
variable {X:Cx}{pins:List (Addr×Obj)}{σ:St}{H:Hp}{s:Shared}{l b:Addr}{xs ys zs:List V}
theorem Inv.lset{its its':List Value}{n:Nat}{f:Array Value->Array Value}{t':Nat}(B:Inv X pins σ H s)(D:H l=some (.lst xs))(e:s.heap.get? l=some { cls:=.type "list",data:=.seq its.toArray n })(F:f its.toArray=its'.toArray)(G:Vals ys its')(I:ys.length<=sizeLine) :
  Inv X pins σ (upd H l (.lst ys)) { s with heap:=s.heap.update l (Obj.mapSeq f),toks:=t' }:=by
 have q:=PySem.IsL.update e f;rw[F] at q;refine B.write (x:=l) (e:=l) (by rw[D];exact trivial) (.inl J) (λU u J0 O=>(Heap.get?_update_other s.heap (Obj.mapSeq f) (Ne.symm J0)).trans O) ⟨_,q⟩ ?_;exact⟨I,its',_,G,q⟩
theorem Inv.lnew{its:List Value}{t':Nat}(B:Inv X pins σ H s)(D:Vals ys its)(F:ys.length<=sizeLine) :
  Inv X pins σ (upd H s.heap.objs.size (.lst ys)) { s with heap:=s.heap.push { cls:=.type "list",data:=.seq its.toArray },toks:=t' }:=
 B.laid (λ_ _ q=>Heap.get?_push_of_some _ q) (Nat.le_refl _) ⟨F,its,0,D,Heap.get?_push_size _ J⟩
theorem Inv.fresh(B:Inv X pins σ H s):H s.heap.objs.size=none:=B.hok.fresh (Nat.le_refl _)
theorem Inv.lstM(B:Inv X pins σ H s)(D:H l=some (.lst xs)):xs.length<=sizeLine/\∃(its:List Value) (n:Nat),Vals xs its/\xs.length=its.length/\s.heap.get? l=some { cls:=.type "list",data:=.seq its.toArray n }:=by
 obtain⟨z,its,n,r,e⟩:=B.hok l _ D;exact⟨z,its,n,r,r.length,e⟩
theorem zjz{n:Nat}(h:n<=sizeLine):Builtin.List.listTooLong n=false:=by
 unfold Builtin.List.listTooLong;exact decide_eq_false (by omega)
end
section
variable {X:Cx}
noncomputable def zk7:V->List V->Hp->VK->Prop:=λx vs H Q=>∃l xs y,x=.ref l/\vs=[y]/\H l=some (.lst xs)/\xs.length<sizeLine/\Q .non (upd H l (.lst (xs++[y])))
theorem zaL:MtM X "list.append" zk7:=by
 intro pins s σ H x vs v us Q B G I h;obtain⟨l,xs,y,rfl,rfl,D,O,q⟩:=h;cases G;obtain⟨u,rfl,J0⟩:=I.one;obtain⟨z,its,n,r,U,e⟩:=B.lstM D;refine call_meets F.slot_list_append ⟨_,e,J⟩ F.entry_list_append (F.args_list_append_2 _ _) (PySem.list_append l its.toArray n u (by rw[List.size_toArray];omega)) ⟨e,?_⟩;refine⟨.non,_,B.lset (its':=its++[u]) D e (by simp) (r.append (.cons J0 .nil)) ?_,J,q⟩;rw[List.length_append,List.length_singleton];omega
noncomputable def zk8:V->List V->Hp->VK->Prop:=λx vs H Q=>∃l b xs zs,x=.ref l/\vs=[.ref b]/\H l=some (.lst xs)/\H b=some (.lst zs)/\xs.length+zs.length<=sizeLine/\Q .non (upd H l (.lst (xs++zs)))
theorem zl1:MtM X "list.extend" zk8:=by
 intro pins s σ H x vs v us Q D I J0 h;obtain⟨l,b,xs,zs,rfl,rfl,G,O,aa,q⟩:=h;cases I;obtain⟨u,rfl,U⟩:=J0.one;cases U;obtain⟨z,its,n,r,ab,e⟩:=D.lstM G;obtain⟨ac,B,V,W,ad,Y⟩:=D.lstM O;have hsz:its.toArray.size+B.toArray.size<=sizeLine:=by rw[List.size_toArray,List.size_toArray];omega
 have Z:¬(!its.toArray.isEmpty&&Builtin.List.listTooLong (its.toArray.size+B.toArray.size))=true:=by
  rw[zjz hsz,Bool.and_false];exact Bool.false_ne_true
 refine call_meets F.slot_list_extend ⟨_,e,J⟩ F.entry_list_extend (F.args_list_extend_2 _ _)
  (AutoSeq1.list_extend_list_list_0 l its.toArray n b B.toArray V Z (by rw[List.size_toArray];omega) (by omega)) ⟨e,Y,?_⟩
 refine⟨.non,_,D.lset (its':=its++B) G e (by simp) (r.append W) ?_,J,q⟩;rw[List.length_append];omega
noncomputable def rPop:V->List V->Hp->VK->Prop:=λx vs H Q=>∃l xs y,x=.ref l/\vs=[]/\H l=some (.lst xs)/\xs[xs.length-1]?=some y/\Q y (upd H l (.lst xs.dropLast))
theorem zgw:MtM X "list.pop" rPop:=by
 intro pins s σ H x vs v us Q B G I h;obtain⟨l,xs,y,rfl,rfl,D,J0,q⟩:=h;cases G;have O:=I.zero;subst O;obtain⟨z,its,n,r,U,e⟩:=B.lstM D;obtain⟨u,V,W⟩:=r.get J0;have Y:its.toArray[its.toArray.size-1]?=some u:=by
  show its.toArray[its.length-1]?=some u;rw[←Array.getElem?_toList,←U];exact V
 refine call_meets F.slot_list_pop ⟨_,e,J⟩ F.entry_list_pop (F.args_list_pop_1 _) (MeetsSeq.list_pop_last l its.toArray n u Y (by rw[List.size_toArray];omega)) ⟨e,?_⟩;refine⟨y,_,B.lset (its':=its.dropLast) D e ?_ r.dropLast ?_,W,q⟩
 .show its.toArray.eraseIdxIfInBounds (its.toArray.size-1)=its.dropLast.toArray;rw[List.size_toArray,List.eraseIdxIfInBounds_toArray,zhi]
 .rw[List.length_dropLast];omega
noncomputable def zjA:V->List V->Hp->VK->Prop:=λx vs H Q=>∃l xs,x=.ref l/\vs=[]/\H l=some (.lst xs)/\Q .non (upd H l (.lst xs.reverse))
theorem zhj:MtM X "list.reverse" zjA:=by
 intro pins s σ H x vs v us Q B G I h;obtain⟨l,xs,rfl,rfl,D,q⟩:=h;cases G;have J0:=I.zero;subst J0;obtain⟨z,its,n,r,O,e⟩:=B.lstM D;refine call_meets F.slot_list_reverse ⟨_,e,J⟩ F.entry_list_reverse (F.args_list_reverse_1 _) (AutoSeq1.list_reverse_list_0 l its.toArray n (by rw[List.size_toArray];omega)) ⟨e,?_⟩;refine⟨.non,_,B.lset (its':=its.reverse) D e (by simp) r.reverse ?_,J,q⟩;rw[List.length_reverse];omega
noncomputable def rCat:R2:=λx y H Q=>∃l b xs zs,x=.ref l/\y=.ref b/\H l=some (.lst xs)/\H b=some (.lst zs)/\xs.length+zs.length<=sizeLine/\∀p,H p=none->Q (.ref p) (upd H p (.lst (xs++zs)))
theorem zdj:OpR X (binaryOp .Add) rCat:=by
 intro pins s σ H x y v u Q B F G h;obtain⟨l,b,xs,zs,rfl,rfl,I,J0,V,q⟩:=h;cases F;cases G;obtain⟨z,its,n,r,W,e⟩:=B.lstM I;obtain⟨Y,D,Z,O,aa,U⟩:=B.lstM J0;refine PySem.P.add_list e U ?_ (by rw[List.size_toArray,List.size_toArray];omega);have ea:its.toArray++D.toArray=(its++D).toArray:=by simp
 rw[ea];exact⟨.ref _,_,B.lnew (t':=s.toks) (r.append O) (by rw[List.length_append];omega),J,q _ B.fresh⟩
end
section
variable {prog:Program}{w:World}{A:Around}{E:Value->Shared->Prop}{s:Shared}
end
section
variable {X:Cx}
end
end L2
namespace Att
open PySem PySem.W PySem.Calls PyProof.Rows
theorem zdK{P:Params}{h:Heap}:∀(B:List Int) (vs:List Value),WellAll P h vs (B.map WData.int)->IntsAre vs B:=by
 intro B;induction B with
 |nil=>
  intro vs w;rw[List.map_nil] at w;cases w;exact .nil
 |cons n B D=>
  intro vs w;rw[List.map_cons] at w;cases w with
  |cons a b=>
   cases a;exact .cons _ _ (D _ b)
theorem zhZ{l:OpenLaw}{n:Nat}(O:l.most=some n){P:Params}{h:Heap}{args:List WData}{G:List Value}(I:l.row.toRowW.claim.pre args=true)(U:WellAll P h G args) :
  ∃a vs B,G=[Value.ref a]/\args=[WData.list (B.map WData.int)]/\h.get? a=some { cls:=.type "list",data:=.seq vs.toArray }/\IntsAre vs B/\B.length<=n:=by
 have V:WShape.hasAll [] args [.list .int]=true:=(pre_splitW I).1;have J0:l.pre.holds [] { args:=args }=true:=(pre_splitW I).2;obtain⟨d,r,rfl,h1,h2⟩:=hasAllW_cons V;obtain rfl:=hasAllW_nil h2;obtain⟨xs,rfl,W⟩:=hasW_list h1;obtain⟨B,rfl⟩:=items_int W;have Y:B.length<=n:=by
  unfold OpenLaw.pre at J0;have D:(WTm.not (.lt (.lit (.int (n:Int))) (.len (.arg 0)))).holds [] { args:=[.list (B.map .int)] }=true:=by
   have D:=(holds_andW J0).1;rw[O] at D;exact D
  have F:=condW_of D (w_not (w_lt w_lit (w_len_list (w_arg J))));rw[List.length_map] at F;refine Nat.le_of_not_lt λq=>?_;have Z:(n:Int)<((B.length:Nat):Int):=by omega
  first
   |(rw[decide_eq_true Z] at F;exact absurd F (by decide))
   |(simp at F;omega)
 cases U with
 |cons aa ab=>
  cases ab;cases aa with
  |list ac ad=>exact⟨_,_,B,J,J,ac,zdK B _ ad,Y⟩
theorem zh0(l:OpenLaw)(args:List WData):l.row.toRowW.claim.post args (.bool true) args=true:=
 postW_of (r:=l.row.toRowW) (X:=(true==true))
  (show WShape.has [] (.bool true) .bool=true by first|rfl|decide|simp[WShape.has,WShape.arms,WShape.armsAll])
  (show (WTm.eq .res (.lit (.bool true))).value [] { args:=args,res:=some (.bool true),after:=args }=some (.bool (true==true)) from w_eq_bool (w_res J) w_lit) rfl
theorem attach_call{l:OpenLaw}{n:Nat}{q:Program}{J0:List Str}{XP:(Str->Option Value)->Heap->Prop}{O:World->Heap->Prop}{d:DefRec}(V:l.most=some n)(W:d.params.defaults=[])(call:∀(w:World) (s₀ B:Shared) (mg I:Str->Option Value) (D:Addr) (o:Obj) (pm cd doc:Value) (a:Addr) (vs:List Value) (F:List Int),
   Ground q J0 [] XP w s₀ mg I B.heap->O w B.heap ->
   B.heap.get? D=some o->o.data=.func (docDef d.name d.params d.body d.scope pm cd doc)->B.heap.CodeRec cd d.name->mg d.name=some (.ref D) ->
   B.heap.get? a=some { cls:=.type "list",data:=.seq vs.toArray }->IntsAre vs F->F.length<=n->B.gens=#[] ->
   codeAny (model l.prog w) callerA (.call (.ref D) ⟨[.ref a],[]⟩) (λr s'=>r=.ok (.ret (.bool true))/\OldK B.heap s'.heap/\s'.os=B.os/\AllBare s'.gens) B) :
  WalkO q J0 XP O l.row.toRowW d [] (λf vs=>PySem.call f vs):=by
 intro w s₀ B mg I G Y D o pm cd doc Z kV aa ab ac U ad ae args ap aq af ar as ag au;obtain rfl:Z=.none:=Dflts.none U W;obtain rfl:kV=.none:=Dflts.noKw U;obtain⟨a,vs,F,rfl,rfl,ah,ai,aj⟩:=zhZ V af ag;refine enter_call (codeAny_mono (call w s₀ B mg I D o pm cd doc a vs F G Y aa (fd_plain ab) ac ad ah ai aj ae) λr s' ak=>?_);obtain⟨rfl,h2,al,am⟩:=ak;exact⟨.inl ⟨.bool true,.bool true,[],J,λ_=>rfl,.bool true,zh0 l _,λ_=>⟨List.Pairwise.nil,λ_ ao=>(nomatch ao)⟩⟩,h2,al,am⟩
section
variable {prog:Program}{w:World}{A:Around}{E:Value->Shared->Prop}{s:Shared}{K:Frag}
noncomputable def noObjs(h:Heap):Heap:={ h with objs:=#[] }
theorem noObjs_get(h:Heap)(b:Addr):(noObjs h).get? b=none:=by
 cases e:(noObjs h).get? b with
 |none=>rfl
 |some o=>exact absurd (Heap.lt_size e) (Nat.not_lt_zero _)
noncomputable def ledger(h:Heap)(L d:Addr):List (Addr×Obj):=(List.range h.objs.size).filterMap λa=>if a=L∨a=d then none else (h.get? a).map λo=>(a,o)
theorem mem_ledger{h:Heap}{L d a:Addr}{o:Obj}:(a,o)∈ledger h L d↔a≠L/\a≠d/\h.get? a=some o:=by
 unfold ledger;rw[List.mem_filterMap];constructor
 .rintro⟨b,_,e⟩;split at e
  .cases e
  .rename_i D;obtain⟨o',B,F⟩:=Option.map_eq_some_iff.mp e;cases F;exact⟨λq=>D (.inl q),λq=>D (.inr q),B⟩
 .rintro⟨G,I,B⟩;refine⟨a,List.mem_range.mpr (Heap.lt_size B),?_⟩;rw[if_neg (show ¬(a=L∨a=d) from λq=>q.elim G I),B]<;>rfl
theorem fr_all{h:Heap}{L:Addr}{m:Str->Option Value}(n:h.Ns L m):Fr (noObjs h) L h m:=
 ⟨n,λb o e=>(by rw[noObjs_get] at e;cases e),Nat.zero_le _⟩
end
end Att
namespace L2
open PySem PySem.Spec PyProof.Rows
theorem zfp:∀ {vs:List Value}{B:List Int},IntsAre vs B->Vals (B.map V.int) vs
 |_,_,.nil=>.nil
 |_,_,.cons n t h=>.cons ⟨t,J⟩ (zfp h)
noncomputable def za7(s:Stmt)(j:Nat):Stmt:=match s with
 |.ClassDef _ _ _ body _ _ _ _ _ _ _=>body.getD j (.Pass ⟨0,0,0,0⟩)
 |_=>.Pass ⟨0,0,0,0⟩
noncomputable def zbO(s:Stmt):Arguments:=match s with
 |.FunctionDef _ a _ _ _ _ _ _ _ _=>a
 |_=>{ posonlyargs:=[],args:=[],vararg:=none,kwonlyargs:=[],kw_defaults:=[],kwarg:=none,defaults:=[] }
noncomputable def zbl(s:Stmt):List Stmt:=match s with
 |.FunctionDef _ _ b _ _ _ _ _ _ _=>b
 |_=>[]
noncomputable def zag(s:Stmt):Scope:=match s with
 |.FunctionDef _ _ _ _ _ _ sc _ _ _=>sc
 |_=>{ kind:=.function,names:=[],isGenerator:=false,isCoroutine:=false }
noncomputable abbrev CX0:CXT:=λ_ _ _ _ _ _=>False
noncomputable abbrev E0:XK:=λ_ _ _=>False
theorem pass0{X:Cx}:zdi CX0 X E0:=λ_ _ _ _ _ _ _ h=>h.elim
structure Fun(K:W.Frag)(x qual:Str)(st:Stmt)(f:Addr)(fd:FuncData):Prop where
 ex:∃(oc:Value) (od:Option Addr) (kV doc pm:Value) (an:Option Addr) (cdv ct:Value) (osl:Array (Option Value)),
  fd=W.fnOf x qual (zbO st) (zbl st) (zag st) .none kV doc pm an cdv ct/\K.lookup f=some ⟨oc,od,.func fd,osl⟩/\W.codeIn K cdv qual=true
 kp:W.keepIn K (.ref f)=true
section
variable {P:Program}{w:World}{K:W.Frag}{mg:Str->Option Value}{base:Heap}
theorem Fun.ok{x qual:Str}{st:Stmt}{f:Addr}{fd:FuncData}{N ps:List Str}{k:Nat}{sp:Sp}(F:Fun K x qual st f fd)(S:zav N ps (zag st))(B:∀vs H Q E,sp vs H Q E->vs.length=ps.length)(D:∀(cdv:Value) (A:Around) (outer:List Env) (s:Shared) (H:Hp) (vs:List V) (Q:VK) (E:XK),Room k (A.deeper (envOfC qual (zag st) s.heap.objs.size f cdv))->sp vs H Q E ->
   ∃t,PSs (cxOf CX0 P w K mg base N qual (zag st) f cdv A outer s H E).nox (zbl st) t/\t { nx:=λ_ H'=>Q .non H',rt:=Q } (start N vs) H):FnOk P w K mg base CX0 (k+1) f fd ps sp:=by
 obtain⟨oc,od,kV,doc,pm,an,cdv,ct,osl,rfl,G,I⟩:=F.ex;refine zk3 G I S B λA outer s H vs Q E J0 O=>?_;obtain⟨t,h,q⟩:=D cdv A outer s H vs Q E J0 O;exact⟨t,h.nox,q⟩
theorem Fun.binds{x qual:Str}{st:Stmt}{f:Addr}{fd:FuncData}{ps:List Str}(F:Fun K x qual st f fd)(h:∀(kV doc pm:Value) (an:Option Addr) (cdv ct:Value) (us:List Value),us.length=ps.length->bindArgs (W.fnOf x qual (zbO st) (zbl st) (zag st) .none kV doc pm an cdv ct) ⟨us,[]⟩=pure (ps.zip us)):Binds K fd ps []:=by
 obtain⟨oc,od,kV,doc,pm,an,cdv,ct,osl,rfl,B,D⟩:=F.ex;exact .all (h kV doc pm an cdv ct)
theorem zh1{x qual:Str}{st:Stmt}{f:Addr}{oc:Value}{od an:Option Addr}{osl:Array (Option Value)}{kV doc pm cdv ct:Value}(l:K.lookup f=some ⟨oc,od,.func (W.fnOf x qual (zbO st) (zbl st) (zag st) .none kV doc pm an cdv ct),osl⟩)(c:W.codeIn K cdv qual=true)(k:W.keepIn K (.ref f)=true):Fun K x qual st f (W.fnOf x qual (zbO st) (zbl st) (zag st) .none kV doc pm an cdv ct):=⟨⟨oc,od,kV,doc,pm,an,cdv,ct,osl,J,l,c⟩,k⟩
end
section
variable {X:Cx}
theorem pv(i:Nat){x:Str}{pos:Pos}(B:X.N[i]?=some x:=by rfl)(D:Vis X.env.scope x:=by first|exact Or.inl rfl|exact Or.inr (Or.inl J)|exact Or.inr (Or.inr J))(F:(x==("__debug__":Str))=false:=by decide)(G:(x==("__classdict__":Str))=false:=by decide):PE X (.Name x pos) (tVar i):=zlR B D F G
end
theorem iteF{A B:Prop}(h:B):if false=true then A else B:=by
 rw[if_neg Bool.false_ne_true];exact h
theorem iteT{A B:Prop}(h:A):if true=true then A else B:=by
 rw[if_pos rfl];exact h
theorem ite2{c A B:Prop} [Decidable c] (h1:c->A) (h2:¬c->B):if c then A else B:=by
 by_cases h:c
 .rw[if_pos h];exact h1 h
 .rw[if_neg h];exact h2 h
noncomputable def Same(H H':Hp):Prop:=∀b o,H b=some o->H' b=some o
theorem Same.refl(H:Hp):Same H H:=λ_ _ h=>h
theorem Same.trans{H H1 H2:Hp}(a:Same H H1)(b:Same H1 H2):Same H H2:=λc o h=>b c o (a c o h)
theorem Same.free{H H':Hp}(e:Same H H'){l:Addr}(h:H' l=Option.none):H l=Option.none:=by
 cases q:H l with
 |none=>rfl
 |some o=>
  rw[e l o q] at h;cases h
theorem zc4(env:Env):∀(names:List (Str×NameKind)) (B:List (Str×Addr)),(∀x∈names,x.2=.free->∃c,env.cells.lookup x.1=some c) ->
  (∀x c,B.lookup x=some c->env.cells.lookup x=some c) ->
  ∃cl:List (Str×Addr),(forIn names B (λ(x:Str×NameKind) r=>(if (x.2==.free)=true then cellOf env x.1 >>= λa=>pure (ForInStep.yield ((x.1,a)::r)) else pure (ForInStep.yield r):Sem (ForInStep (List (Str×Addr))))))=pure cl /\
   (∀x c,cl.lookup x=some c->env.cells.lookup x=some c)/\(∀x c,B.lookup x=some c->∃d,cl.lookup x=some d)/\(∀x∈names,x.2=.free->∃c,cl.lookup x.1=some c)
 |[],B,_,h2=>⟨B,J,h2,λx c e=>⟨c,e⟩,λx hx=>by simp at hx⟩
 |(n,k)::r,B,h1,h2=>by
  rw[List.forIn_cons];by_cases I:k=.free
  .subst I;obtain⟨c,J0⟩:=h1 (n,.free) List.mem_cons_self rfl;obtain⟨cl,e,O,D,U⟩:=zc4 env r ((n,c)::B) (λx hx=>h1 x (List.mem_cons_of_mem _ hx)) (λx d e=>by
    rw[List.lookup_cons] at e;cases F:x==n with
    |true=>
     rw[F] at e;have V:x=n:=by simpa using F
     cases e;rw[V];exact J0
    |false=>rw[F] at e;exact h2 x d e)
   have W:cellOf env n=pure c:=by unfold cellOf;simp only at J0;rw[J0]
   refine⟨cl,?_,O,λx d e=>?_,λx hx G=>?_⟩
   .simp only[beq_self_eq_true,if_true,W,pure_bind];exact e
   .by_cases hx:x=n
    .subst hx;exact D x c (by simp[List.lookup_cons])
    .exact D x d (by rw[List.lookup_cons];have:(x==n)=false:=(by simpa using hx);rw[this];exact e)
   .rcases List.mem_cons.mp hx with rfl|hx
    .exact D n c (by simp[List.lookup_cons])
    .exact U x hx G
  .obtain⟨cl,e,O,D,U⟩:=zc4 env r B (λx hx=>h1 x (List.mem_cons_of_mem _ hx)) h2;have F:(k==NameKind.free)=false:=by simpa using I
   refine⟨cl,?_,O,D,λx hx G=>?_⟩
   .simp only[F,Bool.false_eq_true,if_false,pure_bind];exact e
   .rcases List.mem_cons.mp hx with rfl|hx
    .exact absurd G I
    .exact U x hx G
theorem zc5(env:Env)(sc:Scope)(h1:∀x∈sc.names,x.2=.free->∃c,env.cells.lookup x.1=some c) :
  ∃cl:List (Str×Addr),closureFor sc env=pure cl/\(∀x c,cl.lookup x=some c->env.cells.lookup x=some c)/\(∀x∈sc.names,x.2=.free->∃c,cl.lookup x.1=some c):=by
 obtain⟨cl,e,B,_,D⟩:=zc4 env sc.names [] h1 (λx c e=>by simp at e);refine⟨cl,?_,B,D⟩;unfold closureFor;simp only[bind_pure];exact e
noncomputable def Cx.blk(X:Cx)(sc:Scope)(cl:List (Str×Addr))(N':List Str)(B:Shared)(D:Hp)(ex:List Addr):Cx:=
 { X with N:=N',s₀:=B,H₀:=D,env:=compEnvC sc cl B.heap.objs.size X.env,outer:=X.stack,stack:=X.stack,ex:=ex,fn:=λ_=>false,pn:=[],xe:=λ_ _=>False }
structure BlkOk(X:Cx)(sc:Scope):Prop where
 kind:sc.kind=.function
 names:∀x∈sc.names,x.2=.local->sc.names.lookup x.1=some .local
 nocell:∀x∈sc.names,x.2≠.cell
 free:∀x∈sc.names,x.2=.free->X.env.kindOf x.1=some .cell
theorem zbm{names:List (Str×NameKind)}{x:Str}{k:NameKind}(h:names.lookup x=some k):(x,k)∈names:=PySem.mem_of_lookup h
theorem za1{env:Env}:∀ {names:List (Str×NameKind)}{x:Str}{k:NameKind},
  (names.map λ(n,k)=>if (k==NameKind.free&&env.scope.kind==.function&&env.kindOf n==some .cell) then (n,NameKind.cell) else (n,k)).lookup x=some k ->
  names.lookup x=some k∨(k=.cell/\names.lookup x=some .free)
 |[],_,_,h=>by simp at h
 |(n,k0)::r,x,k,h=>by
  have D:=@za1 env r x k;change List.lookup x ((if (k0==NameKind.free&&env.scope.kind==.function&&env.kindOf n==some .cell)=true then (n,NameKind.cell) else (n,k0))::_)=_ at h;cases hx:x==n with
  |true=>
   by_cases B:(k0==NameKind.free&&env.scope.kind==.function&&env.kindOf n==some .cell)=true
   .rw[if_pos B] at h;simp only[List.lookup_cons,hx] at h;have F:k0=.free:=by simp only[Bool.and_eq_true,beq_iff_eq] at B;exact B.1.1
    cases h;exact .inr ⟨J,by simp only[List.lookup_cons,hx,F]⟩
   .rw[if_neg B] at h;simp only[List.lookup_cons,hx] at h;cases h;exact .inl (by simp only[List.lookup_cons,hx])
  |false=>
   have h':List.lookup x (r.map λ(n,k)=>if (k==NameKind.free&&env.scope.kind==.function&&env.kindOf n==some .cell) then (n,NameKind.cell) else (n,k))=some k:=by
    by_cases B:(k0==NameKind.free&&env.scope.kind==.function&&env.kindOf n==some .cell)=true
    .rw[if_pos B] at h;simp only[List.lookup_cons,hx] at h;exact h
    .rw[if_neg B] at h;simp only[List.lookup_cons,hx] at h;exact h
   simp only[List.lookup_cons,hx];exact D h'
section
variable {X:Cx}{pins:List (Addr×Obj)}{σ σ':St}{H:Hp}{s:Shared}{sc:Scope}{cl:List (Str×Addr)}{N':List Str}{fp:List Addr}
theorem zfq(D:Inv X pins σ H s)(B:BlkOk X sc)(F:∀x c,cl.lookup x=some c->X.env.cells.lookup x=some c)(Z:∀x∈sc.names,x.2=.free->∃c,cl.lookup x.1=some c)(I:∀b∈fp,FpOk X pins H b/\b<s.heap.objs.size)(ac:σ'.length=N'.length)(ad:∀(i:Nat) (x:Str) (v:V),N'[i]?=some x->σ'[i]?=some (some v)->Vis (relabel sc X.env) x->∃j:Nat,X.N[j]?=some x/\σ[j]?=some (some v)/\Vis X.env.scope x/\sc.names.lookup x=some .free){h':Heap}{tk:Nat}(ae:h'.Ns s.heap.objs.size (λ_=>none))(af:Heap.SameBut s.heap.objs.size (s.heap.push { cls:=.type "dict",data:=.dict #[] }) h') :
  Inv (X.blk sc cl N' s H fp) [] σ' H { s with heap:=h',toks:=tk }:=by
 have U:∀b u,s.heap.get? b=some u->h'.get? b=some u:=λb u e=>(af.2 b (Nat.ne_of_lt (Heap.lt_size e))).trans (Heap.get?_push_of_some _ e);have ax:∀x c,cl.lookup x=some c->c<s.heap.objs.size:=λx c e=>by
  obtain⟨v,q⟩:=D.cell x c (F x c e);exact q.lt
 have ag:∀x c,cl.lookup x=some c->∃v,h'.IsCell c v:=λx c e=>by
  obtain⟨v,o,J0,O⟩:=D.cell x c (F x c e);exact⟨v,o,U _ _ J0,O⟩
 refine⟨⟨D.ok.mod,B.kind,D.ok.glob,D.ok.blt,Nat.le_refl _,λx y c J0 O=>D.ok.inj x y c (F x c J0) (F y c O),λx ah=>?_,λx c z=>(by cases z),D.ok.hd,D.ok.frames,.inl J,λb G=>⟨Nat.ne_of_lt (I b G).2,λx c e=>(I b G).1.2.2.2.2.1 x c (F x c e)⟩,
  D.bs,?_,λb o e G=>?_,λb G ai=>?_,D.stack,D.stkFree⟩,J,D.bare,Un.kept U,⟨_,ae,λi x v J0 O aa=>?_⟩,ag,D.hok.fresh (Nat.le_refl _),λx c e=>D.freeC x c (F x c e),λp aj=>absurd (show p∈([]:List (Addr×Obj)) from aj) (by simp),D.hok.kept U,ac⟩
 .have ak:(relabel sc X.env).names.lookup x=some .cell∨(relabel sc X.env).names.lookup x=some .free:=ah;have:sc.names.lookup x=some .free:=by
   rcases ak with h|h
   .rcases za1 h with h|⟨_,h⟩
    .exact absurd rfl (B.nocell _ (zbm h))
    .exact h
   .rcases za1 h with h|⟨W,h⟩
    .exact h
    .cases W
  exact Z (x,.free) (zbm this) rfl
 .exact Nat.le_trans D.ok.bsz D.sz
 .have:=(I b G).1.2.2.2.1;rcases this with z|z
  .exact D.ok.noex b o e z
  .exact absurd (Nat.lt_of_lt_of_le (Heap.lt_size e) (Nat.le_trans D.ok.bsz z)) (Nat.lt_irrefl _)
 .have:=D.stkSub b ai;rcases List.mem_cons.mp this with z|z
  .exact(I b G).1.2.1 z
  .exact(I b G).1.2.2.1 z
 .obtain⟨j,al,am,ao,Y⟩:=ad i x v J0 O aa;obtain⟨m,ay,ap⟩:=D.loc;obtain⟨u,r,l⟩:=ap j x v al am ao;refine⟨u,r,?_⟩;have aq:=B.free (x,.free) (zbm Y) rfl;have ar:X.env.kindOf x=some .cell:=aq;rcases l with⟨k1,_⟩|⟨_,c,as,au⟩
  .rw[ar] at k1;cases k1
  .obtain⟨d,av⟩:=Z (x,.free) (zbm Y) rfl;have ab:cl.lookup x=some d:=av;have:=F x d ab;rw[as] at this;cases this;refine .inr ⟨?_,c,ab,?_⟩
   .rcases aa with z|z|z
    .rcases za1 z with h|⟨W,h⟩
     .rw[Y] at h;cases h
     .cases W
    .exact .inl z
    .exact .inr z
   .obtain⟨o,q1,aw⟩:=au;exact⟨o,U _ _ q1,aw⟩
theorem zh2{H':Hp}{U:St}{V:List (Addr×Obj)}{s':Shared}{I:Heap}(W:Inv X pins σ H s)(Y:∀b∈fp,FpOk X pins H b/\b<s.heap.objs.size)(J0:Inv (X.blk sc cl N' s H fp) V U H' s')(G:Heap.SameBut s.heap.objs.size s'.heap I):Inv X pins σ H' { s' with heap:=I }:=by
 have ne:∀b o,s.heap.get? b=some o->b≠s.heap.objs.size:=λb o e=>Nat.ne_of_lt (Heap.lt_size e);have O:H' s.heap.objs.size=none:=J0.free;have B:Un (frs X.stack) fp H H' s.heap s'.heap:=J0.base;refine W.call' (ch:=fp) (s':={ s' with heap:=I }) J0.os ⟨λb o e n D F=>?_,λb o e n D F=>?_,B.free,λb o e F=>?_,B.tups,B.frzs,B.tbls⟩ (λb o e=>?_) J0.bare λb D=>?_
 .exact(G.2 b (ne b o e)).trans (B.keep b o e n D F)
 .obtain⟨Z,q⟩:=B.slot b o e n D F;exact⟨Z,(G.2 b (ne b o e)).trans q⟩
 .obtain⟨o',q⟩:=B.there b o e F;exact⟨o',(G.2 b (ne b o e)).trans q⟩
 .refine(J0.hok b o e).stay (λc ae hc q=>(G.2 c ?_).trans q) (λ_ q=>q) λ_ _ q=>q;rintro rfl;rcases hc with rfl|hc
  .rw[O] at e;cases e
  .rw[O] at hc;cases hc
 .obtain⟨af,aa,ag,ab,ac,ad⟩:=(Y b D).1;exact⟨ab,aa,ac,ad⟩
end
noncomputable abbrev TR:=St->Hp->(St->Hp->Prop)->Prop
noncomputable def PR(X:Cx)(rest:Sem Unit)(t:TR):Prop:=
 ∀(pins:List (Addr×Obj)) (s:Shared) (σ:St) (H:Hp) (N:St->Hp->Prop),Inv X pins σ H s->t σ H N->wpAny (model X.prog X.w) X.A rest (λ_ s'=>∃σ' H',Inv X pins σ' H' s'/\N σ' H') X.xe s
noncomputable def PTs(X:Cx)(ifs:List Expr)(t:TT):Prop:=
 ∀(pins:List (Addr×Obj)) (s:Shared) (σ:St) (H:Hp) (Q:Bool->Hp->Prop),Inv X pins σ H s->t σ H Q ->
  wpAny (model X.prog X.w) X.A (forIn ifs true λc r=>if r=true then do let B ← isTrue c X.env (eval c X.env);pure (ForInStep.yield B) else pure (ForInStep.yield r)) (TP X pins σ Q) X.xe s
noncomputable def tYes:TT:=λ_ H Q=>Q true H
theorem zbr{X:Cx}:PTs X [] tYes:=λ_ _ _ H _ B h=>wpAny_tests_nil ⟨H,B,h⟩
theorem zcj{X:Cx}{c:Expr}{t:TT}(h:PT X c t):PTs X [c] t:=λpins s σ H Q B q=>wpAny_tests_one (h pins s σ H Q B q)
noncomputable def tLoop(J0:It)(g:TG)(tt:TT)(G:TR)(Qe:St->Hp->Prop)(σ:St)(H:Hp):Prop:=∃W:Nat->Nat->St->Hp->Prop,(∃m,W 0 m σ H)/\∀i m σ H,W i m σ H ->
 (J0.stop i H/\Qe σ H)∨(J0.go i H/\∃N:St->Hp->Prop,(∀σ' H',N σ' H'->∃D,D<m/\W (i+1) D σ' H')/\∀x H',J0.yld i H x H'->g x σ H' λB H2=>tt B H2 λb F=>if b=true then G B F N else N B F)
theorem zh3{X:Cx}(as:X.xe=λ_ _=>False)(ah:X.calm=true){e:Expr}{d:Nat}{tg iter:Expr}{ifs:List Expr}{D:Value}{rest:Sem Unit}{g:TG}{tt:TT}{ai:TR}{J0:It}{fp:List Addr}{it:Addr}{Z:Nat->Heap->Prop}(au:compTurn e d (.ref it) D X.env=(do
   standAt iter.pos
   match ← pyNext (.ref it) with
   |none=>pure (.done .next)
   |some v=>
    letOwnedTupleGo tg (.ref it) v
    assign tg X.env v
    let mut V:=true
    for c in ifs do
     if V then V ← isTrue c X.env (eval c X.env)
    if V then rest
    again (.compLoop e d (.ref it) D X.env)))(av:(Code.compLoop e d (.ref it) D X.env).quiet=true)(aw:X.A.under (.compLoop e d (.ref it) D X.env)=X.A)(ax:(model X.prog X.w).den (.compLoop e d (.ref it) D X.env)=(compTurn e d (.ref it) D X.env).onRaise (λx=>do noteFrame x X.env;theTreesLotGoes x))(ay:PG X tg g)(az:PTs X ifs tt)(aA:PR X rest ai)(T:Turn X.prog X.w X.K tg J0 fp it Z){pins:List (Addr×Obj)}{σ:St}{H:Hp}{s:Shared}{Qe:St->Hp->Prop}{R:Result->Shared->Prop}(aB:Inv X pins σ H s)(st:Z 0 s.heap)(aj:∀b∈fp,FpOk X pins H b)(h:tLoop J0 g tt ai Qe σ H)(aC:∀s' σ' H',Inv X pins σ' H' s'->Qe σ' H'->R (.ok .next) s') :
  codeAny (model X.prog X.w) X.A (.compLoop e d (.ref it) D X.env) R s:=by
 obtain⟨W,⟨aD,aE⟩,aF⟩:=h;have ac:∀ {H':Hp},(∀b∈fp,H' b=none)->∀b∈fp,FpOk X pins H' b:=λaG b B=>⟨aG b B,(aj b B).2⟩;have I:∀ {ad:Type} {t:Sem ad} {Q:ad->Shared->Prop} {s:Shared} {E:Value->Shared->Prop},wpAny (model X.prog X.w) X.A t Q X.xe s->wpAny (model X.prog X.w) X.A t Q E s:=λ{ad t Q s E} h=>
  wpAny_mono h (λ_ _ x=>x) λ_ _ x=>by rw[as] at x;exact x.elim
 refine codeAny_loop av (λn s'=>∃i σ' H',Inv X pins σ' H' s'/\Z i s'.heap/\(∀b∈fp,H' b=none)/\W i n σ' H') (λn ak aH=>?_) aD ⟨0,σ,H,aB,st,λb B=>(aj b B).1,aE⟩;rw[aw,ax];refine wpAny_noted ?_;rw[au];obtain⟨i,aa,ae,al,am,ao,aI⟩:=aH;refine wpAny_bind (wpAny_standAt (wpAny_bind ?_));rcases aF i n aa ae aI with⟨stop,aJ⟩|⟨go,N,aK,step⟩
 .refine I (thn (T.done X J J J ah i pins ak aa ae X.xe al (ac ao) am stop) λr aL ⟨af,aM⟩=>?_);subst af;exact wpAny_pure (aC _ _ _ aM aJ)
 .refine I (thn (T.item X J J J ah i pins ak aa ae X.xe al (ac ao) am go) λr aL ⟨u,af,aN⟩=>?_);subst af;refine wpAny_bind (I (thn aN λ_ ap F=>?_));obtain⟨x,aq,aO,aP,aQ,ag,aR⟩:=F;have aS:=aO.pinned (ac aR) (T.obj _ _ ag);refine wpAny_bind (I (thn (ay _ ap aa aq x u _ aS aP (step x aq aQ)) λ_ aT F=>?_));obtain⟨ar,aU,aV,aW⟩:=F;have again:∀ {Y:St} {G:Hp} {O:Shared},Inv X (pins++zec fp ap.heap) Y G O->N Y G->∃m,m<n/\∃i σ' H',Inv X pins σ' H' O/\Z i O.heap/\(∀b∈fp,H' b=none)/\W i m σ' H':=λ{Y G O} U aX=>by
   obtain⟨aY,aZ,a1⟩:=aK Y G aX;refine⟨aY,aZ,i+1,Y,G,U.unpinned,T.keep _ _ _ ag λb B o e=>(U.pin (b,o) (List.mem_append_right _ (List.mem_append_right _ (zbE B e)))).1,λb B=>?_,a1⟩;obtain⟨o,e,dd⟩:=T.obj _ _ ag b B;exact(U.pin (b,o) (List.mem_append_right _ (List.mem_append_right _ (zbE B e)))).2.1
  refine wpAny_bind (I (thn (az _ aT ar aU _ aV aW) λV O F=>?_));obtain⟨G,U,ab⟩:=F;cases V with
  |false=>
   rw[if_neg (by simp)] at ab;exact wpAny_pure ⟨J,again U ab⟩
  |true=>
   rw[if_pos rfl] at ab;refine wpAny_bind (I (thn (aA _ O ar G _ U ab) λ_ a4 F=>?_));obtain⟨a5,a6,a2,a3⟩:=F;exact wpAny_pure ⟨J,again a2 a3⟩
noncomputable def tApp(p:Addr)(te:TE):TR:=λσ H N=>te σ H λv B=>∃ys,B p=some (.lst ys)/\ys.length<sizeLine/\N σ (upd B p (.lst (ys++[v])))
theorem zkH{X:Cx}{elt:Expr}{te:TE}{p:Addr}(D:PE X elt te):PR X (do let _ ← call (.builtin "list.append") [.ref p,←eval elt X.env]) (tApp p te):=by
 intro pins s σ H N F h;refine wpAny_bind (thn (D pins s σ H _ F h) λu G B=>?_);obtain⟨v,H1,I,J0,ys,O,U,q1⟩:=B;refine wpAny_bind (thn (zaL pins G σ H1 (.ref p) [v] _ [u] (λ_ H2=>N σ H2) I J (.cons J0 .nil) ⟨p,ys,v,J,J,O,U,q1⟩) λ_ Y B=>?_);obtain⟨_,H2,V,_,W⟩:=B;exact wpAny_pure ⟨σ,H2,V,W⟩
noncomputable def capSt(σ:St):List (Option Nat)->St
 |[]=>[]
 |none::js=>none::capSt σ js
 |some j::js=>(σ[j]?).join::capSt σ js
noncomputable def CapsOk(X:Cx)(sc:Scope):List Str->List (Option Nat)->Prop
 |[],[]=>True
 |_::xs,none::js=>CapsOk X sc xs js
 |x::xs,some j::js=>X.N[j]?=some x/\Vis X.env.scope x/\sc.names.lookup x=some .free/\CapsOk X sc xs js
 |_,_=>False
theorem CapsOk.len{X:Cx}{sc:Scope}{σ:St}:∀ {N':List Str}{js:List (Option Nat)},CapsOk X sc N' js->(capSt σ js).length=N'.length
 |[],[],_=>rfl
 |_::xs,none::js,h=>by simp only[capSt,List.length_cons];rw[CapsOk.len (N':=xs) (js:=js) h]
 |x::xs,some j::js,h=>by simp only[capSt,List.length_cons];rw[CapsOk.len (N':=xs) (js:=js) h.2.2.2]
 |[],_::_,h=>by cases h
 |_::_,[],h=>by cases h
theorem CapsOk.get{X:Cx}{sc:Scope}{σ:St}:∀ {N':List Str}{js:List (Option Nat)}{i:Nat}{x:Str}{v:V},CapsOk X sc N' js->N'[i]?=some x->(capSt σ js)[i]?=some (some v) ->
  ∃j:Nat,X.N[j]?=some x/\σ[j]?=some (some v)/\Vis X.env.scope x/\sc.names.lookup x=some .free
 |[],[],i,x,v,_,h1,_=>by simp at h1
 |y::xs,none::js,0,x,v,h,h1,h2=>by simp[capSt] at h2
 |y::xs,none::js,i+1,x,v,h,h1,h2=>CapsOk.get (N':=xs) (js:=js) (i:=i) h (by simpa using h1) (by simpa [capSt] using h2)
 |y::xs,some j::js,0,x,v,h,h1,h2=>by
  have D:y=x:=by simpa using h1
  subst D;refine⟨j,h.1,?_,h.2.1,h.2.2.1⟩;have B:(σ[j]?).join=some v:=by simpa [capSt] using h2
  cases q:σ[j]? with
  |none=>rw[q] at B;cases B
  |some o=>rw[q] at B;exact congrArg some B
 |y::xs,some j::js,i+1,x,v,h,h1,h2=>CapsOk.get (N':=xs) (js:=js) (i:=i) h.2.2.2 (by simpa using h1) (by simpa [capSt] using h2)
 |[],_::_,_,_,_,h,_,_=>by cases h
 |_::_,[],_,_,_,h,_,_=>by cases h
noncomputable def tComp(js:List (Option Nat))(wi:TI)(g:TG)(tt:TT)(te:TE):TE:=λσ H Q=>wi σ H λJ0 H1=>∀p,H1 p=none->tLoop J0 g tt (tApp p te) (λ_ H'=>Q (.ref p) H') (capSt σ js) (upd H1 p (.lst []))
section
variable {X:Cx}{elt tg iter:Expr}{ifs:List Expr}{sc:Scope}{pos:Pos}{N':List Str}{js:List (Option Nat)}{wi:TI}{g:TG}{tt:TT}{te:TE}
theorem zdL(ai:X.calm=true)(B:BlkOk X sc)(C:CapsOk X sc N' js){cl:List (Str×Addr)}(ab:∀x c,cl.lookup x=some c->X.env.cells.lookup x=some c)(aj:∀x∈sc.names,x.2=.free->∃c,cl.lookup x.1=some c)(ak:∀cl s H fp,PG (X.blk sc cl N' s H fp) tg g)(al:∀cl s H fp,PTs (X.blk sc cl N' s H fp) ifs tt)(am:∀cl s H fp,PE (X.blk sc cl N' s H fp) elt te){pins:List (Addr×Obj)}{σ:St}{H:Hp}{s:Shared}{Qe:Addr->Hp->Prop}{it:Addr}{fp:List Addr}{O:Nat->Heap->Prop}{J0:It}{RR:Value->Addr->Result->Shared->Prop}(ac:Inv X pins σ H s)(T:Turn X.prog X.w X.K tg J0 fp it O)(st:O 0 s.heap)(ao:∀b∈fp,FpOk X pins H b)(h:∀p,H p=none->tLoop J0 g tt (tApp p te) (λ_ H'=>Qe p H') (capSt σ js) (upd H p (.lst [])))(ap:∀p C s' H',C≠p->(∀b o,s.heap.get? b=some o->b≠C)->H' C=none->(∃m,s'.heap.Ns C m)->Qe p H'->(∀G,Heap.SameBut C s'.heap G->Inv X pins σ H' { s' with heap:=G })->FpOk X pins H' C->RR (.ref p) C (.ok .next) s') :
  wpAny (model X.prog X.w) X.A (newList []) (λad aq=>wpAny (model X.prog X.w) X.A (newFunctionEnv sc X.env.globals cl [] X.env.qual none .none (some X.env)) (λae ar=>
   codeAny (model X.prog X.w) X.A (.compStart (.ListComp elt [⟨tg,iter,ifs,0⟩] sc pos) 0 (.ref it) ad { ae with scope:=relabel sc X.env }) (RR ad ae.locals) ar) X.xe aq) X.xe s:=by
 refine wpAny_newObj_type ?_;have I:=ac.lnew (ys:=[]) (its:=[]) (t':=s.toks) .nil (by simp);generalize Y:({ s with heap:=s.heap.push { cls:=.type "list",data:=.seq ([]:List Value).toArray },toks:=s.toks }:Shared)=D at I;have Z:H s.heap.objs.size=none:=ac.fresh;have as:=h _ Z;have aa:∀b∈fp,FpOk X pins (upd H s.heap.objs.size (.lst [])) b/\b<D.heap.objs.size:=λb F=>by
  obtain⟨au,av⟩:=ao b F;obtain⟨o,e,_⟩:=T.obj _ _ st b F;have U:=Heap.lt_size e;refine⟨⟨by rw[zak (Nat.ne_of_lt U)];exact au,av⟩,?_⟩;rw[←Y];show b<(s.heap.push _).objs.size;rw[Heap.size_push];exact Nat.lt_succ_of_lt U
 have hsz:D.heap.objs.size=s.heap.objs.size+1:=by rw[←Y];exact Heap.size_push ..
 have aw:O 0 D.heap:=by rw[←Y];exact T.keep _ _ _ st λb F o e=>Heap.get?_push_of_some _ e
 refine wpAny_newFunctionEnv B.nocell (by intro y ax;simp at ax) (λV ay af=>?_) B.kind;have az:=zfq (cl:=cl) (N':=N') (σ':=capSt σ js) (tk:=D.toks+([]:List (Str×Value)).length) I B ab aj aa C.len (λi x v aA aB _=>C.get aA aB) (show V.Ns D.heap.objs.size (λ_=>none) from ay) (show Heap.SameBut D.heap.objs.size (D.heap.push { cls:=.type "dict",data:=.dict #[] }) V from af);have ag:O 0 V:=T.keep _ _ _ aw λb F o e=>(af.2 b (Nat.ne_of_lt (Heap.lt_size e))).trans (Heap.get?_push_of_some _ e);have aC:∀b∈fp,FpOk (X.blk sc cl N' D (upd H s.heap.objs.size (.lst [])) fp) [] (upd H s.heap.objs.size (.lst [])) b:=λb F=>by
  obtain⟨⟨aD,aE,aF,aK,aG,aL⟩,U⟩:=aa b F;refine⟨aD,Nat.ne_of_lt U,λz=>?_,.inl F,λx c e=>aG x c (ab x c e),λp Z=>absurd (show p∈([]:List (Addr×Obj)) from Z) (by simp)⟩;rcases List.mem_cons.mp (I.stkSub b z) with z|z
  .exact aE z
  .exact aF z
 have ah:codeAny (model X.prog X.w) X.A (.compLoop (.ListComp elt [⟨tg,iter,ifs,0⟩] sc pos) 0 (.ref it) (.ref s.heap.objs.size) (compEnvC sc cl D.heap.objs.size X.env)) (RR (.ref s.heap.objs.size) D.heap.objs.size) { D with heap:=V,toks:=D.toks+([]:List (Str×Value)).length }:=by
  refine zh3 (X:=X.blk sc cl N' D (upd H s.heap.objs.size (.lst [])) fp) rfl ai (compTurn_list ..) rfl rfl rfl (ak _ _ _ _) (al _ _ _ _) (zkH (am _ _ _ _)) T az ag aC as λs' σ' H' W q=>?_;have aH:∀G,Heap.SameBut D.heap.objs.size s'.heap G->Inv X pins σ H' { s' with heap:=G }:=λG aI=>zh2 I aa W aI;obtain⟨m,aJ,_⟩:=W.loc;refine ap _ _ _ H' (by rw[hsz];exact Nat.succ_ne_self _) (λb o e=>?_) W.free ⟨m,aJ⟩ q aH (I.fpOk (Nat.le_refl _) W.free);rw[hsz];exact Nat.ne_of_lt (Nat.lt_succ_of_lt (Heap.lt_size e))
 exact codeAny_compStart_list ah (T.self _ 0 _ _ _ ag ah)
theorem zaZ(ak:X.xe=λ_ _=>False)(F:X.calm=true)(B:BlkOk X sc)(C:CapsOk X sc N' js)(hi:PI X tg iter wi)(G:∀cl s H fp,PG (X.blk sc cl N' s H fp) tg g)(I:∀cl s H fp,PTs (X.blk sc cl N' s H fp) ifs tt)(O:∀cl s H fp,PE (X.blk sc cl N' s H fp) elt te)(U:∀x,foldedSetIterable iter X.env x=pure x:=by intro _;rfl):PE X (.ListComp elt [⟨tg,iter,ifs,0⟩] sc pos) (tComp js wi g tt te):=by
 intro pins s σ H Q D h;obtain⟨cl,V,W,Y⟩:=zc5 X.env sc λx Z aa=>D.ok.has x.1 (.inl (B.free x Z aa));rw[eval_ListComp];refine wpAny_comprehension_free (use:=none) rfl U V B.kind B.names (thn (hi pins s σ H _ D h) λv al h1=>thn h1 λam ao h2=>?_);obtain⟨it,fp,ap,J0,H2,e,ab,T,ac,ad,h2⟩:=h2;subst e;refine zdL (Qe:=λp H'=>Q (.ref p) H') (RR:=λae C=>compPost (model X.prog X.w) X.A X.xe none (EP X pins σ Q) ae C) F B C W Y G I O ab T ac ad h2 ?_;intro p C s' H' aq ar as af q ag _;obtain⟨m,ah⟩:=af;exact⟨m,ah,λai aj=>⟨.ref p,H',ag ai aj,J,q⟩⟩
noncomputable def zjB(i:Nat)(js:List (Option Nat))(wi:TI)(g:TG)(tt:TT)(te:TE):TS:=λD σ H=>tComp js wi g tt te σ H λv H'=>D.nx (σ.set i (some v)) H'
theorem zb3{i:Nat}{y:Str}{F I:Pos}(aG:X.xe=λ_ _=>False)(W:X.calm=true)(Y:X.N.Nodup)(Z:X.N[i]?=some y)(G:Loc X.env.scope y)(B:BlkOk X sc)(C:CapsOk X sc N' js)(hi:PI X tg iter wi)(aa:∀cl s H fp,PG (X.blk sc cl N' s H fp) tg g)(ab:∀cl s H fp,PTs (X.blk sc cl N' s H fp) ifs tt)(ac:∀cl s H fp,PE (X.blk sc cl N' s H fp) elt te)(ad:swapsWith (.ListComp elt [⟨tg,iter,ifs,0⟩] sc pos) (some (.Name y F)) I.line X.env=pure true:=by rfl)(ae:∀x,foldedSetIterable iter X.env x=pure x:=by intro _;rfl)(af:X.fn y=true∨X.env.scope.names.lookup y=some .local:=by first|exact .inl rfl|exact .inr rfl|assumption):PS X (.Assign [.Name y F] (.ListComp elt [⟨tg,iter,ifs,0⟩] sc pos) I) (zjB i js wi g tt te):=by
 intro pins s σ H D O h;obtain⟨cl,ag,ah,ai⟩:=zc5 X.env sc λx G aj=>O.ok.has x.1 (.inl (B.free x G aj));rw[exec_Assign_Name_used _ _ _ _ ad];refine wpAny_bind (wpAny_standAt (wpAny_bind ?_));show wpAny _ X.A (do let _ ← comprehension (.ListComp elt [⟨tg,iter,ifs,0⟩] sc pos) sc X.env _ (newList []) false (eval iter X.env) (some (assign (.Name y F) X.env))) _ _ s;refine wpAny_bind (thn (wpAny_comprehension_free (use:=some (assign (.Name y F) X.env)) (Q:=λ_ s'=>SP X pins D .next s') J ae ag B.kind B.names (thn (hi pins s σ H _ O h) λv aH h1=>thn h1 λaI aJ h2=>?_)) λ_ s' ak=>wpAny_pure (wpAny_pure ak));obtain⟨it,fp,aK,J0,H2,e,al,T,am,ao,h2⟩:=h2;subst e;refine zdL (Qe:=λp H'=>D.nx (σ.set i (some (.ref p))) H') (RR:=λap C=>compPost (model X.prog X.w) X.A X.xe (some (assign (.Name y F) X.env)) (λ_ s'=>SP X pins D .next s') ap C) W B C ah ai aa ab ac al T am ao h2 ?_;intro p C s' H' aL aM aN aq q ar as;obtain⟨m,au⟩:=aq;have av:Inv X pins σ H' s':=ar s'.heap (.refl ..);obtain⟨aw,U,aO,ax,V,ay⟩:=as;show wpAny _ X.A (assign (.Name y F) X.env (.ref p)) _ _ s';refine wpAny_assign_Name (zff (v:=.ref p) av Y Z G J (λaz aA aB=>?_) af);obtain⟨a,aC,ha⟩:=aB;have aD:C≠a:=by
  rcases ha with rfl|ha
  .exact U
  .exact λz=>V y a ha z.symm
 refine⟨m,au.sameBut aC aD,λaP aE=>⟨_,H',aA.turned (t':=az.toks) (it:=C) (λb o aF e=>(aE.2 b aF).trans e) aw U ax V ay,q⟩⟩
end
section
variable {X:Cx}{e:Expr}{tg:Expr}{sc:Scope}{N':List Str}{js:List (Option Nat)}
end
section
variable {X:Cx}
theorem zh4:∀ {bs:List Bool}{us:List Value},Vals (bs.map V.bl) us->us=bs.map Value.bool
 |[],_,.nil=>rfl
 |b::bs,_,.cons r t=>by
  have e:=zh4 (bs:=bs) t;cases r;rw[e];rfl
theorem zjC{prog:Program}{w:World}{A:Around}(bs:List Bool):TruthOf prog w A (λi v=>(bs.map Value.bool).toArray[i]?=some v) (λi=>bs.getD i false):=by
 intro i v s Q E D F;have e:(bs.map Value.bool)[i]?=some v:=by simpa using D
 rw[List.getElem?_map] at e;cases hb:bs[i]? with
 |none=>rw[hb] at e;cases e
 |some b=>
  rw[hb] at e;cases e;have:bs.getD i false=b:=by rw[List.getD_eq_getElem?_getD,hb];rfl
  have B:Q (bs.getD i false) s:=F;rw[this] at B;exact wpAny_truthy_bool B
theorem zh5(bs:List Bool):(List.range bs.length).any (λi=>bs.getD i false)=bs.any id:=by
 rw[Bool.eq_iff_iff,List.any_eq_true,List.any_eq_true];constructor
 .rintro⟨i,hi,h⟩;have hi:=List.mem_range.mp hi;exact⟨bs[i],List.getElem_mem hi,by simpa [hi] using h⟩
 .rintro⟨b,B,h⟩;obtain⟨i,hi,rfl⟩:=List.mem_iff_getElem.mp B;exact⟨i,List.mem_range.mpr hi,by simpa [hi] using h⟩
theorem zjD(D:X.calm=true):CallR X (.builtin "any") (λxs H Q=>∃(p:Addr) (bs:List Bool),xs=[.ref p]/\SqL X.K H p (bs.map V.bl)/\Q (.bl (bs.any id)) H):=by
 intro pins s σ H xs us Q B r h;obtain⟨p,bs,rfl,F,q⟩:=h;obtain⟨u,rfl,G⟩:=vals1 r;cases G;obtain⟨its,I,pl,Y⟩:=B.list F;have e:=zh4 I;subst e;have J0:p<s.heap.objs.size:=by obtain⟨o,n,e,_⟩:=pl;exact Heap.lt_size e
 refine call_any_walk (wpAny_pyIter_list pl.isList ⟨s.heap.objs.size,_,[s.heap.objs.size],_,_,_,λi=>bs.getD i false,J,Walks.list (A:=X.A.in1) (show X.A.in1.handled=none from B.ok.hd D) _ p (Nat.ne_of_lt J0) (bs.map Value.bool).toArray,⟨⟨_,Heap.get?_push_size _ J,J,J⟩,?_⟩,zjC bs,λh' tk O=>?_⟩)
 .exact pl.isList.at λo e=>Heap.get?_push_of_some _ e
 .have el:(bs.map Value.bool).toArray.size=bs.length:=by simp
  rw[el,zh5];refine⟨.bl _,H,B.kept (t':=tk) λb o e=>O b o ?_ (Heap.get?_push_of_some _ e),J,q⟩;intro U;have W:b=s.heap.objs.size:=by simpa using U
  exact absurd (W ▸ Heap.lt_size e) (Nat.lt_irrefl _)
noncomputable def stAt(x y:Str)(k:Nat):Bool:=decide (k+y.length<=x.length)&&Builtin.Str.subAt x y k
theorem zcQ:MtR X "str.startswith" (λx vs H Q=>∃a b,x=.str a/\vs=[.str b]/\Q (.bl (stAt a b 0)) H):=by
 intro pins s σ H x vs v us Q B D G h;obtain⟨a,b,rfl,rfl,q⟩:=h;obtain⟨t,rfl⟩:=D;obtain⟨u,rfl,t',rfl⟩:=G.one;exact call_gives F.slot_str_startswith (typeIs_str s a t) F.entry_str_startswith (F.args_str_startswith_2 _ _) (gives_str_startswith a b t t') ⟨.bl _,H,B,J,q⟩
theorem zcR:MtR X "str.startswith" (λx vs H Q=>∃a b k,x=.str a/\vs=[.str b,.int (k:Nat)]/\Q (.bl (stAt a b k)) H):=by
 intro pins s σ H x vs v us Q B D G h;obtain⟨a,b,k,rfl,rfl,q⟩:=h;obtain⟨t,rfl⟩:=D;obtain⟨u,J0,rfl,⟨t',rfl⟩,⟨I,rfl⟩⟩:=G.two;refine call_gives F.slot_str_startswith (typeIs_str s a t) F.entry_str_startswith (F.args_str_startswith_3 _ _ _) (gives_str_startswith_from a b k t t' I) ?_;have e:fromIndex a.length (k:Int)=k:=by unfold fromIndex;rw[if_neg (by omega)];omega
 rw[e];exact⟨.bl _,H,B,J,q⟩
end
section
variable {X:Cx}{e:Expr}{tg:Expr}{sc:Scope}{N':List Str}{js:List (Option Nat)}
end
noncomputable def ddS(B:List Str)(x:Str):List Str:=if x∈B then B else B++[x]
noncomputable def dd(xs:List Str):List Str:=xs.foldl ddS []
theorem zk9(xs:List Str)(x:Str):dd (xs++[x])=ddS (dd xs) x:=by unfold dd;rw[List.foldl_append];rfl
theorem mem_ddS{B:List Str}{x k:Str}:k∈ddS B x↔k∈B∨k=x:=by
 unfold ddS;split
 .constructor
  .exact .inl
  .rintro(h|rfl)
   .exact h
   .assumption
 .simp
theorem zh6{xs:List Str}:∀ {B:List Str}{k:Str},k∈xs.foldl ddS B↔k∈B∨k∈xs:=by
 induction xs with
 |nil=>intro B k;simp
 |cons x r D=>
  intro B k;rw[List.foldl_cons,D,mem_ddS];simp only[List.mem_cons];constructor
  .rintro((h|h)|h)
   .exact .inl h
   .exact .inr (.inl h)
   .exact .inr (.inr h)
  .rintro(h|h|h)
   .exact .inl (.inl h)
   .exact .inl (.inr h)
   .exact .inr h
theorem mem_dd{xs:List Str}{k:Str}:k∈dd xs↔k∈xs:=by unfold dd;rw[zh6];simp
theorem zh7(B:List Str)(x:Str):(ddS B x).length=if x∈B then B.length else B.length+1:=by
 unfold ddS;split<;>simp
theorem zdM:∀(xs B:List Str),(xs.foldl ddS B).length<=B.length+xs.length/\((xs.foldl ddS B).length=B.length+xs.length↔(xs.Nodup/\∀x∈xs,x∉B))
 |[],B=>by simp
 |x::r,B=>by
  obtain⟨h1,h2⟩:=zdM r (ddS B x);rw[List.foldl_cons];have G:=zh7 B x;simp only[List.length_cons];by_cases F:x∈B
  .rw[if_pos F] at G;refine⟨by omega,⟨λh=>by omega,λ⟨_,h⟩=>absurd F (h x List.mem_cons_self)⟩⟩
  .rw[if_neg F] at G;refine⟨by omega,?_⟩;constructor
   .intro h;obtain⟨a,b⟩:=h2.mp (by omega);refine⟨List.nodup_cons.mpr ⟨λD=>b x D (mem_ddS.mpr (.inr J)),a⟩,λy hy=>?_⟩;rcases List.mem_cons.mp hy with rfl|hy
    .exact F
    .exact λD=>b y hy (mem_ddS.mpr (.inl D))
   .rintro⟨a,b⟩;obtain⟨I,J0⟩:=List.nodup_cons.mp a;have:=h2.mpr ⟨J0,λy hy D=>by
     rcases mem_ddS.mp D with h|h
     .exact b y (List.mem_cons_of_mem _ hy) h
     .exact I (h ▸ hy)⟩
    omega
theorem zl2(xs:List Str):(dd xs).length<=xs.length:=by have:=(zdM xs []).1;simpa [dd] using this
theorem zl3(xs:List Str):(dd xs).length=xs.length↔xs.Nodup:=by
 have:=(zdM xs []).2;simpa [dd] using this
noncomputable def setL(P:Program)(w:World)(p:Addr)(xs:List Str):HO:=.ext λh=>h.SetOf (strKind P w) p (λk=>decide (k∈xs)) (dd xs).length
theorem zla{P:Program}{w:World}{H:Hp}{h:Heap}{p:Addr}{xs:List Str}(B:h.SetOf (strKind P w) p (λk=>decide (k∈xs)) (dd xs).length):ObjOk P w H h p (setL P w p xs):=by
 refine⟨B,?_,λh1 h2 q k=>?_⟩
 .obtain⟨o,_,_,_,e,_⟩:=B;exact⟨o,e⟩
 .obtain⟨o,es,ep,t,e,r⟩:=q;exact⟨o,es,ep,t,k o e,r⟩
theorem zjE(xs:List Str)(x:Str):(λk=>decide (k∈xs) || decide (k=x))=λk=>decide (k∈xs++[x]):=by
 funext k;rw[Bool.eq_iff_iff];simp
theorem zjF(xs:List Str)(x:Str):(if decide (x∈xs)=true then (dd xs).length else (dd xs).length+1)=(dd (xs++[x])).length:=by
 rw[zk9,zh7];by_cases h:x∈xs
 .rw[if_pos (decide_eq_true h),if_pos (mem_dd.mpr h)]
 .rw[if_neg (by simp[h]),if_neg (λz=>h (mem_dd.mp z))]
section
variable {X:Cx}
theorem zew:CallR X (.builtin "len") (λvs H Q=>∃p xs,vs=[.ref p]/\H p=some (setL X.prog X.w p xs)/\Q (.int (dd xs).length) H):=by
 intro pins s σ H vs us Q B r h;obtain⟨p,xs,rfl,D,q⟩:=h;obtain⟨u,rfl,F⟩:=vals1 r;cases F;obtain⟨G,_,_⟩:=B.hok p _ D;obtain⟨o,es,ep,t,e,I,J0,_,_,O,U,V⟩:=(show s.heap.SetOf (strKind X.prog X.w) p (λk=>decide (k∈xs)) (dd xs).length from G);refine call_len_set e I J0 U (by unfold scanBound at O;omega) ?_;rw[V];exact⟨.int _,H,B.tok _,⟨_,J⟩,q⟩
end
theorem zh8{P:Program}{w:World}{A:Around}{R:Result->Shared->Prop}{D S l:Addr}{its:List Value}{xs:List Str}(aa:A.in1.handled=none)(ab:l≠D)(I:S≠D)(ac:S≠l)(ad:∀(i:Nat) v,its[i]?=some v->∃x t,xs[i]?=some x/\v=.str x t)(ae:its.length=xs.length)(au:xs.length+1<scanBound) :
  ∀(k i:Nat) (s:Shared),xs.length-i=k->i<=xs.length->s.heap.IsListIter D l i->s.heap.IsList l its.toArray->s.heap.SetOf (PySem.strKind P w) S (λB=>decide (B∈xs.take i)) (dd (xs.take i)).length ->
   (∀h' tk,(∀b o,b≠S->b≠D->s.heap.get? b=some o->h'.get? b=some o)->h'.SetOf (PySem.strKind P w) S (λB=>decide (B∈xs)) (dd xs).length->R (.ok (.ret .none)) { s with heap:=h',toks:=tk }) ->
   codeAny (model P w) A (.builtin "set.update.loop" ⟨[.ref S,.ref D],[]⟩) R s:=by
 intro k;induction k with
 |zero=>
  intro i s af hi it F G J0;have e:i=xs.length:=by omega
  subst e;refine codeAny_builtin PyProof.Rows.F.entry_set_update_loop ?_;rw[Around.under_plainId PyProof.Rows.F.plain_set_update_loop _];show wpAny _ A.in1 (pyNext (.ref D) >>= _) _ _ s;refine wpAny_bind (wpAny_pyNext_list_end aa it F (by simp[ae]) λh' W=>?_);show wpAny _ A.in1 (ret Value.none) _ _ _;refine wpAny_pure (J0 h' s.toks (λb o _ h2 e=>W b o h2 e) ?_);rw[List.take_length] at G;obtain⟨o,es,ep,t,O,rest⟩:=G;exact⟨o,es,ep,t,W S o I O,rest⟩
 |succ k ag=>
  intro i s af hi it F G J0;have ah:i<xs.length:=by omega
  have lt':i<its.length:=by omega
  refine codeAny_builtin PyProof.Rows.F.entry_set_update_loop ?_;rw[Around.under_plainId PyProof.Rows.F.plain_set_update_loop _];show wpAny _ A.in1 (pyNext (.ref D) >>= _) _ _ s;refine wpAny_bind (wpAny_pyNext_list_item it F (x:=its[i]) (by simp[lt']) λh' ai U=>?_);obtain⟨x,t,aj,ev⟩:=ad i its[i] (by simp[lt']);rw[ev];have ak:h'.SetOf (PySem.strKind P w) S (λB=>decide (B∈xs.take i)) (dd (xs.take i)).length:=by
   obtain⟨o,es,ep,tb,O,rest⟩:=G;exact⟨o,es,ep,tb,(U.2 S I).trans O,rest⟩
  have al:h'.IsList l its.toArray:=F.extBut U.extBut ab;show wpAny _ A.in1 (holding [Value.str x t] (setAdd S (.str x t)) >>= _) _ _ { s with heap:=h' };refine wpAny_bind (wpAny_holding ?_);unfold setAdd;refine wpAny_holding ?_;have Y:(PySem.strKind P w).is x (.str x t)=true:=by simp[PySem.strKind,Value.isStrOf]
  refine wpAny_bind ((PySem.strKind P w).pyHash Y ?_);have am:(dd (xs.take i)).length+1<scanBound:=by
   have:=zl2 (xs.take i);rw[List.length_take] at this;omega
  refine wpAny_setAddHashed_of (knd:=PySem.strKind P w) (s:={ s with heap:=h',toks:=s.toks+1 }) Y rfl ak am λh2 V ao=>?_;have ap:xs.take i++[x]=xs.take (i+1):=by rw[List.take_add_one,aj];rfl
  have aq:h2.SetOf (PySem.strKind P w) S (λB=>decide (B∈xs.take (i+1))) (dd (xs.take (i+1))).length:=by
   rw[←ap];exact SetOf_congr ao (λB=>congrFun (zjE (xs.take i) x) B) (zjF (xs.take i) x)
  refine wpAny_pure ⟨plainId_quiet PyProof.Rows.F.plain_set_update_loop _,ag (i+1) _ (by omega) ah (ai.extBut V.extBut (Ne.symm I)) (al.extBut V.extBut (Ne.symm ac)) aq λar tk q as=>?_⟩;exact J0 ar tk (λb o h1 Z e=>q b o h1 Z ((V.2 b h1).trans ((U.2 b Z).trans e))) as
section
variable {prog:Program}{w:World}{A:Around}{E:Value->Shared->Prop}{s:Shared}
theorem zfr{l:Addr}{its:List Value}{xs:List Str}{Q:Value->Shared->Prop}(af:A.handled=none)(ag:s.heap.IsList l its.toArray)(ah:∀(i:Nat) v,its[i]?=some v->∃x t,xs[i]?=some x/\v=.str x t)(ai:its.length=xs.length)(aj:xs.length+1<scanBound)(h:∀(h':Heap) (tk:Nat),h'.SetOf (PySem.strKind prog w) s.heap.objs.size (λD=>decide (D∈xs)) (dd xs).length ->
   (∀b o,s.heap.get? b=some o->h'.get? b=some o)->Q (.ref s.heap.objs.size) { s with heap:=h',toks:=tk }) :
  wpAny (model prog w) A (call (.type "set") [.ref l]) Q E s:=by
 obtain⟨c,tl,ay⟩:=F.called_set.mro;have az:=F.called_set.made;have aA:=F.called_set.sub;refine wpAny_call (codeAny_of_tree ?_);show wpAny _ _ (callAny (.type "set") _) _ _ _;refine wpAny_pure ⟨Code.quiet_builtin _ (by decide +kernel),codeAny_builtin F.entry_type_call ?_⟩;rw[Around.under_plain (weight_type_call_type "set" [.ref l] []) rfl];have h1:=F.called_set.notType;have h2:=F.called_set.canCreate;have aB:=F.typeCall_set_1 (.ref l)
 repeat (any_goals (first|assumption|wp_step))
 refine codeAny_mono (code_set_new_1 (.ref l) (E:=E) (Q₁:=λobj U=>∃B:Bool,obj=.ref s.heap.objs.size/\U={ s with heap:=s.heap.push { cls:=.type "set",dict:=none,data:=.set #[] 0 (.fresh 0 0 B) } }) λB=>⟨B,J,J⟩) λr U G=>?_;cases r with
 |error e=>exact G
 |ok ak=>
  cases ak with
  |ret obj=>
   obtain⟨B,rfl,rfl⟩:=G;generalize I:s.heap.push { cls:=.type "set",dict:=none,data:=.set #[] 0 (.fresh 0 0 B) }=H1;have V:H1.get? s.heap.objs.size=some { cls:=.type "set",dict:=none,data:=.set #[] 0 (.fresh 0 0 B) }:=by rw[←I];exact Heap.get?_push_size _ rfl
   have W:∀b o,s.heap.get? b=some o->H1.get? b=some o:=λb o e=>by rw[←I];exact Heap.get?_push_of_some _ e
   have hsz:H1.objs.size=s.heap.objs.size+1:=by rw[←I];exact Heap.size_push ..
   have al:Shared.TypeIs { s with heap:=H1 } (.ref s.heap.objs.size) "set":=⟨_,V,J⟩;have aC:=F.called_set.init.lookup;have aD:=F.called_set.init.bind (.ref s.heap.objs.size)
   repeat (any_goals (first|assumption|wp_step))
   refine codeAny_mono (codeAny_call_builtin (R:=wants (λr Y=>r=.none/\∃h' tk,Y={ s with heap:=h',toks:=tk } /\
     h'.SetOf (PySem.strKind prog w) s.heap.objs.size (λD=>decide (D∈xs)) (dd xs).length/\(∀b o,s.heap.get? b=some o->h'.get? b=some o)) E) F.called_set.init.plain F.entry_set_init (check_set_init_1 al ?_)) λam Y J0=>?_
   .obtain⟨ao,Z,aa,ap,ab⟩:=ag;obtain⟨aE,aF,aG,aH⟩:=ao;simp only at aa ab;subst aa;subst ab;have aq:=W _ _ Z;have aI:=F.sub_list_set;have aJ:=F.sub_list_frozenset;have aK:(Value.type "list"==Value.type "dict")=false:=by decide
    have ac:H1.IsList l its.toArray:=⟨_,aq,J,ap,J⟩;unfold Builtin.«set.__init__» noKeywords Builtin.Frozenset.updateFrom;generalize ar:pyIter=PI
    wp_walk
    subst ar;refine wpAny_pyIter_list ac ?_;refine wpAny_bind (wpAny_runValue ?_);have ad:l<s.heap.objs.size:=Heap.lt_size Z;have as:A.in1.in1.in1.handled=none:=by simp[af]
    refine zh8 (P:=prog) (w:=w) (l:=l) (its:=its) (xs:=xs) as (by rw[hsz];exact Nat.ne_of_lt (Nat.lt_succ_of_lt ad)) (by rw[hsz];exact Nat.ne_of_lt (Nat.lt_succ_self _)) (Nat.ne_of_gt ad) ah ai aj xs.length 0 _ (by omega) (Nat.zero_le _) ⟨_,Heap.get?_push_size _ J,J,J⟩ (ac.push _) ?hS0 ?hR
    case hS0=>
     exact SetOf_congr ((setObjOf_fresh (knd:=PySem.strKind prog w) B).setOf (Heap.get?_push_of_some _ V) (by unfold scanBound;omega)) (λ_=>by simp) rfl
    case hR=>
     intro h' au av O;show wpAny _ _ _ _ _ _;refine wpAny_pure ?_;show wpAny _ _ (ret Value.none) _ _ _;refine wpAny_pure ⟨J,h',au,J,O,λb o e=>?_⟩;have ae:=Heap.lt_size e;exact av b o (Nat.ne_of_lt ae) (by rw[hsz];exact Nat.ne_of_lt (Nat.lt_succ_of_lt ae)) (Heap.get?_push_of_some _ (W b o e))
   .cases am with
    |error e=>exact J0
    |ok aw=>
     cases aw with
     |ret r=>
      obtain⟨rfl,h',tk,rfl,O,ax⟩:=J0
      repeat (any_goals (first|assumption|wp_step))
      exact h _ _ O ax
     |_=>exact J0.elim
  |_=>exact G.elim
end
theorem zfs:∀ {xs:List Str}{us:List Value},Vals (xs.map V.str) us->us.length=xs.length/\∀(i:Nat) v,us[i]?=some v->∃x t,xs[i]?=some x/\v=.str x t
 |[],_,.nil=>⟨J,λi v e=>by simp at e⟩
 |x::xs,_,.cons r t=>by
  obtain⟨h1,h2⟩:=zfs (xs:=xs) t;obtain⟨tk,rfl⟩:=r;refine⟨by simp[h1],λi v e=>?_⟩;cases i with
  |zero=>simp at e;exact⟨x,tk,by simp,e.symm⟩
  |succ i=>simpa using h2 i v (by simpa using e)
theorem zd8{X:Cx}(D:X.calm=true):CallR X (.type "set") (λvs H Q=>∃p xs,vs=[.ref p]/\SqL X.K H p (xs.map V.str)/\xs.length+1<scanBound/\∀q,H q=none->Q (.ref q) (upd H q (setL X.prog X.w q xs))):=by
 intro pins s σ H vs us Q B r h;obtain⟨p,xs,rfl,F,G,q⟩:=h;obtain⟨u,rfl,I⟩:=vals1 r;cases I;obtain⟨its,J0,pl,W⟩:=B.list F;obtain⟨h1,h2⟩:=zfs J0;refine zfr (B.ok.hd D) pl.isList h2 h1 G λh' tk O U=>?_;exact⟨.ref _,_,B.laid (t':=tk) U (Nat.le_refl _) (zla O),J,q _ B.fresh⟩
noncomputable def SameX(p:Addr)(H H':Hp):Prop:=∀b o,b≠p->H b=some o->H' b=some o
theorem SameX.refl{p:Addr}{H:Hp}:SameX p H H:=λ_ _ _ e=>e
theorem SameX.trans{p:Addr}{H H1 H2:Hp}(a:SameX p H H1)(b:SameX p H1 H2):SameX p H H2:=λc o n e=>b c o n (a c o n e)
theorem SameX.upd{p:Addr}{H H':Hp}{o:HO}(a:SameX p H H'):SameX p H (upd H' p o):=λc u n e=>by rw[zak n];exact a c u n e
theorem Same.x{p:Addr}{H H':Hp}(a:Same H H'):SameX p H H':=λc o _ e=>a c o e
theorem Same.new{H:Hp}{p:Addr}{o:HO}(h:H p=none):Same H (upd H p o):=λb u e=>by rw[zak (zae e h)];exact e
theorem SameX.of_new{H H':Hp}{p:Addr}(h:H p=none)(a:SameX p H H'):Same H H':=λb o e=>a b o (zae e h) e
structure ItOk(J0:It)(n:Nat)(item:Nat->V)(H0:Hp)(p:Addr):Prop where
 go:∀i H,i<n->SameX p H0 H->J0.go i H
 stop:∀H,SameX p H0 H->J0.stop n H
 yld:∀i H x H',i<n->SameX p H0 H->J0.yld i H x H'->H'=H/\x=item i
theorem zcu{K:W.Frag}{a p:Addr}{xs:List V}{H0:Hp}(h:H0 a=some (.tup xs))(B:a≠p):ItOk (Itt K a) xs.length (λi=>xs.getD i .non) H0 p where
 go:=λi H hi k=>⟨xs,xs[i],SqT.of (k a _ B h),by simp[hi]⟩
 stop:=λH k=>⟨xs,SqT.of (k a _ B h),Nat.le_refl _⟩
 yld:=λi H v H' hi k ⟨e,q⟩=>⟨e,by
  have:=q xs (SqT.of (k a _ B h));rw[List.getD_eq_getElem?_getD,this];rfl⟩
theorem zbe{K:W.Frag}{a p:Addr}{xs:List V}{H0:Hp}(h:H0 a=some (.lst xs))(B:a≠p):ItOk (Itl K a) xs.length (λi=>xs.getD i .non) H0 p where
 go:=λi H hi k=>⟨xs,xs[i],SqL.of (k a _ B h),by simp[hi]⟩
 stop:=λH k=>⟨xs,SqL.of (k a _ B h),Nat.le_refl _⟩
 yld:=λi H v H' hi k ⟨e,q⟩=>⟨e,by
  have:=q xs (SqL.of (k a _ B h));rw[List.getD_eq_getElem?_getD,this];rfl⟩
noncomputable def flatN(F:Nat->List V):Nat->List V
 |0=>[]
 |i+1=>flatN F i++F i
theorem zjG{J0:It}{g:TG}{tt:TT}{W:TR}{Qe:St->Hp->Prop}{Y:St}{H0:Hp}{p:Addr}{D:List V}{n:Nat}{item:Nat->V}(F:Nat->List V)(P:St->Prop)(ac:P Y)(ad:H0 p=some (.lst D))(U:ItOk J0 n item H0 p)(ae:∀i σ H (N:St->Hp->Prop),i<n->P σ->SameX p H0 H->H p=some (.lst (D++flatN F i))->(∀B I,P B->SameX p H I->I p=some (.lst (D++flatN F i++F i))->N B I) ->
   g (item i) σ H λB H2=>tt B H2 λb Z=>if b=true then W B Z N else N B Z)(af:∀σ H,P σ->SameX p H0 H->H p=some (.lst (D++flatN F n))->Qe σ H):tLoop J0 g tt W Qe Y H0:=by
 refine⟨λi m σ H=>m=n-i/\i<=n/\P σ/\SameX p H0 H/\H p=some (.lst (D++flatN F i)),⟨n,J,Nat.zero_le _,ac,.refl,by simpa [flatN] using ad⟩,?_⟩;rintro i m σ H ⟨rfl,hi,aa,G,ab⟩;by_cases O:i<n
 .refine .inr ⟨U.go i H O G,λσ' H'=>P σ'/\SameX p H0 H'/\H' p=some (.lst (D++flatN F (i+1))),λσ' H' ⟨a,b,c⟩=>⟨n-(i+1),by omega,J,O,a,b,c⟩,λx H' y=>?_⟩;obtain⟨rfl,rfl⟩:=U.yld i H x H' O G y;refine ae i σ H' _ O aa G ab λB I ag ah ai=>⟨ag,G.trans ah,?_⟩;rw[ai];simp only[flatN,List.append_assoc]
 .have e:i=n:=by omega
  subst e;exact .inl ⟨U.stop H G,af σ H aa G ab⟩
theorem zgx{F:Nat->List V}{k:Nat}(h:∀i,(F i).length<=k):∀n,(flatN F n).length<=n*k
 |0=>by simp[flatN]
 |n+1=>by
  have:=zgx h n;have h2:=h n;simp only[flatN,List.length_append,Nat.succ_mul];omega
theorem zjH{J0:It}{g:TG}{tt:TT}{te:TE}{Qe:St->Hp->Prop}{O:St}{H0:Hp}{p:Addr}{G:List V}{n:Nat}{item:Nat->V}(f:Nat->Option V)(P:St->Prop)(aa:P O)(ab:H0 p=some (.lst G))(hsz:G.length+n<=100000)(ac:ItOk J0 n item H0 p)(ad:∀i σ H (C:Option V->St->Hp->Prop),i<n->P σ->SameX p H0 H->(∀B D,P B->Same H D->C (f i) B D) ->
   g (item i) σ H λB H2=>tt B H2 λb U=>if b=true then te B U λv D=>C (some v) B D else C none B U)(ae:∀σ H,P σ->SameX p H0 H->H p=some (.lst (G++flatN (λi=>(f i).toList) n))->Qe σ H):tLoop J0 g tt (tApp p te) Qe O H0:=by
 refine zjG (λi=>(f i).toList) P aa ab ac (λi σ H N hi af ag ah W=>?_) ae;refine ad i σ H (λo B D=>match o with
  |some v=>∃ys,D p=some (.lst ys)/\ys.length<sizeLine/\N B (upd D p (.lst (ys++[v])))
  |none=>N B D) hi af ag λB D Y I=>?_
 have Z:=I p _ ah;cases e:f i with
 |none=>
  refine W B D Y I.x ?_;rw[e];simpa using Z
 |some v=>
  refine⟨_,Z,?_,W B _ Y (I.x.upd) ?_⟩
  .have h1:=zgx (F:=λi=>(f i).toList) (k:=1) (λi=>by show ((f i).toList).length<=1;cases f i<;>simp) i;have h2:(100000:Nat)<sizeLine:=by rw[sizeLine_eq];decide
   rw[List.length_append];omega
  .rw[zab,e];rfl
theorem zbf{J0:It}{g:TG}{tt:TT}{te:TE}{Qe:St->Hp->Prop}{G:St}{H0:Hp}{p:Addr}{n:Nat}{item:Nat->V}(f:Nat->Option V)(P:St->Prop)(W:P G)(I:H0 p=none)(hsz:n<=100000)(Y:ItOk J0 n item (upd H0 p (.lst [])) p)(Z:∀i σ H (C:Option V->St->Hp->Prop),i<n->P σ->Same H0 H->(∀B D,P B->Same H D->C (f i) B D) ->
   g (item i) σ H λB H2=>tt B H2 λb O=>if b=true then te B O λv D=>C (some v) B D else C none B O)(aa:∀σ H,Same H0 H->H p=some (.lst (flatN (λi=>(f i).toList) n))->Qe σ H):tLoop J0 g tt (tApp p te) Qe G (upd H0 p (.lst [])):=by
 have ab:Same H0 (upd H0 p (.lst [])):=Same.new I;have U:∀ {H},SameX p (upd H0 p (.lst [])) H->Same H0 H:=λ{H} h b o e=>h b o (zae e I) (ab b o e);refine zjH f P W zab (by simpa using hsz) Y (λi σ H C hi ac F ad=>Z i σ H C hi ac (U F) ad) λσ H _ F ae=>aa σ H (U F) (by simpa using ae)
theorem zbS(f:Nat->V):∀n,flatN (λi=>(some (f i)).toList) n=(List.range n).map f
 |0=>rfl
 |n+1=>by
  have:=zbS f n;simp only[Option.toList_some] at this;simp only[flatN,List.range_succ,List.map_append,this,Option.toList_some,List.map_cons,List.map_nil]
end L2
namespace T1
open PySem L2
inductive D where
 |non|bl (b:Bool)|int (i:Int)|str (x:Str)|tup (xs:List D)|lst (xs:List D)
mutual
/-- the value v stands for d;z is an address apart (the law's bag) -/
inductive Rep(z:Addr)(H:Hp):V->D->Prop where
 |non:Rep z H .non .non
 |bl (b:Bool):Rep z H (.bl b) (.bl b)
 |int (i:Int):Rep z H (.int i) (.int i)
 |str (x:Str) (h:x.length<=1000):Rep z H (.str x) (.str x)
 |tup {a:Addr} {xs:List V} {ds:List D} (h:H a=some (.tup xs)) (B:a≠z) (r:Reps z H xs ds):Rep z H (.ref a) (.tup ds)
 |lst {a:Addr} {xs:List V} {ds:List D} (h:H a=some (.lst xs)) (B:a≠z) (r:Reps z H xs ds):Rep z H (.ref a) (.lst ds)
inductive Reps(z:Addr)(H:Hp):List V->List D->Prop where
 |nil:Reps z H [] []
 |cons {v:V} {d:D} {vs:List V} {ds:List D} (h:Rep z H v d) (t:Reps z H vs ds):Reps z H (v::vs) (d::ds)
end
mutual
theorem Rep.mono{z:Addr}{H H':Hp}(k:SameX z H H'):∀ {v:V}{d:D},Rep z H v d->Rep z H' v d
 |_,_,.non=>.non
 |_,_,.bl b=>.bl b
 |_,_,.int i=>.int i
 |_,_,.str x h=>.str x h
 |_,_,.tup h B r=>.tup (k _ _ B h) B (Reps.mono k r)
 |_,_,.lst h B r=>.lst (k _ _ B h) B (Reps.mono k r)
theorem Reps.mono{z:Addr}{H H':Hp}(k:SameX z H H'):∀ {vs:List V}{ds:List D},Reps z H vs ds->Reps z H' vs ds
 |_,_,.nil=>.nil
 |_,_,.cons h t=>.cons (Rep.mono k h) (Reps.mono k t)
end
theorem Reps.length{z:Addr}{H:Hp}:∀ {vs:List V}{ds:List D},Reps z H vs ds->vs.length=ds.length
 |_,_,.nil=>rfl
 |_,_,.cons _ t=>by simp[Reps.length t]
theorem Reps.get{z:Addr}{H:Hp}:∀ {vs:List V}{ds:List D}{i:Nat},Reps z H vs ds->i<ds.length->Rep z H (vs.getD i .non) (ds.getD i .non)
 |_,_,0,.cons h _,_=>h
 |_,_,i+1,.cons _ t,hi=>by
  have:=Reps.get (i:=i) t (by simpa using hi);simpa using this
theorem b_len:bootBuiltins "len"=some (.builtin "len"):=by decide +kernel
theorem zmA:bootBuiltins "any"=some (.builtin "any"):=by decide +kernel
theorem b_isinst:bootBuiltins "isinstance"=some (.builtin "isinstance"):=by decide +kernel
theorem zl4:bootBuiltins "min"=some (.builtin "min"):=by decide +kernel
theorem zmB:bootBuiltins "max"=some (.builtin "max"):=by decide +kernel
theorem b_sorted:bootBuiltins "sorted"=some (.builtin "sorted"):=by decide +kernel
theorem zmC:bootBuiltins "int"=some (.type "int"):=by decide +kernel
theorem zex:bootBuiltins "tuple"=some (.type "tuple"):=by decide +kernel
theorem zgy:bootBuiltins "list"=some (.type "list"):=by decide +kernel
theorem zmD:bootBuiltins "set"=some (.type "set"):=by decide +kernel
noncomputable def zkI(S sc:Scope):Bool:=sc.names.all λx=>(x.2 != .local || sc.names.lookup x.1==some .local)&&x.2 != .cell&&(x.2 != .free || S.names.lookup x.1==some .cell)
theorem zbc{X:Cx}{sc:Scope}(S:Scope)(h:zkI S sc=true)(D:X.env.scope=S:=by rfl)(F:sc.kind=.function:=by rfl):BlkOk X sc:=by
 unfold zkI at h;rw[List.all_eq_true] at h;refine⟨F,λx B G=>?_,λx B I=>?_,λx B J0=>?_⟩
 .have:=h x B;rw[G] at this;simp at this;exact this
 .have:=h x B;rw[I] at this;simp at this
 .have:=h x B;rw[J0] at this;simp at this;show X.env.scope.names.lookup x.1=some .cell;rw[D];exact this
end T1
namespace L2
open PySem PySem.Spec PyProof.Rows
theorem zcS{J0:It}{g:TG}{te:TE}{Qe:St->Hp->Prop}{G:St}{H0:Hp}{p:Addr}{n:Nat}{item:Nat->V}(f:Nat->V)(P:St->Prop)(O:P G)(U:H0 p=none)(hsz:n<=100000)(W:ItOk J0 n item (upd H0 p (.lst [])) p)(Y:∀i σ H (C:V->St->Hp->Prop),i<n->P σ->Same H0 H->(∀B D,P B->Same H D->C (f i) B D)->g (item i) σ H λB H2=>te B H2 λv D=>C v B D)(Z:∀σ H,Same H0 H->H p=some (.lst ((List.range n).map f))->Qe σ H):tLoop J0 g tYes (tApp p te) Qe G (upd H0 p (.lst [])):=
 zbf (λi=>some (f i)) P O U hsz W (λi σ H C hi aa F ab=>Y i σ H (λv B D=>C (some v) B D) hi aa F ab) λσ H F I=>Z σ H F (by rw[zbS] at I;exact I)
theorem zck{B:Type} [Inhabited B] (xs:List B) (d:B) (f:B->V):(List.range xs.length).map (λi=>f (xs.getD i d))=xs.map f:=by
 apply List.ext_getElem?;intro i;rw[List.getElem?_map,List.getElem?_map];by_cases h:i<xs.length
 .simp[h]
 .simp[h]
section
variable {X:Cx}{sc:Scope}{cl:List (Str×Addr)}{N':List Str}{s:Shared}{H:Hp}{fp:List Addr}
theorem zh9{es:List Expr}{k:Nat}{t:TGs}{pos:Pos}(n:Nat)(B:X.calm=true)(h:PGs (X.blk sc cl N' s H fp) es t)(D:(assignEach es (X.blk sc cl N' s H fp).env).length=n:=by rfl)(F:(assignEach es (X.blk sc cl N' s H fp).env).findIdx? (·.1)=none:=by rfl):PG (X.blk sc cl N' s H fp) (.Tuple es k pos) (gTup X.K n t):=zbF B h D F
theorem zbs:IxR (X.blk sc cl N' s H fp) (rIxT X.K):=ix_tup
theorem zey:IxR (X.blk sc cl N' s H fp) (rIxL X.K):=ix_list
end
section
variable {X:Cx}
noncomputable def zl5:R2:=λx y H Q=>∃p q xs,x=.ref p/\y=.ref q/\H p=some (.lst xs)/\H q=some (.lst [])/\Q (.bl (!xs.isEmpty)) H
theorem zbH(D:X.A.units<cLine):OpR X (compareOp .NotEq) zl5:=by
 intro pins s σ H x y v u Q B G I h;obtain⟨p,q,xs,rfl,rfl,J0,O,k⟩:=h;cases G;cases I;obtain⟨its,U,pl,W⟩:=B.list (SqL.of J0);obtain⟨Y,V,F,Z⟩:=B.list (SqL.of O);cases V;show wpAny _ _ (richCompare .NotEq _ _) _ _ _;cases U with
 |nil=>exact SeqAt.RcNeAt.lists (e:=λ_=>true) pl.isList F.isList rfl D (λj h1 _=>absurd h1 (by simp)) _ _ _ _ ⟨.bl _,H,B,J,k⟩
 |cons r t=>exact SeqAt.RcNeAt.lists_lengths pl.isList F.isList (by simp) D _ _ _ _ ⟨.bl _,H,B,J,k⟩
theorem PI.or{tg l:Expr}{wi B:TI}(h:PI X tg l wi)(h':PI X tg l B):PI X tg l (λσ H R=>wi σ H R∨B σ H R):=by
 intro pins s σ H R D q;rcases q with q|q
 .exact h pins s σ H R D q
 .exact h' pins s σ H R D q
end
section
variable {X:Cx}{pins:List (Addr×Obj)}{σ:St}{H:Hp}{s:Shared}{h':Heap}{m:Str->Option Value}
theorem zgz(L:Addr):News (Att.noObjs s.heap) L s.heap (Att.ledger s.heap L L):=by
 rintro⟨a,o⟩ B;obtain⟨D,_,e⟩:=Att.mem_ledger.mp B;exact⟨e,D,Att.noObjs_get _ _⟩
theorem zdp{L:Addr}(N:News (Att.noObjs s.heap) L h' (Att.ledger s.heap L L)):∀b o,b≠L->s.heap.get? b=some o->h'.get? b=some o:=λb o B e=>(N (b,o) (Att.mem_ledger.mpr ⟨B,B,e⟩)).1
theorem Inv.lib{tk:Nat}(D:Inv X pins σ H s)(I:s.heap.Ns X.env.locals m)(F:Fr (Att.noObjs s.heap) X.env.locals h' m)(N:News (Att.noObjs s.heap) X.env.locals h' (Att.ledger s.heap X.env.locals X.env.locals)):Inv X pins σ H { s with heap:=h',toks:=tk }:=by
 have k:=zdp N;have G:∀b u,H b=some u->b≠X.env.locals:=λb u e z=>by rw[z,D.free] at e;cases e
 refine D.step (g':=s.gens) (d':=s.drawn) (ch:=[]) (λ_ z=>nomatch z) (λb o B _ _ e _=>k b o B e) (λb o B _ _ e _=>⟨o.slots,k b o B e⟩) (λ_ _ _ _ n=>n) (λb o _ e=>?_) (λ_ _ e=>e) (λ_ _ _ e=>e) (λb ps e=>⟨#[],by rw[e];simp⟩) (λJ0 O=>?_) (λb u e=>?_) D.bare
 .by_cases B:b=X.env.locals
  .obtain⟨o',_,_,U,_⟩:=F.ns;exact⟨o',by rw[B];exact U⟩
  .exact⟨o,k b o B e⟩
 .have:J0=m:=funext λx=>O.agree I x;rw[this];exact F.ns
 .refine(D.hok b u e).stay (λc v V q=>k c v ?_ q) (λ_ q=>q) λ_ _ q=>q;rcases V with z|z
  .rw[z];exact G b u e
  .exact G c _ z
theorem Inv.libNew{tk:Nat}{D:Addr}{ob:Obj}{o:HO}(B:Inv X pins σ H s)(V:s.heap.Ns X.env.locals m)(F:Fr (Att.noObjs s.heap) X.env.locals h' m)(N:News (Att.noObjs s.heap) X.env.locals h' ((D,ob)::Att.ledger s.heap X.env.locals X.env.locals))(W:∀q∈Att.ledger s.heap X.env.locals X.env.locals,q.1<D)(Y:ObjOk X.prog X.w (upd H D o) h' D o):H D=none/\Inv X pins σ (upd H D o) { s with heap:=h',toks:=tk }:=by
 have N':News (Att.noObjs s.heap) X.env.locals h' (Att.ledger s.heap X.env.locals X.env.locals):=λp Z=>N p (List.mem_cons_of_mem _ Z);have k:=zdp N';have I:D≠X.env.locals:=(N (D,ob) List.mem_cons_self).2.1;have J0:∀o',s.heap.get? D≠some o':=λo' e=>absurd (W (D,o') (Att.mem_ledger.mpr ⟨I,I,e⟩)) (Nat.lt_irrefl _);have O:∀b u,H b=some u->b≠X.env.locals:=λb u e z=>by rw[z,B.free] at e;cases e
 have aa:∀b u,H b=some u->∃o',s.heap.get? b=some o':=λb u e=>by
  have af:=(B.hok b u e).lt;cases u with
  |lst xs=>obtain⟨_,_,_,_,q⟩:=B.hok b _ e;exact⟨_,q⟩
  |tup xs=>obtain⟨_,_,_,ob,q,_⟩:=B.hok b _ e;exact⟨ob,q⟩
  |dK kvs=>obtain⟨_,_,_,_,ob,_,_,q,_⟩:=B.hok b _ e;exact⟨ob,q⟩
  |dT kvs=>obtain⟨_,_,_,_,ob,_,_,q,_⟩:=B.hok b _ e;exact⟨ob,q⟩
  |set S n=>obtain⟨ob,_,_,_,q,_⟩:=B.hok b _ e;exact⟨ob,q⟩
  |ins C dx fs=>obtain⟨_,_,_,q,_⟩:=B.hok b _ e;exact⟨_,q⟩
  |own y=>obtain⟨ob,q⟩:=B.hok b _ e;exact⟨ob,q⟩
  |xd fs=>obtain⟨_,⟨ob,_,_,q,_⟩,_⟩:=B.hok b _ e;exact⟨ob,q⟩
  |rng lo hi=>obtain⟨_,_,_,q⟩:=B.hok b _ e;exact⟨_,q⟩
  |frz ob u=>obtain⟨q,_⟩:=B.hok b _ e;exact⟨_,q⟩
  |tbl ps=>exact⟨_,show s.heap.get? b=some _ from B.hok b _ e⟩
  |met f y=>exact⟨_,show s.heap.get? b=some _ from B.hok b _ e⟩
  |ext ag=>obtain⟨_,q,_⟩:=B.hok b _ e;exact q
 have U:H D=none:=by
  cases e:H D with
  |none=>rfl
  |some u=>
   obtain⟨o',q⟩:=aa D u e;exact absurd q (J0 o')
 have ne:∀b u,H b=some u->b≠D:=λb u e=>zae e U;refine⟨U,B.step (g':=s.gens) (d':=s.drawn) (ch:=[]) (λ_ z=>nomatch z) (λb o G _ _ e _=>k b o G e) (λb o G _ _ e _=>⟨o.slots,k b o G e⟩) (λb o' _ e n=>?_) (λb o _ e=>?_) (λb xs e=>by rw[zak (ne b _ e)];exact e) (λb _ _ e=>by rw[zak (ne b _ e)];exact e) (λb ps e=>⟨#[],by rw[zak (ne b _ e),e];simp⟩) (λab ac=>?_) (λb u e=>?_) B.bare⟩
 .rw[zak (λz=>J0 o' (by rw[←z];exact e))];exact n
 .by_cases G:b=X.env.locals
  .obtain⟨o',_,_,ad,_⟩:=F.ns;exact⟨o',by rw[G];exact ad⟩
  .exact⟨o,k b o G e⟩
 .have:ab=m:=funext λx=>ac.agree V x;rw[this];exact F.ns
 .by_cases G:b=D
  .subst G;rw[zab] at e;cases e;exact Y
  .rw[zak G] at e;refine(B.hok b u e).stay (λc v ae q=>k c v ?_ q) (λc q=>by rw[zak (ne c _ q)];exact q) λc _ q=>by rw[zak (ne c _ q)];exact q
   rcases ae with z|z
   .rw[z];exact O b u e
   .exact O c _ z
end
noncomputable def strOf:Value->Str
 |.str x _=>x
 |_=>⟨#[]⟩
theorem zcv:∀ {xs:List Str}{us:List Value},Vals (xs.map V.str) us->us.map strOf=xs/\∀u∈us,∃t,u=.str (strOf u) t
 |[],_,.nil=>⟨J,λu hu=>nomatch hu⟩
 |x::r,_,.cons h t=>by
  obtain⟨B,rfl⟩:=h;obtain⟨e,q⟩:=zcv t;refine⟨by rw[List.map_cons,e];rfl,λu hu=>?_⟩;rcases List.mem_cons.mp hu with rfl|hu
  .exact⟨B,J⟩
  .exact q u hu
theorem zdk:∀ {us:List Value},(∀u∈us,∃t,u=.str (strOf u) t)->Vals ((us.map strOf).map V.str) us
 |[],_=>.nil
 |u::r,h=>.cons (h u List.mem_cons_self) (zdk λv B=>h v (List.mem_cons_of_mem _ B))
theorem zgA:∀its:List Value,(its.map λu=>((strOf u).length:Int)).zip its=its.map λu=>(((strOf u).length:Int),u)
 |[]=>rfl
 |a::r=>by rw[List.map_cons,List.zip_cons_cons,List.map_cons,zgA r]
noncomputable def zgB(K:W.Frag)(b:Bool):List V->Hp->VK->Prop:=λvs H Q=>∃(l:Addr) (xs:List Str),vs=[.ref l]/\SqL K H l (xs.map V.str)/\xs.length<64/\(∀y∈xs,y.length<=sizeLine) /\
 ∀(p:Addr) (ys:List Str),H p=none->ys.Perm xs->ys.Pairwise (λa c=>if b then c.length<=a.length else a.length<=c.length)->Q (.ref p) (upd H p (.lst (ys.map V.str)))
theorem zd9{X:Cx}{pins:List (Addr×Obj)}{σ:St}{H:Hp}{s:Shared}{Q:VK}{vs:List V}{us:List Value}{I:List (Str×Value)}{b:Bool}(J0:Inv X pins σ H s)(r:Vals vs us)(h:zgB X.K b vs H Q)(af:∀l,argsOk "sorted" ⟨[.ref l],I⟩)(ag:∀x,argsOk "list.sort" ⟨[.ref x],I⟩)(ah:∀x,Builtin.«list.sort» ⟨[.ref x],I⟩=ksk_tree x (.builtin "len") b):wpAny (model X.prog X.w) X.A (call (.builtin "sorted") us I) (EP X pins σ Q) X.xe s:=by
 obtain⟨l,xs,rfl,ai,aE,aj,q⟩:=h;obtain⟨u,rfl,ak⟩:=vals1 r;cases ak;obtain⟨its,al,pl,_⟩:=J0.list ai;obtain⟨m,aa,_⟩:=id J0.loc;obtain⟨O,ab⟩:=zcv al;have aF:its.length=xs.length:=by rw[←O,List.length_map]
 have aG:=zcO;refine ksk_sorted (b:=b) (kz:=its.map λu=>((strOf u).length:Int)) (f:=.builtin "len") (Att.fr_all aa) (zgz X.env.locals) pl.isList (by simp) (by omega) (af l) ag ah (λi v k ac ad h tk aH F N=>?_) (λD h' tk U c F N am ao=>?_)
 .have B:=List.mem_of_getElem? ac;obtain⟨t,ap⟩:=ab v B;have aq:k=((strOf v).length:Int):=by
   rw[List.getElem?_map,ac] at ad;exact(Option.some.inj ad).symm
  have aI:(strOf v).length<=sizeLine:=aj _ (by rw[←O];exact List.mem_map_of_mem B);rw[ap,aq];refine len_str (by omega) ?_;exact KskEnd.intro F N λp G=>G
 .obtain⟨ps,G,ar,as⟩:=ao;have au:(its.map λu=>((strOf u).length:Int)).zip its=its.map λu=>(((strOf u).length:Int),u):=by
   exact zgA its
  rw[au] at G;have B:∀p∈ps,p.1=((strOf p.2).length:Int)/\p.2∈its:=λp W=>by
   obtain⟨u,Y,rfl⟩:=List.mem_map.mp (G.mem_iff.mp W);exact⟨J,Y⟩
  have ae:(ps.map λp=>strOf p.2).Perm xs:=by
   have:=G.map λp=>strOf p.2;rw[List.map_map] at this;have av:its.map ((λp:Int×Value=>strOf p.2)∘λu=>(((strOf u).length:Int),u))=xs:=by rw[←O];rfl
   rw[av] at this;exact this
  have aw:(ps.map λp=>strOf p.2).Pairwise (λa c=>if b then c.length<=a.length else a.length<=c.length):=by
   rw[List.pairwise_map];refine as.imp_of_mem λ{p q} h1 h2 Z=>?_;have ax:=(B p h1).1;have ay:=(B q h2).1;rw[ax,ay] at Z;cases b
   .simp at Z ⊢;omega
   .simp at Z ⊢;omega
  have az:Vals ((ps.map λp=>strOf p.2).map V.str) U.toList:=by
   rw[ar];have:=zdk (us:=ps.map Prod.snd) λu Y=>by
    obtain⟨p,W,rfl⟩:=List.mem_map.mp Y;exact ab _ (B p W).2
   have aA:(ps.map Prod.snd).map strOf=ps.map λp=>strOf p.2:=by rw[List.map_map];rfl
   rw[aA] at this;exact this
  have aB:(ps.map λp=>strOf p.2).length=xs.length:=ae.length_eq;have aJ:(64:Nat)<=sizeLine:=by rw[sizeLine_eq];decide
  obtain⟨aC,aD⟩:=J0.libNew (tk:=tk) (o:=.lst ((ps.map λp=>strOf p.2).map V.str)) aa F N am ⟨by rw[List.length_map,aB];omega,U.toList,c,az,(N (D,seqObj "list" U c) List.mem_cons_self).1⟩;exact⟨.ref D,_,aD,J,q D _ aC ae aw⟩
theorem zez{X:Cx}{e:Expr}{te:TE}{p p2 F pos:Pos}(G:X.mg "sorted"=none)(I:X.mg "len"=none)(J0:PE X e te)(O:Gl X "sorted":=by rfl)(U:Gl X "len":=by rfl)(h1:starEach [e] X.env=(false,eval e X.env)::starEach [] X.env:=by rfl)(h2:backTo pos (starEach [e] X.env)=(false,eval e X.env)::backTo pos (starEach [] X.env):=by rfl)(V:(backTo pos (starEach [e] X.env)).any (·.1)=false:=by rfl) :
  PE X (.Call (.Name "sorted" p) [e] [⟨some "key",.Name "len" p2,F⟩] pos) (tCB (zgB X.K false) (tCons te tNil)):=by
 intro pins s σ H Q B h;refine wpAny_Call_Name_kw (zcE B O G T1.b_sorted ?_ (by decide) (by decide));refine callWith_kw (thn ((zaa J0 zad h1) pos pins s σ H _ B h) λus Y W=>?_) h2 V;obtain⟨vs,H1,D,r,q⟩:=W;refine kws_cons (zcE D U I T1.b_len (kws_nil ?_) (by decide) (by decide));exact zd9 D r q (λl=>ksk_s1 _ _) (λx=>ksk_l1 _ _) (λx=>ksk_t4 "len" x)
noncomputable def cutS(z:Str)(lo hi:Option Int):Str:=⟨((z.cps.toList.drop (HT.sIx z.length 0 lo)).take (HT.sIx z.length z.length hi-HT.sIx z.length 0 lo)).toArray⟩
theorem zkJ(v:Int)(n d:Nat):max (0:Int) (min (if v<0 then v+(n:Int) else v) (n:Int))=((HT.sIx n d (some v):Nat):Int):=by
 show _=(((if v<0 then (v+(n:Int)).toNat else min v.toNat n):Nat):Int);by_cases B:v<0
 .rw[if_pos B,if_pos B];omega
 .rw[if_neg B,if_neg B];omega
theorem zfZ(lo hi:Option Int)(n:Nat):Builtin.Str.strSliceIndices lo hi 1 n=(List.range (HT.sIx n n hi-HT.sIx n 0 lo)).map λk=>HT.sIx n 0 lo+k:=by
 have B:∀a b:Nat,sliceRange (a:Int) (b:Int) 1=(List.range (b-a)).map λk=>a+k:=λa b=>by
  unfold sliceRange;have e:((if (1:Int)>0 then (if (a:Int)<b then ((b:Int)-a+1-1) / 1 else 0) else (if (a:Int)>b then ((a:Int)-b-1-1) / (-1) else 0)):Int).toNat=b-a:=by
   rw[if_pos (by decide)];by_cases h:(a:Int)<b
   .rw[if_pos h,Int.ediv_one];omega
   .rw[if_neg h];omega
  simp only[e];refine List.map_congr_left λk _=>?_;omega
 have D:(match lo with|none=>(if (1:Int)>0 then (0:Int) else (n:Int)-1)|some i=>if (1:Int)>0 then max 0 (min (if i<0 then i+(n:Int) else i) (n:Int)) else max (-1) (min (if i<0 then i+(n:Int) else i) ((n:Int)-1)))=((HT.sIx n 0 lo:Nat):Int):=by
  cases lo with
  |none=>rfl
  |some v=>
   show (if (1:Int)>0 then _ else _)=_;rw[if_pos (by decide)];exact zkJ v n 0
 have F:(match hi with|none=>(if (1:Int)>0 then (n:Int) else -1)|some i=>if (1:Int)>0 then max 0 (min (if i<0 then i+(n:Int) else i) (n:Int)) else max (-1) (min (if i<0 then i+(n:Int) else i) ((n:Int)-1)))=((HT.sIx n n hi:Nat):Int):=by
  cases hi with
  |none=>rfl
  |some v=>
   show (if (1:Int)>0 then _ else _)=_;rw[if_pos (by decide)];exact zkJ v n n
 unfold Builtin.Str.strSliceIndices;refine Eq.trans ?_ (B _ _);rw[←D,←F];cases lo<;>cases hi<;>rfl
theorem zia(z:Str)(lo hi:Option Int):Txt.slice z lo hi=cutS z lo hi:=by
 have e:=zfZ lo hi z.length;have h2:=HT.sIx_le z.length z.length (Nat.le_refl _) hi;have J0:z.cps.toList.length=z.length:=by simp;rfl
 have F:(Builtin.Str.strSliceIndices lo hi 1 z.length).filterMap (z.cps[·]?)=(z.cps.toList.drop (HT.sIx z.length 0 lo)).take (HT.sIx z.length z.length hi-HT.sIx z.length 0 lo):=by
  rw[e];by_cases h:HT.sIx z.length 0 lo<=HT.sIx z.length z.length hi
  .have G:=StrLaws.picks z.cps.toList (HT.sIx z.length z.length hi-HT.sIx z.length 0 lo) (HT.sIx z.length 0 lo) (by omega);simpa using G
  .have:HT.sIx z.length z.length hi-HT.sIx z.length 0 lo=0:=by omega
   rw[this];simp
 unfold Txt.slice;split
 .rename_i hw;have D:(Builtin.Str.strSliceIndices lo hi 1 z.length).length=z.length:=by simpa using hw
  rw[e,List.length_map,List.length_range] at D;unfold cutS;rw[D];obtain⟨B⟩:=z;by_cases I:B.size=0
  .have:B=#[]:=Array.eq_empty_of_size_eq_zero I;subst this;simp[Str.length]
  .have a0:HT.sIx (Str.mk B).length 0 lo=0:=by
    have:(Str.mk B).length=B.size:=rfl;omega
   rw[a0];have:(Str.mk B).length=B.toList.length:=by simp;rfl
   rw[this,List.drop_zero];show Str.mk B=⟨(B.toList.take B.toList.length).toArray⟩;rw[List.take_length]
 .unfold cutS;rw[F]
noncomputable def rSlS:V->Option Int->Option Int->Hp->VK->Prop:=λx lo hi H Q=>∃z,x=.str z/\z.length<=sizeLine/\Q (.str (cutS z lo hi)) H
theorem zbT{X:Cx}:SlR X rSlS:=by
 intro pins s σ H x v I J0 lo hi O Q U V W pl D h;obtain⟨z,rfl,Y,q⟩:=h;obtain⟨t,rfl⟩:=V;rw[←zia] at q;refine⟨"str",_,F.slot_str_getitem.lookup,typeIs_str _ _ _,?_⟩;have B:∀(l u:Option (Int×Tok)),l.map (·.1)=lo->u.map (·.1)=hi->I=partValue l->J0=partValue u->wpAny (model X.prog X.w) X.A (getItem (.str z t) (.ref O)) (EP X pins σ Q) X.xe s:=λl u Z aa ab ac=>by
  subst Z aa ab ac;obtain⟨o,ad,ae,af⟩:=W;refine wpAny_getItem_str_slice (l:=l) (u:=u) (st:=none) ⟨o,ad,ae,af⟩ rfl ?_;exact post_val_or_str ⟨Nat.le_trans (Txt.slice_le z _ _) Y,λt' k=>⟨.str _,H,U.tok _,⟨_,J⟩,q⟩⟩
 cases pl with
 |none=>
  cases D with
  |none=>exact B none none rfl rfl rfl rfl
  |int j u=>exact B none (some (j,u)) rfl rfl rfl rfl
 |int i G=>
  cases D with
  |none=>exact B (some (i,G)) none rfl rfl rfl rfl
  |int j u=>exact B (some (i,G)) (some (j,u)) rfl rfl rfl rfl
noncomputable def tRev(K:W.Frag)(te ts:TE):TE:=λσ H Q=>te σ H λx H1=>ts σ H1 λk H2=>∃a xs,x=.ref a/\k=.int (-1)/\SqL K H2 a xs/\∀p,H2 p=none->Q (.ref p) (upd H2 p (.lst xs.reverse))
theorem zkK{X:Cx}{e st:Expr}{te ts:TE}{p2 pos:Pos}(J0:PE X e te)(O:PE X st ts)(U:∀σ H (Q G:VK),ts σ H Q->(∀v H',Q v H'->G v H')->ts σ H G):PE X (.Subscript e (.Slice none none (some st) p2) pos) (tRev X.K te ts):=by
 intro pins s σ H Q Y h;refine Subscript_ (thn (J0 pins s σ H _ Y h) λv Z aa=>?_);obtain⟨x,H1,ab,ac,q1⟩:=aa;refine wpAny_Slice ?_;rw[evalPart_none];refine wpAny_pure ?_;refine wpAny_pure ?_;have ad:PO X (some st) (tPart ts):=zaJ O;have ae:tPart ts σ H1 (λo H2=>∃i,o=some i/\∃a xs,x=.ref a/\V.int i=.int (-1)/\SqL X.K H2 a xs/\∀p,H2 p=none->Q (.ref p) (upd H2 p (.lst xs.reverse))):=U σ H1 _ _ q1 λk H2 ⟨a,xs,af,ag,ah,ai⟩=>⟨-1,ag,-1,J,a,xs,af,J,ah,ai⟩;refine thn (ad pins Z σ H1 (λo H2=>∃i,o=some i/\∃a xs,x=.ref a/\V.int i=.int (-1)/\SqL X.K H2 a xs/\∀p,H2 p=none->Q (.ref p) (upd H2 p (.lst xs.reverse))) ab ?_) λD B ⟨k,H2,aj,ak,al⟩=>?_
 .exact ae
 .obtain⟨i,rfl,a,xs,rfl,am,ao,q⟩:=al;cases am;cases ac;have F:Inv X pins σ H2 { B with heap:=B.heap.push { cls:=.type "slice",data:=.fields #[.none,.none,D] } }:=aj.kept (t':=B.toks) λb ob q=>Heap.get?_push_of_some _ q;obtain⟨its,r,I,ap⟩:=F.list ao;show wpAny (model X.prog X.w) X.A (subscriptTail e (.Slice none none (some st) p2) (.ref a) (.ref B.heap.objs.size)) (EP X pins σ Q) X.xe { B with heap:=B.heap.push { cls:=.type "slice",data:=.fields #[.none,.none,D] } };refine tail_any (ops:=[.ref a,.ref B.heap.objs.size]) I.isList.typeIs slot_list_getitem.lookup ?_ (by with_unfolding_all rfl);refine wpAny_getItem_list_slice I.isList (Heap.IsSliceOf.new ..) .none .none ak (by decide) ?_ (by rw[List.size_toArray];have:=r.length;omega);rw[W.krv_pick];refine⟨.ref _,_,F.laid (t':=B.toks) (o:=.lst xs.reverse) (λb ob q=>Heap.get?_push_of_some _ q) (Nat.le_refl _) ?_,J,q _ (F.hok.fresh (Nat.le_refl _))⟩;exact⟨by rw[List.length_reverse];exact ap,_,0,r.reverse,by
   have:=Heap.get?_push_size { B.heap.push { cls:=.type "slice",data:=.fields #[.none,.none,D] } with } (o:={ cls:=.type "list",data:=.seq its.toArray.toList.reverse.toArray }) rfl;exact this⟩
end L2
namespace T1
open PySem L2 PyProof.Rows
mutual
inductive Dep:Nat->D->Prop where
 |non (k:Nat):Dep k .non
 |bl (k:Nat) (b:Bool):Dep k (.bl b)
 |int (k:Nat) (i:Int):Dep k (.int i)
 |str (k:Nat) (x:Str):Dep k (.str x)
 |tup {k:Nat} {ds:List D} (t:Deps k ds):Dep (k+1) (.tup ds)
 |lst {k:Nat} {ds:List D} (t:Deps k ds):Dep (k+1) (.lst ds)
inductive Deps:Nat->List D->Prop where
 |nil (k:Nat):Deps k []
 |cons {k:Nat} {d:D} {ds:List D} (h:Dep k d) (t:Deps k ds):Deps k (d::ds)
end
theorem Deps.get{k:Nat}:∀ {ds:List D}{i:Nat},Deps k ds->i<ds.length->Dep k (ds.getD i .non)
 |_,0,.cons h _,_=>h
 |_,i+1,.cons _ t,hi=>by
  have:=Deps.get (i:=i) t (by simpa using hi);simpa using this
theorem zbn{xs:List V}{us:List Value}(r:Vals xs us){j:Nat}(h:j<us.toArray.size):RelV (xs.getD j .non) us.toArray[j]:=by
 have D:=r.length;have h':j<xs.length:=by rw[D];simpa using h
 obtain⟨u,B,F⟩:=r.get (i:=j) (x:=xs.getD j .non) (by simp[h']);have:us.toArray[j]=u:=by
  have h2:j<us.length:=by simpa using h
  have e:us[j]?=some us[j]:=List.getElem?_eq_getElem h2;rw[e] at B;simpa using Option.some.inj B
 rw[this];exact F
section
variable {X:Cx}{pins:List (Addr×Obj)}{σ:L2.St}{H:Hp}{s:Shared}{z z':Addr}
theorem zib(ad:Inv X pins σ H s):∀(k:Nat){d:D},Dep k d->∀ {A:Around}{x y:V}{u v:Value},Room k A->Rep z H x d->Rep z' H y d->RelV x u->RelV y v->SeqAt.EqAt A s u v true:=by
 intro k;induction k with
 |zero=>
  intro d ae A x y u v J0 B F G I;cases ae with
  |non=>cases B;cases F;cases G;cases I;exact SeqAt.EqAt.same _
  |bl _ b=>cases B;cases F;cases G;cases I;exact SeqAt.EqAt.same _
  |int _ i=>cases B;cases F;obtain⟨t,rfl⟩:=G;obtain⟨t',rfl⟩:=I;have:=SeqAt.EqAt.int_int (A:=A) (s:=s) i t i t';simpa using this
  |str _ x=>cases B;cases F;obtain⟨t,rfl⟩:=G;obtain⟨t',rfl⟩:=I;have:=SeqAt.EqAt.str_str (A:=A) (s:=s) x t x t';simpa using this
 |succ k ak=>
  intro d ae A x y u v J0 B F G I;cases ae with
  |non=>cases B;cases F;cases G;cases I;exact SeqAt.EqAt.same _
  |bl _ b=>cases B;cases F;cases G;cases I;exact SeqAt.EqAt.same _
  |int _ i=>cases B;cases F;obtain⟨t,rfl⟩:=G;obtain⟨t',rfl⟩:=I;have:=SeqAt.EqAt.int_int (A:=A) (s:=s) i t i t';simpa using this
  |str _ x=>cases B;cases F;obtain⟨t,rfl⟩:=G;obtain⟨t',rfl⟩:=I;have:=SeqAt.EqAt.str_str (A:=A) (s:=s) x t x t';simpa using this
  |@tup _ ds t=>
   cases B with
   |@tup a xs _ af _ O=>
    cases F with
    |@tup b ys _ ag _ U=>
     cases G;cases I;by_cases W:a=b
     .subst W;exact SeqAt.EqAt.same _
     .obtain⟨its,q1,ah,_⟩:=ad.tuple (SqT.of af);obtain⟨Y,Z,p2,_⟩:=ad.tuple (SqT.of ag);have aa:=q1.length;have ai:=Z.length;have ab:=O.length;have aj:=U.length;have ac:=SeqAt.RcAt.tuples (e:=λ_=>true) ah p2 J0.units0 λj h1 h2=>ak (t.get (i:=j) (by rw[←ab,aa];simpa using h1)) J0.in1 (O.get (i:=j) (by rw[←ab,aa];simpa using h1)) (U.get (i:=j) (by rw[←aj,ai];simpa using h2)) (zbn q1 h1) (zbn Z h2);have e:((List.range (min its.toArray.size Y.toArray.size)).all (λ_=>true)&&its.toArray.size==Y.toArray.size)=true:=by
       have:its.toArray.size=Y.toArray.size:=by simp;omega
       rw[this];simp
      rw[e] at ac;exact SeqAt.EqAt.of_refs W ac
  |@lst _ ds t=>
   cases B with
   |@lst a xs _ af _ O=>
    cases F with
    |@lst b ys _ ag _ U=>
     cases G;cases I;by_cases W:a=b
     .subst W;exact SeqAt.EqAt.same _
     .obtain⟨its,q1,ah,_⟩:=ad.list (SqL.of af);obtain⟨Y,Z,p2,_⟩:=ad.list (SqL.of ag);have aa:=q1.length;have ai:=Z.length;have ab:=O.length;have aj:=U.length;have hsz:its.toArray.size=Y.toArray.size:=by simp;omega
      have ac:=SeqAt.RcAt.lists (e:=λ_=>true) ah.isList p2.isList hsz J0.units0 λj h1 h2=>ak (t.get (i:=j) (by rw[←ab,aa];simpa using h1)) J0.in1 (O.get (i:=j) (by rw[←ab,aa];simpa using h1)) (U.get (i:=j) (by rw[←aj,ai];simpa using h2)) (zbn q1 h1) (zbn Z h2);have e:(List.range its.toArray.size).all (λ_=>true)=true:=by simp
      rw[e] at ac;exact SeqAt.EqAt.of_refs W ac
noncomputable def rSame(b:Bool):R2:=λx y H Q=>∃z z' ds,Rep z H x (.lst ds)/\Rep z' H y (.lst ds)/\Deps 4 ds/\Q (.bl b) H
theorem zc6(G:Room 5 X.A):OpR X (compareOp .NotEq) (rSame false):=by
 intro pins s σ H x y v u Q B U V h;obtain⟨z,z',ds,D,F,W,q⟩:=h;cases D with
 |@lst a xs _ Y _ D=>
  cases F with
  |@lst b ys _ Z _ F=>
   cases U;cases V;obtain⟨its,q1,aa,_⟩:=B.list (SqL.of Y);obtain⟨ab,I,p2,_⟩:=B.list (SqL.of Z);have J0:=q1.length;have ac:=I.length;have O:=D.length;have ad:=F.length;have hsz:its.toArray.size=ab.toArray.size:=by simp;omega
   show wpAny _ _ (richCompare .NotEq _ _) _ _ _;refine SeqAt.RcNeAt.lists (e:=λ_=>true) aa.isList p2.isList hsz G.units0 (λj h1 h2=>zib B 4 (W.get (i:=j) (by rw[←O,J0];simpa using h1)) G.in1 (D.get (i:=j) (by rw[←O,J0];simpa using h1)) (F.get (i:=j) (by rw[←ad,ac];simpa using h2)) (zbn q1 h1) (zbn I h2)) _ _ _ _ ?_;have e:(!(List.range its.toArray.size).all (λ_=>true))=false:=by simp
   rw[e];exact⟨.bl _,H,B,J,q⟩
end
end T1
namespace L2
open PySem PySem.Spec PyProof.Rows
noncomputable def tokOf:Value->Tok
 |.str _ t=>t
 |_=>0
theorem zcl:∀ {us:List Value},(∀u∈us,∃t,u=.str (strOf u) t)->us=strValues (us.map λu=>(strOf u,tokOf u))
 |[],_=>rfl
 |u::r,h=>by
  obtain⟨t,e⟩:=h u List.mem_cons_self;have B:=zcl λv D=>h v (List.mem_cons_of_mem _ D);rw[List.map_cons];show u::r=.str (strOf u) (tokOf u)::strValues (r.map λu=>(strOf u,tokOf u));rw[←B];congr 1;rw[e];rfl
noncomputable def zgC(xs:List Str):Str:=xs.headD ⟨#[]⟩
theorem zdq{X:Cx}:MtR X "str.join" (λx vs H Q=>∃G l xs,x=.str G/\vs=[.ref l]/\SqL X.K H l (xs.map V.str)/\xs.length<=1/\G.length<=100/\(∀y∈xs,y.length<=1000)/\Q (.str (zgC xs)) H):=by
 intro pins s σ H x vs v us Q I J0 O h;obtain⟨G,l,xs,rfl,rfl,U,h1,W,Y,q⟩:=h;obtain⟨t,rfl⟩:=J0;obtain⟨u,rfl,Z⟩:=O.one;cases Z;obtain⟨its,r,pl,_⟩:=I.list U;obtain⟨aa,ab⟩:=zcv r;have ac:=zcl ab;have D:(its.map λu=>(strOf u,tokOf u)).map (·.1)=xs:=by rw[List.map_map,←aa];rfl
 have ad:s.heap.IsList l (strValues (its.map λu=>(strOf u,tokOf u))).toArray:=by rw[←ac];exact pl.isList
 refine call_meets F.slot_str_join (typeIs_str s G t) F.entry_str_join (F.args_str_join_2 _ _) (meets_str_join_list G t l (its.map λu=>(strOf u,tokOf u)) ?_) ⟨ad,?_⟩
 .rw[D];exact StrLaws.joinFits (B:=1000) Y (by have:xs.length*G.length<=1*100:=Nat.mul_le_mul h1 W;omega)
 .generalize its.map (λu=>(strOf u,tokOf u))=ps at D
  match ps,D with
  |[],D=>
   have:xs=[]:=by rw[←D];rfl
   subst this;show (Made.str _).post _ s;exact⟨by show (0:Nat)<=_;exact Nat.zero_le _,⟨.str _,H,I.tok _,⟨_,J⟩,q⟩⟩
  |[p],D=>
   have:xs=[p.1]:=by rw[←D];rfl
   subst this;exact⟨.str _,H,I,⟨_,J⟩,q⟩
  |p::p2::ae,D=>
   exfalso;rw[←D] at h1;simp at h1
theorem zah{t u:TS}{D:Ends}{σ:St}{H:Hp}(h:∀B:St->Hp->Prop,(∀σ H,u D σ H->B σ H)->t { D with nx:=B } σ H):tSeq t u D σ H:=h (u D) λ_ _ q=>q
theorem zba{t:TS}{D:Ends}{σ:St}{H:Hp}(h:∀B:Ends,(∀σ H,D.nx σ H->B.nx σ H)->(∀v H,D.rt v H->B.rt v H)->(∀σ H,D.bk σ H->B.bk σ H)->(∀σ H,D.ct σ H->B.ct σ H)->t B σ H):t D σ H:=h D (λ_ _ q=>q) (λ_ _ q=>q) (λ_ _ q=>q) λ_ _ q=>q
structure Wrq(G:Prop):Prop where
 out:G
theorem zgD{c A G:Prop} [Decidable c] (h:c->Wrq G->A) (g:G):if c then A else G:=by
 by_cases q:c
 .rw[if_pos q];exact h q ⟨g⟩
 .rw[if_neg q];exact g
theorem zdN{t u:TS}{D:Ends}{σ:St}{H:Hp}{J0:St->Hp->Prop}(h1:∀B:St->Hp->Prop,(∀σ H,J0 σ H->B σ H)->t { D with nx:=B } σ H)(h2:∀σ H,J0 σ H->u D σ H):tSeq t u D σ H:=h1 (u D) h2
end L2
namespace L2
open PySem PySem.Spec PySem.Calls PyProof.Rows
section
variable {prog:Program}{w:World}{A:Around}{E:Value->Shared->Prop}{s:Shared}
theorem zjI{q a B:Addr}{qual:Str}{U:Arguments}{scope:Scope}{pm V:Value}{Y:Nat}{Z p2 p3 p4 p5:Pos}{mg aa:Str->Option Value}{its:List Value}{x:Str}{t:Tok}{Q:Value->Shared->Prop}(af:s.heap.get? q=some (W.kla_obj "<lambda>" qual U (.Call (.Name "len" Z) [.Subscript (.Name "fit" p2) (.Constant (.int 0) Y p3) p4] [] p5) scope [] pm B V))(ag:s.heap.CodeRec (.ref B) qual)(ah:bindArgs (W.kla_fn "<lambda>" qual U (.Call (.Name "len" Z) [.Subscript (.Name "fit" p2) (.Constant (.int 0) Y p3) p4] [] p5) scope [] pm (.ref B) V) ⟨[.ref a],[]⟩=pure [(("fit":Str),Value.ref a)])(ai:scope.isCoroutine=false)(aj:scope.isGenerator=false)(J0:scope.kind=.function)(ak:∀y∈scope.names,y.2≠.cell)(ab:scope.names.lookup ("fit":Str)=some .local)(al:scope.names.lookup ("len":Str)=some .globalImplicit)(am:s.heap.Ns mainGlobals mg)(ao:mg "len"=none)(ap:s.heap.Ns builtinsNs aa)(aq:aa "len"=some (.builtin "len"))(ar:s.heap.NoLimit)(as:A.depth<recursionLimit)(au:IsTup s.heap a its.toArray)(ac:its[0]?=some (.str x t))(aC:its.length<=sizeLine)(aD:x.length<=sizeLine)(h:∀h' tk t',(∀b o,s.heap.get? b=some o->h'.get? b=some o)->Q (.int x.length t') { s with heap:=h',toks:=tk }):wpAny (model prog w) A (call (.ref q) [.ref a]) Q E s:=by
 have aE:=zcO;refine wpAny_call (W.kla_callFunE as af J ai aj J ag ?_);rw[ah];refine wpAny_pure (wpAny_newFunctionEnv ak (λy av=>?_) (λG aw ad=>⟨ar.fresh _ ad,?_⟩) J0)
 .have:y=(("fit":Str),Value.ref a):=by simpa using av
  rw[this];exact ab
 have I:∀b o,s.heap.get? b=some o->G.get? b=some o:=λb o e=>ad.extBut b o (Nat.ne_of_lt (Heap.lt_size e)) (Heap.get?_push_of_some _ e);have ax:([(("fit":Str),Value.ref a)]:List (Str×Value)).reverse.lookup ("fit":Str)=some (.ref a):=by simp[List.lookup]
 show codeAny _ _ (.expr _ (W.envX qual scope s.heap.objs.size q (.ref B) [])) _ _;refine W.kla_codeExpr ?_;refine wpAny_Call_Name_kw (Calls.Name_function_global J0 (by show scope.names.lookup _=_;exact al) (Calls.loadGlobal_builtin (am.keeps I) ao (ap.keeps I) aq ?_) (by decide));refine PyProof.Rows.callWith_builtin1 ?_ rfl rfl;show wpAny _ _ (spliced ((false,eval _ _)::backTo p5 (starEach [] _))) _ _ _;refine Calls.spliced_cons (Subscript_ (wpAny_Name (wpAny_loadName_local J0 (by show scope.names.lookup _=_;exact ab) aw ax ?_) (by decide)));refine wpAny_Constant_int ?_;have ae:IsTup G a its.toArray:=by
  obtain⟨ob,e,r⟩:=au;exact⟨ob,I _ _ e,r⟩
 have ay:0<its.length:=by
  cases its with
  |nil=>cases ac
  |cons _ _=>simp
 have az:seqIndex? 0 its.toArray.size=some 0:=by
  have:=PySem.StrLaws.seqIndex_nonneg (i:=0) (n:=its.toArray.size) (by omega) (by simpa using ay);simpa using this
 have aA:∀tk,wpAny (model prog w) (A.deeper (W.envX qual scope s.heap.objs.size q (.ref B) [])) (spliced (backTo p5 (starEach [] (W.envX qual scope s.heap.objs.size q (.ref B) [])))) (λvs aB=>wpAny (model prog w) (A.deeper (W.envX qual scope s.heap.objs.size q (.ref B) [])) (call (.builtin "len") (.str x t::vs)) (λv s'=>(λ(r:Result) s'=>match r with|.ok (.ret v)=>Q v s'|.ok _=>False|.error e=>E e s') (.ok (.ret v)) s') (λF s'=>wpAny (model prog w) (A.deeper (W.envX qual scope s.heap.objs.size q (.ref B) [])) (leaving (W.envX qual scope s.heap.objs.size q (.ref B) []) F) (λ_ D=>(λ(r:Result) s'=>match r with|.ok (.ret v)=>Q v s'|.ok _=>False|.error e=>E e s') (.error F) D) (λO D=>(λ(r:Result) s'=>match r with|.ok (.ret v)=>Q v s'|.ok _=>False|.error e=>E e s') (.error O) D) s') aB)
   (λF s'=>wpAny (model prog w) (A.deeper (W.envX qual scope s.heap.objs.size q (.ref B) [])) (leaving (W.envX qual scope s.heap.objs.size q (.ref B) []) F) (λ_ D=>(λ(r:Result) s'=>match r with|.ok (.ret v)=>Q v s'|.ok _=>False|.error e=>E e s') (.error F) D) (λO D=>(λ(r:Result) s'=>match r with|.ok (.ret v)=>Q v s'|.ok _=>False|.error e=>E e s') (.error O) D) s') { s with heap:=G,toks:=tk }:=λtk=>by
  refine Calls.spliced_nil (len_str (by omega) ?_);exact h G _ _ I
 exact subscriptTail_builtinR (x:=.str x t) ae.typeIs slot_tuple_getitem.lookup (getItem_tuple (j:=0) (Q:=λr s'=>r=.str x t/\_) ae (by omega) (by omega) az (by simpa using ac) ⟨J,aA _⟩) rfl
end
end L2
namespace L2
open PySem PySem.Spec PySem.Calls PyProof.Rows
noncomputable def ButX(q:Addr)(H H':Hp):Prop:=∀b o,b≠q->H b=some o->H' b=some o
noncomputable def cdO(c:Addr)(q:Str):HO:=.ext λh=>h.CodeRec (.ref c) q
noncomputable def LamT(P:Addr)(D cl:Nat)(q:Str)(H:Hp):Prop:=
 H P=some (.tbl #[])∨∃B,H P=some (.tbl #[rawInt D,rawInt cl,.ref B])/\H B=some (cdO B q)
theorem LamT.tbl{P:Addr}{B cl:Nat}{q:Str}{H:Hp}(h:LamT P B cl q H):∃ps,H P=some (.tbl ps):=by
 rcases h with h|⟨D,h,_⟩
 .exact⟨_,h⟩
 .exact⟨_,h⟩
theorem zhk{P:Program}{w:World}{H:Hp}{h:Heap}{c:Addr}{q:Str}(D:h.CodeRec (.ref c) q):ObjOk P w H h c (cdO c q):=by
 refine⟨D,?_,λh1 h2 e k=>?_⟩
 .obtain⟨F,oc,vs,t,e,B,_⟩:=D;cases e;exact⟨oc,B⟩
 .obtain⟨F,oc,vs,t,e,B,r⟩:=e;cases e;exact⟨c,oc,vs,t,J,k _ B,r⟩
section
variable {X:Cx}{pins:List (Addr×Obj)}{σ:St}{H:Hp}{s:Shared}{E:Value->Shared->Prop}
theorem zjJ{P c:Addr}{pos:Pos}{nm q:Str}{J0:Arguments}{body:Expr}{scope:Scope}{aj:Nat}{ac:Value->Shared->Prop}(D:Inv X pins σ H s)(G:LamT P pos.line pos.col q H)(ad:closureFor scope X.env=pure [])(ae:X.env.code=.ref c)(ak:W.codeHdIn X.K c P=true)(al:X.base.BuiltinsAt X.mg P)(h:∀f B I s' H1,Inv X pins σ H1 s'->ButX P H H1->LamT P pos.line pos.col q H1->s'.heap.get? f=some (W.kla_obj nm q J0 body scope [] ((X.mg "__name__").getD .none) B I)->s'.heap.CodeRec (.ref B) q->f≠X.env.locals->B≠X.env.locals->ac (.ref f) s') :
  wpAny (model X.prog X.w) X.A (makeFunction nm q J0 (.expr body) scope X.env [] [] [] pos aj) ac E s:=by
 have C:=W.codeHd_of_K D.kIn ak;have Y:=D.mod.glob.keeps D.bk;have F:=al.keeps D.bk;have Z:=D.lt;obtain⟨ay,az,_⟩:=id D.loc;rcases G with G|⟨B,G,V⟩
 .have O:s.heap.get? P=some (W.tabObj #[]):=D.hok P _ G;have am:P<s.heap.objs.size:=Heap.lt_size O;have ao:mainGlobals≠P:=λz=>by
   obtain⟨o,es,ep,e,hd,_⟩:=Y;rw[z,O] at e;cases e;cases hd
  have ap:X.env.locals≠P:=λz=>by rw[←z,D.free] at G;cases G
  refine W.kla_makeFunction (mg:=X.mg) ad D.ok.glob Y ae C O trivial rfl ao F λB I h' tk af U aq aa ar=>?_;have lt1:∀b u,H b=some u->b<s.heap.objs.size:=λb u e=>(D.hok b u e).lt;have as:∀b u,H b=some u->b≠B:=λb u e=>Nat.ne_of_lt (Nat.lt_of_lt_of_le (lt1 b u e) U);have au:B≠P:=(Nat.ne_of_lt (Nat.lt_of_lt_of_le am U)).symm;have k:∀b o,b≠P->s.heap.get? b=some o->(h'.push (W.kla_obj nm q J0 body scope [] ((X.mg "__name__").getD .none) B I)).get? b=some o:=λb o F e=>Heap.get?_push_of_some _ (af b o F e);have ag:(h'.push (W.kla_obj nm q J0 body scope [] ((X.mg "__name__").getD .none) B I)).get? P=some (W.tabObj #[rawInt pos.line,rawInt pos.col,.ref B]):=Heap.get?_push_of_some _ (by simpa using ar);have ah:(h'.push (W.kla_obj nm q J0 body scope [] ((X.mg "__name__").getD .none) B I)).CodeRec (.ref B) q:=by
   obtain⟨av,oc,vs,t,e,ab,r⟩:=aa;cases e;exact⟨B,oc,vs,t,J,Heap.get?_push_of_some _ ab,r⟩
  have same:∀b u,b≠P->H b=some u->upd (upd H B (cdO B q)) P (.tbl #[rawInt pos.line,rawInt pos.col,.ref B]) b=some u:=λb u F e=>by
   rw[zak F,zak (as b u e)];exact e
  refine h h'.objs.size B I _ (upd (upd H B (cdO B q)) P (.tbl #[rawInt pos.line,rawInt pos.col,.ref B])) (D.step (g':=s.gens) (d':=s.drawn) (ch:=[]) (λ_ z=>nomatch z) (λb o _ _ _ e n=>?_) (λb o _ _ _ e n=>⟨o.slots,?_⟩) (λb o _ e n=>?_) (λb o _ e=>?_) (λb xs e=>?_) (λb o u e=>?_) (λb ps e=>?_) (λaA aw=>?_) (λb u e=>?_) D.bare) (λb u F e=>same b u F e) (.inr ⟨B,zab,by rw[zak au,zab]⟩) (Heap.get?_push_size _ J) ah ?_ ?_
  .exact k b o (zae G n).symm e
  .exact k b o (zae G n).symm e
  .rw[zak (zae G n).symm,zak (Nat.ne_of_lt (Nat.lt_of_lt_of_le (Heap.lt_size e) U))];exact n
  .by_cases F:b=P
   .exact⟨_,by rw[F];exact ag⟩
   .exact⟨o,k b o F e⟩
  .exact same b _ (zar e G (by intro z;cases z)) e
  .exact same b _ (zar e G (by intro z;cases z)) e
  .by_cases F:b=P
   .subst F;rw[G] at e;cases e;exact⟨#[rawInt pos.line,rawInt pos.col,.ref B],by rw[zab];simp⟩
   .exact⟨#[],by rw[same b _ F e];simp⟩
  .exact(aw.extBut af ap).push _
  .by_cases F:b=P
   .subst F;rw[zab] at e;cases e;exact ag
   .rw[zak F] at e;by_cases ai:b=B
    .subst ai;rw[zab] at e;cases e;exact zhk ah
    .rw[zak ai] at e;refine(D.hok b u e).stay (λd v hd z=>k d v ?_ z) (λd z=>same d _ (zar z G (by intro y;cases y)) z) λd _ z=>same d _ (zar z G (by intro y;cases y)) z;rcases hd with hd|hd
     .rw[hd];exact F
     .exact zar hd G (by intro y;cases y)
  .exact(Nat.ne_of_lt (Nat.lt_of_lt_of_le Z (Nat.le_trans U (Nat.le_of_lt aq)))).symm
  .exact(Nat.ne_of_lt (Nat.lt_of_lt_of_le Z U)).symm
 .have O:s.heap.get? P=some (W.tabObj #[rawInt pos.line,rawInt pos.col,.ref B]):=D.hok P _ G;have aa:s.heap.CodeRec (.ref B) q:=(D.hok B _ V).1;refine W.kla_makeFunctionHit (mg:=X.mg) ad D.ok.glob Y ae C O (by simp[TriplesOk,rawInt]) (cv:=.ref B) (by simp[codeAmong,rawInt]) F λI h' tk ax hsz=>?_;have k:∀b o,s.heap.get? b=some o->(h'.push (W.kla_obj nm q J0 body scope [] ((X.mg "__name__").getD .none) B I)).get? b=some o:=λb o e=>Heap.get?_push_of_some _ (ax b o e);refine h h'.objs.size B I _ H (D.kept k) (λ_ _ _ e=>e) (.inr ⟨B,G,V⟩) (Heap.get?_push_size _ J) ?_ (Nat.ne_of_lt (Nat.lt_of_lt_of_le Z hsz)).symm (λz=>by rw[z,D.free] at V;cases V);obtain⟨av,oc,vs,t,e,ab,r⟩:=aa;cases e;exact⟨B,oc,vs,t,J,k _ _ ab,r⟩
end
end L2
namespace L2
open PySem PySem.Spec PySem.Calls PyProof.Rows
noncomputable def zlb(P:Addr)(B cl:Nat)(q:Str):List V->Hp->VK->Prop:=λvs H Q=>∃(l:Addr) (xs:List V) (ms:Nat->Str),vs=[.ref l]/\H l=some (.lst xs)/\0<xs.length/\(∀i,i<xs.length->∃a ys,xs[i]?=some (.ref a)/\H a=some (.tup (.str (ms i)::ys))/\(ms i).length<=1000)/\LamT P B cl q H /\
 ∀H1 i v,ButX P H H1->LamT P B cl q H1->xs[i]?=some v->(∀j,j<xs.length->(ms j).length<=(ms i).length/\(j<i->(ms j).length<(ms i).length))->Q v H1
section
variable {X:Cx}{pins:List (Addr×Obj)}{σ:St}{H:Hp}{s:Shared}{E:Value->Shared->Prop}
theorem zf0{q G:Addr}{qual:Str}{ac:Arguments}{scope:Scope}{pm ad:Value}{ae:Nat}{af p2 p3 p4 p5:Pos}{l:Addr}{xs:List V}{ms:Nat->Str}{Q:VK}(B:Inv X pins σ H s)(ai:X.calm=true)(aj:X.A.in1.depth<recursionLimit)(ak:X.mg "len"=none)(al:s.heap.get? q=some (W.kla_obj "<lambda>" qual ac (.Call (.Name "len" af) [.Subscript (.Name "fit" p2) (.Constant (.int 0) ae p3) p4] [] p5) scope [] pm G ad))(am:s.heap.CodeRec (.ref G) qual)(ao:q≠X.env.locals)(ap:G≠X.env.locals)(aq:∀a,bindArgs (W.kla_fn "<lambda>" qual ac (.Call (.Name "len" af) [.Subscript (.Name "fit" p2) (.Constant (.int 0) ae p3) p4] [] p5) scope [] pm (.ref G) ad) ⟨[.ref a],[]⟩=pure [(("fit":Str),Value.ref a)])(ar:scope.isCoroutine=false)(as:scope.isGenerator=false)(au:scope.kind=.function)(av:∀y∈scope.names,y.2≠.cell)(aw:scope.names.lookup ("fit":Str)=some .local)(ax:scope.names.lookup ("len":Str)=some .globalImplicit)(Y:H l=some (.lst xs))(hpos:0<xs.length)(ag:∀i,i<xs.length->∃a ys,xs[i]?=some (.ref a)/\H a=some (.tup (.str (ms i)::ys))/\(ms i).length<=1000)(h:∀i v,xs[i]?=some v->(∀j,j<xs.length->(ms j).length<=(ms i).length/\(j<i->(ms j).length<(ms i).length))->Q v H) :
  wpAny (model X.prog X.w) X.A (call (.builtin "max") [.ref l] [(Str.ofString "key",.ref q)]) (EP X pins σ Q) E s:=by
 obtain⟨aP,its,ay,Z,az⟩:=B.hok l _ Y;obtain⟨m,ah,_⟩:=id B.loc;have aQ:xs.length=its.length:=Z.length;have aA:l≠X.env.locals:=λz=>by rw[z,B.free] at Y;cases Y
 have aR:(1000:Nat)<=sizeLine:=by rw[sizeLine_eq];decide
 have aB:∀b o,X.base.get? b=some o->b≠X.env.locals:=λb o e=>Nat.ne_of_lt (Nat.lt_of_lt_of_le (Heap.lt_size e) (Nat.le_trans B.ok.bsz B.ok.above));obtain⟨aS,aC,aD⟩:=B.mod.blt;refine kmk_max (vs:=its) (λi=>((ms i).length:Int)) (B.ok.hd ai) (Att.fr_all ah) (zgz X.env.locals) (λh1 F N=>?_) (by omega) (λi v I h1 tk aT F N=>?_) (λi v h' aU I aE F N=>?_)
 .exact⟨_,zdp N _ _ aA az,J,ay,J⟩
 .have hi:i<its.length:=(List.getElem?_eq_some_iff.mp I).1;obtain⟨a,ys,O,U,aF⟩:=ag i (by omega);have aa:RelV (.ref a) v:=by
   have:=Z.get O;obtain⟨u,J0,r⟩:=this;rw[I] at J0;cases J0;exact r
  cases aa;obtain⟨aG,aV,rt,aH⟩:=B.hok a _ U;have aI:a≠X.env.locals:=λz=>by rw[z,B.free] at U;cases U
  have aJ:News (Att.noObjs s.heap) X.env.locals h1 (Att.ledger s.heap X.env.locals X.env.locals):=λp D=>N p (List.mem_append_left _ D);have k:=zdp aJ;have ab:∀b o,X.base.get? b=some o->h1.get? b=some o:=λb o e=>k b o (aB b o e) (B.bk b o e);cases rt with
  |cons aK rt=>
   rename_i u us;obtain⟨aL,aM⟩:=aK;subst aM;refine zjI (s:={ s with heap:=h1,toks:=tk }) (x:=ms i) (k q _ ao al) ?_ (aq a) ar as au av aw ax (B.mod.glob.keeps ab) ak (aC.keeps ab) ((aD "len" (by decide)).trans J) (B.mod.nolimit.keeps ab) aj (its:=.str (ms i) aL::us) ?_ rfl ?_ (by omega) (λh2 aW aX k2=>?_)
   .obtain⟨aY,oc,vs,t,e,aN,r⟩:=am;cases e;exact⟨G,oc,vs,t,J,k _ _ ap aN,r⟩
   .obtain⟨ob,aO,r⟩:=aH;exact⟨ob,k _ _ aI aO,r⟩
   .have:=rt.length;simp at aG ⊢;omega
   .refine KskEnd.intro ⟨F.ns.keeps k2,λb o e=>k2 b o (F.keep b o e),F.above⟩ (λp D=>⟨k2 _ _ (N p D).1,(N p D).2⟩) λp D=>D
 .have hi:i<its.length:=(List.getElem?_eq_some_iff.mp I).1;obtain⟨a,ys,O,U,aF⟩:=ag i (by omega);have aa:RelV (.ref a) v:=by
   obtain⟨u,J0,r⟩:=Z.get O;rw[I] at J0;cases J0;exact r
  refine⟨.ref a,H,B.lib ah F N,aa,h i _ O λj aZ=>?_⟩;have:=aE j (by omega);exact⟨by omega,λq=>by have:=this.2 q;omega⟩
theorem zhl{e:Expr}{te:TE}{P c:Addr}{B:Arguments}{scope:Scope}{J0:Nat}{p O p2 p3 p4 p5 D ab pos:Pos}(ac:X.calm=true)(ad:X.A.in1.depth<recursionLimit)(ae:X.mg "max"=none)(af:X.mg "len"=none)(ag:X.env.code=.ref c)(ah:W.codeHdIn X.K c P=true)(ai:X.base.BuiltinsAt X.mg P)(aj:PE X e te)(ak:∀a F pm G,bindArgs (W.kla_fn "<lambda>" (X.env.qual++"<lambda>") B (.Call (.Name "len" O) [.Subscript (.Name "fit" p2) (.Constant (.int 0) J0 p3) p4] [] p5) scope [] pm (.ref F) G) ⟨[.ref a],[]⟩=pure [(("fit":Str),Value.ref a)])(al:Gl X "max":=by rfl)(am:defaultsOf B X.env=([],[]):=by rfl)(ao:closureFor scope X.env=pure []:=by rfl)(ap:scope.isCoroutine=false:=by rfl)(aq:scope.isGenerator=false:=by rfl)(ar:scope.kind=.function:=by rfl)(as:∀y∈scope.names,y.2≠.cell:=by decide)(au:scope.names.lookup ("fit":Str)=some .local:=by rfl)(av:scope.names.lookup ("len":Str)=some .globalImplicit:=by rfl)(h1:starEach [e] X.env=(false,eval e X.env)::starEach [] X.env:=by rfl)(h2:backTo pos (starEach [e] X.env)=(false,eval e X.env)::backTo pos (starEach [] X.env):=by rfl)(aw:(backTo pos (starEach [e] X.env)).any (·.1)=false:=by rfl) :
  PE X (.Call (.Name "max" p) [e] [⟨some "key",.Lambda B (.Call (.Name "len" O) [.Subscript (.Name "fit" p2) (.Constant (.int 0) J0 p3) p4] [] p5) scope D,ab⟩] pos) (tCB (zlb P D.line D.col (X.env.qual++"<lambda>")) (tCons te tNil)):=by
 intro pins s σ H Q U h;refine wpAny_Call_Name_kw (zcE U al ae (u:=.builtin "max") rfl ?_ (by decide) (by decide));refine callWith_kw (thn ((zaa aj zad h1) pos pins s σ H _ U h) λus aL ax=>?_) h2 aw;obtain⟨vs,H1,ay,r,q⟩:=ax;obtain⟨l,xs,ms,rfl,V,hpos,az,Y,q⟩:=q;obtain⟨u,rfl,aA⟩:=vals1 r;cases aA;refine kws_cons (W.kla_eval am (zjJ ay Y ao ag ah ai λf F G aM H2 aB I aC aD aE aF aG=>kws_nil ?_));obtain⟨ps,Z⟩:=Y.tbl;refine zf0 aB ac ad af aD aE aF aG (λa=>ak a F _ G) ap aq ar as au av (I _ _ (zar V Z (by intro z;cases z)) V) hpos (λi hi=>?_) (λi v aH aI=>q H2 i v I aC aH aI);obtain⟨a,ys,aJ,aa,aK⟩:=az i hi;exact⟨a,ys,aJ,I _ _ (zar aa Z (by intro z;cases z)) aa,aK⟩
end
section
variable {prog:Program}{w:World}{A:Around}{E:Value->Shared->Prop}{s:Shared}
theorem zft{it t:Addr}{B:Array Value}(G:t≠it):∀(n i:Nat) (s:Shared) (Q:List Value->Shared->Prop),s.heap.IsListIter it t i->s.heap.IsList t B->i+n<=B.size ->
  (∀h',h'.IsListIter it t (i+n)->Heap.SameBut it s.heap h'->Q ((B.toList.drop i).take n) { s with heap:=h' })->wpAny (model prog w) A (draw (.ref it) n) Q E s
 |0,i,s,Q,D,_,_,F=>by
  show wpAny _ _ (pure []) Q E s;exact wpAny_pure (by simpa using F s.heap D (Heap.SameBut.refl ..))
 |n+1,i,s,Q,D,I,aa,F=>by
  have J0:i<B.size:=by omega
  show wpAny _ _ (pyNext (.ref it) >>= _) Q E s;refine wpAny_bind (wpAny_pyNext_list_item D I (x:=B[i]) (by simp[J0]) λab U O=>?_);refine wpAny_bind (wpAny_holding (zft G n (i+1) _ _ U (I.extBut O.extBut G) (by omega) λV W Y=>wpAny_pure ?_));have Z:B.toList.drop i=B[i]::B.toList.drop (i+1):=by simp[List.drop_eq_getElem_cons,J0]
  have:=F V (by rw[show i+(n+1)=i+1+n by omega];exact W) (O.trans Y);rw[Z,List.take_succ_cons] at this;exact this
theorem zdo{t:Addr}{B:Array Value}{Q:List Value->Shared->Prop}(O:A.handled=none)(D:s.heap.IsList t B)(U:∀h',Heap.ExtBut s.heap.objs.size s.heap h'->Q B.toList { s with heap:=h' }):wpAny (model prog w) A (unpackItems (.ref t) B.size none) Q E s:=by
 have G:t≠s.heap.objs.size:=by obtain⟨o,V,_⟩:=D;exact Nat.ne_of_lt (Heap.lt_size V)
 unfold unpackItems;refine wpAny_bind ?_
 .unfold notIterableAtAll;refine wpAny_bind (wpAny_specialOf D.typeIs F.slot_list_iter.lookup ?_);refine wpAny_pure ?_;simp only[Bool.false_eq_true,if_false];refine wpAny_bind (wpAny_holding (wpAny_pyIter_list D ?_));refine wpAny_bind (wpAny_holding (zft G B.size 0 _ _ ⟨_,Heap.get?_push_size _ J,J,J⟩ (D.push _) (by omega) λW Y I=>?_));have Z:List.take B.size (List.drop 0 B.toList)=B.toList:=by
   rw[List.drop_zero];exact List.take_of_length_le (by simp)
  rw[Z];rw[if_neg (by simp)];have aa:Heap.IsList W t B:=(D.push _).extBut I.extBut G;refine wpAny_bind (wpAny_holding (wpAny_pyNext_list_end O Y aa (by simp) λab ac=>?_));simp only[Option.isSome_none,Bool.false_eq_true,if_false];refine wpAny_pure (U ab λb o J0 e=>ac b o J0 (I.extBut b o J0 (Heap.get?_push_of_some _ e)))
theorem zc7{env:Env}{B:List Expr}{x1}{pos:Pos}{t:Addr}{D:Array Value}{Q:Unit->Shared->Prop}(F:A.handled=none)(G:s.heap.IsList t D)(I:(assignEach B env).length=D.size)(J0:(assignEach B env).findIdx? (·.1)=none)(h:∀h',Heap.ExtBut s.heap.objs.size s.heap h'->wpAny (model prog w) A (assignInOrder ((assignEach B env).map (·.2)) D.toList) Q E { s with heap:=h' }) :
  wpAny (model prog w) A (assign (.Tuple B x1 pos) env (.ref t)) Q E s:=by
 rw[assign_Tuple];refine wpAny_bind (wpAny_standAt ?_);unfold unpack;rw[I,J0];exact wpAny_bind (wpAny_holding (zdo F G h))
end
noncomputable def gTupL(K:W.Frag)(n:Nat)(t:TGs):TG:=λv σ H Q=>∃a xs,v=.ref a/\SqL K H a xs/\xs.length=n/\t xs σ H Q
theorem zic{X:Cx}{pos:Pos}{es:List Expr}{k:Nat}{t:TGs}{n:Nat}(F:X.calm=true)(h:PGs X es t)(G:(assignEach es X.env).length=n:=by rfl)(I:(assignEach es X.env).findIdx? (·.1)=none:=by rfl):PG X (.Tuple es k pos) (gTupL X.K n t):=by
 intro pins s σ H v u Q B r hw;obtain⟨a,xs,J0,O,U,hw⟩:=hw;subst J0;cases r;obtain⟨its,D,V,Z⟩:=B.list O;refine zc7 (B.ok.hd F) V.isList (by simp[G,←U,D.length]) I λh' W=>?_;have Y:Inv X pins σ H { s with heap:=h' }:=B.kept (t':=s.toks) λb o e=>W b o (Nat.ne_of_lt (Heap.lt_size e)) e;exact h pins _ σ H xs _ Q Y (by simpa using D) hw
end L2
namespace T1
open PySem PySem.Spec PyProof.Rows L2
noncomputable def zl6(b:Bool):R2:=λx y H Q=>∃z z' ds,Rep z H x (.tup ds)/\Rep z' H y (.tup ds)/\Deps 4 ds/\Q (.bl b) H
theorem zf1{X:Cx}(I:Room 5 X.A):OpR X (compareOp .NotEq) (zl6 false):=by
 intro pins s σ H x y v u Q B V W h;obtain⟨z,z',ds,D,F,Y,q⟩:=h;cases D with
 |@tup a xs _ Z _ D=>
  cases F with
  |@tup b ys _ aa _ F=>
   cases V;cases W;obtain⟨its,q1,ab,_⟩:=B.tuple (SqT.of Z);obtain⟨G,J0,p2,_⟩:=B.tuple (SqT.of aa);have O:=q1.length;have ac:=J0.length;have U:=D.length;have ad:=F.length;have hsz:its.toArray.size=G.toArray.size:=by simp;omega
   show wpAny _ _ (richCompare .NotEq _ _) _ _ _;refine SeqAt.RcNeAt.tuples (e:=λ_=>true) ab p2 I.units0 (λj h1 h2=>zib B 4 (Y.get (i:=j) (by rw[←U,O];simpa using h1)) I.in1 (D.get (i:=j) (by rw[←U,O];simpa using h1)) (F.get (i:=j) (by rw[←ad,ac];simpa using h2)) (zbn q1 h1) (zbn J0 h2)) _ _ _ _ ?_;have e:(!((List.range (min its.toArray.size G.toArray.size)).all (λ_=>true)&&its.toArray.size==G.toArray.size))=false:=by rw[hsz];simp
   rw[e];exact⟨.bl _,H,B,J,q⟩
end T1
namespace L2
open PySem PySem.Spec PyProof.Rows
end L2
namespace T1
open PySem PySem.Spec PyProof.Rows L2
end T1
namespace L2
open PySem PySem.Spec PyProof.Rows
theorem zjK{X:Cx}(I:X.calm=true):CallR X (.builtin "sum") (λxs H Q=>∃(p:Addr) (B:List Int),xs=[.ref p]/\SqL X.K H p (B.map V.int)/\Q (.int B.sum) H):=by
 intro pins s σ H xs us Q D r h;obtain⟨p,B,rfl,J0,q⟩:=h;obtain⟨u,rfl,O⟩:=vals1 r;cases O;obtain⟨its,U,pl,Z⟩:=D.list J0;have hi:IntsAre its B:=zef U;obtain⟨zs,W⟩:=hi.allInts.items;have F:numsOf its.toArray.toList=B:=by rw[show its.toArray.toList=its from rfl,hi.numsOf]
 have G:=pl.isList;rw[W] at G F;rw[nums_intItems] at F;refine sum_intListG (D.ok.hd I) G λh' tk t' Y=>?_;rw[preSum_eq,List.take_of_length_le (by simp),F];exact⟨.int _,H,D.kept (t':=tk) Y,⟨_,J⟩,q⟩
end L2
namespace T1
open PySem L2 PyProof.Rows
mutual
noncomputable def eqD:D->D->Bool
 |.non,.non=>true
 |.bl a,.bl b=>a==b
 |.int a,.int b=>a==b
 |.str a,.str b=>a==b
 |.tup xs,.tup ys=>eqDs xs ys
 |.lst xs,.lst ys=>eqDs xs ys
 |_,_=>false
noncomputable def eqDs:List D->List D->Bool
 |[],[]=>true
 |a::xs,b::ys=>eqD a b&&eqDs xs ys
 |_,_=>false
end
mutual
theorem zl7:∀ {a b:D},eqD a b=true->a=b
 |.non,.non,_=>rfl
 |.bl a,.bl b,h=>by rw[eqD] at h;rw[eq_of_beq h]
 |.int a,.int b,h=>by rw[eqD] at h;rw[eq_of_beq h]
 |.str a,.str b,h=>by rw[eqD] at h;rw[eq_of_beq h]
 |.tup xs,.tup ys,h=>by rw[eqD] at h;rw[eqDs_eq h]
 |.lst xs,.lst ys,h=>by rw[eqD] at h;rw[eqDs_eq h]
 |.non,.bl _,h|.non,.int _,h|.non,.str _,h|.non,.tup _,h|.non,.lst _,h=>by simp[eqD] at h
 |.bl _,.non,h|.bl _,.int _,h|.bl _,.str _,h|.bl _,.tup _,h|.bl _,.lst _,h=>by simp[eqD] at h
 |.int _,.non,h|.int _,.bl _,h|.int _,.str _,h|.int _,.tup _,h|.int _,.lst _,h=>by simp[eqD] at h
 |.str _,.non,h|.str _,.bl _,h|.str _,.int _,h|.str _,.tup _,h|.str _,.lst _,h=>by simp[eqD] at h
 |.tup _,.non,h|.tup _,.bl _,h|.tup _,.int _,h|.tup _,.str _,h|.tup _,.lst _,h=>by simp[eqD] at h
 |.lst _,.non,h|.lst _,.bl _,h|.lst _,.int _,h|.lst _,.str _,h|.lst _,.tup _,h=>by simp[eqD] at h
theorem eqDs_eq:∀ {xs ys:List D},eqDs xs ys=true->xs=ys
 |[],[],_=>rfl
 |a::xs,b::ys,h=>by
  rw[eqDs,Bool.and_eq_true] at h;rw[zl7 h.1,eqDs_eq h.2]
 |[],_::_,h=>by simp[eqDs] at h
 |_::_,[],h=>by simp[eqDs] at h
end
mutual
theorem zeA:∀a:D,eqD a a=true
 |.non=>by simp[eqD]
 |.bl a=>by simp[eqD]
 |.int a=>by simp[eqD]
 |.str a=>by simp[eqD]
 |.tup xs=>by rw[eqD];exact eqDs_refl xs
 |.lst xs=>by rw[eqD];exact eqDs_refl xs
theorem eqDs_refl:∀xs:List D,eqDs xs xs=true
 |[]=>by simp[eqDs]
 |a::xs=>by rw[eqDs,zeA a,eqDs_refl xs];rfl
end
theorem zcw:∀xs ys:List D,eqDs xs ys=((List.range (min xs.length ys.length)).all (λj=>eqD (xs.getD j .non) (ys.getD j .non))&&xs.length==ys.length)
 |[],[]=>by simp[eqDs]
 |[],_::_=>by simp[eqDs]
 |_::_,[]=>by simp[eqDs]
 |a::xs,b::ys=>by
  rw[eqDs,zcw xs ys,List.length_cons,List.length_cons,Nat.succ_min_succ,List.range_succ_eq_map,List.all_cons,List.all_map,Bool.and_assoc];congr 1;congr 1;simp
mutual
inductive Cmp:Nat->D->D->Prop where
 |non (k:Nat):Cmp k .non .non
 |int (k:Nat) (i j:Int):Cmp k (.int i) (.int j)
 |str (k:Nat) (x y:Str):Cmp k (.str x) (.str y)
 |tup {k:Nat} {xs ys:List D} (t:Cmps k xs ys):Cmp (k+1) (.tup xs) (.tup ys)
 |lst {k:Nat} {xs ys:List D} (t:Cmps k xs ys):Cmp (k+1) (.lst xs) (.lst ys)
inductive Cmps:Nat->List D->List D->Prop where
 |nilL (k:Nat) (ys:List D):Cmps k [] ys
 |nilR (k:Nat) (xs:List D):Cmps k xs []
 |cons {k:Nat} {a b:D} {xs ys:List D} (h:Cmp k a b) (t:Cmps k xs ys):Cmps k (a::xs) (b::ys)
end
theorem Cmps.get{k:Nat}:∀ {xs ys:List D}{i:Nat},Cmps k xs ys->i<xs.length->i<ys.length->Cmp k (xs.getD i .non) (ys.getD i .non)
 |_,_,_,.nilL _ _,h,_=>absurd h (by simp)
 |_,_,_,.nilR _ _,_,h=>absurd h (by simp)
 |_,_,0,.cons h _,_,_=>h
 |_,_,i+1,.cons _ t,h1,h2=>by
  have:=Cmps.get (i:=i) t (by simpa using h1) (by simpa using h2);simpa using this
mutual
theorem Rep.inj{z z':Addr}{H:Hp}:∀ {v:V}{d e:D},Rep z H v d->Rep z' H v e->d=e
 |_,_,_,.non,.non=>rfl
 |_,_,_,.bl _,.bl _=>rfl
 |_,_,_,.int _,.int _=>rfl
 |_,_,_,.str _ _,.str _ _=>rfl
 |_,_,_,.tup h _ r,.tup h' _ B=>by
  rw[h] at h';cases h';rw[Reps.inj r B]
 |_,_,_,.lst h _ r,.lst h' _ B=>by
  rw[h] at h';cases h';rw[Reps.inj r B]
 |_,_,_,.tup h _ _,.lst h' _ _=>by rw[h] at h';cases h'
 |_,_,_,.lst h _ _,.tup h' _ _=>by rw[h] at h';cases h'
theorem Reps.inj{z z':Addr}{H:Hp}:∀ {vs:List V}{ds es:List D},Reps z H vs ds->Reps z' H vs es->ds=es
 |_,_,_,.nil,.nil=>rfl
 |_,_,_,.cons h t,.cons h' t'=>by rw[Rep.inj h h',Reps.inj t t']
end
section
variable {X:Cx}{pins:List (Addr×Obj)}{σ:L2.St}{H:Hp}{s:Shared}{z z':Addr}
theorem zl8(ae:Inv X pins σ H s):∀(k:Nat){d e:D},Cmp k d e->∀ {A:Around}{x y:V}{u v:Value},Room k A->Rep z H x d->Rep z' H y e->RelV x u->RelV y v->SeqAt.EqAt A s u v (eqD d e):=by
 intro k;induction k with
 |zero=>
  intro d e ah A x y u v O B F G I;cases ah with
  |non=>cases B;cases F;cases G;cases I;rw[eqD];exact SeqAt.EqAt.same _
  |int _ i j=>cases B;cases F;obtain⟨t,rfl⟩:=G;obtain⟨t',rfl⟩:=I;rw[eqD];exact SeqAt.EqAt.int_int (A:=A) (s:=s) i t j t'
  |str _ x y=>cases B;cases F;obtain⟨t,rfl⟩:=G;obtain⟨t',rfl⟩:=I;rw[eqD];exact SeqAt.EqAt.str_str (A:=A) (s:=s) x t y t'
 |succ k ao=>
  intro d e ah A x y u v O B F G I;cases ah with
  |non=>cases B;cases F;cases G;cases I;rw[eqD];exact SeqAt.EqAt.same _
  |int _ i j=>cases B;cases F;obtain⟨t,rfl⟩:=G;obtain⟨t',rfl⟩:=I;rw[eqD];exact SeqAt.EqAt.int_int (A:=A) (s:=s) i t j t'
  |str _ x y=>cases B;cases F;obtain⟨t,rfl⟩:=G;obtain⟨t',rfl⟩:=I;rw[eqD];exact SeqAt.EqAt.str_str (A:=A) (s:=s) x t y t'
  |@tup _ ds es t=>
   have ai:=B;have aj:=F;cases B with
   |@tup a xs _ ak _ W=>
    cases F with
    |@tup b ys _ al _ Y=>
     cases G;cases I;by_cases U:a=b
     .subst U;rw[Rep.inj ai aj,zeA];exact SeqAt.EqAt.same _
     .obtain⟨its,q1,af,_⟩:=ae.tuple (SqT.of ak);obtain⟨ag,Z,p2,_⟩:=ae.tuple (SqT.of al);have aa:=q1.length;have ab:=Z.length;have ac:=W.length;have ad:=Y.length;have J0:=SeqAt.RcAt.tuples (e:=λj=>eqD (ds.getD j .non) (es.getD j .non)) af p2 O.units0 λj h1 h2=>ao (t.get (i:=j) (by rw[←ac,aa];simpa using h1) (by rw[←ad,ab];simpa using h2)) O.in1 (W.get (i:=j) (by rw[←ac,aa];simpa using h1)) (Y.get (i:=j) (by rw[←ad,ab];simpa using h2)) (zbn q1 h1) (zbn Z h2);rw[eqD,zcw];have am:its.toArray.size=ds.length:=by simp;omega
      have ap:ag.toArray.size=es.length:=by simp;omega
      rw[am,ap] at J0;exact SeqAt.EqAt.of_refs U J0
  |@lst _ ds es t=>
   have ai:=B;have aj:=F;cases B with
   |@lst a xs _ ak _ W=>
    cases F with
    |@lst b ys _ al _ Y=>
     cases G;cases I;by_cases U:a=b
     .subst U;rw[Rep.inj ai aj,zeA];exact SeqAt.EqAt.same _
     .obtain⟨its,q1,af,_⟩:=ae.list (SqL.of ak);obtain⟨ag,Z,p2,_⟩:=ae.list (SqL.of al);have aa:=q1.length;have ab:=Z.length;have ac:=W.length;have ad:=Y.length;have am:its.toArray.size=ds.length:=by simp;omega
      have ap:ag.toArray.size=es.length:=by simp;omega
      rw[eqD,zcw];by_cases hsz:its.toArray.size=ag.toArray.size
      .have J0:=SeqAt.RcAt.lists (e:=λj=>eqD (ds.getD j .non) (es.getD j .non)) af.isList p2.isList hsz O.units0 λj h1 h2=>ao (t.get (i:=j) (by rw[←ac,aa];simpa using h1) (by rw[←ad,ab];simpa using h2)) O.in1 (W.get (i:=j) (by rw[←ac,aa];simpa using h1)) (Y.get (i:=j) (by rw[←ad,ab];simpa using h2)) (zbn q1 h1) (zbn Z h2);have aq:ds.length=es.length:=by omega
       rw[am] at J0;have e:((List.range (min ds.length es.length)).all (λj=>eqD (ds.getD j .non) (es.getD j .non))&&ds.length==es.length)=(List.range ds.length).all (λj=>eqD (ds.getD j .non) (es.getD j .non)):=by
        rw[aq,Nat.min_self,beq_self_eq_true,Bool.and_true]
       rw[e];exact SeqAt.EqAt.of_refs U J0
      .have J0:=SeqAt.RcAt.lists_lengths (A:=A) af.isList p2.isList (by simpa using hsz) O.units0;have e:(ds.length==es.length)=false:=by rw[beq_eq_false_iff_ne];omega
       rw[e,Bool.and_false];exact SeqAt.EqAt.of_refs U J0
noncomputable def rEqT:R2:=λx y H Q=>∃z z' ds es,Rep z H x (.tup ds)/\Rep z' H y (.tup es)/\Cmps 4 ds es/\Q (.bl (eqDs ds es)) H
theorem zl9{X:Cx}(G:Room 5 X.A):OpR X (compareOp .Eq) rEqT:=by
 intro pins s σ H x y v u Q B W Y h;obtain⟨z,z',ds,es,D,F,t,q⟩:=h;cases D with
 |@tup a xs _ Z _ D=>
  cases F with
  |@tup b ys _ aa _ F=>
   cases W;cases Y;obtain⟨its,q1,ab,_⟩:=B.tuple (SqT.of Z);obtain⟨ac,I,p2,_⟩:=B.tuple (SqT.of aa);have J0:=q1.length;have O:=I.length;have U:=D.length;have V:=F.length;have ad:its.toArray.size=ds.length:=by simp;omega
   have ae:ac.toArray.size=es.length:=by simp;omega
   rw[zcw,←ad,←ae] at q;show wpAny _ _ (richCompare .Eq _ _) _ _ _;exact SeqAt.RcAt.tuples (e:=λj=>eqD (ds.getD j .non) (es.getD j .non)) ab p2 G.units0 (λj h1 h2=>zl8 B 4 (t.get (i:=j) (by rw[←U,J0];simpa using h1) (by rw[←V,O];simpa using h2)) G.in1 (D.get (i:=j) (by rw[←U,J0];simpa using h1)) (F.get (i:=j) (by rw[←V,O];simpa using h2)) (zbn q1 h1) (zbn I h2)) _ _ _ _ ⟨.bl _,H,B,J,q⟩
end
end T1
namespace L2
open PySem PySem.Spec PyProof.Rows
section
variable {κ:Type} [DecidableEq κ]
noncomputable def valV(kvs:List (κ×V))(k:κ):Option V:=(kvs.find? λB=>decide (B.1=k)).map (·.2)
noncomputable def putK(kvs:List (κ×V))(k:κ)(v:V):List (κ×V):=
 if (kvs.any λB=>decide (B.1=k))=true then kvs.map (λB=>if B.1=k then (B.1,v) else B) else kvs++[(k,v)]
theorem zgE{k:κ}:valV ([]:List (κ×V)) k=none:=rfl
theorem zbo{p:κ×V}{r:List (κ×V)}{k:κ}(e:p.1=k):valV (p::r) k=some p.2:=by simp[valV,List.find?_cons,e]
theorem zbp{p:κ×V}{r:List (κ×V)}{k:κ}(e:¬p.1=k):valV (p::r) k=valV r k:=by simp[valV,List.find?_cons,e]
theorem zb4(k:κ):∀kvs:List (κ×V),(kvs.any λB=>decide (B.1=k))=(valV kvs k).isSome
 |[]=>rfl
 |p::r=>by
  rw[List.any_cons];by_cases e:p.1=k
  .simp only[zbo e,decide_eq_true e,Bool.true_or,Option.isSome_some]
  .rw[zbp e,decide_eq_false e,Bool.false_or];exact zb4 k r
theorem zgF(k j:κ)(y:V):∀kvs:List (κ×V),valV (kvs.map λB=>if B.1=k then (B.1,y) else B) j=(valV kvs j).map λx=>if j=k then y else x
 |[]=>rfl
 |p::r=>by
  have D:=zgF k j y r;rw[List.map_cons];by_cases h:p.1=k
  .rw[if_pos h];by_cases e:p.1=j
   .rw[zbo (p:=(p.1,y)) e,zbo e,Option.map_some,if_pos (e.symm.trans h)]
   .rw[zbp (p:=(p.1,y)) e,zbp e,D]
  .rw[if_neg h];by_cases e:p.1=j
   .rw[zbo (p:=p) e,zbo e,Option.map_some,if_neg (λz=>h (e.trans z))]
   .rw[zbp (p:=p) e,zbp e,D]
theorem zfu(k j:κ)(y:V):∀kvs:List (κ×V),valV kvs k=none->valV (kvs++[(k,y)]) j=if j=k then some y else valV kvs j
 |[],_=>by
  by_cases e:k=j
  .rw[if_pos e.symm];exact zbo (p:=(k,y)) e
  .rw[if_neg (λz=>e z.symm)];exact zbp (p:=(k,y)) e
 |p::r,B=>by
  rw[List.cons_append];have D:¬p.1=k:=λz=>by rw[zbo z] at B;cases B
  rw[zbp D] at B;have F:=zfu k j y r B;by_cases e:p.1=j
  .rw[zbo e,zbo e,if_neg (λz=>D (e.trans z))]
  .rw[zbp e,zbp e,F]
theorem zdr(kvs:List (κ×V))(k j:κ)(y:V):valV (putK kvs k y) j=if j=k then some y else valV kvs j:=by
 unfold putK;by_cases a:(kvs.any λB=>decide (B.1=k))=true
 .rw[if_pos a,zgF];rw[zb4] at a;by_cases e:j=k
  .obtain⟨x,D⟩:=Option.isSome_iff_exists.mp a;rw[if_pos e,e,D,Option.map_some,if_pos rfl]
  .rw[if_neg e];cases valV kvs j with
   |none=>rfl
   |some x=>rw[Option.map_some,if_neg e]
 .rw[if_neg a];refine zfu k j y kvs ?_;rw[zb4] at a;cases q:valV kvs k with
  |none=>rfl
  |some x=>rw[q] at a;exact(a J).elim
theorem zb5(kvs:List (κ×V))(k:κ)(v:V):(putK kvs k v).length<=kvs.length+1:=by
 unfold putK;split
 .rw[List.length_map];omega
 .rw[List.length_append,List.length_cons,List.length_nil];omega
theorem RelO.isSome_eq{o:Option V}{u:Option Value}(r:RelO o u):o.isSome=u.isSome:=by
 cases o with
 |none=>cases u with
  |none=>rfl
  |some _=>exact(show False from r).elim
 |some _=>cases u with
  |none=>exact(show False from r).elim
  |some _=>rfl
theorem KV.val{kvs:List (κ×V)}{vs:List (κ×Value)}(r:KV kvs vs)(k:κ):RelO (valV kvs k) (valueAt vs k):=by
 unfold KV at r;induction r with
 |nil=>exact True.intro
 |@cons p q ps B h t F=>
  obtain⟨h1,h2⟩:=h;by_cases e:p.1=k
  .have D:q.1=k:=h1.symm.trans e;have b:valueAt (q::B) k=some q.2:=by simp[valueAt,List.find?_cons,D]
   rw[zbo e,b];exact h2
  .have D:¬q.1=k:=λz=>e (h1.trans z);have b:valueAt (q::B) k=valueAt B k:=by simp[valueAt,List.find?_cons,D]
   rw[zbp e,b];exact F
theorem KV.any{kvs:List (κ×V)}{vs:List (κ×Value)}(r:KV kvs vs)(k:κ):(kvs.any λB=>decide (B.1=k))=vs.any λB=>decide (B.1=k):=by
 unfold KV at r;induction r with
 |nil=>rfl
 |cons h t D=>rw[List.any_cons,List.any_cons,D,h.1]
theorem KV.repl{kvs:List (κ×V)}{vs:List (κ×Value)}(r:KV kvs vs)(k:κ){y:V}{u:Value}(D:RelV y u) :
  KV (kvs.map λB=>if B.1=k then (B.1,y) else B) (vs.map λB=>if B.1=k then (B.1,u) else B):=by
 unfold KV at r ⊢;induction r with
 |nil=>exact .nil
 |@cons p q ps G h t F=>
  rw[List.map_cons,List.map_cons];refine .cons ?_ F;obtain⟨h1,h2⟩:=h;by_cases e:p.1=k
  .rw[if_pos e,if_pos (h1.symm.trans e)];exact⟨h1,D⟩
  .rw[if_neg e,if_neg (λz=>e (h1.trans z))];exact⟨h1,h2⟩
theorem KV.put{kvs:List (κ×V)}{vs:List (κ×Value)}(r:KV kvs vs)(k:κ){y:V}{u:Value}(B:RelV y u):KV (putK kvs k y) (stored vs k u):=by
 unfold putK stored;rw[r.any k];by_cases e:(vs.any λD=>decide (D.1=k))=true
 .rw[if_pos e,if_pos e];exact r.repl k B
 .rw[if_neg e,if_neg e];exact Paired.snoc r ⟨J,B⟩
theorem KV.keys{kvs:List (κ×V)}{vs:List (κ×Value)}(r:KV kvs vs):kvs.map (·.1)=vs.map (·.1):=by
 unfold KV at r;induction r with
 |nil=>rfl
 |cons h t B=>rw[List.map_cons,List.map_cons,B,h.1]
theorem KV.length{kvs:List (κ×V)}{vs:List (κ×Value)}(r:KV kvs vs):kvs.length=vs.length:=Paired.length r
end
theorem zhm{P:Program}{w:World}{k:Key}{u:Value}(r:RelV (kV k) u):(zaF P w).is k u=true:=by
 cases k with
 |inl i=>obtain⟨t,e⟩:=(show ∃t,u=Value.int i t from r);subst e;exact zfS P w i t
 |inr x=>obtain⟨t,e⟩:=(show ∃t,u=Value.str x t from r);subst e;exact zfT P w x t
theorem zfv{P:Program}{w:World}:∀ {ks:List Key}{us:List Value},Vals (ks.map kV) us->ItemsAre (zaF P w) ks us
 |[],_,r=>by rw[List.map_nil] at r;cases r;exact .nil
 |k::ks,_,r=>by
  rw[List.map_cons] at r;cases r with
  |cons h t=>exact .cons (zhm h) (zfv t)
noncomputable abbrev KT(H:Hp):List (List Key×V)->List (List Key×Addr×Value)->Prop:=Paired λp q=>p.1=q.1/\H q.2.1=some (.tup (p.1.map kV))/\RelV p.2 q.2.2
theorem KT.val{H:Hp}{kvs:List (List Key×V)}{xs:List (List Key×Addr×Value)}(r:KT H kvs xs)(k:List Key):RelO (valV kvs k) ((atKey xs k).map (·.2)):=by
 induction r with
 |nil=>exact True.intro
 |@cons p q ps B h t F=>
  obtain⟨h1,_,h2⟩:=h;by_cases e:p.1=k
  .have D:q.1=k:=h1.symm.trans e;have b:atKey (q::B) k=some q.2:=by simp[atKey,List.find?_cons,D]
   rw[zbo e,b];exact h2
  .have D:¬q.1=k:=λz=>e (h1.trans z);have b:atKey (q::B) k=atKey B k:=by simp[atKey,List.find?_cons,D]
   rw[zbp e,b];exact F
theorem KT.repl{H:Hp}{kvs:List (List Key×V)}{xs:List (List Key×Addr×Value)}(r:KT H kvs xs)(k:List Key){y:V}{u:Value}(D:RelV y u) :
  KT H (kvs.map λB=>if B.1=k then (B.1,y) else B) (xs.map (putAt k u)):=by
 induction r with
 |nil=>exact .nil
 |@cons p q ps I h t F=>
  rw[List.map_cons,List.map_cons];refine .cons ?_ F;obtain⟨h1,h2,G⟩:=h;unfold putAt;by_cases e:p.1=k
  .rw[if_pos e,if_pos (h1.symm.trans e)];exact⟨h1,h2,D⟩
  .rw[if_neg e,if_neg (λz=>e (h1.trans z))];exact⟨h1,h2,G⟩
theorem KT.put{H:Hp}{kvs:List (List Key×V)}{xs:List (List Key×Addr×Value)}(r:KT H kvs xs)(k:List Key){b:Addr}{y:V}{u:Value}(D:H b=some (.tup (k.map kV)))(B:RelV y u) :
  KT H (putK kvs k y) (storedH xs k b u):=by
 have e:(kvs.any λF=>decide (F.1=k))=(atKey xs k).isSome:=by
  rw[zb4,(r.val k).isSome_eq,Option.isSome_map]
 unfold putK storedH;rw[e];by_cases q:(atKey xs k).isSome=true
 .rw[if_pos q,if_pos q];exact r.repl k B
 .rw[if_neg q,if_neg q];exact Paired.snoc r ⟨J,D,B⟩
theorem KT.keeps{H H':Hp}{kvs:List (List Key×V)}{xs:List (List Key×Addr×Value)}(r:KT H kvs xs)(B:∀b ys,H b=some (.tup ys)->H' b=some (.tup ys)):KT H' kvs xs:=
 Paired.mapP r λ_ _ z=>⟨z.1,B _ _ z.2.1,z.2.2⟩
section
variable {P:Program}{w:World}{H:Hp}{h:Heap}{a:Addr}
theorem zma{u:HO}(B:HOk P w H h)(e:Rd H a u):ObjOk P w H h a u:=e.ok B
theorem zjL{kvs:List (Key×V)}(B:HOk P w H h)(e:Rd H a (.dK kvs)):kvs.length<=sizeLine/\(a==sysModules)=false/\∃vs,KV kvs vs/\h.DictOf (zaF P w) a vs:=
 show ObjOk P w H h a (.dK kvs) from zma B e
theorem zmb{kvs:List (Key×V)}(B:HOk P w H h)(e:H a=some (.dK kvs)):kvs.length<=sizeLine/\(a==sysModules)=false/\∃vs,KV kvs vs/\h.DictOf (zaF P w) a vs:=zjL B (.inl e)
theorem zfw{ks:List Key}(B:HOk P w H h)(e:H a=some (.tup (ks.map kV))):(tupleKind (zaF P w)).is h ks a:=by
 obtain⟨_,its,r,o,h1,h2,n,D⟩:=(show ObjOk P w H h a (.tup (ks.map kV)) from B a _ e);exact⟨o,its.toArray,n,h1,h2,D,by simpa using zfv r⟩
theorem zjM{kvs:List (List Key×V)}(B:HOk P w H h)(e:Rd H a (.dT kvs)):kvs.length<=sizeLine/\(a==sysModules)=false /\
  ∃xs,KT H kvs xs/\h.DictOfH (tupleKind (zaF P w)) a xs:=by
 obtain⟨z,y,xs,r,o,es,ep,h1,h2,F,G,I⟩:=(show ObjOk P w H h a (.dT kvs) from zma B e);refine⟨z,y,xs,r,o,es,ep,h1,h2,F,G,λx hx=>?_,I⟩;have J0:∀ {l:List (List Key×V)} {m:List (List Key×Addr×Value)},KT H l m->∀x∈m,(tupleKind (zaF P w)).is h x.1 x.2.1:=by
  intro l m q;induction q with
  |nil=>intro x hx;exact nomatch hx
  |@cons p q ps U D t O=>
   intro x hx;rcases List.mem_cons.mp hx with e|hx
   .subst e;exact zfw B (by rw[←D.1];exact D.2.1)
   .exact O x hx
 exact J0 r x hx
theorem zmE{kvs:List (List Key×V)}(B:HOk P w H h)(e:H a=some (.dT kvs)):kvs.length<=sizeLine/\(a==sysModules)=false /\
  ∃xs,KT H kvs xs/\h.DictOfH (tupleKind (zaF P w)) a xs:=zjM B (.inl e)
end
noncomputable def DGet(H:Hp)(a:Addr)(y:V)(r:Option V):Prop:=
 (∃kvs k,Rd H a (.dK kvs)/\y=kV k/\r=valV kvs k)∨∃kvs k b,Rd H a (.dT kvs)/\y=.ref b/\H b=some (.tup (k.map kV))/\r=valV kvs k
noncomputable def DPut(H:Hp)(a:Addr)(y v:V)(H':Hp):Prop:=
 (∃kvs k,H a=some (.dK kvs)/\y=kV k/\kvs.length<sizeLine/\H'=upd H a (.dK (putK kvs k v))) ∨
 ∃kvs k b,H a=some (.dT kvs)/\y=.ref b/\H b=some (.tup (k.map kV))/\kvs.length<sizeLine/\H'=upd H a (.dT (putK kvs k v))
theorem DGet.k{H:Hp}{a:Addr}{kvs:List (Key×V)}{k:Key}(e:H a=some (.dK kvs)):DGet H a (kV k) (valV kvs k):=.inl ⟨kvs,k,.inl e,J,J⟩
theorem DPut.k{H:Hp}{a:Addr}{kvs:List (Key×V)}{k:Key}{v:V}(e:H a=some (.dK kvs))(B:kvs.length<sizeLine):DPut H a (kV k) v (upd H a (.dK (putK kvs k v))):=.inl ⟨kvs,k,e,J,B,J⟩
section
variable {X:Cx}{pins:List (Addr×Obj)}{σ:St}{H:Hp}{s:Shared}{a:Addr}{y v:V}{u r:Value}{o:Option V}{A:Around}{E:Value->Shared->Prop}
theorem Inv.big(B:Inv X pins σ H s):sysModules<s.heap.objs.size:=by
 have h:mainGlobals<s.heap.objs.size:=(B.mod.glob.keeps B.bk).lt;exact Nat.lt_trans (by decide) h
theorem zid{Q:Value->Shared->Prop}(O:A.units+1<cLine)(D:Inv X pins σ H s)(g:DGet H a y (some v))(J0:RelV y u)(h:∀B s',Inv X pins σ H s'->RelV v B->Q B s') :
  wpAny (model X.prog X.w) A (getItem (.ref a) u) Q E s:=by
 rcases g with⟨kvs,k,e,F,l⟩|⟨kvs,k,b,e,F,U,l⟩
 .subst F;obtain⟨z,V,vs,G,dd⟩:=zjL D.hok e;obtain⟨B,hw,I⟩:=RelO.some_of (v:=v) (o:=valueAt vs k) (by rw[l];exact G.val k);exact wpAny_getItem_of (zhm J0) dd.mapOf hw (h B _ (D.tok _) I)
 .subst F;cases (show u=Value.ref b from J0);obtain⟨z,V,xs,G,dd⟩:=zjM D.hok e;obtain⟨B,hw,I⟩:=RelO.some_of (v:=v) (o:=(atKey xs k).map (·.2)) (by rw[l];exact G.val k);obtain⟨p,W,Y⟩:=Option.map_eq_some_iff.mp hw;refine wpAny_getItem_heap (tupleKind_room_in1 O) (zfw D.hok U) dd W ?_;rw[Y];exact h B _ (D.tok _) I
theorem d_in{Q:Value->Shared->Prop}(J0:A.units+1<cLine)(B:Inv X pins σ H s)(g:DGet H a y o)(I:RelV y u)(h:∀s',Inv X pins σ H s'->Q (.bool o.isSome) s') :
  wpAny (model X.prog X.w) A (compareOp .In u (.ref a)) Q E s:=by
 rcases g with⟨kvs,k,e,D,l⟩|⟨kvs,k,b,e,D,O,l⟩
 .subst D;obtain⟨z,F,vs,G,dd⟩:=zjL B.hok e;refine wpAny_in_of (zhm I) F dd.mapOf ?_;rw[←(G.val k).isSome_eq,←l];exact h _ (B.tok _)
 .subst D;cases (show u=Value.ref b from I);obtain⟨z,F,xs,G,dd⟩:=zjM B.hok e;refine wpAny_in_heap (tupleKind_room_in1 J0) (zfw B.hok O) F dd ?_;have q:=(G.val k).isSome_eq;rw[Option.isSome_map] at q;rw[←q,←l];exact h _ (B.tok _)
theorem zeB{h':Heap}{t':Nat}{ob:HO}(B:Inv X pins σ H s)(D:Mut (H a))(F:Heap.SameBut a s.heap h')(G:∃q,h'.get? a=some q)(I:ObjOk X.prog X.w (upd H a ob) h' a ob) :
  Inv X pins σ (upd H a ob) { s with heap:=h',toks:=t' }:=
 B.write (x:=a) (e:=a) D (.inl J) (λb q J0 z=>(F.2 b J0).trans z) G I
theorem zmc{P:Program}{w:World}{H':Hp}{h':Heap}{kvs:List (Key×V)}{vs:List (Key×Value)}(z:kvs.length<=sizeLine)(B:(a==sysModules)=false)(D:KV kvs vs)(dd:h'.DictOf (zaF P w) a vs) :
  ObjOk P w H' h' a (.dK kvs):=⟨z,B,vs,D,dd⟩
theorem zie{H':Hp}{Q:Unit->Shared->Prop}(ac:A.units+1<cLine)(B:Inv X pins σ H s)(g:DPut H a y v H')(Y:RelV y u)(Z:RelV v r)(h:∀s',Inv X pins σ H' s'->Q () s') :
  wpAny (model X.prog X.w) A (setItem (.ref a) u r) Q E s:=by
 rcases g with⟨kvs,k,e,I,l,J0⟩|⟨kvs,k,b,e,I,aa,l,J0⟩
 .subst I J0;obtain⟨z,O,vs,D,dd⟩:=zmb B.hok e;have U:vs.length<=sizeLine:=by rw[←D.length];exact z
  have V:(putK kvs k v).length<=sizeLine:=by have:=zb5 kvs k v;omega
  refine wpAny_setItem_pairs (hsz:=U) (zhm Y) dd λh' F W=>h _ ?_;have ad:∃q,h'.get? a=some q:=let ⟨q,_,_,G,_⟩:=F;⟨q,G⟩;exact zeB B (by rw[e];exact True.intro) W ad (zmc V O (D.put k Z) F)
 .subst I J0;cases (show u=Value.ref b from Y);obtain⟨z,O,xs,D,dd⟩:=zmE B.hok e;have U:xs.length<=sizeLine:=by rw[←Paired.length D];exact z
  have V:(putK kvs k v).length<=sizeLine:=by have:=zb5 kvs k v;omega
  refine wpAny_setItem_heap (hsz:=U) (tupleKind_room_in1 ac) (zfw B.hok aa) dd λh' F W=>h _ ?_;obtain⟨q,es,ep,G,h2,ae,af,_,ag⟩:=F;refine zeB B (by rw[e];exact True.intro) W ⟨q,G⟩ ⟨V,O,_,(D.put k aa Z).keeps λc ys ab=>?_,q,es,ep,G,h2,ae,af,ag⟩;rw[zak (zar ab e (λz=>nomatch z))];exact ab
end
section
variable {X:Cx}{pins:List (Addr×Obj)}{σ:St}{H:Hp}{s:Shared}{a:Addr}{kvs:List (Key×V)}{k:Key}{u:Value}{A:Around}{E:Value->Shared->Prop}
end
noncomputable def NoSl(i:Expr):Prop:=∀B D,subscripted i false B D=operate [B,D] (getItem B D)
theorem zf2{prog:Program}{w:World}{A:Around}{E:Value->Shared->Prop}{s:Shared}{env:Env}{value B:Expr}{pos:Pos}{T id:String}{Q:Value->Shared->Prop}(U:typeLookup (.type T) "__getitem__"=pure (some (.builtin id)))(V:NoSl B)(h:wpAny (model prog w) A (eval value env) (λo I=>wpAny (model prog w) A (eval B env) (λi D=>D.TypeIs o T/\wpAny (model prog w) A (getItem o i) Q E D) E I) E s) :
  wpAny (model prog w) A (eval (.Subscript value B pos) env) Q E s:=by
 refine Subscript_ (wpAny_mono h (λo I W=>wpAny_mono W (λi D F=>?_) λ_ _ x=>x) λ_ _ x=>x);obtain⟨J0,F⟩:=F;unfold subscriptTail;refine wpAny_bind ?_;rw[getitemInPython_of_ne J0.not_modules];refine wpAny_bind (wpAny_specialOf J0 U ?_);have G:wpAny (model prog w) A (subscripted B false o i) (λr O=>wpAny (model prog w) A (letTemporaryGo value o r >>= λ_=>pure r) Q E O) E D:=by
  rw[V o i];exact wpAny_operating (wpAny_mono F (λr O Y=>wpAny_bind (wpAny_letTemporaryGo (wpAny_pure Y))) λ_ _ x=>x)
 first
  |exact wpAny_pure (wpAny_bind G)
  |exact wpAny_bind (wpAny_pure (wpAny_bind G))
  |exact wpAny_bind G
theorem zf3{X:Cx}{pins:List (Addr×Obj)}{σ:St}{H:Hp}{s:Shared}{a:Addr}{y:V}{o:Option V}(B:Inv X pins σ H s)(g:DGet H a y o):s.TypeIs (.ref a) "dict":=by
 rcases g with⟨kvs,k,e,_,_⟩|⟨kvs,k,b,e,_,_,_⟩
 .obtain⟨_,_,vs,_,dd⟩:=zjL B.hok e;exact dd.typeIs
 .obtain⟨_,_,xs,_,dd⟩:=zjM B.hok e;exact dd.typeIs
noncomputable def tDGet(td ty:TE):TE:=λσ H Q=>td σ H λx H1=>ty σ H1 λy H2=>∃a v,x=.ref a/\DGet H2 a y (some v)/\Q v H2
noncomputable def tDIn(ty td:TE):TE:=λσ H Q=>ty σ H λy H1=>td σ H1 λx H2=>∃a o,x=.ref a/\DGet H2 a y o/\Q (.bl o.isSome) H2
noncomputable def sDPut(td ty tv:TE):TS:=λD σ H=>tv σ H λv H1=>td σ H1 λx H2=>ty σ H2 λy F=>∃a B,x=.ref a/\DPut F a y v B/\D.nx σ B
section
variable {X:Cx}{o i e value:Expr}{pos pos' tpos:Pos}{td ty tv:TE}
theorem zeC(D:X.A.units+1<cLine)(F:PE X o td)(hi:PE X i ty)(G:NoSl i):PE X (.Subscript o i pos) (tDGet td ty):=by
 intro pins s σ H Q I h;refine zf2 PySem.F.slot_dict_getitem.lookup G (thn (F pins s σ H _ I h) λu J0 O=>?_);obtain⟨x,H1,U,V,q1⟩:=O;refine thn (hi pins J0 σ H1 _ U q1) λac ad W=>?_;obtain⟨y,H2,B,Y,a,v,ex,g,Z⟩:=W;subst ex;obtain rfl:u=Value.ref a:=V;exact⟨zf3 B g,zid D B g Y λae af aa ab=>⟨v,H2,aa,ab,Z⟩⟩
theorem zif(B:X.A.units+1<cLine)(hi:PE X i ty)(D:PE X o td):PC X .In i o (tDIn ty td):=by
 intro pins s σ H Q F h;refine thn (hi pins s σ H _ F h) λab G I=>?_;obtain⟨y,H1,J0,O,q1⟩:=I;refine thn (D pins G σ H1 _ J0 q1) λu ac U=>?_;obtain⟨x,H2,V,W,a,Y,ex,g,Z⟩:=U;subst ex;obtain rfl:u=Value.ref a:=W;exact d_in B V g O λad aa=>⟨.bl Y.isSome,H2,aa,J,Z⟩
theorem zf4(B:X.A.units+1<cLine)(F:PE X o td)(hi:PE X i ty)(G:PE X value tv)(I:swapsWith value (some (.Subscript o i pos')) pos.line X.env=pure false) :
  PS X (.Assign [.Subscript o i pos'] value pos) (sDPut td ty tv):=by
 intro pins s σ H D J0 h;refine wpAny_Assign_Subscript (thn (G pins s σ H _ J0 h) λr O U=>?_) I;obtain⟨v,H1,V,W,q1⟩:=U;refine thn (F pins O σ H1 _ V q1) λu Y Z=>?_;obtain⟨x,H2,aa,ab,ac⟩:=Z;refine thn (hi pins Y σ H2 _ aa ac) λaj ak ad=>?_;obtain⟨y,al,ae,af,a,ag,ex,g,ah⟩:=ad;subst ex;obtain rfl:u=Value.ref a:=ab;exact zie B ae g af W λam ai=>⟨σ,ag,ai,ah⟩
end
theorem zjN{P:Program}{w:World}{H:Hp}(h:Heap)(B:sysModules<h.objs.size):ObjOk P w H (h.push { cls:=.type "dict",data:=.dict #[] }) h.objs.size (.dK []):=
 ⟨Nat.zero_le _,beq_eq_false_iff_ne.mpr (Ne.symm (Nat.ne_of_lt B)),[],.nil,Heap.DictOf.new h⟩
noncomputable def zmd:TE:=λ_ H Q=>∀p,H p=none->Q (.ref p) (upd H p (.dK []))
section
variable {X:Cx}{pos:Pos}
theorem zgG:PE X (.Dict [] [] pos) zmd:=λpins s σ H Q B h=>
 wpAny_Dict_empty ⟨.ref s.heap.objs.size,_,B.laid (a:=s.heap.objs.size) (o:=.dK []) (t':=s.toks) (λ_ _ q=>Heap.get?_push_of_some _ q) (Nat.le_refl _) (zjN s.heap B.big),J,h _ (B.hok.fresh (Nat.le_refl _))⟩
end
section
variable {X:Cx}{pins:List (Addr×Obj)}{σ:St}{H:Hp}{s:Shared}{a:Addr}{y d:V}{u r:Value}{o:Option V}{A:Around}{E:Value->Shared->Prop}
end
section
variable {X:Cx}{o e f:Expr}{apos cpos:Pos}{td ty tx:TE}
end
section
variable {X:Cx}{pins:List (Addr×Obj)}{σ:St}{H:Hp}{s:Shared}{a:Addr}{kvs:List (Key×V)}{A:Around}{E:Value->Shared->Prop}
end
section
variable {X:Cx}{pins:List (Addr×Obj)}{σ:St}{H:Hp}{s:Shared}{a:Addr}{y:V}{u:Value}{A:Around}{E:Value->Shared->Prop}
end
section
variable {κ:Type} [DecidableEq κ]
theorem zlc{kvs:List (κ×V)}{k:κ}{v:V}(h:valV kvs k=some v):k∈kvs.map (·.1):=by
 have q:(kvs.any λB=>decide (B.1=k))=true:=by
  rw[zb4,h]
  all_goals rfl
 obtain⟨p,D,e⟩:=List.any_eq_true.mp q;exact List.mem_map.mpr ⟨p,D,of_decide_eq_true e⟩
end
section
variable {P:Program}{w:World}{A:Around}{X:Value->Shared->Prop}{s:Shared}{b:Array Keyed}
end
theorem zld{X:Cx}:MtR X "str.join" (λx vs H Q=>∃(G:Str) (l:Addr) (xs:List Str),x=.str G/\vs=[.ref l]/\SqL X.K H l (xs.map V.str)/\xs.length<=20000/\G.length<=100/\(∀y∈xs,y.length<=100)/\Q (.str (PySem.Builtin.Str.glued G xs)) H):=by
 intro pins s σ H x vs v us Q I O U h;obtain⟨G,l,xs,rfl,rfl,W,h1,Y,Z,q⟩:=h;obtain⟨t,rfl⟩:=O;obtain⟨u,rfl,aa⟩:=U.one;cases aa;obtain⟨its,r,pl,_⟩:=I.list W;obtain⟨ab,ac⟩:=zcv r;have ad:=zcl ac;have D:(its.map λu=>(strOf u,tokOf u)).map (·.1)=xs:=by rw[List.map_map,←ab];rfl
 have ae:s.heap.IsList l (strValues (its.map λu=>(strOf u,tokOf u))).toArray:=by rw[←ad];exact pl.isList
 have J0:PySem.Builtin.Str.tooLong ((xs.toArray.foldl (λa y=>a+y.length+G.length) 0))=false:=
  StrLaws.joinFits (B:=100) Z (by have:xs.length*G.length<=20000*100:=Nat.mul_le_mul h1 Y;omega)
 refine call_meets F.slot_str_join (typeIs_str s G t) F.entry_str_join (F.args_str_join_2 _ _) (meets_str_join_list G t l (its.map λu=>(strOf u,tokOf u)) (by rw[D];exact J0)) ⟨ae,?_⟩;generalize its.map (λu=>(strOf u,tokOf u))=ps at D
 match ps,D with
 |[],D=>
  subst D;exact⟨by show (0:Nat)<=_;exact Nat.zero_le _,⟨.str _,H,I.tok _,⟨_,J⟩,q⟩⟩
 |[p],D=>
  subst D;exact⟨.str _,H,I,⟨_,J⟩,q⟩
 |p::p2::af,D=>
  subst D;exact⟨joinFit_length J0,⟨.str _,H,I.tok _,⟨_,J⟩,q⟩⟩
noncomputable def zle(F G I:R2)(ta tb tc td:TE):TT:=λσ H Q=>ta σ H λx H1=>tb σ H1 λy H2=>F x y H2 λz B=>∃k,z=.bl k /\
 (if k=true then tc σ B λu J0=>G y u J0 λO D=>∃k2,O=.bl k2/\(if k2=true then td σ D λv U=>I u v U λV W=>∃k3,V=.bl k3/\Q k3 W else Q false D) else Q false B)
theorem zig{X:Cx}{a b c d:Expr}{ta tb tc td:TE}{pos:Pos}{B D F:CmpOp}{J0 O U:R2}(h1:OpR X (compareOp B) J0)(h2:OpR X (compareOp D) O)(ag:OpR X (compareOp F) U)(ah:PE X a ta)(ai:PE X b tb)(aj:PE X c tc)(ak:PE X d td)(al:lastMarks [B,D,F] [b,c,d]=false:=by with_unfolding_all rfl):PT X (.Compare a [B,D,F] [b,c,d] pos) (zle J0 O U ta tb tc td):=by
 intro pins s σ H Q am h;refine isTrue_chain (thn (ah pins s σ H _ am h) λv ao ⟨x,H1,ap,aq,q1⟩=>test_link (thn (ai pins ao σ H1 _ ap q1) λu ar ⟨y,H2,as,V,au⟩=>
  thn (h1 pins ar σ H2 x y v u _ as aq V au) λ_ av ⟨z,W,Y,aw,k,ax,Z⟩=>?_)) al
 subst ax;cases aw;refine wpAny_truthy_bool ?_;cases k with
 |false=>exact ite_ff ⟨W,Y,Z⟩
 |true=>
  refine ite_tt (test_link (thn (aj pins av σ W _ Y Z) λaa ay G=>?_));obtain⟨ab,az,aA,ac,aB⟩:=G;refine thn (h2 pins ay σ az y ab u aa _ aA V ac aB) λ_ aC I=>?_;obtain⟨aR,ad,ae,aD,k2,aE,af⟩:=I;subst aE;cases aD;refine wpAny_truthy_bool ?_;cases k2 with
  |false=>exact ite_ff ⟨ad,ae,af⟩
  |true=>
   refine ite_tt (test_last (thn (ak pins aC σ ad _ ae af) λaF aG G=>?_));obtain⟨aH,aI,aJ,aK,aL⟩:=G;refine thn (ag pins aG σ aI ab aH aa aF _ aJ ac aK aL) λ_ aS I=>?_;obtain⟨aT,aM,aN,aO,k3,aP,aQ⟩:=I;subst aP;cases aO;exact wpAny_truthy_bool ⟨aM,aN,aQ⟩
section
variable {X:Cx}
end
section
variable {X:Cx}{sc:Scope}{cl:List (Str×Addr)}{N':List Str}{s:Shared}{H:Hp}{fp:List Addr}
end
theorem zeD{X:Cx}(U:X.calm=true):CallR X (.builtin "max") (λxs H Q=>∃(p:Addr) (B:List Int),xs=[.ref p]/\SqL X.K H p (B.map V.int)/\0<B.length/\∀M,M∈B->(∀a∈B,a<=M)->Q (.int M) H):=by
 intro pins s σ H xs us Q D r h;obtain⟨p,B,rfl,W,Y,q⟩:=h;obtain⟨u,rfl,Z⟩:=vals1 r;cases Z;obtain⟨its,aa,pl,ae⟩:=D.list W;have hi:IntsAre its B:=zef aa;obtain⟨zs,G⟩:=hi.allInts.items;have I:=pl.isList;have F:B=zs.toList.map (·.1):=by rw[←hi.numsOf,←nums_intItems,←G]
 have hsz:0<zs.size:=by
  have J0:=Y;rw[F,List.length_map,Array.length_toList] at J0;exact J0
 rw[G] at I;refine max_intList (D.ok.hd U) I hsz λv h' tk ab ac=>?_;obtain⟨t,rfl⟩:=intItems_at ab;obtain⟨h1,h2⟩:=argBest_gt (numAt zs) (zs.size-1);refine⟨.int _,H,D.kept (t':=tk) ac,⟨_,J⟩,q _ ?_ λa O=>?_⟩
 .rw[F,numAt_eq];exact getD_mem (by rw[List.length_map,Array.length_toList];omega)
 .rw[F] at O;obtain⟨j,ad,rfl⟩:=mem_getD O;rw[List.length_map,Array.length_toList] at ad;rw[←numAt_eq];exact h2 j (by omega)
theorem bd0{B:Type}{f g:List Value->B}(h:f []=g [])(us:List Value)(e:us.length=0):f us=g us:=by
 rw[List.eq_nil_of_length_eq_zero e];exact h
theorem bdS{B:Type}{n:Nat}{f g:List Value->B}(h:∀a us,us.length=n->f (a::us)=g (a::us))(us:List Value)(e:us.length=n+1):f us=g us:=by
 cases us with
 |nil=>cases e
 |cons a r=>exact h a r (Nat.succ.inj e)
theorem bd1{B:Type}{f g:List Value->B}(h:∀a,f [a]=g [a]):∀us:List Value,us.length=1->f us=g us:=bdS λa=>bd0 (f:=λr=>f (a::r)) (g:=λr=>g (a::r)) (h a)
theorem bd2{B:Type}{f g:List Value->B}(h:∀a b,f [a,b]=g [a,b]):∀us:List Value,us.length=2->f us=g us:=bdS λa=>bd1 (f:=λr=>f (a::r)) (g:=λr=>g (a::r)) (h a)
theorem bd3{B:Type}{f g:List Value->B}(h:∀a b c,f [a,b,c]=g [a,b,c]):∀us:List Value,us.length=3->f us=g us:=bdS λa=>bd2 (f:=λr=>f (a::r)) (g:=λr=>g (a::r)) (h a)
theorem bd4{B:Type}{f g:List Value->B}(h:∀a b c d,f [a,b,c,d]=g [a,b,c,d]):∀us:List Value,us.length=4->f us=g us:=bdS λa=>bd3 (f:=λr=>f (a::r)) (g:=λr=>g (a::r)) (h a)
theorem bd5{B:Type}{f g:List Value->B}(h:∀a b c d e,f [a,b,c,d,e]=g [a,b,c,d,e]):∀us:List Value,us.length=5->f us=g us:=bdS λa=>bd4 (f:=λr=>f (a::r)) (g:=λr=>g (a::r)) (h a)
noncomputable abbrev NKey:=Sum Key (List Key)
section
variable (P:Program) (w:World)
noncomputable def ItemIs(h:Heap):NKey->Value->Prop
 |.inl k,v=>(zaF P w).is k v=true
 |.inr l,v=>∃d,v=.ref d/\IsTupleKey (zaF P w) h l d
inductive NItems(h:Heap):List NKey->List Value->Prop
 |nil:NItems h [] []
 |cons {k:NKey} {v:Value} {ks:List NKey} {vs:List Value}:ItemIs P w h k v->NItems h ks vs->NItems h (k::ks) (v::vs)
noncomputable def IsNest(h:Heap)(ks:List NKey)(a:Addr):Prop:=∃o B n,h.get? a=some o/\o.cls=.type "tuple"/\o.data=.seq B n/\NItems P w h ks B.toList
noncomputable def zbv:NKey->Int
 |.inl k=>(zaF P w).hash k
 |.inr l=>tupleKeyHash (zaF P w) l
noncomputable def zbU:NKey->Nat
 |.inl _=>1
 |.inr l=>l.length+1
noncomputable def zeE(ks:List NKey):Int:=reduceHash (Builtin.Tuple.tupleHashOf (ks.map (zbv P w)))
noncomputable def zdO(ks:List NKey):Nat:=(ks.map zbU).sum+1
end
section
variable {P:Program}{w:World}{A:Around}{E:Value->Shared->Prop}{s:Shared}
theorem ItemIs.inj{h:Heap}{x y:NKey}{v:Value}(D:ItemIs P w h x v)(B:ItemIs P w h y v):x=y:=by
 cases x with
 |inl k=>
  cases y with
  |inl F=>rw[(zaF P w).inj _ _ _ D B]
  |inr l=>
   obtain⟨d,rfl,_⟩:=B;have:=(zaF P w).byValue _ _ D;simp[carriedByValue] at this
 |inr l=>
  obtain⟨d,rfl,h1⟩:=D;cases y with
  |inl k=>
   have:=(zaF P w).byValue _ _ B;simp[carriedByValue] at this
  |inr l'=>
   obtain⟨d',e,h2⟩:=B;cases e;rw[h1.inj h2]
theorem NItems.inj{h:Heap}{x y:List NKey}{vs:List Value}(D:NItems P w h x vs)(B:NItems P w h y vs):x=y:=by
 induction D generalizing y with
 |nil=>cases B;rfl
 |cons h1 _ F=>
  cases B with
  |cons h2 G=>rw[ItemIs.inj h1 h2,F G]
theorem IsNest.typeIs{ks:List NKey}{a:Addr}(x:IsNest P w s.heap ks a):s.TypeIs (.ref a) "tuple":=let ⟨o,_,_,B,D,_⟩:=x;⟨o,B,D⟩
theorem IsNest.inj{h:Heap}{a:Addr}{x y:List NKey}(D:IsNest P w h x a)(F:IsNest P w h y a):x=y:=by
 obtain⟨o,U,n,G,_,I,hi⟩:=D;obtain⟨o',V,W,J0,_,B,O⟩:=F;obtain rfl:o=o':=Option.some.inj (G.symm.trans J0);rw[I] at B;injection B with h1 _;subst h1;exact hi.inj O
theorem NItems.keeps{h h':Heap}{ks:List NKey}{vs:List Value}(x:NItems P w h ks vs)(k:∀l d,IsTupleKey (zaF P w) h l d->IsTupleKey (zaF P w) h' l d):NItems P w h' ks vs:=by
 induction x with
 |nil=>exact .nil
 |@cons B v ks vs h1 _ D=>
  refine .cons ?_ D;cases B with
  |inl _=>exact h1
  |inr l=>obtain⟨d,e,h2⟩:=h1;exact⟨d,e,k l d h2⟩
theorem IsNest.keeps{h h':Heap}{ks:List NKey}{a d:Addr}{o:Obj}{es ep}(x:IsNest P w h ks a)(D:h.get? d=some o)(F:o.data=.dict es ep)(G:Heap.SameBut d h h'):IsNest P w h' ks a:=by
 obtain⟨o',J0,n,I,O,B,hi⟩:=x;have U:a≠d:=by
  rintro rfl;obtain rfl:o'=o:=Option.some.inj (I.symm.trans D);rw[F] at B;exact nomatch B
 exact⟨o',J0,n,(G.2 a U).trans I,O,B,hi.keeps λl d' q=>q.keeps D F G⟩
theorem zc8{ks:List NKey}{a:Addr}{Q:Int->Shared->Prop}(Y:A.units+4<cLine)(O:IsNest P w s.heap ks a)(h:Q (zeE P w ks) { s with toks:=s.toks+zdO ks }) :
  wpAny (model P w) A (pyHash (.ref a)) Q E s:=by
 have D:=O.typeIs;have U:A.units<cLine:=by omega
 obtain⟨o,Z,n,V,_,W,hi⟩:=O;unfold pyHash
 first|unfold pyHashByItsType|skip
 first|refine wpAny_bind (wpAny_cRoomFor_or (.inr U) ?_)|skip
 refine wpAny_bind (wpAny_specialOf D F.slot_tuple_hash.lookup ?_);show wpAny _ _ (if (some (Value.builtin "tuple.__hash__")==some Value.none)=true then _ else _) Q E s;rw[if_neg (by rw[beq_builtin_none];exact Bool.false_ne_true)];refine wpAny_bind (wpAny_specialOf D F.slot_tuple_hash.lookup ?_);show wpAny _ _ (callSpecialIfBoundUnlessNone? (.ref a) "__hash__" _ >>= _) Q E s;refine wpAny_bind (wpAny_callSpecialIfBoundUnlessNone?_slot D F.slot_tuple_hash (wpAny_call_entry F.slot_tuple_hash D F.entry_tuple_hash ?_ (F.args_tuple_hash_1 _)));show wpAny _ _ (Builtin.Tuple.tupleItemsOf (.ref a) >>= _) _ _ s;refine wpAny_bind (wpAny_tupleItemsOf V W ?_);refine wpAny_bind ?_;rw[←Array.forIn_toList];refine wpAny_forIn_list _
  (λrest (b:Array Int) s'=>∃done left,ks=done++left/\NItems P w s.heap left rest/\b.toList=done.map (zbv P w)/\s'={ s with toks:=s.toks+(done.map zbU).sum })
  _ ?_ ?_ _ _ ⟨[],ks,J,hi,J,J⟩
 .rintro x rest b s' ⟨done,left,rfl,J0,B,rfl⟩;cases J0 with
  |@cons k _ ks' _ h1 G=>
   cases k with
   |inl k=>
    refine wpAny_bind ((zaF P w).pyHash h1 ?_)
    first
     |exact wpAny_pure ⟨done++[.inl k],ks',by simp,G,by simp[B,zbv],by simp[zbU,Nat.add_assoc]⟩
     |exact wpAny_bind (wpAny_pure (wpAny_pure ⟨done++[.inl k],ks',by simp,G,by simp[B,zbv],by simp[zbU,Nat.add_assoc]⟩))
   |inr l=>
    obtain⟨d,rfl,h2⟩:=h1;refine wpAny_bind (wpAny_pyHash_tuple (knd:=zaF P w) (ks:=l) ?_ h2 ?_)
    .show A.units+1<cLine;omega
    first
     |exact wpAny_pure ⟨done++[.inr l],ks',by simp,G,by simp[B,zbv],by simp[zbU,Nat.add_assoc]⟩
     |exact wpAny_bind (wpAny_pure (wpAny_pure ⟨done++[.inr l],ks',by simp,G,by simp[B,zbv],by simp[zbU,Nat.add_assoc]⟩))
 .rintro b s' ⟨done,left,rfl,J0,B,rfl⟩;cases J0;rw[List.append_nil] at h;unfold zdO at h;show wpAny _ _ (retInt (Builtin.Tuple.tupleHashOf b.toList)) _ _ _;rw[B];refine wpAny_ret_mkInt ?_;show wpAny _ _ (if (decide (-(2:Int) ^ 63<=Builtin.Tuple.tupleHashOf (done.map (zbv P w)))&&decide (Builtin.Tuple.tupleHashOf (done.map (zbv P w))<2 ^ 63))=true then _ else _) Q E _;unfold zeE reduceHash at h;by_cases I:(decide (-(2:Int) ^ 63<=Builtin.Tuple.tupleHashOf (done.map (zbv P w)))&&decide (Builtin.Tuple.tupleHashOf (done.map (zbv P w))<2 ^ 63))=true
  .rw[if_pos I];rw[if_pos I] at h;exact wpAny_pure (by simpa [Nat.add_assoc] using h)
  .rw[if_neg I];rw[if_neg I] at h;exact wpAny_bind (wpAny_rule (wpAny_pure (by simpa [Nat.add_assoc] using h)))
theorem zfx{x y:List NKey}{a b:Addr}{R:Fin->Shared->Prop}(af:A.units<cLine)(ag:IsNest P w s.heap x a)(aa:IsNest P w s.heap y b)(sh:x.map Sum.isLeft=y.map Sum.isLeft)(h:R (.done (.ret (.bool (decide (x=y))))) s) :
  wpAny (model P w) A (Builtin.«tuple.__eq__» ⟨[.ref a,.ref b],[]⟩) R E s:=by
 have ah:=aa.typeIs;obtain⟨az,xs,aA,ai,_,aj,ak⟩:=ag;obtain⟨ob,ys,aB,al,_,am,ao⟩:=aa;show wpAny _ _ (isInstance (.ref b) (.type "tuple") >>= _) _ _ s;refine wpAny_bind (wpAny_isInstance ah isSubtype_tuple_tuple ?_);simp only[Bool.not_true,Bool.false_eq_true,if_false];refine wpAny_bind (wpAny_tupleItemsOf ai aj ?_);refine wpAny_bind (wpAny_tupleItemsOf al am ?_);refine wpAny_bind ?_;refine wpAny_forIn_list _
  (λrest r s'=>r.1=none/\s'=s/\∃x' y' F G,rest=List.zip F G/\NItems P w s.heap x' F/\NItems P w s.heap y' G/\x'.map Sum.isLeft=y'.map Sum.isLeft/\decide (x'=y')=decide (x=y)/\(F.length==G.length)=(xs.size==ys.size))
  _ ?_ ?_ _ _ ⟨J,J,x,y,xs.toList,ys.toList,J,ak,ao,sh,J,by simp⟩
 .rintro⟨u,v⟩ rest r s' ⟨V,rfl,x',y',F,G,D,W,I,Y,J0,Z⟩;cases W with
  |nil=>simp at D
  |@cons k1 aC ab ap h1 aq=>
   cases I with
   |nil=>simp at D
   |@cons k2 aD ac ar h2 as=>
    simp only[List.zip_cons_cons,List.cons.injEq,Prod.mk.injEq] at D;obtain⟨⟨rfl,rfl⟩,rfl⟩:=D;rw[List.map_cons,List.map_cons] at Y;injection Y with ad au;have step:∀Q:Bool->Shared->Prop,Q (decide (k1=k2)) s'->wpAny (model P w) A (eqBool u v) Q E s':=λQ q=>by
     cases k1 with
     |inl k1=>
      cases k2 with
      |inl k2=>
       refine(zaF P w).eqBool (a:=k1) (b:=k2) h1 h2 ?_;have e:decide ((Sum.inl k1:NKey)=Sum.inl k2)=decide (k1=k2):=by
        by_cases B:k1=k2
        .rw[B];simp
        .rw[decide_eq_false B,decide_eq_false (λz=>B (Sum.inl.inj z))]
       rw[←e];exact q
      |inr _=>simp at ad
     |inr O=>
      cases k2 with
      |inl _=>simp at ad
      |inr U=>
       obtain⟨aE,rfl,av⟩:=h1;obtain⟨aF,rfl,aw⟩:=h2;refine wpAny_eqBool_tuple (knd:=zaF P w) (x:=O) (y:=U) af av aw ?_;have e:decide ((Sum.inr O:NKey)=Sum.inr U)=decide (O=U):=by
        by_cases B:O=U
        .rw[B];simp
        .rw[decide_eq_false B,decide_eq_false (λz=>B (Sum.inr.inj z))]
       rw[←e];exact q
    refine wpAny_bind (step _ ?_);by_cases B:k1=k2
    .subst B;rw[decide_eq_true rfl];simp only[Bool.not_true,Bool.false_eq_true,if_false];refine wpAny_pure ⟨J,J,ab,ac,ap,ar,J,aq,as,au,?_,by simpa using Z⟩;rw[←J0];by_cases ae:ab=ac
     .simp[ae]
     .simp[ae]
    .rw[decide_eq_false B];simp only[Bool.not_false,if_true];have ax:decide (x=y)=false:=by rw[←J0];simp[B]
     rw[ax] at h;exact wpAny_bind (wpAny_pure (wpAny_pure (wpAny_pure h)))
 .rintro⟨aG,aH⟩ s' ⟨V,rfl,x',y',F,G,D,W,I,Y,J0,Z⟩;simp only at V;subst V;refine wpAny_pure ?_;have ay:(xs.size==ys.size)=decide (x=y):=by
   rw[←J0,←Z];cases W with
   |nil=>
    cases I with
    |nil=>simp
    |cons _ _=>simp
   |cons _ _=>
    cases I with
    |nil=>simp
    |cons _ _=>simp at D
  show R (.done (.ret (.bool (xs.size==ys.size)))) s';rw[ay];exact h
theorem zc9{x y:List NKey}{a b:Addr}{Q:Bool->Shared->Prop}(I:A.units+4<cLine)(B:IsNest P w s.heap x a)(D:IsNest P w s.heap y b)(sh:x.map Sum.isLeft=y.map Sum.isLeft)(h:Q (decide (x=y)) s) :
  wpAny (model P w) A (eqBool (.ref a) (.ref b)) Q E s:=by
 unfold eqBool
 try with_reducible refine wpAny_holding ?_
 show wpAny _ _ (if (Value.ref a==Value.ref b)=true then _ else _) Q E s;by_cases G:(Value.ref a==Value.ref b)=true
 .rw[if_pos G];have e:a=b:=by have:=eq_of_beq G;injection this
  subst e;obtain rfl:=B.inj D;exact wpAny_bind (wpAny_rule (wpAny_pure (by simpa using h)))
 .rw[if_neg G];exact wpAny_bind (wpAny_richCompare_same_room (op:=.Eq) B.typeIs D.typeIs F.slot_tuple_eq
   (wpAny_call_entry F.slot_tuple_eq B.typeIs F.entry_tuple_eq (zfx (by first|exact(show A.units+1<cLine by omega)|exact(show A.units+2<cLine by omega)|exact(show A.units<cLine by omega)) B D sh ⟨_,J,(λe=>nomatch e),wpAny_truthy_bool h⟩) (F.args_tuple_eq_2 _ _)) (by omega))
theorem zhn{ks:List Key}{a:Addr}{Q:Bool->Shared->Prop}(m:Nat)(D:IsTupleKey (zaF P w) s.heap ks a)(h:Q true s):wpAny (model P w) A (eqIsQuiet (m+1) (.ref a)) Q E s:=by
 have G:=D.typeIs;obtain⟨o,J0,n,O,_,U,hi⟩:=D;unfold eqIsQuiet;refine wpAny_bind (wpAny_specialOf G F.slot_tuple_eq.lookup ?_);show wpAny _ _ (isInstance (.ref a) (.type "tuple") >>= _) _ _ s;refine wpAny_bind (wpAny_isInstance G isSubtype_tuple_tuple ?_);simp only[Bool.not_true,Bool.false_eq_true,if_false];refine wpAny_bind (wpAny_seqItems O U ?_);refine wpAny_bind ?_;show wpAny _ _ (forIn J0 _ _) _ _ s;rw[←Array.forIn_toList];refine wpAny_forIn_list _ (λrest r s'=>r.1=none/\s'=s/\∀v∈rest,carriedByValue v=true) _ ?_ ?_ _ _ ⟨J,J,hi.byValue⟩
 .rintro v rest r s' ⟨B,rfl,I⟩;rw[eqIsQuiet_byValue _ (I v List.mem_cons_self)];refine wpAny_bind (wpAny_pure ?_);simp only[Bool.not_true,Bool.false_eq_true,if_false];exact wpAny_pure ⟨J,J,λu V=>I u (List.mem_cons_of_mem _ V)⟩
 .rintro⟨W,Y⟩ s' ⟨B,rfl,_⟩;simp only at B;subst B;exact wpAny_pure h
theorem zho{ks:List NKey}{a:Addr}{Q:Bool->Shared->Prop}(D:IsNest P w s.heap ks a)(h:Q true s):wpAny (model P w) A (eqIsQuiet 8 (.ref a)) Q E s:=by
 have G:=D.typeIs;obtain⟨o,J0,n,O,_,U,hi⟩:=D;unfold eqIsQuiet;refine wpAny_bind (wpAny_specialOf G F.slot_tuple_eq.lookup ?_);show wpAny _ _ (isInstance (.ref a) (.type "tuple") >>= _) _ _ s;refine wpAny_bind (wpAny_isInstance G isSubtype_tuple_tuple ?_);simp only[Bool.not_true,Bool.false_eq_true,if_false];refine wpAny_bind (wpAny_seqItems O U ?_);refine wpAny_bind ?_;show wpAny _ _ (forIn J0 _ _) _ _ s;rw[←Array.forIn_toList];refine wpAny_forIn_list _ (λrest r s'=>r.1=none/\s'=s/\∃left,NItems P w s.heap left rest) _ ?_ ?_ _ _ ⟨J,J,ks,hi⟩
 .rintro v rest r s' ⟨B,rfl,left,V⟩;cases V with
  |@cons k _ ks' _ h1 I=>
   cases k with
   |inl k=>
    rw[eqIsQuiet_byValue _ ((zaF P w).byValue _ _ h1)];refine wpAny_bind (wpAny_pure ?_);simp only[Bool.not_true,Bool.false_eq_true,if_false];exact wpAny_pure ⟨J,J,ks',I⟩
   |inr l=>
    obtain⟨d,rfl,h2⟩:=h1;refine wpAny_bind (zhn 6 h2 ?_);simp only[Bool.not_true,Bool.false_eq_true,if_false];exact wpAny_pure ⟨J,J,ks',I⟩
 .rintro⟨W,Y⟩ s' ⟨B,rfl,_⟩;simp only at B;subst B;exact wpAny_pure h
end
noncomputable def zcT(P:Program)(w:World)(sh:List Bool):HeapKind P w (List NKey) where
 is:=λh ks a=>IsNest P w h ks a/\ks.map Sum.isLeft=sh
 hash:=zeE P w
 draws:=zdO
 room:=λA=>A.units+4<cLine
 inj:=λB D=>B.1.inj D.1
 keeps:=λx I J0 O=>⟨x.1.keeps I J0 O,x.2⟩
 pyHash:=λF G h=>zc8 F G.1 h
 eqBool:=λF B D h=>zc9 F B.1 D.1 (B.2.trans D.2.symm) h
 quiet:=λG h=>zho G.1 h
noncomputable abbrev NEnt:=List NKey×Addr×V
noncomputable abbrev NPair(p:NEnt)(q:List NKey×Addr×Value):Prop:=p.1=q.1/\p.2.1=q.2.1/\RelV p.2.2 q.2.2
noncomputable def dN(P:Program)(w:World)(sh:List Bool)(a:Addr)(kvs:List NEnt):HO:=.ext λh=>(a==sysModules)=false/\kvs.length<=sizeLine/\∃xs,Paired NPair kvs xs /\
 ∃o es ep,h.get? a=some o/\o.ExactDict/\o.data=.dict es ep/\es.toList=xs.map (entryOfKey (zcT P w sh))/\(xs.map (·.1)).Nodup
noncomputable def NV(H:Hp):NKey->V->Prop
 |.inl k,v=>v=kV k
 |.inr l,v=>∃d,v=.ref d/\H d=some (.tup (l.map kV))
noncomputable def NVs(H:Hp):List NKey->List V->Prop:=Paired (NV H)
noncomputable def zdP(H:Hp)(ks:List NKey)(a:Addr):Prop:=∃vs,H a=some (.tup vs)/\NVs H ks vs
noncomputable def zfy(H:Hp)(sh:List Bool)(kvs:List NEnt):Prop:=∀p∈kvs,zdP H p.1 p.2.1/\p.1.map Sum.isLeft=sh
noncomputable def nval(kvs:List NEnt)(k:List NKey):Option V:=(kvs.find? λp=>decide (p.1=k)).map (·.2.2)
section
variable {P:Program}{w:World}{H H':Hp}{h:Heap}{a:Addr}{sh:List Bool}{kvs:List NEnt}
theorem zmF{k:Key}{u:Value}(r:RelV (kV k) u):(zaF P w).is k u=true:=zhm r
theorem zeF{ks:List NKey}(D:HOk P w H h)(e:zdP H ks a):IsNest P w h ks a:=by
 obtain⟨vs,e,r⟩:=e;obtain⟨_,its,B,o,h1,h2,n,G⟩:=(show ObjOk P w H h a (.tup vs) from D a _ e);refine⟨o,its.toArray,n,h1,h2,G,?_⟩;have I:∀ {ks:List NKey} {vs:List V} {us:List Value},NVs H ks vs->Vals vs us->NItems P w h ks us:=by
  intro ks vs us r;induction r generalizing us with
  |nil=>intro B;cases B;exact .nil
  |@cons x v xs vs h1 _ J0=>
   intro B;cases B with
   |@cons _ u _ us F B=>
    refine .cons ?_ (J0 B);cases x with
    |inl k=>
     obtain rfl:v=kV k:=h1;exact zmF F
    |inr l=>
     obtain⟨d,rfl,h2⟩:=h1;obtain rfl:u=Value.ref d:=F;exact⟨d,J,zfw D h2⟩
 exact I r B
theorem zlf(B:HOk P w H h)(e:H a=some (dN P w sh a kvs))(G:zfy H sh kvs):(a==sysModules)=false/\kvs.length<=sizeLine/\∃xs,Paired NPair kvs xs/\h.DictOfH (zcT P w sh) a xs:=by
 obtain⟨⟨h1,h2,xs,r,o,es,ep,I,J0,O,U,V⟩,_,_⟩:=(show ObjOk P w H h a (dN P w sh a kvs) from B a _ e);refine⟨h1,h2,xs,r,o,es,ep,I,J0,O,U,λx hx=>?_,V⟩;have W:∀ {l:List NEnt} {m:List (List NKey×Addr×Value)},Paired NPair l m->(∀p∈l,zdP H p.1 p.2.1/\p.1.map Sum.isLeft=sh)->∀x∈m,(zcT P w sh).is h x.1 x.2.1:=by
  intro l m q;induction q with
  |nil=>intro _ x hx;exact nomatch hx
  |@cons p q ps aa D t Y=>
   intro F x hx;rcases List.mem_cons.mp hx with e|hx
   .subst e;have:=F p List.mem_cons_self;rw[D.1,D.2.1] at this;exact⟨zeF B this.1,this.2⟩
   .exact Y (λp Z=>F p (List.mem_cons_of_mem _ Z)) x hx
 exact W r G x hx
theorem zeG{xs:List (List NKey×Addr×Value)}(r:Paired NPair kvs xs)(k:List NKey):RelO (nval kvs k) ((atKey xs k).map (·.2)):=by
 induction r with
 |nil=>exact trivial
 |@cons p q ps B F t G=>
  obtain⟨h1,h2,I⟩:=F;by_cases e:p.1=k
  .have D:q.1=k:=h1.symm.trans e;have b:atKey (q::B) k=some q.2:=by simp[atKey,List.find?_cons,D]
   have c:nval (p::ps) k=some p.2.2:=by simp[nval,List.find?_cons,e]
   rw[c,b];exact I
  .have D:¬q.1=k:=λz=>e (h1.trans z);have b:atKey (q::B) k=atKey B k:=by simp[atKey,List.find?_cons,D]
   have c:nval (p::ps) k=nval ps k:=by simp[nval,List.find?_cons,e]
   rw[c,b];exact G
end
section
variable {X:Cx}
theorem zdQ(B:X.A.units+6<cLine)(sh:List Bool):(zcT X.prog X.w sh).room X.A.in1:=by
 show X.A.units+1+4<cLine;omega
noncomputable def zih(P:Program)(w:World)(sh:List Bool):R2:=λx y H Q=>∃r a ks kvs,x=.ref r/\y=.ref a/\H a=some (dN P w sh a kvs)/\zfy H sh kvs/\zdP H ks r/\ks.map Sum.isLeft=sh/\Q (.bl (!(nval kvs ks).isSome)) H
theorem zii(D:X.A.units+6<cLine)(sh:List Bool):OpR X (compareOp .NotIn) (zih X.prog X.w sh):=by
 intro pins s σ H x y v u Q B F G h;obtain⟨r,a,ks,kvs,rfl,rfl,I,J0,O,U,q⟩:=h;cases F;cases G;obtain⟨V,Y,xs,W,dd⟩:=zlf B.hok I J0;refine wpAny_notIn_heap (zdQ D sh) ⟨zeF B.hok O,U⟩ V dd ?_;have e:=(zeG W ks).isSome_eq;rw[Option.isSome_map] at e;rw[←e];exact⟨.bl _,H,B.tok _,J,q⟩
theorem zij{i o:Expr}{ty td:TE}(B:X.A.units+6<cLine)(sh:List Bool)(hi:PE X i ty)(D:PE X o td):PC X .NotIn i o (tOp (zih X.prog X.w sh) ty td):=by
 intro pins s σ H Q F h;refine thn (hi pins s σ H _ F h) λG I J0=>?_;obtain⟨y,H1,O,U,q1⟩:=J0;refine thn (D pins I σ H1 _ O q1) λu V W=>?_;obtain⟨x,H2,Y,Z,aa⟩:=W;exact zii B sh pins V σ H2 y x G u Q Y U Z aa
noncomputable def rIxN(P:Program)(w:World)(sh:List Bool):R2:=λx y H Q=>∃a r ks kvs v,x=.ref a/\y=.ref r/\H a=some (dN P w sh a kvs)/\zfy H sh kvs/\zdP H ks r/\ks.map Sum.isLeft=sh/\nval kvs ks=some v/\Q v H
theorem zme{o i:Expr}{pos:Pos}{td ty:TE}(D:X.A.units+6<cLine)(sh:List Bool)(F:PE X o td)(hi:PE X i ty)(G:NoSl i):PE X (.Subscript o i pos) (tOp (rIxN X.prog X.w sh) td ty):=by
 intro pins s σ H Q I h;refine zf2 PySem.F.slot_dict_getitem.lookup G (thn (F pins s σ H _ I h) λu J0 O=>?_);obtain⟨x,H1,U,V,q1⟩:=O;refine thn (hi pins J0 σ H1 _ U q1) λak al W=>?_;obtain⟨y,H2,B,Y,a,r,ks,kvs,v,ex,Z,aa,ab,ac,ad,ae,af⟩:=W;subst ex Z;cases V;cases Y;obtain⟨am,ao,xs,ag,dd⟩:=zlf B.hok aa ab;refine⟨dd.typeIs,?_⟩;obtain⟨ap,hw,ah⟩:=RelO.some_of (v:=v) (o:=(atKey xs ks).map (·.2)) (by rw[←ae];exact zeG ag ks);obtain⟨p,ai,aj⟩:=Option.map_eq_some_iff.mp hw;refine wpAny_getItem_heap (zdQ D sh) ⟨zeF B.hok ac,ad⟩ dd ai ?_;rw[aj];exact⟨v,H2,B.tok _,ah,af⟩
noncomputable def rSetN(P:Program)(w:World)(sh:List Bool):TSet:=λo i v H Q=>∃a r ks kvs,o=.ref a/\i=.ref r/\H a=some (dN P w sh a kvs)/\zfy H sh kvs/\zdP H ks r/\ks.map Sum.isLeft=sh/\nval kvs ks=none/\kvs.length<sizeLine/\Q (upd H a (dN P w sh a (kvs++[(ks,r,v)])))
theorem zmG(O:X.A.units+6<cLine)(sh:List Bool):PSet X (rSetN X.prog X.w sh):=by
 intro pins s σ H o i v av aw u Q B U V W h;obtain⟨a,r,ks,kvs,rfl,rfl,I,Y,Z,aa,ab,ax,q⟩:=h;cases U;cases V;obtain⟨ac,ad,xs,D,dd⟩:=zlf B.hok I Y;have ae:atKey xs ks=none:=by
  have e:=(zeG D ks).isSome_eq;rw[Option.isSome_map,ab] at e;cases g:atKey xs ks with
  |none=>rfl
  |some _=>rw[g] at e;cases e
 refine wpAny_setItem_heap (hsz:=by rw[←Paired.length D];exact ad) (zdQ O sh) ⟨zeF B.hok Z,aa⟩ dd λh' J0 af=>?_;rw[storedH_new ae] at J0;obtain⟨F,es,ep,G,h2,ag,ah,_,ai⟩:=J0;have aj:(a==sysModules)=false/\(kvs++[(ks,r,v)]).length<=sizeLine/\∃xs,Paired NPair (kvs++[(ks,r,v)]) xs/\∃o es ep,h'.get? a=some o/\o.ExactDict/\o.data=.dict es ep/\es.toList=xs.map (entryOfKey (zcT X.prog X.w sh))/\(xs.map (·.1)).Nodup:=
  ⟨ac,by rw[List.length_append];show _+1<=_;omega,xs++[(ks,r,u)],Paired.snoc D ⟨J,J,W⟩,F,es,ep,G,h2,ag,ah,ai⟩
 refine⟨upd H a (dN X.prog X.w sh a (kvs++[(ks,r,v)])),zeB B (by rw[I];exact True.intro) af ⟨F,G⟩ ⟨aj,⟨F,G⟩,?_⟩,q⟩;rintro ay az ⟨ak,al,am,ao,o',ap,aq,ar,as⟩ au;exact⟨ak,al,am,ao,o',ap,aq,au _ ar,as⟩
theorem zjO(sh:List Bool){pos:Pos}:PE X (.Dict [] [] pos) (λ_ H Q=>∀p,H p=none->Q (.ref p) (upd H p (dN X.prog X.w sh p []))):=λpins s σ H Q B h=>by
 refine wpAny_Dict_empty ⟨.ref s.heap.objs.size,_,B.laid (a:=s.heap.objs.size) (o:=dN X.prog X.w sh s.heap.objs.size []) (t':=s.toks) (λ_ _ q=>Heap.get?_push_of_some _ q) (Nat.le_refl _) ?_,J,h _ (B.hok.fresh (Nat.le_refl _))⟩;refine⟨⟨beq_eq_false_iff_ne.mpr (Ne.symm (Nat.ne_of_lt B.big)),Nat.zero_le _,[],.nil,_,#[],0,Heap.get?_push_size _ J,⟨J,J,J⟩,J,J,List.nodup_nil⟩,⟨_,Heap.get?_push_size _ J⟩,?_⟩;rintro Y Z ⟨D,F,G,I,o',J0,O,U,V⟩ W;exact⟨D,F,G,I,o',J0,O,W _ U,V⟩
end
theorem zlg{ys:List V}:∀ {its:List Value},ys.length=its.length->(∀(j:Nat) (y:V) (v:Value),ys[j]?=some y->its[j]?=some v->RelV y v)->Vals ys its:=by
 induction ys with
 |nil=>
  intro its h _;cases its with
  |nil=>exact .nil
  |cons _ _=>cases h
 |cons y r B=>
  intro its h g;cases its with
  |nil=>cases h
  |cons u t=>exact .cons (g 0 y u J J) (B (Nat.succ.inj h) λj a b h1 h2=>g (j+1) a b h1 h2)
section
variable {X:Cx}
noncomputable def tLR(ta:TA):TE:=λσ H Q=>ta σ H λvs H1=>∃i j:Int,vs=[.int i,.int j]/\(-(2 ^ 62)<=i/\i<2 ^ 62/\-(2 ^ 62)<=j/\j<2 ^ 62)/\(j-i).toNat<=100000/\∀l,H1 l=none->Q (.ref l) (upd H1 l (.lst ((List.range (j-i).toNat).map λk:Nat=>V.int (i+(k:Int)))))
theorem zfz{a b:Expr}{ta:TA}{p F pos B:Pos}(Y:X.A.handled=none)(Z:Gl X "list")(aa:X.mg "list"=none)(ab:bootBuiltins "list"=some (.type "list"))(ac:Gl X "range")(ad:X.mg "range"=none)(ae:PA X [a,b] ta)(af:starEach [a,b] X.env=[(false,eval a X.env),(false,eval b X.env)]:=by rfl)(O:starEach [b] X.env=[(false,eval b X.env)]:=by rfl)(U:starEach [Expr.Call (.Name "range" F) [a,b] [] B] X.env=(false,eval (Expr.Call (.Name "range" F) [a,b] [] B) X.env)::starEach [] X.env:=by rfl)(ag:(backTo pos (starEach [] X.env)).any (·.1)=false:=by rfl):PE X (.Call (.Name "list" p) [.Call (.Name "range" F) [a,b] [] B] [] pos) (tLR ta):=by
 intro pins s σ H Q G h;refine wpAny_Call_Name_kw (zcE G Z aa ab ?_ (by decide) (by decide));refine PyProof.Rows.callWith_type1 ?_ U ag;rw[U];show wpAny _ _ (spliced ((false,eval _ X.env)::backTo pos (starEach [] X.env))) _ _ s;refine Calls.spliced_cons ?_;refine Call_ (zcE G ac ad boot_range (PyProof.Rows.callWith_type1 (thn (ae B pins s σ H _ G h) λus D ah=>?_) (by rw[af,O]) (by rw[O];rfl)));obtain⟨vs,H1,ai,aj,q1⟩:=ah;obtain⟨i,j,e,⟨q1,ak,al,am⟩,av,q⟩:=q1;subst e;cases aj with
 |cons r I=>
  cases I with
  |cons ao I=>
   cases I;obtain⟨t,rfl⟩:=r;obtain⟨t',rfl⟩:=ao;refine call_range_2 ?_;refine Calls.spliced_nil ?_;have aw:(100000:Nat)<=sizeLine:=by rw[sizeLine_eq];decide
   have W:Inv X pins σ H1 { D with heap:=D.heap.push { cls:=.type "range",data:=.fields #[.int i t,.int j t',.int 1 D.toks] },toks:=D.toks+1 }:=ai.kept λb o e=>Heap.get?_push_of_some _ e;refine call_list_range (n:=(j-i).toNat) Y (IsRange.new ..) (small_one q1 ak al am) ?_ (by omega) λh' tk ap aq ar e J0=>?_
   .rw[rangeSize_one];split<;>omega
   .refine⟨.ref _,_,W.laid (t':=tk) (o:=.lst ((List.range (j-i).toNat).map λk:Nat=>V.int (i+(k:Int)))) ar (Nat.le_refl _) ?_,J,q _ (W.hok.fresh (Nat.le_refl _))⟩;refine⟨by rw[List.length_map,List.length_range];omega,ap.toList,aq,zlg (by rw[List.length_map,List.length_range,Array.length_toList,J0.1]) (λk y v h1 h2=>?_),by simpa using e⟩;obtain⟨as,rfl⟩:=J0.2 k v (by simpa using h2);rw[List.getElem?_map] at h1;have au:k<(j-i).toNat:=by
     have:=(List.getElem?_eq_some_iff.mp h2).1;rw[Array.length_toList,J0.1] at this;exact this
    rw[List.getElem?_range au] at h1;cases h1;exact⟨as,by simp⟩
end
noncomputable def dE(P:Program)(w:World)(a:Addr)(ep:Nat)(kvs:List (Key×V)):HO:=.ext λh=>(a==sysModules)=false/\kvs.length<=sizeLine/\∃vs,KV kvs vs/\h.DictAt (zaF P w) a vs ep
theorem zlh{P:Program}{w:World}{k:Key}{u:Value}(h:(zaF P w).is k u=true):RelV (kV k) u:=by
 rcases zaT (show keyIs k u=true from h) with⟨i,t,rfl,rfl⟩|⟨x,t,rfl,rfl⟩
 .exact⟨t,J⟩
 .exact⟨t,J⟩
theorem zik{P:Program}{w:World}{H:Hp}{h:Heap}{a:Addr}{ep:Nat}{kvs:List (Key×V)}(B:HOk P w H h)(e:H a=some (dE P w a ep kvs)):(a==sysModules)=false/\kvs.length<=sizeLine/\∃vs,KV kvs vs/\h.DictAt (zaF P w) a vs ep:=
 (show ObjOk P w H h a (dE P w a ep kvs) from B a _ e).1
section
variable {X:Cx}{pins:List (Addr×Obj)}{σ:St}{H:Hp}{s:Shared}{a:Addr}{kvs:List (Key×V)}
theorem zmH(B:Inv X pins σ H s)(e:H a=some (.dK kvs)):∃ep,Inv X pins σ (upd H a (dE X.prog X.w a ep kvs)) s:=by
 obtain⟨z,G,vs,I,dd⟩:=zmb B.hok e;obtain⟨ep,D⟩:=dd.dictAt;obtain⟨o,es,F,r⟩:=id D;refine⟨ep,zeB (h':=s.heap) (t':=s.toks) B (by rw[e];exact True.intro) ⟨J,λ_ _=>rfl⟩ ⟨o,F⟩ ⟨⟨G,z,vs,I,D⟩,⟨o,F⟩,?_⟩⟩;rintro ab ac ⟨J0,O,U,V,o',W,Y,Z⟩ aa;exact⟨J0,O,U,V,o',W,aa _ Y,Z⟩
end
noncomputable def ItD(P:Program)(w:World)(d:Addr)(ep:Nat)(kvs:List (Key×V)):It:=
 ⟨λi H=>H d=some (dE P w d ep kvs)/\i<kvs.length,λi H x H'=>H'=H/\∃p,kvs[i]?=some p/\x=kV p.1,λi H=>H d=some (dE P w d ep kvs)/\kvs.length<=i⟩
theorem KV.at{κ:Type}{kvs:List (κ×V)}{vs:List (κ×Value)}(r:KV kvs vs){i:Nat}{p:κ×V}(h:kvs[i]?=some p):∃u,vs[i]?=some (p.1,u):=by
 induction r generalizing i with
 |nil=>simp at h
 |cons q t B=>
  cases i with
  |zero=>
   rename_i a b _ _;simp at h;subst h;exact⟨b.2,by simp[q.1]⟩
  |succ i=>exact B (by simpa using h)
theorem zil{P:Program}{w:World}{K:W.Frag}{tg:Expr}(d it:Addr)(ep:Nat)(kvs:List (Key×V)):Turn P w K tg (ItD P w d ep kvs) [it] it (λi h=>h.IsKeyIter it d i kvs.length ep) where
 mem:=by simp
 obj:=λi h st b B=>by
  have e:b=it:=by simpa using B
  subst e;obtain⟨o,e,c,d⟩:=st;exact⟨o,e,λv z=>by rw[d] at z;cases z⟩
 keep:=λi h h' st k=>let ⟨o,e,r⟩:=st;⟨o,k it (by simp) o e,r⟩
 item:=by
  intro X J0 hw O ag i pins s σ H E D F st U;subst J0 hw O;obtain⟨Y,hi⟩:=U;obtain⟨_,_,vs,G,Z⟩:=zik D.hok Y;have I:=KV.length G;obtain⟨p,ah⟩:∃p,kvs[i]?=some p:=⟨kvs[i],by simp[hi]⟩;obtain⟨u,ai⟩:=KV.at G ah;obtain⟨aa,ab,aj,ac,ad,ae⟩:=F it (by simp);rw[I] at st;refine wpAny_pyNext_dict_item st Z ai λak h' al af am=>?_;have ao:Inv X pins σ H { s with heap:=h' }:=D.turned (t':=s.toks) (λb o B e=>(am.2 b B).trans e) aa ab ac ad ae;obtain⟨o,e,c,d⟩:=id af;rw[←I] at af;exact⟨ak,J,zhM (s:={ s with heap:=h' }) e c d (by decide) ⟨kV p.1,H,ao,zlh al,⟨J,p,ah,J⟩,af,λb B=>(F b B).1⟩⟩
 done:=by
  intro X J0 hw O ag i pins s σ H E D F st U;subst J0 hw O;obtain⟨Y,hi⟩:=U;obtain⟨_,_,vs,G,Z⟩:=zik D.hok Y;have I:=KV.length G;obtain⟨aa,ab,aj,ac,ad,ae⟩:=F it (by simp);rw[I] at st;exact wpAny_pyNext_dict_end (D.ok.hd ag) st Z (by simp;omega) λh' ap=>⟨J,D.turned (t':=s.toks) (λb o B e=>ap b o B e) aa ab ac ad ae⟩
 self:=λA i s Q E st h=>by
  refine wpAny_pyIter_slot st.typeIs PySem.F.slot_dict_keyiterator_iter (wpAny_call_entry PySem.F.slot_dict_keyiterator_iter st.typeIs PySem.F.entry_dict_keyiterator_iter ?_ (PySem.F.args_dict_keyiterator_iter_1 _));show wpAny _ _ (ret (.ref it)) _ _ s;exact wpAny_pure ⟨_,J,"dict_keyiterator",_,st.typeIs,PySem.F.slot_dict_keyiterator_next.lookup,h⟩
section
variable {X:Cx}
noncomputable def rIxE(P:Program)(w:World):R2:=λx y H Q=>∃a k ep kvs v,x=.ref a/\y=kV k/\H a=some (dE P w a ep kvs)/\valV kvs k=some v/\Q v H
theorem zmf{o i:Expr}{pos:Pos}{td ty:TE}(F:PE X o td)(hi:PE X i ty)(G:NoSl i):PE X (.Subscript o i pos) (tOp (rIxE X.prog X.w) td ty):=by
 intro pins s σ H Q I h;refine zf2 PySem.F.slot_dict_getitem.lookup G (thn (F pins s σ H _ I h) λu J0 O=>?_);obtain⟨x,H1,U,V,q1⟩:=O;refine thn (hi pins J0 σ H1 _ U q1) λaf ag W=>?_;obtain⟨y,H2,B,Y,a,k,ep,kvs,v,ex,Z,aa,ab,ac⟩:=W;subst ex Z;cases V;obtain⟨ah,ai,vs,ad,D⟩:=zik B.hok aa;refine⟨D.dictOf.typeIs,?_⟩;obtain⟨aj,hw,ae⟩:=RelO.some_of (v:=v) (o:=valueAt vs k) (by rw[←ab];exact ad.val k);exact wpAny_getItem_of (zhm Y) D.dictOf.mapOf hw ⟨v,H2,B.tok _,ae,ac⟩
end
theorem zim{P:Program}{w:World}{d p:Addr}{ep:Nat}{kvs:List (Key×V)}{H0:Hp}(h:H0 d=some (dE P w d ep kvs))(B:d≠p):ItOk (ItD P w d ep kvs) kvs.length (λi=>(kvs.map λD=>kV D.1).getD i .non) H0 p where
 go:=λi H hi k=>⟨k d _ B h,hi⟩
 stop:=λH k=>⟨k d _ B h,Nat.le_refl _⟩
 yld:=λi H v H' hi k ⟨e,q,F,ev⟩=>⟨e,by rw[ev,List.getD_eq_getElem?_getD,List.getElem?_map,F];rfl⟩
section
variable {X:Cx}
noncomputable def zmg(P:Program)(w:World)(td:TE):TI:=λσ H R=>td σ H λx H1=>∃a ep kvs,x=.ref a/\H1 a=some (dE P w a ep kvs)/\R (ItD P w a ep kvs) H1
theorem zjP{tg l:Expr}{td:TE}(F:PE X l td):PI X tg l (zmg X.prog X.w td):=by
 intro pins s σ H R G h;refine thn (F pins s σ H _ G h) λv B I=>?_;obtain⟨x,H1,D,J0,q1⟩:=I;obtain⟨a,ep,kvs,e,O,q⟩:=q1;subst e;cases J0;obtain⟨U,_,vs,V,W⟩:=zik D.hok O;refine wpAny_pyIter_dict U W ?_;refine⟨B.heap.objs.size,[B.heap.objs.size],_,_,_,J,D.kept (t':=B.toks) λb o e=>Heap.get?_push_of_some _ e,zil a _ ep kvs,?_,λb Y=>?_,q⟩
 .rw[KV.length V];exact⟨_,Heap.get?_push_size _ J,J,J⟩
 .have e:b=B.heap.objs.size:=by simpa using Y
  subst e;exact D.fpOk (Nat.le_refl _) (D.hok.fresh (Nat.le_refl _))
end
noncomputable def tPinN(P:Program)(w:World)(te:TE):TE:=λσ H Q=>te σ H λx H1=>∃a kvs,x=.ref a/\H1 a=some (.dK kvs)/\∀ep,(kvs.map (·.1)).Nodup->Q (.ref a) (upd H1 a (dE P w a ep kvs))
theorem zli{X:Cx}{e:Expr}{te:TE}(D:PE X e te):PE X e (tPinN X.prog X.w te):=by
 intro pins s σ H Q F h;refine thn (D pins s σ H _ F h) λu W G=>?_;obtain⟨x,H1,I,J0,a,kvs,ex,O,q⟩:=G;subst ex;obtain⟨ep,B⟩:=zmH I O;obtain⟨_,_,vs,U,o,es,_,_,_,_,_,V⟩:=zik B.hok (a:=a) (ep:=ep) (kvs:=kvs) zab;exact⟨.ref a,_,B,J0,q ep (by rw[U.keys];exact V)⟩
structure Lft(S R:List Addr)(h h':Heap):Prop where
 keep:∀b o,b∉R->b∉S->h.get? b=some o->h'.get? b=some o
 slot:∀b o,b∉R->h.get? b=some o->∃sl,h'.get? b=some { o with slots:=sl }
 there:∀b o,h.get? b=some o->∃o',h'.get? b=some o'
noncomputable def Exc(e T:Addr)(cls a0 F:Value)(h:Heap):Prop:=
 ∃B vs D ts,h.get? e=some B/\B.cls=cls/\B.data=.fields vs/\vs[0]?=some a0/\vs[1]?=some (.ref T)/\T≠e/\h.get? T=some D/\D.data=.fields ts/\ts[3]?=some F/\vs[2]?=some .none/\B.dict=none
section
variable {S R R':List Addr}{h h1 h2:Heap}{e:Addr}{o ob:Obj}
theorem Lft.trans(a:Lft S R h h1)(b:Lft S R h1 h2):Lft S R h h2:=by
 refine⟨λc o n m q=>b.keep c o n m (a.keep c o n m q),λc o n q=>?_,λc o q=>?_⟩
 .obtain⟨F,q1⟩:=a.slot c o n q;obtain⟨B,D⟩:=b.slot c _ n q1;exact⟨B,D⟩
 .obtain⟨o',q1⟩:=a.there c o q;exact b.there c o' q1
theorem Lft.mono(a:Lft S R h h1)(m:∀b∈R,b∈R'):Lft S R' h h1:=
 ⟨λc o n k q=>a.keep c o (λz=>n (m c z)) k q,λc o n q=>a.slot c o (λz=>n (m c z)) q,a.there⟩
theorem Lft.push:Lft S R h (h.push ob):=
 ⟨λ_ _ _ _ q=>Heap.get?_push_of_some _ q,λ_ o _ q=>⟨o.slots,Heap.get?_push_of_some _ q⟩,λ_ o q=>⟨o,Heap.get?_push_of_some _ q⟩⟩
theorem Lft.slots(x:Heap.SlotsOnly S h h1):Lft S R h h1:=by
 refine⟨λb o _ m q=>?_,λb o _ q=>x.2.2 b o q,λb o q=>?_⟩
 .rw[x.2.1 b m];exact q
 .obtain⟨B,z⟩:=x.2.2 b o q;exact⟨_,z⟩
theorem zds{vs:Array Value}(B:h.get? e=some o)(D:o.data=.fields vs)(f:Array Value->Array Value) :
  (h.update e (Obj.mapFields f)).get? e=some (Obj.mapFields f o):=by
 have k:=Obj.data_mapFields D f;exact Heap.get?_update_self _ B (Obj.isFreed_of_fields k)
theorem Lft.fld{vs:Array Value}(D:h.get? e=some o)(F:o.data=.fields vs)(f:Array Value->Array Value):Lft S [e] h (h.update e (Obj.mapFields f)):=by
 have B:∀b,b∉[e]->(h.update e (Obj.mapFields f)).get? b=h.get? b:=λb n=>Heap.get?_update_other _ _ λz=>n (by rw[z];exact List.mem_singleton_self b);refine⟨λb o n _ q=>by rw[B b n];exact q,λb o n q=>⟨o.slots,by rw[B b n];exact q⟩,λb u q=>?_⟩;by_cases z:b=e
 .subst z;exact⟨_,zds D F f⟩
 .exact⟨u,by rw[B b (by simpa using z)];exact q⟩
end
theorem zjQ(f:Array Value->Array Value)(o:Obj):(Obj.mapFields f o).dict=o.dict:=by
 unfold Obj.mapFields;split<;>rfl
section
variable {M:Model}{A:Around}{E:Value->Shared->Prop}{s:Shared}{base:Heap}{env:Env}{outer:List Env}{L e:Addr}{cls a0:Value}
theorem ent{B:Obj}{vs:Array Value}{I:Value}{W:Bool}{Q:Unit->Shared->Prop}(Y:A.frames=some (env::outer))(J0:s.heap.FunFrames base (env::outer))(Z:env.frame=some L)(O:s.heap.get? e=some B)(D:B.data=.fields vs)(hsz:1<vs.size)(aa:vs[0]?=some a0)(ab:vs[2]?=some .none)(ac:B.dict=none)(h:∀h' T,Lft (frs (env::outer)) [e] s.heap h'->s.heap.objs.size<=T->Exc e T B.cls a0 (rawInt L) h'->Q () { s with heap:=h' }) :
  wpAny M A (do let a ← frameOf env;let pl ← entryPlaceOf L W;let b ← EntryCells.newEntry I a .none (rawInt L) .none pl;setField (.ref e) 1 b) Q E s:=by
 have ad:e∉(env::outer).filterMap (·.frame):=by
  intro z;obtain⟨_,o,q,ae⟩:=J0.mem z;rw[O] at q;cases q;exact ae vs D
 refine wpAny_bind (wpAny_frameOf_fun Y J0 Z λh1 F=>?_);refine wpAny_bind (wpAny_entryPlaceOf λpl U=>?_);unfold EntryCells.newEntry newFields;refine wpAny_bind (wpAny_newObj_type ?_ (U.sizeOk5 _ _ _ _ _));have V:h1.get? e=some B:=by rw[F.2.1 e ad];exact O
 have G:(h1.push { cls:=.type "traceback",dict:=none,data:=.fields ([I,.ref L,.none,rawInt L,.none]++(if pl.isEmpty then List.replicate 6 Value.none else pl)).toArray }).get? e=some B:=Heap.get?_push_of_some _ V;have ne:h1.objs.size≠e:=Nat.ne_of_gt (Heap.lt_size V);refine wpAny_setField G D hsz ?_;refine h _ h1.objs.size (((Lft.slots F).trans Lft.push).trans (Lft.fld G D _)) (Nat.le_of_eq F.1.symm) ?_;refine⟨_,_,_,_,zds G D _,Obj.cls_mapFields _ _,Obj.data_mapFields D _,?_,?_,ne,(Heap.get?_update_other _ _ (Ne.symm ne)).trans (Heap.get?_push_size _ J),J,?_,?_,by rw[zjQ];exact ac⟩
 .rw[Array.getElem?_setIfInBounds_ne (by decide)];exact aa
 .simp[hsz]
 .rcases U with rfl|⟨_,_,_,_,_,_,_,rfl⟩<;>rfl
 .rw[Array.getElem?_setIfInBounds_ne (by decide)];exact ab
theorem zjR{B:Obj}{vs:Array Value}{Q:Unit->Shared->Prop}(J0:A.frames=some (env::outer))(O:s.heap.FunFrames base (env::outer))(D:env.frame=some L)(F:s.heap.get? e=some B)(G:B.data=.fields vs)(I:vs[1]?=some .none)(U:vs[0]?=some a0)(V:vs[2]?=some .none)(W:B.dict=none)(h:∀h' T,Lft (frs (env::outer)) [e] s.heap h'->s.heap.objs.size<=T->Exc e T B.cls a0 (rawInt L) h'->Q () { s with heap:=h' }):wpAny M A (noteFrame (.ref e) env) Q E s:=by
 have hsz:1<vs.size:=(Array.getElem?_eq_some_iff.mp I).1;unfold noteFrame;simp only[D];refine wpAny_bind (wpAny_field F G I ?_);rw[if_neg (by decide)];exact ent J0 O D F G hsz U V W h
theorem zlj{T:Addr}{Q:Unit->Shared->Prop}(V:A.frames=some (env::outer))(W:s.heap.FunFrames base (env::outer))(G:env.frame=some L)(x:Exc e T cls a0 .none s.heap)(h:∀h' B,Lft (frs (env::outer)) [e,T] s.heap h'->s.heap.objs.size<=B->Exc e B cls a0 (rawInt L) h'->Q () { s with heap:=h' }):wpAny M A (noteFrame (.ref e) env) Q E s:=by
 obtain⟨af,vs,ag,ts,I,rfl,J0,Y,O,ne,D,F,U,Z,aa⟩:=x;have hsz:1<vs.size:=(Array.getElem?_eq_some_iff.mp O).1;have ab:3<ts.size:=(Array.getElem?_eq_some_iff.mp U).1;unfold noteFrame;simp only[G];refine wpAny_bind (wpAny_field I J0 O ?_);rw[if_pos (by simp)];refine wpAny_bind (wpAny_field D F U ?_);rw[if_neg (by simp[rawInt])];refine wpAny_bind (wpAny_setField D F ab ?_);have ac:Lft (frs (env::outer)) [T] s.heap (s.heap.update T (Obj.mapFields (·.setIfInBounds 3 Value.none))):=Lft.fld D F _;refine ent (s:={ s with heap:=_ }) V (W.of_keeps λb o q ad=>⟨o,?_,J⟩) G ((Heap.get?_update_other _ _ ne).trans I) J0 hsz Y Z aa λh' B ae k x=>?_
 .show (s.heap.update T _).get? b=some o;rw[Heap.get?_update_other _ _ λz=>?_]
  .exact q
  .subst z;rw[D] at q;cases q;exact ad _ F
 .refine h h' B ((ac.mono (by simp)).trans (ae.mono (by simp))) (Nat.le_trans (Nat.le_of_eq (Heap.size_after_update ..).symm) k) x
theorem zin{T:Addr}{O:Value}{Q:Unit->Shared->Prop}(x:Exc e T cls a0 O s.heap)(h:∀h',Lft [] [T] s.heap h'->Exc e T cls a0 .none h'->Q () { s with heap:=h' }):wpAny M A (setFlight (.ref e) none) Q E s:=by
 obtain⟨U,vs,ab,ts,F,V,G,W,I,ne,D,B,Y,Z,aa⟩:=x;have J0:3<ts.size:=(Array.getElem?_eq_some_iff.mp Y).1;unfold setFlight;refine wpAny_bind (wpAny_field F G I ?_);rw[if_pos (by simp)];refine wpAny_setField D B J0 (h _ (Lft.fld D B _) ?_);refine⟨U,vs,_,_,?_,V,G,W,I,ne,zds D B _,Obj.data_mapFields B _,by simp[J0],Z,aa⟩;rw[Heap.get?_update_other _ _ ne];exact F
end
noncomputable def CXE(P:Program)(w:World):CXT:=λouter H s E ev s'=>∃a T cls t H',ev=.ref a/\s'.os=s.os/\AllBare s'.gens/\Un (frs outer) [] H H' s.heap s'.heap/\HOk P w H' s'.heap /\
 s.heap.get? a=none/\s.heap.get? T=none/\H' a=none/\H' T=none/\Exc a T cls (.ref t) .none s'.heap/\E cls none H'
theorem FnOk.cx{P:Program}{w:World}{K:W.Frag}{mg:Str->Option Value}{base:Heap}{CX:CXT}{k:Nat}{f:Addr}{fd:FuncData}{ps:List Str}{sp:Sp}(F:FnOk P w K mg base CX0 k f fd ps sp) :
  FnOk P w K mg base CX k f fd ps sp:=by
 refine⟨F.len,λA outer s H args us vs Q E B D G I J0=>codeAny_mono (F.run A outer s H args us vs Q E B D G I J0) λr s' q=>?_⟩;cases r with
 |error e=>exact q.elim
 |ok O=>cases O<;>exact q
theorem HOk.lft{P:Program}{w:World}{H:Hp}{h h':Heap}{S R:List Addr}(x:HOk P w H h)(l:Lft S R h h')(D:∀b∈S,H b=none)(F:∀b∈R,H b=none):HOk P w H h':=by
 intro a o e;refine(x a o e).stay (λb u G q=>?_) (λ_ q=>q) λ_ _ q=>q;have B:H b≠none:=by
  rcases G with z|z
  .subst z;rw[e];exact λz=>nomatch z
  .rw[z];exact λz=>nomatch z
 exact l.keep b u (λz=>B (F b z)) (λz=>B (D b z)) q
theorem ObjOk.at{P:Program}{w:World}{H:Hp}{h:Heap}{a:Addr}{o:HO}(x:ObjOk P w H h a o):∃u,h.get? a=some u:=by
 cases o with
 |lst xs=>obtain⟨_,_,_,_,e⟩:=x;exact⟨_,e⟩
 |tup xs=>obtain⟨_,_,_,o,e,_⟩:=x;exact⟨_,e⟩
 |dK kvs=>obtain⟨_,_,_,_,o,_,_,e,_⟩:=x;exact⟨_,e⟩
 |dT kvs=>obtain⟨_,_,_,_,o,_,_,e,_⟩:=x;exact⟨_,e⟩
 |set S n=>obtain⟨o,_,_,_,e,_⟩:=x;exact⟨_,e⟩
 |ins C dx fs=>obtain⟨_,_,_,e,_⟩:=x;exact⟨_,e⟩
 |own y=>exact x
 |xd fs=>obtain⟨_,⟨_,_,_,e,_⟩,_⟩:=x;exact⟨_,e⟩
 |rng lo hi=>obtain⟨_,_,_,e⟩:=x;exact⟨_,e⟩
 |frz ob u=>obtain⟨e,_⟩:=x;exact⟨_,e⟩
 |tbl ps=>exact⟨_,(show h.get? a=some _ from x)⟩
 |met f y=>exact⟨_,(show h.get? a=some _ from x)⟩
 |ext B=>obtain⟨_,e,_⟩:=x;exact e
theorem HOk.no{P:Program}{w:World}{H:Hp}{h:Heap}{a:Addr}(x:HOk P w H h)(e:h.get? a=none):H a=none:=by
 cases q:H a with
 |none=>rfl
 |some o=>
  obtain⟨u,z⟩:=(x a o q).at;rw[e] at z;cases z
theorem Un.no{fs:List Addr}{H H1:Hp}{h h1:Heap}{a:Addr}(u:Un fs [] H H1 h h1)(e:h1.get? a=none):h.get? a=none:=by
 cases q:h.get? a with
 |none=>rfl
 |some o=>
  obtain⟨o',z⟩:=u.there a o q (by simp);rw[e] at z;cases z
theorem Un.lft{fs S R:List Addr}{H H1:Hp}{h h1 h2:Heap}(u:Un fs [] H H1 h h1)(l:Lft S R h1 h2)(D:∀b∈R,h.get? b=none)(F:∀b∈S,b∈fs∨h.get? b=none):Un fs [] H H1 h h2:=by
 have B:∀b o,h.get? b=some o->b∉R:=λb o q z=>by rw[D b z] at q;cases q
 refine⟨λb o q n m k=>?_,λb o q n m k=>?_,u.free,λb o q k=>?_,u.tups,u.frzs,u.tbls⟩
 .refine l.keep b o (B b o q) (λz=>?_) (u.keep b o q n m k);rcases F b z with y|y
  .exact m y
  .rw[y] at q;cases q
 .obtain⟨I,z⟩:=u.slot b o q n m k;obtain⟨G,y⟩:=l.slot b _ (B b o q) z;exact⟨G,y⟩
 .obtain⟨o',z⟩:=u.there b o q k;exact l.there b o' z
theorem zmh{base:Heap}{H H2:Hp}{h h2:Heap}{fs:List Addr}(u:Un fs [] H H2 h h2):∀ {l:List Env},h.FunFrames base l->(∀b∈frs l,H b=none)->h2.FunFrames base l:=by
 intro l;induction l with
 |nil=>intro _ _;trivial
 |cons env r F=>
  intro G B;obtain⟨I,⟨L,o,D,J0,O,U⟩,V⟩:=G;have W:frs (env::r)=L::frs r:=by unfold frs;rw[List.filterMap_cons,D]
  rw[W] at B;obtain⟨Y,q⟩:=u.any O (B L List.mem_cons_self) (by simp);exact⟨I,⟨L,_,D,J0,q,U⟩,F V λb z=>B b (List.mem_cons_of_mem _ z)⟩
noncomputable def Rz(X:Cx)(E:XK):Prop:=∀(pins:List (Addr×Obj)) (σ:St) (H:Hp) (s:Shared) (h':Heap) (a:Addr) (cls:Value) (vs:List Value),Inv X pins σ H s->Heap.MadeExcOf s.heap h' a cls vs->E cls none H->X.xe (.ref a) { s with heap:=h' }
section
variable {P:Program}{w:World}{K:W.Frag}{mg:Str->Option Value}{base:Heap}{N:List Str}{qual:Str}{scope:Scope}{f:Addr}{cd:Value}{A:Around}{outer:List Env}{s:Shared}{H:Hp}{E:XK}
theorem zlk{b:Addr}{pins:List (Addr×Obj)}{σ:St}{H1:Hp}{B:Shared}(D:Inv (cxOf (CXE P w) P w K mg base N qual scope f cd A outer s H E) pins σ H1 B)(z:b∈frs (envOfC qual scope s.heap.objs.size f cd::outer)):b∈frs outer∨s.heap.get? b=none:=by
 have z:b∈(s.heap.objs.size::frs outer):=z;rcases List.mem_cons.mp z with y|y
 .exact .inr (Heap.get?_none_of_le (Nat.le_of_eq y.symm))
 .exact .inl y
theorem zmI:Rz (cxOf (CXE P w) P w K mg base N qual scope f cd A outer s H E) E:=by
 intro pins σ H1 D h' a cls vs B M V;show wpAny _ (A.deeper _) (leaving _ (.ref a)) _ _ _;unfold leaving;obtain⟨t,W,aj,ak⟩:=M.there;have Y:(A.deeper (envOfC qual scope s.heap.objs.size f cd)).frames=some (envOfC qual scope s.heap.objs.size f cd::outer):=B.ok.frames;have Z:=B.stkFree;have F:Un (frs outer) [] H H1 s.heap D.heap:=B.base;have I:=B.hok.no M.new;have aa:∀T,h'.get? T=none->D.heap.get? T=none:=λT q=>by
  cases z:D.heap.get? T with
  |none=>rfl
  |some o=>rw[M.keeps T o z] at q;cases q
 have ab:h'.FunFrames base (envOfC qual scope s.heap.objs.size f cd::outer):=B.stack.of_keeps λb o q _=>⟨o,M.keeps b o q,J⟩;refine wpAny_bind (zjR (s:={ D with heap:=h' }) Y ab J W J J J J rfl λh2 T J0 ac ad=>?_);refine zin (s:={ D with heap:=h2 }) ad λae O af=>?_;have G:D.heap.get? T=none:=aa T (Heap.get?_none_of_le ac);have ag:Un (frs outer) [] H H1 s.heap h':=F.trans (Un.kept M.keeps);have ah:=ag.lft J0 (λb z=>by rw[List.mem_singleton.mp z];exact F.no M.new) λb z=>zlk B z;have ai:=ah.lft O (λb z=>by rw[List.mem_singleton.mp z];exact F.no G) λb z=>absurd z (by simp);have U:=B.hok.no G;have k1:HOk P w H1 h':=B.hok.kept M.keeps;have k2:HOk P w H1 h2:=k1.lft J0 (λb z=>Z b z) λb z=>by rw[List.mem_singleton.mp z];exact I
 have k3:HOk P w H1 ae:=k2.lft O (λb z=>absurd z (by simp)) λb z=>by rw[List.mem_singleton.mp z];exact U
 exact⟨a,T,cls,t,H1,J,B.os,B.bare,ai,k3,F.no M.new,F.no G,I,U,af,V⟩
end
noncomputable abbrev bmVE:List Value:=[.type "ValueError",.type "Exception",.type "BaseException",.type "object"]
theorem zmi{K:W.Frag}{h:Heap}{mg:Str->Option Value}{x:Str}{C:Addr}{D:List Value}{F:String}(X:K.In h)(e:mg x=some (.ref C))(q:W.excIn K C D F=true):OwnCls x C D F mg h:=by
 refine⟨e,?_⟩;unfold W.excIn at q;split at q
 .next dd cd sl ho=>
  split at q
  .next C' bm k0 k1 k2 k3 n k5 hm hs=>
   simp only[Bool.and_eq_true,beq_iff_eq,Bool.not_eq_true'] at q;obtain⟨⟨⟨⟨⟨q1,J0⟩,G⟩,O⟩,B⟩,I⟩:=q;have U:sl=#[k0,k1,k2,k3,some (.builtin n),k5]:=by rw[←hs]
   subst q1 J0 U;cases cd;simp only at hm G B I;subst hm G;exact⟨_,_,_,_,_,_,_,_,_,_,_,_,_,_,_,_,_,X _ _ ho,.of_isNs (W.isNs_of_in X B),W.nsMap_none_of_in X B I,W.tail_of_in X O⟩
  .cases q
 .cases q
section
variable {X:Cx}{x:Str}{C:Addr}{e:Expr}{es:List Expr}{t:TA}{np cpos pos:Pos}{E:XK}
theorem zjS(O:W.excIn X.K C bmVE "ValueError.__new__"=true)(U:X.calm=true)(V:Gl X x)(I:X.mg x=some (.ref C))(Y:PA X (e::es) t)(Z:Rz X E)(aa:(x==("__debug__":Str))=false:=by decide)(J0:starEach (e::es) X.env=(false,eval e X.env)::starEach es X.env:=by rfl)(ac:(backTo cpos (starEach es X.env)).any (·.1)=false:=by rfl) :
  PS X (.Raise (some (.Call (.Name x np) (e::es) [] cpos)) none pos) (λ_ σ H=>t σ H λvs H1=>vs.length<=sizeLine/\E (.ref C) none H1):=by
 intro pins s σ H D B h;have ad:=zmi B.ok.mod.kin I O;obtain⟨tl,N,nm,q,bs,hdct,sn,sub,ab,col,dd,k0,k1,k2,k3,k5,aj,ae,af,ag,T⟩:=ad.obj;have pl:(backTo cpos (starEach (e::es) X.env)).any (·.1)=false:=by
  rw[J0];show (false || (backTo cpos (starEach es X.env)).any (·.1))=false;rw[ac];rfl
 refine wpAny_Raise_call_subU (k5:=k5) (k3:=k3) (k2:=k2) (k1:=k1) (k0:=k0) (dd:=dd) (col:=col) (ab:=ab) (sub:=sub) (sn:=sn) (hdct:=hdct) (bs:=bs) (N:=N) (q:=q) (nm:=nm) F.excBase_ValueError rfl F.excBase_ValueError (T.hasType F.excBase_ValueError.hasBase) (B.ok.hd U) pl ag (zcG B V I ⟨J,?_⟩ aa);have h2:=Y cpos pins s σ H _ B h;rw[J0] at h2 ⊢;refine Calls.evalArgs_plain (wpAny_mono h2 (λus ah ai=>?_) λ_ _ y=>y);obtain⟨vs,H1,G,r,z,q⟩:=ai;exact⟨J,by rw[←r.length];exact z,G.bk _ _ ae,af.keeps G.bk,T.keeps G.bk,λh' a m=>Z pins σ H1 ah h' a _ _ G m q⟩
end
section
variable {P:Program}{w:World}{K:W.Frag}{mg:Str->Option Value}{base:Heap}
theorem Fun.okX{x qual:Str}{st:Stmt}{f:Addr}{fd:FuncData}{N ps:List Str}{k:Nat}{sp:Sp}(F:Fun K x qual st f fd)(S:zav N ps (zag st))(B:∀vs H Q E,sp vs H Q E->vs.length=ps.length)(D:∀(cdv:Value) (A:Around) (outer:List Env) (s:Shared) (H:Hp) (vs:List V) (Q:VK) (E:XK),Room k (A.deeper (envOfC qual (zag st) s.heap.objs.size f cdv))->sp vs H Q E ->
   ∃t,PSs (cxOf (CXE P w) P w K mg base N qual (zag st) f cdv A outer s H E) (zbl st) t/\t { nx:=λ_ H'=>Q .non H',rt:=Q } (start N vs) H):FnOk P w K mg base (CXE P w) (k+1) f fd ps sp:=by
 obtain⟨oc,od,kV,doc,pm,an,cdv,ct,osl,rfl,G,I⟩:=F.ex;refine zk3 G I S B λA outer s H vs Q E J0 O=>?_;exact D cdv A outer s H vs Q E J0 O
end
noncomputable def exH(a:Addr)(cls:Value):HO:=.ext λh=>∃o vs,h.get? a=some o/\o.cls=cls/\o.data=.fields vs/\vs[2]?=some .none/\o.dict=none
theorem zmj{P:Program}{w:World}{H:Hp}{h:Heap}{a T:Addr}{cls a0 D:Value}(x:Exc a T cls a0 D h):ObjOk P w H h a (exH a cls):=by
 obtain⟨o,vs,_,_,e,c,d,_,_,_,_,_,_,F,G⟩:=x;refine⟨⟨o,vs,e,c,d,F,G⟩,⟨o,e⟩,λh1 h2 q k=>?_⟩;obtain⟨B,I,J0,O,U⟩:=q;exact⟨B,I,k B J0,O,U⟩
theorem HOk.add{P:Program}{w:World}{H:Hp}{h:Heap}{a:Addr}{o:HO}(x:HOk P w H h)(n:H a=none)(B:ObjOk P w (upd H a o) h a o):HOk P w (upd H a o) h:=by
 intro b u e;by_cases z:b=a
 .subst z;rw[zab] at e;cases e;exact B
 .rw[zak z] at e;exact(x b u e).stay (λ_ _ _ q=>q) (λc q=>by rw[zak (zae q n)];exact q) λc xs q=>by rw[zak (zae q n)];exact q
theorem Un.add{fs:List Addr}{H H1:Hp}{h h1:Heap}{a:Addr}{o:HO}(u:Un fs [] H H1 h h1)(n:H1 a=none)(e:h.get? a=none):Un fs [] H (upd H1 a o) h h1:=by
 refine⟨u.keep,u.slot,λb ob q m k=>?_,u.there,λb xs q=>?_,λb ob v q=>?_,λb ps q=>?_⟩
 .rw[zak λz=>by subst z;rw[e] at q;cases q];exact u.free b ob q m k
 .have z:=u.tups b xs q;rw[zak (zae z n)];exact z
 .have z:=u.frzs b ob v q;rw[zak (zae z n)];exact z
 .obtain⟨m,z⟩:=u.tbls b ps q;exact⟨m,by rw[zak (zae z n)];exact z⟩
section
variable {P:Program}{w:World}{M:Model}{A:Around}{env:Env}{outer:List Env}{L:Addr}{base:Heap}{H:Hp}{s s':Shared}{E:XK}{EE:Value->Shared->Prop}{ev:Value}
theorem noted{Q:Unit->Shared->Prop}(aa:A.frames=some (env::outer))(ab:env.frame=some L)(I:s.heap.FunFrames base (env::outer))(J0:∀b∈frs (env::outer),H b=none)(c:CXE P w (env::outer) H s E ev s')(h:∀D,CXE P w (env::outer) H s E ev D->Q () D):wpAny M A (noteFrame ev env) (λ_ D=>wpAny M A (setFlight ev none) Q EE D) EE s':=by
 obtain⟨a,T,cls,t,H2,rfl,os,ac,B,O,ea,ad,U,ae,x,af⟩:=c;have ag:∀b∈frs (env::outer),H2 b=none:=λb z=>by
  obtain⟨_,o,q,_⟩:=I.mem z;exact B.free b o q (J0 b z) (by simp)
 refine zlj aa (zmh B I J0) ab x λh2 F V ah ai=>?_;refine zin (s:={ s' with heap:=h2 }) ai λaj W ak=>h _ ?_;have G:s'.heap.get? F=none:=Heap.get?_none_of_le ah;have Y:H2 F=none:=O.no G;have Z:∀b∈[a,T],s.heap.get? b=none/\H2 b=none:=λb z=>by
  rcases List.mem_cons.mp z with y|y
  .rw[y];exact⟨ea,U⟩
  .rw[List.mem_singleton.mp y];exact⟨ad,ae⟩
 have al:=B.lft V (λb z=>(Z b z).1) λb z=>.inl z;have am:=al.lft W (λb z=>by rw[List.mem_singleton.mp z];exact B.no G) λb z=>absurd z (by simp);have k2:HOk P w H2 h2:=O.lft V ag λb z=>(Z b z).2;have k3:HOk P w H2 aj:=k2.lft W (λb z=>absurd z (by simp)) λb z=>by rw[List.mem_singleton.mp z];exact Y
 exact⟨a,F,cls,t,H2,J,os,ac,am,k3,ea,B.no G,U,Y,ak,af⟩
theorem flown{Q:Unit->Shared->Prop}(c:CXE P w outer H s E ev s')(h:∀B,CXE P w outer H s E ev B->Q () B):wpAny M A (setFlight ev none) Q EE s':=by
 obtain⟨a,T,cls,t,H2,rfl,os,I,J0,O,ea,D,U,F,x,V⟩:=c;refine zin x λW G Y=>h _ ?_;have Z:=J0.lft G (λb z=>by rw[List.mem_singleton.mp z];exact D) λb z=>absurd z (by simp);have k3:HOk P w H2 W:=O.lft G (λb z=>absurd z (by simp)) λb z=>by rw[List.mem_singleton.mp z];exact F
 exact⟨a,T,cls,t,H2,J,os,I,Z,k3,ea,D,U,F,Y,V⟩
end
section
variable {X:Cx}{pins:List (Addr×Obj)}{σ:St}{H:Hp}{s s':Shared}{E:XK}{ev:Value}
noncomputable def XP(X:Cx)(pins:List (Addr×Obj))(σ:St)(E:XK)(ev:Value)(s':Shared):Prop:=∃H s,Inv X pins σ H s/\CXE X.prog X.w X.stack H s E ev s'
theorem Inv.caught(D:Inv X pins σ H s)(c:CXE X.prog X.w X.stack H s E ev s'):∃a cls H',ev=.ref a/\H' a=none/\E cls none H'/\Inv X pins σ (upd H' a (exH a cls)) s'/\∃o,s'.heap.get? a=some o/\o.cls=cls:=by
 obtain⟨a,T,cls,t,H2,rfl,os,F,G,I,ea,U,B,V,x,J0⟩:=c;obtain⟨o,_,_,_,e,O,_⟩:=id x;exact⟨a,cls,H2,J,B,J0,D.call' (ch:=[]) os (G.add B ea) (I.add B (zmj x)) F λb z=>absurd z (by simp),o,e,O⟩
end
section
variable {X:Cx}{pins:List (Addr×Obj)}{σ:St}{H:Hp}{s:Shared}
theorem zeH{M:Model}{A:Around}{E:Value->Shared->Prop}{i:Nat}{x:Str}{pos:Pos}{Q:Unit->Shared->Prop}(I:Inv X pins σ H s)(W:X.N.Nodup)(hi:X.N[i]?=some x)(F:X.env.scope.names.lookup x=some .local)(h:∀s',Inv X pins (σ.set i none) H s'->Q () s'):wpAny M A (do bindName X.env x .none;unbindBehindTheSuite X.env x pos) Q E s:=by
 refine wpAny_bind (wpAny_bindName (zct (v:=.non) I W hi (.inl F) J (λar B=>?_) (.inr F)));unfold unbindBehindTheSuite;refine wpAny_onRaise ?_;obtain⟨m,ad,Y⟩:=id B.loc;have ae:(X.env.scope.kind==.class || (X.env.scope.kind==.module&&X.env.locals != X.env.globals))=false:=by rw[I.ok.kind];rfl
 have Z:i<σ.length:=by rw[I.len];exact(List.getElem?_eq_some_iff.mp hi).1
 obtain⟨u,_,af⟩:=Y i x .non hi (List.getElem?_set_self Z) (.inl F);have ag:m x=some u:=by
  rcases af with⟨_,z⟩|⟨z,_⟩
  .exact z
  .rcases z with z|z
   .rw[show X.env.kindOf x=some .local from F] at z;cases z
   .rw[show X.env.kindOf x=some .local from F] at z;cases z
 refine wpAny_unbindName_local F ad ag ae λh' v ah D=>h _ ?_;have U:∀b o,X.s₀.heap.get? b=some o->b≠X.env.locals:=λb o e=>Nat.ne_of_lt (Nat.lt_of_lt_of_le (Heap.lt_size e) B.ok.above);have aa:=B.cne;refine⟨B.ok,B.os,B.bare,⟨λb o e n V G=>?_,λb o e n V G=>?_,B.base.free,λb o e G=>?_,B.base.tups,B.base.frzs,B.base.tbls⟩,⟨_,ah,λj y w ab J0 ai=>?_⟩,λy c e=>?_,B.free,B.freeC,λp aj=>?_,λb ob e=>?_,by rw[List.length_set];exact I.len⟩
 .rw[D.2 b (U b o e)];exact B.base.keep b o e n V G
 .obtain⟨ak,z⟩:=B.base.slot b o e n V G;exact⟨ak,by rw[D.2 b (U b o e)];exact z⟩
 .obtain⟨o',z⟩:=B.base.there b o e G;exact⟨o',by rw[D.2 b (U b o e)];exact z⟩
 .by_cases O:j=i
  .subst O;rw[List.getElem?_set_self Z] at J0;cases J0
  .rw[List.getElem?_set_ne (Ne.symm O)] at J0;obtain⟨al,am,q⟩:=Y j y w ab (by rw[List.getElem?_set_ne (Ne.symm O)];exact J0) ai;refine⟨al,am,?_⟩;rcases q with⟨k,e⟩|⟨k,c,e,z⟩
   .have ao:y≠x:=λe=>O (zer W ab (e ▸ hi));exact .inl ⟨k,by simp[ao,e]⟩
   .exact .inr ⟨k,c,e,z.sameBut D (aa y c e)⟩
 .obtain⟨ac,z⟩:=B.cell y c e;exact⟨ac,z.sameBut D (aa y c e)⟩
 .obtain⟨e,n,ne,ap,d⟩:=B.pin p aj;exact⟨by rw[D.2 p.1 ne];exact e,n,ne,ap,d⟩
 .refine(B.hok b ob e).stay (λc ac aq q=>?_) (λ_ q=>q) λ_ _ q=>q;rw[D.2 c λz=>?_]
  .exact q
  .rcases aq with y|y
   .rw[←y,z,B.free] at e;cases e
   .rw[z,B.free] at y;cases y
end
noncomputable abbrev TEX:=St->Hp->VK->XK->Prop
noncomputable abbrev TSX:=Ends->XK->St->Hp->Prop
noncomputable def PEx(X:Cx)(e:Expr)(t:TEX):Prop:=
 ∀(pins:List (Addr×Obj)) (s:Shared) (σ:St) (H:Hp) (Q:VK) (E:XK),Inv X pins σ H s->t σ H Q E->wpAny (model X.prog X.w) X.A (eval e X.env) (EP X pins σ Q) (XP X pins σ E) s
noncomputable def PX(X:Cx)(st:Stmt)(t:TSX):Prop:=
 ∀(pins:List (Addr×Obj)) (s:Shared) (σ:St) (H:Hp) (D:Ends) (E:XK),Inv X pins σ H s->t D E σ H->wpAny (model X.prog X.w) X.A (exec st X.env) (SP X pins D) (XP X pins σ E) s
noncomputable def PXs(X:Cx)(st:List Stmt)(t:TSX):Prop:=
 ∀(pins:List (Addr×Obj)) (s:Shared) (σ:St) (H:Hp) (D:Ends) (E:XK),Inv X pins σ H s->t D E σ H->wpAny (model X.prog X.w) X.A (execs st X.env) (SP X pins D) (XP X pins σ E) s
section
variable {X:Cx}{k:Nat}{f C:Addr}{fd:FuncData}{ps:List Str}{sp:Sp}{dvs:List V}{ds:List Value}{x m:Str}{p pos apos:Pos}{e o:Expr}{es:List Expr}{ta:TE}{t:TA}{tx:TEX}{i:Nat}{st:Stmt}{u v:TSX}{a b:List Stmt}
theorem zio{pins:List (Addr×Obj)}{σ:St}{H:Hp}{s:Shared}{Q:VK}{E:XK}{us:List Value}{vs:List V}(F:FnOk X.prog X.w X.K X.mg X.base (CXE X.prog X.w) k f fd ps sp)(I:Room k X.A)(J0:Binds X.K fd ps ds)(O:Vals dvs ds)(D:Inv X pins σ H s)(r:Vals vs us)(h:sp (vs++dvs) H Q E):wpAny (model X.prog X.w) X.A (call (.ref f) us) (EP X pins σ Q) (XP X pins σ E) s:=by
 have G:Vals (vs++dvs) (us++ds):=r.append O;have U:(us++ds).length=ps.length:=by rw[←G.length];exact F.len _ _ _ _ h
 refine wpAny_call (codeAny_mono (F.run X.A X.stack s H ⟨us,[]⟩ (us++ds) (vs++dvs) Q E I D.env0 (J0 s us D.kIn U) G h) λr s' B=>?_);cases r with
 |error e=>exact⟨H,s,D,B⟩
 |ok W=>
  cases W with
  |ret u=>exact D.after B
  |next=>exact False.elim B
  |brk=>exact False.elim B
  |cont=>exact False.elim B
theorem zgH{pl:Sem Bool}(U:PE X.nox o ta)(c:Cls X.K C)(D:Meth X.K C m f)(F:FnOk X.prog X.w X.K X.mg X.base (CXE X.prog X.w) k f fd ps sp)(V:Room k X.A)(Y:Binds X.K fd ps ds)(Z:Vals dvs ds)(aa:PA X.nox (e::es) t)(ab:starEach (e::es) X.env=(false,eval e X.env)::starEach es X.env:=by rfl)(ac:(backTo pos (starEach es X.env)).any (·.1)=false:=by rfl)(ad:eval (.Call (.Attribute o m apos) (e::es) [] pos) X.env=(do
   let G ← eval o X.env
   standAt apos.atName
   let (f,first) ← holding [G] (getMethod G m pl)
   callWith pos f first (backTo pos (starEach (e::es) X.env)) (backToKw pos (keywordEach [] X.env))):=by rfl) :
  PEx X (.Call (.Attribute o m apos) (e::es) [] pos) (λσ H Q E=>ta σ H λx H1=>∃a dx fs,x=.ref a/\H1 a=some (.ins C dx fs)/\fs.lookup m=none/\t σ H1 λvs H2=>sp (x::(vs++dvs)) H2 Q E):=by
 intro pins s σ H Q E I h;refine W.methodCall_KW (pl:=pl) (wpAny_mono (U pins s σ H _ (I.wish _) h) (λu ae q=>?_) λ_ _ z=>False.elim z) ad;obtain⟨x,H1,J0,af,a,dx,fs,ex,ea,l,q⟩:=q;subst ex;obtain rfl:u=Value.ref a:=af;refine zbR J0.unwish ea c D l ?_;refine W.callWith_K (first:=[.ref a]) (h₀:=X.base) I.ok.mod.kin D.kp (wpAny_mono (aa pos pins ae σ H1 _ J0 q) (λus ag B=>?_) λ_ _ z=>False.elim z) ab ac
 obtain⟨vs,H2,O,r,B⟩:=B;exact⟨O.kIn,zio (us:=.ref a::us) (vs:=.ref a::vs) F V Y Z O.unwish (.cons J r) B⟩
theorem ziq{pl:Sem Bool}(I:PE X.nox o ta)(c:Cls X.K C)(D:Meth X.K C m f)(F:FnOk X.prog X.w X.K X.mg X.base (CXE X.prog X.w) k f fd ps sp)(J0:Room k X.A)(O:Binds X.K fd ps ds)(U:Vals dvs ds)(V:eval (.Call (.Attribute o m apos) [] [] pos) X.env=(do
   let G ← eval o X.env
   standAt apos.atName
   let (f,first) ← holding [G] (getMethod G m pl)
   callWith pos f first (backTo pos (starEach [] X.env)) (backToKw pos (keywordEach [] X.env))):=by rfl) :
  PEx X (.Call (.Attribute o m apos) [] [] pos) (λσ H Q E=>ta σ H λx H1=>∃a dx fs,x=.ref a/\H1 a=some (.ins C dx fs)/\fs.lookup m=none/\sp (x::dvs) H1 Q E):=by
 intro pins s σ H Q E Y h;refine W.methodCall_KW (pl:=pl) (wpAny_mono (I pins s σ H _ (Y.wish _) h) (λu aa q=>?_) λ_ _ z=>False.elim z) V;obtain⟨x,H1,B,Z,a,dx,fs,ex,ea,l,q⟩:=q;subst ex;obtain rfl:u=Value.ref a:=Z;refine zbR B.unwish ea c D l ?_;exact W.callWith_K0 B.kIn D.kp (zio (us:=[.ref a]) (vs:=[.ref a]) F J0 O U B.unwish (.cons rfl .nil) q)
theorem zir{pos':Pos}(B:X.N.Nodup)(hi:X.N[i]?=some x)(F:Loc X.env.scope x)(G:PEx X e tx)(I:swapsWith e (some (.Name x pos')) pos.line X.env=pure false:=by rfl)(J0:X.fn x=true∨X.env.scope.names.lookup x=some .local:=by first|exact .inl rfl|exact .inr rfl|assumption) :
  PX X (.Assign [.Name x pos'] e pos) (λD E σ H=>tx σ H (λy H1=>D.nx (σ.set i (some y)) H1) E):=by
 intro pins s σ H D E O h;refine wpAny_Assign_Name (thn (G pins s σ H _ E O h) λv Y q=>?_) I;obtain⟨y,H1,U,V,q1⟩:=q;exact zct U B hi F V (λZ W=>⟨_,H1,W,q1⟩) J0
theorem zmk{c:Expr}{tc:TT}(G:PT X.nox c tc)(I:PXs X a u)(J0:PXs X b v):PX X (.If c a b pos) (λD E σ H=>tc σ H λd H1=>if d=true then u D E σ H1 else v D E σ H1):=by
 intro pins s σ H D E O h;refine wpAny_If (wpAny_mono (G pins s σ H _ (O.wish _) h) (λd B q=>?_) λ_ _ z=>False.elim z);obtain⟨H1,F,q1⟩:=q;cases d with
 |true=>exact I pins B σ H1 D E F.unwish q1
 |false=>exact J0 pins B σ H1 D E F.unwish q1
theorem zdR(h:PX X st u):PXs X [st] u:=by
 intro pins s σ H D E B q;refine wpAny_execs_cons (thn (h pins s σ H D E B q) λf F z=>?_);cases f with
 |next=>exact wpAny_execs_nil z
 |brk=>exact z
 |cont=>exact z
 |ret u=>exact z
end
noncomputable abbrev Cx.hand(X:Cx)(a:Addr):Cx:={ X with A:=X.A.mark (some (.ref a)),calm:=false,xe:=λ_ _=>False }
section
variable {X:Cx}{pins:List (Addr×Obj)}{σ:St}{H:Hp}{s:Shared}{a:Addr}
theorem Inv.hand(D:Inv X pins σ H s)(a:Addr):Inv (X.hand a) pins σ H s:=by
 have B:=D.ok;exact⟨⟨B.mod,B.kind,B.glob,B.blt,B.above,B.inj,B.has,B.cab,(λz=>nomatch z),B.frames,B.stk,B.exf,B.bs,B.bsz,B.noex,B.exfs,B.funs,B.frf⟩,D.os,D.bare,D.base,D.loc,D.cell,D.free,D.freeC,D.pin,D.hok,D.len⟩
theorem Inv.back(D:X.Ok)(B:Inv (X.hand a) pins σ H s):Inv X pins σ H s:=⟨D,B.os,B.bare,B.base,B.loc,B.cell,B.free,B.freeC,B.pin,B.hok,B.len⟩
end
noncomputable def Ends.less(D:Ends)(i:Nat):Ends:={ nx:=λσ H=>D.nx (σ.set i none) H,rt:=D.rt,bk:=λσ H=>D.bk (σ.set i none) H,ct:=λσ H=>D.ct (σ.set i none) H }
noncomputable def zml(K:W.Frag)(C:Addr)(i:Nat)(tb:TSX)(ts:Addr->TS):TS:=λD σ H=>
 tb D (λcls _ H'=>W.exmOne K cls (.ref C)=some true/\∀a,H' a=none->ts a (D.less i) (σ.set i (some (.ref a))) (upd H' a (exH a cls))) σ H
section
variable {X:Cx}{i:Nat}{n x:Str}{C:Addr}{body suite:List Stmt}{b₀:Stmt}{np hpos pos:Pos}{tb:TSX}{ts:Addr->TS}
theorem zis{M:Model}{h:Heap}{a:Addr}{o:Obj}{c:Value}(e:h.get? a=some o)(q:o.cls=c):W.Looks M h (typeOf (.ref a)) c:=by
 subst q;exact(W.Looks.ld e).andThen .now
theorem zjT(I:X.N.Nodup)(hi:X.N[i]?=some n)(G:X.env.scope.names.lookup n=some .local)(V:X.stack=X.env::X.outer)(ae:X.env.frame=some X.env.locals)(af:Gl X x)(ag:X.mg x=some (.ref C))(ah:PXs X body tb)(ai:∀a,PSs (X.hand a) (b₀::suite) (ts a))(aj:(x==("__debug__":Str))=false:=by decide) :
  PS X (.Try body [.ExceptHandler (some (.Name x np)) (some n) (b₀::suite) hpos] [] [] pos) (zml X.K C i tb ts):=by
 intro pins s σ H D O h;refine wpAny_Try_except (wpAny_mono (ah pins s σ H D _ O h) (λf ak q=>?_) λev ak q=>?_)
 .cases f with
  |next=>exact wpAny_execs_nil q
  |brk=>exact q
  |cont=>exact q
  |ret u=>exact q
 .obtain⟨H1,ax,U,c⟩:=q;have Z:=U.stack;have aa:=U.stkFree;rw[V] at Z aa c;have al:X.A.frames=some (X.env::X.outer):=by rw[←V];exact U.ok.frames
  refine noted al ae Z aa c λam ab=>?_;have ac:=ab;rw[←V] at ac;obtain⟨a,cls,H2,rfl,ay,ao,J0,o,go,ap⟩:=U.caught ac;refine wpAny_handleBy_cons (codeAny_handlers_test ?_) (by intro q;cases q);refine zcG (J0.hand a) af ag ?_ aj;refine W.exm_one J0.kIn (zis go ap) ao.1 _ _ _ am (λ_ _ q=>q) ?_;refine codeAny_handlers_suite_as ?_;refine flown ab λaz ad=>?_;rw[←V] at ad;obtain⟨aA,aB,aC,aq,ar,as,au,_⟩:=U.caught ad;cases aq;refine zct (X:=X.hand a) (v:=.ref a) (au.hand a) I hi (.inl G) rfl (λav aw=>?_) (.inr G);refine wpAny_mono (ai a pins av _ _ _ aw (as.2 a ar)) (λf aD q=>?_) λ_ _ z=>False.elim z;cases f with
  |next=>
   obtain⟨σ',H',B,q⟩:=q;exact zeH (B.back O.ok) I hi G λY F=>⟨_,H',F,q⟩
  |brk=>
   obtain⟨σ',H',B,q⟩:=q;exact zeH (B.back O.ok) I hi G λY F=>⟨_,H',F,q⟩
  |cont=>
   obtain⟨σ',H',B,q⟩:=q;exact zeH (B.back O.ok) I hi G λY F=>⟨_,H',F,q⟩
  |ret u=>
   obtain⟨v,σ',H',B,r,q⟩:=q;exact zeH (B.back O.ok) I hi G λY F=>⟨v,_,H',F,r,q⟩
end
theorem zeI:entryFor table "proto.unchain"=some Builtin.«proto.unchain»:=entryFor_of_fast (by kernel_rfl)
section
variable {prog:Program}{w:World}{A:Around}{E:Value->Shared->Prop}{s:Shared}
noncomputable def Lone(h:Heap)(a:Addr):Prop:=∃o vs,h.get? a=some o/\o.data=.fields vs/\vs[2]?=some .none
theorem zfA{e:Value}{a:Addr}{Q:Value->Shared->Prop}(l:Lone s.heap a)(h:Q .none s):wpAny (model prog w) A (runValue (.builtin "proto.unchain" ⟨[e,.ref a,.ref a,.bool false],[]⟩)) Q E s:=by
 obtain⟨o,vs,g,d,n⟩:=l;refine wpAny_runValue (codeAny_builtin zeI ?_);show wpAny _ _ (field (.ref a) 2 >>= _) _ _ s;refine wpAny_bind (wpAny_field g d n ?_);rw[if_pos (by rfl)];unfold ret;exact wpAny_pure h
theorem zjU{B:Type}{a b:Addr}{o:Obj}{vs:Array Value}{Q:B->Shared->Prop}(D:A.handled=some (.ref a))(ne:a≠b)(l:Lone s.heap a)(g:s.heap.get? b=some o)(d:o.data=.fields vs)(z:2<vs.size)(h:E (.ref b) { s with heap:=s.heap.update b (Obj.mapFields (·.setIfInBounds 2 (.ref a))) }):wpAny (model prog w) A (raiseNew (.ref b):Sem B) Q E s:=by
 unfold raiseNew;refine wpAny_bind (wpAny_handled ?_);rw[D];dsimp only;rw[if_pos (by simp[ne])];refine wpAny_bind (wpAny_holding (zfA l ?_));unfold updateField;refine wpAny_bind (wpAny_bind (wpAny_load g ?_));rw[d];dsimp only;rw[if_pos z];exact wpAny_update g (wpAny_throw h)
theorem zfB{it a:Addr}{x left step:Int}{Q:Option Value->Shared->Prop}(G:A.handled=some (.ref a))(l:Lone s.heap a)(B:IsRangeIter s.heap it x left step)(I:left<=0)(J0:∀h',(∀b o,s.heap.get? b=some o->h'.get? b=some o)->Q none { s with heap:=h' }):wpAny (model prog w) A (pyNext (.ref it)) Q E s:=by
 have ty:s.TypeIs (.ref it) "range_iterator":=⟨_,B,J⟩;obtain⟨O,U,D,V,W⟩:=id l;unfold pyNext;refine wpAny_bind (wpAny_attempt (wpAny_callSpecial?_slot (name:=Str.ofString "__next__") ty F.slot_range_iterator_next (wpAny_call_entry F.slot_range_iterator_next ty F.entry_range_iterator_next ?_ (F.args_range_iterator_next_1 _))));show wpAny _ _ (field (.ref it) 0 >>= _) _ _ s;refine wpAny_bind (wpAny_field B J (x:=rawInt x) rfl ?_);show wpAny _ _ (field (.ref it) 1 >>= _) _ _ s;refine wpAny_bind (wpAny_field B J (x:=rawInt left) rfl ?_);show wpAny _ _ (field (.ref it) 2 >>= _) _ _ s;refine wpAny_bind (wpAny_field B J (x:=rawInt step) rfl ?_);show wpAny _ _ (if left<=0 then _ else _) _ _ s;rw[if_pos I];refine wpAny_bind (wpAny_rule (wpAny_bind ?_));show wpAny _ _ (newExc (.type "StopIteration") [] >>= _) _ _ _;refine wpAny_bind ?_;simp only[newExc,newTuple];refine wpAny_bind (wpAny_newObj_type ?_ (by size_fits));refine wpAny_bind (m:=firstArgMember _ _) (wpAny_of_eq (a:=Value.none) (by first|rfl|(simp only[firstArgMember];rfl)) ?_)
 refine wpAny_newObj_type ?_ (by size_fits);have ne:a≠(s.heap.push { cls:=Value.type "tuple",data:=Data.seq #[] }).objs.size:=Nat.ne_of_lt (Heap.lt_size (Heap.get?_push_of_some _ D));refine zjU (a:=a) G ne ⟨O,U,Heap.get?_push_of_some _ (Heap.get?_push_of_some _ D),V,W⟩ (Heap.get?_push_size _ J) rfl (by rw[Array.size_append];exact Nat.lt_of_lt_of_le (by decide:2<6) (Nat.le_add_right _ _)) ?_;refine wpAny_bind (wpAny_isInstance (T:="StopIteration") (b:=true) ⟨_,zds (Heap.get?_push_size _ J) J _,Obj.cls_mapFields _ _⟩ isSubtype_stop ?_);refine wpAny_pure (J0 _ λb o q=>?_);show (Heap.update _ _ _).get? b=some o;rw[Heap.get?_update_other _ _ (Ne.symm (Nat.ne_of_lt (Heap.lt_size (Heap.get?_push_of_some _ q))))];exact Heap.get?_push_of_some _ (Heap.get?_push_of_some _ q)
end
noncomputable def ItrU(ea:Addr)(ecl:Value)(lo:Int)(n:Nat):It:=⟨λi _=>i<n,λi H x H'=>H'=H/\x=.int (lo+i),λi H=>n<=i/\H ea=some (exH ea ecl)⟩
structure TurnU(ea:Addr)(ecl:Value)(P:Program)(w:World)(K:W.Frag)(tg:Expr)(J0:It)(fp:List Addr)(it:Addr)(tn:Nat->Heap->Prop):Prop where
 mem:it∈fp
 obj:∀i h,tn i h->∀b∈fp,∃o,h.get? b=some o/\∀v,o.data≠.cell v
 keep:∀i h h',tn i h->(∀b∈fp,∀o,h.get? b=some o->h'.get? b=some o)->tn i h'
 item:∀(X:Cx),X.prog=P->X.w=w->X.K=K->X.A.handled=some (.ref ea)->∀(i:Nat) (pins:List (Addr×Obj)) (s:Shared) (σ:St) (H:Hp) (E:Value->Shared->Prop),Inv X pins σ H s->(∀b∈fp,FpOk X pins H b)->tn i s.heap->J0.go i H ->
  wpAny (model P w) X.A (pyNext (.ref it)) (λr s1=>∃u,r=some u /\
   wpAny (model P w) X.A (letOwnedTupleGo tg (.ref it) u) (λ_ s2=>∃x H',Inv X pins σ H' s2/\RelV x u/\J0.yld i H x H'/\tn (i+1) s2.heap/\∀b∈fp,H' b=none) E s1) E s
 done:∀(X:Cx),X.prog=P->X.w=w->X.K=K->X.A.handled=some (.ref ea)->∀(i:Nat) (pins:List (Addr×Obj)) (s:Shared) (σ:St) (H:Hp) (E:Value->Shared->Prop),Inv X pins σ H s->(∀b∈fp,FpOk X pins H b)->tn i s.heap->J0.stop i H ->
  wpAny (model P w) X.A (pyNext (.ref it)) (λr s1=>r=none/\Inv X pins σ H s1) E s
 self:∀(A:Around) (i:Nat) (s:Shared) (Q:Value->Shared->Prop) (E:Value->Shared->Prop),tn i s.heap->Q (.ref it) s->wpAny (model P w) A (pyIter (.ref it)) Q E s
noncomputable def PIEU(ea:Addr)(ecl:Value)(X:Cx)(pins:List (Addr×Obj))(σ:St)(tg:Expr)(R:It->Hp->Prop)(F:Value)(B:Shared):Prop:=
 ∃(it:Addr) (fp:List Addr) (D:Nat->Heap->Prop) (J0:It) (H':Hp),F=.ref it/\Inv X pins σ H' B/\TurnU ea ecl X.prog X.w X.K tg J0 fp it D/\D 0 B.heap/\(∀b∈fp,FpOk X pins H' b)/\R J0 H'
noncomputable def PIU(ea:Addr)(ecl:Value)(X:Cx)(tg iter:Expr)(wi:TI):Prop:=
 ∀(pins:List (Addr×Obj)) (s:Shared) (σ:St) (H:Hp) (R:It->Hp->Prop),Inv X pins σ H s->wi σ H R ->
  wpAny (model X.prog X.w) X.A (eval iter X.env) (λv B=>wpAny (model X.prog X.w) X.A (pyIter v) (PIEU ea ecl X pins σ tg R) X.xe B) X.xe s
theorem zf5{ea:Addr}{ecl:Value}{P:Program}{w:World}{K:W.Frag}{tg:Expr}(it:Addr)(lo:Int)(n:Nat):TurnU ea ecl P w K tg (ItrU ea ecl lo n) [it] it (λi h=>IsRangeIter h it (lo+(i:Nat)*1) ((n:Int)-(i:Nat)) 1) where
 mem:=by simp
 obj:=λi h st b B=>by
  have e:b=it:=by simpa using B
  subst e;exact⟨_,st,λv z=>by
   have z':Data.fields _=Data.cell v:=z;cases z'⟩
 keep:=λi h h' st k=>k it (by simp) _ st
 item:=by
  intro X G hw I ab i pins s σ H E D F st J0;subst G hw I;obtain⟨O,U,ac,V,Y,Z⟩:=F it (by simp);have g':i<n:=J0;refine wpAny_pyNext_range_item st (by omega) λh' aa ad=>?_;have ae:Inv X pins σ H { s with heap:=h',toks:=s.toks+1 }:=D.turned (λb o B e=>(ad.2 b B).trans e) O U V Y Z;have af:lo+(i:Int)*1+1=lo+((i+1:Nat):Int)*1:=by omega
  have ag:(n:Int)-(i:Int)-1=(n:Int)-((i+1:Nat):Int):=by omega
  rw[af,ag] at aa;refine⟨_,J,zhM (s:={ s with heap:=h',toks:=s.toks+1 }) (n:="range_iterator") aa J J (by decide) ⟨.int (lo+i),H,ae,⟨s.toks,?_⟩,⟨J,J⟩,aa,λb B=>(F b B).1⟩⟩;rw[Int.mul_one]
 done:=by
  intro X G hw I ab i pins s σ H E D F st J0;subst G hw I;obtain⟨O,U,ac,V,Y,Z⟩:=F it (by simp);obtain⟨am,ah⟩:n<=i/\H ea=some (exH ea ecl):=J0;have ai:Lone s.heap ea:=by
   obtain⟨⟨o,vs,q1,_,aj,ak,_⟩,_⟩:=D.hok ea _ ah;exact⟨o,vs,q1,aj,ak⟩
  exact zfB ab ai st (by omega) λh' al=>⟨J,D.turned (t':=s.toks) (λb o B e=>al b o e) O U V Y Z⟩
 self:=λ_ _ _ _ _ st h=>wpAny_pyIter_rangeiter st h
section
variable {ea:Addr}{ecl:Value}{X:Cx}{tg:Expr}
theorem zit{pins:List (Addr×Obj)}{σ:St}{H:Hp}{s:Shared}{R:It->Hp->Prop}{E:Value->Shared->Prop}{lo hi:Int}{t u v:Tok}{tk:Nat}(D:Inv X pins σ H s)(h1:-(2 ^ 62)<=lo)(h2:lo<2 ^ 62)(F:-(2 ^ 62)<=hi)(G:hi<2 ^ 62)(q:R (ItrU ea ecl lo (hi-lo).toNat) H):wpAny (model X.prog X.w) X.A (pyIter (.ref s.heap.objs.size)) (PIEU ea ecl X pins σ tg R) E { s with heap:=s.heap.push { cls:=.type "range",data:=.fields #[.int lo t,.int hi u,.int 1 v] },toks:=tk }:=by
 refine wpAny_pyIter_range (IsRange.new ..) (small_one h1 h2 F G) ?_;have B:Inv X pins σ H { s with heap:=s.heap.push { cls:=.type "range",data:=.fields #[.int lo t,.int hi u,.int 1 v] },toks:=tk }:=D.kept λb o e=>Heap.get?_push_of_some _ e;refine⟨(s.heap.push { cls:=.type "range",data:=.fields #[.int lo t,.int hi u,.int 1 v] }).objs.size,[(s.heap.push { cls:=.type "range",data:=.fields #[.int lo t,.int hi u,.int 1 v] }).objs.size],_,_,H,J,
  B.kept (t':=tk) λb o e=>Heap.get?_push_of_some _ e,zf5 _ lo (hi-lo).toNat,?_,λb I=>?_,q⟩
 .have J0:lo+((0:Nat):Int)*1=lo:=by simp
  have O:(((hi-lo).toNat:Nat):Int)-((0:Nat):Int)=Builtin.Range.rangeSize lo hi 1:=by rw[rangeSize_one];split<;>omega
  show IsRangeIter _ _ (lo+((0:Nat):Int)*1) ((((hi-lo).toNat:Nat):Int)-((0:Nat):Int)) 1;rw[J0,O];exact Heap.get?_push_size _ rfl
 .have e:b=(s.heap.push { cls:=.type "range",data:=.fields #[.int lo t,.int hi u,.int 1 v] }).objs.size:=by simpa using I
  subst e;exact B.fpOk (Nat.le_refl _) (B.hok.fresh (Nat.le_refl _))
noncomputable def iRngU(ea:Addr)(ecl:Value)(ta:TA):TI:=λσ H R=>ta σ H λvs H1=>∃j:Int,vs=[.int j]/\-(2 ^ 62)<=j/\j<2 ^ 62/\R (ItrU ea ecl 0 j.toNat) H1
theorem zhp{a:Expr}{ta:TA}{p pos:Pos}(D:Gl X "range")(F:X.mg "range"=none)(G:PA X [a] ta)(I:starEach [a] X.env=[(false,eval a X.env)]:=by rfl):PIU ea ecl X tg (.Call (.Name "range" p) [a] [] pos) (iRngU ea ecl ta):=by
 intro pins s σ H R B h;refine Call_ (zcE B D F boot_range (PyProof.Rows.callWith_type1 (thn (G pos pins s σ H _ B h) λus Y J0=>?_) I J));obtain⟨vs,H1,O,U,q1⟩:=J0;obtain⟨j,e,q1,V,q⟩:=q1;subst e;cases U with
 |cons r W=>
  cases W;obtain⟨t,rfl⟩:=r;exact call_range_1 (zit O (by omega) (by omega) q1 V (by simpa using q))
theorem zhq{X:Cx}(as:X.xe=λ_ _=>False)(ah:X.A.handled=some (.ref ea)){e:Expr}{d:Nat}{tg iter:Expr}{ifs:List Expr}{D:Value}{rest:Sem Unit}{g:TG}{tt:TT}{ai:TR}{J0:It}{fp:List Addr}{it:Addr}{Z:Nat->Heap->Prop}(au:compTurn e d (.ref it) D X.env=(do
   standAt iter.pos
   match ← pyNext (.ref it) with
   |none=>pure (.done .next)
   |some v=>
    letOwnedTupleGo tg (.ref it) v
    assign tg X.env v
    let mut V:=true
    for c in ifs do
     if V then V ← isTrue c X.env (eval c X.env)
    if V then rest
    again (.compLoop e d (.ref it) D X.env)))(av:(Code.compLoop e d (.ref it) D X.env).quiet=true)(aw:X.A.under (.compLoop e d (.ref it) D X.env)=X.A)(ax:(model X.prog X.w).den (.compLoop e d (.ref it) D X.env)=(compTurn e d (.ref it) D X.env).onRaise (λx=>do noteFrame x X.env;theTreesLotGoes x))(ay:PG X tg g)(az:PTs X ifs tt)(aA:PR X rest ai)(T:TurnU ea ecl X.prog X.w X.K tg J0 fp it Z){pins:List (Addr×Obj)}{σ:St}{H:Hp}{s:Shared}{Qe:St->Hp->Prop}{R:Result->Shared->Prop}(aB:Inv X pins σ H s)(st:Z 0 s.heap)(aj:∀b∈fp,FpOk X pins H b)(h:tLoop J0 g tt ai Qe σ H)(aC:∀s' σ' H',Inv X pins σ' H' s'->Qe σ' H'->R (.ok .next) s') :
  codeAny (model X.prog X.w) X.A (.compLoop e d (.ref it) D X.env) R s:=by
 obtain⟨W,⟨aD,aE⟩,aF⟩:=h;have ac:∀ {H':Hp},(∀b∈fp,H' b=none)->∀b∈fp,FpOk X pins H' b:=λaG b B=>⟨aG b B,(aj b B).2⟩;have I:∀ {ad:Type} {t:Sem ad} {Q:ad->Shared->Prop} {s:Shared} {E:Value->Shared->Prop},wpAny (model X.prog X.w) X.A t Q X.xe s->wpAny (model X.prog X.w) X.A t Q E s:=λ{ad t Q s E} h=>
  wpAny_mono h (λ_ _ x=>x) λ_ _ x=>by rw[as] at x;exact x.elim
 refine codeAny_loop av (λn s'=>∃i σ' H',Inv X pins σ' H' s'/\Z i s'.heap/\(∀b∈fp,H' b=none)/\W i n σ' H') (λn ak aH=>?_) aD ⟨0,σ,H,aB,st,λb B=>(aj b B).1,aE⟩;rw[aw,ax];refine wpAny_noted ?_;rw[au];obtain⟨i,aa,ae,al,am,ao,aI⟩:=aH;refine wpAny_bind (wpAny_standAt (wpAny_bind ?_));rcases aF i n aa ae aI with⟨stop,aJ⟩|⟨go,N,aK,step⟩
 .refine I (thn (T.done X J J J ah i pins ak aa ae X.xe al (ac ao) am stop) λr aL ⟨af,aM⟩=>?_);subst af;exact wpAny_pure (aC _ _ _ aM aJ)
 .refine I (thn (T.item X J J J ah i pins ak aa ae X.xe al (ac ao) am go) λr aL ⟨u,af,aN⟩=>?_);subst af;refine wpAny_bind (I (thn aN λ_ ap F=>?_));obtain⟨x,aq,aO,aP,aQ,ag,aR⟩:=F;have aS:=aO.pinned (ac aR) (T.obj _ _ ag);refine wpAny_bind (I (thn (ay _ ap aa aq x u _ aS aP (step x aq aQ)) λ_ aT F=>?_));obtain⟨ar,aU,aV,aW⟩:=F;have again:∀ {Y:St} {G:Hp} {O:Shared},Inv X (pins++zec fp ap.heap) Y G O->N Y G->∃m,m<n/\∃i σ' H',Inv X pins σ' H' O/\Z i O.heap/\(∀b∈fp,H' b=none)/\W i m σ' H':=λ{Y G O} U aX=>by
   obtain⟨aY,aZ,a1⟩:=aK Y G aX;refine⟨aY,aZ,i+1,Y,G,U.unpinned,T.keep _ _ _ ag λb B o e=>(U.pin (b,o) (List.mem_append_right _ (List.mem_append_right _ (zbE B e)))).1,λb B=>?_,a1⟩;obtain⟨o,e,dd⟩:=T.obj _ _ ag b B;exact(U.pin (b,o) (List.mem_append_right _ (List.mem_append_right _ (zbE B e)))).2.1
  refine wpAny_bind (I (thn (az _ aT ar aU _ aV aW) λV O F=>?_));obtain⟨G,U,ab⟩:=F;cases V with
  |false=>
   rw[if_neg (by simp)] at ab;exact wpAny_pure ⟨J,again U ab⟩
  |true=>
   rw[if_pos rfl] at ab;refine wpAny_bind (I (thn (aA _ O ar G _ U ab) λ_ a4 F=>?_));obtain⟨a5,a6,a2,a3⟩:=F;exact wpAny_pure ⟨J,again a2 a3⟩
variable {elt iter:Expr}{ifs:List Expr}{sc:Scope}{pos:Pos}{N':List Str}{js:List (Option Nat)}{wi:TI}{g:TG}{tt:TT}{te:TE}
theorem zfC(ai:X.A.handled=some (.ref ea))(B:BlkOk X sc)(C:CapsOk X sc N' js){cl:List (Str×Addr)}(ab:∀x c,cl.lookup x=some c->X.env.cells.lookup x=some c)(aj:∀x∈sc.names,x.2=.free->∃c,cl.lookup x.1=some c)(ak:∀cl s H fp,PG (X.blk sc cl N' s H fp) tg g)(al:∀cl s H fp,PTs (X.blk sc cl N' s H fp) ifs tt)(am:∀cl s H fp,PE (X.blk sc cl N' s H fp) elt te){pins:List (Addr×Obj)}{σ:St}{H:Hp}{s:Shared}{Qe:Addr->Hp->Prop}{it:Addr}{fp:List Addr}{O:Nat->Heap->Prop}{J0:It}{RR:Value->Addr->Result->Shared->Prop}(ac:Inv X pins σ H s)(T:TurnU ea ecl X.prog X.w X.K tg J0 fp it O)(st:O 0 s.heap)(ao:∀b∈fp,FpOk X pins H b)(h:∀p,H p=none->tLoop J0 g tt (tApp p te) (λ_ H'=>Qe p H') (capSt σ js) (upd H p (.lst [])))(ap:∀p C s' H',C≠p->(∀b o,s.heap.get? b=some o->b≠C)->H' C=none->(∃m,s'.heap.Ns C m)->Qe p H'->(∀G,Heap.SameBut C s'.heap G->Inv X pins σ H' { s' with heap:=G })->FpOk X pins H' C->RR (.ref p) C (.ok .next) s') :
  wpAny (model X.prog X.w) X.A (newList []) (λad aq=>wpAny (model X.prog X.w) X.A (newFunctionEnv sc X.env.globals cl [] X.env.qual none .none (some X.env)) (λae ar=>
   codeAny (model X.prog X.w) X.A (.compStart (.ListComp elt [⟨tg,iter,ifs,0⟩] sc pos) 0 (.ref it) ad { ae with scope:=relabel sc X.env }) (RR ad ae.locals) ar) X.xe aq) X.xe s:=by
 refine wpAny_newObj_type ?_;have I:=ac.lnew (ys:=[]) (its:=[]) (t':=s.toks) .nil (by simp);generalize Y:({ s with heap:=s.heap.push { cls:=.type "list",data:=.seq ([]:List Value).toArray },toks:=s.toks }:Shared)=D at I;have Z:H s.heap.objs.size=none:=ac.fresh;have as:=h _ Z;have aa:∀b∈fp,FpOk X pins (upd H s.heap.objs.size (.lst [])) b/\b<D.heap.objs.size:=λb F=>by
  obtain⟨au,av⟩:=ao b F;obtain⟨o,e,_⟩:=T.obj _ _ st b F;have U:=Heap.lt_size e;refine⟨⟨by rw[zak (Nat.ne_of_lt U)];exact au,av⟩,?_⟩;rw[←Y];show b<(s.heap.push _).objs.size;rw[Heap.size_push];exact Nat.lt_succ_of_lt U
 have hsz:D.heap.objs.size=s.heap.objs.size+1:=by rw[←Y];exact Heap.size_push ..
 have aw:O 0 D.heap:=by rw[←Y];exact T.keep _ _ _ st λb F o e=>Heap.get?_push_of_some _ e
 refine wpAny_newFunctionEnv B.nocell (by intro y ax;simp at ax) (λV ay af=>?_) B.kind;have az:=zfq (cl:=cl) (N':=N') (σ':=capSt σ js) (tk:=D.toks+([]:List (Str×Value)).length) I B ab aj aa C.len (λi x v aA aB _=>C.get aA aB) (show V.Ns D.heap.objs.size (λ_=>none) from ay) (show Heap.SameBut D.heap.objs.size (D.heap.push { cls:=.type "dict",data:=.dict #[] }) V from af);have ag:O 0 V:=T.keep _ _ _ aw λb F o e=>(af.2 b (Nat.ne_of_lt (Heap.lt_size e))).trans (Heap.get?_push_of_some _ e);have aC:∀b∈fp,FpOk (X.blk sc cl N' D (upd H s.heap.objs.size (.lst [])) fp) [] (upd H s.heap.objs.size (.lst [])) b:=λb F=>by
  obtain⟨⟨aD,aE,aF,aK,aG,aL⟩,U⟩:=aa b F;refine⟨aD,Nat.ne_of_lt U,λz=>?_,.inl F,λx c e=>aG x c (ab x c e),λp Z=>absurd (show p∈([]:List (Addr×Obj)) from Z) (by simp)⟩;rcases List.mem_cons.mp (I.stkSub b z) with z|z
  .exact aE z
  .exact aF z
 have ah:codeAny (model X.prog X.w) X.A (.compLoop (.ListComp elt [⟨tg,iter,ifs,0⟩] sc pos) 0 (.ref it) (.ref s.heap.objs.size) (compEnvC sc cl D.heap.objs.size X.env)) (RR (.ref s.heap.objs.size) D.heap.objs.size) { D with heap:=V,toks:=D.toks+([]:List (Str×Value)).length }:=by
  refine zhq (X:=X.blk sc cl N' D (upd H s.heap.objs.size (.lst [])) fp) rfl ai (compTurn_list ..) rfl rfl rfl (ak _ _ _ _) (al _ _ _ _) (zkH (am _ _ _ _)) T az ag aC as λs' σ' H' W q=>?_;have aH:∀G,Heap.SameBut D.heap.objs.size s'.heap G->Inv X pins σ H' { s' with heap:=G }:=λG aI=>zh2 I aa W aI;obtain⟨m,aJ,_⟩:=W.loc;refine ap _ _ _ H' (by rw[hsz];exact Nat.succ_ne_self _) (λb o e=>?_) W.free ⟨m,aJ⟩ q aH (I.fpOk (Nat.le_refl _) W.free);rw[hsz];exact Nat.ne_of_lt (Nat.lt_succ_of_lt (Heap.lt_size e))
 exact codeAny_compStart_list ah (T.self _ 0 _ _ _ ag ah)
theorem ziu(ak:X.xe=λ_ _=>False)(F:X.A.handled=some (.ref ea))(B:BlkOk X sc)(C:CapsOk X sc N' js)(hi:PIU ea ecl X tg iter wi)(G:∀cl s H fp,PG (X.blk sc cl N' s H fp) tg g)(I:∀cl s H fp,PTs (X.blk sc cl N' s H fp) ifs tt)(O:∀cl s H fp,PE (X.blk sc cl N' s H fp) elt te)(U:∀x,foldedSetIterable iter X.env x=pure x:=by intro _;rfl):PE X (.ListComp elt [⟨tg,iter,ifs,0⟩] sc pos) (tComp js wi g tt te):=by
 intro pins s σ H Q D h;obtain⟨cl,V,W,Y⟩:=zc5 X.env sc λx Z aa=>D.ok.has x.1 (.inl (B.free x Z aa));rw[eval_ListComp];refine wpAny_comprehension_free (use:=none) rfl U V B.kind B.names (thn (hi pins s σ H _ D h) λv al h1=>thn h1 λam ao h2=>?_);obtain⟨it,fp,ap,J0,H2,e,ab,T,ac,ad,h2⟩:=h2;subst e;refine zfC (Qe:=λp H'=>Q (.ref p) H') (RR:=λae C=>compPost (model X.prog X.w) X.A X.xe none (EP X pins σ Q) ae C) F B C W Y G I O ab T ac ad h2 ?_;intro p C s' H' aq ar as af q ag _;obtain⟨m,ah⟩:=af;exact⟨m,ah,λai aj=>⟨.ref p,H',ag ai aj,J,q⟩⟩
end
structure RoomU(k:Nat)(A:Around):Prop where
 dp:A.depth+3*k+5<recursionLimit
 un:A.units+16*k+200<cLine
theorem Room.soft{k:Nat}{A:Around}(r:Room k A):RoomU k A:=⟨r.dp,r.un⟩
theorem RoomU.deeper{k:Nat}{A:Around}(r:RoomU (k+1) A)(env:Env):RoomU k (A.deeper env):=
 ⟨by have:=r.dp;show A.depth+1+3*k+5<_;omega,by have:=r.un;show A.units+3+16*k+200<_;omega⟩
theorem RoomU.depth{k:Nat}{A:Around}(r:RoomU k A):A.depth<recursionLimit:=by have:=r.dp;omega
structure FnOkU(P:Program)(w:World)(K:W.Frag)(mg:Str->Option Value)(base:Heap)(k:Nat)(f:Addr)(fd:FuncData)(ps:List Str)(sp:Addr->Sp):Prop where
 len:∀ea vs H Q E,sp ea vs H Q E->vs.length=ps.length
 run:∀(A:Around) (outer:List Env) (s:Shared) (H:Hp) (args:Args) (us:List Value) (vs:List V) (Q:VK) (E:XK) (ea:Addr),RoomU k A->A.handled=some (.ref ea)->Env0 P w K mg base A outer s H->BindsTo s fd args (ps.zip us)->Vals vs us->sp ea vs H Q E ->
  codeAny (model P w) A (.call (.ref f) args) (CR CX0 outer P w H s Q E) s
noncomputable def cxOfU(P:Program)(w:World)(K:W.Frag)(mg:Str->Option Value)(base:Heap)(N:List Str)(qual:Str)(scope:Scope)(f:Addr)(cd:Value)(A:Around)(outer:List Env)(s:Shared)(H:Hp)(E:XK):Cx:=
 { cxOf CX0 P w K mg base N qual scope f cd A outer s H E with calm:=false,xe:=λ_ _=>False }
theorem zhr{P:Program}{w:World}{K:W.Frag}{mg:Str->Option Value}{base:Heap}{N ps:List Str}{qual:Str}{scope:Scope}{f:Addr}{cd:Value}{A:Around}{outer:List Env}{s F:Shared}{H:Hp}{E:XK}{us:List Value}{vs:List V}(S:zav N ps scope)(D:Env0 P w K mg base A outer s H)(G:vs.length=ps.length)(r:Vals vs us)(x:InCallC s s.heap.objs.size (bindL (envOfC qual scope s.heap.objs.size f cd).kindOf (ps.zip us) λ_=>none) (cellsFrom (s.heap.objs.size+1) scope.names []) (bindC (envOfC qual scope s.heap.objs.size f cd).kindOf (ps.zip us) λ_=>none) F) :
  Inv (cxOfU P w K mg base N qual scope f cd A outer s H E) [] (start N vs) H F:=by
 have B:=zfm (CX:=CX0) (E:=E) (cd:=cd) (A:={ A with handled:=none }) S rfl ⟨D.frames,D.mod,D.bs,D.bsz,D.funs,D.frf,D.hok,D.bare⟩ G r x;exact⟨⟨B.ok.mod,B.ok.kind,B.ok.glob,B.ok.blt,B.ok.above,B.ok.inj,B.ok.has,B.ok.cab,(λz=>nomatch z),Around.frames_deeper D.frames,B.ok.stk,B.ok.exf,B.ok.bs,B.ok.bsz,B.ok.noex,B.ok.exfs,B.ok.funs,B.ok.frf⟩,B.os,B.bare,B.base,B.loc,B.cell,B.free,B.freeC,B.pin,B.hok,B.len⟩
theorem zmm{P:Program}{w:World}{K:W.Frag}{mg:Str->Option Value}{base:Heap}{k:Nat}{f:Addr}{name qual:Str}{G:Arguments}{body:List Stmt}{scope:Scope}{I kV doc pm cdv ct oc:Value}{an od:Option Addr}{osl:Array (Option Value)}{N ps:List Str}{sp:Addr->Sp}(ac:K.lookup f=some ⟨oc,od,.func (W.fnOf name qual G body scope I kV doc pm an cdv ct),osl⟩)(ad:W.codeIn K cdv qual=true)(S:zav N ps scope)(O:∀ea vs H Q E,sp ea vs H Q E->vs.length=ps.length)(ae:∀(A:Around) (outer:List Env) (s:Shared) (H:Hp) (vs:List V) (Q:VK) (E:XK) (ea:Addr),RoomU k (A.deeper (envOfC qual scope s.heap.objs.size f cdv))->A.handled=some (.ref ea)->sp ea vs H Q E ->
   ∃t,PSs (cxOfU P w K mg base N qual scope f cdv A outer s H E) body t/\t { nx:=λ_ H'=>Q .non H',rt:=Q } (start N vs) H) :
  FnOkU P w K mg base (k+1) f (W.fnOf name qual G body scope I kV doc pm an cdv ct) ps sp:=by
 refine⟨O,λA outer s H args us vs Q E ea U af D ag r Y=>?_⟩;have ah:=O _ _ _ _ _ Y;have Z:K.In s.heap:=D.mod.kin.keeps λb o e=>(D.bs b o e).1;have ai:s.heap.NoLimit:=D.mod.nolimit.keeps λb o e=>(D.bs b o e).1;have aj:∀y∈ps.zip us,scope.names.lookup y.1=some .local∨(scope.names.lookup y.1=some .cell/\((cellsFrom (s.heap.objs.size+1) scope.names []).lookup y.1).isSome=true):=λ⟨n,v⟩ ak=>by
  rcases S.par n (List.of_mem_zip ak).1 with q|q
  .exact .inl q
  .exact .inr ⟨q,W.cellsFrom_some _ _ _ (.inl q)⟩
 refine codeAny_call_function U.depth (Z _ _ ac) rfl S.co S.gen rfl (W.codeRec_of Z ad) (ag _ _ _ _ ?_);refine wpAny_newFunctionEnv_cells S.kind aj λenv al aa x=>?_;subst al;refine⟨ai.keeps x.toInCall.keep,codeAny_func ?_⟩;obtain⟨t,am,ao⟩:=ae A outer s H vs Q E ea (U.deeper _) af Y;have ap:Inv (cxOfU P w K mg base N qual scope f cdv A outer s H E) [] (start N vs) H aa:=zhr S D ah r x;refine wpAny_mono (am [] aa (start N vs) H _ ap ao) (λaq s' B=>?_) λe s' B=>B.elim;have ab:∀ {σ':St} {H':Hp} {v:V} {u:Value},Inv (cxOfU P w K mg base N qual scope f cdv A outer s H E) [] σ' H' s'->RelV v u->Q v H'->CE outer P w H s Q u s':=
  λ{σ' H' v u} J0 F q=>⟨v,H',J0.os,J0.bare,J0.base,J0.hok,F,q⟩
 cases aq with
 |ret u=>
  obtain⟨v,σ',H',J0,F,q⟩:=B;exact ab J0 F q
 |next=>
  obtain⟨σ',H',J0,q⟩:=B;exact ab (v:=V.non) (u:=Value.none) J0 rfl q
 |brk=>
  obtain⟨_,_,_,q⟩:=B;exact False.elim q
 |cont=>
  obtain⟨_,_,_,q⟩:=B;exact False.elim q
section
variable {X:Cx}{k:Nat}{f:Addr}{fd:FuncData}{ps:List Str}{sp:Addr->Sp}{ds:List Value}{dvs:List V}{ea:Addr}{x:Str}{p pos:Pos}{e:Expr}{es:List Expr}{t:TA}
theorem zjV(F:FnOkU X.prog X.w X.K X.mg X.base k f fd ps sp)(O:RoomU k X.A)(U:X.A.handled=some (.ref ea))(V:Gl X x)(Y:X.mg x=some (.ref f))(Z:W.keepIn X.K (.ref f)=true)(aa:Binds X.K fd ps ds)(ab:Vals dvs ds)(ac:PA X (e::es) t)(ad:(x==("__debug__":Str))=false:=by decide)(ae:starEach (e::es) X.env=(false,eval e X.env)::starEach es X.env:=by rfl)(af:(backTo pos (starEach es X.env)).any (·.1)=false:=by rfl) :
  PE X (.Call (.Name x p) (e::es) [] pos) (λσ H Q=>t σ H λvs H1=>sp ea (vs++dvs) H1 Q E0):=by
 intro pins s σ H Q G h;refine wpAny_Call_Name_kw (zcG G V Y ?_ ad);refine W.callWith_K (h₀:=X.base) G.ok.mod.kin Z (thn (ac pos pins s σ H _ G h) λus I q=>?_) ae af;obtain⟨vs,H1,D,r,q⟩:=q;refine⟨D.kIn,?_⟩;have J0:Vals (vs++dvs) (us++ds):=r.append ab;have ag:(us++ds).length=ps.length:=by rw[←J0.length];exact F.len _ _ _ _ _ q
 refine wpAny_call (codeAny_mono (F.run X.A X.stack I H1 ⟨us,[]⟩ (us++ds) (vs++dvs) Q E0 ea O U D.env0 (aa I us D.kIn ag) J0 q) λr s' B=>?_);cases r with
 |error e=>exact B.elim
 |ok ah=>
  cases ah with
  |ret u=>exact D.after B
  |next=>exact False.elim B
  |brk=>exact False.elim B
  |cont=>exact False.elim B
end
section
variable {P:Program}{w:World}{K:W.Frag}{mg:Str->Option Value}{base:Heap}
theorem Fun.okU{x qual:Str}{st:Stmt}{f:Addr}{fd:FuncData}{N ps:List Str}{k:Nat}{sp:Addr->Sp}(F:Fun K x qual st f fd)(S:zav N ps (zag st))(B:∀ea vs H Q E,sp ea vs H Q E->vs.length=ps.length)(D:∀(cdv:Value) (A:Around) (outer:List Env) (s:Shared) (H:Hp) (vs:List V) (Q:VK) (E:XK) (ea:Addr),RoomU k (A.deeper (envOfC qual (zag st) s.heap.objs.size f cdv))->A.handled=some (.ref ea)->sp ea vs H Q E ->
   ∃t,PSs (cxOfU P w K mg base N qual (zag st) f cdv A outer s H E) (zbl st) t/\t { nx:=λ_ H'=>Q .non H',rt:=Q } (start N vs) H):FnOkU P w K mg base (k+1) f fd ps sp:=by
 obtain⟨oc,od,kV,doc,pm,an,cdv,ct,osl,rfl,G,I⟩:=F.ex;refine zmm G I S B λA outer s H vs Q E ea J0 O U=>?_;exact D cdv A outer s H vs Q E ea J0 O U
end
open PySem.W (findIn findObj mroIn InstAt looks_findIn looks_find looks_mroIn class_get)
section
variable {prog:Program}{w:World}{A:Around}{E:Value->Shared->Prop}{s:Shared}{K:W.Frag}{a C:Addr}{ox:Obj}{odo:Option Obj}
theorem zll{nm:Value}{Q:Unit->Shared->Prop}(X:K.In s.heap)(B:InstAt s.heap a ox C odo)(D:mroIn K C (.type "BaseException")=some true)(h:Q () s) :
  wpAny (model prog w) A (checkBuiltinCall "BaseException.__getattribute__" ⟨[.ref a,nm],[]⟩) Q E s:=by
 obtain⟨G,g,d,t,os⟩:=s;have I:W.Looks (model prog w) G (isInstance (.ref a) (.type "BaseException")) true:=(B.type (M:=model prog w)).andThen (looks_mroIn (M:=model prog w) X D);have J0:builtinKind "BaseException.__getattribute__"=some .slot:=by decide +kernel
 have O:splitId "BaseException.__getattribute__"=some ("BaseException","__getattribute__"):=by decide +kernel
 have U:=F.args_bexc_ga (.ref a) nm;simp only[checkBuiltinCall,J0,O];refine wpAny_bind (I.at ?_)
 repeat (first|wp_step)
 exact h
theorem ziv{Q:Option Value->Shared->Prop}(X:K.In s.heap)(B:InstAt s.heap a ox C odo)(J0:findIn K (.ref C) "__getattribute__"=some (some (.builtin "BaseException.__getattribute__")))(O:findIn K (.ref C) "__getattr__"=some none)(U:findObj K C odo "__class__"=some (.bind (.builtin "getset_descriptor.__get__") (.builtin "object.__class__")))(D:mroIn K C (.type "BaseException")=some true)(V:mroIn K C (.type "object")=some true)(h:Q (some (.ref C)) { s with toks:=s.toks+1 }):wpAny (model prog w) A (getAttr? (.ref a) "__class__") Q E s:=by
 obtain⟨G,g,d,t,os⟩:=s;have I:=B.type (M:=model prog w);have Y:=looks_findIn (M:=model prog w) X J0;have L2:=looks_find (M:=model prog w) X B U;have Z:=looks_findIn (M:=model prog w) X O;have ab:=looks_mroIn (M:=model prog w) X D;unfold getAttr? getAttrBy? getAttrBy;refine wpAny_bind (wpAny_mkText (wpAny_bind (wpAny_attempt (wpAny_holding (wpAny_bind (I.at (wpAny_bind (Y.at ?_))))))));dsimp only;rw[if_neg (by rw[show (Value.builtin "BaseException.__getattribute__"==Value.builtin "object.__getattribute__")=false from by decide +kernel];simp)];unfold getAttrByItsOwn hookBefore;rw[if_pos (show onTheHeap (Value.ref C)=true from rfl)];refine wpAny_bind (Z.at (wpAny_bind (wpAny_attempt (wpAny_holding ?_))));unfold callGetattribute;rw[if_neg (by simp)];unfold boundAndCalled;have aa:=F.attrBase_ValueError.ga.bind (.ref a);rw[aa];refine wpAny_bind (wpAny_pure ?_);show wpAny _ _ (call (.builtin "BaseException.__getattribute__") [.ref a,.str "__class__" t]) _ _ _;refine wpAny_call (codeAny_call_builtin F.attrBase_ValueError.ga.plain F.entry_bexc_ga (zll (s:={ heap:=G,gens:=g,drawn:=d,toks:=t+1,os:=os }) X B D ?_));unfold Builtin.«object.__getattribute__»;refine wpAny_bind (wpAny_pure (wpAny_bind (wpAny_pure (wpAny_bind (I.at (wpAny_bind (L2.at ?_)))))));show wpAny _ _ (holding [Value.builtin "object.__class__"] (call (.builtin "getset_descriptor.__get__") [.builtin "object.__class__",.ref a,.ref C]) >>= ret) _ _ _;refine wpAny_bind (wpAny_holding (wpAny_call (class_get (s:={ heap:=G,gens:=g,drawn:=d,toks:=t+1,os:=os }) (ox:=ox) (od:=odo) X B V ?_)));unfold ret;refine wpAny_pure ?_;exact W.handed_on rfl (wpAny_pure h)
end
open PySem.W (findIn findObj mroIn InstAt clsIn specialIn takesIn KitX)
structure ExCls(K:W.Frag)(C:Addr):Prop where
 cls:(clsIn K C).isSome=true
 ga:findIn K (.ref C) "__getattribute__"=some (some (.builtin "BaseException.__getattribute__"))
 gx:findIn K (.ref C) "__getattr__"=some none
 at_:findIn K (.ref C) "__class__"=some (some (.builtin "object.__class__"))
 get:specialIn K (.builtin "object.__class__") "__get__"=some (some (.builtin "getset_descriptor.__get__"))
 tk:takesIn K (.builtin "object.__class__")=some true
 bex:mroIn K C (.type "BaseException")=some true
 obj:mroIn K C (.type "object")=some true
theorem ExCls.is{K:W.Frag}{C:Addr}{h:Heap}(x:ExCls K C)(X:K.In h):∃o cd,h.get? C=some o/\o.data=.cls cd:=by
 have e:=x.cls;unfold clsIn at e;split at e
 .next c d cd sl ho=>exact⟨_,cd,X _ _ ho,J⟩
 .cases e
theorem ExCls.find{K:W.Frag}{C:Addr}(x:ExCls K C):findObj K C none "__class__"=some (.bind (.builtin "getset_descriptor.__get__") (.builtin "object.__class__")):=by
 obtain⟨cd,B⟩:=Option.isSome_iff_exists.mp x.cls;unfold findObj;simp[B,x.at_,x.get,x.tk]
theorem zjW{K:W.Frag}{a C:Addr}(x:ExCls K C):KitX K (.ref a) (.ref C) (λh=>∃ox,InstAt h a ox C none) where
 ty:=λM h X B=>by
  obtain⟨ox,B⟩:=B;exact B.type
 it:=λM h X B=>by
  obtain⟨o,cd,e,d⟩:=x.is X;obtain⟨oc,od,G,osl⟩:=o;dsimp only at d;subst d;intro A Q E s k q;unfold isType loadHead;exact wpAny_bind (wpAny_loadPart (k _ _ e) (wpAny_pure q))
 ne:=λh F dd its n I X D=>by
  obtain⟨o,cd,e,d⟩:=x.is X;refine Bool.eq_false_iff.mpr λq=>?_;have z:C=F:=Value.ref.inj (beq_iff_eq.mp q);subst z;rw[e] at D;cases D;cases d
 ca:=λX B k=>by
  obtain⟨ox,B⟩:=B;exact ziv X B x.ga x.gx x.find x.bex x.obj k
theorem zjX{P:Program}{w:World}{H:Hp}{h:Heap}{a C:Addr}(x:ObjOk P w H h a (exH a (.ref C))):∃ox,InstAt h a ox C none:=by
 obtain⟨⟨o,vs,e,c,d,_,B⟩,_⟩:=x;obtain⟨oc,od,D,osl⟩:=o;dsimp only at c d B;subst c d B;exact⟨_,e,J,J,trivial⟩
noncomputable def rIsX(K:W.Frag):List V->Hp->VK->Prop:=λxs H Q=>∃ea C d b,∃c:Value,xs=[.ref ea,d]/\RelV d c/\(∀B,RelV d B->B=c)/\H ea=some (exH ea (.ref C))/\ExCls K C/\W.kitOne K (.ref C) c=some b/\Q (.bl b) H
theorem zgI{X:Cx}:CallR X (.builtin "isinstance") (rIsX X.K):=by
 intro pins s σ H xs us Q B r h;obtain⟨ea,C,d,b,c,rfl,J0,D,F,ex,e,q⟩:=h;obtain⟨u,G,rfl,I,rt⟩:=vals2 r;cases (show u=Value.ref ea from I);rw[D G rt];exact W.kia_one (zjW ex) B.kIn (zjX (B.hok ea _ F)) e (λz=>nomatch z) λtk=>⟨.bl b,H,B.tok tk,J,q⟩
section
variable {X:Cx}{e:Expr}{tx:TEX}{pos:Pos}
end
section
variable {X:Cx}{elt tg iter:Expr}{ifs:List Expr}{sc:Scope}{pos:Pos}{ti:TE}
end
structure ErrC(K:W.Frag)(cN:Addr)(cs:List Addr)(C:Addr)(bs:List Bool):Prop where
 ex:W.excIn K C bmVE "ValueError.__new__"=true
 xc:ExCls K C
 m:W.exmOne K (.ref C) (.ref cN)=some true
 ks:cs.map (λc=>W.kitOne K (.ref C) (.ref c))=bs.map some
 kv:W.kitOne K (.ref C) (.type "ValueError")=some true
noncomputable def errB(K:W.Frag)(B:Addr)(D:List Addr)(C:Addr)(bs:List Bool):Bool:=
 W.excIn K C bmVE "ValueError.__new__"&&(W.clsIn K C).isSome&&W.findIn K (.ref C) "__getattribute__"==some (some (.builtin "BaseException.__getattribute__"))&&W.findIn K (.ref C) "__getattr__"==some none &&
 W.findIn K (.ref C) "__class__"==some (some (.builtin "object.__class__"))&&W.specialIn K (.builtin "object.__class__") "__get__"==some (some (.builtin "getset_descriptor.__get__"))&&W.takesIn K (.builtin "object.__class__")==some true &&
 W.mroIn K C (.type "BaseException")==some true&&W.mroIn K C (.type "object")==some true&&W.exmOne K (.ref C) (.ref B)==some true&&D.map (λc=>W.kitOne K (.ref C) (.ref c))==bs.map some&&W.kitOne K (.ref C) (.type "ValueError")==some true
theorem zlm{K:W.Frag}{B:Addr}{D:List Addr}{C:Addr}{bs:List Bool}(h:errB K B D C bs=true):ErrC K B D C bs:=by
 unfold errB at h;simp only[Bool.and_eq_true,beq_iff_eq] at h;obtain⟨⟨⟨⟨⟨⟨⟨⟨⟨⟨⟨h1,h2⟩,F⟩,G⟩,I⟩,J0⟩,O⟩,U⟩,V⟩,Y⟩,Z⟩,aa⟩:=h;exact⟨h1,⟨h2,F,G,I,J0,O,U,V⟩,Y,Z,aa⟩
theorem FnOk.or{P:Program}{w:World}{K:W.Frag}{mg:Str->Option Value}{base:Heap}{CX:CXT}{k:Nat}{f:Addr}{fd:FuncData}{ps:List Str}{sp B:Sp}(F:FnOk P w K mg base CX k f fd ps sp)(D:FnOk P w K mg base CX k f fd ps B) :
  FnOk P w K mg base CX k f fd ps (λvs H Q E=>sp vs H Q E∨B vs H Q E):=by
 refine⟨λvs H Q E h=>h.elim (F.len vs H Q E) (D.len vs H Q E),λA outer s H args us vs Q E G I J0 O h=>?_⟩;rcases h with h|h
 .exact F.run A outer s H args us vs Q E G I J0 O h
 .exact D.run A outer s H args us vs Q E G I J0 O h
theorem FnOk.never{P:Program}{w:World}{K:W.Frag}{mg:Str->Option Value}{base:Heap}{CX:CXT}{k:Nat}{f:Addr}{fd:FuncData}{ps:List Str}:FnOk P w K mg base CX k f fd ps (λ_ _ _ _=>False):=
 ⟨λ_ _ _ _ h=>h.elim,λ_ _ _ _ _ _ _ _ _ _ _ _ _ h=>h.elim⟩
theorem FnOk.up{P:Program}{w:World}{K:W.Frag}{mg:Str->Option Value}{base:Heap}{CX:CXT}{j k:Nat}{f:Addr}{fd:FuncData}{ps:List Str}{sp:Sp}(F:FnOk P w K mg base CX j f fd ps sp)(h:j<=k):FnOk P w K mg base CX k f fd ps sp:=
 ⟨F.len,λA outer s H args us vs Q E B=>F.run A outer s H args us vs Q E (B.mono h)⟩
end L2
namespace T1
open PySem L2
variable {P:Program}{w:World}{K:W.Frag}{mg:Str->Option Value}{base:Heap}
noncomputable def zdS(c:Nat):Bool:=decide (33<=c)&&decide (c<=126)&&!decide (c=37)
noncomputable def escD:D->Bool
 |.str x=>decide (x.length<=1)&&(decide (x.length=0) || zdS (x.cps.getD 0 0))
 |_=>false
noncomputable def markS(x:Str):Bool:=decide (1<=x.length)&&decide (x.length<=4)&&x.cps.toList.all λc=>decide (c=10) || zdS c
instance:Inhabited D:=⟨.non⟩
end T1
namespace L2
open PySem PySem.Spec PyProof.Rows
end L2
namespace T1
open PySem L2
variable {P:Program}{w:World}{K:W.Frag}{mg:Str->Option Value}{base:Heap}
noncomputable abbrev Dr:=Str×Int×Str
noncomputable abbrev Tg:=Str×List Dr
noncomputable abbrev Bk:=List Tg
noncomputable def drD(d:Dr):D:=.tup [.str d.1,.int d.2.1,.str d.2.2]
noncomputable def tgD(t:Tg):D:=.tup [.str t.1,.tup (t.2.map drD)]
noncomputable def bkD(b:Bk):D:=.tup (b.map tgD)
noncomputable def DrOk(n:Int)(d:Dr):Prop:=markS d.1=true/\(0<=d.2.1/\d.2.1<n)/\markS d.2.2=true
noncomputable def TgOk(n:Int)(t:Tg):Prop:=escD (.str t.1)=true/\t.2.length<=6/\∀d∈t.2,DrOk n d
section
variable {z:Addr}{H:Hp}
theorem zbw{v:V}{d:Dr}(r:Rep z H v (drD d)):∃a,v=.ref a/\a≠z/\H a=some (.tup [.str d.1,.int d.2.1,.str d.2.2]):=by
 cases r with
 |tup h B r=>
  cases r with
  |cons D r=>
   cases r with
   |cons F r=>
    cases r with
    |cons G r=>
     cases r;cases D;cases F;cases G;exact⟨_,J,B,h⟩
theorem ziw{v:V}{ds:List Dr}(r:Rep z H v (.tup (ds.map drD))):∃a xs,v=.ref a/\a≠z/\H a=some (.tup xs)/\xs.length=ds.length/\Reps z H xs (ds.map drD):=by
 cases r with
 |tup h B r=>exact⟨_,_,J,B,h,by have:=r.length;simpa using this,r⟩
theorem za0{v:V}{t:Tg}(r:Rep z H v (tgD t)):∃a b xs,v=.ref a/\a≠z/\b≠z/\H a=some (.tup [.str t.1,.ref b])/\H b=some (.tup xs)/\xs.length=t.2.length/\Reps z H xs (t.2.map drD):=by
 cases r with
 |tup h B r=>
  cases r with
  |cons D r=>
   cases r with
   |cons F r=>
    cases r;cases D;obtain⟨b,xs,rfl,G,h2,I,J0⟩:=ziw F;exact⟨_,b,xs,J,B,G,h,h2,I,J0⟩
theorem zb6{v:V}{b:Bk}(r:Rep z H v (bkD b)):∃a xs,v=.ref a/\a≠z/\H a=some (.tup xs)/\xs.length=b.length/\Reps z H xs (b.map tgD):=by
 cases r with
 |tup h B r=>exact⟨_,_,J,B,h,by have:=r.length;simpa using this,r⟩
theorem zbd{xs:List V}{ds:List Dr}{i:Nat}(r:Reps z H xs (ds.map drD))(hi:i<ds.length):Rep z H (xs.getD i .non) (drD (ds.getD i (⟨#[]⟩,0,⟨#[]⟩))):=by
 have:=r.get (i:=i) (by simpa using hi);simpa [hi] using this
theorem zaP{xs:List V}{b:Bk}{i:Nat}(r:Reps z H xs (b.map tgD))(hi:i<b.length):Rep z H (xs.getD i .non) (tgD (b.getD i (⟨#[]⟩,[]))):=by
 have:=r.get (i:=i) (by simpa using hi);simpa [hi] using this
end
noncomputable def zaC(ds:List Dr):List Str:=ds.map (·.1)
noncomputable abbrev dr0:Dr:=(⟨#[]⟩,0,⟨#[]⟩)
noncomputable abbrev tg0:Tg:=(⟨#[]⟩,[])
noncomputable def zkL(ds:List Dr):List Str:=ds.flatMap λd=>[d.1,d.2.2]
noncomputable def zgJ(b:Bk):List Str:=b.flatMap λt=>zkL t.2
end T1
namespace L2
open PySem PySem.Spec PyProof.Rows
end L2
namespace T1
open PySem L2
variable {P:Program}{w:World}{K:W.Frag}{mg:Str->Option Value}{base:Heap}
theorem getD_mem{B:Type}{xs:List B}{i:Nat}(d:B)(h:i<xs.length):xs.getD i d∈xs:=by
 have:xs.getD i d=xs[i]:=by simp[h]
 rw[this];exact List.getElem_mem h
noncomputable def escIn(es:List Str)(m:Str):Bool:=m.cps.toList.any λc=>es.any λe=>e==(⟨#[c]⟩:Str)
noncomputable def escB(b:Bk):Bool:=(zgJ b).any (escIn (b.map (·.1)))
end T1
namespace L2
open PySem PySem.Spec PyProof.Rows
theorem zix{X:Cx}{sc:Scope}{cl:List (Str×Addr)}{N':List Str}{s:Shared}{H:Hp}{fp:List Addr}{o e:Expr}{es:List Expr}{to:TE}{t:TA}{name:Str}{apos cpos:Pos}{T id:String}{r:V->List V->Hp->VK->Prop}(B:PlainAttrs T)(slot:Slot T name id)(D:typeOf (.builtin id)=pure (.type "method_descriptor"))(F:MtR (X.blk sc cl N' s H fp) id r)(G:PE (X.blk sc cl N' s H fp) o to)(I:PA (X.blk sc cl N' s H fp) (e::es) t)(J0:attributeBase o name (X.blk sc cl N' s H fp).env (eval o (X.blk sc cl N' s H fp).env)=eval o (X.blk sc cl N' s H fp).env:=by rfl)(O:((backTo cpos (starEach (e::es) (X.blk sc cl N' s H fp).env)).all (λx=>!x.1)&&(backToKw cpos (keywordEach [] (X.blk sc cl N' s H fp).env)).all (λx=>x.1.isSome)
   && decide ((e::es).length+([]:List Keyword).length+(if ([]:List Keyword).isEmpty then 0 else 1)<30))=true:=by rfl)(U:(apos.endLine==cpos.line)=true:=by rfl)(W:starEach (e::es) (X.blk sc cl N' s H fp).env=(false,eval e (X.blk sc cl N' s H fp).env)::starEach es (X.blk sc cl N' s H fp).env:=by rfl)(Y:(backTo cpos (starEach es (X.blk sc cl N' s H fp).env)).any (·.1)=false:=by rfl) :
  PE (X.blk sc cl N' s H fp) (.Call (.Attribute o name apos) (e::es) [] cpos) (tBM X.K T r to t):=zbN B slot D F G I J0 O U W Y
end L2
namespace T1
open PySem L2
variable {P:Program}{w:World}{K:W.Frag}{mg:Str->Option Value}{base:Heap}
noncomputable def ziy(ds:List Dr)(t:Int):List Str:=ds.filterMap λd=>if d.2.1=t then some d.2.2 else none
noncomputable def ziz(b:Bk)(t:Int):List Str:=b.flatMap λg=>ziy g.2 t
noncomputable def zeJ(b:Bk)(t:Nat):Bool:=(b.getD t tg0).2.any λd=>(ziz b t).any λc=>stAt d.1 c 0
noncomputable def bookB(b:Bk):Bool:=(b.all λt=>decide (zaC t.2).Nodup)&&!escB b&&!((List.range b.length).any λt=>zeJ b t)
theorem zfD{f:Nat->Option V}:∀n,(flatN (λi=>(f i).toList) n).isEmpty=(List.range n).all λi=>(f i).isNone
 |0=>rfl
 |n+1=>by
  rw[List.range_succ,List.all_append,←zfD n];simp only[flatN,List.all_cons,List.all_nil,Bool.and_true];cases f n<;>simp
theorem zeg(x:Str)(h:x.length<=1):(x=Str.ofString ""/\escD (.str x)=true)∨∃c,x=⟨#[c]⟩/\escD (.str x)=zdS c:=by
 obtain⟨B⟩:=x;have h:B.size<=1:=h;by_cases D:B.size=0
 .have:B=#[]:=Array.eq_empty_of_size_eq_zero D;subst this;exact .inl ⟨by decide +kernel,by decide +kernel⟩
 .obtain⟨c,F⟩:=Array.size_eq_one_iff.mp (show B.size=1 by omega);subst F;exact .inr ⟨c,J,J⟩
noncomputable def Bag(z:Addr)(H:Hp):Prop:=∃c s:Int,H z=some (.lst [.int c,.int s])
noncomputable def Aft(z:Addr)(H H':Hp):Prop:=SameX z H H'/\Bag z H'
theorem Aft.trans{z:Addr}{H H1 H2:Hp}(a:Aft z H H1)(b:Aft z H1 H2):Aft z H H2:=⟨a.1.trans b.1,b.2⟩
theorem Aft.same{z:Addr}{H H1 H2:Hp}(a:Aft z H H1)(b:Same H1 H2):Aft z H H2:=⟨a.1.trans b.x,let ⟨c,s,h⟩:=a.2;⟨c,s,b _ _ h⟩⟩
theorem Aft.refl{z:Addr}{H:Hp}(h:Bag z H):Aft z H H:=⟨.refl,h⟩
inductive zdl:List V->Hp->VK->XK->Prop where
 |mk {vs:List V} {H:Hp} {Q:VK} {E:XK} (z:_) (n:Int) (c1:vs=[.ref z,.int n]) (c2:Bag z H) (c3:0<n) (c4:n<1000000) (c5:∀(r:Nat) H',(r:Int)<n->Aft z H H'->Q (.int r) H'):zdl vs H Q E
structure Txt2(mg:Str->Option Value):Prop where
 list:mg "list"=none
 set:mg "set"=none
 min:mg "min"=none
inductive spBag(K:W.Frag):List V->Hp->VK->XK->Prop where
 |mk {vs:List V} {H:Hp} {Q:VK} {E:XK} (a:_) (ns:List Int) (i:Nat) (c1:vs=[.ref a,.int i]) (c2:SqL K H a (ns.map V.int)) (c3:i<=100) (c4:∀p H',H p=none->Same H H'->Bag p H'->Q (.ref p) H'):spBag K vs H Q E
noncomputable def zeK(x:Str):Prop:=∀c∈x.cps.toList,(decide (c=10) || zdS c)=true
inductive spMk:List V->Hp->VK->XK->Prop where
 |mk {vs:List V} {H:Hp} {Q:VK} {E:XK} (z x:_) (c1:vs=[.ref z,.str x]) (c2:Bag z H) (c3:1<=x.length) (c4:x.length<=100) (c5:zeK x) (c6:∀m H',markS m=true->Aft z H H'->Q (.str m) H'):spMk vs H Q E
theorem zbx(x y:Str):(x++y).length=x.length+y.length:=by
 show (x.cps++y.cps).size=_;rw[Array.size_append];rfl
theorem zbI(x y:Str):(x++y).cps.toList=x.cps.toList++y.cps.toList:=by
 show (x.cps++y.cps).toList=_;rw[Array.toList_append]
noncomputable def inEsc(e:Str)(d:Dr):Bool:=!(Builtin.Str.occurrences (d.1++Str.ofString " "++d.2.2) e 0 (d.1++Str.ofString " "++d.2.2).length 1).isEmpty
noncomputable def fit1(t o:Tg):Bool:=!((!decide (V.str t.1=V.str (Str.ofString "")))&&o.2.any (inEsc t.1))
noncomputable def fit3(b:Bk)(d:Dr):Bool:=!((b.getD d.2.1.toNat tg0).2.any λo=>stAt o.1 d.2.2 0)
noncomputable def fitT(b:Bk)(t:Tg):Bool:=b.all (fit1 t)&&decide (zaC t.2).Nodup&&t.2.all (fit3 b)
noncomputable def fitsB(b:Bk):Bool:=b.all (fitT b)
theorem ziA{B:Type}(xs:List B)(d:B)(p:B->Bool)(h:∀j,j<xs.length->p (xs.getD j d)=true):xs.all p=true:=by
 rw[List.all_eq_true];intro x D;obtain⟨i,hi,rfl⟩:=List.mem_iff_getElem.mp D;have:=h i hi;simpa [hi] using this
theorem ziB{B:Type}(xs:List B)(d:B)(p:B->Bool){i:Nat}(hi:i<xs.length)(h:p (xs.getD i d)=false):xs.all p=false:=by
 rw[List.all_eq_false];refine⟨xs[i],List.getElem_mem hi,?_⟩;have:xs.getD i d=xs[i]:=by simp[hi]
 rw[←this,h];simp
theorem zfE{B:Type}(ds:List B)(d:B)(p:B->Bool)(g:Nat->V){n:Nat}(D:n=ds.length):(flatN (λi=>(if p (ds.getD i d) then some (g i) else none).toList) n).isEmpty=!(ds.any p):=by
 subst D;rw[zfD,Bool.eq_iff_iff,List.all_eq_true,Bool.not_eq_true',List.any_eq_false];constructor
 .intro h x F G;obtain⟨i,hi,rfl⟩:=List.mem_iff_getElem.mp F;have h2:=h i (List.mem_range.mpr hi);have e:ds.getD i d=ds[i]:=by simp[hi]
  rw[e,if_pos G] at h2;cases h2
 .intro h i hi;have hi:=List.mem_range.mp hi;have h2:=h ds[i] (List.getElem_mem hi);have e:ds.getD i d=ds[i]:=by simp[hi]
  rw[e,if_neg h2];rfl
theorem zfF{c:Nat}(B:zdS c=true)(d:Dr):inEsc ⟨#[c]⟩ d=true↔c∈d.1.cps.toList∨c∈d.2.2.cps.toList:=by
 unfold inEsc;rw[StrLaws.found_iff];have e:(d.1++Str.ofString " "++d.2.2).cps.toList=d.1.cps.toList++[32]++d.2.2.cps.toList:=by
  rw[zbI,zbI];have:(Str.ofString " ").cps.toList=[32]:=by decide +kernel
  rw[this]
 have D:c≠32:=by
  intro h;subst h;exact absurd B (by decide)
 constructor
 .rintro⟨i,h⟩;have h2:=(StrLaws.subAt_one _ _ _).mp h;rw[e] at h2;have:=List.mem_of_getElem? h2;simp at this;rcases this with h|h|h
  .exact .inl (by simpa using h)
  .exact absurd h D
  .exact .inr (by simpa using h)
 .intro h;have:c∈(d.1++Str.ofString " "++d.2.2).cps.toList:=by
   rw[e];simp;rcases h with h|h
   .exact .inl (by simpa using h)
   .exact .inr (.inr (by simpa using h))
  obtain⟨i,hi⟩:=List.mem_iff_getElem?.mp this;exact⟨i,(StrLaws.subAt_one _ _ _).mpr hi⟩
theorem zjY(b:Bk):escB b=true↔∃t∈b,∃o∈b,∃d∈o.2,∃c,t.1=⟨#[c]⟩/\(c∈d.1.cps.toList∨c∈d.2.2.cps.toList):=by
 unfold escB escIn zgJ zkL;simp only[List.any_eq_true,List.mem_flatMap,List.mem_cons,List.not_mem_nil,or_false,List.mem_map,beq_iff_eq];constructor
 .rintro⟨m,⟨o,B,d,D,J0⟩,c,I,e,⟨t,F,rfl⟩,G⟩;refine⟨t,F,o,B,d,D,c,G,?_⟩;rcases J0 with rfl|rfl
  .exact .inl I
  .exact .inr I
 .rintro⟨t,F,o,B,d,D,c,G,h|h⟩
  .exact⟨d.1,⟨o,B,d,D,.inl J⟩,c,h,t.1,⟨t,F,J⟩,G⟩
  .exact⟨d.2.2,⟨o,B,d,D,.inr J⟩,c,h,t.1,⟨t,F,J⟩,G⟩
theorem zaR:(Str.ofString "")=⟨#[]⟩:=by decide +kernel
theorem zln{n:Int}{b:Bk}(D:∀t∈b,TgOk n t):(∃t∈b,b.all (fit1 t)=false)↔escB b=true:=by
 rw[zjY];constructor
 .rintro⟨t,B,h⟩;rw[List.all_eq_false] at h;obtain⟨o,F,h⟩:=h;unfold fit1 at h;simp only[Bool.not_eq_true',Bool.not_eq_false,Bool.and_eq_true,decide_eq_false_iff_not,List.any_eq_true] at h;obtain⟨h1,d,G,h2⟩:=h;have J0:t.1≠Str.ofString "":=λz=>h1 (by rw[z]);have O:t.1.length<=1:=by
   have:=(D t B).1;unfold escD at this;simp at this;exact this.1
  rcases zeg t.1 O with⟨ex,_⟩|⟨c,ex,U⟩
  .exact absurd ex J0
  .have I:zdS c=true:=by rw[←U];exact(D t B).1
   rw[ex] at h2;exact⟨t,B,o,F,d,G,c,ex,(zfF I d).mp h2⟩
 .rintro⟨t,B,o,F,d,G,c,ex,h⟩;refine⟨t,B,?_⟩;rw[List.all_eq_false];refine⟨o,F,?_⟩;have I:zdS c=true:=by
   have:=(D t B).1;rw[ex] at this;exact this
  unfold fit1;simp only[Bool.not_eq_true',Bool.not_eq_false,Bool.and_eq_true,decide_eq_false_iff_not,List.any_eq_true];refine⟨λz=>?_,d,G,?_⟩
  .have z':t.1=Str.ofString "":=by injection z
   rw[ex,zaR] at z';simp at z'
  .rw[ex];exact(zfF I d).mpr h
theorem zlo{b:Bk}(I:∀t∈b,TgOk b.length t):(∃t∈b,t.2.all (fit3 b)=false)↔((List.range b.length).any λt=>zeJ b t)=true:=by
 unfold zeJ ziz ziy;simp only[List.any_eq_true,List.mem_range,List.mem_flatMap,List.mem_filterMap];constructor
 .rintro⟨t,B,h⟩;rw[List.all_eq_false] at h;obtain⟨d,D,h⟩:=h;unfold fit3 at h;simp only[Bool.not_eq_true',Bool.not_eq_false,List.any_eq_true] at h;obtain⟨o,F,h⟩:=h;obtain⟨_,⟨h1,h2⟩,_⟩:=(I t B).2.2 d D;refine⟨d.2.1.toNat,by omega,o,F,d.2.2,⟨t,B,d,D,?_⟩,h⟩;rw[if_pos (by omega)]
 .rintro⟨n,J0,o,F,c,⟨t,B,d,D,G⟩,h⟩;split at G
  .rename_i e;obtain rfl:d.2.2=c:=by simpa using G
   refine⟨t,B,?_⟩;rw[List.all_eq_false];refine⟨d,D,?_⟩;unfold fit3;simp only[Bool.not_eq_true',Bool.not_eq_false,List.any_eq_true];refine⟨o,?_,h⟩;rw[e];simpa using F
  .cases G
theorem ziC{b:Bk}(D:∀t∈b,TgOk b.length t):fitsB b=bookB b:=by
 have h1:=zln D;have F:=zlo D;unfold bookB;cases e1:escB b with
 |true=>
  obtain⟨t,B,h⟩:=h1.mpr e1;simp only[Bool.not_true,Bool.and_false,Bool.false_and];unfold fitsB;rw[List.all_eq_false];refine⟨t,B,?_⟩;unfold fitT;rw[h];simp
 |false=>
  cases e3:((List.range b.length).any λt=>zeJ b t) with
  |true=>
   obtain⟨t,B,h⟩:=F.mpr e3;simp only[Bool.not_true,Bool.and_false];unfold fitsB;rw[List.all_eq_false];refine⟨t,B,?_⟩;unfold fitT;rw[h];simp
  |false=>
   simp only[Bool.not_false,Bool.and_true];unfold fitsB;rw[Bool.eq_iff_iff,List.all_eq_true,List.all_eq_true];have G:∀t∈b,b.all (fit1 t)=true:=λt B=>by
    cases q:b.all (fit1 t) with
    |true=>rfl
    |false=>rw[h1.mp ⟨t,B,q⟩] at e1;cases e1
   have I:∀t∈b,t.2.all (fit3 b)=true:=λt B=>by
    cases q:t.2.all (fit3 b) with
    |true=>rfl
    |false=>rw[F.mp ⟨t,B,q⟩] at e3;cases e3
   constructor
   .intro h t B;have:=h t B;unfold fitT at this;rw[G t B,I t B,Bool.true_and,Bool.and_true] at this;exact this
   .intro h t B;unfold fitT;rw[G t B,I t B,Bool.true_and,Bool.and_true];exact h t B
end T1
namespace L2
open PySem PySem.Spec PyProof.Rows
noncomputable def SqS(H:Hp)(a:Addr)(xs:List V):Prop:=H a=some (.tup xs)∨H a=some (.lst xs)
theorem SqS.same{H H':Hp}{a:Addr}{xs:List V}(h:SqS H a xs)(s:Same H H'):SqS H' a xs:=h.elim (λh=>.inl (s _ _ h)) λh=>.inr (s _ _ h)
theorem ziD{K:W.Frag}{te B:TE}{a:Addr}{xs:List V}{g:TG}{tb:TS}{D:Ends}{σ:St}{H:Hp}(h:SqS H a xs)(O:∀R:VK,R (.ref a) H->te σ H R)(U:∀R:VK,R (.ref a) H->B σ H R)(Pv:Nat->St->Hp->Prop)(F:Pv 0 σ H)(G:∀i σ H',Pv i σ H'->Same H H')(I:∀i x σ H,xs[i]?=some x->Pv i σ H->g x σ H λY H2=>tb { D with nx:=Pv (i+1),ct:=Pv (i+1),bk:=D.nx } Y H2)(J0:∀σ H,Pv xs.length σ H->D.nx σ H) :
  tFor (λσ H R=>iTup K te σ H R∨iList K B σ H R) g tb D σ H:=by
 rcases h with h|h
 .exact .inl (O _ ⟨a,J,⟨xs,SqT.of h⟩,zdE (K:=K) (a:=a) (xs:=xs) Pv F (λi σ H' _ q=>SqT.of (G i σ H' q _ _ h)) I J0⟩)
 .exact .inr (U _ ⟨a,J,⟨xs,SqL.of h⟩,zgr (K:=K) (a:=a) (xs:=xs) Pv F (λi σ H' _ q=>SqL.of (G i σ H' q _ _ h)) I J0⟩)
theorem zmJ{K:W.Frag}{H:Hp}{a:Addr}{xs:List V}{j:Nat}{v:V}{Q:VK}(h:SqS H a xs)(B:xs[j]?=some v)(q:Q v H):rIx K (.ref a) (.int j) H Q:=by
 rcases h with h|h
 .exact .inr (.inl ⟨a,xs,j,v,J,J,SqT.of h,zaj B,q⟩)
 .exact .inl ⟨a,xs,j,v,J,J,SqL.of h,zaj B,q⟩
end L2
namespace T1
open PySem L2
variable {P:Program}{w:World}{K:W.Frag}{mg:Str->Option Value}{base:Heap}
inductive zgK:List V->Hp->VK->XK->Prop where
 |mk {vs:List V} {H:Hp} {Q:VK} {E:XK} (z a xs b:_) (c1:vs=[.ref a]) (c2:SqS H a xs) (c3:Reps z H xs (b.map tgD)) (c4:b.length<=7) (c5:(∀t∈b,TgOk b.length t)) (c6:∀H',Same H H'->Q (.bl (fitsB b)) H'):zgK vs H Q E
theorem za3{x:Str}(h:markS x=true):x.length<=4/\1<=x.length:=by
 unfold markS at h;simp only[Bool.and_eq_true,decide_eq_true_eq] at h;omega
theorem ndDE:(["door","escape"]:List Str).Nodup:=by decide +kernel
theorem ndD:(["door"]:List Str).Nodup:=by decide +kernel
theorem ndOD:(["one","door"]:List Str).Nodup:=by decide +kernel
end T1
namespace L2
open PySem PySem.Spec PyProof.Rows
section
variable {X:Cx}
noncomputable def rCatX:R2:=λx y H Q=>∃a b xs ys,x=.ref a/\y=.ref b/\H a=some (.tup xs)/\H b=some (.tup ys)/\xs.length+ys.length<=sizeLine/\∀p H',Same H H'->H' p=some (.tup (xs++ys))->Q (.ref p) H'
theorem zlp:OpR X (binaryOp .Add) rCatX:=by
 intro pins s σ H x y v u Q B G I h;obtain⟨a,b,xs,ys,rfl,rfl,D,F,ab,q⟩:=h;by_cases J0:xs=[]
 .subst J0;cases G;cases I;obtain⟨its,ac,ad,_⟩:=B.tuple (SqT.of D);obtain⟨ae,aj,p2,_⟩:=B.tuple (SqT.of F);cases ac;obtain⟨⟨cls,dd,data,af⟩,O,U,n,V⟩:=id ad;obtain⟨⟨ak,ag,data2,ah⟩,W,Y,ai,Z⟩:=id p2;simp only at U V Y Z;subst U V Y Z;exact concat_meets ⟨_,O,J⟩ ⟨_,W,J⟩ noFill_tuple_add seq_tuple_add PySem.F.slot_tuple_add PySem.F.entry_tuple_add (PySem.F.args_tuple_add_2 _ _)
   (tuple_addW0 a b _ ae.toArray n ai dd ag af ah (by simp)) ⟨O,W,⟨.ref b,H,B,J,q b H (Same.refl H) F⟩⟩
 .refine zk5 pins s σ H _ _ v u Q B G I ⟨a,b,xs,ys,J,J,SqT.of D,SqT.of F,J0,ab,λaa=>?_,λaa p np=>q p _ (Same.new np) zab⟩;refine q a H (Same.refl H) ?_;rw[aa,List.append_nil];exact D
end
end L2
namespace HT
open PySem PySem.Spec PyProof.Rows L2
section
variable {prog:Program}{w:World}{A:Around}{E:Value->Shared->Prop}{s:Shared}
end
end HT
namespace L2
open PySem PySem.Spec PyProof.Rows
section
variable {X:Cx}
end
section
variable {X:Cx}
theorem zhs{lo:Int}{n:Nat}{g:TG}{D:TR}{Qe:St->Hp->Prop}{σ:St}{H:Hp}(Pv:Nat->St->Hp->Prop)(F:Pv 0 σ H)(G:∀i σ H,i<n->Pv i σ H->g (.int (lo+i)) σ H λI H2=>D I H2 (Pv (i+1)))(J0:∀σ H,Pv n σ H->Qe σ H):tLoop (Itr lo n) g tYes D Qe σ H:=by
 refine⟨λi m σ H=>m=n-i/\i<=n/\Pv i σ H,⟨n,J,Nat.zero_le _,F⟩,?_⟩;rintro i m σ H ⟨rfl,hi,p⟩;by_cases B:i<n
 .refine .inr ⟨B,Pv (i+1),λσ' H' O=>⟨n-(i+1),by omega,J,B,O⟩,λx H' y=>?_⟩;obtain⟨e,y⟩:=y;subst e y;exact G i σ _ B p
 .have e:i=n:=by omega
  subst e;exact .inl ⟨Nat.le_refl _,J0 σ H p⟩
end
end L2
namespace T1
open PySem L2
variable {P:Program}{w:World}{K:W.Frag}{mg:Str->Option Value}{base:Heap}
noncomputable def mask(a:Addr)(H:Hp):Hp:=λx=>if x=a then none else H x
theorem zcH{a x:Addr}{H:Hp}(h:x≠a):mask a H x=H x:=if_neg h
theorem zgL{a:Addr}{H:Hp}{o:HO}:mask a (upd H a o)=mask a H:=by
 funext x;unfold mask upd;by_cases h:x=a
 .rw[if_pos h,if_pos h]
 .rw[if_neg h,if_neg h,if_neg h]
theorem zcm{a x:Addr}{H:Hp}{o:HO}(h:mask a H x=some o):x≠a/\H x=some o:=by
 unfold mask at h;by_cases e:x=a
 .rw[if_pos e] at h;cases h
 .rw[if_neg e] at h;exact⟨e,h⟩
theorem zmn{a z:Addr}{H H':Hp}(s:SameX z H H'):SameX z (mask a H) (mask a H'):=λb o B h=>by
 obtain⟨h1,h2⟩:=zcm h;rw[zcH h1];exact s b o B h2
theorem ziE{a z:Addr}{H:Hp}:SameX z (mask a H) H:=λb o _ h=>(zcm h).2
theorem zgM{a l z:Addr}{H H':Hp}(B:H l=none)(s:SameX z H H'):SameX z (mask a H) (mask l H'):=λb o D h=>by
 obtain⟨h1,h2⟩:=zcm h;rw[zcH (zae h2 B)];exact s b o D h2
theorem Reps.set{z:Addr}{H:Hp}{v:V}{d:D}(r:Rep z H v d):∀ {vs:List V}{ds:List D}(i:Nat),Reps z H vs ds->Reps z H (vs.set i v) (ds.set i d)
 |_,_,_,.nil=>.nil
 |_,_,0,.cons _ t=>.cons r t
 |_,_,i+1,.cons h t=>.cons h (Reps.set r i t)
theorem Reps.append{z:Addr}{H:Hp}:∀ {vs B:List V}{ds es:List D},Reps z H vs ds->Reps z H B es->Reps z H (vs++B) (ds++es)
 |_,_,_,_,.nil,h=>h
 |_,_,_,_,.cons a t,h=>.cons a (Reps.append t h)
noncomputable def LBk(z a:Addr)(b:Bk)(H:Hp):Prop:=a≠z/\∃vs,H a=some (.lst vs)/\Reps z (mask a H) vs (b.map tgD)
theorem LBk.aft{z a:Addr}{b:Bk}{H H':Hp}(L:LBk z a b H)(s:SameX z H H'):LBk z a b H':=by
 obtain⟨B,vs,h,r⟩:=L;exact⟨B,vs,s _ _ B h,r.mono (zmn s)⟩
theorem Bag.ne{z p:Addr}{H:Hp}(h:Bag z H)(np:H p=none):p≠z:=by
 obtain⟨c,s,e⟩:=h;exact(zae e np).symm
theorem Bag.neT{z p:Addr}{H:Hp}{xs:List V}(h:Bag z H)(np:H p=some (.tup xs)):p≠z:=by
 obtain⟨c,s,e⟩:=h;exact zar np e (by intro q;cases q)
theorem Aft.new{z p:Addr}{H H':Hp}{o:HO}(a:Aft z H H')(np:H' p=none):Aft z H (upd H' p o):=a.same (Same.new np)
theorem Aft.upd{z p:Addr}{H H':Hp}{o:HO}(a:Aft z H H')(np:H p=none)(B:p≠z):Aft z H (L2.upd H' p o):=by
 refine⟨λb u D e=>?_,?_⟩
 .rw[zak (zae e np)];exact a.1 b u D e
 .obtain⟨c,s,e⟩:=a.2;exact⟨c,s,by rw[zak B.symm];exact e⟩
noncomputable def BkOk(b:Bk):Prop:=1<=b.length/\b.length<=6/\(∀t∈b,TgOk b.length t)/\bookB b=true
inductive zgN:List V->Hp->VK->XK->Prop where
 |mk {vs:List V} {H:Hp} {Q:VK} {E:XK} (z:_) (c1:vs=[.ref z]) (c2:Bag z H) (c3:∀v b H',Aft z H H'->Rep z H' v (bkD b)->BkOk b->Q v H'):zgN vs H Q E
theorem pickH{H:Hp}{p:Addr}{l:List V}(h:H p=some (.lst l)){r:Nat}(B:r<l.length):∃x,l[r]?=some x/\x∈l:=⟨l[r],by simp[B],List.getElem_mem B⟩
theorem Aft.none{z p:Addr}{H H':Hp}(a:Aft z H H')(np:H' p=none):H p=none:=by
 cases e:H p with
 |none=>rfl
 |some o=>
  rw[a.1 p o (a.2.ne np) e] at np;cases np
theorem zlq{n j:Nat}(h:j<n):ixN n (j:Int)=some j:=by
 unfold ixN;rw[if_pos (by omega),if_pos (by omega)];simp
theorem zht{b:Bk}(h:∀t∈b,t.2=[]):fitsB b=true:=by
 unfold fitsB;rw[List.all_eq_true];intro t B;unfold fitT;rw[h t B];have:b.all (fit1 t)=true:=by
  rw[List.all_eq_true];intro o D;unfold fit1;rw[h o D];simp
 rw[this];rfl
theorem ndTBE:(["tongue","bag","escapes"]:List Str).Nodup:=by decide +kernel
theorem Bag.same{z:Addr}{H H':Hp}(h:Bag z H)(s:Same H H'):Bag z H':=let ⟨c,e,q⟩:=h;⟨c,e,s _ _ q⟩
theorem Reps.take{z:Addr}{H:Hp}:∀ {vs:List V}{ds:List D}(k:Nat),Reps z H vs ds->Reps z H (vs.take k) (ds.take k)
 |_,_,0,_=>by simpa using Reps.nil
 |_,_,k+1,.nil=>by simpa using Reps.nil
 |_,_,k+1,.cons a t=>.cons a (Reps.take k t)
theorem Reps.drop{z:Addr}{H:Hp}:∀ {vs:List V}{ds:List D}(k:Nat),Reps z H vs ds->Reps z H (vs.drop k) (ds.drop k)
 |_,_,0,h=>h
 |_,_,k+1,.nil=>by simpa using Reps.nil
 |_,_,k+1,.cons a t=>Reps.drop k t
section
variable {z:Addr}
theorem zkM{xs:List V}{r:Nat}(h:r<xs.length):xs[r]?=some (xs.getD r .non):=by simp[h]
theorem za2:(1000:Nat)<=sizeLine:=by rw[sizeLine_eq];decide
end
section
variable {X:Cx}{es:List Expr}{te:TE}{t:TA}
theorem pa_K{c:Const}{k:Nat}{pos:Pos}(h:PE X (.Constant c k pos) te)(B:PA X es t):PA X (.Constant c k pos::es) (tCons te t):=zaa h B rfl
theorem pa_T{l:List Expr}{k:Nat}{pos:Pos}(h:PE X (.Tuple l k pos) te)(B:PA X es t):PA X (.Tuple l k pos::es) (tCons te t):=zaa h B rfl
theorem pa_L{l:List Expr}{pos:Pos}(h:PE X (.List l pos) te)(B:PA X es t):PA X (.List l pos::es) (tCons te t):=zaa h B rfl
theorem pa_B{o:Operator}{a b:Expr}{pos:Pos}(h:PE X (.BinOp a o b pos) te)(B:PA X es t):PA X (.BinOp a o b pos::es) (tCons te t):=zaa h B rfl
end
mutual
inductive NoL:D->Prop where
 |non:NoL .non
 |bl (b:Bool):NoL (.bl b)
 |int (i:Int):NoL (.int i)
 |str (x:Str):NoL (.str x)
 |tup {ds:List D} (t:NoLs ds):NoL (.tup ds)
inductive NoLs:List D->Prop where
 |nil:NoLs []
 |cons {d:D} {ds:List D} (h:NoL d) (t:NoLs ds):NoLs (d::ds)
end
mutual
theorem Rep.updL{z p:Addr}{H:Hp}{l l':List V}(B:H p=some (.lst l)):∀ {v:V}{d:D},Rep z H v d->NoL d->Rep z (upd H p (.lst l')) v d
 |_,_,.non,_=>.non
 |_,_,.bl b,_=>.bl b
 |_,_,.int i,_=>.int i
 |_,_,.str x h,_=>.str x h
 |_,_,.tup h F r,.tup t=>.tup (by rw[zak (zar h B (by intro q;cases q))];exact h) F (Reps.updL B r t)
theorem Reps.updL{z p:Addr}{H:Hp}{l l':List V}(B:H p=some (.lst l)):∀ {vs:List V}{ds:List D},Reps z H vs ds->NoLs ds->Reps z (upd H p (.lst l')) vs ds
 |_,_,.nil,_=>.nil
 |_,_,.cons h t,.cons h' t'=>.cons (Rep.updL B h h') (Reps.updL B t t')
end
theorem NoLs.append:∀ {ds es:List D},NoLs ds->NoLs es->NoLs (ds++es)
 |_,_,.nil,h=>h
 |_,_,.cons a t,h=>.cons a (NoLs.append t h)
theorem ziF:∀ds:List Dr,NoLs (ds.map drD)
 |[]=>.nil
 |d::r=>.cons (.tup (.cons (.str _) (.cons (.int _) (.cons (.str _) .nil)))) (ziF r)
theorem zbC:∀b:Bk,NoLs (b.map tgD)
 |[]=>.nil
 |t::r=>.cons (.tup (.cons (.str _) (.cons (.tup (ziF t.2)) .nil))) (zbC r)
noncomputable def top(i:Nat):Stmt:=PySem.Challenge.pw_tonguenest_k09_whole_changes_taken_back.main.body.getD i (.Pass ⟨0,0,0,0⟩)
noncomputable abbrev zf6:Stmt:=top 12
noncomputable abbrev sPoss:Stmt:=top 13
noncomputable abbrev zdt:Stmt:=top 14
noncomputable abbrev ziG:Stmt:=top 15
noncomputable abbrev zf7:Stmt:=top 16
noncomputable abbrev sStep:Stmt:=top 17
noncomputable abbrev ziH:Stmt:=top 18
noncomputable abbrev zdT:Stmt:=top 20
noncomputable abbrev zda:Stmt:=top 21
noncomputable abbrev zcx:Stmt:=top 23
noncomputable abbrev sPage:Stmt:=top 26
noncomputable abbrev lBag:Stmt:=top 28
noncomputable abbrev lTake:Stmt:=top 29
noncomputable abbrev lMk:Stmt:=top 30
noncomputable abbrev lFits:Stmt:=top 31
noncomputable abbrev lBook:Stmt:=top 32
noncomputable abbrev ziI:Stmt:=top 33
noncomputable abbrev lText:Stmt:=top 34
noncomputable abbrev zcy:Stmt:=top 35
noncomputable abbrev lStep:Stmt:=top 36
noncomputable abbrev ziJ:Stmt:=top 37
noncomputable abbrev lSure:Stmt:=top 38
noncomputable abbrev zdb:Stmt:=top 39
noncomputable abbrev lAnew:Stmt:=top 40
noncomputable abbrev zf8:Stmt:=top 41
noncomputable abbrev ziK:Stmt:=top 42
noncomputable abbrev zgO:Stmt:=top 43
noncomputable abbrev zb7:Stmt:=top 44
noncomputable abbrev lLaw:Stmt:=top 45
noncomputable abbrev lamLn:Nat:=58
noncomputable abbrev lamCl:Nat:=31
structure TxtB(mg:Str->Option Value):Prop where
 len:mg "len"=none
 ord:mg "ord"=none
 all_:mg "all"=none
 any_:mg "any"=none
 isinst:mg "isinstance"=none
 str:mg "str"=none
 int:mg "int"=none
 bool:mg "bool"=none
 tuple:mg "tuple"=none
 range:mg "range"=none
 sorted:mg "sorted"=none
 max:mg "max"=none
theorem scTake:zav ["bag","many","found"] ["bag","many"] (zag lTake):=⟨J,J,J,by decide +kernel,J,by decide +kernel,by decide +kernel⟩
theorem zlr{f:Addr}{fd:FuncData}(F:Fun K "_law_take" "_law_take" lTake f fd):FnOk P w K mg base CX0 1 f fd ["bag","many"] zdl:=by
 refine F.ok scTake (λvs H Q E h=>?_) (λcdv A outer s H vs Q E O h=>?_)
 .obtain⟨z,n,rfl,_⟩:=h;rfl
 .obtain⟨z,n,rfl,⟨c,e,B⟩,D,U,k⟩:=h;have J0:=scTake.nd;refine⟨_,zac (zaY (zat zg9 (zau ix_list (pv 0) zaf (λ_ _=>rfl)) zaf (zaz _))
    (zac (zap (i:=2) J0 J (Or.inl J) (zaB zdh (zau ix_list (pv 0) zaf (λ_ _=>rfl)) (pv 1)))
    (zac (zbz (zaB zet (zau ix_list (pv 0) zaf (λ_ _=>rfl)) (pv 1)) (zgq (pv 0) zaf zeu))
    (zai (zax (pv 2))))) zaA)
   (zac (zbz (zaB zdh (zaB zdF (zau ix_list (pv 0) zaf (λ_ _=>rfl)) zaf) zaf) (zgq (pv 0) zaf zeu))
   (zai (zax (zaB zdh (zaB zet (zaB zdh (zaB zdF (zaB zet (zau ix_list (pv 0) zaf (λ_ _=>rfl)) zaf) (zaB zaN (zaB zdh (zau ix_list (pv 0) zaf (λ_ _=>rfl)) zaf) zaf)) zaf) zaf) (pv 1))))),?_⟩
  dsimp only[cxOf,Cx.nox,Cx.wish];refine⟨_,J,z,_,0,_,J,J,SqL.of B,zaj (j:=0) J,_,_,J,J,_,J,?_⟩;have ex:∀x:Int,∃r:Nat,x % n=(r:Int)/\(r:Int)<n:=λx=>⟨(x % n).toNat,by have:=Int.emod_nonneg x (show n≠0 by omega);omega,by have:=Int.emod_lt_of_pos x D;have:=Int.emod_nonneg x (show n≠0 by omega);omega⟩;refine ite2 (λh1=>?_) (λh1=>?_)
  .refine⟨_,J,z,_,0,_,J,J,SqL.of B,zaj (j:=0) J,_,J,_,_,J,J,D,?_⟩;refine⟨_,J,z,_,0,_,J,J,SqL.of B,zaj (j:=0) J,_,J,_,_,J,J,⟨D,by omega⟩,?_⟩;refine⟨_,J,z,_,0,0,J,J,B,J,?_⟩;obtain⟨r,G,I⟩:=ex c;refine⟨_,J,?_⟩;have q:=k r (upd H z (.lst [.int (c / n),.int e])) I ⟨SameX.refl.upd,⟨_,_,zab⟩⟩;rw[←G] at q;exact q
  .refine⟨_,J,z,_,1,_,J,J,SqL.of B,zaj (j:=1) J,_,_,J,J,.inr (by decide),_,_,J,J,(by show (0:Int)<_;decide),?_⟩;refine⟨_,J,z,_,1,1,J,J,B,J,?_⟩;refine⟨_,J,z,_,1,_,J,J,SqL.of zab,zaj (j:=1) J,_,_,J,J,⟨by decide,by decide⟩,_,J,z,_,1,_,J,J,SqL.of zab,zaj (j:=1) J,_,_,J,J,(by show (0:Int)<_;decide),_,_,J,J,_,_,J,J,?_⟩;refine⟨.inr ?_,_,_,J,J,(by show (0:Int)<_;decide),_,_,J,J,⟨by decide,by decide⟩,_,J,_,_,J,J,D,?_⟩
   .have V:=Int.emod_nonneg (e*48271 % 2147483647) (show (32749:Int)≠0 by decide);have W:=Int.emod_lt_of_pos (e*48271 % 2147483647) (show (0:Int)<32749 by decide);omega
   .obtain⟨r,G,I⟩:=ex (e*48271 % 2147483647 / 13*(e*48271 % 2147483647 % 32749+17) % 2147483629 / 32);have q:=k r (upd H z (.lst [.int c,.int (e*48271 % 2147483647)])) I ⟨SameX.refl.upd,⟨_,_,zab⟩⟩;rw[←G] at q;exact q
theorem scBag:zav ["script","k","cell","seed"] ["script","k"] (zag lBag):=⟨J,J,J,by decide +kernel,J,by decide +kernel,by decide +kernel⟩
theorem zmo{f:Addr}{fd:FuncData}(F:Fun K "_law_bag" "_law_bag" lBag f fd)(T:TxtB mg):FnOk P w K mg base CX0 1 f fd ["script","k"] (spBag K):=by
 refine F.ok scBag (λvs H Q E h=>?_) (λcdv A outer s H vs Q E O h=>?_)
 .obtain⟨z,n,i,rfl,_⟩:=h;rfl
 .obtain⟨a,D,i,rfl,G,hi,k⟩:=h;have B:=scBag.nd;refine⟨_,zac (zap (i:=2) B J (Or.inl J) zaf)
   (zac (zaY (zat zd7 (pv 1) (zao zaD (by rfl) T.len b_len (zaa (pv 0) zad)) (zaz _))
    (zai (zap (i:=2) B J (Or.inl J) (zaB zdh (zau ix_list (pv 0) (pv 1) (λ_ _=>rfl)) (zaB zkE zaf zaf)))) zaA)
   (zac (zap (i:=3) B J (Or.inl J) (zaB zaN zaf (zaB zdh (zaB zaN (zaB zaN (zaB zaN (zaB zdF (zaB zdh (pv 2) zaf) zaf) (zaB zdF (zaB zdF zaf (pv 1)) (pv 1))) (zaB zdF zaf (pv 1))) zaf) zaf)))
   (zac (zaY (zat zd7 (pv 2) (zaB zkE zaf zaf) (zaz _)) (zai (zax (zaE (zaa zaf (zaa (pv 3) zad))))) zaA)
   (zai (zax (zaE (zaa (pv 2) (zaa (pv 3) zad)))))))),?_⟩
  dsimp only[cxOf,Cx.nox,Cx.wish];have I:(2:Nat)<=sizeLine:=by rw[sizeLine_eq];decide
  refine⟨_,J,_,J,a,_,J,.inl G,_,_,J,J,_,J,?_⟩;refine ite2 (λh1=>?g1) (λh1=>?g2)
  case' g1=>
   have J0:i<D.length:=by simp at h1;omega
   refine⟨_,J,_,J,a,_,_,.int D[i],J,J,G,zaj (by simp[J0]),_,_,J,J,⟨by decide,by decide,by decide⟩,_,_,J,J,(by show (0:Int)<_;decide),?_⟩
  all_goals
   refine⟨_,J,_,_,J,J,(by show (0:Int)<_;decide),_,_,J,J,.inr (by decide),_,J,_,_,J,J,.inl (by decide),_,J,_,_,J,J,.inr (by omega),_,_,J,J,_,J,_,_,J,J,.inl (by decide),_,_,J,J,_,_,J,J,_,_,J,J,(by show (0:Int)<_;decide),_,_,J,J,?_⟩;refine⟨_,J,_,_,J,J,⟨by decide,by decide,by decide⟩,_,_,J,J,_,J,?_⟩;refine ite2 (λh1=>?_) (λh1=>?_)
   .exact⟨_,J,I,λp np=>k p _ np (Same.new np) ⟨_,_,zab⟩⟩
   .exact⟨_,J,_,J,I,λp np=>k p _ np (Same.new np) ⟨_,_,zab⟩⟩
theorem scMk:zav ["bag","signs","found","turn"] ["bag","signs"] (zag lMk):=⟨J,J,J,by decide +kernel,J,by decide +kernel,by decide +kernel⟩
theorem zmK{f I:Addr}{fd ad:FuncData}(F:Fun K "_law_mark" "_law_mark" lMk f fd)(T:TxtB mg)(k1:W.keepIn K (.ref I)=true)(J0:Binds K ad ["bag","many"] [])(O:mg "_law_take"=some (.ref I))(U:FnOk P w K mg base CX0 1 I ad ["bag","many"] zdl):FnOk P w K mg base CX0 2 f fd ["bag","signs"] spMk:=by
 refine F.ok scMk (λvs H Q E h=>?_) (λcdv A outer s H vs Q E Y h=>?_)
 .obtain⟨z,n,rfl,_⟩:=h;rfl
 .obtain⟨z,x,rfl,ag,ar,as,ah,k⟩:=h;have Z:=scMk.nd;refine⟨_,zac (zap (i:=2) Z J (Or.inl J) zay)
   (zac (zbG PassesOwn.never J (zbj J T.range (zaa (zaB zaN zaf (zau ix_list (zaE (zaa zaf (zaa zaf (zaa zaf (zaa (zas U Y J O k1 J0 .nil pass0 (zaa (pv 0) (zaa zaf zad))) zad))))) (zas U Y J O k1 J0 .nil pass0 (zaa (pv 0) (zaa zaf zad))) (λ_ _=>rfl))) zad))
    (zaq (i:=3) Z J (Or.inl J))
    (zai (zap (i:=2) Z J (Or.inl J) (zaB zbh (pv 2) (zau zgv (pv 1) (zas U Y J O k1 J0 .nil pass0 (zaa (pv 0) (zaa (zao zam (by rfl) T.len b_len (zaa (pv 1) zad)) zad))) (λ_ _=>rfl))))))
   (zai (zax (pv 2)))),?_⟩
  dsimp only[cxOf,Cx.nox,Cx.wish];have au:(1000:Nat)<=sizeLine:=by rw[sizeLine_eq];decide
  refine⟨_,J,z,4,J,ag,by decide,by decide,λr H1 av aa=>?_⟩;refine⟨by show (4:Nat)<=_;omega,λp np=>⟨_,J,z,4,J,?_,by decide,by decide,λab H2 ai ae=>?_⟩⟩
  .exact(aa.same (Same.new np)).2
  .have aj:Aft z H H2:=(aa.same (Same.new np)).trans ae;have ak:p≠z:=by
    obtain⟨c,e,h⟩:=aa.2;exact(zae h np).symm
   have al:H2 p=some (.lst [.int 0,.int 0,.int 1,.int r]):=ae.1 p _ ak zab;obtain⟨n,am,aw,ax⟩:∃n:Nat,([V.int 0,V.int 0,V.int 1,V.int r]:List V)[ab]?=some (.int n)/\n<=3/\True:=by
    match ab,ai with
    |0,_=>exact⟨0,J,by omega,trivial⟩
    |1,_=>exact⟨0,J,by omega,trivial⟩
    |2,_=>exact⟨1,J,by omega,trivial⟩
    |3,_=>exact⟨r,J,by omega,trivial⟩
    |m+4,h=>omega
   refine⟨p,_,ab,.int n,J,J,SqL.of al,zaj am,1,n,J,J,1+n,J,by omega,by omega,?_⟩;have ao:(1+(n:Int)).toNat=1+n:=by omega
   rw[ao];refine zbA (λi σ B=>∃m u,σ=[some (.ref z),some (.str x),some (.str m),u]/\Aft z H B/\m.length=i/\zeK m) ⟨_,none,J,aj,by decide +kernel,?_⟩ ?_ ?_
   .intro c hc;have:(Str.ofString "").cps.toList=[]:=by decide +kernel
    rw[this] at hc;cases hc
   .rintro i σ B hi ⟨m,u,rfl,D,ap,ac⟩;refine⟨_,J,_,J,_,J,_,J,x,J,by omega,z,x.length,J,D.2,by omega,by omega,λG ay az aq=>?_⟩;have af:G<x.cps.toList.length:=by
     have:x.cps.toList.length=x.length:=by simp;rfl
     omega
    refine⟨x,G,x.cps.toList[G],J,J,by omega,zaj (by simp[af]),m,_,J,J,?_,?_⟩
    .show m.length+1<=_;omega
    .refine⟨_,_,J,D.trans aq,?_,λc hc=>?_⟩
     .rw[zbx];show m.length+1=_;omega
     .rw[zbI] at hc;rcases List.mem_append.mp hc with hc|hc
      .exact ac c hc
      .have:c=x.cps.toList[G]:=by simpa using hc
       rw[this];exact ah _ (List.getElem_mem af)
   .rintro σ B ⟨m,u,rfl,D,ap,ac⟩;refine⟨_,J,k m B ?_ D⟩;unfold markS;rw[decide_eq_true (show 1<=m.length by omega),decide_eq_true (show m.length<=4 by omega)];simp only[Bool.true_and,List.all_eq_true];exact ac
theorem scFits:zav ["book","escape","doors","other","more","door","some"] ["book"] (zag lFits):=⟨J,J,J,by decide +kernel,J,by decide +kernel,by decide +kernel⟩
theorem zls{f:Addr}{fd:FuncData}(F:Fun K "_law_fits_book" "_law_fits_book" lFits f fd)(T:TxtB mg)(bi:Txt2 mg):FnOk P w K mg base CX0 1 f fd ["book"] zgK:=by
 refine F.ok scFits (λvs H Q E h=>?_) (λcdv A outer s H vs Q E aW h=>?_)
 .obtain⟨z,a,xs,b,rfl,_⟩:=h;rfl
 .obtain⟨z,a,xs,b,rfl,az,R,bM,aA,k⟩:=h;have ac:=scFits.nd;refine⟨_,zac (zbG PassesOwn.never J (PI.or (zce (pv 0)) (zbg (pv 0))) (zbF J (zaw (zaq (i:=1) ac J (Or.inr J)) (zaw (zaq (i:=2) ac J (Or.inl J)) za6)))
    (zac (zbG PassesOwn.never J (PI.or (zce (pv 0)) (zbg (pv 0))) (zbF J (zaw (zaq (i:=3) ac J (Or.inl J)) (zaw (zaq (i:=4) ac J (Or.inl J)) za6)))
     (zac (zb3 (i:=6) (N':=["door","escape"]) (js:=[none,some 1]) J J ac J (Or.inl J) (zbc (zag lFits) (by decide +kernel)) ⟨J,Or.inr (Or.inl J),J,trivial⟩ (zce (pv 4))
      (λcl s H fp=>zaq (i:=0) ndDE J (Or.inl J))
      (λcl s H fp=>zcj (zat zhR (pv 1) (zaB zbh (zaB zbh (zau zbs (pv 0) zaf (λ_ _=>rfl)) zay) (zau zbs (pv 0) zaf (λ_ _=>rfl))) (by with_unfolding_all rfl))) (λcl s H fp=>pv 0))
     (zai (zaY (PW.pt (zcF (zat zfg (pv 1) zay (zaz _)) (zbZ (zat (zbH aW.units0) (pv 6) (zaE zad) (zaz _))))) (zai (zax zd6)) zaA))))
    (zac (zaY (zat zfg (zao zew (by rfl) T.len b_len (zaa (zbk (zd8 J) (by rfl) bi.set zmD (zaa (zaZ (N':=["door"]) (js:=[none]) J J (zbc (zag lFits) (by decide +kernel)) trivial (zce (pv 2))
      (λcl s H fp=>zaq (i:=0) ndD J (Or.inl J)) (λcl s H fp=>zbr) (λcl s H fp=>zau zbs (pv 0) zaf (λ_ _=>rfl))) zad)) zad)) (zao zaD (by rfl) T.len b_len (zaa (pv 2) zad)) (zaz _)) (zai (zax zd6)) zaA)
    (zai (zbG PassesOwn.never J (zce (pv 2)) (zaq (i:=5) ac J (Or.inr J))
     (zai (zaY (zat (zbH aW.units0) (zaZ (N':=["one","door"]) (js:=[none,some 5]) J J (zbc (zag lFits) (by decide +kernel)) ⟨J,Or.inr (Or.inl J),J,trivial⟩ (zce (zau ix_tup (zau zl0 (pv 0) (zau ix_tup (pv 5) zaf (λ_ _=>rfl)) (λ_ _=>rfl)) zaf (λ_ _=>rfl)))
      (λcl s H fp=>zaq (i:=0) ndOD J (Or.inl J)) (λcl s H fp=>zcj (zeb (zix PySem.F.plainAttrs_str PySem.F.slot_str_startswith PySem.F.type_str_startswith zcQ (zau zbs (pv 0) zaf (λ_ _=>rfl)) (zaa (zau zbs (pv 1) zaf (λ_ _=>rfl)) zad)))) (λcl s H fp=>pv 0)) (zaE zad) (zaz _)) (zai (zax zd6)) zaA)))))))
   (zai (zax zd6)),?_⟩
  dsimp only[cxOf,Cx.nox,Cx.wish];have aX:xs.length=b.length:=by have:=R.length;simpa using this
  refine ziD (a:=a) (xs:=xs) az (λR q=>⟨_,J,q⟩) (λR q=>⟨_,J,q⟩) (λi σ H2=>∃aB aC G I Y J0,σ=[some (.ref a),aB,aC,G,I,Y,J0]/\Same H H2/\∀j,j<i->fitT b (b.getD j tg0)=true) ⟨none,none,none,none,none,none,J,Same.refl H,λj B=>absurd B (Nat.not_lt_zero j)⟩ (λi σ H' ⟨_,_,_,_,_,_,_,s,_⟩=>s) ?_ ?_
  .rintro i y σ H2 hi ⟨aB,aC,G,I,Y,J0,rfl,D,aD⟩;have aE:i<b.length:=by have:=(List.getElem?_eq_some_iff.mp hi).1;omega
   have bj:y=xs.getD i .non:=by rw[List.getD_eq_getElem?_getD,hi];rfl
   have aY:TgOk b.length (b.getD i tg0):=aA _ (getD_mem _ aE);obtain⟨c,d,ys,e,bN,bO,bk,ad,ao,aZ⟩:=za0 ((zaP (b:=b) (i:=i) R aE).mono D.x);rw[bj,e];have ao:ys.length=(b.getD i tg0).2.length:=ao;have bP:=aY.2.1;have aa:∀H',Same H H'->fitT b (b.getD i tg0)=false->Q (.bl false) H':=λH' s' aF=>by
    have:=ziB b tg0 (fitT b) aE aF;have q:=k H' s';unfold fitsB at q;rw[this] at q;exact q
   refine⟨c,_,J,SqT.of bk,J,_,_,J,_,_,J,J,?_⟩;refine zba λbQ bl bm _ _=>?_;have aa:=λH' a b=>bm _ _ (aa H' a b);refine zah λbn aG=>?_;refine ziD (a:=a) (xs:=xs) (az.same D) (λR q=>⟨_,J,q⟩) (λR q=>⟨_,J,q⟩) (λj σ ap=>∃G I J0,σ=[some (.ref a),some (.str (b.getD i tg0).1),some (.ref d),G,I,Y,J0]/\Same H2 ap/\∀l,l<j->fit1 (b.getD i tg0) (b.getD l tg0)=true) ⟨G,I,J0,J,Same.refl _,λj B=>absurd B (Nat.not_lt_zero j)⟩ (λi σ H' ⟨_,_,_,_,s,_⟩=>s) ?_ ?_
   .rintro j bo σ ap B ⟨bp,bq,br,rfl,O,aH⟩;have aI:j<b.length:=by have:=(List.getElem?_eq_some_iff.mp B).1;omega
    have bs:bo=xs.getD j .non:=by rw[List.getD_eq_getElem?_getD,B];rfl
    have a1:TgOk b.length (b.getD j tg0):=aA _ (getD_mem _ aI);have bR:=a1.2.1;obtain⟨bt,aJ,zs,aK,bS,bT,bu,aL,aM,Rz⟩:=za0 ((zaP (b:=b) (i:=j) R aI).mono (D.trans O).x);rw[bs,aK];have aM:zs.length=(b.getD j tg0).2.length:=aM;refine⟨bt,_,J,SqT.of bu,J,_,_,J,_,_,J,J,?_⟩;refine zba λbU a2 bv _ _=>?_;have aa:=λH' a b=>bv _ _ (aa H' a b);refine zah λbV bw=>?_;refine⟨_,J,aJ,J,⟨_,SqT.of aL⟩,λp np=>?_⟩;have ai:aJ≠p:=zae aL np;have nx:∀H',Same ap H'->fit1 (b.getD i tg0) (b.getD j tg0)=true->∃G I J0,[some (V.ref a),some (V.str (b.getD i tg0).1),some (V.ref d),some (.str (b.getD j tg0).1),some (.ref aJ),Y,some (.ref p)]=[some (V.ref a),some (V.str (b.getD i tg0).1),some (V.ref d),G,I,Y,J0]/\Same H2 H'/\∀l,l<j+1->fit1 (b.getD i tg0) (b.getD l tg0)=true:=λH' s' aF=>⟨_,_,_,J,O.trans s',λl aX=>by
     rcases Nat.lt_succ_iff_lt_or_eq.mp aX with h|h
     .exact aH l h
     .rw[h];exact aF⟩
    refine zbf (λl=>if inEsc (b.getD i tg0).1 ((b.getD j tg0).2.getD l dr0) then some (zs.getD l .non) else none) (λσ=>∃v,σ=[v,some (.str (b.getD i tg0).1)]) ⟨none,J⟩ np (by omega) (zcu (xs:=zs) (by rw[zak ai];exact aL) ai) (λl σ ae C aq ⟨v,aj⟩ aN ak=>?_) (λσ ae al ar=>?_)
    .subst aj;have af:l<(b.getD j tg0).2.length:=by omega
     obtain⟨q,ag,bx,as⟩:=zbw ((zbd (ds:=(b.getD j tg0).2) (i:=l) Rz af).mono aN.x);have au:=a1.2.2 _ (getD_mem dr0 af);have bW:=za3 au.1;have bX:=za3 au.2.2;have bY:(1000:Nat)<=sizeLine:=by rw[sizeLine_eq];decide
     have a3:(Str.ofString " ").length=1:=by decide +kernel
     have U:=ak [some (.ref q),some (.str (b.getD i tg0).1)] ae ⟨_,J⟩ (Same.refl _);rw[ag];refine⟨_,J,_,J,q,_,0,_,J,J,SqT.of as,zaj (j:=0) J,_,_,J,J,?_,_,J,q,_,2,_,J,J,SqT.of as,zaj (j:=2) J,_,_,J,J,?_,_,_,J,J,_,J,?_⟩
     .rw[a3];show ((b.getD j tg0).2.getD l dr0).1.length+1<=_;omega
     .rw[zbx,a3];show ((b.getD j tg0).2.getD l dr0).1.length+1+((b.getD j tg0).2.getD l dr0).2.2.length<=_;omega
     .show if inEsc (b.getD i tg0).1 ((b.getD j tg0).2.getD l dr0)=true then _ else _;cases g:inEsc (b.getD i tg0).1 ((b.getD j tg0).2.getD l dr0) with
      |true=>
       rw[g,if_pos J,ag] at U;exact iteT ⟨_,J,U⟩
      |false=>
       rw[g,if_neg (by simp)] at U;exact iteF U
    .refine bw _ _ ⟨_,J,J,_,J,?_⟩;refine ite2 (λaO=>?_) (λaO=>?_)
     .refine⟨_,J,Nat.zero_le _,λq W=>?_⟩;have aP:p≠q:=zae ar W;refine⟨p,q,_,J,J,by rw[zak aP];exact ar,zab,_,J,?_⟩;have ah:=zfE (b.getD j tg0).2 dr0 (inEsc (b.getD i tg0).1) (λl=>zs.getD l .non) aM;rw[ah,Bool.not_not];cases am:(b.getD j tg0).2.any (inEsc (b.getD i tg0).1) with
      |true=>
       refine iteT (aa _ (((D.trans O).trans al).trans (Same.new W)) ?_);have aQ:fit1 (b.getD i tg0) (b.getD j tg0)=false:=by
        unfold fit1;rw[am,aO];rfl
       unfold fitT;rw[ziB b tg0 (fit1 (b.getD i tg0)) aI aQ,Bool.false_and,Bool.false_and]
      |false=>
       refine iteF (a2 _ _ (nx _ (al.trans (Same.new W)) ?_));unfold fit1;rw[am,Bool.and_false];rfl
     .refine iteF (a2 _ _ (nx _ al ?_));have bz:(!decide (V.str (b.getD i tg0).1=V.str (Str.ofString "")))=false:=by simpa using aO
      unfold fit1;rw[bz,Bool.false_and];rfl
   .rintro σ ap ⟨bp,bq,br,rfl,O,aH⟩;have aQ:b.all (fit1 (b.getD i tg0))=true:=ziA b tg0 _ λj B=>aH j (by omega);refine aG _ _ (zah λbn aG=>?_);refine⟨_,J,d,J,⟨_,SqT.of (O _ _ ad)⟩,λp np=>?_⟩;have ai:d≠p:=zae (O _ _ ad) np;refine zcS (λl=>.str ((b.getD i tg0).2.getD l dr0).1) (λσ=>∃v,σ=[v]) ⟨none,J⟩ np (by omega) (zcu (xs:=ys) (by rw[zak ai];exact O _ _ ad) ai) (λl σ ae C aq ⟨v,aj⟩ aN ak=>?_) (λσ ae al ar=>?_)
    .subst aj;obtain⟨q,ag,bx,as⟩:=zbw ((zbd (ds:=(b.getD i tg0).2) (i:=l) aZ (by omega)).mono (O.trans aN).x);rw[ag];exact⟨_,J,q,_,0,_,J,J,SqT.of as,zaj (j:=0) J,ak _ ae ⟨_,J⟩ (Same.refl _)⟩
    .have bA:ae p=some (.lst ((zaC (b.getD i tg0).2).map V.str)):=by
      rw[ar,ao];unfold zaC;rw[List.map_map];exact congrArg (λx=>some (HO.lst x)) (zck (b.getD i tg0).2 dr0 λd=>V.str d.1)
     refine⟨p,zaC (b.getD i tg0).2,J,SqL.of bA,(by unfold scanBound zaC;rw[List.length_map];omega),λq W=>?_⟩;have bB:=Same.new (o:=setL P w q (zaC (b.getD i tg0).2)) W;have av:Same H2 _:=(O.trans al).trans bB;refine⟨q,_,J,zab,_,J,d,ys,J,.inr (SqT.of (av _ _ ad)),J,_,J,?_⟩;have aK:(!decide (V.int ((dd (zaC (b.getD i tg0).2)).length:Int)=V.int (ys.length:Int)))=!decide (zaC (b.getD i tg0).2).Nodup:=by
      congr 1;rw[decide_eq_decide,←zl3];have:(zaC (b.getD i tg0).2).length=(b.getD i tg0).2.length:=by simp[zaC]
      rw[this,←ao];simp;omega
     rw[aK];cases a4:decide (zaC (b.getD i tg0).2).Nodup with
     |false=>
      refine iteT (aa _ (D.trans av) ?_);unfold fitT;rw[a4,Bool.and_false,Bool.false_and]
     |true=>
      refine iteF (aG _ _ ?_);refine⟨_,J,d,J,⟨_,SqT.of (av _ _ ad)⟩,zdE (K:=K) (a:=d) (xs:=ys) (λl σ aw=>∃G I Y J0,σ=[some (.ref a),some (.str (b.getD i tg0).1),some (.ref d),G,I,Y,J0]/\Same H2 aw/\∀m,m<l->fit3 b ((b.getD i tg0).2.getD m dr0)=true) ⟨_,_,_,_,J,av,λj B=>absurd B (Nat.not_lt_zero j)⟩ (λl σ aw _ ⟨_,_,_,_,_,s,_⟩=>SqT.of (s _ _ ad)) ?_ ?_⟩
      .rintro l bC σ aw aq ⟨bD,bE,bF,bG,rfl,ab,aR⟩;have af:l<(b.getD i tg0).2.length:=by have:=(List.getElem?_eq_some_iff.mp aq).1;omega
       have bH:bC=ys.getD l .non:=by rw[List.getD_eq_getElem?_getD,aq];rfl
       obtain⟨ax,ag,bZ,aS⟩:=zbw ((zbd (ds:=(b.getD i tg0).2) (i:=l) aZ af).mono ab.x);rw[bH,ag];have au:=aY.2.2 _ (getD_mem dr0 af);generalize a5:(b.getD i tg0).2.getD l dr0=Z at *;obtain⟨b0,b1⟩:=au.2.1;obtain⟨n,a6⟩:∃n:Nat,Z.2.1=(n:Int):=⟨Z.2.1.toNat,by omega⟩;have a7:n<b.length:=by omega
       have b2:(b.getD n tg0).2.length<=6:=(aA _ (getD_mem tg0 a7)).2.1;obtain⟨a8,a9,ay,bI,b3,b4,bJ,aT,aU,bK⟩:=za0 ((zaP (b:=b) (i:=n) R a7).mono (D.trans ab).x);have aU:ay.length=(b.getD n tg0).2.length:=aU;have ex:xs[n]?=some (.ref a8):=by
        have h1:n<xs.length:=by omega
        have h2:xs.getD n .non=xs[n]:=by simp[h1]
        rw[List.getElem?_eq_getElem h1,←h2,bI]
       rw[a6] at aS;refine⟨_,J,_,J,ax,_,1,_,J,J,SqT.of aS,zaj (j:=1) J,zmJ (az.same (D.trans ab)) ex ?_⟩;refine⟨a8,_,1,_,J,J,SqT.of bJ,zaj (j:=1) J,a9,J,⟨_,SqT.of aT⟩,λp2 ba=>?_⟩;have bb:a9≠p2:=zae aT ba;refine zbf (λm=>if stAt ((b.getD n tg0).2.getD m dr0).1 Z.2.2 0 then some (ay.getD m .non) else none) (λσ=>∃v,σ=[v,some (.ref ax)]) ⟨none,J⟩ ba (by omega) (zcu (xs:=ay) (by rw[zak bb];exact aT) bb) (λm σ bc C aV ⟨v,aj⟩ bd ak=>?_) (λσ bc be bf=>?_)
       .subst aj;obtain⟨bg,ah,b5,bL⟩:=zbw ((zbd (ds:=(b.getD n tg0).2) (i:=m) bK (by omega)).mono bd.x);have U:=ak [some (.ref bg),some (.ref ax)] bc ⟨_,J⟩ (Same.refl _);rw[ah];refine⟨_,J,bg,_,0,_,J,J,SqT.of bL,zaj (j:=0) J,J,_,J,ax,_,2,_,J,J,SqT.of (bd _ _ aS),zaj (j:=2) J,_,_,J,J,_,J,?_⟩;cases g:stAt ((b.getD n tg0).2.getD m dr0).1 Z.2.2 0 with
        |true=>
         rw[g,if_pos J,ah] at U;exact iteT ⟨_,J,U⟩
        |false=>
         rw[g,if_neg (by simp)] at U;exact iteF U
       .refine⟨Nat.zero_le _,λq W=>?_⟩;have aP:p2≠q:=zae bf W;refine⟨p2,q,_,J,J,by rw[zak aP];exact bf,zab,_,J,?_⟩;have ah:=zfE (b.getD n tg0).2 dr0 (λo=>stAt o.1 Z.2.2 0) (λm=>ay.getD m .non) aU;rw[ah,Bool.not_not];have bh:fit3 b Z=!((b.getD n tg0).2.any λo=>stAt o.1 Z.2.2 0):=by
         unfold fit3;rw[a6];rfl
        cases am:(b.getD n tg0).2.any λo=>stAt o.1 Z.2.2 0 with
        |true=>
         refine iteT (aa _ ((D.trans ab).trans (be.trans (Same.new W))) ?_);unfold fitT;rw[ziB (b.getD i tg0).2 dr0 (fit3 b) af (by rw[a5,bh,am];rfl),Bool.and_false]
        |false=>
         refine iteF ⟨_,_,_,_,J,ab.trans (be.trans (Same.new W)),λm aV=>?_⟩;rcases Nat.lt_succ_iff_lt_or_eq.mp aV with h|h
         .exact aR m h
         .rw[h,a5,bh,am];rfl
      .rintro σ aw ⟨bD,bE,bF,bG,rfl,ab,aR⟩;refine bl _ _ ⟨_,_,_,_,_,_,J,D.trans ab,λj B=>?_⟩;rcases Nat.lt_succ_iff_lt_or_eq.mp B with h|h
       .exact aD j h
       .rw[h];unfold fitT;rw[aQ,a4,ziA (b.getD i tg0).2 dr0 (fit3 b) λm aV=>aR m (by omega)];rfl
  .rintro σ H2 ⟨aB,aC,G,I,Y,J0,rfl,D,aD⟩;have q:=k H2 D;unfold fitsB at q;rw[ziA b tg0 (fitT b) λj B=>aD j (by omega)] at q;exact q
theorem scBookL:zav ["bag","signs","escapes","many","book","turn","at","door","more"] ["bag"] (zag lBook):=⟨J,J,J,by decide +kernel,J,by decide +kernel,by decide +kernel⟩
theorem zjZ{f aR aS aT:Addr}{fd bs bt bu:FuncData}(F:Fun K "_law_book" "_law_book" lBook f fd)(T:TxtB mg)(b7:Txt2 mg)(k1:W.keepIn K (.ref aR)=true)(Z:Binds K bs ["bag","many"] [])(D:mg "_law_take"=some (.ref aR))(aa:FnOk P w K mg base CX0 1 aR bs ["bag","many"] zdl)(k2:W.keepIn K (.ref aS)=true)(bv:Binds K bt ["bag","signs"] [])(I:mg "_law_mark"=some (.ref aS))(bw:FnOk P w K mg base CX0 2 aS bt ["bag","signs"] spMk)(k3:W.keepIn K (.ref aT)=true)(b8:Binds K bu ["book"] [])(b9:mg "_law_fits_book"=some (.ref aT))(ca:FnOk P w K mg base CX0 1 aT bu ["book"] zgK):FnOk P w K mg base CX0 3 f fd ["bag"] zgN:=by
 refine F.ok scBookL (λvs H Q E h=>?_) (λcdv A outer s H vs Q E aU h=>?_)
 .obtain⟨z,rfl,_⟩:=h;rfl
 .obtain⟨z,rfl,bx,k⟩:=h;have ab:=scBookL.nd;have Y:Room 1 _:=aU.mono (by decide);refine⟨_,zac (zap (i:=1) ab J (Or.inl J) (zau ix_list (zaE (zaa zay (zaa zay (zaa zay (zaa zay zad))))) (zas aa Y J D k1 Z .nil pass0 (zaa (pv 0) (zaa zaf zad))) (λ_ _=>rfl)))
   (zac (zap (i:=2) ab J (Or.inr J) (zau ix_list (zaE (zaa zay (zaa zay (zaa zay (zaa zay zad))))) (zas aa Y J D k1 Z .nil pass0 (zaa (pv 0) (zaa zaf zad))) (λ_ _=>rfl)))
   (zac (zap (i:=3) ab J (Or.inl J) (zaB zaN zaf (zas aa Y J D k1 Z .nil pass0 (zaa (pv 0) (zaa (zau ix_list (zaE (zaa zaf (zaa zaf (zaa zaf zad)))) (zas aa Y J D k1 Z .nil pass0 (zaa (pv 0) (zaa zaf zad))) (λ_ _=>rfl)) zad)))))
   (zac (zb3 (i:=4) (N':=["tongue","bag","escapes"]) (js:=[none,some 0,some 2]) J J ab J (Or.inl J) (zbc (zag lBook) (by decide +kernel)) ⟨J,Or.inr (Or.inl J),J,J,Or.inr (Or.inl J),J,trivial⟩ (zbj J T.range (zaa (pv 3) zad))
     (λcl s H fp=>zaq (i:=0) ndTBE J (Or.inl J)) (λcl s H fp=>zbr)
     (λcl s H fp=>za9 (zaa (zau zey (zaE (zaa (pv 2) (zaa zay (zaa zay zad)))) (zas aa Y J D k1 Z .nil pass0 (zaa (pv 1) (zaa zaf zad))) (λ_ _=>rfl)) (zaa (za9 zad) zad))))
   (zac (zbG PassesOwn.never J (zbj J T.range (zaa (zaB zaN zaf (zas aa Y J D k1 Z .nil pass0 (zaa (pv 0) (zaa (zaB zdF zaf (pv 3)) zad)))) zad)) (zaq (i:=5) ab J (Or.inl J))
    (zac (zap (i:=6) ab J (Or.inl J) (zau ix_list (zaE (zaa zaf (zaa (zas aa Y J D k1 Z .nil pass0 (zaa (pv 0) (zaa (pv 3) zad))) zad))) (zas aa Y J D k1 Z .nil pass0 (zaa (pv 0) (zaa zaf zad))) (λ_ _=>rfl)))
    (zac (zap (i:=7) ab J (Or.inl J) (za9 (zaa (zas bw aU J I k2 bv .nil pass0 (zaa (pv 0) (zaa (pv 1) zad))) (zaa (zas aa Y J D k1 Z .nil pass0 (zaa (pv 0) (zaa (pv 3) zad))) (zaa (zas bw aU J I k2 bv .nil pass0 (zaa (pv 0) (zaa (pv 1) zad))) zad)))))
    (zac (zap (i:=8) ab J (Or.inl J) (zbk zci (by rfl) b7.list zgy (zaa (pv 4) zad)))
    (zac (zbz (za9 (zaa (zau ix_tup (zau ix_list (pv 4) (pv 6) (λ_ _=>rfl)) zaf (λ_ _=>rfl)) (zaa (zaB zlp (zau ix_tup (zau ix_list (pv 4) (pv 6) (λ_ _=>rfl)) zaf (λ_ _=>rfl)) (za9 (zaa (pv 7) zad))) zad))) (zgq (pv 8) (pv 6) zeu))
    (zai (zaY (PW.pt (zcF (zat zd7 (zao zaD (by rfl) T.len b_len (zaa (zau ix_tup (zau ix_list (pv 4) (pv 6) (λ_ _=>rfl)) zaf (λ_ _=>rfl)) zad)) zaf (zaz _)) (zbZ (zeb (zas ca Y J b9 k3 b8 .nil pass0 (zaa (pv 8) zad))))))
     (zai (zap (i:=4) ab J (Or.inl J) (pv 8))) zaA)))))))
   (zai (zax (zbk zbD (by rfl) T.tuple zex (zaa (pv 4) zad)))))))),?_⟩
  dsimp only[cxOf,Cx.nox,Cx.wish];refine zah λaB ac=>?_;have cV:(1000:Nat)<=sizeLine:=by rw[sizeLine_eq];decide
  have bz:=Aft.refl bx;refine⟨by show (4:Nat)<=_;omega,λbA aV=>⟨_,J,z,4,J,(bz.new aV).2,by decide,by decide,λaW H1 cW bB=>?_⟩⟩;have aX:Aft z H H1:=(bz.new aV).trans bB;have bC:=bB.1 bA _ (bx.ne aV) zab;obtain⟨cb,cc,aq⟩:=pickH bC (r:=aW) (by show aW<4;omega);obtain⟨x,ex,bD,bE,bF⟩:∃x,cb=.str x/\1<=x.length/\x.length<=100/\zeK x:=by
   simp only[List.mem_cons,List.not_mem_nil,or_false] at aq;rcases aq with rfl|rfl|rfl|rfl<;>exact⟨_,J,by decide +kernel,by decide +kernel,by unfold zeK;decide +kernel⟩
  subst ex;refine⟨bA,_,aW,_,J,J,SqL.of bC,zaj cc,ac _ _ (zah λaB ac=>?_)⟩;refine⟨by show (4:Nat)<=_;omega,λp2 aY=>⟨_,J,z,4,J,(aX.new aY).2,by decide,by decide,λaZ H2 cX bG=>?_⟩⟩;have a1:Aft z H H2:=(aX.new aY).trans bG;have aC:=bG.1 p2 _ (aX.2.ne aY) zab;obtain⟨ce,cf,ar⟩:=pickH aC (r:=aZ) (by show aZ<4;omega);obtain⟨e,cg,ch⟩:∃x,ce=.str x/\escD (.str x)=true:=by
   simp only[List.mem_cons,List.not_mem_nil,or_false] at ar;rcases ar with rfl|rfl|rfl|rfl<;>exact⟨_,J,by decide +kernel⟩
  subst cg;refine⟨p2,_,aZ,_,J,J,SqL.of aC,zaj cf,ac _ _ (zah λaB ac=>?_)⟩;refine⟨_,J,by show (3:Nat)<=_;omega,λp3 a2=>⟨_,J,z,3,J,(a1.new a2).2,by decide,by decide,λa3 ci cY bH=>?_⟩⟩;have bI:Aft z H ci:=(a1.new a2).trans bH;have bJ:=bH.1 p3 _ (a1.2.ne a2) zab;obtain⟨cj,ck,bK⟩:=pickH bJ (r:=a3) (by show a3<3;omega);obtain⟨a4,cm,cn,cZ⟩:∃n:Int,cj=.int n/\0<n/\n<=6:=by
   simp only[List.mem_cons,List.not_mem_nil,or_false] at bK;rcases bK with rfl|rfl|rfl<;>exact⟨_,J,by decide,by decide⟩
  subst cm;refine⟨p3,_,a3,_,J,J,SqL.of bJ,zaj ck,z,a4,J,bI.2,cn,by omega,λO co c0 cp=>?_⟩;have a5:Aft z H co:=bI.trans cp;refine⟨1,O,J,J,ac _ _ (zah λaB ac=>?_)⟩;refine⟨_,J,1+O,J,by omega,by omega,λp np=>?_⟩;have cq:(1+(O:Int)).toNat=1+O:=by omega
  rw[cq];have a6:=a5.2.ne np;have cr:=a5.none np;refine zhs (λi σ as=>∃u,σ=[u,some (.ref z),some (.str e)]/\Aft z H as/\∃b,LBk z p b as/\b.length=i/\∀t∈b,t.2=[]/\escD (.str t.1)=true) ⟨none,J,a5.new np,[],⟨a6,[],zab,.nil⟩,J,by simp⟩ ?_ ?_
  .rintro i σ as hi ⟨u,rfl,ag,b,aD,ad,au⟩;refine⟨_,J,by show (3:Nat)<=_;omega,λl J0=>⟨_,J,z,3,J,(ag.new J0).2,by decide,by decide,λr av cs aw=>?_⟩⟩;have cu:Aft z as av:=((Aft.refl ag.2).new J0).trans aw;have bL:=aw.1 l _ (ag.2.ne J0) zab;obtain⟨cv,cw,bM⟩:=pickH bL (r:=r) (by show r<3;omega);obtain⟨y,cx,aE⟩:∃x,cv=.str x/\escD (.str x)=true:=by
    simp only[List.mem_cons,List.not_mem_nil,or_false] at bM;rcases bM with rfl|rfl|rfl
    .exact⟨_,J,ch⟩
    .exact⟨_,J,by decide +kernel⟩
    .exact⟨_,J,by decide +kernel⟩
   subst cx;have a7:y.length<=1:=by unfold escD at aE;simp at aE;exact aE.1
   refine⟨l,_,r,_,J,J,SqL.of bL,zaj cw,Nat.zero_le _,λq1 a8=>⟨by show (2:Nat)<=_;omega,λal bN=>?_⟩⟩;have ax:=(cu.new (o:=.tup []) a8).new (o:=.tup [.str y,.ref q1]) bN;have aF:upd (upd av q1 (.tup [])) al (.tup [.str y,.ref q1]) al=some (.tup [.str y,.ref q1]):=zab;have aG:upd (upd av q1 (.tup [])) al (.tup [.str y,.ref q1]) q1=some (.tup []):=Same.new bN _ _ zab;generalize upd (upd av q1 (.tup [])) al (.tup [.str y,.ref q1])=cy at ax aF aG;obtain⟨_,vs,a9,G⟩:=aD.aft ax.1;have cz:vs.length=b.length:=by have:=G.length;simpa using this
   refine⟨vs,a9,by omega,⟨_,J,(ag.trans ax).upd cr a6,b++[(y,[])],⟨a6,vs++[.ref al],zab,?_⟩,by simp[ad],λt ht=>?_⟩⟩
   .rw[zgL,List.map_append];have ba:al≠p:=zar aF a9 (by intro z;cases z);have cA:q1≠p:=zar aG a9 (by intro z;cases z);exact G.append (.cons (.tup (by rw[zcH ba];exact aF) (ax.2.neT aF) (.cons (.str y (by omega)) (.cons (.tup (by rw[zcH cA];exact aG) (ax.2.neT aG) .nil) .nil))) .nil)
   .rcases List.mem_append.mp ht with ht|ht
    .exact au t ht
    .have:t=(y,[]):=by simpa using ht
     subst this;exact⟨J,aE⟩
  .rintro σ as ⟨u,rfl,ag,b,aD,ad,au⟩;refine ac _ _ (zah λaB ac=>?_);refine⟨_,J,_,J,3,1+O,J,J,.inl ⟨by decide,by decide⟩,z,3*(1+O),J,ag.2,by omega,by omega,λbO av cB aw=>?_⟩;refine⟨2,bO,J,J,2+bO,J,by omega,by omega,?_⟩;have bP:∀t∈b,TgOk b.length t:=λt ht=>by
    obtain⟨h1,h2⟩:=au t ht;refine⟨h2,by rw[h1];decide,λd aH=>?_⟩;rw[h1] at aH;cases aH
   refine zbA (λi σ am=>∃a b bb bc bd be,σ=[some (.ref z),some (.str x),some (.str e),some (.int (1+O)),some (.ref a),bb,bc,bd,be]/\Aft z H am/\LBk z a b am/\b.length=1+O/\(∀t∈b,TgOk b.length t)/\fitsB b=true)
    ⟨p,b,none,none,none,none,J,ag.trans aw,aD.aft aw.1,ad,bP,zht λt ht=>(au t ht).1⟩ ?_ ?_
   .clear bP au ad aD cB;rintro i σ am hi ⟨a,b,bb,bc,bd,be,rfl,ah,aI,ad,ai,aJ⟩;show (tSeq _ _) _ _ _;refine zba λc1 bf _ _ _=>zah λbg aj=>?_;refine⟨_,J,_,J,z,1+O,J,ah.2,by omega,by omega,λbQ cy cs bh=>?_⟩;refine⟨by show (2:Nat)<=_;omega,λp4 bi=>⟨_,J,z,2,J,(bh.new bi).2,by decide,by decide,λbj cC cD bR=>?_⟩⟩;have bS:Aft z am cC:=(bh.new bi).trans bR;have cE:=bR.1 p4 _ (bh.2.ne bi) zab;obtain⟨B,cF,c2⟩:∃B:Nat,([V.int 0,V.int bQ]:List V)[bj]?=some (.int B)/\B<1+O:=by
     match bj,cD with
     |0,_=>exact⟨0,J,by omega⟩
     |1,_=>exact⟨bQ,J,by omega⟩
     |m+2,h=>omega
    refine⟨p4,_,bj,_,J,J,SqL.of cE,zaj cF,aj _ _ (zah λbg aj=>?_)⟩;refine⟨_,J,_,J,z,x,J,bS.2,bD,bE,bF,λD c3 aq bT=>⟨_,J,_,J,z,1+O,J,bT.2,by omega,by omega,λG c4 c5 bU=>⟨_,J,_,J,z,x,J,bU.2,bD,bE,bF,λI bV ar cG=>⟨by show (3:Nat)<=_;omega,λao cH=>aj _ _ (zah λbg aj=>?_)⟩⟩⟩⟩;have ae:=(((bS.trans bT).trans bU).trans cG).new (o:=.tup [.str D,.int G,.str I]) cH;have aK:upd bV ao (.tup [.str D,.int G,.str I]) ao=some (.tup [.str D,.int G,.str I]):=zab;generalize upd bV ao (.tup [.str D,.int G,.str I])=ay at ae aK;obtain⟨bW,vs,aL,bk⟩:=aI.aft ae.1;have cz:vs.length=b.length:=by have:=bk.length;simpa using this
    refine⟨_,J,a,vs,J,.inl (SqL.of aL),λl J0=>aj _ _ (zah λbg aj=>?_)⟩;have bX:B<b.length:=by omega
    have aM:=ai _ (getD_mem tg0 bX);obtain⟨c,d,ys,cI,cJ,cK,cL,aH,a7,cM⟩:=za0 (zaP (b:=b) (i:=B) bk bX);have a7:ys.length=(b.getD B tg0).2.length:=a7;have bl:vs[B]?=some (.ref c):=by
     have h1:B<vs.length:=by omega
     have h2:vs.getD B .non=vs[B]:=by simp[h1]
     rw[List.getElem?_eq_getElem h1,←h2,cI]
    generalize c6:b.getD B tg0=tt at *;have bm:=(zcm cL).2;have bY:=(zcm aH).2;have ap:Same ay (upd ay l (.lst vs)):=Same.new J0;have c7:=aM.2.1;have el:tt.1.length<=1:=by have:=aM.1;unfold escD at this;simp at this;exact this.1
    refine⟨_,J,_,J,a,vs,B,_,J,J,SqL.of (ap _ _ aL),zaj bl,c,_,0,_,J,J,SqT.of (ap _ _ bm),zaj (j:=0) J,_,J,_,J,a,vs,B,_,J,J,SqL.of (ap _ _ aL),zaj bl,c,_,1,_,J,J,SqT.of (ap _ _ bm),zaj (j:=1) J,_,J,by show (1:Nat)<=_;omega,λq1 a8=>?_⟩;have bn:=Same.new (o:=.tup [.ref ao]) a8;refine⟨d,q1,ys,[.ref ao],J,J,bn _ _ (ap _ _ bY),zab,by show ys.length+1<=_;omega,λp2 bo bZ aC=>⟨by show (2:Nat)<=_;omega,λU cN=>?_⟩⟩;have bp:=Same.new (o:=.tup [.str tt.1,.ref p2]) cN;have aN:upd bo U (.tup [.str tt.1,.ref p2]) U=some (.tup [.str tt.1,.ref p2]):=zab;have az:=bp _ _ (bZ _ _ (bn _ _ (zab (H:=ay) (a:=l) (o:=.lst vs))));have aO:=bp _ _ aC;have af:Same ay (upd bo U (.tup [.str tt.1,.ref p2])):=ap.trans (bn.trans (bZ.trans bp));generalize upd bo U (.tup [.str tt.1,.ref p2])=ak at aN az aO af;refine⟨_,J,_,J,l,vs,B,B,J,J,az,zlq (by omega),aj _ _ ?_⟩;have bq:=ae.2.ne J0;have aA:Aft z am (upd ak l (.lst (vs.set B (.ref U)))):=(ae.same af).upd (ae.none J0) bq;have aP:Aft z ay (upd ak l (.lst (vs.set B (.ref U)))):=((Aft.refl ae.2).same af).upd J0 bq;have b0:upd ak l (.lst (vs.set B (.ref U))) l=some (.lst (vs.set B (.ref U))):=zab;have b1:mask l (upd ak l (.lst (vs.set B (.ref U))))=mask l ak:=zgL;generalize upd ak l (.lst (vs.set B (.ref U)))=cO at aA aP b0 b1;have b2:LBk z l (b.set B (tt.1,tt.2++[(D,(G:Int),I)])) cO:=by
     refine⟨bq,_,b0,?_⟩;rw[b1,List.map_set];have a4:U≠l:=zar aN az (by intro z;cases z);have ba:p2≠l:=zar aO az (by intro z;cases z);have cP:ao≠l:=zar (af _ _ aK) az (by intro z;cases z);have b3:Bag z ak:=(ae.same af).2;have br:=za3 aq;have c8:=za3 ar;refine Reps.set (.tup (by rw[zcH a4];exact aN) (b3.neT aN) (.cons (.str tt.1 (by omega)) (.cons (.tup (by rw[zcH ba];exact aO) (b3.neT aO) ?_) .nil))) B (bk.mono (zgM J0 af.x));rw[List.map_append];exact(cM.mono (zgM J0 af.x)).append (.cons (.tup (by rw[zcH cP];exact af _ _ aK) (ae.2.neT aK) (.cons (.str D (by omega)) (.cons (.int (G:Int)) (.cons (.str I (by omega)) .nil)))) .nil)
    have b4:=aI.aft aA.1;refine⟨_,J,_,J,a,vs,B,_,J,J,SqL.of (aP.1 _ _ bW aL),zaj bl,c,_,1,_,J,J,SqT.of (aP.1 _ _ cJ bm),zaj (j:=1) J,d,ys,J,.inr (SqT.of (aP.1 _ _ cK bY)),_,_,J,J,_,J,?_⟩;refine ite2 (λbr=>?_) (λbr=>?_)
    .have c9:tt.2.length<6:=by
      have:=of_decide_eq_true br;omega
     have cQ:(b.set B (tt.1,tt.2++[(D,(G:Int),I)])).length=b.length:=by simp
     have b5:∀t∈b.set B (tt.1,tt.2++[(D,(G:Int),I)]),TgOk (b.set B (tt.1,tt.2++[(D,(G:Int),I)])).length t:=by
      rw[cQ];intro t ht;rcases List.mem_or_eq_of_mem_set ht with ht|ht
      .exact ai t ht
      .subst ht;refine⟨aM.1,by simp;omega,λb6 hdr=>?_⟩;rcases List.mem_append.mp hdr with hdr|hdr
       .exact aM.2.2 b6 hdr
       .have:b6=(D,(G:Int),I):=by simpa using hdr
        subst this;exact⟨aq,⟨by show (0:Int)<=G;omega,by show (G:Int)<b.length;omega⟩,ar⟩
     obtain⟨_,cR,hw,cS⟩:=id b2;refine⟨_,J,z,l,cR,_,J,.inr hw,cS.mono ziE,by omega,b5,λda aQ=>⟨_,J,?_⟩⟩;cases gf:fitsB (b.set B (tt.1,tt.2++[(D,(G:Int),I)])) with
     |true=>exact iteT ⟨_,J,bf _ _ ⟨l,_,_,_,_,_,J,ah.trans (aA.same aQ),b2.aft aQ.x,by omega,b5,gf⟩⟩
     |false=>exact iteF (bf _ _ ⟨a,b,_,_,_,_,J,ah.trans (aA.same aQ),b4.aft aQ.x,ad,ai,aJ⟩)
    .exact iteF (bf _ _ ⟨a,b,_,_,_,_,J,ah.trans aA,b4,ad,ai,aJ⟩)
   .rintro σ am ⟨a,b,bb,bc,bd,be,rfl,ah,aI,ad,ai,aJ⟩;obtain⟨bW,vs,cT,cU⟩:=aI;refine ac _ _ ⟨_,J,a,vs,J,.inl ⟨SqL.of cT,λl J0=>k _ b _ (ah.new J0) (.tup zab (ah.2.ne J0) ((cU.mono ziE).mono (Same.new J0).x)) ⟨by omega,by omega,ai,?_⟩⟩⟩;rw[←ziC ai];exact aJ
noncomputable def Sm(m:Str):Prop:=1<=m.length/\m.length<=4
inductive zdu:List V->Hp->VK->XK->Prop where
 |mk {vs:List V} {H:Hp} {Q:VK} {E:XK} (z v b:_) (c1:vs=[v]) (c2:Rep z H v (bkD b)) (c3:BkOk b) (c4:∀p (ms:List Str) H',Same H H'->H p=none->H' p=some (.lst (ms.map V.str))->ms.length<=100->(∀m∈ms,Sm m)->Q (.ref p) H'):zdu vs H Q E
inductive zfG:List V->Hp->VK->XK->Prop where
 |mk {vs:List V} {H:Hp} {Q:VK} {E:XK} (z v b:_) (n:Nat) (c1:vs=[.ref z,v,.int n]) (c2:Bag z H) (c3:Rep z H v (bkD b)) (c4:BkOk b) (c5:0<n) (c6:n<=4000) (c7:∀x H',Aft z H H'->x.length<=4*n->Q (.str x) H'):zfG vs H Q E
theorem scLMarks:zav ["book","found","escape","doors","door"] ["book"] (zag ziI):=⟨J,J,J,by decide +kernel,J,by decide +kernel,by decide +kernel⟩
theorem ziL{f:Addr}{fd:FuncData}(F:Fun K "_law_marks" "_law_marks" ziI f fd):FnOk P w K mg base CX0 1 f fd ["book"] zdu:=by
 refine F.ok scLMarks (λvs H Q E h=>?_) (λcdv A outer s H vs Q E aF h=>?_)
 .obtain⟨z,v,b,rfl,_⟩:=h;rfl
 .obtain⟨z,v,b,rfl,as,au,k⟩:=h;obtain⟨a,xs,rfl,aG,ac,aH,R⟩:=zb6 as;obtain⟨aI,aJ,av,_⟩:=au;have J0:=scLMarks.nd;refine⟨_,zac (zap (i:=1) J0 J (Or.inl J) (zaE zad))
   (zac (zbG PassesOwn.never J (zce (pv 0)) (zbF J (zaw (zaq (i:=2) J0 J (Or.inl J)) (zaw (zaq (i:=3) J0 J (Or.inl J)) za6)))
    (zac (zbG PassesOwn.never J (zce (pv 3)) (zaq (i:=4) J0 J (Or.inl J)) (zai (zap (i:=1) J0 J (Or.inl J) (zaB zdj (pv 1) (zaE (zaa (zau ix_tup (pv 4) zaf (λ_ _=>rfl)) (zaa (zau ix_tup (pv 4) zaf (λ_ _=>rfl)) zad)))))))
    (zai (zaY (zat zfg (pv 2) zay (zaz _)) (zai (zaU (zbN PySem.F.plainAttrs_list PySem.F.slot_list_append PySem.F.type_list_append zaL (pv 1) (zaa (pv 2) zad)))) zaA))))
   (zai (zax (pv 1)))),?_⟩
  dsimp only[cxOf,Cx.nox,Cx.wish];have aK:=za2;refine⟨Nat.zero_le _,λad ae=>?_⟩;have af:Same H (upd H ad (.lst [])):=Same.new ae;refine⟨_,J,a,J,⟨_,SqT.of (af _ _ ac)⟩,zdE (K:=K) (a:=a) (xs:=xs) (λi σ H2=>∃p ms W Y G,σ=[some (.ref a),some (.ref p),W,Y,G]/\Same H H2/\H p=none/\H2 p=some (.lst (ms.map V.str))/\ms.length<=13*i/\∀m∈ms,Sm m)
   ⟨ad,[],none,none,none,J,af,ae,by rw[zab];rfl,by simp,by simp⟩ (λi σ H2 _ ⟨_,_,_,_,_,_,s,_⟩=>SqT.of (s _ _ ac)) ?_ ?_⟩
  .rintro i y σ H2 hi ⟨p,ms,W,Y,G,rfl,O,np,B,Z,D⟩;have ag:i<b.length:=by have:=(List.getElem?_eq_some_iff.mp hi).1;omega
   have aw:y=xs.getD i .non:=by rw[List.getD_eq_getElem?_getD,hi];rfl
   have aa:=av _ (getD_mem tg0 ag);obtain⟨c,d,ys,e,aL,aM,ax,ah,ai,ay⟩:=za0 (zaP (b:=b) (i:=i) R ag);have ai:ys.length=(b.getD i tg0).2.length:=ai;rw[aw,e];generalize aN:b.getD i tg0=tt at *;have aO:=aa.2.1;refine⟨c,_,J,SqT.of (O _ _ ax),J,_,_,J,_,_,J,J,?_⟩;refine⟨_,J,d,J,⟨_,SqT.of (O _ _ ah)⟩,zdE (K:=K) (a:=d) (xs:=ys) (λj σ U=>∃p ms G,σ=[some (.ref a),some (.ref p),some (.str tt.1),some (.ref d),G]/\Same H U/\H p=none/\U p=some (.lst (ms.map V.str))/\ms.length<=13*i+2*j/\∀m∈ms,Sm m)
    ⟨p,ms,_,J,O,np,B,by omega,D⟩ (λj σ U _ ⟨_,_,_,_,s,_⟩=>SqT.of (s _ _ ah)) ?_ ?_⟩
   .rintro j az σ U aj ⟨p,ms,G,rfl,I,np,B,Z,D⟩;have ak:j<tt.2.length:=by have:=(List.getElem?_eq_some_iff.mp aj).1;omega
    have aA:az=ys.getD j .non:=by rw[List.getD_eq_getElem?_getD,aj];rfl
    obtain⟨q,aB,aP,al⟩:=zbw (zbd (ds:=tt.2) (i:=j) ay ak);have am:=aa.2.2 _ (getD_mem dr0 ak);rw[aA,aB];refine⟨_,J,_,J,q,_,0,_,J,J,SqT.of (I _ _ al),zaj (j:=0) J,_,J,q,_,2,_,J,J,SqT.of (I _ _ al),zaj (j:=2) J,by show (2:Nat)<=_;omega,λl aC=>?_⟩;have ab:=Same.new (o:=.lst [.str (tt.2.getD j dr0).1,.str (tt.2.getD j dr0).2.2]) aC;refine⟨p,l,ms.map V.str,_,J,J,ab _ _ B,zab,by rw[List.length_map];show _+2<=_;omega,λp2 ao=>?_⟩;have aD:=Same.new (o:=.lst (ms.map V.str++[.str (tt.2.getD j dr0).1,.str (tt.2.getD j dr0).2.2])) ao;refine⟨p2,ms++[(tt.2.getD j dr0).1,(tt.2.getD j dr0).2.2],_,J,(I.trans ab).trans aD,(I.trans ab).free ao,by rw[zab];simp,by rw[List.length_append];show _+2<=_;omega,λm hm=>?_⟩;rcases List.mem_append.mp hm with hm|hm
    .exact D m hm
    .have ap:=za3 am.1;have aq:=za3 am.2.2;simp only[List.mem_cons,List.not_mem_nil,or_false] at hm;rcases hm with rfl|rfl
     .exact⟨ap.2,ap.1⟩
     .exact⟨aq.2,aq.1⟩
   .rintro σ U ⟨p,ms,G,rfl,I,np,B,Z,D⟩;refine⟨_,J,J,_,J,?_⟩;have el:tt.1.length<=1:=by have:=aa.1;unfold escD at this;simp at this;exact this.1
    refine ite2 (λg=>?_) (λg=>?_)
    .refine⟨_,J,.inl ⟨J,_,SqL.of B⟩,_,J,p,_,_,J,J,B,by rw[List.length_map];omega,?_⟩;refine⟨p,ms++[tt.1],_,_,_,J,λaE o ar=>by rw[zak (zae ar np)];exact I aE o ar,np,by rw[zab];simp,by rw[List.length_append];show _+1<=_;omega,λm hm=>?_⟩;rcases List.mem_append.mp hm with hm|hm
     .exact D m hm
     .have:m=tt.1:=by simpa using hm
      subst this;refine⟨?_,by omega⟩;rcases zeg tt.1 el with⟨ex,_⟩|⟨aQ,ex,_⟩
      .rw[ex] at g;simp at g
      .rw[ex];show 1<=1;exact Nat.le_refl _
    .exact⟨p,ms,_,_,_,J,I,np,B,by omega,D⟩
  .rintro σ H2 ⟨p,ms,W,Y,G,rfl,O,np,B,Z,D⟩;exact⟨_,J,k p ms H2 O np B (by omega) D⟩
theorem scText:zav ["bag","book","most","some","found","turn","one"] ["bag","book","most"] (zag lText):=⟨J,J,J,by decide +kernel,J,by decide +kernel,by decide +kernel⟩
theorem zj0(z:Str)(lo hi:Option Int):(cutS z lo hi).length<=z.length:=by
 unfold cutS;show (List.toArray _).size<=_;rw[List.size_toArray,List.length_take,List.length_drop];have:z.cps.toList.length=z.length:=by simp;rfl
 omega
theorem zlt:∀m∈[Str.ofString "x",Str.ofString " ",Str.ofString "a",Str.ofString "b",Str.ofString "\n"],1<=m.length/\m.length<=4:=by decide +kernel
theorem zlu{f ac ad:Addr}{fd ak al:FuncData}(F:Fun K "_law_text" "_law_text" lText f fd)(T:TxtB mg)(k1:W.keepIn K (.ref ac)=true)(U:Binds K ak ["bag","many"] [])(Y:mg "_law_take"=some (.ref ac))(Z:FnOk P w K mg base CX0 1 ac ak ["bag","many"] zdl)(k2:W.keepIn K (.ref ad)=true)(aB:Binds K al ["book"] [])(aC:mg "_law_marks"=some (.ref ad))(aD:FnOk P w K mg base CX0 1 ad al ["book"] zdu):FnOk P w K mg base CX0 2 f fd ["bag","book","most"] zfG:=by
 refine F.ok scText (λvs H Q E h=>?_) (λcdv A outer s H vs Q E G h=>?_)
 .obtain⟨z,v,b,n,rfl,_⟩:=h;rfl
 .obtain⟨z,v,b,n,rfl,am,R,aE,aT,aU,k⟩:=h;have D:=scText.nd;refine⟨_,zac (zap (i:=3) D J (Or.inl J) (zaB zdj (zas aD G J aC k2 aB .nil pass0 (zaa (pv 1) zad)) (zaE (pa_K zay (pa_K zay (pa_K zay (pa_K zay (pa_K zay zad))))))))
   (zac (zap (i:=4) D J (Or.inl J) zay)
   (zac (zbG PassesOwn.never J (zbj J T.range (zaa (zas Z G J Y k1 U .nil pass0 (zaa (pv 0) (zaa (pv 2) zad))) zad)) (zaq (i:=5) D J (Or.inl J))
    (zac (zap (i:=6) D J (Or.inl J) (zau ix_list (pv 3) (zas Z G J Y k1 U .nil pass0 (zaa (pv 0) (zaa (zao zaD (by rfl) T.len b_len (zaa (pv 3) zad)) zad))) (λ_ _=>rfl)))
    (zac (zaY (zat zcg (zas Z G J Y k1 U .nil pass0 (zaa (pv 0) (zaa zaf zad))) zaf (zaz _))
     (zai (zap (i:=6) D J (Or.inl J) (zaG zbT (pv 6) zaW (zaJ (zaB zaN zaf (zas Z G J Y k1 U .nil pass0 (zaa (pv 0) (zaa (zao zam (by rfl) T.len b_len (zaa (pv 6) zad)) zad)))))))) zaA)
    (zai (zap (i:=4) D J (Or.inl J) (zaB zbh (pv 4) (pv 6)))))))
   (zai (zax (pv 4))))),?_⟩
  dsimp only[cxOf,Cx.nox,Cx.wish];have aV:=za2;have aW:(100000:Nat)<=sizeLine:=by rw[sizeLine_eq];decide
  refine⟨_,J,z,v,b,J,R,aE,λaF ms H1 ao aX aG aY aH=>⟨by show (5:Nat)<=_;omega,λl aI=>?_⟩⟩;have ae:=Same.new (o:=.lst ([Str.ofString "x",Str.ofString " ",Str.ofString "a",Str.ofString "b",Str.ofString "\n"].map V.str)) aI;refine⟨aF,l,ms.map V.str,[Str.ofString "x",Str.ofString " ",Str.ofString "a",Str.ofString "b",Str.ofString "\n"].map V.str,J,J,ae _ _ aG,zab,by rw[List.length_map];show _+5<=_;omega,λp2 I=>?_⟩;have I:upd H1 l (.lst ([Str.ofString "x",Str.ofString " ",Str.ofString "a",Str.ofString "b",Str.ofString "\n"].map V.str)) p2=none:=I;have ap:ms.map V.str++[Str.ofString "x",Str.ofString " ",Str.ofString "a",Str.ofString "b",Str.ofString "\n"].map V.str=(ms++[Str.ofString "x",Str.ofString " ",Str.ofString "a",Str.ofString "b",Str.ofString "\n"]).map V.str:=(List.map_append ..).symm;rw[ap];have aJ:=zlt;show (tSeq _ _) _ _ (upd (upd H1 l (.lst ([Str.ofString "x",Str.ofString " ",Str.ofString "a",Str.ofString "b",Str.ofString "\n"].map V.str))) p2 (.lst ((ms++[Str.ofString "x",Str.ofString " ",Str.ofString "a",Str.ofString "b",Str.ofString "\n"]).map V.str)));clear ap;have aZ:[Str.ofString "x",Str.ofString " ",Str.ofString "a",Str.ofString "b",Str.ofString "\n"].length=5:=rfl;generalize [Str.ofString "x",Str.ofString " ",Str.ofString "a",Str.ofString "b",Str.ofString "\n"]=B at *;have a1:=Same.new (o:=.lst ((ms++B).map V.str)) I;have aK:=((am.same ao).same ae);have aa:=aK.ne I;have af:Aft z H (upd (upd H1 l (.lst (B.map V.str))) p2 (.lst ((ms++B).map V.str))):=(((Aft.refl am).same ao).same ae).new I;have aq:upd (upd H1 l (.lst (B.map V.str))) p2 (.lst ((ms++B).map V.str)) p2=some (.lst ((ms++B).map V.str)):=zab;generalize upd (upd H1 l (.lst (B.map V.str))) p2 (.lst ((ms++B).map V.str))=a2 at af aq;have aL:∀m∈ms++B,Sm m:=λm aM=>(List.mem_append.mp aM).elim (aH m) (aJ m);have a3:(ms++B).length<=105:=by rw[List.length_append];omega
  have a4:1<=(ms++B).length:=by rw[List.length_append];omega
  generalize ms++B=so at *;refine⟨_,J,_,J,z,n,J,af.2,by omega,by omega,λr a5 a6 ar=>⟨r,J,by omega,by omega,?_⟩⟩;have aN:=ar.1 _ _ aa aq;have aO:=af.trans ar;have aP:((r:Int)).toNat=r:=Int.toNat_natCast r;rw[aP];have a7:(so.map V.str).length=so.length:=List.length_map ..;refine zbA (λi σ J0=>∃x ag ah,σ=[some (.ref z),some v,some (.int n),some (.ref p2),some (.str x),ag,ah]/\Aft z H J0/\J0 p2=some (.lst (so.map V.str))/\x.length<=4*i) ⟨_,none,none,J,aO,aN,by decide +kernel⟩ ?_ ?_
  .rintro i σ J0 hi ⟨x,ag,ah,rfl,ab,ai,aQ⟩;refine⟨_,J,_,J,_,J,p2,_,J,.inl (SqL.of ai),z,(so.map V.str).length,J,ab.2,by omega,by omega,λO a8 a9 as=>?_⟩;have au:O<so.length:=by omega
   have av:=ab.trans as;have aw:=as.1 _ _ aa ai;obtain⟨aR,aS⟩:=aL so[O] (List.getElem_mem au);refine⟨p2,_,O,.str so[O],J,J,SqL.of aw,zaj (by simp[au]),?_⟩;generalize so[O]=m at aR aS;refine⟨_,J,z,6,J,av.2,by decide,by decide,λba bb bc ax=>⟨J,_,J,?_⟩⟩;have aj:=av.trans ax;have ay:=ax.1 _ _ aa aw;refine ite2 (λg=>?_) (λg=>?_)
   .refine⟨_,J,_,J,_,J,m,J,by omega,z,m.length,J,aj.2,by omega,by omega,λaz bd be aA=>⟨1,az,J,J,_,J,m,J,by omega,?_⟩⟩;have bf:=zj0 m none (some (1+(az:Int)));exact⟨_,J,_,J,_,_,J,J,by omega,_,_,_,J,aj.trans aA,aA.1 _ _ aa ay,by rw[zbx];omega⟩
   .exact⟨_,J,_,J,_,_,J,J,by omega,_,_,_,J,aj,ay,by rw[zbx];omega⟩
  .rintro σ J0 ⟨x,ag,ah,rfl,ab,ai,aQ⟩;exact⟨_,J,k x J0 ab (by omega)⟩
noncomputable abbrev LDr:=Int×Int×Str
noncomputable def ldD(d:LDr):D:=.tup [.int d.1,.int d.2.1,.str d.2.2]
noncomputable abbrev ld0:LDr:=(0,0,⟨#[]⟩)
theorem zcI:∀ds:List LDr,NoLs (ds.map ldD)
 |[]=>.nil
 |d::r=>.cons (.tup (.cons (.int _) (.cons (.int _) (.cons (.str _) .nil)))) (zcI r)
theorem zeh{z:Addr}{H:Hp}{v:V}{d:LDr}(r:Rep z H v (ldD d)):∃a,v=.ref a/\a≠z/\H a=some (.tup [.int d.1,.int d.2.1,.str d.2.2]):=by
 cases r with
 |tup h B r=>
  cases r with
  |cons D r=>
   cases r with
   |cons F r=>
    cases r with
    |cons G r=>
     cases r;cases D;cases F;cases G;exact⟨_,J,B,h⟩
theorem zeL{z:Addr}{H:Hp}{xs:List V}{ds:List LDr}{i:Nat}(r:Reps z H xs (ds.map ldD))(hi:i<ds.length):Rep z H (xs.getD i .non) (ldD (ds.getD i ld0)):=by
 have:=r.get (i:=i) (by simpa using hi);simpa [hi] using this
noncomputable def LdOk(b:Bk)(ds:List LDr):Prop:=∀d∈ds,(0<=d.2.1/\d.2.1<b.length)/\Sm d.2.2
noncomputable def zan(ds:List LDr):Int:=match ds.getLast? with
 |some d=>d.2.1
 |none=>0
noncomputable def lastL(ds:List LDr):List LDr:=ds.drop (ds.length-1)
noncomputable def fitAt(x:Str)(i:Nat)(m:Str):Bool:=decide (V.str (cutS x (some (i:Int)) (some ((i:Int)+m.length)))=V.str m)
noncomputable def someL(b:Bk)(ds:List LDr):List Str:=zaC (b.getD (zan ds).toNat tg0).2++(lastL ds).map (·.2.2)
noncomputable def fitL(b:Bk)(ds:List LDr)(x:Str)(i:Nat):List Str:=(someL b ds).filter (fitAt x i)
theorem zgP(vs:List V):cutV vs (some (-1)) none=vs.drop (vs.length-1):=by
 unfold cutV;have e:HT.sIx vs.length 0 (some (-1))=vs.length-1:=by
  show (if (-1:Int)<0 then ((-1:Int)+(vs.length:Int)).toNat else min (-1:Int).toNat vs.length)=_;rw[if_pos (by decide)];omega
 rw[e,HT.sIx_none];rw[List.take_of_length_le];rw[List.length_drop];exact Nat.le_refl _
theorem zdc(so:List Str)(d:Str)(p:Str->Bool):∀n,n<=so.length->flatN (λi=>(if p (so.getD i d) then some (V.str (so.getD i d)) else none).toList) n=((so.take n).filter p).map V.str
 |0,_=>by simp[flatN]
 |n+1,h=>by
  have B:n<so.length:=h;simp only[flatN];rw[zdc so d p n (by omega),List.take_add_one,List.filter_append,List.map_append];congr 1;have e:so.getD n d=so[n]:=by simp[B]
  rw[e,List.getElem?_eq_getElem B];cases g:p so[n]<;>simp[g]
noncomputable def LDs(z:Addr)(H:Hp)(q:Addr)(ds:List LDr):Prop:=∃vs,H q=some (.lst vs)/\Reps z H vs (ds.map ldD)
theorem LDs.same{z:Addr}{H H':Hp}{q:Addr}{ds:List LDr}(h:LDs z H q ds)(s:Same H H'):LDs z H' q ds:=let ⟨vs,a,r⟩:=h;⟨vs,s _ _ a,r.mono s.x⟩
structure Wrp(G:Prop):Prop where
 out:G
theorem zeM{c A B G:Prop} [Decidable c] (h1:c->Wrp G->A) (h2:¬c->Wrp G->B) (g:G):if c then A else B:=by
 by_cases h:c
 .rw[if_pos h];exact h1 h ⟨g⟩
 .rw[if_neg h];exact h2 h ⟨g⟩
inductive zbV:List V->Hp->VK->XK->Prop where
 |mk {vs:List V} {H:Hp} {Q:VK} {E:XK} (z v b q ds x:_) (i:Nat) (c1:vs=[v,.ref q,.str x,.int i]) (c2:Rep z H v (bkD b)) (c3:BkOk b) (c4:LDs z H q ds) (c5:LdOk b ds) (c6:x.length<=20000) (c7:∀p (ys:List Str) H',Same H H'->H p=none->H' p=some (.lst (ys.map V.str))->ys.Perm (fitL b ds x i)->ys.Pairwise (λa c=>c.length<=a.length)->Q (.ref p) H'):zbV vs H Q E
theorem scFitting:zav ["book","doors","text","place","tongue","some"] ["book","doors","text","place"] (zag zcy):=⟨J,J,J,by decide +kernel,J,by decide +kernel,by decide +kernel⟩
theorem ndMPT:(["mark","place","text"]:List Str).Nodup:=by decide +kernel
theorem zhu{f:Addr}{fd:FuncData}(F:Fun K "_law_fitting" "_law_fitting" zcy f fd)(T:TxtB mg):FnOk P w K mg base CX0 1 f fd ["book","doors","text","place"] zbV:=by
 refine F.ok scFitting (λvs H Q E h=>?_) (λcdv A outer s H vs Q E aT h=>?_)
 .obtain⟨z,v,b,q,ds,x,i,rfl,_⟩:=h;rfl
 .obtain⟨z,v,b,q,ds,x,i,rfl,aU,aV,⟨vs,Y,ac⟩,au,bx,k⟩:=h;obtain⟨a,xs,rfl,bz,aW,bA,R⟩:=zb6 aU;obtain⟨bB,bC,aX,_⟩:=aV;have ae:=scFitting.nd;refine⟨_,zac (zap (i:=4) ae J (Or.inl J) zaf)
   (zac (zaY (zat (zbH aT.units0) (pv 1) (zaE zad) (zaz _)) (zai (zap (i:=4) ae J (Or.inl J) (zau ix_tup (zau ix_list (pv 1) (zbL zbb zaf) (λ_ _=>rfl)) zaf (λ_ _=>rfl)))) zaA)
   (zac (zap (i:=5) ae J (Or.inl J) (zaB zdj
     (zaZ (N':=["door"]) (js:=[none]) J J (zbc (zag zcy) (by decide +kernel)) trivial (zce (zau ix_tup (zau ix_tup (pv 0) (pv 4) (λ_ _=>rfl)) zaf (λ_ _=>rfl)))
      (λcl s H fp=>zaq (i:=0) ndD J (Or.inl J)) (λcl s H fp=>zbr) (λcl s H fp=>zau zbs (pv 0) zaf (λ_ _=>rfl)))
     (zaZ (N':=["door"]) (js:=[none]) J J (zbc (zag zcy) (by decide +kernel)) trivial (zbg (zaG zbM (pv 1) (zaJ (zbL zbb zaf)) zaW))
      (λcl s H fp=>zaq (i:=0) ndD J (Or.inl J)) (λcl s H fp=>zbr) (λcl s H fp=>zau zbs (pv 0) zaf (λ_ _=>rfl)))))
   (zai (zax (zkK (zez T.sorted T.len (zaZ (N':=["mark","place","text"]) (js:=[none,some 3,some 2]) J J (zbc (zag zcy) (by decide +kernel)) ⟨J,Or.inr (Or.inl J),J,J,Or.inr (Or.inl J),J,trivial⟩ (zbg (pv 5))
     (λcl s H fp=>zaq (i:=0) ndMPT J (Or.inl J)) (λcl s H fp=>zcj (zat zcg (zaG zbT (pv 2) (zaJ (pv 1)) (zaJ (zaB zaN (pv 1) (zao zam (by rfl) T.len b_len (zaa (pv 0) zad))))) (pv 0) (zaz _))) (λcl s H fp=>pv 0))) (zbL zbb zaf) (λσ H Q bD ⟨i,e,h⟩ hm=>⟨i,e,hm _ _ h⟩)))))),?_⟩
  dsimp only[cxOf,Cx.nox,Cx.wish];have bE:=za2;have Z:vs.length=ds.length:=by have:=ac.length;simpa using this
  refine⟨_,J,Nat.zero_le _,λl av=>?_⟩;have D:=Same.new (o:=.lst []) av;have bF:q≠l:=zae Y av;refine⟨q,l,vs,J,J,D _ _ Y,zab,_,J,?_⟩;generalize upd H l (.lst [])=H1 at D;obtain⟨B,af,aw⟩:∃B:Nat,zan ds=(B:Int)/\B<b.length:=by
   unfold zan;cases g:ds.getLast? with
   |none=>exact⟨0,J,by omega⟩
   |some d=>
    have:=(au d (List.mem_of_getLast? g)).1;exact⟨d.2.1.toNat,by show d.2.1=_;omega,by omega⟩
  refine zeM (G:=?G) (λag g=>?g1) (λag g=>?g2) ?g3
  case g1=>
   have hpos:0<ds.length:=by
    cases vs with
    |nil=>simp at ag
    |cons _ _=>simp at Z;omega
   have aY:ds.getLast?=some (ds.getD (ds.length-1) ld0):=by
    rw[List.getLast?_eq_getElem?];have:ds.length-1<ds.length:=by omega
    simp[this]
   have ah:(ds.getD (ds.length-1) ld0).2.1=(B:Int):=by
    rw[←af];unfold zan;rw[aY]
   obtain⟨ad,aZ,bG,a1⟩:=zeh ((zeL (ds:=ds) (i:=ds.length-1) ac (by omega)).mono D.x);have a2:atI vs (-1)=some (.ref ad):=by
    have a3:ixN vs.length (-1)=some (vs.length-1):=by
     unfold ixN;rw[if_neg (by decide),if_pos (by omega)];congr 1;omega
    unfold atI;rw[a3];show vs[vs.length-1]?=_;have h1:vs.length-1<vs.length:=by omega
    have h2:vs.getD (vs.length-1) .non=vs[vs.length-1]:=by simp[h1]
    rw[List.getElem?_eq_getElem h1,←h2,Z,aZ]
   refine⟨_,J,1,J,q,vs,-1,_,J,J,SqL.of (D _ _ Y),a2,ad,_,1,_,J,J,SqT.of a1,zaj (j:=1) J,?_⟩;show (tSeq _ _) _ [some (.ref a),some (.ref q),some (.str x),some (.int i),some (.int (ds.getD (ds.length-1) ld0).2.1),none] _;rw[ah];exact g.out
  case g2=>
   have a4:ds.length=0:=by
    cases vs with
    |nil=>simp at Z;omega
    |cons _ _=>simp at ag
   have ah:(some (V.int 0):Option V)=some (V.int (B:Int)):=by
    rw[←af];unfold zan;have:ds=[]:=List.eq_nil_of_length_eq_zero a4;rw[this];rfl
   show (tSeq _ _) _ [some (.ref a),some (.ref q),some (.str x),some (.int i),some (.int 0),none] _;rw[ah];exact g.out
  case g3=>
   obtain⟨c,d,ys,a5,bH,bI,a6,ai,aj,a7⟩:=za0 ((zaP (b:=b) (i:=B) R aw).mono D.x);have a8:xs[B]?=some (.ref c):=by
    have h1:B<xs.length:=by omega
    have h2:xs.getD B .non=xs[B]:=by simp[h1]
    rw[List.getElem?_eq_getElem h1,←h2,a5]
   have ax:=aX _ (getD_mem tg0 aw);have aj:ys.length=(b.getD B tg0).2.length:=aj;have ay:b.getD (zan ds).toNat tg0=b.getD B tg0:=by rw[af];rfl
   have az:fitL b ds x i=(zaC (b.getD B tg0).2++(lastL ds).map (·.2.2)).filter (fitAt x i):=by unfold fitL someL;rw[ay]
   rw[az] at k;clear az ay;generalize bJ:b.getD B tg0=tt at *;have bK:=ax.2.1;refine⟨_,J,_,J,a,xs,B,_,J,J,SqT.of (D _ _ aW),zaj a8,c,_,1,_,J,J,SqT.of a6,zaj (j:=1) J,d,J,⟨_,SqT.of ai⟩,λak aA=>?_⟩;have aB:d≠ak:=zae ai aA;refine zcS (λj=>.str (tt.2.getD j dr0).1) (λσ=>∃v,σ=[v]) ⟨none,J⟩ aA (by omega) (zcu (xs:=ys) (by rw[zak aB];exact ai) aB) (λj σ H2 C aC ⟨v,I⟩ a9 J0=>?_) (λσ H2 al ba=>?_)
   .subst I;obtain⟨am,ao,bb,ap⟩:=zbw ((zbd (ds:=tt.2) (i:=j) a7 (by omega)).mono a9.x);rw[ao];exact⟨_,J,am,_,0,_,J,J,SqT.of ap,zaj (j:=0) J,J0 _ H2 ⟨_,J⟩ (Same.refl _)⟩
   have bc:H2 ak=some (.lst ((zaC tt.2).map V.str)):=by
    rw[ba,aj];unfold zaC;rw[List.map_map];exact congrArg (λx=>some (HO.lst x)) (zck tt.2 dr0 λd=>V.str d.1)
   have bd:=al _ _ (D _ _ Y);refine⟨_,J,1,J,-1,J,q,vs,J,SqL.of bd,λO be=>⟨O,J,⟨_,SqL.of zab⟩,λaq aD=>?_⟩⟩;have aE:=Same.new (o:=.lst (cutV vs (some (-1)) none)) be;have aF:upd H2 O (.lst (cutV vs (some (-1)) none)) O=some (.lst (vs.drop (vs.length-1))):=by rw[zab,zgP]
   have aG:O≠aq:=zae aF aD;have aH:Reps z (upd H2 O (.lst (cutV vs (some (-1)) none))) (vs.drop (vs.length-1)) ((lastL ds).map ldD):=by
    unfold lastL;rw[List.map_drop,Z];exact(ac.mono ((D.trans al).trans aE).x).drop _
   have bf:(vs.drop (vs.length-1)).length=(lastL ds).length:=by have:=aH.length;simpa using this
   have bL:(lastL ds).length<=1:=by unfold lastL;rw[List.length_drop];omega
   refine zcS (λj=>.str ((lastL ds).getD j ld0).2.2) (λσ=>∃v,σ=[v]) ⟨none,J⟩ aD (by omega) (zbe (xs:=vs.drop (vs.length-1)) (by rw[zak aG];exact aF) aG) (λj σ U C aC ⟨v,I⟩ bg J0=>?_) (λσ U bh bi=>?_)
   .subst I;obtain⟨am,ao,bb,ap⟩:=zeh ((zeL (ds:=lastL ds) (i:=j) aH (by omega)).mono bg.x);rw[ao];exact⟨_,J,am,_,2,_,J,J,SqT.of ap,zaj (j:=2) J,J0 _ U ⟨_,J⟩ (Same.refl _)⟩
   have bj:U aq=some (.lst (((lastL ds).map (·.2.2)).map V.str)):=by
    rw[bi,bf,List.map_map];exact congrArg (λx=>some (HO.lst x)) (zck (lastL ds) ld0 λd=>V.str d.2.2)
   have aI:=aE.trans bh;have bk:((zaC tt.2).map V.str).length<=6:=by unfold zaC;simp;omega
   have bl:(((lastL ds).map (·.2.2)).map V.str).length<=1:=by simp;omega
   refine⟨ak,aq,_,_,J,J,aI _ _ bc,bj,by omega,λpS bm=>?_⟩;rw[←List.map_append];have bn:=Same.new (o:=.lst ((zaC tt.2++(lastL ds).map (·.2.2)).map V.str)) bm;have aa:upd U pS (.lst ((zaC tt.2++(lastL ds).map (·.2.2)).map V.str)) pS=some (.lst ((zaC tt.2++(lastL ds).map (·.2.2)).map V.str)):=zab;have ar:=((D.trans al).trans aI).trans bn;generalize upd U pS (.lst ((zaC tt.2++(lastL ds).map (·.2.2)).map V.str))=bM at ar aa;have aJ:∀m∈zaC tt.2++(lastL ds).map (·.2.2),Sm m:=λm hm=>by
    rcases List.mem_append.mp hm with hm|hm
    .obtain⟨dd,as,rfl⟩:=List.mem_map.mp hm;have g:=za3 (ax.2.2 dd as).1;exact⟨g.2,g.1⟩
    .obtain⟨dd,as,rfl⟩:=List.mem_map.mp hm;exact(au dd (List.mem_of_mem_drop as)).2
   have bo:(zaC tt.2++(lastL ds).map (·.2.2)).length<=7:=by simp at bk bl ⊢;omega
   generalize zaC tt.2++(lastL ds).map (·.2.2)=so at *;have bp:(so.map V.str).length=so.length:=List.length_map ..;refine⟨_,J,pS,J,⟨_,SqL.of aa⟩,λaK aL=>?_⟩;have aM:pS≠aK:=zae aa aL;refine zbf (λj=>if fitAt x i (so.getD j ⟨#[]⟩) then some (.str (so.getD j ⟨#[]⟩)) else none) (λσ=>∃v,σ=[v,some (.int i),some (.str x)]) ⟨none,J⟩ aL (by omega) (zbe (xs:=so.map V.str) (by rw[zak aM];exact aa) aM) (λj σ aN C aC ⟨v,I⟩ bN J0=>?_) (λσ aN aO aP=>?_)
   .subst I;have aQ:j<so.length:=by omega
    have bq:(so.map V.str).getD j .non=.str (so.getD j ⟨#[]⟩):=by simp[aQ]
    have g:=aJ _ (getD_mem ⟨#[]⟩ aQ);rw[bq];have ab:=J0 [some (.str (so.getD j ⟨#[]⟩)),some (.int i),some (.str x)] aN ⟨_,J⟩ (Same.refl _);have br:x.length<=sizeLine:=by have:(20000:Nat)<=sizeLine:=(by rw[sizeLine_eq];decide);omega
    refine⟨_,J,_,J,i,J,_,J,_,J,_,J,by have:=g.2;omega,i,_,J,J,_,J,x,J,br,_,J,J,_,J,?_⟩;show if fitAt x i (so.getD j ⟨#[]⟩)=true then _ else _;cases g2:fitAt x i (so.getD j ⟨#[]⟩) with
    |true=>
     rw[g2,if_pos rfl] at ab;exact iteT ⟨_,J,ab⟩
    |false=>
     rw[g2,if_neg (by simp)] at ab;exact iteF ab
   rw[bp,zdc so ⟨#[]⟩ (fitAt x i) _ (Nat.le_refl _),List.take_length] at aP;have bO:(so.filter (fitAt x i)).length<=7:=Nat.le_trans (List.length_filter_le _ _) bo;refine⟨aK,so.filter (fitAt x i),J,SqL.of aP,by omega,λy bs=>by have:=(aJ y (List.mem_filter.mp bs).1).2;omega,λpT W bt bu pw=>?_⟩;have aR:=Same.new (o:=.lst (W.map V.str)) bt;refine⟨1,J,pT,W.map V.str,J,J,SqL.of zab,λbv aS=>?_⟩;have bw:=Same.new (o:=.lst (W.map V.str).reverse) aS;refine k bv W.reverse _ ((ar.trans aO).trans (aR.trans bw)) (((ar.trans aO).trans aR).free aS) (by rw[zab,List.map_reverse]) ((List.reverse_perm W).trans bu) ?_;rw[List.pairwise_reverse];exact pw.imp λh=>by simpa using h
noncomputable abbrev Stp:=Int×Int×Str×Int×Int
noncomputable def stV(s:Stp):List V:=[.int s.1,.int s.2.1,.str s.2.2.1,.int s.2.2.2.1,.int s.2.2.2.2]
noncomputable def stD(s:Stp):D:=.tup [.int s.1,.int s.2.1,.str s.2.2.1,.int s.2.2.2.1,.int s.2.2.2.2]
noncomputable def stepL(b:Bk)(ds:List LDr)(x:Str)(i:Nat)(m:Str):Stp×List LDr:=
 if (b.getD (zan ds).toNat tg0).1≠Str.ofString ""/\(⟨#[x.cps.getD i 0]⟩:Str)=(b.getD (zan ds).toNat tg0).1 then
  (if i+1=x.length then (((i:Int),1,Str.ofString "cut",zan ds,(ds.length:Int)),ds) else (((i:Int),2,Str.ofString "escape",zan ds,(ds.length:Int)),ds))
 else if m=Str.ofString "" then (((i:Int),1,Str.ofString "sign",zan ds,(ds.length:Int)),ds)
 else if ds≠[]/\m=(ds.getD (ds.length-1) ld0).2.2 then (((i:Int),(m.length:Int),Str.ofString "close",zan ds.dropLast,(ds.length:Int)-1),ds.dropLast)
 else match (b.getD (zan ds).toNat tg0).2.filter (λd=>d.1==m) with
  |d::_=>(((i:Int),(m.length:Int),Str.ofString "open",zan ds,(ds.length:Int)),ds++[((i:Int),d.2.1,d.2.2)])
  |[]=>(((i:Int),0,Str.ofString "",0,0),ds)
theorem zeN{z:Addr}{H:Hp}{q:Addr}{ds:List LDr}{vs:List V}(B:Reps z H vs (ds.map ldD))(hpos:0<ds.length):∃ad,atI vs (-1)=some (.ref ad)/\H ad=some (.tup [.int (ds.getD (ds.length-1) ld0).1,.int (ds.getD (ds.length-1) ld0).2.1,.str (ds.getD (ds.length-1) ld0).2.2]):=by
 have D:vs.length=ds.length:=by have:=B.length;simpa using this
 obtain⟨ad,F,J0,G⟩:=zeh (zeL (ds:=ds) (i:=ds.length-1) B (by omega));refine⟨ad,?_,G⟩;have I:ixN vs.length (-1)=some (vs.length-1):=by
  unfold ixN;rw[if_neg (by decide),if_pos (by omega)];congr 1;omega
 unfold atI;rw[I];show vs[vs.length-1]?=_;have h1:vs.length-1<vs.length:=by omega
 have h2:vs.getD (vs.length-1) .non=vs[vs.length-1]:=by simp[h1]
 rw[List.getElem?_eq_getElem h1,←h2,D,F]
theorem zcJ{ds:List LDr}(h:0<ds.length):zan ds=(ds.getD (ds.length-1) ld0).2.1:=by
 have B:ds.getLast?=some (ds.getD (ds.length-1) ld0):=by
  rw[List.getLast?_eq_getElem?];have:ds.length-1<ds.length:=by omega
  simp[this]
 unfold zan;rw[B]
theorem za5{b:Bk}{ds:List LDr}(D:LdOk b ds)(F:1<=b.length):∃B:Nat,zan ds=(B:Int)/\B<b.length:=by
 unfold zan;cases g:ds.getLast? with
 |none=>exact⟨0,J,by omega⟩
 |some d=>
  have:=(D d (List.mem_of_getLast? g)).1;exact⟨d.2.1.toNat,by show d.2.1=_;omega,by omega⟩
mutual
theorem Rep.butL{z q:Addr}{H H':Hp}{l:List V}(B:H q=some (.lst l))(s:SameX q H H'):∀ {v:V}{d:D},Rep z H v d->NoL d->Rep z H' v d
 |_,_,.non,_=>.non
 |_,_,.bl b,_=>.bl b
 |_,_,.int i,_=>.int i
 |_,_,.str x h,_=>.str x h
 |_,_,.tup h F r,.tup t=>.tup (s _ _ (zar h B (by intro q;cases q)) h) F (Reps.butL B s r t)
theorem Reps.butL{z q:Addr}{H H':Hp}{l:List V}(B:H q=some (.lst l))(s:SameX q H H'):∀ {vs:List V}{ds:List D},Reps z H vs ds->NoLs ds->Reps z H' vs ds
 |_,_,.nil,_=>.nil
 |_,_,.cons h t,.cons h' t'=>.cons (Rep.butL B s h h') (Reps.butL B s t t')
end
theorem zei{D:Type}(ds:List D)(B:D)(p:D->Bool)(g:Nat->V):∀n,n<=ds.length->((ds.take n).filter p=[]/\flatN (λi=>(if p (ds.getD i B) then some (g i) else none).toList) n=[]) ∨
  ∃d r j,(ds.take n).filter p=d::r/\j<n/\ds.getD j B=d/\(flatN (λi=>(if p (ds.getD i B) then some (g i) else none).toList) n)[0]?=some (g j)
 |0,_=>.inl ⟨by simp,J⟩
 |n+1,h=>by
  have G:n<ds.length:=h;have e:ds.getD n B=ds[n]:=by simp[G]
  have I:(ds.take (n+1)).filter p=(ds.take n).filter p++(if p ds[n] then [ds[n]] else []):=by
   rw[List.take_add_one,List.filter_append,List.getElem?_eq_getElem G];cases F:p ds[n]<;>simp[F]
  have J0:flatN (λi=>(if p (ds.getD i B) then some (g i) else none).toList) (n+1)=flatN (λi=>(if p (ds.getD i B) then some (g i) else none).toList) n++(if p ds[n] then [g n] else []):=by
   simp only[flatN];rw[e];cases F:p ds[n]<;>rfl
  rcases zei ds B p g n (by omega) with⟨h1,h2⟩|⟨d,r,j,h1,h2,U,O⟩
  .rw[I,J0,h1,h2];cases F:p ds[n] with
   |false=>exact .inl ⟨J,J⟩
   |true=>exact .inr ⟨ds[n],[],n,J,by omega,e,J⟩
  .refine .inr ⟨d,r++(if p ds[n] then [ds[n]] else []),j,by rw[I,h1];rfl,by omega,U,?_⟩;rw[J0,List.getElem?_append_left]
   .exact O
   .exact(List.getElem?_eq_some_iff.mp O).1
theorem Reps.dropLast{z:Addr}{H:Hp}{vs:List V}{ds:List D}(r:Reps z H vs ds):Reps z H vs.dropLast ds.dropLast:=by
 rw[List.dropLast_eq_take,List.dropLast_eq_take,r.length];exact r.take _
inductive zej:List V->Hp->VK->XK->Prop where
 |mk {vs:List V} {H:Hp} {Q:VK} {E:XK} (z v b q ds x m:_) (i:Nat) (c1:vs=[v,.ref q,.str x,.int i,.str m]) (c2:Bag z H) (c3:q≠z) (c4:Rep z H v (bkD b)) (c5:BkOk b) (c6:LDs z H q ds) (c7:LdOk b ds) (c8:i<x.length) (c9:x.length<=20000) (c10:ds.length<=20000) (c11:(m=Str.ofString ""∨m∈someL b ds)) (c12:∀p H',SameX q H H'->H p=none->H' p=some (.tup (stV (stepL b ds x i m).1))->LDs z H' q (stepL b ds x i m).2->Q (.ref p) H'):zej vs H Q E
theorem scStepL:zav ["book","doors","text","place","mark","tongue","depth","cut","around","door"] ["book","doors","text","place","mark"] (zag lStep):=⟨J,J,J,by decide +kernel,J,by decide +kernel,by decide +kernel⟩
theorem ndOM2:(["one","mark"]:List Str).Nodup:=by decide +kernel
theorem zj1{f:Addr}{fd:FuncData}(F:Fun K "_law_step" "_law_step" lStep f fd)(T:TxtB mg):FnOk P w K mg base CX0 1 f fd ["book","doors","text","place","mark"] zej:=by
 refine F.ok scStepL (λvs H Q E h=>?_) (λcdv A outer s H vs Q E aD h=>?_)
 .obtain⟨z,v,b,q,ds,x,m,i,rfl,_⟩:=h;rfl
 .obtain⟨z,v,b,q,ds,x,m,i,rfl,br,bV,bs,bt,⟨vs,J0,W⟩,aE,hi,bW,bX,bu,k⟩:=h;obtain⟨a,xs,rfl,bY,aq,bZ,R⟩:=zb6 bs;obtain⟨a2,b0,bv,_⟩:=bt;have ab:=scStepL.nd;refine⟨_,zac (zap (i:=5) ab J (Or.inl J) zaf)
   (zac (zaY (zat (zbH aD.units0) (pv 1) (zaE zad) (zaz _)) (zai (zap (i:=5) ab J (Or.inl J) (zau ix_tup (zau ix_list (pv 1) (zbL zbb zaf) (λ_ _=>rfl)) zaf (λ_ _=>rfl)))) zaA)
   (zac (zap (i:=6) ab J (Or.inl J) (zao zaD (by rfl) T.len b_len (zaa (pv 1) zad)))
   (zac (zaY (PW.pt (zcF (zat zfg (zau ix_tup (zau ix_tup (pv 0) (pv 5) (λ_ _=>rfl)) zaf (λ_ _=>rfl)) zay (zaz _)) (zbZ (zat zcg (zau zgv (pv 2) (pv 3) (λ_ _=>rfl)) (zau ix_tup (zau ix_tup (pv 0) (pv 5) (λ_ _=>rfl)) zaf (λ_ _=>rfl)) (zaz _)))))
    (zac (zap (i:=7) ab J (Or.inl J) (zbk zhT (by rfl) T.int zmC (zaa (zfW zcg (zaB zaN (pv 3) zaf) (zao zam (by rfl) T.len b_len (zaa (pv 2) zad)) (zaz _)) zad)))
    (zai (zax (za9 (zaa (pv 3) (pa_B (zaB zcf zaf (pv 7)) (zaa (zau ix_list (zaE (pa_K zay (pa_K zay zad))) (pv 7) (λ_ _=>rfl)) (zaa (pv 5) (zaa (pv 6) zad))))))))) zaA)
   (zac (zaY (zat zcg (pv 4) zay (zaz _)) (zai (zax (za9 (zaa (pv 3) (pa_K zaf (pa_K zay (zaa (pv 5) (zaa (pv 6) zad)))))))) zaA)
   (zac (zaY (PW.pt (zcF (zat (zbH aD.units0) (pv 1) (zaE zad) (zaz _)) (zbZ (zat zcg (pv 4) (zau ix_tup (zau ix_list (pv 1) (zbL zbb zaf) (λ_ _=>rfl)) zaf (λ_ _=>rfl)) (zaz _)))))
    (zac (zaU (zfo PySem.F.plainAttrs_list PySem.F.slot_list_pop PySem.F.type_list_pop zgw (pv 1)))
    (zac (zap (i:=8) ab J (Or.inl J) zaf)
    (zac (zaY (zat (zbH aD.units0) (pv 1) (zaE zad) (zaz _)) (zai (zap (i:=8) ab J (Or.inl J) (zau ix_tup (zau ix_list (pv 1) (zbL zbb zaf) (λ_ _=>rfl)) zaf (λ_ _=>rfl)))) zaA)
    (zai (zax (za9 (zaa (pv 3) (zaa (zao zam (by rfl) T.len b_len (zaa (pv 4) zad)) (pa_K zay (zaa (pv 8) (pa_B (zaB zcf (pv 6) zaf) zad)))))))))))  zaA)
   (zac (zap (i:=9) ab J (Or.inl J) (zau ix_list (zaZ (N':=["one","mark"]) (js:=[none,some 4]) J J (zbc (zag lStep) (by decide +kernel)) ⟨J,Or.inr (Or.inl J),J,trivial⟩ (zce (zau ix_tup (zau ix_tup (pv 0) (pv 5) (λ_ _=>rfl)) zaf (λ_ _=>rfl)))
     (λcl s H fp=>zaq (i:=0) ndOM2 J (Or.inl J)) (λcl s H fp=>zcj (zat zcg (zau zbs (pv 0) zaf (λ_ _=>rfl)) (pv 1) (zaz _))) (λcl s H fp=>pv 0)) zaf (λ_ _=>rfl)))
   (zac (zaU (zbN PySem.F.plainAttrs_list PySem.F.slot_list_append PySem.F.type_list_append zaL (pv 1) (pa_T (za9 (zaa (pv 3) (zaa (zau ix_tup (pv 9) zaf (λ_ _=>rfl)) (zaa (zau ix_tup (pv 9) zaf (λ_ _=>rfl)) zad)))) zad)))
   (zai (zax (za9 (zaa (pv 3) (zaa (zao zam (by rfl) T.len b_len (zaa (pv 4) zad)) (pa_K zay (zaa (pv 5) (zaa (pv 6) zad))))))))))))))),?_⟩
  dsimp only[cxOf,Cx.nox,Cx.wish];have b1:=za2;have b2:(100000:Nat)<=sizeLine:=by rw[sizeLine_eq];decide
  have Y:vs.length=ds.length:=by have:=W.length;simpa using this
  obtain⟨I,ar,a3⟩:=za5 aE a2;refine⟨_,J,Nat.zero_le _,λl bw=>?_⟩;have B:=Same.new (o:=.lst []) bw;refine⟨q,l,vs,J,J,B _ _ J0,zab,_,J,?_⟩;generalize upd H l (.lst [])=H1 at B;have a4:(zan ds).toNat=I:=by rw[ar];rfl
  have aF:=bv _ (getD_mem tg0 a3);obtain⟨c,d,ys,bx,b3,b4,as,ah,aG,a5⟩:=za0 ((zaP (b:=b) (i:=I) R a3).mono B.x);have au:xs[I]?=some (.ref c):=by
   have h1:I<xs.length:=by omega
   have h2:xs.getD I .non=xs[I]:=by simp[h1]
   rw[List.getElem?_eq_getElem h1,←h2,bx]
  have aG:ys.length=(b.getD I tg0).2.length:=aG;have a6:m=Str.ofString ""∨m∈zaC (b.getD I tg0).2∨m∈(lastL ds).map (·.2.2):=by
   rcases bu with h|h
   .exact .inl h
   .unfold someL at h;rw[a4] at h;exact .inr (List.mem_append.mp h)
  unfold stepL at k;rw[a4,ar] at k;generalize b5:b.getD I tg0=tt at *;have b6:=aF.2.1;have a7:x.cps.toList[i]?=some (x.cps.getD i 0):=by
   have:i<x.cps.size:=hi;simp[Array.getD,this]
  have b7:m.length<=1000:=by
   rcases a6 with rfl|h|h
   .decide +kernel
   .obtain⟨dd,U,rfl⟩:=List.mem_map.mp h;have:=(za3 (aF.2.2 dd U).1).1;omega
   .obtain⟨dd,U,rfl⟩:=List.mem_map.mp h;have:=(aE dd (List.mem_of_mem_drop U)).2.2;omega
  refine zeM (G:=?G) (λaH g=>?g1) (λaH g=>?g2) ?g3
  case g1=>
   have hpos:0<ds.length:=by
    cases vs with
    |nil=>simp at aH
    |cons _ _=>simp at Y;omega
   obtain⟨ad,ai,aj⟩:=zeN (q:=q) (W.mono B.x) hpos;refine⟨_,J,1,J,q,vs,-1,_,J,J,SqL.of (B _ _ J0),ai,ad,_,1,_,J,J,SqT.of aj,zaj (j:=1) J,?_⟩;have aI:=zcJ hpos;show (tSeq _ _) _ [some (.ref a),some (.ref q),some (.str x),some (.int i),some (.str m),some (.int (ds.getD (ds.length-1) ld0).2.1),none,none,none,none] _;rw[←aI,ar];exact g.out
  case g2=>
   have bz:ds.length=0:=by
    cases vs with
    |nil=>simp at Y;omega
    |cons _ _=>simp at aH
   have aI:(some (V.int 0):Option V)=some (V.int (I:Int)):=by
    rw[←ar];unfold zan;have:ds=[]:=List.eq_nil_of_length_eq_zero bz;rw[this];rfl
   show (tSeq _ _) _ [some (.ref a),some (.ref q),some (.str x),some (.int i),some (.str m),some (.int 0),none,none,none,none] _;rw[aI];exact g.out
  case g3=>
   refine⟨_,J,q,vs,J,.inl (SqL.of (B _ _ J0)),?_⟩;refine⟨_,J,_,J,a,xs,I,_,J,J,SqT.of (B _ _ aq),zaj au,c,_,0,_,J,J,SqT.of as,zaj (j:=0) J,J,_,J,?_⟩;by_cases ak:tt.1≠Str.ofString ""/\(⟨#[x.cps.getD i 0]⟩:Str)=tt.1
   .rw[if_pos ak] at k;have bA:(!decide (V.str tt.1=V.str (Str.ofString "")))=true:=by
     have:¬(V.str tt.1=V.str (Str.ofString "")):=λq=>ak.1 (by injection q);rw[decide_eq_false this];rfl
    rw[bA];refine iteT ⟨_,J,_,J,x,i,_,J,J,by omega,zaj a7,_,J,_,J,a,xs,I,_,J,J,SqT.of (B _ _ aq),zaj au,c,_,0,_,J,J,SqT.of as,zaj (j:=0) J,J,_,J,?_⟩;rw[ak.2,decide_eq_true rfl];refine iteT ⟨_,J,(i:Int),1,J,J,_,J,x,J,by omega,J,.inr ⟨_,J,?_⟩⟩;by_cases aJ:i+1=x.length
    .rw[if_pos aJ] at k;have aK:decide (V.int ((i:Int)+1)=V.int (x.length:Int))=true:=by
      have:((i:Int)+1)=(x.length:Int):=by omega
      rw[this];simp
     rw[aK];refine⟨_,J,_,J,2,1,J,J,by show (2:Nat)<=_;omega,λac ae=>⟨_,J,ac,_,1,_,J,J,SqL.of zab,zaj (j:=1) J,_,J,_,J,by show (5:Nat)<=_;omega,λp np=>?_⟩⟩;have D:=(Same.new (o:=.lst [.str (Str.ofString "escape"),.str (Str.ofString "cut")]) ae);have O:=D.trans (Same.new (o:=.tup [.int i,.int (2-1),.str (Str.ofString "cut"),.int I,.int vs.length]) np);refine k p _ (B.trans O).x ((B.trans D).free np) ?_ ⟨vs,(B.trans O) _ _ J0,W.mono (B.trans O).x⟩;rw[zab,Y];rfl
    .rw[if_neg aJ] at k;have aK:decide (V.int ((i:Int)+1)=V.int (x.length:Int))=false:=by
      have:¬(V.int ((i:Int)+1)=V.int (x.length:Int)):=λq=>aJ (by injection q with q;omega);exact decide_eq_false this
     rw[aK];refine⟨_,J,_,J,2,0,J,J,by show (2:Nat)<=_;omega,λac ae=>⟨_,J,ac,_,0,_,J,J,SqL.of zab,zaj (j:=0) J,_,J,_,J,by show (5:Nat)<=_;omega,λp np=>?_⟩⟩;have D:=(Same.new (o:=.lst [.str (Str.ofString "escape"),.str (Str.ofString "cut")]) ae);have O:=D.trans (Same.new (o:=.tup [.int i,.int (2-0),.str (Str.ofString "escape"),.int I,.int vs.length]) np);refine k p _ (B.trans O).x ((B.trans D).free np) ?_ ⟨vs,(B.trans O) _ _ J0,W.mono (B.trans O).x⟩;rw[zab,Y];rfl
   .rw[if_neg ak] at k;refine zgD (λa8 g=>?_) ?_
    .refine⟨_,J,_,J,x,i,_,J,J,by omega,zaj a7,_,J,_,J,a,xs,I,_,J,J,SqT.of (B _ _ aq),zaj au,c,_,0,_,J,J,SqT.of as,zaj (j:=0) J,J,_,J,?_⟩;have av:decide (V.str (⟨#[x.cps.getD i 0]⟩:Str)=V.str tt.1)=false:=by
      have:¬(V.str (⟨#[x.cps.getD i 0]⟩:Str)=V.str tt.1):=λq=>ak ⟨λbB=>by rw[bB] at a8;simp at a8,by injection q⟩;exact decide_eq_false this
     rw[av];exact g.out
    .refine iteF ⟨_,J,J,_,J,?_⟩;by_cases al:m=Str.ofString ""
     .rw[if_pos al] at k;rw[al,decide_eq_true rfl];refine iteT ⟨_,J,_,J,_,J,by show (5:Nat)<=_;omega,λp np=>?_⟩;have O:=Same.new (o:=.tup [.int i,.int 1,.str (Str.ofString "sign"),.int I,.int vs.length]) np;refine k p _ (B.trans O).x (B.free np) ?_ ⟨vs,(B.trans O) _ _ J0,W.mono (B.trans O).x⟩;rw[zab,Y];rfl
     rw[if_neg al] at k;have bC:decide (V.str m=V.str (Str.ofString ""))=false:=by
      have:¬(V.str m=V.str (Str.ofString "")):=λq=>al (by injection q);exact decide_eq_false this
     rw[bC];refine iteF ⟨_,J,Nat.zero_le _,λac ae=>?_⟩;have D:=B.trans (Same.new (o:=.lst []) ae);have aa:=Same.new (o:=.lst []) ae;refine⟨q,ac,vs,J,J,D _ _ J0,zab,_,J,?_⟩;have bD:∀aw o,H1 aw=some o->upd H1 ac (.lst []) aw=some o:=λaw o e=>aa aw o e;generalize upd H1 ac (.lst [])=H2 at D aa bD;by_cases af:ds≠[]/\m=(ds.getD (ds.length-1) ld0).2.2
     .rw[if_pos af] at k;have hpos:0<ds.length:=List.length_pos_iff.mpr af.1;have bE:(!vs.isEmpty)=true:=by
       cases vs with
       |nil=>simp at Y;omega
       |cons _ _=>rfl
      rw[bE];obtain⟨ad,ai,aj⟩:=zeN (q:=q) (W.mono D.x) hpos;refine iteT ⟨_,J,_,J,1,J,q,vs,-1,_,J,J,SqL.of (D _ _ J0),ai,ad,_,2,_,J,J,SqT.of aj,zaj (j:=2) J,J,_,J,?_⟩;rw[←af.2,decide_eq_true rfl];refine iteT ⟨_,J,.inl ⟨J,_,SqL.of (D _ _ J0)⟩,q,vs,_,J,J,D _ _ J0,zkM (by omega),?_⟩;have am:upd H2 q (.lst vs.dropLast) q=some (.lst vs.dropLast):=zab;have a9:Reps z (upd H2 q (.lst vs.dropLast)) vs.dropLast (ds.dropLast.map ldD):=by
       rw[List.map_dropLast];exact Reps.updL (D _ _ J0) (W.mono D.x).dropLast (by rw[←List.map_dropLast];exact zcI _)
      have ba:SameX q H (upd H2 q (.lst vs.dropLast)):=D.x.upd;generalize upd H2 q (.lst vs.dropLast)=bb at am a9 ba;refine⟨_,J,Nat.zero_le _,λaL bF=>?_⟩;have ax:=Same.new (o:=.lst []) bF;refine⟨q,aL,vs.dropLast,J,J,ax _ _ am,zab,_,J,?_⟩;have ay:=ax _ _ am;have aM:=a9.mono ax.x (z:=z);have aN:SameX q H (upd bb aL (.lst [])):=ba.trans ax.x;generalize upd bb aL (.lst [])=b8 at ay aM aN;obtain⟨bc,aO,_⟩:=za5 (b:=b) (ds:=ds.dropLast) (λd ah=>aE d (List.dropLast_subset _ ah)) a2;rw[aO] at k;have bd:vs.dropLast.length=ds.dropLast.length:=by simp;omega
      have bG:(!vs.dropLast.isEmpty)=true->0<ds.dropLast.length:=λZ=>by
       rw[←bd];cases hv2:vs.dropLast with
       |nil=>rw[hv2] at Z;simp at Z
       |cons _ _=>simp
      have bH:¬(!vs.dropLast.isEmpty)=true->ds.dropLast.length=0:=λZ=>by
       rw[←bd];cases hv2:vs.dropLast with
       |nil=>rfl
       |cons _ _=>rw[hv2] at Z;simp at Z
      refine zeM (G:=?G2) (λZ g=>?h1) (λZ g=>?h2) ?h3
      case h1=>
       have be:=bG Z;obtain⟨bI,bJ,bK⟩:=zeN (q:=q) aM be;refine⟨_,J,1,J,q,_,-1,_,J,J,SqL.of ay,bJ,bI,_,1,_,J,J,SqT.of bK,zaj (j:=1) J,?_⟩;have aP:=zcJ be;rw[←aP,aO];exact g.out
      case h2=>
       have bL:=bH Z;have aP:(some (V.int 0):Option V)=some (V.int (bc:Int)):=by
        rw[←aO];unfold zan;have:ds.dropLast=[]:=List.eq_nil_of_length_eq_zero bL;rw[this];rfl
       rw[aP];exact g.out
      case h3=>
       refine⟨_,J,_,J,m,J,by omega,_,J,_,J,_,_,J,J,by show (5:Nat)<=_;omega,λp np=>?_⟩;have aQ:H p=none:=by
        cases e:H p with
        |none=>rfl
        |some o=>
         have aR:p≠q:=(zae ay np).symm;rw[aN p o aR e] at np;cases np
       have aS:=Same.new (o:=.tup [.int i,.int m.length,.str (Str.ofString "close"),.int bc,.int ((vs.length:Int)-1)]) np;refine k p _ (aN.trans aS.x) aQ ?_ ⟨_,aS _ _ ay,aM.mono aS.x⟩;rw[zab,Y];rfl
     .rw[if_neg af] at k;refine zgD (λaT g=>?_) ?_
      .have hpos:0<ds.length:=by
        cases vs with
        |nil=>simp at aT
        |cons _ _=>simp at Y;omega
       obtain⟨ad,ai,aj⟩:=zeN (q:=q) (W.mono D.x) hpos;refine⟨_,J,_,J,1,J,q,vs,-1,_,J,J,SqL.of (D _ _ J0),ai,ad,_,2,_,J,J,SqT.of aj,zaj (j:=2) J,J,_,J,?_⟩;have bM:decide (V.str m=V.str (ds.getD (ds.length-1) ld0).2.2)=false:=by
        have:¬(V.str m=V.str (ds.getD (ds.length-1) ld0).2.2):=λq=>af ⟨List.length_pos_iff.mp hpos,by injection q⟩;exact decide_eq_false this
       rw[bM];exact g.out
      .have bN:m∈zaC tt.2:=by
        rcases a6 with h|h|h
        .exact absurd h al
        .exact h
        .exfalso;obtain⟨dd,U,az⟩:=List.mem_map.mp h;unfold lastL at U;have hpos:0<ds.length:=by
          cases ds with
          |nil=>simp at U
          |cons _ _=>simp
         have:ds.drop (ds.length-1)=[ds.getD (ds.length-1) ld0]:=by
          have bf:ds.length-1<ds.length:=by omega
          rw[List.drop_eq_getElem_cons bf];have:ds.length-1+1=ds.length:=by omega
          rw[this,List.drop_length];simp[bf]
         rw[this] at U;have:dd=ds.getD (ds.length-1) ld0:=by simpa using U
         rw[this] at az;exact af ⟨List.length_pos_iff.mp hpos,az.symm⟩
       refine iteF ?_;refine⟨_,J,_,J,a,xs,I,_,J,J,SqT.of (D _ _ aq),zaj au,c,_,1,_,J,J,SqT.of (aa _ _ as),zaj (j:=1) J,d,J,⟨_,SqT.of (aa _ _ ah)⟩,λbg bh=>?_⟩;have bi:d≠bg:=zae (aa _ _ ah) bh;refine zbf (λj=>if (tt.2.getD j dr0).1==m then some (ys.getD j .non) else none) (λσ=>∃v,σ=[v,some (.str m)]) ⟨none,J⟩ bh (by omega) (zcu (xs:=ys) (by rw[zak bi];exact aa _ _ ah) bi) (λj σ ao C b9 ⟨v,aT⟩ bO bP=>?_) (λσ ao bj bk=>?_)
       .subst aT;obtain⟨bl,av,ca,am⟩:=zbw ((zbd (ds:=tt.2) (i:=j) a5 (by omega)).mono (aa.trans bO).x);have aA:=bP [some (.ref bl),some (.str m)] ao ⟨_,J⟩ (Same.refl _);rw[av];refine⟨_,J,bl,_,0,_,J,J,SqT.of am,zaj (j:=0) J,_,J,J,_,J,?_⟩;rw[zfU];show if ((tt.2.getD j dr0).1==m)=true then _ else _;cases g:(tt.2.getD j dr0).1==m with
        |true=>
         rw[g,if_pos J,av] at aA;exact iteT ⟨_,J,aA⟩
        |false=>
         rw[g,if_neg (by simp)] at aA;exact iteF aA
       rw[aG] at bk;rcases zei tt.2 dr0 (λd=>d.1==m) (λj=>ys.getD j .non) tt.2.length (Nat.le_refl _) with⟨h1,h2⟩|⟨d',cb,ag,h1,h2,h3,aB⟩
       .exfalso;rw[List.take_length] at h1;obtain⟨dd,U,az⟩:=List.mem_map.mp bN;have:dd∈tt.2.filter (λd=>d.1==m):=List.mem_filter.mpr ⟨U,by simpa using az⟩;rw[h1] at this;cases this
       rw[List.take_length] at h1;rw[h1] at k;dsimp only at k;have aU:=D.trans bj;have bQ:=aa.trans bj;obtain⟨aV,bR,cc,ap⟩:=zbw ((zbd (ds:=tt.2) (i:=ag) a5 h2).mono bQ.x);have h3:tt.2.getD ag dr0=d':=h3;have ap:ao aV=some (.tup [.str (tt.2.getD ag dr0).1,.int (tt.2.getD ag dr0).2.1,.str (tt.2.getD ag dr0).2.2]):=ap;rw[h3] at ap;have aB:(flatN (λi=>(if (tt.2.getD i dr0).1==m then some (ys.getD i .non) else none).toList) tt.2.length)[0]?=some (ys.getD ag .non):=aB;rw[bR] at aB;refine⟨bg,_,0,_,J,J,SqL.of bk,zaj (j:=0) aB,?_⟩;have bm:=aU _ _ J0;refine⟨_,J,.inl ⟨J,_,SqL.of bm⟩,_,J,_,J,aV,_,1,_,J,J,SqT.of ap,zaj (j:=1) J,_,J,aV,_,2,_,J,J,SqT.of ap,zaj (j:=2) J,by show (3:Nat)<=_;omega,λpt bn=>?_⟩;have bo:=Same.new (o:=.tup [.int i,.int d'.2.1,.str d'.2.2]) bn;have bp:upd ao pt (.tup [.int i,.int d'.2.1,.str d'.2.2]) pt=some (.tup [.int i,.int d'.2.1,.str d'.2.2]):=zab;have aW:=bo _ _ bm;have aX:=aU.trans bo;have bS:pt≠z:=(br.same aU).ne bn;generalize upd ao pt (.tup [.int i,.int d'.2.1,.str d'.2.2])=aC at bp aW aX;refine⟨q,vs,_,J,J,aW,by omega,?_⟩;have bT:d'.2.2.length<=1000:=by
        have bU:d'∈tt.2:=(List.mem_filter.mp (by rw[h1];exact List.mem_cons_self)).1;have:=(za3 (aF.2.2 d' bU).2.2).1;omega
       have bq:Reps z (upd aC q (.lst (vs++[.ref pt]))) (vs++[.ref pt]) ((ds++[((i:Int),d'.2.1,d'.2.2)]).map ldD):=by
        refine Reps.updL aW ?_ (zcI _);rw[List.map_append];exact(W.mono aX.x).append (.cons (.tup bp bS (.cons (.int _) (.cons (.int _) (.cons (.str _ bT) .nil)))) .nil)
       have aY:upd aC q (.lst (vs++[.ref pt])) q=some (.lst (vs++[.ref pt])):=zab;have aZ:SameX q H (upd aC q (.lst (vs++[.ref pt]))):=aX.x.upd;generalize upd aC q (.lst (vs++[.ref pt]))=ce at bq aY aZ;refine⟨_,J,_,J,m,J,by omega,_,J,_,J,by show (5:Nat)<=_;omega,λp np=>?_⟩;have aQ:H p=none:=by
        cases e:H p with
        |none=>rfl
        |some o=>
         have aR:p≠q:=(zae aY np).symm;rw[aZ p o aR e] at np;cases np
       have a1:=Same.new (o:=.tup [.int i,.int m.length,.str (Str.ofString "open"),.int I,.int vs.length]) np;refine k p _ (aZ.trans a1.x) aQ ?_ ⟨_,a1 _ _ aY,bq.mono a1.x⟩;rw[zab,Y];rfl
noncomputable abbrev eS:Str:=⟨#[]⟩
noncomputable def zdU(l:List Str):Str:=l.foldl (λB m=>if B.length<m.length then m else B) eS
theorem zfH:∀(l:List Str) (B:Str),let r:=l.foldl (λB m=>if B.length<m.length then m else B) B
  (r=B∨r∈l)/\B.length<=r.length/\∀m∈l,m.length<=r.length
 |[],B=>⟨.inl J,Nat.le_refl _,λm hm=>nomatch hm⟩
 |a::l,B=>by
  have F:=zfH l (if B.length<a.length then a else B);obtain⟨h1,h2,D⟩:=F;simp only[List.foldl_cons];by_cases h:B.length<a.length
  .rw[if_pos h] at h1 h2 D ⊢;refine⟨?_,by omega,λm hm=>?_⟩
   .rcases h1 with h1|h1
    .exact .inr (by rw[h1];exact List.mem_cons_self)
    .exact .inr (List.mem_cons_of_mem _ h1)
   .rcases List.mem_cons.mp hm with rfl|hm
    .exact h2
    .exact D m hm
  .rw[if_neg h] at h1 h2 D ⊢;refine⟨?_,h2,λm hm=>?_⟩
   .rcases h1 with h1|h1
    .exact .inl h1
    .exact .inr (List.mem_cons_of_mem _ h1)
   .rcases List.mem_cons.mp hm with rfl|hm
    .omega
    .exact D m hm
theorem zbt{l:List Str}(D:∀m∈l,Sm m):(l=[]/\zdU l=eS)∨(zdU l∈l/\∀m∈l,m.length<=(zdU l).length):=by
 obtain⟨h1,h2,B⟩:=zfH l eS;cases l with
 |nil=>exact .inl ⟨J,J⟩
 |cons a r=>
  refine .inr ⟨?_,B⟩;rcases h1 with h1|h1
  .exfalso;have:=B a List.mem_cons_self;have g:=(D a List.mem_cons_self).1;rw[h1] at this;have:a.length<=0:=this;omega
  .exact h1
theorem zkN{x:Str}{i:Nat}{m B:Str}(h:fitAt x i m=true)(h':fitAt x i B=true)(D:m.length=B.length):m=B:=by
 have a:=of_decide_eq_true h;have c:=of_decide_eq_true h';rw[D] at a;have:V.str m=V.str B:=a.symm.trans c;injection this
theorem zdV{x:Str}{i:Nat}{l ys:List Str}(G:∀m∈l,Sm m)(D:∀m∈l,fitAt x i m=true)(B:ys.Perm l)(hw:ys.Pairwise (λa c=>c.length<=a.length)):ys.headD eS=zdU l:=by
 rcases zbt G with⟨h1,h2⟩|⟨h1,h2⟩
 .subst h1;have:ys=[]:=List.Perm.eq_nil B;subst this;rfl
 .cases ys with
  |nil=>
   have:l=[]:=List.Perm.eq_nil B.symm;rw[this] at h1;cases h1
  |cons a r=>
   show a=_;have F:a∈l:=B.mem_iff.mp List.mem_cons_self;have hb:zdU l∈a::r:=B.mem_iff.mpr h1;have I:=h2 a F;have J0:(zdU l).length<=a.length:=by
    rcases List.mem_cons.mp hb with e|hb
    .rw[e];exact Nat.le_refl _
    .exact(List.pairwise_cons.mp hw).1 _ hb
   exact zkN (D a F) (D _ h1) (by omega)
noncomputable def bestL(b:Bk)(ds:List LDr)(x:Str)(i:Nat):Str:=zdU (fitL b ds x i)
structure RunSt where
 at_:Nat
 ds:List LDr
 ss:List Stp
noncomputable def zaQ(b:Bk)(x:Str)(r:RunSt):RunSt:=
 if r.at_<x.length then ⟨r.at_+((stepL b r.ds x r.at_ (bestL b r.ds x r.at_)).1.2.1).toNat,(stepL b r.ds x r.at_ (bestL b r.ds x r.at_)).2,r.ss++[(stepL b r.ds x r.at_ (bestL b r.ds x r.at_)).1]⟩ else r
noncomputable def runF(b:Bk)(x:Str):Nat->RunSt
 |0=>⟨0,[],[]⟩
 |n+1=>zaQ b x (runF b x n)
noncomputable def LdBk(b:Bk)(ds:List LDr):Prop:=∀d∈ds,∃t∈b,∃B∈t.2,d.2.1=B.2.1/\d.2.2=B.2.2
theorem LdBk.ok{b:Bk}{ds:List LDr}(h:LdBk b ds)(B:∀t∈b,TgOk b.length t):LdOk b ds:=λd D=>by
 obtain⟨t,F,G,I,J0,O⟩:=h d D;obtain⟨W,U,V⟩:=(B t F).2.2 G I;have g:=za3 V;rw[J0,O];exact⟨U,g.2,g.1⟩
theorem zb8{b:Bk}{ds:List LDr}{x:Str}{i:Nat}(F:∀t∈b,TgOk b.length t)(G:LdOk b ds):∀m∈someL b ds,Sm m:=λm hm=>by
 unfold someL at hm;rcases List.mem_append.mp hm with hm|hm
 .obtain⟨dd,B,rfl⟩:=List.mem_map.mp hm;by_cases D:(zan ds).toNat<b.length
  .have g:=za3 ((F _ (getD_mem tg0 D)).2.2 dd B).1;exact⟨g.2,g.1⟩
  .have e:b.getD (zan ds).toNat tg0=tg0:=by simp[D]
   rw[e] at B;cases B
 .obtain⟨dd,B,rfl⟩:=List.mem_map.mp hm;exact(G dd (List.mem_of_mem_drop B)).2
theorem zek{ds:List LDr}{m:Str}(h:m∈(lastL ds).map (·.2.2)):ds≠[]/\m=(ds.getD (ds.length-1) ld0).2.2:=by
 obtain⟨dd,B,D⟩:=List.mem_map.mp h;unfold lastL at B;have hpos:0<ds.length:=by
  cases ds with
  |nil=>simp at B
  |cons _ _=>simp
 have:ds.drop (ds.length-1)=[ds.getD (ds.length-1) ld0]:=by
  have F:ds.length-1<ds.length:=by omega
  rw[List.drop_eq_getElem_cons F];have:ds.length-1+1=ds.length:=by omega
  rw[this,List.drop_length];simp[F]
 rw[this] at B;have:dd=ds.getD (ds.length-1) ld0:=by simpa using B
 rw[this] at D;exact⟨List.length_pos_iff.mp hpos,D.symm⟩
theorem zf9{x m:Str}{i:Nat}(h:fitAt x i m=true)(hi:i<=x.length):i+m.length<=x.length:=by
 have a:=of_decide_eq_true h;have a:cutS x (some (i:Int)) (some ((i:Int)+m.length))=m:=by injection a
 have B:(cutS x (some (i:Int)) (some ((i:Int)+m.length))).length=m.length:=by rw[a]
 have e:((i:Int)+(m.length:Int))=((i+m.length:Nat):Int):=by omega
 rw[e] at B;unfold cutS at B;have B:(List.toArray ((x.cps.toList.drop (HT.sIx x.length 0 (some (i:Int)))).take (HT.sIx x.length x.length (some ((i+m.length:Nat):Int))-HT.sIx x.length 0 (some (i:Int))))).size=m.length:=B;rw[List.size_toArray,List.length_take,List.length_drop,HT.sIx_nat,HT.sIx_nat] at B;have:x.cps.toList.length=x.length:=by simp;rfl
 omega
theorem zaK{b:Bk}{ds:List LDr}{x:Str}{i:Nat}(J0:∀t∈b,TgOk b.length t)(B:LdBk b ds)(Y:1<=b.length)(hi:i<x.length) :
  let r:=stepL b ds x i (bestL b ds x i)
  1<=r.1.2.1/\r.1.2.1<=4/\(i:Int)+r.1.2.1<=x.length/\LdBk b r.2/\r.2.length<=ds.length+1/\r.1.2.2.1.length<=10:=by
 have O:=B.ok J0;obtain⟨F,Z,aa⟩:=za5 O Y;have U:(zan ds).toNat=F:=by rw[Z];rfl
 have V:=zb8 (x:=x) (i:=i) J0 O;have ab:=zbt (l:=fitL b ds x i) λm G=>V m (List.mem_filter.mp G).1;have ac:∀m,m≠Str.ofString ""->m=bestL b ds x i->m∈someL b ds/\fitAt x i m=true:=λm ad e=>by
  rcases ab with⟨_,h2⟩|⟨h1,_⟩
  .exfalso;apply ad;rw[e];unfold bestL;rw[h2,zaR]
  .rw[e];exact List.mem_filter.mp h1
 intro r;show 1<=r.1.2.1/\_;have W:r=stepL b ds x i (bestL b ds x i):=rfl;generalize G:bestL b ds x i=m at W;rw[W];unfold stepL;rw[U];have ae:=getD_mem tg0 aa;split
 .split
  .exact⟨by show (1:Int)<=1;decide,by show (1:Int)<=4;decide,by show (i:Int)+1<=_;omega,B,by show ds.length<=_;omega,by show (Str.ofString "cut").length<=10;decide +kernel⟩
  .exact⟨by show (1:Int)<=2;decide,by show (2:Int)<=4;decide,by show (i:Int)+2<=_;omega,B,by show ds.length<=_;omega,by show (Str.ofString "escape").length<=10;decide +kernel⟩
 .split
  .exact⟨by show (1:Int)<=1;decide,by show (1:Int)<=4;decide,by show (i:Int)+1<=_;omega,B,by show ds.length<=_;omega,by show (Str.ofString "sign").length<=10;decide +kernel⟩
  .rename_i af;obtain⟨D,ag⟩:=ac m af G.symm;obtain⟨ak,al⟩:=V m D;have am:=zf9 ag (by omega);split
   .refine⟨by show (1:Int)<=m.length;omega,by show (m.length:Int)<=4;omega,by show (i:Int)+m.length<=_;omega,λd hdd=>B d (List.dropLast_subset _ hdd),by show ds.dropLast.length<=_;simp;omega,by show (Str.ofString "close").length<=10;decide +kernel⟩
   .rename_i ah;split
    .rename_i d ao I;have ai:d∈(b.getD F tg0).2:=(List.mem_filter.mp (by rw[I];exact List.mem_cons_self)).1;refine⟨by show (1:Int)<=m.length;omega,by show (m.length:Int)<=4;omega,by show (i:Int)+m.length<=_;omega,λd' hdd=>?_,by show (ds++[_]).length<=_;simp,by show (Str.ofString "open").length<=10;decide +kernel⟩;rcases List.mem_append.mp hdd with hdd|hdd
     .exact B d' hdd
     .have:d'=((i:Int),d.2.1,d.2.2):=by simpa using hdd
      subst this;exact⟨_,ae,d,ai,J,J⟩
    .rename_i I;exfalso;unfold someL at D;rw[U] at D;rcases List.mem_append.mp D with h|h
     .obtain⟨dd,hdd,aj⟩:=List.mem_map.mp h;have:dd∈(b.getD F tg0).2.filter (λd=>d.1==m):=List.mem_filter.mpr ⟨hdd,by simpa using aj⟩;rw[I] at this;cases this
     .exact ah (zek h)
theorem zaX:∀B:List Stp,NoLs (B.map stD)
 |[]=>.nil
 |d::r=>.cons (.tup (.cons (.int _) (.cons (.int _) (.cons (.str _) (.cons (.int _) (.cons (.int _) .nil)))))) (zaX r)
theorem zeO(ys:List Str):cutV (ys.map V.str) none (some (1:Int))=(ys.take 1).map V.str:=by
 unfold cutV;have e:HT.sIx (ys.map V.str).length (ys.map V.str).length (some (1:Int))=min 1 (ys.map V.str).length:=HT.sIx_nat _ _ 1;rw[e,HT.sIx_none,List.drop_zero,List.map_take];cases ys<;>simp
structure RunOk(b:Bk)(x:Str)(r:RunSt):Prop where
 le:r.at_<=x.length
 bk:LdBk b r.ds
 dl:r.ds.length<=r.at_
 sl:r.ss.length<=r.at_
theorem za4{b:Bk}{x:Str}(D:∀t∈b,TgOk b.length t)(F:1<=b.length):∀n,RunOk b x (runF b x n)
 |0=>⟨Nat.zero_le _,(λd G=>nomatch G),Nat.zero_le _,Nat.zero_le _⟩
 |n+1=>by
  have B:=za4 D F (x:=x) n;show RunOk b x (zaQ b x (runF b x n));unfold zaQ;split
  .rename_i h;obtain⟨h1,h2,J0,I,O,U⟩:=zaK (x:=x) D B.bk F h;have V:=B.dl;have W:=B.sl;refine⟨?_,I,?_,?_⟩
   .show (runF b x n).at_+_<=_;omega
   .show (stepL b (runF b x n).ds x (runF b x n).at_ (bestL b (runF b x n).ds x (runF b x n).at_)).2.length<=(runF b x n).at_+_;omega
   .show ((runF b x n).ss++[_]).length<=(runF b x n).at_+_;rw[List.length_append];show _+1<=_;omega
  .exact B
theorem zdm{b:Bk}{x:Str}{n:Nat}(h:(runF b x n).at_<x.length):runF b x (n+1)=⟨(runF b x n).at_+((stepL b (runF b x n).ds x (runF b x n).at_ (bestL b (runF b x n).ds x (runF b x n).at_)).1.2.1).toNat,(stepL b (runF b x n).ds x (runF b x n).at_ (bestL b (runF b x n).ds x (runF b x n).at_)).2,(runF b x n).ss++[(stepL b (runF b x n).ds x (runF b x n).at_ (bestL b (runF b x n).ds x (runF b x n).at_)).1]⟩:=by
 show zaQ b x (runF b x n)=_;unfold zaQ;rw[if_pos h]
theorem zcn{b:Bk}{x:Str}{n:Nat}(h:(runF b x n).at_<x.length):(runF b x (n+1)).ds=(stepL b (runF b x n).ds x (runF b x n).at_ (bestL b (runF b x n).ds x (runF b x n).at_)).2:=by rw[zdm h]
theorem zbJ{b:Bk}{x:Str}{n:Nat}(h:(runF b x n).at_<x.length):(runF b x (n+1)).ss=(runF b x n).ss++[(stepL b (runF b x n).ds x (runF b x n).at_ (bestL b (runF b x n).ds x (runF b x n).at_)).1]:=by rw[zdm h]
inductive zeP:List V->Hp->VK->XK->Prop where
 |mk {vs:List V} {H:Hp} {Q:VK} {E:XK} (z v b x:_) (c1:vs=[v,.str x]) (c2:Bag z H) (c3:Rep z H v (bkD b)) (c4:BkOk b) (c5:x.length<=20000) (c6:∀p pf pd n H',Same H H'->H' p=some (.lst [.ref pf,.ref pd])->(runF b x n).at_=x.length->Rep z H' (.ref pf) (.lst ((runF b x n).ss.map stD))->LDs z H' pd (runF b x n).ds->Q (.ref p) H'):zeP vs H Q E
theorem scSteps:zav ["book","text","doors","found","place","marks"] ["book","text"] (zag ziJ):=⟨J,J,J,by decide +kernel,J,by decide +kernel,by decide +kernel⟩
theorem ziM{f af ag:Addr}{fd aA aB:FuncData}(F:Fun K "_law_steps" "_law_steps" ziJ f fd)(T:TxtB mg)(k1:W.keepIn K (.ref af)=true)(ah:Binds K aA ["book","doors","text","place"] [])(aX:mg "_law_fitting"=some (.ref af))(aY:FnOk P w K mg base CX0 1 af aA ["book","doors","text","place"] zbV)(k2:W.keepIn K (.ref ag)=true)(aZ:Binds K aB ["book","doors","text","place","mark"] [])(a1:mg "_law_step"=some (.ref ag))(a2:FnOk P w K mg base CX0 1 ag aB ["book","doors","text","place","mark"] zej):FnOk P w K mg base CX0 2 f fd ["book","text"] zeP:=by
 refine F.ok scSteps (λvs H Q E h=>?_) (λcdv A outer s H vs Q E aC h=>?_)
 .obtain⟨z,v,b,x,rfl,_⟩:=h;rfl
 .obtain⟨z,v,b,x,rfl,ai,R,aj,aD,k⟩:=h;have a3:=aj;obtain⟨aE,bE,ab,_⟩:=a3;have Y:=scSteps.nd;refine⟨_,zac (zap (i:=2) Y J (Or.inl J) (zaE zad))
   (zac (zap (i:=3) Y J (Or.inl J) (zaE zad))
   (zac (zap (i:=4) Y J (Or.inl J) zaf)
   (zac (zb0 PassesOwn.never (zat zd7 (pv 4) (zao zam (by rfl) T.len b_len (zaa (pv 1) zad)) (zaz _))
    (zac (zap (i:=5) Y J (Or.inl J) (zas aY aC J aX k1 ah .nil pass0 (zaa (pv 0) (zaa (pv 2) (zaa (pv 1) (zaa (pv 4) zad))))))
    (zac (zaU (zbN PySem.F.plainAttrs_list PySem.F.slot_list_append PySem.F.type_list_append zaL (pv 3) (zaa (zas a2 aC J a1 k2 aZ .nil pass0 (zaa (pv 0) (zaa (pv 2) (zaa (pv 1) (zaa (pv 4) (zaa (zbN PySem.F.plainAttrs_str PySem.F.slot_str_join PySem.F.type_str_join zdq zay (zaa (zaG zbM (pv 5) zaW (zaJ zaf)) zad)) zad)))))) zad)))
    (zai (zap (i:=4) Y J (Or.inl J) (zaB zaN (pv 4) (zau ix_tup (zau ix_list (pv 3) (zbL zbb zaf) (λ_ _=>rfl)) zaf (λ_ _=>rfl))))))))
   (zai (zax (zaE (zaa (pv 3) (zaa (pv 2) zad)))))))),?_⟩
  dsimp only[cxOf,Cx.nox,Cx.wish];have bF:=za2;have bG:(100000:Nat)<=sizeLine:=by rw[sizeLine_eq];decide
  refine⟨Nat.zero_le _,λpd ak=>⟨Nat.zero_le _,λB ac=>?_⟩⟩;have al:=Same.new (o:=.lst []) ak;have aF:=Same.new (o:=.lst []) ac;have aG:=al.trans aF;have a4:H B=none:=al.free ac;have aH:pd≠B:=zae (zab (H:=H) (a:=pd) (o:=.lst [])) ac;have a5:pd≠z:=ai.ne ak;have a6:B≠z:=(ai.same al).ne ac;refine zb1 (λσ I=>∃n u,σ=[some v,some (.str x),some (.ref pd),some (.ref B),some (.int (runF b x n).at_),u]/\Same H I/\Rep z I v (bkD b)/\LDs z I pd (runF b x n).ds/\∃D,I B=some (.lst D)/\Reps z I D ((runF b x n).ss.map stD))
   (λσ I=>match σ[4]? with|some (some (V.int i))=>x.length-i.toNat|_=>0) ⟨0,none,J,aG,R.mono aG.x,⟨[],aF _ _ zab,.nil⟩,[],zab,.nil⟩ ?_ ?_
  .rintro σ I ⟨n,u,rfl,am,aI,ao,D,ap,aq⟩;have Z:=za4 (x:=x) ab aE n;have bH:=Z.le;refine⟨_,J,_,J,x,J,by omega,_,_,J,J,_,J,?_⟩;refine ite2 (λG=>?_) (λG=>?_)
   .have G:(runF b x n).at_<x.length:=by have:=of_decide_eq_true G;omega
    have bI:=Z.dl;have bJ:=Z.sl;have ar:=Z.bk.ok ab;have a7:=ai.same am;refine⟨_,J,_,J,_,J,_,J,z,v,b,pd,(runF b x n).ds,x,(runF b x n).at_,J,aI,aj,ao,ar,aD,λpm ys a8 O bK a9 aJ pw=>?_⟩;have as:∀m∈fitL b (runF b x n).ds x (runF b x n).at_,Sm m:=λm au=>zb8 (x:=x) (i:=(runF b x n).at_) ab ar m (List.mem_filter.mp au).1;have ba:=zdV as (λm au=>(List.mem_filter.mp au).2) aJ pw;have bb:=O _ _ ap;refine⟨_,J,.inl ⟨J,_,SqL.of bb⟩,_,J,_,J,_,J,_,J,J,_,J,1,J,pm,_,J,SqL.of a9,λl bc=>?_⟩;have aK:=Same.new (o:=.lst (cutV (ys.map V.str) none (some (1:Int)))) bc;have bd:∀y∈ys.take 1,y.length<=1000:=λy be=>by have:=(as y (aJ.mem_iff.mp (List.mem_of_mem_take be))).2;omega
    refine⟨_,l,ys.take 1,J,J,SqL.of (by rw[zab,zeO]),by rw[List.length_take];omega,by decide +kernel,bd,?_⟩;have bf:zgC (ys.take 1)=bestL b (runF b x n).ds x (runF b x n).at_:=by
     unfold bestL;rw[←ba];cases ys<;>rfl
    rw[bf];have U:=O.trans aK;have av:=aI.mono U.x (z:=z);have aw:=ao.same U;have aL:=U _ _ ap;have aM:=aq.mono U.x (z:=z);have ax:=a7.same U;have aN:=am.trans U;generalize upd a8 l (.lst (cutV (ys.map V.str) none (some (1:Int))))=bL at U av aw aL aM ax aN aK;have bg:bestL b (runF b x n).ds x (runF b x n).at_=Str.ofString ""∨bestL b (runF b x n).ds x (runF b x n).at_∈someL b (runF b x n).ds:=by
     rcases zbt as with⟨_,h2⟩|⟨h1,_⟩
     .exact .inl (by unfold bestL;rw[h2,zaR])
     .exact .inr (List.mem_filter.mp h1).1
    obtain⟨bM,p2,p3,p4,p5,bN⟩:=zaK (x:=x) ab Z.bk aE G;refine⟨z,v,b,pd,(runF b x n).ds,x,_,(runF b x n).at_,J,ax,a5,av,aj,aw,ar,G,aD,by omega,bg,λp J0 ad np ay aO=>?_⟩;rw[←zcn G] at aO;have bh:p≠z:=ax.ne np;obtain⟨bO,aP,_⟩:=aw;have bi:=Rep.butL aP ad av (.tup (zbC b));have bj:=Reps.butL aP ad aM (zaX _);have aa:=ad _ _ aH.symm aL;have bk:Same H J0:=λae o e=>ad ae o (zae e ak) (aN ae o e);have bP:D.length=(runF b x n).ss.length:=by have:=aq.length;simpa using this
    refine⟨B,D,_,J,J,aa,by omega,?_⟩;have az:upd J0 B (.lst (D++[.ref p])) B=some (.lst (D++[.ref p])):=zab;have bl:Rep z J0 (.ref p) (stD (stepL b (runF b x n).ds x (runF b x n).at_ (bestL b (runF b x n).ds x (runF b x n).at_)).1):=.tup ay bh (.cons (.int _) (.cons (.int _) (.cons (.str _ (by omega)) (.cons (.int _) (.cons (.int _) .nil)))));have aQ:Reps z (upd J0 B (.lst (D++[.ref p]))) (D++[.ref p]) ((runF b x (n+1)).ss.map stD):=by
     rw[zbJ G,List.map_append];exact Reps.updL aa (bj.append (.cons bl .nil)) ((zaX _).append (zaX [_]))
    have aR:=Rep.updL (l':=D++[.ref p]) aa bi (.tup (zbC b));obtain⟨aS,bm,bn⟩:=aO;have aT:upd J0 B (.lst (D++[.ref p])) pd=some (.lst aS):=by rw[zak aH];exact bm
    have aU:=Reps.updL (l':=D++[.ref p]) aa bn (zcI _);have aV:upd J0 B (.lst (D++[.ref p])) p=some (.tup (stV (stepL b (runF b x n).ds x (runF b x n).at_ (bestL b (runF b x n).ds x (runF b x n).at_)).1)):=by
     rw[zak (zar ay aa (by intro q;cases q))];exact ay
    have aW:Same H (upd J0 B (.lst (D++[.ref p]))):=λae o e=>by rw[zak (zae e a4)];exact bk ae o e
    generalize upd J0 B (.lst (D++[.ref p]))=bQ at az aQ aR aT aU aV aW;refine⟨_,J,_,J,1,J,B,_,-1,_,J,J,SqL.of az,zb2 D (.ref p),p,_,1,_,J,J,SqT.of aV,zaj (j:=1) J,_,_,J,J,?_⟩;have bo:((runF b x n).at_:Int)+(stepL b (runF b x n).ds x (runF b x n).at_ (bestL b (runF b x n).ds x (runF b x n).at_)).1.2.1=((runF b x (n+1)).at_:Int):=by
     rw[zdm G];show _=((_+_:Nat):Int);omega
    refine⟨⟨n+1,some (.ref pm),?_,aW,aR,⟨aS,aT,aU⟩,_,az,aQ⟩,?_⟩
    .show [some v,some (.str x),some (.ref pd),some (.ref B),some (V.int (((runF b x n).at_:Int)+(stepL b (runF b x n).ds x (runF b x n).at_ (bestL b (runF b x n).ds x (runF b x n).at_)).1.2.1)),some (.ref pm)]=_;rw[bo]
    .show x.length-(((runF b x n).at_:Int)+(stepL b (runF b x n).ds x (runF b x n).at_ (bestL b (runF b x n).ds x (runF b x n).at_)).1.2.1).toNat<x.length-((runF b x n).at_:Int).toNat;omega
   .have bp:(runF b x n).at_=x.length:=by
     have:¬(((runF b x n).at_:Int)<(x.length:Int)):=λq=>G (decide_eq_true q);omega
    refine⟨_,J,_,J,by show (2:Nat)<=_;omega,λp np=>?_⟩;have O:=Same.new (o:=.lst [.ref B,.ref pd]) np;exact k p B pd n _ (am.trans O) zab bp (.lst (O _ _ ap) a6 (aq.mono O.x)) (ao.same O)
  .rintro σ I bR bS bq ⟨br,bs,bt,bu,bv,bw,bx,bz,bA,bB,bC,ah,bD,h⟩;exact⟨br,bs,bt,bu,bv,bw,bx,bz,bA,bB,bC,ah,bD,bq _ _ h⟩
noncomputable def pdD(d:LDr):D:=.tup [.int d.2.1,.str d.2.2]
theorem zcK:∀ds:List LDr,NoLs (ds.map pdD)
 |[]=>.nil
 |d::r=>.cons (.tup (.cons (.int _) (.cons (.str _) .nil))) (zcK r)
noncomputable def PDs(z:Addr)(H:Hp)(q:Addr)(ds:List LDr):Prop:=∃vs,H q=some (.lst vs)/\Reps z H vs (ds.map pdD)
theorem PDs.same{z:Addr}{H H':Hp}{q:Addr}{ds:List LDr}(h:PDs z H q ds)(s:Same H H'):PDs z H' q ds:=let ⟨vs,a,r⟩:=h;⟨vs,s _ _ a,r.mono s.x⟩
theorem zkO{z:Addr}{H:Hp}{v:V}{d:LDr}(r:Rep z H v (pdD d)):∃a,v=.ref a/\a≠z/\H a=some (.tup [.int d.2.1,.str d.2.2]):=by
 cases r with
 |tup h B r=>
  cases r with
  |cons D r=>
   cases r with
   |cons F r=>
    cases r;cases D;cases F;exact⟨_,J,B,h⟩
theorem ziN{z:Addr}{H:Hp}{xs:List V}{ds:List LDr}{i:Nat}(r:Reps z H xs (ds.map pdD))(hi:i<ds.length):Rep z H (xs.getD i .non) (pdD (ds.getD i ld0)):=by
 have:=r.get (i:=i) (by simpa using hi);simpa [hi] using this
theorem ziO{z:Addr}{H:Hp}{ds:List LDr}{vs:List V}(B:Reps z H vs (ds.map pdD))(hpos:0<ds.length):∃ad,atI vs (-1)=some (.ref ad)/\H ad=some (.tup [.int (ds.getD (ds.length-1) ld0).2.1,.str (ds.getD (ds.length-1) ld0).2.2]):=by
 have D:vs.length=ds.length:=by have:=B.length;simpa using this
 obtain⟨ad,F,J0,G⟩:=zkO (ziN (ds:=ds) (i:=ds.length-1) B (by omega));refine⟨ad,?_,G⟩;have I:ixN vs.length (-1)=some (vs.length-1):=by
  unfold ixN;rw[if_neg (by decide),if_pos (by omega)];congr 1;omega
 unfold atI;rw[I];show vs[vs.length-1]?=_;have h1:vs.length-1<vs.length:=by omega
 have h2:vs.getD (vs.length-1) .non=vs[vs.length-1]:=by simp[h1]
 rw[List.getElem?_eq_getElem h1,←h2,D,F]
inductive zb9:List V->Hp->VK->XK->Prop where
 |mk {vs:List V} {H:Hp} {Q:VK} {E:XK} (z q ds:_) (c1:vs=[.ref q]) (c2:PDs z H q ds) (c3:Q (.int (zan ds)) H):zb9 vs H Q E
theorem scWithin:zav ["doors","inner","close"] ["doors"] (zag zf6):=⟨J,J,J,by decide +kernel,J,by decide +kernel,by decide +kernel⟩
theorem ziP{f:Addr}{fd:FuncData}(F:Fun K "tongue_within" "tongue_within" zf6 f fd):FnOk P w K mg base CX0 1 f fd ["doors"] zb9:=by
 refine F.ok scWithin (λvs H Q E h=>?_) (λcdv A outer s H vs Q E V h=>?_)
 .obtain⟨z,q,ds,rfl,_⟩:=h;rfl
 .obtain⟨z,q,ds,rfl,⟨vs,D,G⟩,k⟩:=h;have I:=scWithin.nd;have J0:vs.length=ds.length:=by have:=G.length;simpa using this
  refine⟨_,zac (zaY (zdD (zcP (pv 0) (λ_=>rfl))) (zai (zax zaf)) zaA)
   (zac (zbz (zau ix_list (pv 0) (zbL zbb zaf) (λ_ _=>rfl)) (zbF J (zaw (zaq (i:=1) I J (Or.inl J)) (zaw (zaq (i:=2) I J (Or.inl J)) za6))))
   (zai (zax (pv 1)))),?_⟩
  dsimp only[cxOf,Cx.nox,Cx.wish];refine⟨_,J,_,.inl ⟨vs,SqL.of D,J⟩,?_⟩;by_cases hpos:0<ds.length
  .have B:(!vs.isEmpty)=true:=by
    cases vs with
    |nil=>simp at J0;omega
    |cons _ _=>rfl
   rw[B];obtain⟨ad,O,U⟩:=ziO G hpos;refine iteF ?_;refine⟨_,J,1,J,q,vs,-1,_,J,J,SqL.of D,O,ad,_,J,SqT.of U,J,_,_,J,_,_,J,J,_,J,?_⟩;rw[zcJ hpos] at k;exact k
  .have B:(!vs.isEmpty)=false:=by
    cases vs with
    |nil=>rfl
    |cons _ _=>simp at J0;omega
   rw[B];refine iteT ?_;have:ds=[]:=List.eq_nil_of_length_eq_zero (by omega);subst this;exact k
noncomputable abbrev Mk:=Str×Option Dr
noncomputable def mkOD:Option Dr->D
 |none=>.non
 |some d=>drD d
noncomputable def mkD(m:Mk):D:=.tup [.str m.1,mkOD m.2]
noncomputable def possL(b:Bk)(ds:List LDr):List Mk:=(lastL ds).map (λd=>(d.2.2,none))++(b.getD (zan ds).toNat tg0).2.map λd=>(d.1,some d)
theorem zkP(d:Dr):NoL (drD d):=.tup (.cons (.str _) (.cons (.int _) (.cons (.str _) .nil)))
theorem zkQ(m:Mk):NoL (mkD m):=by
 obtain⟨x,o⟩:=m;cases o with
 |none=>exact .tup (.cons (.str _) (.cons .non .nil))
 |some d=>exact .tup (.cons (.str _) (.cons (zkP d) .nil))
theorem zga:∀ms:List Mk,NoLs (ms.map mkD)
 |[]=>.nil
 |d::r=>.cons (zkQ d) (zga r)
inductive zfI:List V->Hp->VK->XK->Prop where
 |mk {vs:List V} {H:Hp} {Q:VK} {E:XK} (z v b q ds:_) (c1:vs=[v,.ref q]) (c2:Bag z H) (c3:Rep z H v (bkD b)) (c4:BkOk b) (c5:PDs z H q ds) (c6:LdOk b ds) (c7:∀p ws H',Same H H'->H p=none->H' p=some (.lst ws)->Reps z H' ws ((possL b ds).map mkD)->Q (.ref p) H'):zfI vs H Q E
theorem zfJ{ds:List LDr}(h:0<ds.length):lastL ds=[ds.getD (ds.length-1) ld0]:=by
 have B:ds.length-1<ds.length:=by omega
 unfold lastL;rw[List.drop_eq_getElem_cons B];have:ds.length-1+1=ds.length:=by omega
 rw[this,List.drop_length];simp[B]
theorem ziQ{B:Type}{xs:List B}{i:Nat}(d:B)(h:i<xs.length):xs.getD i d=xs[i]:=by simp[h]
theorem scPoss:zav ["book","doors","marks","inner","close","escape","ways","door"] ["book","doors"] (zag sPoss):=⟨J,J,J,by decide +kernel,J,by decide +kernel,by decide +kernel⟩
theorem zlv{f am:Addr}{fd aB:FuncData}(F:Fun K "possible_marks" "possible_marks" sPoss f fd)(k1:W.keepIn K (.ref am)=true)(aR:Binds K aB ["doors"] [])(aS:mg "tongue_within"=some (.ref am))(aT:FnOk P w K mg base CX0 1 am aB ["doors"] zb9):FnOk P w K mg base CX0 2 f fd ["book","doors"] zfI:=by
 refine F.ok scPoss (λvs H Q E h=>?_) (λcdv A outer s H vs Q E aU h=>?_)
 .obtain⟨z,v,b,q,ds,rfl,_⟩:=h;rfl
 .obtain⟨z,v,b,q,ds,rfl,ao,aV,aW,⟨vs,ah,ap⟩,aC,k⟩:=h;obtain⟨a,xs,rfl,be,aX,bf,R⟩:=zb6 aV;obtain⟨aY,bg,aZ,_⟩:=aW;have O:=scPoss.nd;have bh:=za2;have aD:vs.length=ds.length:=by have:=ap.length;simpa using this
  refine⟨_,zac (zap (i:=2) O J (Or.inl J) (zaE zad))
   (zac (zaY (zcP (pv 1) (λ_=>rfl)) (zac (zbz (zau ix_list (pv 1) (zbL zbb zaf) (λ_ _=>rfl)) (zbF J (zaw (zaq (i:=3) O J (Or.inl J)) (zaw (zaq (i:=4) O J (Or.inl J)) za6))))
    (zai (zaU (zbN PySem.F.plainAttrs_list PySem.F.slot_list_append PySem.F.type_list_append zaL (pv 2) (zaa (za9 (zaa (pv 4) (zaa zea zad))) zad))))) zaA)
   (zac (zbz (zau ix_tup (pv 0) (zas aT aU J aS k1 aR .nil pass0 (zaa (pv 1) zad)) (λ_ _=>rfl)) (zbF J (zaw (zaq (i:=5) O J (Or.inl J)) (zaw (zaq (i:=6) O J (Or.inl J)) za6))))
   (zac (zbG PassesOwn.never J (zce (pv 6)) (zaq (i:=7) O J (Or.inl J))
    (zai (zaU (zbN PySem.F.plainAttrs_list PySem.F.slot_list_append PySem.F.type_list_append zaL (pv 2) (zaa (za9 (zaa (zau ix_tup (pv 7) zaf (λ_ _=>rfl)) (zaa (pv 7) zad))) zad)))))
   (zai (zax (pv 2)))))),?_⟩
  dsimp only[cxOf,Cx.nox,Cx.wish];refine⟨Nat.zero_le _,λpm U=>?_⟩;have Y:=Same.new (o:=.lst []) U;have bi:q≠pm:=zae ah U;have bj:pm≠z:=ao.ne U;dsimp only;refine zdN (J0:=λσ' H2=>∃(Z aa:Option V),σ'=[some (.ref a),some (.ref q),some (.ref pm),Z,aa,none,none,none]/\Same H H2/\∃B,H2 pm=some (.lst B)/\Reps z H2 B (((lastL ds).map λd=>((d.2.2,none):Mk)).map mkD)) (λbk J0=>?g1) ?g2
  case g1=>
   refine⟨_,J,_,.inl ⟨vs,SqL.of (Y _ _ ah),J⟩,?_⟩;refine ite2 (λaq=>?_) (λaq=>?_)
   case refine_1=>
    have hpos:0<ds.length:=by
     cases vs with
     |nil=>simp at aq
     |cons _ _=>simp at aD;omega
    obtain⟨ad,a1,a2⟩:=ziO (ap.mono Y.x) hpos;refine⟨_,J,1,J,q,vs,-1,_,J,J,SqL.of (Y _ _ ah),a1,ad,_,J,SqT.of a2,J,_,_,J,_,_,J,J,_,J,.inl ⟨J,_,SqL.of zab⟩,_,J,by show (2:Nat)<=_;omega,λpt ab=>?_⟩;have aE:=Same.new (o:=.tup [.str (ds.getD (ds.length-1) ld0).2.2,.non]) ab;have ac:upd (upd H pm (.lst [])) pt (.tup [.str (ds.getD (ds.length-1) ld0).2.2,.non]) pt=some (.tup [.str (ds.getD (ds.length-1) ld0).2.2,.non]):=zab;have ar:pt≠z:=(ao.same Y).ne ab;have as:=aE pm _ zab;have aF:=Y.trans aE;generalize upd (upd H pm (.lst [])) pt (.tup [.str (ds.getD (ds.length-1) ld0).2.2,.non])=H1 at ac as aF;refine⟨pm,[],_,J,J,as,by show (0:Nat)<_;omega,?_⟩;have G:Same H (upd H1 pm (.lst ([]++[.ref pt]))):=λau o e=>by rw[zak (zae e U)];exact aF au o e
    have av:∃B,upd H1 pm (.lst ([]++[.ref pt])) pm=some (.lst B)/\Reps z (upd H1 pm (.lst ([]++[.ref pt]))) B (((lastL ds).map λd=>((d.2.2,none):Mk)).map mkD):=by
     refine⟨_,zab,Reps.updL as ?_ (zga _)⟩;rw[zfJ hpos];have a3:=(aC _ (getD_mem ld0 (i:=ds.length-1) (by omega))).2;exact .cons (.tup ac ar (.cons (.str _ (by have:=a3.2;omega)) (.cons .non .nil))) .nil
    exact J0 _ _ ⟨_,_,J,G,av⟩
   case refine_2=>
    have a4:ds.length=0:=by
     cases vs with
     |nil=>simp at aD;omega
     |cons _ _=>simp at aq
    have G:=Y;have av:∃B,upd H pm (.lst []) pm=some (.lst B)/\Reps z (upd H pm (.lst [])) B (((lastL ds).map λd=>((d.2.2,none):Mk)).map mkD):=by
     refine⟨[],zab,?_⟩;have:ds=[]:=List.eq_nil_of_length_eq_zero a4;rw[this];exact .nil
    exact J0 _ _ ⟨_,_,J,G,av⟩
  case g2=>
   rintro σ' H2 ⟨Z,aa,rfl,G,B,hw,a5⟩;obtain⟨I,aG,aH⟩:=za5 aC aY;obtain⟨c,d,ys,a6,bl,bm,a7,aw,ax,a8⟩:=za0 ((zaP (b:=b) (i:=I) R aH).mono G.x);have a9:xs[I]?=some (.ref c):=by
    have h1:I<xs.length:=by omega
    have h2:xs.getD I .non=xs[I]:=by simp[h1]
    rw[List.getElem?_eq_getElem h1,←h2,a6]
   have aI:b.getD (zan ds).toNat tg0=b.getD I tg0:=by rw[aG];rfl
   have aJ:=aZ _ (getD_mem tg0 aH);have ax:ys.length=(b.getD I tg0).2.length:=ax;have aK:possL b ds=(lastL ds).map (λd=>((d.2.2,none):Mk))++(b.getD I tg0).2.map λd=>(d.1,some d):=by unfold possL;rw[aI]
   rw[aK] at k;clear aK aI;generalize bn:b.getD I tg0=tt at *;have bo:=aJ.2.1;have bp:(lastL ds).length<=1:=by unfold lastL;rw[List.length_drop];omega
   refine⟨_,J,_,J,z,q,ds,J,⟨vs,G _ _ ah,ap.mono G.x⟩,a,xs,zan ds,_,J,J,SqT.of (G _ _ aX),by rw[aG];exact zaj a9,c,_,J,SqT.of a7,J,_,_,J,_,_,J,J,?_⟩;refine⟨_,J,d,J,⟨_,SqT.of aw⟩,zdE (K:=K) (a:=d) (xs:=ys) (λi σ D=>∃Z aa u,σ=[some (.ref a),some (.ref q),some (.ref pm),Z,aa,some (.str tt.1),some (.ref d),u]/\Same H D/\SameX pm H2 D/\∃B,D pm=some (.lst B)/\Reps z D B (((lastL ds).map (λd=>((d.2.2,none):Mk))++(tt.2.take i).map λd=>(d.1,some d)).map mkD))
    ⟨_,_,none,J,G,.refl,B,hw,by simpa using a5⟩ (λj σ D _ ⟨_,_,_,_,_,s,_⟩=>SqT.of (s _ _ (zar aw hw (by intro q;cases q)) aw)) ?_ ?_⟩
   .rintro j y σ D aL ⟨Z,aa,u,rfl,ai,ay,aj,ak,ae⟩;have al:j<tt.2.length:=by have:=(List.getElem?_eq_some_iff.mp aL).1;omega
    have ba:y=ys.getD j .non:=by rw[List.getD_eq_getElem?_getD,aL];rfl
    have az:Rep z D (ys.getD j .non) (drD (tt.2.getD j dr0)):=Rep.butL hw ay (zbd (ds:=tt.2) (i:=j) a8 al) (zkP _);obtain⟨af,aM,bq,bb⟩:=zbw az;have bc:=aJ.2.2 _ (getD_mem dr0 al);rw[aM] at az;rw[ba,aM];have br:aj.length<=10:=by
     have:=ae.length;simp at this;omega
    refine⟨_,J,.inl ⟨J,_,SqL.of ak⟩,_,J,af,_,0,_,J,J,SqT.of bb,zaj (j:=0) J,_,J,by show (2:Nat)<=_;omega,λpt ab=>?_⟩;have ag:=Same.new (o:=.tup [.str (tt.2.getD j dr0).1,.ref af]) ab;have ac:upd D pt (.tup [.str (tt.2.getD j dr0).1,.ref af]) pt=some (.tup [.str (tt.2.getD j dr0).1,.ref af]):=zab;have ar:pt≠z:=(ao.same ai).ne ab;have aA:=ag _ _ ak;have aN:=ae.mono ag.x (z:=z);have aO:=az.mono ag.x (z:=z);have aP:=ai.trans ag;have aQ:=ay.trans ag.x;generalize upd D pt (.tup [.str (tt.2.getD j dr0).1,.ref af])=bs at ac aA aN aO aP aQ;refine⟨pm,aj,_,J,J,aA,by omega,?_⟩;have g1:=za3 bc.1;refine⟨_,_,_,J,λau o e=>by rw[zak (zae e U)];exact aP au o e,aQ.upd,_,zab,?_⟩;refine Reps.updL aA ?_ (zga _);have bd:(tt.2.take (j+1)).map (λd=>((d.1,some d):Mk))=(tt.2.take j).map (λd=>((d.1,some d):Mk))++[((tt.2.getD j dr0).1,some (tt.2.getD j dr0))]:=by
     rw[List.take_add_one,List.getElem?_eq_getElem al,ziQ dr0 al,List.map_append];rfl
    rw[bd,←List.append_assoc,List.map_append];exact aN.append (.cons (.tup ac ar (.cons (.str _ (by omega)) (.cons aO .nil))) .nil)
   .rintro σ D ⟨Z,aa,u,rfl,ai,ay,aj,ak,ae⟩;rw[ax,List.take_length] at ae;exact⟨_,J,k pm aj D ai U ak ae⟩
theorem zcz{z:Addr}{J0:It}{g:TG}{tt:TT}{te:TE}{Qe:St->Hp->Prop}{ac:St}{H0:Hp}{p:Addr}{n:Nat}{item:Nat->V}(keep:Nat->Bool)(G:Nat->D)(I:St->Prop)(ak:I ac)(ad:H0 p=none)(au:n<=100000)(Y:ItOk J0 n item (upd H0 p (.lst [])) p)(al:∀i,NoL (G i))(am:∀i σ H (ae:V->St->Hp->Prop) (af:St->Hp->Prop),i<n->I σ->Same H0 H->(keep i=true->∀F v B,I F->Same H B->Rep z B v (G i)->ae v F B)->(keep i=false->∀F B,I F->Same H B->af F B) ->
   g (item i) σ H λF H2=>tt F H2 λb ag=>if b=true then te F ag λv B=>ae v F B else af F ag)(ao:∀σ H vs,Same H0 H->H p=some (.lst vs)->Reps z H vs (((List.range n).filter keep).map G)->Qe σ H):tLoop J0 g tt (tApp p te) Qe ac (upd H0 p (.lst [])):=by
 have ap:Same H0 (upd H0 p (.lst [])):=Same.new ad;have ah:∀ {H},SameX p (upd H0 p (.lst [])) H->Same H0 H:=λ{H} h b o e=>h b o (zae e ad) (ap b o e);have aq:∀l:List Nat,NoLs (l.map G):=λl=>by
  induction l with
  |nil=>exact .nil
  |cons a r ar=>exact .cons (al a) ar
 refine⟨λi m σ H=>m=n-i/\i<=n/\I σ/\SameX p (upd H0 p (.lst [])) H/\∃vs,H p=some (.lst vs)/\vs.length<=i/\Reps z H vs (((List.range i).filter keep).map G),⟨n,J,Nat.zero_le _,ak,.refl,[],zab,Nat.le_refl _,.nil⟩,?_⟩;rintro i m σ H ⟨rfl,hi,as,O,vs,Z,av,R⟩;by_cases W:i<n
 .refine .inr ⟨Y.go i H W O,λσ' H'=>I σ'/\SameX p (upd H0 p (.lst [])) H'/\∃vs,H' p=some (.lst vs)/\vs.length<=i+1/\Reps z H' vs (((List.range (i+1)).filter keep).map G),λσ' H' ⟨a,b,c⟩=>⟨n-(i+1),by omega,J,W,a,b,c⟩,λx H' y=>?_⟩;obtain⟨rfl,rfl⟩:=Y.yld i H x H' W O y;have ai:((List.range (i+1)).filter keep).map G=((List.range i).filter keep).map G++(if keep i then [G i] else []):=by
   rw[List.range_succ,List.filter_append,List.map_append];cases g:keep i<;>simp[g]
  refine am i σ H' (λv F B=>∃ys,B p=some (.lst ys)/\ys.length<sizeLine/\(I F/\SameX p (upd H0 p (.lst [])) (upd B p (.lst (ys++[v])))/\∃vs,upd B p (.lst (ys++[v])) p=some (.lst vs)/\vs.length<=i+1/\Reps z (upd B p (.lst (ys++[v]))) vs (((List.range (i+1)).filter keep).map G))) _ W as (ah O) (λaa F v B ab U R2=>?_) λaa F B ab U=>?_
  .have aj:=U _ _ Z;have aw:(100000:Nat)<sizeLine:=by rw[sizeLine_eq];decide
   refine⟨vs,aj,by omega,ab,(O.trans U.x).upd,vs++[v],zab,by simp;omega,?_⟩;refine Reps.updL aj ?_ (aq _);rw[ai,aa];exact(R.mono U.x).append (.cons R2 .nil)
  .refine⟨ab,O.trans U.x,vs,U _ _ Z,by omega,?_⟩;rw[ai,aa];simpa using R.mono U.x
 .have e:i=n:=by omega
  subst e;exact .inl ⟨Y.stop H O,ao σ H vs (ah O) Z R⟩
theorem zfK{B D:Type}(xs:List B)(d:B)(p:B->Bool)(f:B->D):((List.range xs.length).filter λi=>p (xs.getD i d)).map (λi=>f (xs.getD i d))=(xs.filter p).map f:=by
 have e:(List.range xs.length).map (λi=>xs.getD i d)=xs:=by
  refine List.ext_getElem (by simp) λi h1 h2=>?_;simp at h1;simp[h1]
 have:(xs.filter p).map f=(((List.range xs.length).map (λi=>xs.getD i d)).filter p).map f:=by rw[e]
 rw[this,List.filter_map,List.map_map];rfl
noncomputable def fitsP(b:Bk)(ds:List LDr)(x:Str)(i:Nat):List Mk:=(possL b ds).filter λm=>stAt x m.1 i
noncomputable abbrev mk0:Mk:=(⟨#[]⟩,none)
theorem zgQ{z:Addr}{H:Hp}{v:V}{m:Mk}(r:Rep z H v (mkD m)):∃a u,v=.ref a/\a≠z/\H a=some (.tup [.str m.1,u])/\m.1.length<=1000/\Rep z H u (mkOD m.2):=by
 cases r with
 |tup h B r=>
  cases r with
  |cons D r=>
   cases r with
   |cons F r=>
    cases r;cases D with
    |str _ h1=>exact⟨_,_,J,B,h,h1,F⟩
theorem zeQ{z:Addr}{H:Hp}{xs:List V}{ms:List Mk}{i:Nat}(r:Reps z H xs (ms.map mkD))(hi:i<ms.length):Rep z H (xs.getD i .non) (mkD (ms.getD i mk0)):=by
 have:=r.get (i:=i) (by simpa using hi);simpa [hi] using this
inductive zgR:List V->Hp->VK->XK->Prop where
 |mk {vs:List V} {H:Hp} {Q:VK} {E:XK} (z v b q ds x:_) (i:Nat) (c1:vs=[v,.str x,.int i,.ref q]) (c2:Bag z H) (c3:Rep z H v (bkD b)) (c4:BkOk b) (c5:PDs z H q ds) (c6:LdOk b ds) (c7:∀p ws H',Same H H'->H p=none->H' p=some (.lst ws)->Reps z H' ws ((fitsP b ds x i).map mkD)->Q (.ref p) H'):zgR vs H Q E
theorem zmp:zav ["book","text","place","doors"] ["book","text","place","doors"] (zag zdt):=⟨J,J,J,by decide +kernel,J,by decide +kernel,by decide +kernel⟩
theorem zkR:(["mark","door","place","text"]:List Str).Nodup:=by decide +kernel
theorem ziR{b:Bk}{ds:List LDr}(B:∀t∈b,TgOk b.length t):(possL b ds).length<=10:=by
 unfold possL;have h1:(lastL ds).length<=1:=by unfold lastL;rw[List.length_drop];omega
 have h2:(b.getD (zan ds).toNat tg0).2.length<=6:=by
  by_cases h:(zan ds).toNat<b.length
  .exact(B _ (getD_mem tg0 h)).2.1
  .have:b.getD (zan ds).toNat tg0=tg0:=by simp[h]
   rw[this];exact Nat.zero_le _
 rw[List.length_append,List.length_map,List.length_map];omega
theorem zlw{f B:Addr}{fd I:FuncData}(F:Fun K "fitting_marks" "fitting_marks" zdt f fd)(k1:W.keepIn K (.ref B)=true)(ac:Binds K I ["book","doors"] [])(ad:mg "possible_marks"=some (.ref B))(ae:FnOk P w K mg base CX0 2 B I ["book","doors"] zfI):FnOk P w K mg base CX0 3 f fd ["book","text","place","doors"] zgR:=by
 refine F.ok zmp (λvs H Q E h=>?_) (λcdv A outer s H vs Q E af h=>?_)
 .obtain⟨z,v,b,q,ds,x,i,rfl,_⟩:=h;rfl
 .obtain⟨z,v,b,q,ds,x,i,rfl,J0,ag,O,ah,ai,k⟩:=h;refine⟨_,zai (zax (zaZ (N':=["mark","door","place","text"]) (js:=[none,none,some 2,some 1]) J J (zbc (zag zdt) (by decide +kernel)) ⟨J,Or.inr (Or.inl J),J,J,Or.inr (Or.inl J),J,trivial⟩ (zbg (zas ae af J ad k1 ac .nil pass0 (zaa (pv 0) (zaa (pv 3) zad))))
    (λcl s H fp=>zh9 2 rfl (zaw (zaq (i:=0) zkR J (Or.inl J) (Or.inr J)) (zaw (zaq (i:=1) zkR J (Or.inl J) (Or.inr J)) za6)))
    (λcl s H fp=>zcj (zeb (zix PySem.F.plainAttrs_str PySem.F.slot_str_startswith PySem.F.type_str_startswith zcR (pv 3) (zaa (pv 0) (zaa (pv 2) zad)))))
    (λcl s H fp=>za9 (zaa (pv 0) (zaa (pv 1) zad))))),?_⟩
  dsimp only[cxOf,Cx.nox,Cx.wish];have av:=za2;refine⟨_,J,_,J,z,v,b,q,ds,J,J0,ag,O,ah,ai,λl U H1 D aw G V=>?_⟩;have ax:=ziR (ds:=ds) O.2.2.1;have aj:U.length=(possL b ds).length:=by have:=V.length;simpa using this
  refine⟨l,J,⟨_,SqL.of G⟩,λp np=>?_⟩;have Y:l≠p:=zae G np;refine zcz (z:=z) (λj=>stAt x ((possL b ds).getD j mk0).1 i) (λj=>mkD ((possL b ds).getD j mk0)) (λσ=>∃u v,σ=[u,v,some (.int i),some (.str x)]) ⟨none,none,J⟩ np (by omega) (zbe (xs:=U) (by rw[zak Y];exact G) Y) (λj=>zkQ _) (λj σ H2 ay az aA ⟨u,v,ak⟩ Z al am=>?_) (λσ H2 vs ao ap R2=>?_)
  .subst ak;have aq:=(zeQ (ms:=possL b ds) (i:=j) V (by omega)).mono Z.x (z:=z);obtain⟨a,u,e,aB,ar,as,au⟩:=zgQ aq;rw[e];refine⟨a,_,J,SqT.of ar,J,_,_,J,_,_,J,J,?_⟩;refine⟨_,J,J,_,J,_,J,_,_,i,J,J,_,J,?_⟩;refine ite2 (λh=>?_) (λh=>?_)
   .refine⟨_,J,_,J,by show (2:Nat)<=_;omega,λpt aa=>?_⟩;have ab:=Same.new (o:=.tup [.str ((possL b ds).getD j mk0).1,u]) aa;refine al h _ _ _ ⟨_,_,J⟩ ab (.tup zab (((J0.same D).same Z).ne aa) (.cons (.str _ as) (.cons (au.mono ab.x) .nil)))
   .exact am (by simpa using h) _ _ ⟨_,_,J⟩ (Same.refl _)
  .rw[aj,zfK (possL b ds) mk0 (λm=>stAt x m.1 i) mkD] at R2;exact k p vs H2 (D.trans ao) (D.free np) ap R2
noncomputable def takeL(ds:List LDr)(i:Nat)(m:Str):Option Dr->Stp×List LDr
 |none=>(((i:Int),(m.length:Int),Str.ofString "close",zan ds.dropLast,(ds.length:Int)-1),ds.dropLast)
 |some d=>(((i:Int),(m.length:Int),Str.ofString "open",zan ds,(ds.length:Int)),ds++[((i:Int),d.2.1,d.2.2)])
theorem ziS{z:Addr}{H:Hp}{v:V}{d:Dr}(r:Rep z H v (drD d)):∃a,v=.ref a/\a≠z/\H a=some (.tup [.str d.1,.int d.2.1,.str d.2.2])/\d.2.2.length<=1000:=by
 cases r with
 |tup h B r=>
  cases r with
  |cons D r=>
   cases r with
   |cons F r=>
    cases r with
    |cons G r=>
     cases r;cases D;cases F;cases G with
     |str _ I=>exact⟨_,J,B,h,I⟩
inductive zeR:List V->Hp->VK->XK->Prop where
 |mk {vs:List V} {H:Hp} {Q:VK} {E:XK} (z m u o:_) (i:Nat) (q ds:_) (c1:vs=[.str m,u,.int i,.ref q]) (c2:Bag z H) (c3:q≠z) (c4:Rep z H u (mkOD o)) (c5:m.length<=1000) (c6:PDs z H q ds) (c7:ds.length<=20000) (c8:(o=none->0<ds.length)) (c9:∀p H',SameX q H H'->H p=none->H' p=some (.tup (stV (takeL ds i m o).1))->PDs z H' q (takeL ds i m o).2->Q (.ref p) H'):zeR vs H Q E
noncomputable def zgS(b:Bk)(ds:List LDr)(x:Str)(i:Nat):Stp:=
 if (⟨#[x.cps.getD i 0]⟩:Str)=(b.getD (zan ds).toNat tg0).1 then
  (if i+1<x.length then ((i:Int),2,Str.ofString "escape",zan ds,(ds.length:Int)) else ((i:Int),1,Str.ofString "cut",zan ds,(ds.length:Int)))
 else ((i:Int),1,Str.ofString "sign",zan ds,(ds.length:Int))
inductive zdv:List V->Hp->VK->XK->Prop where
 |mk {vs:List V} {H:Hp} {Q:VK} {E:XK} (z v b q ds x:_) (i:Nat) (c1:vs=[v,.str x,.int i,.ref q]) (c2:Rep z H v (bkD b)) (c3:BkOk b) (c4:PDs z H q ds) (c5:LdOk b ds) (c6:i<x.length) (c7:x.length<=20000) (c8:∀p H',Same H H'->H p=none->H' p=some (.tup (stV (zgS b ds x i)))->Q (.ref p) H'):zdv vs H Q E
theorem scTakeM:zav ["mark","door","place","doors","step","opening","inner","close"] ["mark","door","place","doors"] (zag ziG):=⟨J,J,J,by decide +kernel,J,by decide +kernel,by decide +kernel⟩
theorem zj2{f V:Addr}{fd ac:FuncData}(F:Fun K "take_mark" "take_mark" ziG f fd)(T:TxtB mg)(k1:W.keepIn K (.ref V)=true)(ad:Binds K ac ["doors"] [])(ae:mg "tongue_within"=some (.ref V))(af:FnOk P w K mg base CX0 1 V ac ["doors"] zb9):FnOk P w K mg base CX0 2 f fd ["mark","door","place","doors"] zeR:=by
 refine F.ok scTakeM (λvs H Q E h=>?_) (λcdv A outer s H vs Q E ag h=>?_)
 .obtain⟨z,m,u,o,i,q,ds,rfl,_⟩:=h;rfl
 .obtain⟨z,m,u,o,i,q,ds,rfl,al,av,ah,aw,⟨vs,B,J0⟩,ax,am,k⟩:=h;have O:=scTakeM.nd;have ay:=za2;have az:(100000:Nat)<=sizeLine:=by rw[sizeLine_eq];decide
  have ao:vs.length=ds.length:=by have:=J0.length;simpa using this
  refine⟨_,zac (zaY (zat zlW (pv 1) zea (zaz _))
    (zac (zaU (zfo PySem.F.plainAttrs_list PySem.F.slot_list_pop PySem.F.type_list_pop zgw (pv 3)))
    (zai (zax (za9 (zaa (pv 2) (zaa (zao zam (by rfl) T.len b_len (zaa (pv 0) zad)) (zaa zay (zaa (zas af ag J ae k1 ad .nil pass0 (zaa (pv 3) zad)) (zaa (zao zaD (by rfl) T.len b_len (zaa (pv 3) zad)) zad))))))))) zaA)
   (zac (zap (i:=4) O J (Or.inl J) (za9 (zaa (pv 2) (zaa (zao zam (by rfl) T.len b_len (zaa (pv 0) zad)) (zaa zay (zaa (zas af ag J ae k1 ad .nil pass0 (zaa (pv 3) zad)) (zaa (zao zaD (by rfl) T.len b_len (zaa (pv 3) zad)) zad)))))))
   (zac (zbz (pv 1) (zbF J (zaw (zaq (i:=5) O J (Or.inl J)) (zaw (zaq (i:=6) O J (Or.inl J)) (zaw (zaq (i:=7) O J (Or.inl J)) za6)))))
   (zac (zaU (zbN PySem.F.plainAttrs_list PySem.F.slot_list_append PySem.F.type_list_append zaL (pv 3) (zaa (za9 (zaa (pv 6) (zaa (pv 7) zad))) zad)))
   (zai (zax (pv 4)))))),?_⟩
  dsimp only[cxOf,Cx.nox,Cx.wish];cases o with
  |none=>
   cases ah;have hpos:=am rfl;refine⟨_,J,J,_,J,?_⟩;refine iteT ?_;refine⟨_,J,.inl ⟨J,_,SqL.of B⟩,q,vs,_,J,J,B,zkM (by omega),?_⟩;have G:upd H q (.lst vs.dropLast) q=some (.lst vs.dropLast):=zab;have Y:Reps z (upd H q (.lst vs.dropLast)) vs.dropLast (ds.dropLast.map pdD):=by
    rw[List.map_dropLast];exact Reps.updL B J0.dropLast (by rw[←List.map_dropLast];exact zcK _)
   have Z:SameX q H (upd H q (.lst vs.dropLast)):=SameX.refl.upd;generalize upd H q (.lst vs.dropLast)=H1 at G Y Z;refine⟨_,J,_,J,m,J,by omega,_,J,z,q,ds.dropLast,J,⟨_,G,Y⟩,_,J,q,_,J,.inl (SqL.of G),by show (5:Nat)<=_;omega,λp np=>?_⟩;have ap:H p=none:=by
    cases e:H p with
    |none=>rfl
    |some o=>
     have aq:p≠q:=(zae G np).symm;rw[Z p o aq e] at np;cases np
   have D:=Same.new (o:=.tup [.int i,.int m.length,.str (Str.ofString "close"),.int (zan ds.dropLast),.int vs.dropLast.length]) np;refine k p _ (Z.trans D.x) ap ?_ ⟨_,D _ _ G,Y.mono D.x⟩;rw[zab];have:((vs.dropLast.length:Nat):Int)=(ds.length:Int)-1:=by simp;omega
   rw[this];rfl
  |some d=>
   obtain⟨a,rfl,aA,ar,as⟩:=ziS ah;refine⟨_,J,J,_,J,?_⟩;refine iteF ?_;refine⟨_,J,_,J,m,J,by omega,_,J,z,q,ds,J,⟨_,B,J0⟩,_,J,q,_,J,.inl (SqL.of B),by show (5:Nat)<=_;omega,λp np=>?_⟩;have I:=Same.new (o:=.tup [.int i,.int m.length,.str (Str.ofString "open"),.int (zan ds),.int vs.length]) np;have ai:upd H p (.tup [.int i,.int m.length,.str (Str.ofString "open"),.int (zan ds),.int vs.length]) p=some (.tup (stV (takeL ds i m (some d)).1)):=by
    rw[zab,ao];rfl
   generalize upd H p (.tup [.int i,.int m.length,.str (Str.ofString "open"),.int (zan ds),.int vs.length])=H1 at I ai;refine⟨_,J,a,_,J,SqT.of (I _ _ ar),J,_,_,J,_,_,J,_,_,J,J,?_⟩;refine⟨_,J,.inl ⟨J,_,SqL.of (I _ _ B)⟩,_,J,_,J,by show (2:Nat)<=_;omega,λpt aj=>?_⟩;have D:=Same.new (o:=.tup [.int d.2.1,.str d.2.2]) aj;have ak:upd H1 pt (.tup [.int d.2.1,.str d.2.2]) pt=some (.tup [.int d.2.1,.str d.2.2]):=zab;have au:pt≠z:=(al.same I).ne aj;have U:=I.trans D;have aa:=D _ _ ai;generalize upd H1 pt (.tup [.int d.2.1,.str d.2.2])=H2 at ak U aa;have ab:=U _ _ B;refine⟨q,vs,_,J,J,ab,by omega,?_⟩;refine⟨_,J,?_⟩;refine k p _ (U.x.upd) np ?_ ⟨_,zab,?_⟩
   .rw[zak (zar aa ab (by intro q;cases q))];exact aa
   .refine Reps.updL ab ?_ (zcK _);show Reps z H2 _ ((ds++[((i:Int),d.2.1,d.2.2)]).map pdD);rw[List.map_append];exact(J0.mono U.x).append (.cons (.tup ak au (.cons (.int _) (.cons (.str _ as) .nil))) .nil)
theorem scPlainR:zav ["book","text","place","doors","tongue","escape","ways"] ["book","text","place","doors"] (zag zf7):=⟨J,J,J,by decide +kernel,J,by decide +kernel,by decide +kernel⟩
theorem ziT{f G:Addr}{fd V:FuncData}(F:Fun K "read_plain" "read_plain" zf7 f fd)(T:TxtB mg)(k1:W.keepIn K (.ref G)=true)(aa:Binds K V ["doors"] [])(ab:mg "tongue_within"=some (.ref G))(ac:FnOk P w K mg base CX0 1 G V ["doors"] zb9):FnOk P w K mg base CX0 2 f fd ["book","text","place","doors"] zdv:=by
 refine F.ok scPlainR (λvs H Q E h=>?_) (λcdv A outer s H vs Q E ad h=>?_)
 .obtain⟨z,v,b,q,ds,x,i,rfl,_⟩:=h;rfl
 .obtain⟨z,v,b,q,ds,x,i,rfl,ae,af,⟨vs,D,Y⟩,ag,hi,aq,k⟩:=h;obtain⟨a,xs,rfl,ar,ah,as,R⟩:=zb6 ae;obtain⟨ai,au,av,_⟩:=af;have I:=scPlainR.nd;have aw:=za2;have ax:(100000:Nat)<=sizeLine:=by rw[sizeLine_eq];decide
  have J0:vs.length=ds.length:=by have:=Y.length;simpa using this
  refine⟨_,zac (zap (i:=4) I J (Or.inl J) (zas ac ad J ab k1 aa .nil pass0 (zaa (pv 3) zad)))
   (zac (zbz (zau ix_tup (pv 0) (pv 4) (λ_ _=>rfl)) (zbF J (zaw (zaq (i:=5) I J (Or.inl J)) (zaw (zaq (i:=6) I J (Or.inl J)) za6))))
   (zac (zaY (zat zfg (zau zgv (pv 1) (pv 2) (λ_ _=>rfl)) (pv 5) (zaz _)) (zai (zax (za9 (zaa (pv 2) (zaa zaf (zaa zay (zaa (pv 4) (zaa (zao zaD (by rfl) T.len b_len (zaa (pv 3) zad)) zad)))))))) zaA)
   (zac (zaY (zat zd7 (zaB zaN (pv 2) zaf) (zao zam (by rfl) T.len b_len (zaa (pv 1) zad)) (zaz _)) (zai (zax (za9 (zaa (pv 2) (zaa zaf (zaa zay (zaa (pv 4) (zaa (zao zaD (by rfl) T.len b_len (zaa (pv 3) zad)) zad)))))))) zaA)
   (zai (zax (za9 (zaa (pv 2) (zaa zaf (zaa zay (zaa (pv 4) (zaa (zao zaD (by rfl) T.len b_len (zaa (pv 3) zad)) zad))))))))))),?_⟩
  dsimp only[cxOf,Cx.nox,Cx.wish];have aj:x.cps.toList[i]?=some (x.cps.getD i 0):=by
   have:i<x.cps.size:=hi;simp[Array.getD,this]
  obtain⟨B,Z,ak⟩:=za5 ag ai;obtain⟨c,d,ys,al,ay,az,am,aA,aB,aC⟩:=za0 (zaP (b:=b) (i:=B) R ak);have ao:xs[B]?=some (.ref c):=by
   have h1:B<xs.length:=by omega
   have h2:xs.getD B .non=xs[B]:=by simp[h1]
   rw[List.getElem?_eq_getElem h1,←h2,al]
  have ap:b.getD (zan ds).toNat tg0=b.getD B tg0:=by rw[Z];rfl
  unfold zgS at k;rw[ap] at k;refine⟨_,J,z,q,ds,J,⟨_,D,Y⟩,?_⟩;refine⟨_,J,_,J,a,xs,zan ds,_,J,J,SqT.of ah,by rw[Z];exact zaj ao,c,_,J,SqT.of am,J,_,_,J,_,_,J,J,?_⟩;refine⟨_,J,_,J,x,i,_,J,J,by omega,zaj aj,_,J,J,_,J,?_⟩;refine ite2 (λg=>?_) (λg=>?_)
  .have O:¬(⟨#[x.cps.getD i 0]⟩:Str)=(b.getD B tg0).1:=λe=>by rw[e] at g;simp at g
   rw[if_neg O] at k;refine⟨_,J,_,J,_,J,q,_,J,.inl (SqL.of D),by show (5:Nat)<=_;omega,λp np=>?_⟩;refine k p _ (Same.new np) np ?_;rw[zab,J0];rfl
  .have O:(⟨#[x.cps.getD i 0]⟩:Str)=(b.getD B tg0).1:=by simpa using g
   rw[if_pos O] at k;refine⟨_,J,_,_,J,J,_,J,x,J,by omega,_,_,J,J,_,J,?_⟩;refine ite2 (λU=>?_) (λU=>?_)
   .have h2:i+1<x.length:=by have:=of_decide_eq_true U;omega
    rw[if_pos h2] at k;refine⟨_,J,_,J,_,J,q,_,J,.inl (SqL.of D),by show (5:Nat)<=_;omega,λp np=>?_⟩;refine k p _ (Same.new np) np ?_;rw[zab,J0];rfl
   .have h2:¬i+1<x.length:=λh=>U (decide_eq_true (by omega));rw[if_neg h2] at k;refine⟨_,J,_,J,_,J,q,_,J,.inl (SqL.of D),by show (5:Nat)<=_;omega,λp np=>?_⟩;refine k p _ (Same.new np) np ?_;rw[zab,J0];rfl
theorem zcL{x:Str}{i k:Nat}(h:i+k<=x.length):cutS x (some (i:Int)) (some ((i:Int)+(k:Int)))=⟨x.cps.extract i (i+k)⟩:=by
 have e:((i:Int)+(k:Int))=((i+k:Nat):Int):=by omega
 rw[e];unfold cutS;rw[HT.sIx_nat,HT.sIx_nat,Nat.min_eq_left h,Nat.min_eq_left (by omega)];congr 1;apply Array.ext';simp[Array.toList_extract,List.extract_eq_drop_take]
theorem zcA{x m:Str}{i:Nat}(hi:i<=x.length):stAt x m i=fitAt x i m:=by
 cases g:fitAt x i m with
 |true=>
  have B:=zf9 g hi;have a:=of_decide_eq_true g;have a:cutS x (some (i:Int)) (some ((i:Int)+m.length))=m:=by injection a
  rw[zcL B] at a;have D:x.cps.extract i (i+m.length)=m.cps:=congrArg Str.cps a;unfold stAt Builtin.Str.subAt;rw[decide_eq_true B,D];simp
 |false=>
  cases g2:stAt x m i with
  |false=>rfl
  |true=>
   exfalso;unfold stAt Builtin.Str.subAt at g2;rw[Bool.and_eq_true] at g2;have B:=of_decide_eq_true g2.1;have D:x.cps.extract i (i+m.length)=m.cps:=by simpa using g2.2
   have:fitAt x i m=true:=by
    unfold fitAt;rw[zcL B,D];simp
   rw[g] at this;cases this
theorem ziU{x m:Str}{i:Nat}(hi:i<=x.length)(h:fitAt x i m=true)(G:1<=m.length):x.cps.getD i 0∈m.cps.toList:=by
 have D:=zf9 h hi;have a:=of_decide_eq_true h;have a:cutS x (some (i:Int)) (some ((i:Int)+m.length))=m:=by injection a
 rw[zcL D] at a;have F:x.cps.extract i (i+m.length)=m.cps:=congrArg Str.cps a;rw[←F];have I:i+m.length<=x.cps.size:=D;have B:i<x.cps.size:=by omega
 rw[Array.toList_extract,List.extract_eq_drop_take];have e:x.cps.getD i 0=x.cps.toList[i]'(by simpa using B):=by simp[Array.getD,B]
 rw[e,List.drop_eq_getElem_cons (by simpa using B)];have:i+m.length-i=(m.length-1)+1:=by omega
 rw[this,List.take_succ_cons];exact List.mem_cons_self
theorem zgT{b:Bk}(B:BkOk b){t:Tg}(D:t∈b){m:Str}(F:m∈zgJ b){c:Nat}(G:c∈m.cps.toList):(⟨#[c]⟩:Str)≠t.1:=λe=>by
 have h:=B.2.2.2;unfold bookB at h;simp only[Bool.and_eq_true,Bool.not_eq_true'] at h;have h2:=h.1.2;unfold escB at h2;rw[List.any_eq_false] at h2;have I:=h2 m F;apply I;unfold escIn;rw[List.any_eq_true];refine⟨c,G,?_⟩;rw[List.any_eq_true];exact⟨t.1,List.mem_map_of_mem D,by rw[e];exact beq_self_eq_true _⟩
theorem zel{b:Bk}{ds:List LDr}(F:LdBk b ds){m:Str}(hm:m∈someL b ds):m∈zgJ b:=by
 unfold someL at hm;rcases List.mem_append.mp hm with hm|hm
 .obtain⟨dd,B,rfl⟩:=List.mem_map.mp hm;by_cases D:(zan ds).toNat<b.length
  .exact List.mem_flatMap.mpr ⟨_,getD_mem tg0 D,List.mem_flatMap.mpr ⟨dd,B,List.mem_cons_self⟩⟩
  .have e:b.getD (zan ds).toNat tg0=tg0:=by simp[D]
   rw[e] at B;cases B
 .obtain⟨dd,B,rfl⟩:=List.mem_map.mp hm;obtain⟨t,G,I,J0,U,O⟩:=F dd (List.mem_of_mem_drop B);rw[O];exact List.mem_flatMap.mpr ⟨t,G,List.mem_flatMap.mpr ⟨I,J0,List.mem_cons_of_mem _ List.mem_cons_self⟩⟩
theorem zco{b:Bk}{ds:List LDr}{y:Mk}(h:y∈possL b ds):y.1∈someL b ds:=by
 unfold possL at h;unfold someL;rcases List.mem_append.mp h with h|h
 .obtain⟨d,B,rfl⟩:=List.mem_map.mp h;exact List.mem_append_right _ (List.mem_map_of_mem B)
 .obtain⟨d,B,rfl⟩:=List.mem_map.mp h;exact List.mem_append_left _ (List.mem_map_of_mem B)
theorem zcU{b:Bk}{ds:List LDr}{m:Str}(h:m∈someL b ds):∃y∈possL b ds,y.1=m:=by
 unfold someL at h;unfold possL;rcases List.mem_append.mp h with h|h
 .obtain⟨d,B,rfl⟩:=List.mem_map.mp h;exact⟨_,List.mem_append_right _ (List.mem_map_of_mem B),J⟩
 .obtain⟨d,B,rfl⟩:=List.mem_map.mp h;exact⟨_,List.mem_append_left _ (List.mem_map_of_mem B),J⟩
theorem ziV{b:Bk}{ds:List LDr}{x:Str}{i:Nat}{m:Str}{o:Option Dr}{r:List Mk}(F:m≠Str.ofString "")(G:(⟨#[x.cps.getD i 0]⟩:Str)≠(b.getD (zan ds).toNat tg0).1)(h:(possL b ds).filter (λy=>y.1==m)=(m,o)::r):stepL b ds x i m=takeL ds i m o:=by
 unfold stepL;rw[if_neg (λq=>G q.2),if_neg F];unfold possL at h;rw[List.filter_append,List.filter_map,List.filter_map] at h;by_cases B:ds≠[]/\m=(ds.getD (ds.length-1) ld0).2.2
 .rw[if_pos B];have hpos:0<ds.length:=List.length_pos_iff.mpr B.1;rw[zfJ hpos] at h;have:((ds.getD (ds.length-1) ld0).2.2==m)=true:=by rw[←B.2];exact beq_self_eq_true _
  have D:[ds.getD (ds.length-1) ld0].filter ((λy:Mk=>y.1==m)∘λd:LDr=>((d.2.2,none):Mk))=[ds.getD (ds.length-1) ld0]:=by
   rw[List.filter_cons_of_pos]
   .rfl
   .exact this
  rw[D] at h;have h':(((ds.getD (ds.length-1) ld0).2.2,none):Mk)=(m,o):=(List.cons.inj h).1;have:o=none:=by injection h' with _ q;exact q.symm
  subst this;rfl
 .rw[if_neg B];have D:(lastL ds).filter ((λy:Mk=>y.1==m)∘λd:LDr=>((d.2.2,none):Mk))=[]:=by
   rw[List.filter_eq_nil_iff];intro d I q;have q:(d.2.2==m)=true:=q;have q:=eq_of_beq q;exact B (zek (List.mem_map.mpr ⟨d,I,q⟩))
  rw[D] at h;have J0:((λy:Mk=>y.1==m)∘λd:Dr=>((d.1,some d):Mk))=λd:Dr=>d.1==m:=rfl;rw[J0] at h;cases g:(b.getD (zan ds).toNat tg0).2.filter (λd=>d.1==m) with
  |nil=>
   rw[g] at h;cases h
  |cons d O=>
   rw[g] at h;have h':((d.1,some d):Mk)=(m,o):=(List.cons.inj h).1;have:o=some d:=by injection h' with _ q;exact q.symm
   subst this;rfl
theorem zhv{b:Bk}{ds:List LDr}{x:Str}{i:Nat}(hi:i<x.length)(h:fitsP b ds x i=[]):stepL b ds x i (bestL b ds x i)=(zgS b ds x i,ds):=by
 have D:fitL b ds x i=[]:=by
  unfold fitL;rw[List.filter_eq_nil_iff];intro m F q;obtain⟨y,G,rfl⟩:=zcU F;unfold fitsP at h;rw[List.filter_eq_nil_iff] at h;apply h y G;rw[zcA (by omega)];exact q
 have I:bestL b ds x i=Str.ofString "":=by unfold bestL;rw[D,zaR];rfl
 rw[I];unfold stepL zgS;by_cases B:(⟨#[x.cps.getD i 0]⟩:Str)=(b.getD (zan ds).toNat tg0).1
 .have J0:(b.getD (zan ds).toNat tg0).1≠Str.ofString "":=λe=>by
   rw[e,zaR] at B;have:(#[x.cps.getD i 0]:Array Nat)=#[]:=congrArg Str.cps B;simp at this
  rw[if_pos ⟨J0,B⟩,if_pos B];by_cases h1:i+1=x.length
  .rw[if_pos h1,if_neg (by omega)]
  .rw[if_neg h1,if_pos (by omega)]
 .rw[if_neg (λq=>B q.2),if_pos J,if_neg B]
theorem zfL{l:List Mk}{j:Nat}{y:Mk}(D:l[j]?=some y)(F:∀B,B<j->∀y',l[B]?=some y'->y'.1.length<y.1.length):∃r,l.filter (λz=>z.1==y.1)=y::r:=by
 induction l generalizing j with
 |nil=>simp at D
 |cons a l G=>
  cases j with
  |zero=>
   have:a=y:=by simpa using D
   subst this;exact⟨_,List.filter_cons_of_pos (p:=λz:Mk=>z.1==a.1) (beq_self_eq_true a.1)⟩
  |succ j=>
   have I:=F 0 (by omega) a rfl;have J0:¬(a.1==y.1)=true:=λq=>by
    have:=eq_of_beq q;rw[this] at I;omega
   rw[List.filter_cons_of_neg (p:=λz:Mk=>z.1==y.1) J0];exact G (by simpa using D) λB U y' O=>F (B+1) (by omega) y' (by simpa using O)
theorem zfM{b:Bk}{ds:List LDr}{x:Str}{i:Nat}(U:BkOk b)(V:LdBk b ds)(hi:i<x.length){j:Nat}{y:Mk}(W:(fitsP b ds x i)[j]?=some y)(Y:∀B y',(fitsP b ds x i)[B]?=some y'->y'.1.length<=y.1.length/\(B<j->y'.1.length<y.1.length)):stepL b ds x i (bestL b ds x i)=takeL ds i y.1 y.2:=by
 have Z:=U.2.2.1;have aa:=List.mem_of_getElem? W;have D:y∈possL b ds:=(List.mem_filter.mp aa).1;have ab:stAt x y.1 i=true:=(List.mem_filter.mp aa).2;have F:fitAt x i y.1=true:=by rw[←zcA (by omega)];exact ab
 have ac:=zb8 (x:=x) (i:=i) Z (V.ok Z);have G:y.1∈fitL b ds x i:=List.mem_filter.mpr ⟨zco D,F⟩;have af:bestL b ds x i=y.1:=by
  unfold bestL;rcases zbt (l:=fitL b ds x i) λm ag=>ac m (List.mem_filter.mp ag).1 with⟨h1,_⟩|⟨h1,h2⟩
  .rw[h1] at G;cases G
  .have I:=List.mem_filter.mp h1;obtain⟨y',J0,e⟩:=zcU I.1;have:y'∈fitsP b ds x i:=List.mem_filter.mpr ⟨J0,by rw[e,zcA (by omega)];exact I.2⟩;obtain⟨B,O⟩:=List.getElem?_of_mem this;have ah:=(Y B y' O).1;rw[e] at ah;have al:=h2 y.1 G;exact zkN I.2 F (by omega)
 rw[af];have ad:=ac y.1 (zco D);obtain⟨r,ai⟩:=zfL W λB O y' J0=>(Y B y' J0).2 O;have aj:(possL b ds).filter (λz=>z.1==y.1)=(y.1,y.2)::r:=by
  rw[←ai];unfold fitsP;rw[List.filter_filter];refine List.filter_congr λz _=>?_;cases g:z.1==y.1 with
  |false=>rfl
  |true=>
   rw[eq_of_beq g,ab];rfl
 refine ziV (λe=>?_) (λe=>?_) aj
 .have:=ad.1;rw[e,zaR] at this;exact absurd this (by decide)
 .by_cases ae:(zan ds).toNat<b.length
  .exact zgT U (getD_mem tg0 ae) (zel V (zco D)) (ziU (by omega) F ad.1) e
  .have ak:b.getD (zan ds).toNat tg0=tg0:=by simp[ae]
   rw[ak] at e;have:(#[x.cps.getD i 0]:Array Nat)=#[]:=congrArg Str.cps e;simp at this
end T1
namespace L2
open PySem PySem.Spec PyProof.Rows
section
variable {P:Program}{w:World}{K:W.Frag}{mg:Str->Option Value}{base:Heap}
theorem Fun.okC{x qual:Str}{st:Stmt}{f c:Addr}{fd:FuncData}{N ps:List Str}{k:Nat}{sp:Sp}(F:Fun K x qual st f fd)(B:fd.code=.ref c)(S:zav N ps (zag st))(D:∀vs H Q E,sp vs H Q E->vs.length=ps.length)(G:∀(A:Around) (outer:List Env) (s:Shared) (H:Hp) (vs:List V) (Q:VK) (E:XK),Room k (A.deeper (envOfC qual (zag st) s.heap.objs.size f (.ref c)))->sp vs H Q E ->
   ∃t,PSs (cxOf CX0 P w K mg base N qual (zag st) f (.ref c) A outer s H E).nox (zbl st) t/\t { nx:=λ_ H'=>Q .non H',rt:=Q } (start N vs) H):FnOk P w K mg base CX0 (k+1) f fd ps sp:=by
 obtain⟨oc,od,kV,doc,pm,an,cdv,ct,osl,rfl,I,J0⟩:=F.ex;have B:cdv=.ref c:=B;subst B;refine zk3 I J0 S D λA outer s H vs Q E O U=>?_;obtain⟨t,h,q⟩:=G A outer s H vs Q E O U;exact⟨t,h.nox,q⟩
end
end L2
namespace T1
open PySem L2
variable {P:Program}{w:World}{K:W.Frag}{mg:Str->Option Value}{base:Heap}
noncomputable abbrev lamQ:Str:=(Str.ofString "read_step"++Str.ofString ".<locals>.")++Str.ofString "<lambda>"
noncomputable abbrev LamTb(tb:Addr)(H:Hp):Prop:=LamT tb lamLn lamCl lamQ H
theorem _root_.L2.LamT.same{P:Addr}{B cl:Nat}{q:Str}{H H':Hp}(h:LamT P B cl q H)(s:Same H H'):LamT P B cl q H':=by
 rcases h with h|⟨D,h1,h2⟩
 .exact .inl (s _ _ h)
 .exact .inr ⟨D,s _ _ h1,s _ _ h2⟩
theorem _root_.L2.LamT.sameX{P p:Addr}{D cl:Nat}{q:Str}{H H':Hp}{l:List V}(h:LamT P D cl q H)(B:H p=some (.lst l))(s:SameX p H H'):LamT P D cl q H':=by
 rcases h with h|⟨F,h1,h2⟩
 .exact .inl (s _ _ (zar h B (by intro q;cases q)) h)
 .exact .inr ⟨F,s _ _ (zar h1 B (by intro q;cases q)) h1,s _ _ (zar h2 B (by intro q;cases q)) h2⟩
mutual
theorem Rep.butT{z P:Addr}{H H':Hp}{ps:Array Value}(B:H P=some (.tbl ps))(s:ButX P H H'):∀ {v:V}{d:D},Rep z H v d->Rep z H' v d
 |_,_,.non=>.non
 |_,_,.bl b=>.bl b
 |_,_,.int i=>.int i
 |_,_,.str x h=>.str x h
 |_,_,.tup h F r=>.tup (s _ _ (zar h B (by intro q;cases q)) h) F (Reps.butT B s r)
 |_,_,.lst h F r=>.lst (s _ _ (zar h B (by intro q;cases q)) h) F (Reps.butT B s r)
theorem Reps.butT{z P:Addr}{H H':Hp}{ps:Array Value}(B:H P=some (.tbl ps))(s:ButX P H H'):∀ {vs:List V}{ds:List D},Reps z H vs ds->Reps z H' vs ds
 |_,_,.nil=>.nil
 |_,_,.cons h t=>.cons (Rep.butT B s h) (Reps.butT B s t)
end
noncomputable def But2(q t:Addr)(H H':Hp):Prop:=∀b o,b≠q->b≠t->H b=some o->H' b=some o
inductive zdW(tb:Addr):List V->Hp->VK->XK->Prop where
 |mk {vs:List V} {H:Hp} {Q:VK} {E:XK} (z v b q ds x:_) (i:Nat) (c1:vs=[v,.str x,.int i,.ref q]) (c2:Bag z H) (c3:q≠z) (c4:Rep z H v (bkD b)) (c5:BkOk b) (c6:PDs z H q ds) (c7:LdBk b ds) (c8:i<x.length) (c9:x.length<=20000) (c10:ds.length<=20000) (c11:LamTb tb H) (c12:∀p H',But2 q tb H H'->H p=none->H' p=some (.tup (stV (stepL b ds x i (bestL b ds x i)).1))->PDs z H' q (stepL b ds x i (bestL b ds x i)).2->LamTb tb H'->Q (.ref p) H'):zdW tb vs H Q E
theorem scStepP:zav ["book","text","place","doors","fits","mark","door"] ["book","text","place","doors"] (zag sStep):=⟨J,J,J,by decide +kernel,J,by decide +kernel,by decide +kernel⟩
theorem zj3{f c tb Z aa ab:Addr}{fd am ao ap:FuncData}(F:Fun K "read_step" "read_step" sStep f fd)(aI:fd.code=.ref c)(aJ:W.codeHdIn K c tb=true)(aK:base.BuiltinsAt mg tb)(T:TxtB mg)(aL:mg "max"=none)(k1:W.keepIn K (.ref Z)=true)(aM:Binds K am ["book","text","place","doors"] [])(aN:mg "fitting_marks"=some (.ref Z))(aO:FnOk P w K mg base CX0 3 Z am ["book","text","place","doors"] zgR)(k2:W.keepIn K (.ref aa)=true)(aP:Binds K ao ["book","text","place","doors"] [])(aQ:mg "read_plain"=some (.ref aa))(aR:FnOk P w K mg base CX0 2 aa ao ["book","text","place","doors"] zdv)(k3:W.keepIn K (.ref ab)=true)(aS:Binds K ap ["mark","door","place","doors"] [])(aT:mg "take_mark"=some (.ref ab))(aU:FnOk P w K mg base CX0 2 ab ap ["mark","door","place","doors"] zeR):FnOk P w K mg base CX0 4 f fd ["book","text","place","doors"] (zdW tb):=by
 refine F.okC aI scStepP (λvs H Q E h=>?_) (λA outer s H vs Q E O h=>?_)
 .obtain⟨z,v,b,q,ds,x,i,rfl,_⟩:=h;rfl
 .obtain⟨z,v,b,q,ds,x,i,rfl,aq,aV,ar,U,V,as,hi,aW,aX,au,k⟩:=h;have ac:=scStepP.nd;have aY:=U.2.2.1;have av:=as.ok aY;refine⟨_,zac (zap (i:=4) ac J (Or.inl J) (zas aO O J aN k1 aM .nil pass0 (zaa (pv 0) (zaa (pv 1) (zaa (pv 2) (zaa (pv 3) zad))))))
   (zac (zaY (zdD (zcP (pv 4) (λ_=>rfl))) (zai (zax (zas (aR.mono (by omega)) O J aQ k2 aP .nil pass0 (zaa (pv 0) (zaa (pv 1) (zaa (pv 2) (zaa (pv 3) zad))))))) zaA)
   (zac (zbz (zhl (P:=tb) (c:=c) J O.in1.depth aL T.len J aJ aK (pv 4) (λ_ _ _ _=>rfl)) (zbF J (zaw (zaq (i:=5) ac J (Or.inl J)) (zaw (zaq (i:=6) ac J (Or.inl J)) za6))))
   (zai (zax (zas (aU.mono (by omega)) O J aT k3 aS .nil pass0 (zaa (pv 5) (zaa (pv 6) (zaa (pv 2) (zaa (pv 3) zad))))))))),?_⟩
  dsimp only[cxOf,Cx.nox,Cx.wish];have bm:=za2;refine⟨_,J,_,J,_,J,_,J,z,v,b,q,ds,x,i,J,aq,ar,U,V,av,λaZ D H1 B bn aw ad=>?_⟩;have a1:D.length=(fitsP b ds x i).length:=by have:=ad.length;simpa using this
  refine⟨_,J,_,.inl ⟨D,SqL.of aw,J⟩,?_⟩;refine ite2 (λg=>?_) (λg=>?_)
  .have a2:fitsP b ds x i=[]:=by
    refine List.eq_nil_of_length_eq_zero ?_;cases D with
    |nil=>simp at a1;omega
    |cons _ _=>simp at g
   have ae:=zhv (b:=b) (ds:=ds) hi a2;rw[ae] at k;refine⟨_,J,_,J,_,J,_,J,z,v,b,q,ds,x,i,J,ar.mono B.x,U,V.same B,av,hi,aW,λp H2 af np ag=>?_⟩;exact k p H2 (λI o _ _ e=>(B.trans af) I o e) (B.free np) ag (V.same (B.trans af)) (au.same (B.trans af))
  .have hpos:0<D.length:=by
    cases D with
    |nil=>simp at g
    |cons _ _=>simp
   have ax:=au.same B;refine⟨_,J,aZ,D,(λj=>((fitsP b ds x i).getD j mk0).1),J,aw,hpos,(λj J0=>?_),ax,λH2 j y G ay J0 a3=>?_⟩
   .obtain⟨a,u,e,a4,ah,ai,az⟩:=zgQ (zeQ (ms:=fitsP b ds x i) (i:=j) ad (by omega));refine⟨a,[u],?_,ah,ai⟩;have h2:D.getD j .non=D[j]:=by simp[J0]
    rw[List.getElem?_eq_getElem J0,←h2,e]
   .obtain⟨ps,Y⟩:=ax.tbl;have bo:j<D.length:=(List.getElem?_eq_some_iff.mp J0).1;have a5:y=D.getD j .non:=by rw[List.getD_eq_getElem?_getD,J0];rfl
    have a6:=Rep.butT Y G (zeQ (ms:=fitsP b ds x i) (i:=j) ad (by omega));obtain⟨a,u,e,a4,ah,ai,az⟩:=zgQ a6;have aA:(fitsP b ds x i)[j]?=some ((fitsP b ds x i).getD j mk0):=by
     have h1:j<(fitsP b ds x i).length:=by omega
     simp[h1]
    have ae:=zfM U as hi aA (λaj y' aB=>by
     have h1:aj<(fitsP b ds x i).length:=(List.getElem?_eq_some_iff.mp aB).1;have:=a3 aj (by omega);have a7:(fitsP b ds x i).getD aj mk0=y':=by rw[List.getD_eq_getElem?_getD,aB];rfl
     dsimp only at this;rw[a7] at this;exact this)
    rw[ae] at k;generalize bp:(fitsP b ds x i).getD j mk0=ak at *;have aC:ak∈possL b ds:=(List.mem_filter.mp (List.mem_of_getElem? aA)).1;obtain⟨vs,a8,a9⟩:=V;have aD:=B _ _ a8;have aE:=G _ _ (zar aD Y (by intro q;cases q)) aD;have ba:=Reps.butT Y G (a9.mono B.x);have bb:Bag z H2:=by
     obtain⟨bc,bd,aF⟩:=aq.same B;exact⟨bc,bd,G _ _ (zar aF Y (by intro q;cases q)) aF⟩
    rw[a5,e];refine⟨a,_,J,SqT.of ah,J,_,_,J,_,_,J,J,?_⟩;refine⟨_,J,_,J,_,J,_,J,z,ak.1,u,ak.2,i,q,ds,J,bb,aV,az,ai,⟨vs,aE,ba⟩,aX,λaG=>?_,λp be aH np ag bf=>?_⟩
    .have bg:0<ds.length:=by
      unfold possL at aC;rcases List.mem_append.mp aC with h|h
      .obtain⟨d,al,_⟩:=List.mem_map.mp h;exact List.length_pos_iff.mpr (λq=>by rw[q] at al;cases al)
      .obtain⟨d,al,bh⟩:=List.mem_map.mp h;rw[←bh] at aG;cases aG
     exact bg
    .refine k p be (λI o bi bj bk=>aH I o bi (G I o bj (B I o bk))) ?_ ag bf (ay.sameX aE aH);cases e4:H p with
     |none=>rfl
     |some o=>
      have:H2 p=some o:=by
       refine G p o (λz=>?_) (B p o e4);subst z;obtain⟨bq,bl⟩:=ay.tbl;rw[bl] at np;cases np
      rw[this] at np;cases np
mutual
theorem Rep.but2{z q t:Addr}{H H':Hp}{l:List V}{ps:Array Value}(B:H q=some (.lst l))(F:H t=some (.tbl ps))(s:But2 q t H H'):∀ {v:V}{d:D},Rep z H v d->NoL d->Rep z H' v d
 |_,_,.non,_=>.non
 |_,_,.bl b,_=>.bl b
 |_,_,.int i,_=>.int i
 |_,_,.str x h,_=>.str x h
 |_,_,.tup h G r,.tup k=>.tup (s _ _ (zar h B (by intro q;cases q)) (zar h F (by intro q;cases q)) h) G (Reps.but2 B F s r k)
theorem Reps.but2{z q t:Addr}{H H':Hp}{l:List V}{ps:Array Value}(B:H q=some (.lst l))(F:H t=some (.tbl ps))(s:But2 q t H H'):∀ {vs:List V}{ds:List D},Reps z H vs ds->NoLs ds->Reps z H' vs ds
 |_,_,.nil,_=>.nil
 |_,_,.cons h k,.cons h' I=>.cons (Rep.but2 B F s h h') (Reps.but2 B F s k I)
end
noncomputable def runIt(b:Bk)(x:Str)(r:RunSt):Nat->RunSt
 |0=>r
 |n+1=>zaQ b x (runIt b x r n)
theorem zdw(b:Bk)(x:Str)(n:Nat):∀k,runF b x (n+k)=runIt b x (runF b x n) k
 |0=>rfl
 |k+1=>by
  show zaQ b x (runF b x (n+k))=zaQ b x (runIt b x (runF b x n) k);rw[zdw b x n k]
theorem zdX(b:Bk)(x:Str):∀n,runF b x n=runIt b x ⟨0,[],[]⟩ n
 |0=>rfl
 |n+1=>by
  show zaQ b x (runF b x n)=zaQ b x _;rw[zdX b x n]
theorem zj4{b:Bk}{x:Str}{r:RunSt}{n:Nat}(h:(runIt b x r n).at_<x.length):runIt b x r (n+1)=⟨(runIt b x r n).at_+((stepL b (runIt b x r n).ds x (runIt b x r n).at_ (bestL b (runIt b x r n).ds x (runIt b x r n).at_)).1.2.1).toNat,(stepL b (runIt b x r n).ds x (runIt b x r n).at_ (bestL b (runIt b x r n).ds x (runIt b x r n).at_)).2,(runIt b x r n).ss++[(stepL b (runIt b x r n).ds x (runIt b x r n).at_ (bestL b (runIt b x r n).ds x (runIt b x r n).at_)).1]⟩:=by
 show zaQ b x (runIt b x r n)=_;unfold zaQ;rw[if_pos h]
theorem zmq{b:Bk}{x:Str}{r:RunSt}{n:Nat}(h:¬(runIt b x r n).at_<x.length):runIt b x r (n+1)=runIt b x r n:=by
 show zaQ b x (runIt b x r n)=_;unfold zaQ;rw[if_neg h]
structure ItOk2(b:Bk)(x:Str)(ds0:List LDr)(r:RunSt):Prop where
 le:r.at_<=x.length
 bk:LdBk b r.ds
 dl:r.ds.length<=ds0.length+r.at_
 sl:r.ss.length<=r.at_
 sum:(r.ss.map (·.2.1)).sum=(r.at_:Int)
theorem zj5{b:Bk}{x:Str}{ds0:List LDr}(D:∀t∈b,TgOk b.length t)(F:1<=b.length)(G:LdBk b ds0):∀n,ItOk2 b x ds0 (runIt b x ⟨0,ds0,[]⟩ n)
 |0=>⟨Nat.zero_le _,G,Nat.le_refl _,Nat.zero_le _,J⟩
 |n+1=>by
  have B:=zj5 (x:=x) D F G n;by_cases h:(runIt b x ⟨0,ds0,[]⟩ n).at_<x.length
  .rw[zj4 h];have P:=zaK (x:=x) D B.bk F h;obtain⟨J0,O,U,V,I⟩:=B;generalize runIt b x ⟨0,ds0,[]⟩ n=r at *;revert P;generalize stepL b r.ds x r.at_ (bestL b r.ds x r.at_)=st;intro P;have h1:1<=st.1.2.1:=P.1;have W:(r.at_:Int)+st.1.2.1<=x.length:=P.2.2.1;have Y:st.2.length<=r.ds.length+1:=P.2.2.2.2.1;refine⟨?_,P.2.2.2.1,?_,?_,?_⟩
   .show r.at_+st.1.2.1.toNat<=x.length;omega
   .show st.2.length<=ds0.length+(r.at_+st.1.2.1.toNat);omega
   .show (r.ss++[st.1]).length<=r.at_+st.1.2.1.toNat;rw[List.length_append];show r.ss.length+1<=_;omega
   .show ((r.ss++[st.1]).map (·.2.1)).sum=((r.at_+st.1.2.1.toNat:Nat):Int);rw[List.map_append,List.sum_append,I];show (r.at_:Int)+(st.1.2.1+0)=_;omega
  .rw[zmq h];exact B
noncomputable def SamePd(ds B:List LDr):Prop:=ds.map (·.2)=B.map (·.2)
theorem SamePd.len{ds B:List LDr}(h:SamePd ds B):ds.length=B.length:=by have:=congrArg List.length h;simpa using this
theorem SamePd.nil{ds B:List LDr}(h:SamePd ds B):ds=[]↔B=[]:=by
 have:=h.len;rw[←List.length_eq_zero_iff,←List.length_eq_zero_iff,this]
theorem SamePd.get{ds B:List LDr}(h:SamePd ds B)(i:Nat):(ds.getD i ld0).2=(B.getD i ld0).2:=by
 have e:=h.len;by_cases hi:i<ds.length
 .have h1:(ds.map (·.2))[i]?=(B.map (·.2))[i]?:=by rw[h]
  rw[List.getElem?_map,List.getElem?_map,List.getElem?_eq_getElem hi,List.getElem?_eq_getElem (by omega)] at h1;rw[List.getD_eq_getElem?_getD,List.getD_eq_getElem?_getD,List.getElem?_eq_getElem hi,List.getElem?_eq_getElem (by omega)];exact Option.some.inj h1
 .rw[List.getD_eq_getElem?_getD,List.getD_eq_getElem?_getD,List.getElem?_eq_none (by omega),List.getElem?_eq_none (by omega)]
theorem zfN(ds:List LDr):zan ds=match (ds.map (·.2)).getLast? with|some d=>d.1|none=>0:=by
 unfold zan;rw[List.getLast?_map];cases ds.getLast?<;>rfl
theorem SamePd.tongue{ds B:List LDr}(h:SamePd ds B):zan ds=zan B:=by rw[zfN,zfN,h]
theorem SamePd.drop{ds B:List LDr}(h:SamePd ds B):SamePd ds.dropLast B.dropLast:=by
 unfold SamePd;rw[List.map_dropLast,List.map_dropLast,h]
theorem SamePd.some{b:Bk}{ds B:List LDr}(h:SamePd ds B):someL b ds=someL b B:=by
 unfold someL lastL;have e:∀l:List LDr,(l.drop (l.length-1)).map (·.2.2)=((l.map (·.2)).drop (l.length-1)).map (·.2):=λl=>by
  rw[←List.map_drop,List.map_map];rfl
 rw[h.tongue,e ds,e B,h,h.len]
theorem ziW{B:Type}(l:List B)(i k:Nat):(l.drop (min i l.length)).take (min (i+k) l.length-min i l.length)=(l.drop i).take k:=by
 by_cases h:i<=l.length
 .rw[Nat.min_eq_left h];by_cases h2:i+k<=l.length
  .rw[Nat.min_eq_left h2,Nat.add_sub_cancel_left]
  .rw[Nat.min_eq_right (by omega),List.take_of_length_le (by simp),List.take_of_length_le (by simp;omega)]
 .rw[Nat.min_eq_right (by omega),Nat.min_eq_right (by omega),List.drop_eq_nil_of_le (Nat.le_refl _),List.drop_eq_nil_of_le (by omega)];simp
theorem zca{a c:Str}(h:a.cps.toList=c.cps.toList):a=c:=by
 obtain⟨⟨a⟩⟩:=a;obtain⟨⟨c⟩⟩:=c;have h:a=c:=h;rw[h]
theorem zal(x:Str):x.cps.toList.length=x.length:=by simp;rfl
theorem zcB(x:Str)(i k:Nat):(cutS x (some (i:Int)) (some ((i:Int)+(k:Int)))).cps.toList=(x.cps.toList.drop i).take k:=by
 unfold cutS;have e:((i:Int)+(k:Int))=((i+k:Nat):Int):=by omega
 rw[e,HT.sIx_nat,HT.sIx_nat];show ((x.cps.toList.drop (min i x.length)).take (min (i+k) x.length-min i x.length))=_;rw[←zal];exact ziW _ _ _
theorem zcb(x:Str){i:Nat}(h:i<=x.length):(cutS x (some (i:Int)) none).cps.toList=x.cps.toList.drop i:=by
 unfold cutS;rw[HT.sIx_nat,HT.sIx_none];show ((x.cps.toList.drop (min i x.length)).take (x.length-min i x.length))=_;rw[Nat.min_eq_left h,List.take_of_length_le];rw[List.length_drop,zal];exact Nat.le_refl _
theorem zdY{x m:Str}{i:Nat}:fitAt x i m=true↔m.cps.toList <+: x.cps.toList.drop i:=by
 unfold fitAt;rw[decide_eq_true_iff,List.prefix_iff_eq_take,zal];constructor
 .intro h;have h:cutS x (some (i:Int)) (some ((i:Int)+m.length))=m:=by injection h
  rw[←zcB,h]
 .intro h;congr 1;exact zca (by rw[zcB,←h])
theorem zj6{a c:Bool}(h:a=true↔c=true):a=c:=Bool.eq_iff_iff.mpr h
theorem zcV{x:Str}{i:Nat}(h:i<x.length):x.cps.toList.drop i=x.cps.getD i 0::x.cps.toList.drop (i+1):=by
 have h1:i<x.cps.toList.length:=by rw[zal];exact h
 rw[List.drop_eq_getElem_cons h1];congr 1;have:i<x.cps.size:=h;simp[Array.getD,this]
noncomputable def restS(y:Str)(j:Nat):Str:=cutS y (some (j:Int)) none
noncomputable def sureB(b:Bk)(ds:List LDr)(y:Str)(j:Nat):Bool:=!(decide (restS y j=(b.getD (zan ds).toNat tg0).1))&&!((possL b ds).any λm=>decide ((restS y j).length<m.1.length)&&stAt m.1 (restS y j) 0)
structure Fits(b:Bk)(ds:List LDr)(x y:Str)(off j:Nat):Prop where
 sign:x.cps.getD (off+j) 0=y.cps.getD j 0
 esc:(⟨#[y.cps.getD j 0]⟩:Str)=(b.getD (zan ds).toNat tg0).1->(off+j+1=x.length↔j+1=y.length)
 fit:∀m∈someL b ds,fitAt x (off+j) m=fitAt y j m
theorem zhw{x y:Str}{pre more:List Nat}{off j:Nat}(B:x.cps.toList=pre++y.cps.toList++more)(D:pre.length=off)(F:j<=y.length):x.cps.toList.drop (off+j)=y.cps.toList.drop j++more:=by
 rw[B,List.append_assoc,←List.drop_drop,←D,List.drop_left,List.drop_append_of_le_length (by rw[zal];exact F)]
theorem zlx{b:Bk}{ds:List LDr}{x y:Str}{pre more:List Nat}{off j:Nat}(I:x.cps.toList=pre++y.cps.toList++more)(J0:pre.length=off)(B:j<y.length)(O:more=[]∨sureB b ds y j=true):Fits b ds x y off j:=by
 have D:x.length=off+y.length+more.length:=by rw[←zal,I,List.length_append,List.length_append,J0,zal]
 have F:=zhw I J0 (Nat.le_of_lt B);have V:x.cps.getD (off+j) 0=y.cps.getD j 0:=by
  rw[zcV (by omega),zcV B] at F;injection F
 have G:(restS y j).cps.toList=y.cps.toList.drop j:=zcb y (Nat.le_of_lt B);refine⟨V,λW=>?_,λm Y=>?_⟩
 .rcases O with h|h
  .rw[h] at D;have D:x.length=off+y.length+0:=D;omega
  .unfold sureB at h;simp only[Bool.and_eq_true,Bool.not_eq_true',decide_eq_false_iff_not] at h;have Z:=h.1;have ad:j+1<y.length:=by
    by_cases aa:j+1<y.length
    .exact aa
    .exfalso;apply Z;rw[←W];refine zca ?_;rw[G,zcV B,List.drop_eq_nil_of_le (by rw[zal];omega)]
   omega
 .refine zj6 ?_;rw[zdY,zdY,F];constructor
  .intro h;by_cases ab:m.cps.toList.length<=(y.cps.toList.drop j).length
   .exact List.prefix_of_prefix_length_le h (List.prefix_append _ _) ab
   .rcases O with e|e
    .rw[e,List.append_nil] at h;exact h
    .exfalso;unfold sureB at e;simp only[Bool.and_eq_true,Bool.not_eq_true',decide_eq_false_iff_not] at e;have U:=e.2;rw[List.any_eq_false] at U;obtain⟨p,ac,rfl⟩:=zcU Y;apply U p ac;rw[Bool.and_eq_true];refine⟨decide_eq_true ?_,?_⟩
     .rw[←zal,←zal,G];omega
     .rw[zcA (Nat.zero_le _),zdY,G,List.drop_zero];exact List.prefix_of_prefix_length_le (List.prefix_append _ _) h (by omega)
  .intro h;exact h.trans (List.prefix_append _ _)
noncomputable def mvS(d:Int)(s:Stp):Stp:=(s.1+d,s.2)
theorem zly{b:Bk}{ds D:List LDr}{x y:Str}{off j:Nat}{m:Str}(B:SamePd ds D)(F:Fits b D x y off j):(stepL b ds x (off+j) m).1=mvS off (stepL b D y j m).1/\SamePd (stepL b ds x (off+j) m).2 (stepL b D y j m).2:=by
 have U:=B.tongue;have V:=B.len;have G:((off+j:Nat):Int)=(j:Int)+(off:Int):=by omega
 unfold stepL;rw[U,F.sign,V];split
 .rename_i h;have J0:=F.esc h.2;by_cases h1:j+1=y.length
  .rw[if_pos h1,if_pos (J0.mpr h1)];exact⟨by unfold mvS;rw[G],B⟩
  .rw[if_neg h1,if_neg (λq=>h1 (J0.mp q))];exact⟨by unfold mvS;rw[G],B⟩
 .split
  .exact⟨by unfold mvS;rw[G],B⟩
  .have O:(ds≠[]/\m=(ds.getD (D.length-1) ld0).2.2)↔(D≠[]/\m=(D.getD (D.length-1) ld0).2.2):=by
    rw[B.get];exact⟨λq=>⟨λe=>q.1 (B.nil.mpr e),q.2⟩,λq=>⟨λe=>q.1 (B.nil.mp e),q.2⟩⟩
   by_cases I:D≠[]/\m=(D.getD (D.length-1) ld0).2.2
   .rw[if_pos I,if_pos (O.mpr I),B.drop.tongue];exact⟨by unfold mvS;rw[G],B.drop⟩
   .rw[if_neg I,if_neg (λq=>I (O.mp q))];split
    .refine⟨by unfold mvS;rw[G],?_⟩;unfold SamePd;rw[List.map_append,List.map_append,B];rfl
    .exact⟨by unfold mvS;rw[G],B⟩
theorem zlz{b:Bk}{ds B:List LDr}{x y:Str}{off j:Nat}(D:SamePd ds B)(F:Fits b B x y off j):bestL b ds x (off+j)=bestL b B y j:=by
 unfold bestL fitL;rw[D.some];congr 1;exact List.filter_congr λm G=>F.fit m G
structure Rel(off:Nat)(S0:List Stp)(R r:RunSt):Prop where
 at_:R.at_=off+r.at_
 pd:SamePd R.ds r.ds
 ss:R.ss=S0++r.ss.map (mvS off)
theorem zj7{b:Bk}{x y:Str}{pre more:List Nat}{off:Nat}{S0:List Stp}{R r:RunSt}(B:x.cps.toList=pre++y.cps.toList++more)(D:pre.length=off)(G:r.at_<y.length)(J0:more=[]∨sureB b r.ds y r.at_=true)(h:Rel off S0 R r):Rel off S0 (zaQ b x R) (zaQ b y r):=by
 have V:x.length=off+y.length+more.length:=by rw[←zal,B,List.length_append,List.length_append,D,zal]
 have F:=zlx (b:=b) (ds:=r.ds) B D G J0;have O:=zlz h.pd F;obtain⟨I,U⟩:=zly (m:=bestL b r.ds y r.at_) h.pd F;unfold zaQ;rw[if_pos G,if_pos (by rw[h.at_];omega),h.at_,O];refine⟨?_,U,?_⟩
 .show off+r.at_+_=off+(r.at_+_);rw[I];show off+r.at_+(stepL b r.ds y r.at_ (bestL b r.ds y r.at_)).1.2.1.toNat=_;omega
 .show R.ss++[_]=_;rw[I,h.ss,List.map_append,List.append_assoc];rfl
theorem zdd{b:Bk}{x y:Str}{pre more:List Nat}{off:Nat}{S0:List Stp}{R r:RunSt}(D:x.cps.toList=pre++y.cps.toList++more)(F:pre.length=off)(h:Rel off S0 R r):∀k,(∀j,j<k->(runIt b y r j).at_<y.length/\(more=[]∨sureB b (runIt b y r j).ds y (runIt b y r j).at_=true))->Rel off S0 (runIt b x R k) (runIt b y r k)
 |0,_=>h
 |k+1,B=>zj7 D F (B k (Nat.lt_succ_self _)).1 (B k (Nat.lt_succ_self _)).2 (zdd D F h k λj G=>B j (Nat.lt_succ_of_lt G))
inductive zeS:List V->Hp->VK->XK->Prop where
 |mk {vs:List V} {H:Hp} {Q:VK} {E:XK} (p d st:_) (c1:vs=[.ref p,.int d]) (c2:H p=some (.tup (stV st))) (c3:∀q H',Same H H'->H q=none->H' q=some (.tup (stV (mvS d st)))->Q (.ref q) H'):zeS vs H Q E
inductive zgU:List V->Hp->VK->XK->Prop where
 |mk {vs:List V} {H:Hp} {Q:VK} {E:XK} (z v b q ds x:_) (j:Nat) (c1:vs=[v,.str x,.int j,.ref q]) (c2:Bag z H) (c3:Rep z H v (bkD b)) (c4:BkOk b) (c5:PDs z H q ds) (c6:LdOk b ds) (c7:j<=x.length) (c8:x.length<=20000) (c9:∀H',Same H H'->Q (.bl (sureB b ds x j)) H'):zgU vs H Q E
theorem ziX(ms:List Mk):(List.range ms.length).map (λj=>V.str (ms.getD j mk0).1)=(ms.map (·.1)).map V.str:=by
 refine List.ext_getElem (by simp) λi h1 h2=>?_;have B:i<ms.length:=by simpa using h2
 simp[B]
theorem zhx{B:Type}(ms:List B)(d:B)(g:B->Bool):((List.range ms.length).map λj=>g (ms.getD j d)).any id=ms.any g:=by
 have e:(List.range ms.length).map (λj=>g (ms.getD j d))=ms.map g:=by
  refine List.ext_getElem (by simp) λi h1 h2=>?_;have D:i<ms.length:=by simpa using h2
  simp[D]
 rw[e,List.any_map];rfl
theorem scMoved:zav ["step","by","place","many","word","tongue","depth"] ["step","by"] (zag ziH):=⟨J,J,J,by decide +kernel,J,by decide +kernel,by decide +kernel⟩
theorem zj8{f:Addr}{fd:FuncData}(F:Fun K "moved" "moved" ziH f fd):FnOk P w K mg base CX0 1 f fd ["step","by"] zeS:=by
 refine F.ok scMoved (λvs H Q E h=>?_) (λcdv A outer s H vs Q E I h=>?_)
 .obtain⟨p,d,st,rfl,_⟩:=h;rfl
 .obtain⟨p,d,st,rfl,G,k⟩:=h;have B:=scMoved.nd;refine⟨_,zac (zbz (pv 0) (zbF J (zaw (zaq (i:=2) B J (Or.inl J)) (zaw (zaq (i:=3) B J (Or.inl J)) (zaw (zaq (i:=4) B J (Or.inl J)) (zaw (zaq (i:=5) B J (Or.inl J)) (zaw (zaq (i:=6) B J (Or.inl J)) za6)))))))
   (zai (zax (za9 (zaa (zaB zaN (pv 2) (pv 1)) (zaa (pv 3) (zaa (pv 4) (zaa (pv 5) (zaa (pv 6) zad)))))))),?_⟩
  dsimp only[cxOf,Cx.nox,Cx.wish];have J0:=za2;refine⟨_,J,p,_,J,SqT.of G,J,_,_,J,_,_,J,_,_,J,_,_,J,_,_,J,J,?_⟩;refine⟨_,J,_,J,_,_,J,J,_,J,_,J,_,J,_,J,by show (5:Nat)<=_;omega,λq D=>?_⟩;exact k q _ (Same.new D) D zab
theorem scSure:zav ["book","part","place","doors","rest","escape","ways","marks"] ["book","part","place","doors"] (zag zdT):=⟨J,J,J,by decide +kernel,J,by decide +kernel,by decide +kernel⟩
theorem ndMD:(["mark","door"]:List Str).Nodup:=by decide +kernel
theorem ndMR:(["mark","rest"]:List Str).Nodup:=by decide +kernel
theorem zlA{f Y Z:Addr}{fd aj ak:FuncData}(F:Fun K "is_sure" "is_sure" zdT f fd)(T:TxtB mg)(k1:W.keepIn K (.ref Y)=true)(aE:Binds K aj ["doors"] [])(aF:mg "tongue_within"=some (.ref Y))(aG:FnOk P w K mg base CX0 1 Y aj ["doors"] zb9)(k2:W.keepIn K (.ref Z)=true)(aH:Binds K ak ["book","doors"] [])(aI:mg "possible_marks"=some (.ref Z))(aJ:FnOk P w K mg base CX0 2 Z ak ["book","doors"] zfI):FnOk P w K mg base CX0 3 f fd ["book","part","place","doors"] zgU:=by
 refine F.ok scSure (λvs H Q E h=>?_) (λcdv A outer s H vs Q E al h=>?_)
 .obtain⟨z,v,b,q,ds,x,j,rfl,_⟩:=h;rfl
 .obtain⟨z,v,b,q,ds,x,j,rfl,aK,am,ao,ap,aa,G,a3,k⟩:=h;have I:=scSure.nd;have aL:Room 1 _:=al.mono (by decide);obtain⟨a,xs,rfl,a4,aM,a5,R⟩:=zb6 am;obtain⟨aN,a6,aq,_⟩:=id ao;refine⟨_,zac (zap (i:=4) I J (Or.inr J) (zaG zbT (pv 1) (zaJ (pv 2)) zaW))
   (zac (zbz (zau ix_tup (pv 0) (zas aG aL J aF k1 aE .nil pass0 (zaa (pv 3) zad)) (λ_ _=>rfl)) (zbF J (zaw (zaq (i:=5) I J (Or.inl J)) (zaw (zaq (i:=6) I J (Or.inl J)) za6))))
   (zac (zaY (zat zcg (pv 4) (pv 5) (zaz _)) (zai (zax zd6)) zaA)
   (zac (zb3 (N':=["mark","door"]) (js:=[none,none]) (i:=7) J J I J (Or.inl J) (zbc (zag zdT) (by decide +kernel)) trivial
     (zbg (zas aJ al J aI k2 aH .nil pass0 (zaa (pv 0) (zaa (pv 3) zad))))
     (λcl s H fp=>zh9 2 rfl (zaw (zaq (i:=0) ndMD J (Or.inl J) (Or.inr J)) (zaw (zaq (i:=1) ndMD J (Or.inl J) (Or.inr J)) za6))) (λcl s H fp=>zbr) (λcl s H fp=>pv 0))
   (zai (zax (zlU (zao (zjD J) (by rfl) T.any_ zmA (zaa (zaZ (N':=["mark","rest"]) (js:=[none,some 4]) J J (zbc (zag zdT) (by decide +kernel)) ⟨J,Or.inr (Or.inl J),J,trivial⟩ (zbg (pv 7)) (λcl s H fp=>zaq (i:=0) ndMR J (Or.inl J)) (λcl s H fp=>zbr)
     (λcl s H fp=>zkA (zfW zg9 (zao zam (by rfl) T.len b_len (zaa (pv 0) zad)) (zao zam (by rfl) T.len b_len (zaa (pv 1) zad)) (zaz _)) (zkz (zix PySem.F.plainAttrs_str PySem.F.slot_str_startswith PySem.F.type_str_startswith zcQ (pv 0) (zaa (pv 1) zad))))) zad)))))))),?_⟩
  dsimp only[cxOf,Cx.nox,Cx.wish];have a7:=za2;have a8:(100000:Nat)<=sizeLine:=by rw[sizeLine_eq];decide
  obtain⟨D,ar,as⟩:=za5 aa aN;have au:(zan ds).toNat=D:=by rw[ar];rfl
  obtain⟨c,d,a9,aO,ba,bb,aP,bc,bd,be⟩:=za0 (zaP (b:=b) (i:=D) R as);have aQ:xs[D]?=some (.ref c):=by
   have h1:D<xs.length:=by omega
   have h2:xs.getD D .non=xs[D]:=by simp[h1]
   rw[List.getElem?_eq_getElem h1,←h2,aO]
  have aR:atI xs (zan ds)=some (.ref c):=by rw[ar];exact zaj (j:=D) aQ
  refine⟨_,J,_,J,_,J,x,J,by omega,?_⟩;refine⟨_,J,_,J,z,q,ds,J,ap,a,_,_,_,J,J,SqT.of aM,aR,c,_,J,SqT.of aP,J,_,_,J,_,_,J,J,?_⟩;unfold sureB at k;rw[au] at k;have aS:cutS x (some (j:Int)) none=restS x j:=rfl;rw[aS];have bf:(restS x j).length<=20000:=by
   have:=zal (restS x j);rw[show (restS x j).cps.toList=_ from zcb x G,List.length_drop,zal] at this;omega
  generalize restS x j=B at *;refine⟨_,J,_,J,J,_,J,?_⟩;refine ite2 (λg=>?_) (λg=>?_)
  .have g':B=(b.getD D tg0).1:=by have:=of_decide_eq_true g;injection this
   have:=k H (Same.refl _);rw[decide_eq_true g'] at this;exact this
  .have g':B≠(b.getD D tg0).1:=λe=>g (decide_eq_true (by rw[e]));rw[decide_eq_false g'] at k;refine⟨_,J,_,J,z,.ref a,b,q,ds,J,aK,am,ao,ap,aa,λpw vs bg aT bh ab av=>?_⟩;have aU:vs.length=(possL b ds).length:=by have:=av.length;simpa using this
   have bi:(possL b ds).length<=7:=by
    have bj:=(aq _ (getD_mem tg0 as)).2.1;unfold possL lastL;rw[au,List.length_append,List.length_map,List.length_map,List.length_drop];omega
   have aV:∀m∈possL b ds,m.1.length<=4:=λm aW=>(zb8 (x:=x) (i:=j) aq aa m.1 (zco aW)).2;refine⟨pw,J,⟨_,SqL.of ab⟩,λac aw=>?_⟩;have ax:pw≠ac:=zae ab aw;refine zbf (λj=>some (V.str ((possL b ds).getD j mk0).1)) (λσ=>∃ad ay,σ=[ad,ay]) ⟨none,none,J⟩ aw (by omega) (zbe (xs:=vs) (by rw[zak ax];exact ab) ax) (λj σ aX C G ⟨aY,bk,hw⟩ ae af=>?_) (λσ aX ae J0=>?_)
   .subst hw;obtain⟨aZ,ay,e,bl,a1,bm,bn⟩:=zgQ ((zeQ (ms:=possL b ds) (i:=j) av (by omega)).mono ae.x);rw[e];refine⟨aZ,_,J,SqT.of a1,J,_,_,J,_,_,J,J,?_⟩;dsimp only[tYes];rw[if_pos rfl];exact⟨_,J,af _ _ ⟨_,_,J⟩ (Same.refl _)⟩
   .rw[zbS,aU,ziX] at J0;refine⟨_,J,ac,J,⟨_,SqL.of J0⟩,λaz aA=>?_⟩;have aB:ac≠az:=zae J0 aA;refine zbf (λj=>some (V.bl (decide (B.length<((possL b ds).getD j mk0).1.length)&&stAt ((possL b ds).getD j mk0).1 B 0))) (λσ=>∃ad,σ=[ad,some (.str B)]) ⟨none,J⟩ aA (by simp;omega) (zbe (xs:=((possL b ds).map (·.1)).map V.str) (by rw[zak aB];exact J0) aB) (λj σ ag C G ⟨aY,hw⟩ aC af=>?_) (λσ ag aC aD=>?_)
    .subst hw;have ah:j<(possL b ds).length:=by simpa using G
     have e:(((possL b ds).map (·.1)).map V.str).getD j .non=V.str ((possL b ds).getD j mk0).1:=by simp[ah]
     have bo:=aV ((possL b ds).getD j mk0) (by rw[List.getD_eq_getElem?_getD,List.getElem?_eq_getElem ah];exact List.getElem_mem ah);rw[e];have O:=af [some (.str ((possL b ds).getD j mk0).1),some (.str B)] ag ⟨_,J⟩ (Same.refl _);generalize ((possL b ds).getD j mk0).1=U at *;dsimp only[tYes,gName];rw[if_pos rfl];refine⟨_,J,U,J,by omega,_,J,B,J,by omega,_,_,J,J,_,J,?_⟩;refine ite2 (λai=>?_) (λai=>?_)
     .have h2:B.length<U.length:=by have:=of_decide_eq_true ai;omega
      rw[decide_eq_true h2,Bool.true_and] at O;exact⟨_,J,J,_,J,U,B,J,J,O⟩
     .have h2:¬B.length<U.length:=λh=>ai (decide_eq_true (by omega));rw[decide_eq_false h2,Bool.false_and] at O;exact O
    .have a2:flatN (λj=>(some (V.bl (decide (B.length<((possL b ds).getD j mk0).1.length)&&stAt ((possL b ds).getD j mk0).1 B 0))).toList) (((possL b ds).map (·.1)).map V.str).length=((List.range (possL b ds).length).map λj=>decide (B.length<((possL b ds).getD j mk0).1.length)&&stAt ((possL b ds).getD j mk0).1 B 0).map V.bl:=by
      rw[zbS,List.length_map,List.length_map,List.map_map];rfl
     rw[a2] at aD;refine⟨az,_,J,SqL.of aD,_,J,?_⟩;have ea:=zhx (possL b ds) mk0 (λm=>decide (B.length<m.1.length)&&stAt m.1 B 0);rw[ea];have:=k ag ((aT.trans ae).trans aC);rw[Bool.not_false,Bool.true_and] at this;exact this
noncomputable abbrev it0(b:Bk)(x:Str)(ds:List LDr)(n:Nat):RunSt:=runIt b x ⟨0,ds,[]⟩ n
inductive zcc(tb:Addr):List V->Hp->VK->XK->Prop where
 |mk {vs:List V} {H:Hp} {Q:VK} {E:XK} (z v b q ds x:_) (c1:vs=[v,.str x,.ref q]) (c2:Bag z H) (c3:q≠z) (c4:Rep z H v (bkD b)) (c5:BkOk b) (c6:PDs z H q ds) (c7:LdBk b ds) (c8:ds.length+x.length<=20000) (c9:LamTb tb H) (c10:∀p fv n H',But2 q tb H H'->H p=none->H' p=some (.lst fv)->(∀j,j<n->(it0 b x ds j).at_<x.length/\sureB b (it0 b x ds j).ds x (it0 b x ds j).at_=true)->¬((it0 b x ds n).at_<x.length/\sureB b (it0 b x ds n).ds x (it0 b x ds n).at_=true)->Reps z H' fv ((it0 b x ds n).ss.map stD)->PDs z H' q (it0 b x ds n).ds->Bag z H'->LamTb tb H'->Q (.ref p) H'):zcc tb vs H Q E
structure zgV(tb:Addr)(z:Addr)(H:Hp)(b:Bk)(x:Str)(ds:List LDr)(v:V)(q pf:Addr)(n:Nat)(H3:Hp):Prop where
 bx:But2 q tb H H3
 bag:Bag z H3
 rep:Rep z H3 v (bkD b)
 pds:PDs z H3 q (it0 b x ds n).ds
 lam:LamTb tb H3
 fv:∃fv,H3 pf=some (.lst fv)/\Reps z H3 fv ((it0 b x ds n).ss.map stD)
theorem zlB{tb z:Addr}{H:Hp}{b:Bk}{x:Str}{ds:List LDr}{v:V}{q B:Addr}{n:Nat}{G D:Hp}{I:List V}{p:Addr}(ab:∀t∈b,TgOk b.length t)(ac:1<=b.length)(aj:LdBk b ds)(U:(it0 b x ds n).at_<x.length)(ak:q≠z)(al:B≠z)(ad:q≠B)(am:H B=none)(W:zgV tb z H b x ds v q B n G)(ae:G B=some (.lst I))(ao:Reps z G I ((it0 b x ds n).ss.map stD))(J0:But2 q tb G D)(np:G p=none)(Y:D p=some (.tup (stV (stepL b (it0 b x ds n).ds x (it0 b x ds n).at_ (bestL b (it0 b x ds n).ds x (it0 b x ds n).at_)).1)))(af:PDs z D q (stepL b (it0 b x ds n).ds x (it0 b x ds n).at_ (bestL b (it0 b x ds n).ds x (it0 b x ds n).at_)).2)(ap:LamTb tb D) :
  D B=some (.lst I)/\zgV tb z H b x ds v q B (n+1) (upd D B (.lst (I++[.ref p])))/\upd D B (.lst (I++[.ref p])) p=some (.tup (stV (stepL b (it0 b x ds n).ds x (it0 b x ds n).at_ (bestL b (it0 b x ds n).ds x (it0 b x ds n).at_)).1)):=by
 obtain⟨aq,ag,ar,as,au,_⟩:=W;have av:ItOk2 b x ds (it0 b x ds n):=zj5 (x:=x) ab ac aj n;obtain⟨aG,p2,p3,p4,p5,aH⟩:=zaK (ds:=(it0 b x ds n).ds) (x:=x) ab av.bk ac U;obtain⟨aI,ah,_⟩:=as;obtain⟨ps,O⟩:=au.tbl;have aw:=Rep.but2 ah O J0 ar (.tup (zbC b));have ax:=Reps.but2 ah O J0 ao (zaX _);have F:=J0 _ _ ad.symm (zar ae O (by intro q;cases q)) ae;have ay:Bag z D:=by
  obtain⟨Z,aa,e⟩:=ag;exact⟨Z,aa,J0 _ _ ak.symm (zar e O (by intro q;cases q)) e⟩
 have az:p≠z:=ag.ne np;have aA:(it0 b x ds (n+1)).ss=(it0 b x ds n).ss++[(stepL b (it0 b x ds n).ds x (it0 b x ds n).at_ (bestL b (it0 b x ds n).ds x (it0 b x ds n).at_)).1]:=by show (runIt b x _ (n+1)).ss=_;rw[zj4 U]
 have aB:(it0 b x ds (n+1)).ds=(stepL b (it0 b x ds n).ds x (it0 b x ds n).at_ (bestL b (it0 b x ds n).ds x (it0 b x ds n).at_)).2:=by show (runIt b x _ (n+1)).ds=_;rw[zj4 U]
 rw[←aB] at af;have aC:Rep z D (.ref p) (stD (stepL b (it0 b x ds n).ds x (it0 b x ds n).at_ (bestL b (it0 b x ds n).ds x (it0 b x ds n).at_)).1):=.tup Y az (.cons (.int _) (.cons (.int _) (.cons (.str _ (by omega)) (.cons (.int _) (.cons (.int _) .nil)))));refine⟨F,⟨λai o h1 h2 e=>?_,?_,?_,?_,?_,_,zab,?_⟩,?_⟩
 .rw[zak (zae e am)];exact J0 ai o h1 h2 (aq ai o h1 h2 e)
 .obtain⟨Z,aa,e⟩:=ay;exact⟨Z,aa,by rw[zak al.symm];exact e⟩
 .exact Rep.updL F aw (.tup (zbC b))
 .obtain⟨aD,aE,aF⟩:=af;exact⟨aD,by rw[zak ad];exact aE,Reps.updL F aF (zcK _)⟩
 .exact ap.sameX F SameX.refl.upd
 .rw[aA,List.map_append];exact Reps.updL F (ax.append (.cons aC .nil)) ((zaX _).append (zaX [_]))
 .rw[zak (zar Y F (by intro q;cases q))];exact Y
theorem scSureSteps:zav ["book","part","doors","told","place","step"] ["book","part","doors"] (zag zda):=⟨J,J,J,by decide +kernel,J,by decide +kernel,by decide +kernel⟩
theorem zfO{f tb aj ak:Addr}{fd ar as:FuncData}(F:Fun K "sure_steps" "sure_steps" zda f fd)(T:TxtB mg)(k1:W.keepIn K (.ref aj)=true)(af:Binds K ar ["book","text","place","doors"] [])(aH:mg "read_step"=some (.ref aj))(aI:FnOk P w K mg base CX0 4 aj ar ["book","text","place","doors"] (zdW tb))(k2:W.keepIn K (.ref ak)=true)(aJ:Binds K as ["book","part","place","doors"] [])(aK:mg "is_sure"=some (.ref ak))(aL:FnOk P w K mg base CX0 3 ak as ["book","part","place","doors"] zgU):FnOk P w K mg base CX0 5 f fd ["book","part","doors"] (zcc tb):=by
 refine F.ok scSureSteps (λvs H Q E h=>?_) (λcdv A outer s H vs Q E au h=>?_)
 .obtain⟨z,v,b,q,ds,x,rfl,_⟩:=h;rfl
 .obtain⟨z,v,b,q,ds,x,rfl,av,aw,aM,al,ax,ay,bF,aN,k⟩:=h;have ag:=scSureSteps.nd;have aO:Room 3 _:=au.mono (by decide);obtain⟨am,bG,ah,_⟩:=id al;refine⟨_,zac (zap (i:=3) ag J (Or.inl J) (zaE zad))
   (zac (zap (i:=4) ag J (Or.inl J) zaf)
   (zac (zb0 PassesOwn.never (PW.pt (zcF (zat zd7 (pv 4) (zao zam (by rfl) T.len b_len (zaa (pv 1) zad)) (zaz _)) (zbZ (zeb (zas aL aO J aK k2 aJ .nil pass0 (zaa (pv 0) (zaa (pv 1) (zaa (pv 4) (zaa (pv 2) zad)))))))))
    (zac (zap (i:=5) ag J (Or.inl J) (zas aI au J aH k1 af .nil pass0 (zaa (pv 0) (zaa (pv 1) (zaa (pv 4) (zaa (pv 2) zad))))))
    (zac (zaU (zbN PySem.F.plainAttrs_list PySem.F.slot_list_append PySem.F.type_list_append zaL (pv 3) (zaa (pv 5) zad)))
    (zai (zkB (i:=4) ag J (Or.inl J) (zau ix_tup (pv 5) zaf (λ_ _=>rfl)) zkC)))))
   (zai (zax (pv 3))))),?_⟩
  dsimp only[cxOf,Cx.nox,Cx.wish];have bH:=za2;have bI:(100000:Nat)<=sizeLine:=by rw[sizeLine_eq];decide
  refine⟨Nat.zero_le _,λB J0=>?_⟩;have aa:=Same.new (o:=.lst []) J0;have aP:B≠z:=av.ne J0;have aQ:q≠B:=zae ax.choose_spec.1 J0;refine zb1 (λσ O=>∃n u,σ=[some v,some (.str x),some (.ref q),some (.ref B),some (.int (it0 b x ds n).at_),u]/\(∀j,j<n->(it0 b x ds j).at_<x.length/\sureB b (it0 b x ds j).ds x (it0 b x ds j).at_=true)/\zgV tb z H b x ds v q B n O)
   (λσ O=>match σ[4]? with|some (some (V.int i))=>x.length-i.toNat|_=>0) ⟨0,none,J,λj h=>absurd h (Nat.not_lt_zero _),λU o _ _ e=>aa U o e,av.same aa,aM.mono aa.x,ax.same aa,aN.same aa,[],zab,.nil⟩ ?_ ?_
  .rintro σ aR ⟨n,u,rfl,ao,az⟩;have Y:ItOk2 b x ds (it0 b x ds n):=zj5 (x:=x) ah am ay n;have bJ:=Y.le;refine⟨_,J,_,J,x,J,by omega,_,_,J,J,_,J,?_⟩;refine ite2 (λD=>?_) (λD=>?_)
   .have D:(it0 b x ds n).at_<x.length:=by have:=of_decide_eq_true D;omega
    have bK:=Y.dl;have bL:=Y.sl;obtain⟨aS,aA,aB,aC,aT,aU,aV,aW⟩:=id az;refine⟨_,J,_,J,_,J,_,J,z,v,b,q,(it0 b x ds n).ds,x,(it0 b x ds n).at_,J,aA,aB,al,aC,Y.bk.ok ah,by omega,by omega,λO G=>?_⟩;have W:zgV tb z H b x ds v q B n O:=⟨λU o h1 h2 e=>G U o (aS U o h1 h2 e),aA.same G,aB.mono G.x,aC.same G,aT.same G,aU,G _ _ aV,aW.mono G.x⟩;refine⟨_,J,?_⟩;cases hsu:sureB b (it0 b x ds n).ds x (it0 b x ds n).at_ with
    |false=>
     refine iteF ?_;obtain⟨ai,ab,ap,ac,ad,I,ae,Z⟩:=W;exact⟨_,J,k B I n O ai J0 ae ao (λq=>by rw[hsu] at q;exact absurd q.2 (by decide)) Z ac ab ad⟩
    |true=>
     refine iteT ?_;obtain⟨ai,ab,ap,ac,ad,I,ae,Z⟩:=id W;refine⟨_,J,_,J,_,J,_,J,z,v,b,q,(it0 b x ds n).ds,x,(it0 b x ds n).at_,J,ab,aw,ap,al,ac,Y.bk,D,by omega,by omega,ad,λp aX aY np aZ a1 a2=>?_⟩;obtain⟨aD,aE,aF⟩:=zlB ah am ay D aw aP aQ J0 W ae Z aY np aZ a1 a2;have bM:I.length=(it0 b x ds n).ss.length:=by have:=Z.length;simpa using this
     refine⟨_,J,.inl ⟨J,_,SqL.of aD⟩,_,J,B,I,_,J,J,aD,by omega,?_⟩;generalize upd aX B (.lst (I++[.ref p]))=bN at aE aF;refine⟨_,J,_,J,p,_,1,_,J,J,SqT.of aF,zaj (j:=1) J,_,_,J,J,?_⟩;obtain⟨bO,p2,p3,p4,p5,bP⟩:=zaK (ds:=(it0 b x ds n).ds) (x:=x) ah Y.bk am D;have a3:((it0 b x ds n).at_:Int)+(stepL b (it0 b x ds n).ds x (it0 b x ds n).at_ (bestL b (it0 b x ds n).ds x (it0 b x ds n).at_)).1.2.1=((it0 b x ds (n+1)).at_:Int):=by
      have aq:(it0 b x ds (n+1)).at_=(it0 b x ds n).at_+(stepL b (it0 b x ds n).ds x (it0 b x ds n).at_ (bestL b (it0 b x ds n).ds x (it0 b x ds n).at_)).1.2.1.toNat:=by
       show (runIt b x _ (n+1)).at_=_;rw[zj4 D]
      rw[aq];omega
     refine⟨⟨n+1,some (.ref p),?_,λj a4=>?_,aE⟩,?_⟩
     .show [some v,some (.str x),some (.ref q),some (.ref B),some (V.int (((it0 b x ds n).at_:Int)+(stepL b (it0 b x ds n).ds x (it0 b x ds n).at_ (bestL b (it0 b x ds n).ds x (it0 b x ds n).at_)).1.2.1)),some (.ref p)]=_;rw[a3]
     .rcases Nat.lt_succ_iff_lt_or_eq.mp a4 with h|h
      .exact ao j h
      .rw[h];exact⟨D,hsu⟩
     .show x.length-(((it0 b x ds n).at_:Int)+(stepL b (it0 b x ds n).ds x (it0 b x ds n).at_ (bestL b (it0 b x ds n).ds x (it0 b x ds n).at_)).1.2.1).toNat<x.length-((it0 b x ds n).at_:Int).toNat;omega
   .have a5:¬(it0 b x ds n).at_<x.length:=λq=>D (decide_eq_true (by omega));refine iteF ?_;obtain⟨ai,ab,ap,ac,ad,I,ae,Z⟩:=az;exact⟨_,J,k B I n aR ai J0 ae ao (λq=>a5 q.1) Z ac ab ad⟩
  .rintro σ O bQ bR aG ⟨a6,aq,a7,a8,a9,ba,bb,bc,bd,be,bf,af,bg,h⟩;refine⟨a6,aq,a7,a8,a9,ba,bb,bc,bd,be,bf,af,bg,?_⟩;cases af with
   |false=>exact aG _ _ h
   |true=>
    obtain⟨bh,bi,bj,bk,bl,bm,bn,bo,z',bp,U,bq,br,x',bs,bt,bu,bv,bw,bx,bz,bA,bB,bC⟩:=h;refine⟨bh,bi,bj,bk,bl,bm,bn,bo,z',bp,U,bq,br,x',bs,bt,bu,bv,bw,bx,bz,bA,bB,λH' bD=>?_⟩;obtain⟨c,bE,h⟩:=bC H' bD;exact⟨c,bE,aG _ _ h⟩
noncomputable def zcW(b:Bk)(ds:List LDr)(x:Str)(i:Nat)(st:Stp)(B:List LDr):Prop:=
 ((⟨#[x.cps.getD i 0]⟩:Str)=(b.getD (zan ds).toNat tg0).1/\B=ds/\((i+1=x.length/\st=((i:Int),1,Str.ofString "cut",zan ds,(ds.length:Int)))∨(i+1<x.length/\st=((i:Int),2,Str.ofString "escape",zan ds,(ds.length:Int))))) ∨
 ((⟨#[x.cps.getD i 0]⟩:Str)≠(b.getD (zan ds).toNat tg0).1/\fitL b ds x i=[]/\B=ds/\st=((i:Int),1,Str.ofString "sign",zan ds,(ds.length:Int))) ∨
 ((⟨#[x.cps.getD i 0]⟩:Str)≠(b.getD (zan ds).toNat tg0).1/\fitL b ds x i≠[]/\ds≠[]/\bestL b ds x i=(ds.getD (ds.length-1) ld0).2.2/\B=ds.dropLast/\st=((i:Int),((bestL b ds x i).length:Int),Str.ofString "close",zan ds.dropLast,(ds.length:Int)-1)) ∨
 ((⟨#[x.cps.getD i 0]⟩:Str)≠(b.getD (zan ds).toNat tg0).1/\fitL b ds x i≠[]/\∃d,(b.getD (zan ds).toNat tg0).2.filter (λd=>d.1==bestL b ds x i)=[d]/\B=ds++[((i:Int),d.2.1,d.2.2)]/\st=((i:Int),((bestL b ds x i).length:Int),Str.ofString "open",zan ds,(ds.length:Int)))
theorem zem{m:Str}:∀ {ds:List Dr},(zaC ds).Nodup->m∈zaC ds->∃d,ds.filter (λd=>d.1==m)=[d]
 |[],_,h=>nomatch h
 |d::r,F,h=>by
  have D:=List.nodup_cons.mp (show (d.1::zaC r).Nodup from F);by_cases e:d.1=m
  .refine⟨d,?_⟩;rw[List.filter_cons_of_pos (by rw[e];exact beq_self_eq_true _)];congr 1;rw[List.filter_eq_nil_iff];intro c B q;have:c.1=m:=by simpa using q
   apply D.1;rw[e,←this];exact List.mem_map_of_mem B
  .have G:m∈zaC r:=by
    rcases List.mem_cons.mp (show m∈d.1::zaC r from h) with h|h
    .exact absurd h.symm e
    .exact h
   obtain⟨c,B⟩:=zem D.2 G;exact⟨c,by rw[List.filter_cons_of_neg (by simpa using e)];exact B⟩
theorem zfP{b:Bk}{ds:List LDr}{x:Str}{i:Nat}(aa:BkOk b)(ab:LdBk b ds)(hi:i<x.length):zcW b ds x i (stepL b ds x i (bestL b ds x i)).1 (stepL b ds x i (bestL b ds x i)).2:=by
 obtain⟨ac,aj,U,I⟩:=id aa;have V:=ab.ok U;obtain⟨D,ad,ae⟩:=za5 V ac;have J0:(zan ds).toNat=D:=by rw[ad];rfl
 have W:=zb8 (x:=x) (i:=i) U V;have af:(zaC (b.getD D tg0).2).Nodup:=by
  unfold bookB at I;simp only[Bool.and_eq_true,Bool.not_eq_true'] at I;exact of_decide_eq_true (List.all_eq_true.mp I.1.1 _ (getD_mem tg0 ae))
 unfold zcW;rw[J0];unfold stepL;rw[J0];by_cases B:(⟨#[x.cps.getD i 0]⟩:Str)=(b.getD D tg0).1
 .have O:(b.getD D tg0).1≠Str.ofString "":=by
   rw[←B,zaR];intro q;have:=congrArg Str.length q;have:(1:Nat)=0:=this;omega
  rw[if_pos ⟨O,B⟩];refine .inl ⟨B,?_,?_⟩
  .split<;>rfl
  .by_cases h1:i+1=x.length
   .rw[if_pos h1];exact .inl ⟨h1,J⟩
   .rw[if_neg h1];exact .inr ⟨by omega,J⟩
 .rw[if_neg (λq=>B q.2)];refine .inr ?_;rcases zbt (l:=fitL b ds x i) (λm ag=>W m (List.mem_filter.mp ag).1) with⟨h1,h2⟩|⟨h1,h2⟩
  .have e:bestL b ds x i=Str.ofString "":=by rw[zaR];exact h2
   rw[if_pos e];exact .inl ⟨B,h1,J,J⟩
  .have Y:fitL b ds x i≠[]:=λq=>by rw[q] at h1;cases h1
   have hm1:bestL b ds x i∈someL b ds:=(List.mem_filter.mp h1).1;have Z:=(W _ hm1).1;have O:bestL b ds x i≠Str.ofString "":=λe=>by
    rw[e,zaR] at Z;have:(1:Nat)<=0:=Z;omega
   rw[if_neg O];by_cases F:ds≠[]/\bestL b ds x i=(ds.getD (ds.length-1) ld0).2.2
   .rw[if_pos F];exact .inr (.inl ⟨B,Y,F.1,F.2,J,J⟩)
   .rw[if_neg F];have ah:bestL b ds x i∈zaC (b.getD D tg0).2:=by
     unfold someL at hm1;rw[J0] at hm1;rcases List.mem_append.mp hm1 with hm1|hm1
     .exact hm1
     .exfalso;obtain⟨d,G,e⟩:=List.mem_map.mp hm1;apply F;have hpos:ds≠[]:=λq=>by
       rw[q] at G;cases G
      refine⟨hpos,?_⟩;have ak:0<ds.length:=List.length_pos_iff.mpr hpos;have:lastL ds=[ds.getD (ds.length-1) ld0]:=by
       unfold lastL;rw[List.drop_eq_getElem_cons (by omega),List.drop_eq_nil_of_le (by omega),List.getD_eq_getElem?_getD,List.getElem?_eq_getElem (by omega)];rfl
      rw[this] at G;rw[←e,List.mem_singleton.mp G]
    obtain⟨d,ai⟩:=zem af ah;rw[ai];exact .inr (.inr ⟨B,Y,d,J,J,J⟩)
theorem zde{B:Type}(f:LDr->B)(ds:List LDr):(List.range ds.length).map (λi=>f (ds.getD i ld0))=ds.map f:=by
 refine List.ext_getElem (by simp) λi h1 h2=>?_;have D:i<ds.length:=by simpa using h2
 simp[D]
theorem zgb{B:List V}{m:Nat}{a:V}(h:B.length=m+1)(e:B.getD m .non=a):atI B (-1)=some a:=by
 have D:ixN B.length (-1)=some (B.length-1):=by
  unfold ixN;rw[if_neg (by decide),if_pos (by omega)];congr 1;omega
 unfold atI;rw[D];show B[B.length-1]?=_;have F:B.length-1=m:=by omega
 rw[F,←e,List.getD_eq_getElem?_getD];have:m<B.length:=by omega
 rw[List.getElem?_eq_getElem this];rfl
theorem zcX(a c:Str):(a++c).cps.toList=a.cps.toList++c.cps.toList:=by
 show (a.cps++c.cps).toList=_;simp
theorem zeT(a c:Str):(a++c).length=a.length+c.length:=by rw[←zal,zcX,List.length_append,zal,zal]
theorem SamePd.pd{ds B:List LDr}(h:SamePd ds B):ds.map pdD=B.map pdD:=by
 have e:∀l:List LDr,l.map pdD=(l.map (·.2)).map (λd=>D.tup [.int d.1,.str d.2]):=λl=>by rw[List.map_map];rfl
 rw[e ds,e B,h]
theorem SamePd.poss{b:Bk}{ds B:List LDr}(h:SamePd ds B):possL b ds=possL b B:=by
 unfold possL lastL;have e:∀l:List LDr,((l.drop (l.length-1)).map (λd=>((d.2.2,none):Mk)))=((l.map (·.2)).drop (l.length-1)).map (λd=>(d.2,none)):=λl=>by
  rw[←List.map_drop,List.map_map];rfl
 rw[h.tongue,e ds,e B,h,h.len]
theorem SamePd.sure{b:Bk}{ds B:List LDr}(h:SamePd ds B)(y:Str)(j:Nat):sureB b ds y j=sureB b B y j:=by
 unfold sureB;rw[h.tongue,h.poss]
theorem zbW{y:Str}{j:Nat}(h:j<=y.length):(restS y j).cps.toList=y.cps.toList.drop j:=zcb y h
theorem zgW{b:Bk}{ds:List LDr}{y:Str}{j:Nat}(h:j<=y.length):sureB b ds y j=true↔(y.cps.toList.drop j≠(b.getD (zan ds).toNat tg0).1.cps.toList/\∀m∈someL b ds,¬((y.cps.toList.drop j).length<m.length/\y.cps.toList.drop j <+: m.cps.toList)):=by
 have B:=zbW h;unfold sureB;simp only[Bool.and_eq_true,Bool.not_eq_true',decide_eq_false_iff_not];rw[List.any_eq_false];constructor
 .rintro⟨h1,h2⟩;refine⟨λe=>h1 (zca (by rw[B];exact e)),λm F q=>?_⟩;obtain⟨p,D,rfl⟩:=zcU F;apply h2 p D;rw[Bool.and_eq_true];refine⟨decide_eq_true (by rw[←zal,B];exact q.1),?_⟩;rw[zcA (Nat.zero_le _),zdY,B,List.drop_zero];exact q.2
 .rintro⟨h1,h2⟩;refine⟨λe=>h1 (by rw[←B,e]),λp D q=>?_⟩;rw[Bool.and_eq_true] at q;refine h2 p.1 (zco D) ⟨?_,?_⟩
  .have:=of_decide_eq_true q.1
   rwa [←zal,B] at this
  .have:=q.2;rw[zcA (Nat.zero_le _),zdY,B,List.drop_zero] at this;exact this
theorem ziY{b:Bk}(D:∀t∈b,TgOk b.length t){B:Nat}(h:B<b.length):(b.getD B tg0).1.length<=1:=by
 have F:=D _ (getD_mem tg0 h);have:=F.1;unfold escD at this;simp at this;exact this.1
theorem zen{b:Bk}{ds:List LDr}{y B:Str}{pre:List Nat}{off j:Nat}(D:y.cps.toList=pre++B.cps.toList)(F:pre.length=off)(G:j<=B.length):sureB b ds y (off+j)=sureB b ds B j:=by
 have I:y.length=off+B.length:=by rw[←zal,D,List.length_append,F,zal]
 have e:restS y (off+j)=restS B j:=zca (by rw[zbW (by omega),zbW G,D,←List.drop_drop,←F,List.drop_left]);unfold sureB;rw[e]
structure SureN(b:Bk)(x:Str)(n:Nat):Prop where
 all:∀j,j<n->(runF b x j).at_<x.length/\sureB b (runF b x j).ds x (runF b x j).at_=true
 stop:¬((runF b x n).at_<x.length/\sureB b (runF b x n).ds x (runF b x n).at_=true)
theorem SureN.uniq{b:Bk}{x:Str}{n m:Nat}(h:SureN b x n)(h':SureN b x m):n=m:=by
 rcases Nat.lt_trichotomy n m with g|g|g
 .exact absurd (h'.all n g) h.stop
 .exact g
 .exact absurd (h.all m g) h'.stop
theorem mv0(s:Stp):mvS ((0:Nat):Int) s=s:=by
 unfold mvS;have:s.1+((0:Nat):Int)=s.1:=by omega
 rw[this]
theorem mv0s(B:List Stp):B.map (mvS ((0:Nat):Int))=B:=by
 have:(mvS ((0:Nat):Int))=id:=funext mv0;rw[this,List.map_id]
theorem zbK{b:Bk}{y y':Str}{more:List Nat}{n:Nat}(B:y'.cps.toList=y.cps.toList++more)(h:∀j,j<n->(runF b y j).at_<y.length/\sureB b (runF b y j).ds y (runF b y j).at_=true):∀j,j<=n->(runF b y' j).at_=(runF b y j).at_/\SamePd (runF b y' j).ds (runF b y j).ds/\(runF b y' j).ss=(runF b y j).ss:=λj D=>by
 have R:=zdd (b:=b) (x:=y') (y:=y) (pre:=[]) (more:=more) (off:=0) (S0:=[]) (R:=⟨0,[],[]⟩) (r:=⟨0,[],[]⟩) (by rw[B];rfl) rfl ⟨J,J,J⟩ j (λi hi=>by rw[←zdX];exact⟨(h i (by omega)).1,.inr (h i (by omega)).2⟩);rw[←zdX,←zdX] at R;exact⟨by rw[R.at_,Nat.zero_add],R.pd,by rw[R.ss,mv0s];rfl⟩
noncomputable abbrev st0:Stp:=(0,0,⟨#[]⟩,0,0)
theorem ziZ{z:Addr}{H:Hp}{v:V}{d:Stp}(r:Rep z H v (stD d)):∃a,v=.ref a/\a≠z/\H a=some (.tup (stV d))/\d.2.2.1.length<=1000:=by
 cases r with
 |tup h B r=>
  cases r with
  |cons D r=>
   cases r with
   |cons F r=>
    cases r with
    |cons G r=>
     cases r with
     |cons I r=>
      cases r with
      |cons J0 r=>
       cases r;cases D;cases F;cases I;cases J0;cases G with
       |str _ O=>exact⟨_,J,B,h,O⟩
theorem zi0{z:Addr}{H:Hp}{D:List V}{B:List Stp}{t:Nat}(R:Reps z H D (B.map stD))(h:t<B.length):Rep z H (D.getD t .non) (stD (B.getD t st0)):=by
 have:=R.get (i:=t) (by simp;omega);simpa [h] using this
theorem zmr(s:Stp):NoL (stD s):=.tup (.cons (.int _) (.cons (.int _) (.cons (.str _) (.cons (.int _) (.cons (.int _) .nil)))))
theorem zgc{z p:Addr}{H:Hp}{d:Stp}(h:H p=some (.tup (stV d)))(B:p≠z)(D:d.2.2.1.length<=1000):Rep z H (.ref p) (stD d):=.tup h B (.cons (.int _) (.cons (.int _) (.cons (.str _ D) (.cons (.int _) (.cons (.int _) .nil)))))
theorem zgX{D:Type}(f:Stp->D)(B:List Stp):(List.range B.length).map (λi=>f (B.getD i st0))=B.map f:=by
 refine List.ext_getElem (by simp) λi h1 h2=>?_;have F:i<B.length:=by simpa using h2
 simp[F]
noncomputable def longL(b:Bk)(ds:List LDr)(x:Str)(i:Nat)(B:Int):List Str:=(someL b ds).filter λm=>decide ((m.length:Int)>(if ((restS x i).length:Int)>B then ((restS x i).length:Int) else B))&&decide (V.str (cutS m none (some ((restS x i).length:Int)))=V.str (restS x i))
theorem zi1(y:Str)(k:Nat):(cutS y none (some (k:Int))).cps.toList=y.cps.toList.take k:=by
 unfold cutS;rw[HT.sIx_nat,HT.sIx_none,List.drop_zero,Nat.sub_zero];show y.cps.toList.take (min k y.length)=_;rw[←zal,←List.take_take,List.take_length]
theorem zi2:Str.ofString "escape"≠Str.ofString "cut":=by decide +kernel
theorem zhy:Str.ofString "sign"≠Str.ofString "cut":=by decide +kernel
theorem zgd:Str.ofString "close"≠Str.ofString "cut":=by decide +kernel
theorem zhz:Str.ofString "open"≠Str.ofString "cut":=by decide +kernel
theorem zhA:Str.ofString "sign"≠Str.ofString "escape":=by decide +kernel
theorem zge:Str.ofString "close"≠Str.ofString "escape":=by decide +kernel
theorem zhB:Str.ofString "open"≠Str.ofString "escape":=by decide +kernel
theorem zj9{b:Bk}{ds:List LDr}{x:Str}{i:Nat}{B:Int}(hi:i<x.length)(J0:(i:Int)+B<=x.length):longL b ds x i B≠[]↔∃m∈someL b ds,(x.cps.toList.drop i).length<m.length/\x.cps.toList.drop i <+: m.cps.toList:=by
 have D:=zbW (Nat.le_of_lt hi);have O:(restS x i).length=x.length-i:=by rw[←zal,D,List.length_drop,zal]
 have G:(if ((restS x i).length:Int)>B then ((restS x i).length:Int) else B)=((restS x i).length:Int):=by
  split
  .rfl
  .omega
 have F:∀m:Str,(decide ((m.length:Int)>(if ((restS x i).length:Int)>B then ((restS x i).length:Int) else B))&&decide (V.str (cutS m none (some ((restS x i).length:Int)))=V.str (restS x i)))=true↔((x.cps.toList.drop i).length<m.length/\x.cps.toList.drop i <+: m.cps.toList):=λm=>by
  rw[G,Bool.and_eq_true,decide_eq_true_iff,decide_eq_true_iff,←D,zal];constructor
  .rintro⟨h1,h2⟩;refine⟨by omega,?_⟩;have h2:cutS m none (some ((restS x i).length:Int))=restS x i:=by injection h2
   rw[List.prefix_iff_eq_take,zal,←zi1,h2]
  .rintro⟨h1,h2⟩;refine⟨by omega,?_⟩;congr 1;refine zca ?_;rw[List.prefix_iff_eq_take,zal] at h2;rw[zi1];exact h2.symm
 constructor
 .intro h;obtain⟨m,I⟩:=List.exists_mem_of_ne_nil _ h;obtain⟨h1,h2⟩:=List.mem_filter.mp I;exact⟨m,h1,(F m).mp h2⟩
 .rintro⟨m,h1,h2⟩;exact List.ne_nil_of_mem (List.mem_filter.mpr ⟨h1,(F m).mpr h2⟩)
theorem zka{b:Bk}{ds:List LDr}{x:Str}{i:Nat}(J0:BkOk b)(G:LdBk b ds)(hi:i<x.length){st:Stp}(Y:(stepL b ds x i (bestL b ds x i)).1=st):(st.2.2.1=Str.ofString "cut"∨(st.2.2.1≠Str.ofString "escape"/\longL b ds x i st.2.1≠[]))↔¬sureB b ds x i=true:=by
 obtain⟨Z,ah,O,ai⟩:=id J0;obtain⟨D,ac,aa⟩:=za5 (G.ok O) Z;have ab:(zan ds).toNat=D:=by rw[ac];rfl
 have aj:=ziY O aa;obtain⟨_,_,p3,_⟩:=zaK (x:=x) O G Z hi;rw[Y] at p3;have ad:=zj9 (b:=b) (ds:=ds) hi p3;have I:=zfP J0 G hi;rw[Y] at I;unfold zcW at I;rw[ab] at I;rw[zgW (Nat.le_of_lt hi),ab,ad];have U:=zcV hi;have plain:(⟨#[x.cps.getD i 0]⟩:Str)≠(b.getD D tg0).1->x.cps.toList.drop i≠(b.getD D tg0).1.cps.toList:=λae e=>by
  apply ae;refine zca ?_;have V:=congrArg List.length e;rw[zal,List.length_drop,zal] at V;rw[←e,U,List.drop_eq_nil_of_le (by rw[zal];omega)]
 have W:(⟨#[x.cps.getD i 0]⟩:Str)≠(b.getD D tg0).1->st.2.2.1≠Str.ofString "cut"->st.2.2.1≠Str.ofString "escape"->((st.2.2.1=Str.ofString "cut"∨(st.2.2.1≠Str.ofString "escape"/\∃m∈someL b ds,(x.cps.toList.drop i).length<m.length/\x.cps.toList.drop i <+: m.cps.toList))↔¬(x.cps.toList.drop i≠(b.getD D tg0).1.cps.toList/\∀m∈someL b ds,¬((x.cps.toList.drop i).length<m.length/\x.cps.toList.drop i <+: m.cps.toList))):=λh1 h2 af=>by
  constructor
  .rintro(q|⟨_,m,F,q⟩) r
   .exact h2 q
   .exact r.2 m F q
  .intro q;refine .inr ⟨af,?_⟩;by_cases g:∃m∈someL b ds,(x.cps.toList.drop i).length<m.length/\x.cps.toList.drop i <+: m.cps.toList
   .exact g
   .exact absurd ⟨plain h1,λm F r=>g ⟨m,F,r⟩⟩ q
 rcases I with⟨B,_,⟨h1,e⟩|⟨h1,e⟩⟩|⟨B,_,_,e⟩|⟨B,_,_,_,_,e⟩|⟨B,_,_,_,_,e⟩
 .constructor
  .intro _ r;apply r.1;rw[U,List.drop_eq_nil_of_le (by rw[zal];omega),←B]
  .intro _;exact .inl (by rw[e])
 .constructor
  .rintro(q|⟨q,_⟩)
   .rw[e] at q;exact absurd q zi2
   .rw[e] at q;exact absurd rfl q
  .intro q;exfalso;apply q;refine⟨λr=>?_,λm F r=>?_⟩
   .have V:=congrArg List.length r;rw[zal,List.length_drop,zal] at V;omega
   .have ag:x.cps.getD i 0∈m.cps.toList:=r.2.subset (by rw[U];exact List.mem_cons_self);exact zgT J0 (getD_mem tg0 aa) (zel G F) ag B
 .exact W B (by rw[e];exact zhy) (by rw[e];exact zhA)
 .exact W B (by rw[e];exact zgd) (by rw[e];exact zge)
 .exact W B (by rw[e];exact zhz) (by rw[e];exact zhB)
end T1
namespace L2
open PySem PySem.Spec PyProof.Rows
theorem zkb{X:Cx}{sc:Scope}{cl:List (Str×Addr)}{N':List Str}{s:Shared}{H:Hp}{fp:List Addr}:SlR (X.blk sc cl N' s H fp) rSlS:=zbT
end L2
namespace T1
open PySem L2
variable {P:Program}{w:World}{K:W.Frag}{mg:Str->Option Value}{base:Heap}
theorem zms:bootBuiltins "max"=some (.builtin "max"):=by decide +kernel
theorem zkc(ds:List LDr):atI ([V.int 0]++ds.map (λd=>V.int d.2.1)) (-1)=some (.int (zan ds)):=by
 refine zgb (m:=ds.length) (by simp) ?_;rcases List.eq_nil_or_concat ds with rfl|⟨l,d,rfl⟩
 .rfl
 .unfold zan;rw[List.concat_eq_append,List.getLast?_concat];simp
theorem zgY{z:Addr}{H:Hp}{B:List V}{ds:List LDr}{j:Nat}(R:Reps z H B (ds.map ldD))(h:j<ds.length):Rep z H (B.getD j .non) (ldD (ds.getD j ld0)):=by
 have:=R.get (i:=j) (by simp;omega);simpa [h] using this
noncomputable def lgP(B:Str)(D:Int)(m:Str):Bool:=decide ((m.length:Int)>(if (B.length:Int)>D then (B.length:Int) else D))&&decide (V.str (cutS m none (some (B.length:Int)))=V.str B)
inductive zeU:List V->Hp->VK->XK->Prop where
 |mk {vs:List V} {H:Hp} {Q:VK} {E:XK} (z v b x:_) (c1:vs=[v,.str x]) (c2:Bag z H) (c3:Rep z H v (bkD b)) (c4:BkOk b) (c5:x.length<=20000) (c6:∀p fv n H',Same H H'->H p=none->H' p=some (.lst fv)->SureN b x n->Reps z H' fv ((runF b x n).ss.map stD)->Q (.ref p) H'):zeU vs H Q E
theorem scLSure:zav ["book","text","doors","found","place","tongue","marks","step","rest","some","longer"] ["book","text"] (zag lSure):=⟨J,J,J,by decide +kernel,J,by decide +kernel,by decide +kernel⟩
theorem ndMRS:(["mark","rest","step"]:List Str).Nodup:=by decide +kernel
theorem zkd{f aT aU:Addr}{fd bG bH:FuncData}(F:Fun K "_law_sure" "_law_sure" lSure f fd)(T:TxtB mg)(c0:Txt2 mg)(k1:W.keepIn K (.ref aT)=true)(aV:Binds K bG ["book","doors","text","place"] [])(c1:mg "_law_fitting"=some (.ref aT))(c2:FnOk P w K mg base CX0 1 aT bG ["book","doors","text","place"] zbV)(k2:W.keepIn K (.ref aU)=true)(bI:Binds K bH ["book","doors","text","place","mark"] [])(bJ:mg "_law_step"=some (.ref aU))(bK:FnOk P w K mg base CX0 1 aU bH ["book","doors","text","place","mark"] zej):FnOk P w K mg base CX0 2 f fd ["book","text"] zeU:=by
 refine F.ok scLSure (λvs H Q E h=>?_) (λcdv A outer s H vs Q E aK h=>?_)
 .obtain⟨z,v,b,x,rfl,_⟩:=h;rfl
 .obtain⟨z,v,b,x,rfl,aW,aX,ay,aY,k⟩:=h;have Z:=scLSure.nd;obtain⟨a,xs,rfl,et,c3,eu,R⟩:=zb6 aX;obtain⟨aZ,ew,aq,_⟩:=id ay;refine⟨_,zac (zap (i:=2) Z J (Or.inl J) (zaE zad))
   (zac (zap (i:=3) Z J (Or.inl J) (zaE zad))
   (zac (zap (i:=4) Z J (Or.inl J) zaf)
   (zac (zb0 PassesOwn.never (zat zd7 (pv 4) (zao zam (by rfl) T.len b_len (zaa (pv 1) zad)) (zaz _))
    (zac (zap (i:=5) Z J (Or.inl J) (zau ix_list (zaB zdj (zaE (pa_K zaf zad)) (zaZ (N':=["door"]) (js:=[none]) J J (zbc (zag lSure) (by decide +kernel)) trivial (zbg (pv 2)) (λcl s H fp=>zaq (i:=0) ndD J (Or.inl J)) (λcl s H fp=>zbr) (λcl s H fp=>zau zbs (pv 0) zaf (λ_ _=>rfl)))) (zbL zbb zaf) (λ_ _=>rfl)))
    (zac (zap (i:=6) Z J (Or.inl J) (zas c2 aK J c1 k1 aV .nil pass0 (zaa (pv 0) (zaa (pv 2) (zaa (pv 1) (zaa (pv 4) zad))))))
    (zac (zap (i:=7) Z J (Or.inr J) (zas bK aK J bJ k2 bI .nil pass0 (zaa (pv 0) (zaa (zbk zci (by rfl) c0.list zgy (zaa (pv 2) zad)) (zaa (pv 1) (zaa (pv 4) (zaa (zbN PySem.F.plainAttrs_str PySem.F.slot_str_join PySem.F.type_str_join zdq zay (zaa (zaG zbM (pv 6) zaW (zaJ zaf)) zad)) zad)))))))
    (zac (zap (i:=8) Z J (Or.inr J) (zaG zbT (pv 1) (zaJ (pv 4)) zaW))
    (zac (zap (i:=9) Z J (Or.inl J) (zaB zdj
     (zaZ (N':=["door"]) (js:=[none]) J J (zbc (zag lSure) (by decide +kernel)) trivial (zce (zau ix_tup (zau ix_tup (pv 0) (pv 5) (λ_ _=>rfl)) zaf (λ_ _=>rfl)))
      (λcl s H fp=>zaq (i:=0) ndD J (Or.inl J)) (λcl s H fp=>zbr) (λcl s H fp=>zau zbs (pv 0) zaf (λ_ _=>rfl)))
     (zaZ (N':=["door"]) (js:=[none]) J J (zbc (zag lSure) (by decide +kernel)) trivial (zbg (zaG zbM (pv 2) (zaJ (zbL zbb zaf)) zaW))
      (λcl s H fp=>zaq (i:=0) ndD J (Or.inl J)) (λcl s H fp=>zbr) (λcl s H fp=>zau zbs (pv 0) zaf (λ_ _=>rfl)))))
    (zac (zb3 (N':=["mark","rest","step"]) (js:=[none,some 8,some 7]) (i:=10) J J Z J (Or.inl J) (zbc (zag lSure) (by decide +kernel)) ⟨J,Or.inr (Or.inl J),J,J,Or.inr (Or.inl J),J,trivial⟩ (zbg (pv 9))
      (λcl s H fp=>zaq (i:=0) ndMRS J (Or.inl J))
      (λcl s H fp=>zcj (PW.pt (zcF (zat zg9 (zao zam (by rfl) T.len b_len (zaa (pv 0) zad)) (zao (zhS J) (by rfl) T.max zms (zaa (zau zbs (pv 2) zaf (λ_ _=>rfl)) (zaa (zao zam (by rfl) T.len b_len (zaa (pv 1) zad)) zad))) (zaz _))
       (zbZ (zat zcg (zaG zkb (pv 0) zaW (zaJ (zao zam (by rfl) T.len b_len (zaa (pv 1) zad)))) (pv 1) (zaz _))))))
      (λcl s H fp=>pv 0))
    (zac (zaY (PW.pt (zlT (zat zcg (zau ix_tup (pv 7) zaf (λ_ _=>rfl)) zay (zaz _)) (zky (PW.pt (zcF (zat zfg (zau ix_tup (pv 7) zaf (λ_ _=>rfl)) zay (zaz _)) (zbZ (zat (zbH aK.units0) (pv 10) (zaE zad) (zaz _)))))))) (zai (zax (pv 3))) zaA)
    (zac (zaU (zbN PySem.F.plainAttrs_list PySem.F.slot_list_append PySem.F.type_list_append zaL (pv 3) (zaa (zas bK aK J bJ k2 bI .nil pass0 (zaa (pv 0) (zaa (pv 2) (zaa (pv 1) (zaa (pv 4) (zaa (zbN PySem.F.plainAttrs_str PySem.F.slot_str_join PySem.F.type_str_join zdq zay (zaa (zaG zbM (pv 6) zaW (zaJ zaf)) zad)) zad)))))) zad)))
    (zai (zap (i:=4) Z J (Or.inl J) (zaB zaN (pv 4) (zau ix_tup (pv 7) zaf (λ_ _=>rfl))))))))))))))
   (zai (zax (pv 3)))))),?_⟩
  dsimp only[cxOf,Cx.nox,Cx.wish];have ey:=za2;have ez:(100000:Nat)<=sizeLine:=by rw[sizeLine_eq];decide
  refine⟨Nat.zero_le _,λpd a1=>⟨Nat.zero_le _,λD aL=>?_⟩⟩;have a2:=Same.new (o:=.lst []) a1;have bL:=Same.new (o:=.lst []) aL;have ab:=a2.trans bL;have a3:H D=none:=a2.free aL;have bM:pd≠D:=zae (zab (H:=H) (a:=pd) (o:=.lst [])) aL;have c4:pd≠z:=aW.ne a1;have eA:D≠z:=(aW.same a2).ne aL;refine zb1 (λσ ah=>∃n bN bO bP bQ bR bS,σ=[some (.ref a),some (.str x),some (.ref pd),some (.ref D),some (.int (runF b x n).at_),bN,bO,bP,bQ,bR,bS]/\Same H ah/\LDs z ah pd (runF b x n).ds/\(∀j,j<n->(runF b x j).at_<x.length/\sureB b (runF b x j).ds x (runF b x j).at_=true)/\∃G,ah D=some (.lst G)/\Reps z ah G ((runF b x n).ss.map stD))
   (λσ ah=>match σ[4]? with|some (some (V.int i))=>x.length-i.toNat|_=>0) ⟨0,none,none,none,none,none,none,J,ab,⟨[],bL _ _ zab,.nil⟩,λj h=>absurd h (Nat.not_lt_zero _),[],zab,.nil⟩ ?_ ?_
  .rintro σ ah ⟨n,bN,bO,bP,bQ,bR,bS,rfl,aj,bT,a4,G,a5,a6⟩;have ar:=za4 (x:=x) aq aZ n;have c5:=ar.le;refine⟨_,J,_,J,x,J,by omega,_,_,J,J,_,J,?_⟩;refine ite2 (λY=>?_) (λY=>?_)
   .have Y:(runF b x n).at_<x.length:=by have:=of_decide_eq_true Y;omega
    have eB:=ar.dl;have eC:=ar.sl;have as:=ar.bk.ok aq;have bU:=aW.same aj;have az:=zka ay ar.bk Y rfl;obtain⟨B,aA,aM⟩:=id bT;have bV:B.length=(runF b x n).ds.length:=by have:=aM.length;simpa using this
    -- tongue
    refine zba λeD c6 bW _ _=>?_;refine zah λak O=>?_;refine⟨by show (1:Nat)<=_;omega,λbX c7=>?_⟩;have g1:=Same.new (o:=.lst [.int 0]) c7;refine⟨_,J,pd,J,⟨_,SqL.of (g1 _ _ aA)⟩,λbY bZ=>?_⟩;have b0:pd≠bY:=zae (g1 _ _ aA) bZ;refine zbf (λj=>some (V.int ((runF b x n).ds.getD j ld0).2.1)) (λσ=>∃v,σ=[v]) ⟨none,J⟩ bZ (by omega) (zbe (xs:=B) (by rw[zak b0];exact g1 _ _ aA) b0) (λj σ a7 C aB ⟨a8,hw⟩ g2 al=>?_) (λσ a7 g2 a9=>?_)
    .subst hw;obtain⟨ad,c8,_,c9⟩:=zeh ((zgY (j:=j) aM (by omega)).mono (g1.trans g2).x);rw[c8];dsimp only[tYes,gName];rw[if_pos rfl];exact⟨_,J,ad,_,1,_,J,J,SqT.of c9,zaj (j:=1) J,al _ _ ⟨_,J⟩ (Same.refl _)⟩
    rw[zbS,bV,zde (λd=>V.int d.2.1) (runF b x n).ds] at a9;have b1:a7 bX=some (.lst [.int 0]):=g2 _ _ zab;refine⟨bX,bY,[.int 0],_,J,J,b1,a9,by rw[List.length_map];show 1+_<=_;omega,λp5 da=>?_⟩;have ac:=Same.new (o:=.lst ([V.int 0]++(runF b x n).ds.map (λd=>V.int d.2.1))) da;refine⟨1,J,p5,_,-1,_,J,J,SqL.of zab,zkc (runF b x n).ds,O _ _ (zah λak O=>?_)⟩;have aN:=(g1.trans g2).trans ac;generalize upd a7 p5 (.lst ([V.int 0]++(runF b x n).ds.map (λd=>V.int d.2.1)))=eE at ac aN;clear a9 b1 g1 g2 ac;have db:=(aX.mono aj.x (z:=z)).mono aN.x (z:=z)
    -- marks
    refine⟨_,J,_,J,_,J,_,J,z,.ref a,b,pd,(runF b x n).ds,x,(runF b x n).at_,J,db,ay,bT.same aN,as,aY,λpm ys b2 dc eF ba b3 pw=>O _ _ (zah λak O=>?_)⟩;have bb:∀m∈fitL b (runF b x n).ds x (runF b x n).at_,Sm m:=λm aC=>zb8 (x:=x) (i:=(runF b x n).at_) aq as m (List.mem_filter.mp aC).1;have dd:=zdV bb (λm aC=>(List.mem_filter.mp aC).2) b3 pw;have b4:∀y∈ys.take 1,y.length<=1000:=λy de=>by have:=(bb y (b3.mem_iff.mp (List.mem_of_mem_take de))).2;omega
    have b5:zgC (ys.take 1)=bestL b (runF b x n).ds x (runF b x n).at_:=by
     unfold bestL;rw[←dd];cases ys<;>rfl
    have b6:bestL b (runF b x n).ds x (runF b x n).at_=Str.ofString ""∨bestL b (runF b x n).ds x (runF b x n).at_∈someL b (runF b x n).ds:=by
     rcases zbt bb with⟨_,h2⟩|⟨h1,_⟩
     .exact .inl (by unfold bestL;rw[h2,zaR])
     .exact .inr (List.mem_filter.mp h1).1
    have au:=aN.trans dc;have b7:=au _ _ aA;have eG:=aM.mono au.x (z:=z)
    -- step,on a copy of the doors
    refine⟨_,J,_,J,pd,B,J,.inl (SqL.of b7),λae av=>?_⟩;have b8:=Same.new (o:=.lst B) av;have df:upd b2 ae (.lst B) ae=some (.lst B):=zab;refine⟨_,J,_,J,J,_,J,1,J,pm,_,J,SqL.of (b8 _ _ ba),λl dg=>?_⟩;have bc:=Same.new (o:=.lst (cutV (ys.map V.str) none (some (1:Int)))) dg;refine⟨_,l,ys.take 1,J,J,SqL.of (by rw[zab,zeO]),by rw[List.length_take];omega,by decide +kernel,b4,?_⟩;rw[b5];have bd:=b8.trans bc;have af:=au.trans bd;have aw:=bc _ _ df;have b9:ae≠z:=(bU.same au).ne av;have dh:ae≠pd:=(zae b7 av).symm;have di:ae≠D:=(zae (au _ _ a5) av).symm;have dj:ae≠pm:=(zae ba av).symm;have ca:=bd _ _ ba;have be:=bU.same af;have cb:=af _ _ aA;have bf:=aM.mono af.x (z:=z);have bg:=(aX.mono aj.x (z:=z)).mono af.x (z:=z);have cc:=af _ _ a5;have ce:=a6.mono af.x (z:=z);have bh:=af _ _ (aj _ _ c3);have cf:=aj.trans af;generalize upd (upd b2 ae (.lst B)) l (.lst (cutV (ys.map V.str) none (some (1:Int))))=eH at bd af aw ca be cb bf bg cc ce bh cf bc;obtain⟨eI,p2,p3,p4,eJ,eK⟩:=zaK (x:=x) aq ar.bk aZ Y;refine⟨z,.ref a,b,ae,(runF b x n).ds,x,_,(runF b x n).at_,J,be,b9,bg,ay,⟨B,aw,bf⟩,as,Y,aY,by omega,b6,λps cg ag eL dk _=>O _ _ (zah λak O=>?_)⟩;have ch:=ag _ _ dh.symm cb;have ci:=Reps.butL aw ag bf (zcI _);have dl:=Rep.butL aw ag bg (.tup (zbC b));have dm:=ag _ _ di.symm cc;have dn:=Reps.butL aw ag ce (zaX _);have dp:=ag _ _ dj.symm ca;have dq:=ag _ _ (zar bh aw (by intro q;cases q)) bh;have dr:H ae=none:=(aj.trans au).free av;have cj:Same H cg:=λam o e=>ag am o (zae e dr) (cf am o e);have dt:Bag z cg:=by
     obtain⟨bi,bj,e⟩:=be;exact⟨bi,bj,ag _ _ b9.symm e⟩
    have eM:(stepL b (runF b x n).ds x (runF b x n).at_ (bestL b (runF b x n).ds x (runF b x n).at_)).1=(stepL b (runF b x n).ds x (runF b x n).at_ (bestL b (runF b x n).ds x (runF b x n).at_)).1:=rfl
    -- rest
    refine⟨_,J,_,J,_,J,x,J,by omega,O _ _ (zah λak O=>?_)⟩;have du:cutS x (some ((runF b x n).at_:Int)) none=restS x (runF b x n).at_:=rfl;rw[du];have eN:(restS x (runF b x n).at_).length<=20000:=by
     rw[←zal,zbW c5,List.length_drop,zal];omega
    -- some
    obtain⟨I,ck,cm⟩:=za5 as aZ;have dv:(zan (runF b x n).ds).toNat=I:=by rw[ck];rfl
    obtain⟨c,d,cn,dw,eO,eP,dy,bk,bl,dz⟩:=za0 ((zaP (b:=b) (i:=I) R cm).mono cj.x);have dA:xs[I]?=some (.ref c):=by
     have h1:I<xs.length:=by omega
     have h2:xs.getD I .non=xs[I]:=by simp[h1]
     rw[List.getElem?_eq_getElem h1,←h2,dw]
    have dB:atI xs (zan (runF b x n).ds)=some (.ref c):=by rw[ck];exact zaj (j:=I) dA
    have bl:cn.length=(b.getD I tg0).2.length:=bl;have dC:=(aq _ (getD_mem tg0 cm)).2.1;have co:someL b (runF b x n).ds=zaC (b.getD I tg0).2++(lastL (runF b x n).ds).map (·.2.2):=by unfold someL;rw[dv]
    refine⟨_,J,_,J,a,xs,_,_,J,J,SqT.of dq,dB,c,_,1,_,J,J,SqT.of dy,zaj (j:=1) J,d,J,⟨_,SqT.of bk⟩,λbm cp=>?_⟩;have cq:d≠bm:=zae bk cp;refine zcS (λj=>.str ((b.getD I tg0).2.getD j dr0).1) (λσ=>∃v,σ=[v]) ⟨none,J⟩ cp (by omega) (zcu (xs:=cn) (by rw[zak cq];exact bk) cq) (λj σ aD C aB ⟨a8,hw⟩ dD al=>?_) (λσ aD bn cr=>?_)
    .subst hw;obtain⟨bo,aE,dE,bp⟩:=zbw ((zbd (ds:=(b.getD I tg0).2) (i:=j) dz (by omega)).mono dD.x);rw[aE];exact⟨_,J,bo,_,0,_,J,J,SqT.of bp,zaj (j:=0) J,al _ aD ⟨_,J⟩ (Same.refl _)⟩
    have cs:aD bm=some (.lst ((zaC (b.getD I tg0).2).map V.str)):=by
     rw[cr,bl];unfold zaC;rw[List.map_map];exact congrArg (λx=>some (HO.lst x)) (zck (b.getD I tg0).2 dr0 λd=>V.str d.1)
    have dF:=bn _ _ ch;refine⟨_,J,1,J,-1,J,pd,B,J,SqL.of dF,λaF dG=>⟨aF,J,⟨_,SqL.of zab⟩,λbq cu=>?_⟩⟩;have br:=Same.new (o:=.lst (cutV B (some (-1)) none)) dG;have bs:upd aD aF (.lst (cutV B (some (-1)) none)) aF=some (.lst (B.drop (B.length-1))):=by rw[zab,zgP]
    have cv:aF≠bq:=zae bs cu;have bt:Reps z (upd aD aF (.lst (cutV B (some (-1)) none))) (B.drop (B.length-1)) ((lastL (runF b x n).ds).map ldD):=by
     unfold lastL;rw[List.map_drop,bV];exact(ci.mono (bn.trans br).x).drop _
    have dH:(B.drop (B.length-1)).length=(lastL (runF b x n).ds).length:=by have:=bt.length;simpa using this
    have eQ:(lastL (runF b x n).ds).length<=1:=by unfold lastL;rw[List.length_drop];omega
    refine zcS (λj=>.str ((lastL (runF b x n).ds).getD j ld0).2.2) (λσ=>∃v,σ=[v]) ⟨none,J⟩ cu (by omega) (zbe (xs:=B.drop (B.length-1)) (by rw[zak cv];exact bs) cv) (λj σ aG C aB ⟨a8,hw⟩ dI al=>?_) (λσ aG cw cx=>?_)
    .subst hw;obtain⟨bo,aE,dE,bp⟩:=zeh ((zeL (ds:=lastL (runF b x n).ds) (i:=j) bt (by omega)).mono dI.x);rw[aE];exact⟨_,J,bo,_,2,_,J,J,SqT.of bp,zaj (j:=2) J,al _ aG ⟨_,J⟩ (Same.refl _)⟩
    have cy:aG bq=some (.lst (((lastL (runF b x n).ds).map (·.2.2)).map V.str)):=by
     rw[cx,dH,List.map_map];exact congrArg (λx=>some (HO.lst x)) (zck (lastL (runF b x n).ds) ld0 λd=>V.str d.2.2)
    have cz:((zaC (b.getD I tg0).2).map V.str).length<=6:=by unfold zaC;rw[List.length_map,List.length_map];exact dC
    have cA:(((lastL (runF b x n).ds).map (·.2.2)).map V.str).length<=1:=by simp;omega
    refine⟨bm,bq,_,_,J,J,(br.trans cw) _ _ cs,cy,by omega,λpS dJ=>O _ _ (zah λak O=>?_)⟩;rw[←List.map_append,←co];have cB:=Same.new (o:=.lst ((someL b (runF b x n).ds).map V.str)) dJ;have aO:upd aG pS (.lst ((someL b (runF b x n).ds).map V.str)) pS=some (.lst ((someL b (runF b x n).ds).map V.str)):=zab;have aa:=(bn.trans (br.trans cw)).trans cB;generalize upd aG pS (.lst ((someL b (runF b x n).ds).map V.str))=cC at aa aO cB;have eR:(someL b (runF b x n).ds).length<=7:=by
     have h1:(zaC (b.getD I tg0).2).length<=6:=by rw[List.length_map] at cz;exact cz
     have h2:((lastL (runF b x n).ds).map (·.2.2)).length<=1:=by rw[List.length_map] at cA;exact cA
     rw[co,List.length_append];omega
    have dK:∀m∈someL b (runF b x n).ds,m.length<=4:=λm aC=>(zb8 (x:=x) (i:=(runF b x n).at_) aq as m aC).2;have bu:=aa _ _ dk;clear cy cx cs cr bt bs;have cD:longL b (runF b x n).ds x (runF b x n).at_ (stepL b (runF b x n).ds x (runF b x n).at_ (bestL b (runF b x n).ds x (runF b x n).at_)).1.2.1=(someL b (runF b x n).ds).filter (lgP (restS x (runF b x n).at_) (stepL b (runF b x n).ds x (runF b x n).at_ (bestL b (runF b x n).ds x (runF b x n).at_)).1.2.1):=rfl;have dL:((runF b x n).at_:Int)+(stepL b (runF b x n).ds x (runF b x n).at_ (bestL b (runF b x n).ds x (runF b x n).at_)).1.2.1=((runF b x (n+1)).at_:Int):=by
     rw[zdm Y];show _=((_+_:Nat):Int);omega
    have dM:=zbJ Y;have dN:=zcn Y;rw[cD] at az;clear cD;have dO:(stepL b (runF b x n).ds x (runF b x n).at_ (bestL b (runF b x n).ds x (runF b x n).at_)).1.2.2.1.length<=1000:=by omega
    have dP:∀ {ps':Addr} {ao:Hp},ao ps'=some (.tup (stV (stepL b (runF b x n).ds x (runF b x n).at_ (bestL b (runF b x n).ds x (runF b x n).at_)).1))->ps'≠z->Rep z ao (.ref ps') (stD (stepL b (runF b x n).ds x (runF b x n).at_ (bestL b (runF b x n).ds x (runF b x n).at_)).1):=λh dQ=>zgc h dQ dO;have dR:x.length-(((runF b x n).at_:Int)+(stepL b (runF b x n).ds x (runF b x n).at_ (bestL b (runF b x n).ds x (runF b x n).at_)).1.2.1).toNat<x.length-((runF b x n).at_:Int).toNat:=by omega
    generalize dS:(stepL b (runF b x n).ds x (runF b x n).at_ (bestL b (runF b x n).ds x (runF b x n).at_)).1=st at *;generalize eS:restS x (runF b x n).at_=U at *;have dT:=aa _ _ ch;have dU:=ci.mono aa.x (z:=z);have dV:=dl.mono aa.x (z:=z);have bv:=aa _ _ dm;have cE:=dn.mono aa.x (z:=z);have dW:=aa _ _ dp;have dX:=dt.same aa;have cF:=cj.trans aa
    -- longer
    refine⟨_,J,pS,J,⟨_,SqL.of aO⟩,λaH cG=>?_⟩;have cH:pS≠aH:=zae aO cG;have dY:((someL b (runF b x n).ds).map V.str).length=(someL b (runF b x n).ds).length:=List.length_map ..;refine zbf (λj=>if lgP U st.2.1 ((someL b (runF b x n).ds).getD j ⟨#[]⟩) then some (.str ((someL b (runF b x n).ds).getD j ⟨#[]⟩)) else none) (λσ=>∃v,σ=[v,some (.str U),some (.ref ps)]) ⟨none,J⟩ cG (by omega) (zbe (xs:=(someL b (runF b x n).ds).map V.str) (by rw[zak cH];exact aO) cH) (λj σ bw C aB ⟨a8,hw⟩ ab al=>?_) (λσ bw ab cI=>?_)
    .subst hw;have cJ:j<(someL b (runF b x n).ds).length:=by omega
     have dZ:((someL b (runF b x n).ds).map V.str).getD j .non=.str ((someL b (runF b x n).ds).getD j ⟨#[]⟩):=by simp[cJ]
     have eT:=dK _ (getD_mem ⟨#[]⟩ cJ);rw[dZ];have ax:=al [some (.str ((someL b (runF b x n).ds).getD j ⟨#[]⟩)),some (.str U),some (.ref ps)] bw ⟨_,J⟩ (Same.refl _);generalize (someL b (runF b x n).ds).getD j ⟨#[]⟩=m at *;refine⟨_,J,m,J,by omega,_,J,ps,_,1,_,J,J,SqT.of (ab _ _ bu),zaj (j:=1) J,_,J,U,J,by omega,_,_,J,_,_,J,J,_,J,?_⟩;refine ite2 (λg1=>?_) (λg1=>?_)
     .refine⟨_,J,_,J,U,J,by omega,_,J,m,J,by omega,_,J,J,_,J,?_⟩;refine ite2 (λg2=>?_) (λg2=>?_)
      .have aI:lgP U st.2.1 m=true:=by
        unfold lgP;rw[Bool.and_eq_true];exact⟨g1,g2⟩
       rw[aI,if_pos rfl] at ax;exact⟨_,J,ax⟩
      .have aI:lgP U st.2.1 m=false:=by
        unfold lgP;rw[Bool.and_eq_false_iff];exact .inr (Bool.eq_false_iff.mpr g2)
       rw[aI,if_neg (by decide)] at ax;exact ax
     .have aI:lgP U st.2.1 m=false:=by
       unfold lgP;rw[Bool.and_eq_false_iff];exact .inl (Bool.eq_false_iff.mpr g1)
      rw[aI,if_neg (by decide)] at ax;exact iteF ax
    rw[dY,zdc (someL b (runF b x n).ds) ⟨#[]⟩ (lgP U st.2.1) _ (Nat.le_refl _),List.take_length] at cI;generalize (someL b (runF b x n).ds).filter (lgP U st.2.1)=bx at *;have cK:=ab _ _ bu;have cL:∀ao,Same cC ao->¬sureB b (runF b x n).ds x (runF b x n).at_=true->Q (.ref D) ao:=λao bz d0=>k D G n ao (cF.trans bz) a3 (bz _ _ bv) ⟨a4,λq=>d0 q.2⟩ (cE.mono bz.x);refine O _ _ ?_;refine zdN (J0:=λσ' aP=>σ'=[some (.ref a),some (.str x),some (.ref pd),some (.ref D),some (.int (runF b x n).at_),some (.int (zan (runF b x n).ds)),some (.ref pm),some (.ref ps),some (.str U),some (.ref pS),some (.ref aH)]/\Same cC aP/\sureB b (runF b x n).ds x (runF b x n).at_=true) (λak J0=>?g1) ?g2
    case g1=>
     refine⟨_,J,ps,_,2,_,J,J,SqT.of cK,zaj (j:=2) J,J,_,J,?_⟩;refine ite2 (λg=>?_) (λg=>?_)
     .have g':st.2.2.1=Str.ofString "cut":=by simpa using g
      exact⟨_,J,bW _ _ (cL bw ab (az.mp (.inl g')))⟩
     have cM:st.2.2.1≠Str.ofString "cut":=by simpa using g
     refine⟨_,J,ps,_,2,_,J,J,SqT.of cK,zaj (j:=2) J,J,_,J,?_⟩;refine ite2 (λg2=>?_) (λg2=>?_)
     .have d1:st.2.2.1≠Str.ofString "escape":=by simpa using g2
      refine⟨_,J,Nat.zero_le _,λd2 d3=>?_⟩;have bA:=Same.new (o:=.lst []) d3;refine⟨aH,d2,_,J,J,bA _ _ cI,zab,_,J,?_⟩;refine ite2 (λac=>?_) (λac=>?_)
      .have d4:bx≠[]:=λe=>by rw[e] at ac;simp at ac
       exact⟨_,J,bW _ _ (cL _ (ab.trans bA) (az.mp (.inr ⟨d1,d4⟩)))⟩
      .have d5:bx=[]:=by
        cases bB:bx with
        |nil=>rfl
        |cons _ _=>rw[bB] at ac;simp at ac
       have aJ:sureB b (runF b x n).ds x (runF b x n).at_=true:=by
        by_cases q:sureB b (runF b x n).ds x (runF b x n).at_=true
        .exact q
        .rcases az.mpr q with r|r
         .exact absurd r cM
         .exact absurd d5 r.2
       exact J0 _ _ ⟨J,ab.trans bA,aJ⟩
     .have d6:st.2.2.1=Str.ofString "escape":=by simpa using g2
      have aJ:sureB b (runF b x n).ds x (runF b x n).at_=true:=by
       by_cases q:sureB b (runF b x n).ds x (runF b x n).at_=true
       .exact q
       .rcases az.mpr q with r|r
        .exact absurd r cM
        .exact absurd d6 r.1
      refine iteF ?_;exact J0 _ _ ⟨J,ab,aJ⟩
    case g2=>
     rintro σ' aP ⟨rfl,bC,aJ⟩;have d7:=bC _ _ bv;have d8:=bC _ _ dW;have eU:G.length=(runF b x n).ss.length:=by have:=a6.length;simpa using this
     refine zah λak O=>?_;refine⟨_,J,.inl ⟨J,_,SqL.of d7⟩,_,J,_,J,_,J,_,J,J,_,J,1,J,pm,_,J,SqL.of d8,λbD d9=>?_⟩;have eb:=Same.new (o:=.lst (cutV (ys.map V.str) none (some (1:Int)))) d9;refine⟨_,bD,ys.take 1,J,J,SqL.of (by rw[zab,zeO]),by rw[List.length_take];omega,by decide +kernel,b4,?_⟩;rw[b5];have ai:=bC.trans eb;have aQ:=ai _ _ dT;have cN:=ai _ _ bv;have cO:=cE.mono ai.x (z:=z);have bE:=dX.same ai;have bF:=ai _ _ bu;have cP:=cF.trans ai;have cQ:LDs z (upd aP bD (.lst (cutV (ys.map V.str) none (some (1:Int))))) pd (runF b x n).ds:=⟨B,aQ,dU.mono ai.x⟩;have cR:=dV.mono ai.x (z:=z);generalize upd aP bD (.lst (cutV (ys.map V.str) none (some (1:Int))))=eV at aQ cN cO bE bF cP cQ cR;refine⟨z,.ref a,b,pd,(runF b x n).ds,x,_,(runF b x n).at_,J,bE,c4,cR,ay,cQ,as,Y,aY,by omega,b6,λp2 ap aR ec cS cT=>?_⟩;rw[dS] at cS;rw[←dN] at cT;have aS:=aR _ _ bM.symm cN;have ed:=Reps.butL aQ aR cO (zaX _);have cU:=aR _ _ (zar bF aQ (by intro q;cases q)) bF;have ee:Same H ap:=λam o e=>aR am o (zae e a1) (cP am o e);have ef:p2≠z:=bE.ne ec;refine⟨D,G,_,J,J,aS,by omega,O _ _ ?_⟩;have cV:upd ap D (.lst (G++[.ref p2])) D=some (.lst (G++[.ref p2])):=zab;have cW:Reps z (upd ap D (.lst (G++[.ref p2]))) (G++[.ref p2]) ((runF b x (n+1)).ss.map stD):=by
      rw[dM,List.map_append];exact Reps.updL aS (ed.append (.cons (dP cS ef) .nil)) ((zaX _).append (zaX [_]))
     have cX:LDs z (upd ap D (.lst (G++[.ref p2]))) pd (runF b x (n+1)).ds:=by
      obtain⟨eg,h1,h2⟩:=cT;exact⟨eg,by rw[zak bM];exact h1,Reps.updL aS h2 (zcI _)⟩
     have cY:upd ap D (.lst (G++[.ref p2])) ps=some (.tup (stV st)):=by rw[zak (zar cU aS (by intro q;cases q))];exact cU
     have cZ:Same H (upd ap D (.lst (G++[.ref p2]))):=λam o e=>by rw[zak (zae e a3)];exact ee am o e
     generalize upd ap D (.lst (G++[.ref p2]))=eW at cV cW cX cY cZ;refine⟨_,J,_,J,ps,_,1,_,J,J,SqT.of cY,zaj (j:=1) J,_,_,J,J,?_⟩;refine c6 _ _ ⟨⟨n+1,some (.int (zan (runF b x n).ds)),some (.ref pm),some (.ref ps),some (.str U),some (.ref pS),some (.ref aH),?_,cZ,cX,λj aB=>?_,_,cV,cW⟩,dR⟩
     .show [some (V.ref a),some (V.str x),some (V.ref pd),some (V.ref D),some (V.int (((runF b x n).at_:Int)+st.2.1)),some (V.int (zan (runF b x n).ds)),some (V.ref pm),some (V.ref ps),some (V.str U),some (V.ref pS),some (V.ref aH)]=_;rw[dL]
     .rcases Nat.lt_succ_iff_lt_or_eq.mp aB with h|h
      .exact a4 j h
      .rw[h];exact⟨Y,aJ⟩
   .have eh:¬(runF b x n).at_<x.length:=λq=>Y (decide_eq_true (by omega));exact⟨_,J,k D G n ah aj a3 a5 ⟨a4,λq=>eh q.1⟩ a6⟩
  .rintro σ ah eX eY bB ⟨ei,bi,ej,bj,ek,aE,em,en,eo,ep,eq,aV,er,h⟩;exact⟨ei,bi,ej,bj,ek,aE,em,en,eo,ep,eq,aV,er,bB _ _ h⟩
theorem zke{K:W.Frag}{H H':Hp}{a t:Addr}{xs:List V}{ps:Array Value}(B:H t=some (.tbl ps))(e:ButX t H H')(h:SqL K H a xs):SqL K H' a xs:=by
 rcases h with(h|⟨o,h⟩)|h
 .exact .inl (.inl (e _ _ (zar h B (by intro q;cases q)) h))
 .exact .inl (.inr ⟨o,e _ _ (zar h B (by intro q;cases q)) h⟩)
 .exact .inr h
theorem zeV{b:Bk}{x:Str}{n:Nat}(h:(runF b x n).at_=x.length):∀k,runF b x (n+k)=runF b x n
 |0=>rfl
 |k+1=>by
  have B:=zeV h k;show zaQ b x (runF b x (n+k))=_;rw[B];unfold zaQ;rw[if_neg (by omega)]
theorem zmt{b:Bk}{x:Str}{n m:Nat}(h:(runF b x n).at_=x.length)(h':(runF b x m).at_=x.length):runF b x n=runF b x m:=by
 have a:=zeV h m;have c:=zeV h' n;rw[←a,←c,Nat.add_comm]
theorem zi3(k:Nat):∀B:List Stp,Deps (k+1) (B.map stD)
 |[]=>.nil _
 |s::r=>.cons (.tup (.cons (.int _ _) (.cons (.int _ _) (.cons (.str _ _) (.cons (.int _ _) (.cons (.int _ _) (.nil _))))))) (zi3 k r)
theorem zmu{m:Nat}(l:Nat):∃n:Nat,(if (m:Int)<(l:Int) then (m:Int) else (l:Int))=(n:Int)/\n<=m:=by
 by_cases h:(m:Int)<(l:Int)
 .exact⟨m,by rw[if_pos h],Nat.le_refl _⟩
 .exact⟨l,by rw[if_neg h],by omega⟩
noncomputable def KeepE(S:Addr->Prop)(H H':Hp):Prop:=∀b o,¬S b->H b=some o->H' b=some o
noncomputable def NoTup(S:Addr->Prop)(H:Hp):Prop:=∀b xs,S b->H b≠some (.tup xs)
mutual
theorem Rep.keep{z:Addr}{S:Addr->Prop}{H H':Hp}(k:KeepE S H H')(n:NoTup S H):∀ {v:V}{d:D},Rep z H v d->NoL d->Rep z H' v d
 |_,_,.non,_=>.non
 |_,_,.bl b,_=>.bl b
 |_,_,.int i,_=>.int i
 |_,_,.str x h,_=>.str x h
 |_,_,.tup h B r,.tup t=>.tup (k _ _ (λs=>n _ _ s h) h) B (Reps.keep k n r t)
theorem Reps.keep{z:Addr}{S:Addr->Prop}{H H':Hp}(k:KeepE S H H')(n:NoTup S H):∀ {vs:List V}{ds:List D},Reps z H vs ds->NoLs ds->Reps z H' vs ds
 |_,_,.nil,_=>.nil
 |_,_,.cons h t,.cons h' t'=>.cons (Rep.keep k n h h') (Reps.keep k n t t')
end
noncomputable abbrev zi4:Stmt:=za7 zcx 0
noncomputable abbrev zeW:Stmt:=za7 zcx 1
noncomputable abbrev zgf:Stmt:=za7 zcx 2
noncomputable abbrev zeX:Stmt:=za7 zcx 3
noncomputable abbrev Rws:=Nat×Int×Str
inductive Stands(tab:List Rws):Nat->List (Int×Str)->Prop where
 |zero:Stands tab 0 []
 |suc {k:Nat} {r:Rws} {ds:List (Int×Str)} (h:tab[k]?=some r) (hk:r.1<=k) (t:Stands tab r.1 ds):Stands tab (k+1) (ds++[r.2])
theorem Stands.mono{tab:List Rws}{k:Nat}{ds:List (Int×Str)}(h:Stands tab k ds)(more:List Rws):Stands (tab++more) k ds:=by
 induction h with
 |zero=>exact .zero
 |suc h B _ D=>exact .suc (by rw[List.getElem?_append_left (List.getElem?_eq_some_iff.mp h).1];exact h) B D
theorem Stands.inj{tab:List Rws}{k:Nat}{ds es:List (Int×Str)}(h:Stands tab k ds)(g:Stands tab k es):ds=es:=by
 induction h generalizing es with
 |zero=>cases g;rfl
 |suc h D _ B=>
  cases g with
  |suc h' _ t'=>
   rw[h] at h';cases h';rw[B t']
theorem Stands.le{tab:List Rws}{k:Nat}{ds:List (Int×Str)}(h:Stands tab k ds):k<=tab.length:=by
 cases h with
 |zero=>exact Nat.zero_le _
 |suc h _ _=>exact(List.getElem?_eq_some_iff.mp h).1
theorem Stands.nil{tab:List Rws}{k:Nat}(h:Stands tab k []):k=0:=by
 generalize e:([]:List (Int×Str))=ds at h;cases h with
 |zero=>rfl
 |suc _ _ _=>simp at e
theorem Stands.uniq{tab:List Rws}(F:tab.Nodup){k:Nat}{ds:List (Int×Str)}(h:Stands tab k ds):∀ {B:Nat},Stands tab B ds->k=B:=by
 induction h with
 |zero=>exact λg=>g.nil.symm
 |suc h U _ G=>
  intro B g;generalize e:_++[_]=es at g;cases g with
  |zero=>simp at e
  |suc h' V t'=>
   obtain⟨I,D⟩:=List.append_inj' e rfl;rw[←I] at t';have J0:=G t';injection D with D;have O:=Prod.ext J0 D;rw[←O] at h';have:=(List.getElem?_inj (List.getElem?_eq_some_iff.mp h).1 F).mp (h.trans h'.symm);omega
noncomputable def pdP(d:Int×Str):D:=.tup [.int d.1,.str d.2]
noncomputable def rowD(r:Rws):D:=.tup [.int r.1,pdP r.2]
theorem zgg(d:Int×Str):NoL (pdP d):=.tup (.cons (.int _) (.cons (.str _) .nil))
theorem zeY:∀tab:List Rws,NoLs (tab.map rowD)
 |[]=>.nil
 |r::t=>.cons (.tup (.cons (.int _) (.cons (zgg _) .nil))) (zeY t)
theorem zdx:∀ds:List (Int×Str),NoLs (ds.map pdP)
 |[]=>.nil
 |r::t=>.cons (zgg r) (zdx t)
noncomputable def skey(r:Rws):List NKey:=[.inl (.inl r.1),.inr [.inl r.2.1,.inr r.2.2]]
theorem zkf{r s:Rws}(h:skey r=skey s):r=s:=by
 obtain⟨a,b,c⟩:=r;obtain⟨B,F,G⟩:=s;unfold skey at h;simp only[List.cons.injEq,Sum.inl.injEq,Sum.inr.injEq,and_true] at h;obtain⟨h1,h2,D⟩:=h;have h1:a=B:=by omega
 subst h1;subst h2;subst D;rfl
noncomputable abbrev shS:List Bool:=[true,false]
noncomputable def kvsN:Nat->List Rws->List Addr->List NEnt
 |n,r::tab,a::B=>(skey r,a,.int ((n+1:Nat):Int))::kvsN (n+1) tab B
 |_,[],_=>[]
 |_,_::_,[]=>[]
theorem zeZ(r:Rws)(a:Addr):∀(n:Nat) (tab:List Rws) (B:List Addr),tab.length=B.length->kvsN n (tab++[r]) (B++[a])=kvsN n tab B++[(skey r,a,.int ((n+tab.length+1:Nat):Int))]
 |n,[],[],_=>rfl
 |n,s::tab,b::B,h=>by
  show _::kvsN (n+1) (tab++[r]) (B++[a])=_::(kvsN (n+1) tab B++_);rw[zeZ r a (n+1) tab B (by simpa using h)];have e:n+1+tab.length+1=n+(s::tab).length+1:=by rw[List.length_cons];omega
  rw[e]
 |n,[],_::_,h=>by simp at h
 |n,_::_,[],h=>by simp at h
theorem zi5:∀(n:Nat) (tab:List Rws) (B:List Addr),(kvsN n tab B).length<=tab.length
 |n,[],_=>Nat.le_refl _
 |n,_::_,[]=>Nat.zero_le _
 |n,r::tab,a::B=>by
  have:=zi5 (n+1) tab B;show (kvsN (n+1) tab B).length+1<=tab.length+1;omega
theorem zcp(p:NEnt)(l:List NEnt)(k:List NKey):nval (p::l) k=if p.1=k then some p.2.2 else nval l k:=by
 unfold nval;by_cases e:p.1=k
 .rw[if_pos e,List.find?_cons_of_pos (by simpa using e)];rfl
 .rw[if_neg e,List.find?_cons_of_neg (by simpa using e)]
theorem zfQ{r:Rws}{v:V}:∀(n:Nat) (tab:List Rws) (B:List Addr),nval (kvsN n tab B) (skey r)=some v->∃j:Nat,tab[j]?=some r/\v=.int ((n+j+1:Nat):Int)
 |n,[],_,h=>by simp[kvsN,nval] at h
 |n,_::_,[],h=>by simp[kvsN,nval] at h
 |n,s::tab,a::B,h=>by
  have h:nval ((skey s,a,.int ((n+1:Nat):Int))::kvsN (n+1) tab B) (skey r)=some v:=h;rw[zcp] at h;by_cases e:skey s=skey r
  .rw[if_pos e] at h;exact⟨0,by rw[zkf e];rfl,(Option.some.inj h).symm⟩
  .rw[if_neg e] at h;obtain⟨j,h1,h2⟩:=zfQ (n+1) tab B h;exact⟨j+1,h1,by rw[h2];congr 2;omega⟩
theorem zfR{r:Rws}:∀(n:Nat) (tab:List Rws) (B:List Addr),tab.length=B.length->nval (kvsN n tab B) (skey r)=none->¬r∈tab
 |n,[],_,_,_=>by simp
 |n,_::_,[],h,_=>by simp at h
 |n,s::tab,a::B,D,h=>by
  have h:nval ((skey s,a,.int ((n+1:Nat):Int))::kvsN (n+1) tab B) (skey r)=none:=h;rw[zcp] at h;by_cases e:skey s=skey r
  .rw[if_pos e] at h;cases h
  .rw[if_neg e] at h;have:=zfR (n+1) tab B (by simpa using D) h;intro q;rcases List.mem_cons.mp q with q|q
   .exact e (by rw[q])
   .exact this q
theorem zkg{k:List NKey}{p:NEnt}(l:List NEnt)(h:nval l k=none)(e:p.1=k):nval (l++[p]) k=some p.2.2:=by
 induction l with
 |nil=>rw[List.nil_append,zcp,if_pos e]
 |cons q l B=>
  rw[zcp] at h;by_cases g:q.1=k
  .rw[if_pos g] at h;cases h
  .rw[if_neg g] at h;rw[List.cons_append,zcp,if_neg g];exact B h
theorem zgh{z:Addr}{H:Hp}{v:V}{r:Rws}(h:Rep z H v (rowD r)):∃a d,v=.ref a/\a≠z/\d≠z/\H a=some (.tup [.int r.1,.ref d])/\H d=some (.tup [.int r.2.1,.str r.2.2])/\r.2.2.length<=1000:=by
 have h:Rep z H v (.tup [.int r.1,.tup [.int r.2.1,.str r.2.2]]):=h;cases h with
 |tup h I B=>
  cases B with
  |cons B D=>
   cases D with
   |cons D J0=>
    cases J0;cases B;cases D with
    |tup h2 O F=>
     cases F with
     |cons F G=>
      cases G with
      |cons G U=>
       cases U;cases F;cases G with
       |str _ W=>exact⟨_,_,J,I,O,h,h2,W⟩
theorem zgi{z a:Addr}{H:Hp}{r:Rws}(h:Rep z H (.ref a) (rowD r)):zdP H (skey r) a:=by
 obtain⟨B,d,e,_,_,h1,h2,_⟩:=zgh h;cases e;exact⟨_,h1,.cons J (.cons ⟨d,J,h2⟩ .nil)⟩
theorem zdZ{z:Addr}{H:Hp}:∀(n:Nat) (tab:List Rws) (B:List Addr),Reps z H (B.map V.ref) (tab.map rowD)->zfy H shS (kvsN n tab B)
 |n,[],_,_=>λp hp=>nomatch hp
 |n,_::_,[],_=>λp hp=>nomatch hp
 |n,r::tab,a::B,h=>λp hp=>by
  cases h with
  |cons h1 h2=>
   rcases List.mem_cons.mp (show p∈(skey r,a,V.int ((n+1:Nat):Int))::kvsN (n+1) tab B from hp) with e|hp
   .rw[e];exact⟨zgi h1,J⟩
   .exact zdZ (n+1) tab B h2 p hp
theorem zbu(f g:Str)(v:V)(r:List (Str×V)):((g,v)::r).lookup f=if f=g then some v else r.lookup f:=by
 rw[List.lookup_cons];by_cases h:f=g
 .have B:(f==g)=true:=beq_iff_eq.mpr h;rw[B,if_pos h]
 .have B:(f==g)=false:=beq_eq_false_iff_ne.mpr h;rw[B,if_neg h]
noncomputable def stF(pr pn:Addr):List (Str×V):=[("rows",.ref pr),("numbers",.ref pn)]
theorem q1:¬(("rows":Str)="numbers"):=by decide +kernel
theorem ze0(pr pn:Addr):(stF pr pn).lookup ("rows":Str)=some (.ref pr):=by unfold stF;rw[zbu,if_pos rfl]
theorem ze1(pr pn:Addr):(stF pr pn).lookup ("numbers":Str)=some (.ref pn):=by unfold stF;rw[zbu,if_neg (Ne.symm q1),zbu,if_pos rfl]
structure StdS(P:Program)(w:World)(z CS:Addr)(H:Hp)(so dxs pr pn:Addr)(tab:List Rws):Prop where
 ins:H so=some (.ins CS dxs (stF pr pn))
 ex:∃as:List Addr,H pr=some (.lst (.non::as.map V.ref))/\Reps z H (as.map V.ref) (tab.map rowD)/\H pn=some (dN P w shS pn (kvsN 0 tab as))
 prz:pr≠z
 wf:∀(j:Nat) (r:Rws),tab[j]?=some r->r.1<=j
 nod:tab.Nodup
theorem zmL{P:Program}{w:World}{H:Hp}{a b:Addr}{l:List V}{kvs:List NEnt}(h:H a=some (.lst l))(g:H b=some (dN P w shS b kvs)):a≠b:=zar h g (by intro q;cases q)
theorem StdS.keep{P:Program}{w:World}{z CS:Addr}{H H':Hp}{so dxs pr pn:Addr}{tab:List Rws}(h:StdS P w z CS H so dxs pr pn tab){S:Addr->Prop}(k:KeepE S H H')(n:NoTup S H)(h1:¬S so)(h2:¬S pr)(B:¬S pn):StdS P w z CS H' so dxs pr pn tab:=by
 obtain⟨D,F,G,I⟩:=h.ex;exact⟨k _ _ h1 h.ins,⟨D,k _ _ h2 F,Reps.keep k n G (zeY _),k _ _ B I⟩,h.prz,h.wf,h.nod⟩
theorem StdS.same{P:Program}{w:World}{z CS:Addr}{H H':Hp}{so dxs pr pn:Addr}{tab:List Rws}(h:StdS P w z CS H so dxs pr pn tab)(s:Same H H'):StdS P w z CS H' so dxs pr pn tab:=
 h.keep (S:=λ_=>False) (λb o _ e=>s b o e) (λ_ _ q=>q.elim) id id id
structure TxtS(K:W.Frag)(mg:Str->Option Value)(C:Addr):Prop where
 cl:Cls K C
 nR:NoAttr K C "rows"
 nN:NoAttr K C "numbers"
theorem sm1:∀m∈([("__init__":Str),"within","around","doors_by"]:List Str),¬m="rows"/\¬m="numbers":=by decide +kernel
theorem zd0{pr pn:Addr}{m:Str}(h:m∈([("__init__":Str),"within","around","doors_by"]:List Str)):(stF pr pn).lookup m=none:=by
 obtain⟨h1,h2⟩:=sm1 m h;unfold stF;rw[zbu,if_neg h1,zbu,if_neg h2];rfl
inductive ze2(P:Program)(w:World)(CS:Addr):List V->Hp->VK->XK->Prop where
 |mk {vs:List V} {H:Hp} {Q:VK} {E:XK} (r dx:Addr) (c1:vs=[.ref r]) (c2:H r=some (.ins CS dx [])) (c3:∀pr pn H',H pr=none->H pn=none->pr≠pn->SameX r H H'->H' r=some (.ins CS dx (stF pr pn))->H' pr=some (.lst [.non])->H' pn=some (dN P w shS pn [])->Q .non H'):ze2 P w CS vs H Q E
inductive zcY(P:Program)(w:World)(CS:Addr):List V->Hp->VK->XK->Prop where
 |mk {vs:List V} {H:Hp} {Q:VK} {E:XK} (z so dxs pr pn dd:Addr) (tab:List Rws) (o:Nat) (d:Int×Str) (c1:vs=[.ref so,.int o,.ref dd]) (c2:Bag z H) (c3:StdS P w z CS H so dxs pr pn tab) (c4:dd≠z) (c5:H dd=some (.tup [.int d.1,.str d.2])) (c6:d.2.length<=1000) (c7:o<=tab.length) (c8:tab.length<1000000)
   (c9:∀k tab' H',(tab'=tab∨tab'=tab++[(o,d)])->tab'[k]?=some (o,d)->o<=k->KeepE (λb=>b=pr∨b=pn) H H'->StdS P w z CS H' so dxs pr pn tab'->Q (.int ((k+1:Nat):Int)) H'):zcY P w CS vs H Q E
inductive zdy(P:Program)(w:World)(CS:Addr):List V->Hp->VK->XK->Prop where
 |mk {vs:List V} {H:Hp} {Q:VK} {E:XK} (z so dxs pr pn:Addr) (tab:List Rws) (k:Nat) (r:Rws) (c1:vs=[.ref so,.int ((k+1:Nat):Int)]) (c2:StdS P w z CS H so dxs pr pn tab) (c3:tab[k]?=some r) (c4:Q (.int r.1) H):zdy P w CS vs H Q E
inductive zbX(P:Program)(w:World)(CS:Addr):List V->Hp->VK->XK->Prop where
 |mk {vs:List V} {H:Hp} {Q:VK} {E:XK} (z so dxs pr pn:Addr) (tab:List Rws) (k:Nat) (ds:List (Int×Str)) (c1:vs=[.ref so,.int k]) (c2:Bag z H) (c3:StdS P w z CS H so dxs pr pn tab) (c4:Stands tab k ds) (c5:ds.length<=20000)
   (c6:∀p dv H',Same H H'->H p=none->H' p=some (.lst dv)->Reps z H' dv (ds.map pdP)->Q (.ref p) H'):zbX P w CS vs H Q E
theorem zkS{B:List Addr}{j:Nat}{a:Addr}(h:B[j]?=some a):(V.non::B.map V.ref)[j+1]?=some (.ref a):=by
 rw[List.getElem?_cons_succ,List.getElem?_map,h];rfl
theorem ze3{z:Addr}{H:Hp}{B:List Addr}{tab:List Rws}{j:Nat}{r:Rws}(R:Reps z H (B.map V.ref) (tab.map rowD))(h:tab[j]?=some r):∃a,B[j]?=some a/\Rep z H (.ref a) (rowD r):=by
 have F:=(List.getElem?_eq_some_iff.mp h).1;have G:=R.length;rw[List.length_map,List.length_map] at G;have g:=R.get (i:=j) (by simpa using F);have D:j<B.length:=by omega
 refine⟨B[j],List.getElem?_eq_getElem D,?_⟩;have I:(B.map V.ref).getD j .non=.ref B[j]:=by simp[D]
 have J0:(tab.map rowD).getD j .non=rowD r:=by
  rw[List.getD_eq_getElem?_getD,List.getElem?_map,h];rfl
 rw[I,J0] at g;exact g
theorem zlC:zav ["self"] ["self"] (zag zi4):=⟨J,J,J,by decide +kernel,J,by decide +kernel,by decide +kernel⟩
theorem zkh{f C:Addr}{fd:FuncData}(F:Fun K "__init__" "Standings.__init__" zi4 f fd)(D:TxtS K mg C):FnOk P w K mg base CX0 1 f fd ["self"] (ze2 P w C):=by
 refine F.ok zlC (λvs H Q E h=>?_) (λcdv A outer s H vs Q E aa h=>?_)
 .obtain⟨r,dx,rfl,_⟩:=h;rfl
 .obtain⟨r,dx,rfl,I,k⟩:=h;refine⟨_,zac (zch (pv 0) (zaE (pa_K zea zad)) J) (zai (zch (pv 0) (zjO shS) J)),?_⟩;dsimp only[cxOf,Cx.nox,Cx.wish];have ab:=za2;refine⟨by show (1:Nat)<=_;omega,λpr J0=>?_⟩;have G:r≠pr:=zae I J0;refine⟨_,J,r,C,dx,_,J,by rw[zak G];exact I,D.cl,D.nR,by show (0:Nat)<1000;decide,?_⟩;intro pn O;have B:upd H pr (.lst [.non]) pn=none:=by
   by_cases q:pn=r
   .rw[q,zab] at O;cases O
   .rwa [zak q] at O
  have W:pn≠r:=λq=>by rw[q,zak G,I] at B;cases B
  have U:pn≠pr:=λq=>by rw[q,zab] at B;cases B
  have Y:H pn=none:=by rwa [zak U] at B
  refine⟨_,J,r,C,dx,_,J,by rw[zak W.symm,zab],D.cl,D.nN,by show (1:Nat)<1000;decide,?_⟩;refine k pr pn _ J0 Y U.symm (λb o Z e=>?_) ?_ ?_ ?_
  .rw[zak Z,zak (zae e Y),zak Z,zak (zae e J0)];exact e
  .rw[zab];show some (HO.ins C dx (if ("rows":Str)="numbers" then _ else _::[(("numbers":Str),V.ref pn)]))=_;rw[if_neg q1];rfl
  .rw[zak G.symm,zak U.symm,zak G.symm,zab]
  .rw[zak W,zab]
theorem scWithinS:zav ["self","number","door","row"] ["self","number","door"] (zag zeW):=⟨J,J,J,by decide +kernel,J,by decide +kernel,by decide +kernel⟩
theorem zhC{f C:Addr}{fd:FuncData}(F:Fun K "within" "Standings.within" zeW f fd)(T:TxtB mg)(D:TxtS K mg C):FnOk P w K mg base CX0 1 f fd ["self","number","door"] (zcY P w C):=by
 refine F.ok scWithinS (λvs H Q E h=>?_) (λcdv A outer s H vs Q E aq h=>?_)
 .obtain⟨z,so,dxs,pr,pn,dd,tab,o,d,rfl,_⟩:=h;rfl
 .obtain⟨z,so,dxs,pr,pn,dd,tab,o,d,rfl,ar,O,as,au,av,aw,aI,k⟩:=h;have ax:=scWithinS.nd;have U:(A.deeper (PyProof.Rows.envOfC "Standings.within" (zag zeW) s.heap.objs.size f cdv)).units+6<cLine:=by have:=aq.un;omega
  refine⟨_,zac (zap (i:=3) ax J (Or.inl J) (za9 (zaa (pv 1) (zaa (pv 2) zad))))
   (zac (zaY (zhL (zij U shS (pv 3) (zaI (pv 0) J)))
    (zac (zbz (zao zaD (by rfl) T.len b_len (zaa (zaI (pv 0) J) zad)) (zgq (zaI (pv 0) J) (pv 3) (zmG U shS)))
    (zai (zaU (zbN PySem.F.plainAttrs_list PySem.F.slot_list_append PySem.F.type_list_append zaL (zaI (pv 0) J) (zaa (pv 3) zad))))) zaA)
   (zai (zax (zme U shS (zaI (pv 0) J) (pv 3) (λ_ _=>rfl))))),?_⟩
  dsimp only[cxOf,Cx.nox,Cx.wish];have aJ:=za2;have aK:(1000002:Nat)<=sizeLine:=by rw[sizeLine_eq];decide
  refine⟨_,J,_,J,by show (2:Nat)<=_;omega,λpt ag=>?_⟩;have W:=Same.new (o:=.tup [.int o,.ref dd]) ag;have ah:upd H pt (.tup [.int o,.ref dd]) pt=some (.tup [.int o,.ref dd]):=zab;have ay:pt≠z:=ar.ne ag;have G:=O.same W;have ai:=W _ _ au;generalize upd H pt (.tup [.int o,.ref dd])=H1 at W ah G ai;obtain⟨B,I,RR,J0⟩:=G.ex;have Y:B.length=tab.length:=by have:=RR.length;simpa using this
  have aa:=zdZ 0 tab B RR;have aj:Rep z H1 (.ref pt) (rowD (o,d)):=.tup ah ay (.cons (.int _) (.cons (.tup ai as (.cons (.int _) (.cons (.str _ av) .nil))) .nil));have ab:=zgi aj;refine⟨_,J,_,J,so,C,dxs,_,_,J,G.ins,D.cl,D.nN,ze1 pr pn,pt,pn,skey (o,d),_,J,J,J0,aa,ab,J,_,J,?_⟩;cases hv:nval (kvsN 0 tab B) (skey (o,d)) with
  |some v=>
   refine iteF ?_;obtain⟨j,h1,h2⟩:=zfQ 0 tab B hv;refine⟨_,J,so,C,dxs,_,_,J,G.ins,D.cl,D.nN,ze1 pr pn,_,J,pn,pt,skey (o,d),_,v,J,J,J0,aa,ab,J,hv,?_⟩;rw[h2,Nat.zero_add];exact k j tab H1 (.inl J) h1 (O.wf _ _ h1) (λb o _ e=>W b o e) G
  |none=>
   refine iteT ?_;refine⟨_,J,so,C,dxs,_,_,J,G.ins,D.cl,D.nR,ze0 pr pn,pr,_,J,.inl (SqL.of I),_,J,so,C,dxs,_,_,J,G.ins,D.cl,D.nN,ze1 pr pn,_,J,pn,pt,skey (o,d),_,J,J,J0,aa,ab,J,hv,?_,?_⟩
   .have:=zi5 0 tab B;omega
   have ac:pr≠pn:=zmL I J0;have ak:so≠pn:=zar G.ins J0 (by intro q;cases q);have az:so≠pr:=zar G.ins I (by intro q;cases q);have aA:((V.non::B.map V.ref).length:Int)=((0+tab.length+1:Nat):Int):=by rw[List.length_cons,List.length_map,Y];omega
   rw[aA,←zeZ (o,d) pt 0 tab B Y.symm];refine⟨_,J,so,C,dxs,_,_,J,by rw[zak ak];exact G.ins,D.cl,D.nR,ze0 pr pn,.inl ⟨J,_,SqL.of (by rw[zak ac];exact I)⟩,_,J,pr,_,_,J,J,by rw[zak ac];exact I,by rw[List.length_cons,List.length_map];omega,?_⟩;have k2:KeepE (λb=>b=pr∨b=pn) H1 (upd (upd H1 pn (dN P w shS pn (kvsN 0 (tab++[(o,d)]) (B++[pt])))) pr (.lst ((V.non::B.map V.ref)++[.ref pt]))):=λb u n e=>by
    rw[zak (λq=>n (.inl q)),zak (λq=>n (.inr q))];exact e
   have al:NoTup (λb=>b=pr∨b=pn) H1:=λb xs q e=>by
    rcases q with q|q
    .rw[q,I] at e;cases e
    .rw[q,J0] at e;cases e
   have ad:=k2 so _ (λq=>q.elim az ak) G.ins;have Z:Reps z (upd (upd H1 pn (dN P w shS pn (kvsN 0 (tab++[(o,d)]) (B++[pt])))) pr (.lst ((V.non::B.map V.ref)++[.ref pt]))) ((B++[pt]).map V.ref) ((tab++[(o,d)]).map rowD):=by
    rw[List.map_append,List.map_append];exact(Reps.keep k2 al RR (zeY _)).append (.cons (Rep.keep k2 al aj (.tup (.cons (.int _) (.cons (zgg _) .nil)))) .nil)
   have am:upd (upd H1 pn (dN P w shS pn (kvsN 0 (tab++[(o,d)]) (B++[pt])))) pr (.lst ((V.non::B.map V.ref)++[.ref pt])) pr=some (.lst (.non::(B++[pt]).map V.ref)):=by
    rw[zab,List.map_append];rfl
   have ae:upd (upd H1 pn (dN P w shS pn (kvsN 0 (tab++[(o,d)]) (B++[pt])))) pr (.lst ((V.non::B.map V.ref)++[.ref pt])) pn=some (dN P w shS pn (kvsN 0 (tab++[(o,d)]) (B++[pt]))):=by rw[zak ac.symm,zab]
   generalize upd (upd H1 pn (dN P w shS pn (kvsN 0 (tab++[(o,d)]) (B++[pt])))) pr (.lst ((V.non::B.map V.ref)++[.ref pt]))=H2 at k2 ad Z am ae;have aB:nval (kvsN 0 (tab++[(o,d)]) (B++[pt])) (skey (o,d))=some (.int ((0+tab.length+1:Nat):Int)):=by
    rw[zeZ (o,d) pt 0 tab B Y.symm];exact zkg _ hv rfl
   have ao:(tab++[(o,d)])[tab.length]?=some (o,d):=by rw[List.getElem?_append_right (Nat.le_refl _),Nat.sub_self];rfl
   obtain⟨af,ap,aC⟩:=ze3 Z ao;have aD:af=pt:=by
    rw[←Y,List.getElem?_append_right (Nat.le_refl _),Nat.sub_self] at ap;exact(Option.some.inj ap).symm
   subst aD;refine⟨_,J,so,C,dxs,_,_,J,ad,D.cl,D.nN,ze1 pr pn,_,J,pn,af,skey (o,d),_,_,J,J,ae,zdZ 0 _ _ Z,zgi aC,J,aB,?_⟩;have aE:0+tab.length+1=tab.length+1:=by omega
   rw[aE];exact k tab.length (tab++[(o,d)]) H2 (.inr J) ao aw (λb u n e=>k2 b u n (W b u e)) ⟨ad,⟨B++[af],am,Z,ae⟩,O.prz,λj r h=>by
    by_cases aF:j<tab.length
    .rw[List.getElem?_append_left aF] at h;exact O.wf j r h
    .rw[List.getElem?_append_right (by omega)] at h;have aG:j-tab.length=0:=by
      have:=(List.getElem?_eq_some_iff.mp h).1;simp at this;omega
     rw[aG] at h;have:r=(o,d):=(Option.some.inj h).symm;rw[this];show o<=j;omega,List.nodup_append.mpr ⟨O.nod,by simp,λu U aL aH e=>zfR 0 tab B Y.symm hv (by rw[List.mem_singleton.mp aH] at e;rw[←e];exact U)⟩⟩
theorem Reps.reverse{z:Addr}{H:Hp}:∀ {vs:List V}{ds:List D},Reps z H vs ds->Reps z H vs.reverse ds.reverse
 |_,_,.nil=>.nil
 |_,_,.cons h t=>by
  rw[List.reverse_cons,List.reverse_cons];exact(Reps.reverse t).append (.cons h .nil)
theorem scAround:zav ["self","number","outer","door"] ["self","number"] (zag zgf):=⟨J,J,J,by decide +kernel,J,by decide +kernel,by decide +kernel⟩
theorem zi6{f C:Addr}{fd:FuncData}(F:Fun K "around" "Standings.around" zgf f fd)(B:TxtS K mg C):FnOk P w K mg base CX0 1 f fd ["self","number"] (zdy P w C):=by
 refine F.ok scAround (λvs H Q E h=>?_) (λcdv A outer s H vs Q E V h=>?_)
 .obtain⟨z,so,dxs,pr,pn,tab,k,r,rfl,_⟩:=h;rfl
 .obtain⟨z,so,dxs,pr,pn,tab,k,r,rfl,D,I,q⟩:=h;have G:=scAround.nd;refine⟨_,zac (zbz (zau ix_list (zaI (pv 0) J) (pv 1) (λ_ _=>rfl)) (zbF J (zaw (zaq (i:=2) G J (Or.inl J)) (zaw (zaq (i:=3) G J (Or.inl J)) za6)))) (zai (zax (pv 2))),?_⟩;dsimp only[cxOf,Cx.nox,Cx.wish];obtain⟨W,h1,RR,Y⟩:=D.ex;obtain⟨a,J0,O⟩:=ze3 RR I;obtain⟨Z,d,ea,_,_,U,aa,_⟩:=zgh O;cases ea;exact⟨_,J,so,C,dxs,_,_,J,D.ins,B.cl,B.nR,ze0 pr pn,_,J,pr,_,_,_,J,J,SqL.of h1,zaj (zkS J0),a,_,J,SqT.of U,J,_,_,J,_,_,J,J,_,J,q⟩
theorem scDoorsBy:zav ["self","number","doors","door"] ["self","number"] (zag zeX):=⟨J,J,J,by decide +kernel,J,by decide +kernel,by decide +kernel⟩
theorem zhD{f C:Addr}{fd:FuncData}(F:Fun K "doors_by" "Standings.doors_by" zeX f fd)(Y:TxtS K mg C):FnOk P w K mg base CX0 1 f fd ["self","number"] (zbX P w C):=by
 refine F.ok scDoorsBy (λvs H Q E h=>?_) (λcdv A outer s H vs Q E av h=>?_)
 .obtain⟨z,so,dxs,pr,pn,tab,k,ds,rfl,_⟩:=h;rfl
 .obtain⟨z,so,dxs,pr,pn,tab,k,ds,rfl,ab,ac,ad,aw,q⟩:=h;have G:=scDoorsBy.nd;refine⟨_,zac (zap (i:=2) G J (Or.inl J) (zaE zad))
   (zac (zb0 PassesOwn.never (zat zfg (pv 1) zaf (zaz _))
    (zac (zbz (zau ix_list (zaI (pv 0) J) (pv 1) (λ_ _=>rfl)) (zbF J (zaw (zaq (i:=1) G J (Or.inl J)) (zaw (zaq (i:=3) G J (Or.inl J)) za6))))
    (zai (zaU (zbN PySem.F.plainAttrs_list PySem.F.slot_list_append PySem.F.type_list_append zaL (pv 2) (zaa (pv 3) zad))))))
   (zac (zaU (zfo PySem.F.plainAttrs_list PySem.F.slot_list_reverse PySem.F.type_list_reverse zhj (pv 2)))
   (zai (zax (pv 2))))),?_⟩
  dsimp only[cxOf,Cx.nox,Cx.wish];have ax:(100000:Nat)<=sizeLine:=by rw[sizeLine_eq];decide
  refine⟨Nat.zero_le _,λp np=>?_⟩;have ae:=Same.new (o:=.lst []) np;have ay:p≠z:=ab.ne np;dsimp only;refine zah λaz af=>?_;refine zb1 (λσ H2=>∃(I:Nat) (J0 es:List (Int×Str)) (B:List V) (Z:Option V),σ=[some (.ref so),some (.int I),some (.ref p),Z]/\Same H H2/\Stands tab I J0/\ds=J0++es.reverse/\H2 p=some (.lst B)/\Reps z H2 B (es.map pdP))
   (λσ _=>match σ[1]? with|some (some (V.int i))=>i.toNat|_=>0) ⟨k,ds,[],[],none,J,ae,ad,by simp,zab,.nil⟩ ?_ ?_
  .rintro σ H2 ⟨I,J0,es,B,Z,rfl,O,ag,U,D,W⟩;refine⟨_,J,J,_,J,?_⟩;have aa:=ac.same O;cases ag with
   |zero=>
    refine iteF (af _ _ ?_);refine⟨_,J,.inl ⟨J,_,SqL.of D⟩,p,B,J,J,D,_,J,?_⟩;have ah:Reps z (upd H2 p (.lst B.reverse)) B.reverse (ds.map pdP):=by
     rw[U,List.nil_append,List.map_reverse];exact Reps.updL D (Reps.reverse W) (by rw[←List.map_reverse];exact zdx _)
    exact q p B.reverse _ (λb o e=>by rw[zak (zae e np)];exact O b o e) np zab ah
   |@suc k0 r ds0 h aA t=>
    refine ite2 (λ_=>?_) (λg=>absurd g ?_)
    .obtain⟨aB,h1,RR,aC⟩:=aa.ex;obtain⟨a,ai,aj⟩:=ze3 RR h;obtain⟨aD,d,ea,_,ak,al,am,ao⟩:=zgh aj;cases ea;have aE:es.length<=ds.length:=by rw[U];simp;omega
     have aF:B.length=es.length:=by have:=W.length;simpa using this
     refine⟨_,J,so,C,dxs,_,_,J,aa.ins,Y.cl,Y.nR,ze0 pr pn,_,J,pr,_,_,_,J,J,SqL.of h1,zaj (zkS ai),a,_,J,SqT.of al,J,_,_,J,_,_,J,J,?_⟩;refine⟨_,J,.inl ⟨J,_,SqL.of D⟩,_,J,p,B,_,J,J,D,by omega,⟨r.1,ds0,es++[r.2],B++[.ref d],_,J,λb o e=>by rw[zak (zae e np)];exact O b o e,t,?_,zab,?_⟩,?_⟩
     .rw[U,List.reverse_append,List.append_assoc];rfl
     .rw[List.map_append];exact Reps.updL D (W.append (.cons (.tup am ak (.cons (.int _) (.cons (.str _ ao) .nil))) .nil)) ((zdx _).append (zdx [_]))
     .show ((r.1:Int)).toNat<(((k0+1:Nat):Int)).toNat;omega
    .have:¬(V.int ((k0+1:Nat):Int)=V.int 0):=λe=>by injection e with e;omega
     rw[decide_eq_false this];simp
  .rintro σ aG aH aI ap ⟨aq,ar,h2,as,au,h⟩;exact⟨aq,ar,h2,as,au,ap _ _ h⟩
noncomputable abbrev zi7:Stmt:=za7 sPage 0
noncomputable abbrev zgj:Stmt:=za7 sPage 1
noncomputable abbrev zi8:Stmt:=za7 sPage 3
noncomputable abbrev zgk:Stmt:=za7 sPage 4
noncomputable abbrev mPut:Stmt:=za7 sPage 6
noncomputable abbrev mAnew:Stmt:=za7 sPage 7
noncomputable abbrev ze4:Stmt:=za7 sPage 8
noncomputable abbrev zgl:Stmt:=za7 sPage 9
noncomputable abbrev zdf:Stmt:=za7 sPage 10
noncomputable abbrev zdz:Stmt:=za7 sPage 11
noncomputable abbrev zdg:Stmt:=za7 sPage 12
noncomputable abbrev zcM:Stmt:=za7 sPage 13
noncomputable def pgF(v:V)(x:Str)(pt ps so pw:Addr):List (Str×V):=[("book",v),("signs",.str x),("told",.ref pt),("stands",.ref ps),("standings",.ref so),("ways_back",.ref pw)]
theorem zaM{f g:Str}{v:V}{r:List (Str×V)}(h:¬f=g):((g,v)::r).lookup f=r.lookup f:=by rw[zbu,if_neg h]
theorem zeo{f:Str}{v:V}{r:List (Str×V)}:((f,v)::r).lookup f=some v:=by rw[zbu,if_pos rfl]
theorem zbP{f g:Str}{v x:V}{r:List (Str×V)}(h:¬g=f):putF f v ((g,x)::r)=(g,x)::putF f v r:=if_neg h
theorem zlD{f:Str}{v x:V}{r:List (Str×V)}:putF f v ((f,x)::r)=(f,v)::r:=if_pos rfl
section
variable (v:V) (x x':Str) (pt ps so pw pt' ps':Addr)
theorem zi9:(pgF v x pt ps so pw).lookup ("book":Str)=some v:=zeo
theorem zbq:(pgF v x pt ps so pw).lookup ("signs":Str)=some (.str x):=(zaM (by decide +kernel)).trans zeo
theorem zcN:(pgF v x pt ps so pw).lookup ("told":Str)=some (.ref pt):=(zaM (by decide +kernel)).trans ((zaM (by decide +kernel)).trans zeo)
theorem zcq:(pgF v x pt ps so pw).lookup ("stands":Str)=some (.ref ps):=(zaM (by decide +kernel)).trans ((zaM (by decide +kernel)).trans ((zaM (by decide +kernel)).trans zeo))
theorem zbB:(pgF v x pt ps so pw).lookup ("standings":Str)=some (.ref so):=(zaM (by decide +kernel)).trans ((zaM (by decide +kernel)).trans ((zaM (by decide +kernel)).trans ((zaM (by decide +kernel)).trans zeo)))
theorem ze5:(pgF v x pt ps so pw).lookup ("ways_back":Str)=some (.ref pw):=(zaM (by decide +kernel)).trans ((zaM (by decide +kernel)).trans ((zaM (by decide +kernel)).trans ((zaM (by decide +kernel)).trans ((zaM (by decide +kernel)).trans zeo))))
theorem zki:putF "signs" (.str x') (pgF v x pt ps so pw)=pgF v x' pt ps so pw:=(zbP (by decide +kernel)).trans (congrArg _ zlD)
theorem zlE:putF "told" (.ref pt') (pgF v x pt ps so pw)=pgF v x pt' ps so pw:=(zbP (by decide +kernel)).trans (congrArg _ ((zbP (by decide +kernel)).trans (congrArg _ zlD)))
theorem zja:putF "stands" (.ref ps') (pgF v x pt ps so pw)=pgF v x pt ps' so pw:=(zbP (by decide +kernel)).trans (congrArg _ ((zbP (by decide +kernel)).trans (congrArg _ ((zbP (by decide +kernel)).trans (congrArg _ zlD)))))
end
theorem pm1:∀m∈([("__init__":Str),"change","text","steps","put","read_anew","goes_on","stand_behind","beginning","numbers_by_beginnings","count_sure","count_ended"]:List Str),¬m="book"/\¬m="signs"/\¬m="told"/\¬m="stands"/\¬m="standings"/\¬m="ways_back":=by decide +kernel
theorem za8{v:V}{x:Str}{pt ps so pw:Addr}{m:Str}(h:m∈([("__init__":Str),"change","text","steps","put","read_anew","goes_on","stand_behind","beginning","numbers_by_beginnings","count_sure","count_ended"]:List Str)):(pgF v x pt ps so pw).lookup m=none:=by
 obtain⟨h1,h2,B,D,F,G⟩:=pm1 m h;unfold pgF;rw[zaM h1,zaM h2,zaM B,zaM D,zaM F,zaM G];rfl
structure TxtP(K:W.Frag)(mg:Str->Option Value)(C:Addr):Prop where
 cl:Cls K C
 nB:NoAttr K C "book"
 nX:NoAttr K C "signs"
 nT:NoAttr K C "told"
 nS:NoAttr K C "stands"
 nG:NoAttr K C "standings"
 nW:NoAttr K C "ways_back"
theorem zgm(b:Bk)(ds:List LDr)(x:Str)(i:Nat)(m:Str):(stepL b ds x i m).1.1=(i:Int):=by
 unfold stepL;split
 .split<;>rfl
 .split
  .rfl
  .split
   .rfl
   .split<;>rfl
noncomputable abbrev zbi(b:Bk)(x:Str)(j:Nat):Stp:=(stepL b (runF b x j).ds x (runF b x j).at_ (bestL b (runF b x j).ds x (runF b x j).at_)).1
theorem zkj{b:Bk}{x:Str}{n:Nat}(h:¬(runF b x n).at_<x.length):runF b x (n+1)=runF b x n:=by
 show zaQ b x (runF b x n)=_;unfold zaQ;rw[if_neg h]
theorem zgZ(b:Bk)(x:Str):∀n,(runF b x n).at_<x.length->(runF b x n).ss.length=n
 |0,_=>rfl
 |n+1,h=>by
  by_cases B:(runF b x n).at_<x.length
  .rw[zbJ B,List.length_append,zgZ b x n B];rfl
  .rw[zkj B] at h;exact absurd h B
structure RunN(b:Bk)(x:Str)(N:Nat):Prop where
 at_:(runF b x N).at_=x.length
 lt:∀j,j<N->(runF b x j).at_<x.length
theorem RunN.len{b:Bk}{x:Str}{N:Nat}(h:RunN b x N):∀j,j<=N->(runF b x j).ss.length=j
 |0,_=>rfl
 |j+1,B=>by
  have h1:=h.lt j (by omega);rw[zbJ h1,List.length_append,h.len j (by omega)];rfl
theorem RunN.get{b:Bk}{x:Str}{N:Nat}(h:RunN b x N):∀n,n<=N->∀j,j<n->(runF b x n).ss[j]?=some (zbi b x j)
 |0,_,j,B=>absurd B (Nat.not_lt_zero _)
 |n+1,F,j,B=>by
  have h1:=h.lt n (by omega);have D:=h.len n (by omega);rw[zbJ h1];by_cases q:j<n
  .rw[List.getElem?_append_left (by omega)];exact h.get n (by omega) j q
  .have e:j=n:=by omega
   subst e;rw[List.getElem?_append_right (by omega),D,Nat.sub_self];rfl
theorem RunN.take{b:Bk}{x:Str}{N:Nat}(h:RunN b x N){n:Nat}(B:n<=N):(runF b x n).ss=(runF b x N).ss.take n:=by
 refine List.ext_getElem? λj=>?_;by_cases q:j<n
 .rw[h.get n B j q,List.getElem?_take_of_lt q,h.get N (Nat.le_refl _) j (by omega)]
 .rw[List.getElem?_eq_none (by rw[h.len n B];omega),List.getElem?_eq_none (by rw[List.length_take];omega)]
theorem RunN.next{b:Bk}{x:Str}{N:Nat}(h:RunN b x N)(G:BkOk b){j:Nat}(I:j<N):((runF b x (j+1)).at_:Int)=((runF b x j).at_:Int)+(zbi b x j).2.1/\1<=(zbi b x j).2.1/\(zbi b x j).2.1<=4/\(zbi b x j).1=((runF b x j).at_:Int):=by
 obtain⟨B,O,D,_⟩:=id G;have h1:=h.lt j I;have J0:=za4 (x:=x) D B j;obtain⟨F,p2,p3,p4,p5,U⟩:=zaK (x:=x) D J0.bk B h1;refine⟨?_,F,p2,zgm _ _ _ _ _⟩;rw[zdm h1];have e:∀(a:Nat) (k:Int),1<=k->((a+k.toNat:Nat):Int)=(a:Int)+k:=λa k V=>by omega
 exact e _ _ F
theorem RunN.mono{b:Bk}{x:Str}{N:Nat}(h:RunN b x N)(B:BkOk b){i:Nat}:∀ {j:Nat},i<j->j<=N->(runF b x i).at_<(runF b x j).at_
 |0,hi,_=>absurd hi (Nat.not_lt_zero _)
 |j+1,hi,D=>by
  obtain⟨h1,h2,_⟩:=h.next B (j:=j) (by omega);by_cases q:i=j
  .subst q;omega
  .have:=h.mono B (i:=i) (j:=j) (by omega) (by omega);omega
structure PgS(P:Program)(w:World)(z CP CS:Addr)(H:Hp)(r dx:Addr)(v:V)(b:Bk)(x:Str)(pt ps so dxs pr pn pw:Addr)(tab:List Rws)(N:Nat)(ks:List Nat):Prop where
 ins:H r=some (.ins CP dx (pgF v x pt ps so pw))
 rb:Rep z H v (bkD b)
 ok:BkOk b
 run:RunN b x N
 told:∃tv,H pt=some (.lst tv)/\Reps z H tv ((runF b x N).ss.map stD)
 stands:H ps=some (.lst (ks.map λk:Nat=>V.int (k:Int)))
 kl:ks.length=N+1
 st:∀j,j<=N->∃k,ks[j]?=some k/\Stands tab k ((runF b x j).ds.map (·.2))
 sd:StdS P w z CS H so dxs pr pn tab
 xl:x.length<=2000
 nes:(pt≠pr/\ps≠pr/\pw≠pr)/\(pt≠z/\ps≠z/\pw≠z)/\(pw≠pt/\pw≠ps)
inductive zcd(P:Program)(w:World)(CP CS:Addr):List V->Hp->VK->XK->Prop where
 |mk {vs:List V} {H:Hp} {Q:VK} {E:XK} (z r dx:Addr) (v:V) (b:Bk) (x:Str) (pt ps so dxs pr pn pw:Addr) (tab:List Rws) (N:Nat) (ks:List Nat) (n:Nat) (c1:vs=[.ref r,.int n]) (c2:PgS P w z CP CS H r dx v b x pt ps so dxs pr pn pw tab N ks) (c3:n<=N) (c4:Q (.int (runF b x n).at_) H):zcd P w CP CS vs H Q E
theorem zkk:zav ["self","number"] ["self","number"] (zag zdf):=⟨J,J,J,by decide +kernel,J,by decide +kernel,by decide +kernel⟩
theorem zjb{f CP CS:Addr}{fd:FuncData}(F:Fun K "beginning" "Page.beginning" zdf f fd)(T:TxtB mg)(D:TxtP K mg CP):FnOk P w K mg base CX0 1 f fd ["self","number"] (zcd P w CP CS):=by
 refine F.ok zkk (λvs H Q E h=>?_) (λcdv A outer s H vs Q E ag h=>?_)
 .obtain⟨z,r,dx,v,b,x,pt,ps,so,dxs,pr,pn,pw,tab,N,ks,n,rfl,_⟩:=h;rfl
 .obtain⟨z,r,dx,v,b,x,pt,ps,so,dxs,pr,pn,pw,tab,N,ks,n,rfl,B,ah,k⟩:=h;refine⟨_,zac (zaY (zat zcg (pv 1) (zao zaD (by rfl) T.len b_len (zaa (zaI (pv 0) J) zad)) (zaz _)) (zai (zax (zao zam (by rfl) T.len b_len (zaa (zaI (pv 0) J) zad)))) zaA)
   (zai (zax (zau ix_tup (zau ix_list (zaI (pv 0) J) (pv 1) (λ_ _=>rfl)) zaf (λ_ _=>rfl)))),?_⟩
  dsimp only[cxOf,Cx.nox,Cx.wish];have ai:(100000:Nat)<=sizeLine:=by rw[sizeLine_eq];decide
  obtain⟨tv,W,Y⟩:=B.told;have aj:=B.xl;have Z:tv.length=N:=by
   have:=Y.length;rw[List.length_map,B.run.len N (Nat.le_refl _)] at this;exact this
  refine⟨_,J,_,J,r,CP,dx,_,_,J,B.ins,D.cl,D.nT,zcN v x pt ps so pw,pt,tv,J,.inl (SqL.of W),J,_,J,?_⟩;by_cases e:n=N
  .subst e;have J0:decide (V.int (n:Int)=V.int (tv.length:Int))=true:=by rw[Z];simp
   rw[J0];refine iteT ⟨_,J,r,CP,dx,_,_,J,B.ins,D.cl,D.nX,zbq v x pt ps so pw,x,J,by omega,?_⟩;rw[←B.run.at_];exact k
  .have J0:decide (V.int (n:Int)=V.int (tv.length:Int))=false:=decide_eq_false λq=>by injection q with q;omega
   rw[J0];have O:n<N:=by omega
   have aa:=B.run.get N (Nat.le_refl _) n O;obtain⟨_,_,_,ab⟩:=B.run.next B.ok O;have I:Rep z H (tv.getD n .non) (stD (zbi b x n)):=by
    have:=Y.get (i:=n) (by rw[List.length_map,B.run.len N (Nat.le_refl _)];exact O);have ac:((runF b x N).ss.map stD).getD n .non=stD (zbi b x n):=by
     rw[List.getD_eq_getElem?_getD,List.getElem?_map,aa];rfl
    rw[ac] at this;exact this
   obtain⟨G,xs,ad,ae⟩:∃G xs,tv.getD n .non=.ref G/\H G=some (.tup (.int (zbi b x n).1::xs)):=by
    have I:Rep z H (tv.getD n .non) (.tup [.int (zbi b x n).1,.int (zbi b x n).2.1,.str (zbi b x n).2.2.1,.int (zbi b x n).2.2.2.1,.int (zbi b x n).2.2.2.2]):=I;generalize tv.getD n .non=ak at I;cases I with
    |tup h _ U=>
     cases U with
     |cons U al=>
      cases U;exact⟨_,_,J,h⟩
   have af:tv[n]?=some (.ref G):=by
    have h1:n<tv.length:=by omega
    have h2:tv.getD n .non=tv[n]:=by simp[h1]
    rw[List.getElem?_eq_getElem h1,←h2,ad]
   refine iteF ⟨_,J,r,CP,dx,_,_,J,B.ins,D.cl,D.nT,zcN v x pt ps so pw,_,J,pt,tv,n,_,J,J,SqL.of W,zaj af,G,_,0,_,J,J,SqT.of ae,zaj (j:=0) J,?_⟩;rw[ab];exact k
theorem zjc{b:Bk}{ds:List LDr}{y:Str}{j:Nat}(G:BkOk b)(D:LdBk b ds)(Y:j+4<=y.length):sureB b ds y j=true:=by
 obtain⟨I,Z,B,_⟩:=id G;obtain⟨J0,O,U⟩:=za5 (D.ok B) I;have V:(zan ds).toNat=J0:=by rw[O];rfl
 have aa:=ziY B U;have F:(y.cps.toList.drop j).length=y.length-j:=by rw[List.length_drop,zal]
 rw[zgW (by omega),V];refine⟨λe=>?_,λm W q=>?_⟩
 .have:=congrArg List.length e;rw[F,zal] at this;omega
 .have h1:=zb8 (x:=y) (i:=j) B (D.ok B) m W;have h2:=q.1;have ab:=h1.2;rw[F] at h2;omega
theorem ze6{b:Bk}{x y:Str}{more:List Nat}{N B:Nat}(D:BkOk b)(F:x.cps.toList=y.cps.toList++more)(run:RunN b x N)(G:B<=N)(h:B=0∨(runF b x B).at_+4<=y.length) :
  ∀n,n<=B->∀j,j<n->(runF b y j).at_<y.length/\sureB b (runF b y j).ds y (runF b y j).at_=true
 |0,_,j,I=>absurd I (Nat.not_lt_zero _)
 |n+1,V,j,I=>by
  have J0:=ze6 D F run G h n (by omega);by_cases q:j<n
  .exact J0 j q
  .have e:j=n:=by omega
   subst e;obtain⟨O,W,U,_⟩:=id D;obtain⟨Y,_,_⟩:=zbK F J0 j (Nat.le_refl _);have h1:=run.mono D (i:=j) (j:=B) (by omega) G;have h2:(runF b x B).at_+4<=y.length:=by
    rcases h with h|h
    .omega
    .exact h
   exact⟨by omega,zjc D (za4 (x:=y) U O j).bk (by omega)⟩
theorem zjd{b:Bk}{x y near:Str}{more pre:List Nat}{N B n:Nat}(O:BkOk b)(I:x.cps.toList=y.cps.toList++more)(run:RunN b x N)(U:B<=N)(h:B=0∨(runF b x B).at_+4<=y.length)(D:y.cps.toList=pre++near.cps.toList)(G:pre.length=(runF b x B).at_)(J0:∀j,j<n->(it0 b near (runF b x B).ds j).at_<near.length/\sureB b (it0 b near (runF b x B).ds j).ds near (it0 b near (runF b x B).ds j).at_=true) :
  ∀j,j<B+n->(runF b y j).at_<y.length/\sureB b (runF b y j).ds y (runF b y j).at_=true:=λj ab=>by
 have F:=ze6 O I run U h B (Nat.le_refl _);by_cases q:j<B
 .exact F j q
 .obtain⟨i,rfl⟩:∃i,j=B+i:=⟨j-B,by omega⟩;obtain⟨V,W,ac⟩:=zbK I F B (Nat.le_refl _);have R:=zdd (b:=b) (x:=y) (y:=near) (pre:=pre) (more:=[]) (off:=(runF b x B).at_) (S0:=(runF b y B).ss) (R:=runF b y B) (r:=⟨0,(runF b x B).ds,[]⟩) (by rw[D,List.append_nil]) G ⟨by rw[V];rfl,W.symm,by show _=_++[];rw[List.append_nil]⟩ i (λl ad=>⟨(J0 l (by omega)).1,.inl J⟩);rw[←zdw] at R;have ae:y.length=(runF b x B).at_+near.length:=by rw[←zal,D,List.length_append,G,zal]
  obtain⟨af,Y⟩:=J0 i (by omega);have Z:(runF b y (B+i)).at_=(runF b x B).at_+(it0 b near (runF b x B).ds i).at_:=R.at_;have aa:SamePd (runF b y (B+i)).ds (it0 b near (runF b x B).ds i).ds:=R.pd;refine⟨by omega,?_⟩;rw[Z,aa.sure,zen D G (by omega)];exact Y
theorem zje{b:Bk}{x y near:Str}{more pre:List Nat}{N B n:Nat}(O:BkOk b)(I:x.cps.toList=y.cps.toList++more)(run:RunN b x N)(U:B<=N)(h:B=0∨(runF b x B).at_+4<=y.length)(D:y.cps.toList=pre++near.cps.toList)(G:pre.length=(runF b x B).at_)(V:∀j,j<n->(it0 b near (runF b x B).ds j).at_<near.length/\sureB b (it0 b near (runF b x B).ds j).ds near (it0 b near (runF b x B).ds j).at_=true)(W:¬((it0 b near (runF b x B).ds n).at_<near.length/\sureB b (it0 b near (runF b x B).ds n).ds near (it0 b near (runF b x B).ds n).at_=true)) :
  ¬((runF b y (B+n)).at_<y.length/\sureB b (runF b y (B+n)).ds y (runF b y (B+n)).at_=true):=λq=>by
 have F:=ze6 O I run U h B (Nat.le_refl _);obtain⟨Y,Z,ac⟩:=zbK I F B (Nat.le_refl _);have R:=zdd (b:=b) (x:=y) (y:=near) (pre:=pre) (more:=[]) (off:=(runF b x B).at_) (S0:=(runF b y B).ss) (R:=runF b y B) (r:=⟨0,(runF b x B).ds,[]⟩) (by rw[D,List.append_nil]) G ⟨by rw[Y];rfl,Z.symm,by show _=_++[];rw[List.append_nil]⟩ n (λl ad=>⟨(V l (by omega)).1,.inl J⟩);rw[←zdw] at R;have ae:y.length=(runF b x B).at_+near.length:=by rw[←zal,D,List.length_append,G,zal]
 have aa:(runF b y (B+n)).at_=(runF b x B).at_+(it0 b near (runF b x B).ds n).at_:=R.at_;have ab:SamePd (runF b y (B+n)).ds (it0 b near (runF b x B).ds n).ds:=R.pd;obtain⟨q1,J0⟩:=q;rw[aa,ab.sure,zen D G (by omega)] at J0;exact W ⟨by omega,J0⟩
theorem zjf{b:Bk}{x x' y:Str}{more more':List Nat}{K:Nat}(D:x.cps.toList=y.cps.toList++more)(F:x'.cps.toList=y.cps.toList++more')(h:∀j,j<K->(runF b y j).at_<y.length/\sureB b (runF b y j).ds y (runF b y j).at_=true) :
  ∀j,j<=K->(runF b x' j).at_=(runF b x j).at_/\SamePd (runF b x' j).ds (runF b x j).ds/\(runF b x' j).ss=(runF b x j).ss:=λj B=>by
 obtain⟨G,I,J0⟩:=zbK D h j B;obtain⟨O,U,V⟩:=zbK F h j B;exact⟨O.trans G.symm,Eq.trans U I.symm,V.trans J0.symm⟩
theorem zmM{d e f:Int}(h:f=d+e)(B:List Stp):(B.map (mvS d)).map (mvS e)=B.map (mvS f):=by
 rw[List.map_map];refine List.map_congr_left λs _=>?_;show ((s.1+d)+e,s.2)=(s.1+f,s.2);rw[h,Int.add_assoc]
theorem zkl{b:Bk}{x x':Str}{N n M:Nat}(run:RunN b x N)(ac:n<=N)(W:x'.cps.toList.drop (runF b x' M).at_=x.cps.toList.drop (runF b x n).at_)(ad:SamePd (runF b x' M).ds (runF b x n).ds)(G:(runF b x' M).at_<=x'.length)(ae:(runF b x n).at_<=x.length)(lt':∀j,j<M->(runF b x' j).at_<x'.length) :
  RunN b x' (M+(N-n))/\(∀k,k<=N-n->(runF b x' (M+k)).at_+(runF b x n).at_=(runF b x (n+k)).at_+(runF b x' M).at_/\SamePd (runF b x' (M+k)).ds (runF b x (n+k)).ds) /\
   (runF b x' (M+(N-n))).ss=(runF b x' M).ss++((runF b x N).ss.drop n).map (mvS (((runF b x' M).at_:Int)-((runF b x n).at_:Int))):=by
 have I:=zbW (y:=x) ae;have af:(restS x (runF b x n).at_).length=x.length-(runF b x n).at_:=by rw[←zal,I,List.length_drop,zal]
 have Y:x.cps.toList=x.cps.toList.take (runF b x n).at_++(restS x (runF b x n).at_).cps.toList++[]:=by rw[I,List.append_nil,List.take_append_drop]
 have Z:x'.cps.toList=x'.cps.toList.take (runF b x' M).at_++(restS x (runF b x n).at_).cps.toList++[]:=by rw[I,←W,List.append_nil,List.take_append_drop]
 have ag:(x.cps.toList.take (runF b x n).at_).length=(runF b x n).at_:=by rw[List.length_take,zal];omega
 have ah:(x'.cps.toList.take (runF b x' M).at_).length=(runF b x' M).at_:=by rw[List.length_take,zal];omega
 generalize restS x (runF b x n).at_=y at I af Y Z;have J0:=λk (B:∀j,j<k->(it0 b y (runF b x n).ds j).at_<y.length)=>zdd (b:=b) (x:=x) (y:=y) Y ag (S0:=(runF b x n).ss) (R:=runF b x n) (r:=⟨0,(runF b x n).ds,[]⟩) ⟨J,J,by show _=_++[];rw[List.append_nil]⟩ k (λl G=>⟨B l G,.inl J⟩);have R2:=λk (B:∀j,j<k->(it0 b y (runF b x n).ds j).at_<y.length)=>zdd (b:=b) (x:=x') (y:=y) Z ah (S0:=(runF b x' M).ss) (R:=runF b x' M) (r:=⟨0,(runF b x n).ds,[]⟩) ⟨J,ad,by show _=_++[];rw[List.append_nil]⟩ k (λl G=>⟨B l G,.inl J⟩);simp only[←zdw] at J0 R2;have O:∀k,k<=N-n->∀j,j<k->(it0 b y (runF b x n).ds j).at_<y.length:=λk=>by
  induction k with
  |zero=>intro _ j aa;omega
  |succ k ab=>
   intro B j aa;by_cases q:j<k
   .exact ab (by omega) j q
   .have e:j=k:=by omega
    subst e;have D:(runF b x (n+j)).at_=(runF b x n).at_+(it0 b y (runF b x n).ds j).at_:=(J0 j (ab (by omega))).at_;have V:=run.lt (n+j) (by omega);omega
 have P:∀k,k<=N-n->(runF b x' (M+k)).at_+(runF b x n).at_=(runF b x (n+k)).at_+(runF b x' M).at_/\SamePd (runF b x' (M+k)).ds (runF b x (n+k)).ds:=λk B=>by
  have F:=J0 k (O k B);have U:=R2 k (O k B);have D:=F.at_;have V:=U.at_;exact⟨by omega,Eq.trans U.pd F.pd.symm⟩
 have aj:x'.length+(runF b x n).at_=x.length+(runF b x' M).at_:=by
  have e:=congrArg List.length W;rw[List.length_drop,List.length_drop,zal,zal] at e;omega
 refine⟨⟨?_,λj aa=>?_⟩,P,?_⟩
 .have D:=(P (N-n) (Nat.le_refl _)).1;rw[show n+(N-n)=N by omega] at D;have V:=run.at_;omega
 .by_cases q:j<M
  .exact lt' j q
  .have D:=(P (j-M) (by omega)).1;rw[show M+(j-M)=j by omega] at D;have V:=run.lt (n+(j-M)) (by omega);omega
 .have F:=J0 (N-n) (O _ (Nat.le_refl _));have U:=R2 (N-n) (O _ (Nat.le_refl _));rw[show n+(N-n)=N by omega] at F;have ai:=F.ss;rw[U.ss,ai,List.drop_left' (run.len n ac),zmM (f:=((runF b x' M).at_:Int)) (by omega)]
inductive zd1(P:Program)(w:World)(CP CS:Addr):List V->Hp->VK->XK->Prop where
 |mk {vs:List V} {H:Hp} {Q:VK} {E:XK} (z r dx:Addr) (v:V) (b:Bk) (x:Str) (pt ps so dxs pr pn pw:Addr) (tab:List Rws) (N:Nat) (ks:List Nat) (i:Int) (c1:vs=[.ref r,.int i]) (c2:PgS P w z CP CS H r dx v b x pt ps so dxs pr pn pw tab N ks)
  (c3:∀n:Nat,n<=N->(n=0∨((runF b x n).at_:Int)<=i)->(∀j,n<j->j<=N->i<((runF b x j).at_:Int))->Q (.int n) H):zd1 P w CP CS vs H Q E
inductive zdA(CP:Addr):List V->Hp->VK->XK->Prop where
 |mk {vs:List V} {H:Hp} {Q:VK} {E:XK} (r dx:Addr) (v:V) (x:Str) (pt ps so pw el:Addr) (ks:List Nat) (kvs:List (Key×V)) (i:Nat) (k:Nat) (c1:vs=[.ref r,.int i,.ref el,.int k]) (c2:H r=some (.ins CP dx (pgF v x pt ps so pw)))
  (c3:H ps=some (.lst (ks.map λk:Nat=>V.int (k:Int)))) (c4:H el=some (.dK kvs)) (c5:∀u,valV kvs (.inl (i:Int))=some u->∃n kn:Nat,u=.int n/\ks[n]?=some kn)
  (c6:∀g:Bool,(g=true↔∃n:Nat,valV kvs (.inl (i:Int))=some (.int n)/\ks[n]?=some k)->Q (.bl g) H):zdA CP vs H Q E
structure EldK(b:Bk)(x:Str)(e d:Int)(M:Nat)(kvs:List (Key×V)):Prop where
 has:∀n:Nat,n<M->e<=((runF b x n).at_:Int)->valV kvs (.inl (((runF b x n).at_:Int)+d))=some (.int n)
 all:∀(k:Key) (u:V),valV kvs k=some u->∃n:Nat,n<M/\e<=((runF b x n).at_:Int)/\u=.int n/\k=.inl (((runF b x n).at_:Int)+d)
inductive zcZ(P:Program)(w:World)(CP CS:Addr):List V->Hp->VK->XK->Prop where
 |mk {vs:List V} {H:Hp} {Q:VK} {E:XK} (z r dx:Addr) (v:V) (b:Bk) (x:Str) (pt ps so dxs pr pn pw:Addr) (tab:List Rws) (N:Nat) (ks:List Nat) (e d:Int) (c1:vs=[.ref r,.int e,.int d]) (c2:PgS P w z CP CS H r dx v b x pt ps so dxs pr pn pw tab N ks)
  (c3:∀p kvs H',Same H H'->H p=none->H' p=some (.dK kvs)->EldK b x e d (N+1) kvs->Q (.ref p) H'):zcZ P w CP CS vs H Q E
theorem PgS.toldN{P:Program}{w:World}{z CP CS:Addr}{H:Hp}{r dx:Addr}{v:V}{b:Bk}{x:Str}{pt ps so dxs pr pn pw:Addr}{tab:List Rws}{N:Nat}{ks:List Nat}(h:PgS P w z CP CS H r dx v b x pt ps so dxs pr pn pw tab N ks):∃tv,H pt=some (.lst tv)/\Reps z H tv ((runF b x N).ss.map stD)/\tv.length=N:=by
 obtain⟨tv,D,B⟩:=h.told;refine⟨tv,D,B,?_⟩;have:=B.length;rw[List.length_map,h.run.len N (Nat.le_refl _)] at this;exact this
theorem PgS.nle{P:Program}{w:World}{z CP CS:Addr}{H:Hp}{r dx:Addr}{v:V}{b:Bk}{x:Str}{pt ps so dxs pr pn pw:Addr}{tab:List Rws}{N:Nat}{ks:List Nat}(h:PgS P w z CP CS H r dx v b x pt ps so dxs pr pn pw tab N ks):N<=2000:=by
 obtain⟨B,F,D,_⟩:=id h.ok;have h1:=(za4 (x:=x) D B N).sl;have h2:=h.run.len N (Nat.le_refl _);have G:=h.run.at_;have I:=h.xl;omega
theorem PgS.same{P:Program}{w:World}{z CP CS:Addr}{H H':Hp}{r dx:Addr}{v:V}{b:Bk}{x:Str}{pt ps so dxs pr pn pw:Addr}{tab:List Rws}{N:Nat}{ks:List Nat}(h:PgS P w z CP CS H r dx v b x pt ps so dxs pr pn pw tab N ks)(s:Same H H'):PgS P w z CP CS H' r dx v b x pt ps so dxs pr pn pw tab N ks:=by
 obtain⟨tv,h1,h2⟩:=h.told;exact⟨s _ _ h.ins,h.rb.mono s.x,h.ok,h.run,⟨tv,s _ _ h1,h2.mono s.x⟩,s _ _ h.stands,h.kl,h.st,h.sd.same s,h.xl,h.nes⟩
theorem EldK.nil{b:Bk}{x:Str}{e d:Int}:EldK b x e d 0 []:=⟨λn B=>absurd B (Nat.not_lt_zero _),λk u h=>by rw[zgE] at h;cases h⟩
theorem EldK.skip{b:Bk}{x:Str}{e d:Int}{M:Nat}{kvs:List (Key×V)}(h:EldK b x e d M kvs)(g:¬e<=((runF b x M).at_:Int)):EldK b x e d (M+1) kvs:=
 ⟨λn F B=>by
  by_cases q:n=M
  .rw[q] at B;exact absurd B g
  .exact h.has n (by omega) B,λk u D=>by
  obtain⟨n,h1,h2⟩:=h.all k u D;exact⟨n,by omega,h2⟩⟩
theorem EldK.put{b:Bk}{x:Str}{e d:Int}{M N:Nat}{kvs:List (Key×V)}(run:RunN b x N)(D:BkOk b)(F:M<=N)(h:EldK b x e d M kvs)(g:e<=((runF b x M).at_:Int)):EldK b x e d (M+1) (putK kvs (.inl (((runF b x M).at_:Int)+d)) (.int M)):=
 ⟨λn I G=>by
  rw[zdr];by_cases q:n=M
  .rw[q,if_pos rfl]
  .have:=run.mono D (i:=n) (j:=M) (by omega) F;rw[if_neg (by intro c;injection c with c;omega)];exact h.has n (by omega) G,λk u B=>by
  rw[zdr] at B;by_cases q:k=.inl (((runF b x M).at_:Int)+d)
  .rw[if_pos q] at B;injection B with B;exact⟨M,by omega,g,B.symm,q⟩
  .rw[if_neg q] at B;obtain⟨n,h1,h2⟩:=h.all k u B;exact⟨n,by omega,h2⟩⟩
theorem scEnded:zav ["self","place","least","most","middle"] ["self","place"] (zag zcM):=⟨J,J,J,by decide +kernel,J,by decide +kernel,by decide +kernel⟩
theorem zkm:zav ["self","place","elder","stand"] ["self","place","elder","stand"] (zag ze4):=⟨J,J,J,by decide +kernel,J,by decide +kernel,by decide +kernel⟩
theorem scNumbers:zav ["self","end","longer","numbers","number"] ["self","end","longer"] (zag zdz):=⟨J,J,J,by decide +kernel,J,by decide +kernel,by decide +kernel⟩
theorem zkn{f O CP CS:Addr}{fd U:FuncData}(F:Fun K "count_ended" "Page.count_ended" zcM f fd)(T:TxtB mg)(I:TxtP K mg CP)(ac:Meth K CP "beginning" O)(J0:Binds K U ["self","number"] [])(ad:FnOk P w K mg base CX0 1 O U ["self","number"] (zcd P w CP CS)):FnOk P w K mg base CX0 2 f fd ["self","place"] (zd1 P w CP CS):=by
 refine F.ok scEnded (λvs H Q E h=>?_) (λcdv A outer s H vs Q E ae h=>?_)
 .obtain⟨z,r,dx,v,b,x,pt,ps,so,dxs,pr,pn,pw,tab,N,ks,i,rfl,_⟩:=h;rfl
 .obtain⟨z,r,dx,v,b,x,pt,ps,so,dxs,pr,pn,pw,tab,N,ks,i,rfl,B,k⟩:=h;have D:=scEnded.nd;have af:Room 1 _:=ae.mono (by decide);refine⟨_,zac (zap (i:=2) D J (Or.inl J) zaf)
   (zac (zap (i:=3) D J (Or.inl J) (zao zaD (by rfl) T.len b_len (zaa (zaI (pv 0) J) zad)))
   (zac (zb0 PassesOwn.never (zat zd7 (pv 2) (pv 3) (zaz _))
    (zac (zap (i:=4) D J (Or.inl J) (zaB zet (zaB zaN (zaB zaN (pv 2) (pv 3)) zaf) zaf))
    (zai (zaY (zat zfV (zaV (pv 0) I.cl ac ad af J0 .nil pass0 (zaa (pv 4) zad)) (pv 1) (zaz _))
     (zai (zap (i:=2) D J (Or.inl J) (pv 4)))
     (zai (zap (i:=3) D J (Or.inl J) (zaB zcf (pv 4) zaf)))))))
   (zai (zax (pv 2))))),?_⟩
  dsimp only[cxOf,Cx.nox,Cx.wish];have ay:(100000:Nat)<=sizeLine:=by rw[sizeLine_eq];decide
  obtain⟨tv,ag,az,ah⟩:=B.toldN;have aA:=B.nle;refine⟨_,J,r,CP,dx,_,_,J,B.ins,I.cl,I.nT,zcN v x pt ps so pw,pt,tv,J,.inl (SqL.of ag),?_⟩;rw[ah];dsimp only;refine zah λaB ai=>?_;refine zb1 (λσ H2=>∃(l m:Nat) (W:Option V),σ=[some (.ref r),some (.int i),some (.int l),some (.int m),W]/\H2=H/\l<=m/\m<=N/\(l=0∨((runF b x l).at_:Int)<=i)/\(∀j,m<j->j<=N->i<((runF b x j).at_:Int)))
   (λσ _=>match σ[2]?,σ[3]? with|some (some (V.int l)),some (some (V.int m))=>(m-l).toNat|_,_=>0) ⟨0,N,none,J,J,Nat.zero_le _,Nat.le_refl _,.inl J,λj h1 h2=>by omega⟩ ?_ ?_
  .rintro σ H2 ⟨l,m,W,rfl,rfl,aC,Y,Z,aa⟩;refine⟨_,J,_,J,_,_,J,J,_,J,?_⟩;refine ite2 (λG=>?_) (λG=>?_)
   .have G:l<m:=by have:=of_decide_eq_true G;omega
    obtain⟨c,aj,aD,ak⟩:∃c:Nat,((l:Int)+(m:Int)+1) / 2=(c:Int)/\l<c/\c<=m:=⟨(l+m+1) / 2,by omega,by omega,by omega⟩;show (tSeq _ _) _ _ _;refine zba λaE ab _ _ _=>zah λaF al=>?_;refine⟨_,J,_,J,_,_,J,J,_,_,J,J,_,_,J,J,⟨by decide,by decide⟩,?_⟩;dsimp only;rw[aj];refine al _ _ ?_;refine⟨_,J,r,dx,_,J,B.ins,za8 (by simp),_,J,z,r,dx,v,b,x,pt,ps,so,dxs,pr,pn,pw,tab,N,ks,c,J,B,by omega,?_⟩;refine⟨_,J,_,_,J,J,_,J,?_⟩;refine ite2 (λg=>?_) (λg=>?_)
    .have g:=of_decide_eq_true g;refine⟨_,J,ab _ _ ⟨⟨c,m,_,J,J,ak,Y,.inr g,aa⟩,?_⟩⟩;show ((m:Int)-(c:Int)).toNat<((m:Int)-(l:Int)).toNat;omega
    .have g:i<((runF b x c).at_:Int):=by
      have:¬((runF b x c).at_:Int)<=i:=λq=>g (decide_eq_true q);omega
     refine⟨_,J,_,_,J,J,?_⟩;dsimp only;rw[show ((c:Int)-1)=((c-1:Nat):Int) by omega];refine ab _ _ ⟨⟨l,c-1,_,J,J,by omega,by omega,Z,λj h1 h2=>?_⟩,?_⟩
     .by_cases q:j=c
      .rw[q];exact g
      .have:=B.run.mono B.ok (i:=c) (j:=j) (by omega) h2;omega
     .show (((c-1:Nat):Int)-(l:Int)).toNat<((m:Int)-(l:Int)).toNat;omega
   .have G:¬l<m:=λq=>G (decide_eq_true (by omega));have e:l=m:=by omega
    subst e;exact ai _ _ ⟨_,J,k l Y Z aa⟩
  .rintro σ aG aH aI am ⟨ao,ap,aq,ar,as,au,av,aw,J0,ax,h⟩;exact⟨ao,ap,aq,ar,as,au,av,aw,J0,ax,am _ _ h⟩
theorem zjg{f CP:Addr}{fd:FuncData}(F:Fun K "goes_on" "Page.goes_on" ze4 f fd)(D:TxtP K mg CP):FnOk P w K mg base CX0 1 f fd ["self","place","elder","stand"] (zdA CP):=by
 refine F.ok zkm (λvs H Q E h=>?_) (λcdv A outer s H vs Q E J0 h=>?_)
 .obtain⟨r,dx,v,x,pt,ps,so,pw,el,ks,kvs,i,k,rfl,_⟩:=h;rfl
 .obtain⟨r,dx,v,x,pt,ps,so,pw,el,ks,kvs,i,k,rfl,hi,O,G,U,q⟩:=h;have I:(A.deeper (PyProof.Rows.envOfC (Str.ofString "Page.goes_on") (zag ze4) s.heap.objs.size f cdv)).units+1<cLine:=by have:=J0.un;omega
  refine⟨_,zai (zax (zkA (zlS (zif I (pv 1) (pv 2))) (zkz (zfW zcg (zau ix_list (zaI (pv 0) J) (zeC I (pv 2) (pv 1) (λ_ _=>rfl)) (λ_ _=>rfl)) (pv 3) (zaz _))))),?_⟩;dsimp only[cxOf,Cx.nox,Cx.wish];refine⟨_,J,_,J,el,_,J,DGet.k (k:=.inl (i:Int)) G,?_⟩;refine⟨_,J,?_⟩;cases hv':valV kvs (.inl (i:Int)) with
  |none=>exact q false ⟨λh=>(by cases h),λ⟨n,h,_⟩=>by rw[hv'] at h;cases h⟩
  |some u=>
   obtain⟨n,Y,rfl,B⟩:=U u hv';have V:DGet H el (.int (i:Int)) (some (.int (n:Int))):=by rw[←hv'];exact DGet.k (k:=.inl (i:Int)) G
   refine⟨_,J,r,CP,dx,_,_,J,hi,D.cl,D.nS,zcq v x pt ps so pw,_,J,_,J,el,_,J,V,ps,_,n,_,J,J,SqL.of O,zaj (by rw[List.getElem?_map,B];rfl),_,J,J,q _ ?_⟩;constructor
   .intro h;have h:=of_decide_eq_true h;injection h with h;exact⟨n,hv',by rw[B];congr 1;omega⟩
   .rintro⟨W,e,h⟩;rw[hv'] at e;injection e with e;injection e with e;have e:n=W:=by omega
    subst e;rw[B] at h;injection h with h;rw[h];exact decide_eq_true rfl
theorem zhE{f Z CP CS:Addr}{fd aa:FuncData}(F:Fun K "numbers_by_beginnings" "Page.numbers_by_beginnings" zdz f fd)(T:TxtB mg)(I:TxtP K mg CP)(ab:Meth K CP "beginning" Z)(ac:Binds K aa ["self","number"] [])(ad:FnOk P w K mg base CX0 1 Z aa ["self","number"] (zcd P w CP CS)):FnOk P w K mg base CX0 2 f fd ["self","end","longer"] (zcZ P w CP CS):=by
 refine F.ok scNumbers (λvs H Q E h=>?_) (λcdv A outer s H vs Q E ae h=>?_)
 .obtain⟨z,r,dx,v,b,x,pt,ps,so,dxs,pr,pn,pw,tab,N,ks,e,d,rfl,_⟩:=h;rfl
 .obtain⟨z,r,dx,v,b,x,pt,ps,so,dxs,pr,pn,pw,tab,N,ks,e,d,rfl,B,k⟩:=h;have af:=scNumbers.nd;have ag:Room 1 _:=ae.mono (by decide);have al:(A.deeper (PyProof.Rows.envOfC (Str.ofString "Page.numbers_by_beginnings") (zag zdz) s.heap.objs.size f cdv)).units+1<cLine:=by have:=ae.un;omega
  refine⟨_,zac (zap (i:=3) af J (Or.inl J) zgG)
   (zac (zbG PassesOwn.never J (zbj J T.range (pa_B (zaB zaN (zao zaD (by rfl) T.len b_len (zaa (zaI (pv 0) J) zad)) zaf) zad)) (zaq (i:=4) af J (Or.inl J))
    (zai (zaY (zat zmz (zaV (pv 0) I.cl ab ad ag ac .nil pass0 (zaa (pv 4) zad)) (pv 1) (zaz _))
     (zai (zf4 al (pv 3) (zaB zaN (zaV (pv 0) I.cl ab ad ag ac .nil pass0 (zaa (pv 4) zad)) (pv 2)) (pv 4) J)) zaA)))
   (zai (zax (pv 3)))),?_⟩
  dsimp only[cxOf,Cx.nox,Cx.wish];have au:(100000:Nat)<=sizeLine:=by rw[sizeLine_eq];decide
  have av:=B.nle;refine λp np=>?_;have ah:=Same.new (o:=.dK []) np;have ai:=B.same ah;obtain⟨tv,am,aw,ao⟩:=ai.toldN;dsimp only;refine zah λax ap=>?_;refine⟨_,J,r,CP,dx,_,_,J,ai.ins,I.cl,I.nT,zcN v x pt ps so pw,pt,tv,J,.inl (SqL.of am),_,_,J,J,((N:Int)+1),?_,by omega,by omega,?_⟩
  .rw[ao]
  refine zbA (λt σ J0=>∃(kvs:List (Key×V)) (W:Option V),σ=[some (.ref r),some (.int e),some (.int d),some (.ref p),W]/\Same H J0/\J0 p=some (.dK kvs)/\EldK b x e d t kvs/\kvs.length<=t)
   ⟨[],none,J,ah,zab,.nil,Nat.le_refl _⟩ ?_ ?_
  .rintro t σ J0 ay ⟨kvs,W,rfl,D,O,G,aq⟩;have Y:t<=N:=by omega
   have U:=B.same D;show (tIfS _ _ _) _ _ _;refine zba λaz aj _ _ _=>?_;refine⟨_,J,r,dx,_,J,U.ins,za8 (by simp),_,J,z,r,dx,v,b,x,pt,ps,so,dxs,pr,pn,pw,tab,N,ks,t,by simp,U,Y,?_⟩;refine⟨_,J,_,_,J,J,_,J,?_⟩;refine ite2 (λg=>?_) (λg=>?_)
   .have g:e<=((runF b x t).at_:Int):=of_decide_eq_true g;refine⟨_,J,_,J,_,J,r,dx,_,J,U.ins,za8 (by simp),_,J,z,r,dx,v,b,x,pt,ps,so,dxs,pr,pn,pw,tab,N,ks,t,by simp,U,Y,?_⟩;refine⟨_,J,_,_,J,J,p,_,J,DPut.k (k:=.inl (((runF b x t).at_:Int)+d)) O (by omega),aj _ _ ⟨_,_,J,λar o ak=>by rw[zak (zae ak np)];exact D ar o ak,zab,?_,?_⟩⟩
    .have:=G.put B.run B.ok Y g;simpa using this
    .have:=zb5 kvs (.inl (((runF b x t).at_:Int)+d)) (.int t);simp at this ⊢;omega
   .have g:¬e<=((runF b x t).at_:Int):=λq=>g (decide_eq_true q);exact aj _ _ ⟨kvs,_,J,D,O,G.skip g,by omega⟩
  .rintro σ J0 ⟨kvs,W,rfl,D,O,G,aq⟩;refine ap _ _ ⟨_,J,k p kvs _ D np O ?_⟩;have as:((N:Int)+1).toNat=N+1:=by omega
   rw[as] at G;exact G
end T1
namespace L2
open PySem PySem.Spec PyProof.Rows
theorem zg0{X:Cx}{sc:Scope}{cl:List (Str×Addr)}{N':List Str}{s:Shared}{H:Hp}{fp:List Addr}:SlR (X.blk sc cl N' s H fp) (rSlT X.K):=zlZ
end L2
namespace T1
open PySem L2
variable {P:Program}{w:World}{K:W.Frag}{mg:Str->Option Value}{base:Heap}
theorem zgn(d:LDr):NoL (pdD d):=.tup (.cons (.int _) (.cons (.str _) .nil))
theorem zg1:∀ds:List LDr,NoLs (ds.map pdD)
 |[]=>.nil
 |d::r=>.cons (zgn d) (zg1 r)
structure StdK(z:Addr)(H:Hp)(b:Bk)(x:Str)(M:Nat)(kvs:List (Key×V)):Prop where
 has:∀n:Nat,n<M->∃q,valV kvs (.inl ((runF b x n).at_:Int))=some (.ref q)/\Rep z H (.ref q) (.tup ((runF b x n).ds.map pdD))
 all:∀(k:Key) (u:V),valV kvs k=some u->∃n:Nat,n<M/\k=.inl ((runF b x n).at_:Int)
theorem StdK.nil{z:Addr}{H:Hp}{b:Bk}{x:Str}:StdK z H b x 0 []:=⟨λn B=>absurd B (Nat.not_lt_zero _),λk u h=>by rw[zgE] at h;cases h⟩
theorem StdK.keep{z:Addr}{H H':Hp}{b:Bk}{x:Str}{M:Nat}{kvs:List (Key×V)}{S:Addr->Prop}(h:StdK z H b x M kvs)(k:KeepE S H H')(n:NoTup S H):StdK z H' b x M kvs:=⟨λj B=>by
 obtain⟨q,e,r⟩:=h.has j B;exact⟨q,e,Rep.keep k n r (.tup (zg1 _))⟩,h.all⟩
theorem StdK.same{z:Addr}{H H':Hp}{b:Bk}{x:Str}{M:Nat}{kvs:List (Key×V)}(h:StdK z H b x M kvs)(s:Same H H'):StdK z H' b x M kvs:=h.keep (S:=λ_=>False) (λa o _ e=>s a o e) (λ_ _ q=>q.elim)
theorem StdK.put{z:Addr}{H:Hp}{b:Bk}{x:Str}{M:Nat}{kvs:List (Key×V)}{q:Addr}(I:BkOk b)(J0:∀j,j<M->(runF b x j).at_<x.length)(h:StdK z H b x M kvs)(r:Rep z H (.ref q) (.tup ((runF b x M).ds.map pdD))) :
  StdK z H b x (M+1) (putK kvs (.inl ((runF b x M).at_:Int)) (.ref q)):=by
 obtain⟨D,W,F,_⟩:=id I;have O:∀j m,j<=m->m<=M->(runF b x j).at_<=(runF b x m).at_/\(j<m->(runF b x j).at_<(runF b x m).at_):=λj m=>by
  induction m with
  |zero=>
   intro h1 _;have:j=0:=by omega
   subst this;exact⟨Nat.le_refl _,λh=>absurd h (Nat.lt_irrefl _)⟩
  |succ m U=>
   intro h1 h2;by_cases e:j=m+1
   .subst e;exact⟨Nat.le_refl _,λh=>absurd h (Nat.lt_irrefl _)⟩
   .have Y:=(U (by omega) (by omega)).1;have G:=J0 m (by omega);obtain⟨Z,_⟩:=zaK (x:=x) F (za4 (x:=x) F D m).bk D G;rw[zdm G];constructor
    .show _<=_+_;omega
    .intro _;show _<_+_;omega
 refine⟨λn aa=>?_,λk u B=>?_⟩
 .rw[zdr];by_cases e:n=M
  .rw[e,if_pos rfl];exact⟨q,J,r⟩
  .have:=(O n M (by omega) (Nat.le_refl _)).2 (by omega);rw[if_neg (by intro c;injection c with c;omega)];exact h.has n (by omega)
 .rw[zdr] at B;by_cases e:k=.inl ((runF b x M).at_:Int)
  .exact⟨M,by omega,e⟩
  .rw[if_neg e] at B;obtain⟨n,h1,h2⟩:=h.all k u B;exact⟨n,by omega,h2⟩
inductive zcr:List V->Hp->VK->XK->Prop where
 |mk {vs:List V} {H:Hp} {Q:VK} {E:XK} (z:Addr) (v:V) (b:Bk) (x:Str) (c1:vs=[v,.str x]) (c2:Bag z H) (c3:Rep z H v (bkD b)) (c4:BkOk b) (c5:x.length<=20000)
  (c6:∀p kvs N H',Same H H'->H p=none->H' p=some (.dK kvs)->RunN b x N->StdK z H' b x (N+1) kvs->Q (.ref p) H'):zcr vs H Q E
theorem scLStands:zav ["book","text","found","doors","place","marks"] ["book","text"] (zag zdb):=⟨J,J,J,by decide +kernel,J,by decide +kernel,by decide +kernel⟩
theorem zep{z pd:Addr}{H:Hp}{ds:List LDr}{D:List V}{j:Nat}(R:Reps z H D (ds.map ldD))(h:j<ds.length):∃ad,D.getD j .non=.ref ad/\H ad=some (.tup [.int (ds.getD j ld0).1,.int (ds.getD j ld0).2.1,.str (ds.getD j ld0).2.2])/\(ds.getD j ld0).2.2.length<=1000:=by
 have B:=zgY (j:=j) R h;obtain⟨ad,F,O,G⟩:=zeh B;refine⟨ad,F,G,?_⟩;rw[F] at B;cases B with
 |tup _ _ r=>
  cases r with
  |cons _ r=>
   cases r with
   |cons _ r=>
    cases r with
    |cons I _=>
     cases I with
     |str _ J0=>exact J0
theorem zhF{f aL aM:Addr}{fd a6 a7:FuncData}(F:Fun K "_law_stands" "_law_stands" zdb f fd)(T:TxtB mg)(k1:W.keepIn K (.ref aL)=true)(aN:Binds K a6 ["book","doors","text","place"] [])(bs:mg "_law_fitting"=some (.ref aL))(bt:FnOk P w K mg base CX0 1 aL a6 ["book","doors","text","place"] zbV)(k2:W.keepIn K (.ref aM)=true)(bu:Binds K a7 ["book","doors","text","place","mark"] [])(bv:mg "_law_step"=some (.ref aM))(bw:FnOk P w K mg base CX0 1 aM a7 ["book","doors","text","place","mark"] zej):FnOk P w K mg base CX0 2 f fd ["book","text"] zcr:=by
 refine F.ok scLStands (λvs H Q E h=>?_) (λcdv A outer s H vs Q E aO h=>?_)
 .obtain⟨z,v,b,x,rfl,_⟩:=h;rfl
 .obtain⟨z,v,b,x,rfl,al,R,am,a8,k⟩:=h;have ao:=scLStands.nd;obtain⟨aP,cg,ap,_⟩:=id am;have a9:(A.deeper (PyProof.Rows.envOfC (Str.ofString "_law_stands") (zag zdb) s.heap.objs.size f cdv)).units+1<cLine:=by have:=aO.un;omega
  refine⟨_,zac (zap (i:=2) ao J (Or.inl J) zgG)
   (zac (zap (i:=3) ao J (Or.inl J) (zaE zad))
   (zac (zap (i:=4) ao J (Or.inl J) zaf)
   (zac (zb0 PassesOwn.never (zat zd7 (pv 4) (zao zam (by rfl) T.len b_len (zaa (pv 1) zad)) (zaz _))
    (zac (zf4 a9 (pv 2) (pv 4) (zbk zbD (by rfl) T.tuple zex (zaa (zaZ (N':=["door"]) (js:=[none]) J J (zbc (zag zdb) (by decide +kernel)) trivial (zbg (pv 3)) (λcl s H fp=>zaq (i:=0) ndD J (Or.inl J)) (λcl s H fp=>zbr) (λcl s H fp=>zaG zg0 (pv 0) (zaJ zaf) zaW)) zad)) J)
    (zac (zap (i:=5) ao J (Or.inl J) (zas bt aO J bs k1 aN .nil pass0 (zaa (pv 0) (zaa (pv 3) (zaa (pv 1) (zaa (pv 4) zad))))))
    (zai (zap (i:=4) ao J (Or.inl J) (zaB zaN (pv 4) (zau ix_tup (zas bw aO J bv k2 bu .nil pass0 (zaa (pv 0) (zaa (pv 3) (zaa (pv 1) (zaa (pv 4) (zaa (zbN PySem.F.plainAttrs_str PySem.F.slot_str_join PySem.F.type_str_join zdq zay (zaa (zaG zbM (pv 5) zaW (zaJ zaf)) zad)) zad)))))) zaf (λ_ _=>rfl))))))))
   (zac (zf4 a9 (pv 2) (zao zam (by rfl) T.len b_len (zaa (pv 1) zad)) (zbk zbD (by rfl) T.tuple zex (zaa (zaZ (N':=["door"]) (js:=[none]) J J (zbc (zag zdb) (by decide +kernel)) trivial (zbg (pv 3)) (λcl s H fp=>zaq (i:=0) ndD J (Or.inl J)) (λcl s H fp=>zbr) (λcl s H fp=>zaG zg0 (pv 0) (zaJ zaf) zaW)) zad)) J)
   (zai (zax (pv 2))))))),?_⟩
  dsimp only[cxOf,Cx.nox,Cx.wish];have ch:=za2;have ci:(100000:Nat)<=sizeLine:=by rw[sizeLine_eq];decide
  refine zba λcj _ bx _ _=>?_;refine λp np=>?_;refine⟨Nat.zero_le _,λpd aE=>?_⟩;have aQ:=Same.new (o:=.dK []) np;have ba:=Same.new (o:=.lst []) aE;have bz:=aQ.trans ba;have bA:H pd=none:=aQ.free aE;have bb:p≠pd:=zae (zab (H:=H) (a:=p) (o:=.dK [])) aE;have ck:p≠z:=al.ne np;have bB:pd≠z:=(al.same aQ).ne aE;refine zah λbC aR=>aR _ _ (zah λbC aR=>aR _ _ ?_);refine zdN (J0:=λσ B=>∃n u,σ=[some v,some (.str x),some (.ref p),some (.ref pd),some (.int (runF b x n).at_),u]/\Same H B/\LDs z B pd (runF b x n).ds/\(∀j,j<n->(runF b x j).at_<x.length)/\(runF b x n).at_=x.length/\∃kvs,B p=some (.dK kvs)/\kvs.length<=n/\StdK z B b x n kvs) (λcm bD=>?g1) ?g2
  case g1=>
   refine zb1 (λσ B=>∃n u,σ=[some v,some (.str x),some (.ref p),some (.ref pd),some (.int (runF b x n).at_),u]/\Same H B/\LDs z B pd (runF b x n).ds/\(∀j,j<n->(runF b x j).at_<x.length)/\∃kvs,B p=some (.dK kvs)/\kvs.length<=n/\StdK z B b x n kvs)
    (λσ B=>match σ[4]? with|some (some (V.int i))=>x.length-i.toNat|_=>0) ⟨0,none,J,bz,⟨[],zab,.nil⟩,λj aF=>absurd aF (Nat.not_lt_zero _),[],ba _ _ zab,Nat.le_refl _,.nil⟩ ?_ ?_
   .rintro σ B ⟨n,u,rfl,ag,aG,aa,kvs,aH,bc,aI⟩;have Y:=za4 (x:=x) ap aP n;have cn:=Y.le;have co:=Y.sl;refine⟨_,J,_,J,x,J,by omega,_,_,J,J,_,J,?_⟩;refine ite2 (λO=>?_) (λO=>?_)
    .have O:(runF b x n).at_<x.length:=by have:=of_decide_eq_true O;omega
     have bE:n<=x.length:=by
      have h1:=zgZ b x n O;omega
     have bF:=Y.dl;have aS:=Y.bk.ok ap;have aq:=al.same ag;obtain⟨ah,Z,ai⟩:=id aG;have aT:ah.length=(runF b x n).ds.length:=by have:=ai.length;simpa using this
     refine zba λcp bG _ _ _=>zah λbd ar=>?_;refine⟨_,J,pd,J,⟨_,SqL.of Z⟩,λas au=>?_⟩;have av:pd≠as:=zae Z au;refine zcz (z:=z) (λ_=>true) (λj=>pdD ((runF b x n).ds.getD j ld0)) (λσ=>∃v,σ=[v]) ⟨none,J⟩ au (by omega) (zbe (xs:=ah) (by rw[zak av];exact Z) av) (λj=>zgn _) (λj σ ab bH bI aF ⟨bJ,hw⟩ G aU _=>?_) (λσ ab vs G aV aw=>?_)
     .subst hw;obtain⟨ad,aW,aX,aY⟩:=zep (pd:=pd) (ai.mono G.x (z:=z)) (j:=j) (by omega);rw[aW];dsimp only[tYes,gName];rw[if_pos rfl];refine⟨_,J,1,J,ad,_,J,SqT.of aX,(show ¬(HT.sIx 3 0 (some 1)=0/\HT.sIx 3 3 none=3) by decide),λpn ax=>?_⟩;have sn:=Same.new (o:=.tup [.int ((runF b x n).ds.getD j ld0).2.1,.str ((runF b x n).ds.getD j ld0).2.2]) ax;exact aU rfl _ (.ref pn) _ ⟨_,J⟩ sn (.tup zab ((aq.same G).ne ax) (.cons (.int _) (.cons (.str _ aY) .nil)))
     rw[List.filter_eq_self.mpr (λ_ _=>rfl),aT,zde pdD (runF b x n).ds] at aw;refine⟨as,vs,J,.inl ⟨SqL.of aV,λl ay=>?_⟩⟩;have az:=Same.new (o:=.tup vs) ay;have I:=G.trans az;have aZ:l≠z:=(aq.same G).ne ay;have aA:Rep z (upd ab l (.tup vs)) (.ref l) (.tup ((runF b x n).ds.map pdD)):=.tup zab aZ (aw.mono az.x);have ac:=I _ _ aH;have aj:=(aI.same I).put am aa aA;have be:=I _ _ Z;have bf:=ai.mono I.x (z:=z);have aB:=ag.trans I;generalize upd ab l (.tup vs)=D at I ac aj be bf aB aA;refine⟨_,J,_,J,p,_,J,DPut.k (k:=.inl ((runF b x n).at_:Int)) ac (by omega),ar _ _ (zah λbd ar=>?_)⟩;have U:KeepE (λa=>a=p) D (upd D p (.dK (putK kvs (.inl ((runF b x n).at_:Int)) (.ref l)))):=(λae o a1 e=>by rw[zak a1];exact e);have aJ:NoTup (λa=>a=p) D:=λae xs e g=>by rw[show ae=p from e,ac] at g;cases g
     have aC:upd D p (.dK (putK kvs (.inl ((runF b x n).at_:Int)) (.ref l))) p=some (.dK (putK kvs (.inl ((runF b x n).at_:Int)) (.ref l))):=zab;have a2:=aj.keep U aJ;have aK:LDs z (upd D p (.dK (putK kvs (.inl ((runF b x n).at_:Int)) (.ref l)))) pd (runF b x n).ds:=⟨ah,U _ _ bb.symm be,Reps.keep U aJ bf (zcI _)⟩;have ak:Same H (upd D p (.dK (putK kvs (.inl ((runF b x n).at_:Int)) (.ref l)))):=λa o e=>U a o (zae e np) (aB a o e);have bK:=zb5 kvs (.inl ((runF b x n).at_:Int)) (V.ref l);generalize putK kvs (.inl ((runF b x n).at_:Int)) (V.ref l)=bg at U aC aj a2 aK ak bK;generalize upd D p (.dK bg)=cq at U aC a2 aK ak;refine⟨_,J,_,J,_,J,_,J,z,v,b,pd,(runF b x n).ds,x,(runF b x n).at_,J,R.mono ak.x,am,aK,aS,a8,λpm ys bL bM cr bN bh pw=>ar _ _ ?_⟩;have a3:∀m∈fitL b (runF b x n).ds x (runF b x n).at_,Sm m:=λm a4=>zb8 (x:=x) (i:=(runF b x n).at_) ap aS m (List.mem_filter.mp a4).1;have bO:=zdV a3 (λm a4=>(List.mem_filter.mp a4).2) bh pw;refine⟨_,J,_,J,_,J,_,J,_,J,J,_,J,1,J,pm,_,J,SqL.of bN,λbi bP=>?_⟩;have bQ:=Same.new (o:=.lst (cutV (ys.map V.str) none (some (1:Int)))) bP;have bR:∀y∈ys.take 1,y.length<=1000:=λy bS=>by have:=(a3 y (bh.mem_iff.mp (List.mem_of_mem_take bS))).2;omega
     refine⟨_,bi,ys.take 1,J,J,SqL.of (by rw[zab,zeO]),by rw[List.length_take];omega,by decide +kernel,bR,?_⟩;have bT:zgC (ys.take 1)=bestL b (runF b x n).ds x (runF b x n).at_:=by
      unfold bestL;rw[←bO];cases ys<;>rfl
     rw[bT];have af:=bM.trans bQ;have bj:=R.mono (ak.trans af).x (z:=z);have a5:=aK.same af;have bk:=af _ _ aC;have bl:=a2.same af;have bm:=al.same (ak.trans af);have bn:=ak.trans af;generalize upd bL bi (.lst (cutV (ys.map V.str) none (some (1:Int))))=bo at af bj a5 bk bl bm bn;have bU:bestL b (runF b x n).ds x (runF b x n).at_=Str.ofString ""∨bestL b (runF b x n).ds x (runF b x n).at_∈someL b (runF b x n).ds:=by
      rcases zbt a3 with⟨_,h2⟩|⟨h1,_⟩
      .exact .inl (by unfold bestL;rw[h2,zaR])
      .exact .inr (List.mem_filter.mp h1).1
     obtain⟨cs,p2,p3,p4,p5,cu⟩:=zaK (x:=x) ap Y.bk aP O;refine⟨z,v,b,pd,(runF b x n).ds,x,_,(runF b x n).at_,J,bm,bB,bj,am,a5,aS,O,a8,by omega,bU,λbV bW bp cv bX bq=>?_⟩;rw[←zcn O] at bq;obtain⟨cw,bY,_⟩:=id a5;have br:KeepE (λa=>a=pd) bo bW:=λa o bZ e=>bp a o bZ e;have b0:NoTup (λa=>a=pd) bo:=λae xs e g=>by rw[show ae=pd from e,bY] at g;cases g
     refine⟨bV,_,1,_,J,J,SqT.of bX,zaj (j:=1) J,_,_,J,J,?_⟩;have b1:((runF b x n).at_:Int)+(stepL b (runF b x n).ds x (runF b x n).at_ (bestL b (runF b x n).ds x (runF b x n).at_)).1.2.1=((runF b x (n+1)).at_:Int):=by
      rw[zdm O];show _=((_+_:Nat):Int);omega
     refine bG _ _ ⟨⟨n+1,some (.ref pm),?_,λa o e=>bp a o (zae e bA) (bn a o e),bq,λj aF=>?_,bg,br _ _ bb bk,by omega,bl.keep br b0⟩,?_⟩
     .show [some v,some (.str x),some (.ref p),some (.ref pd),some (V.int (((runF b x n).at_:Int)+(stepL b (runF b x n).ds x (runF b x n).at_ (bestL b (runF b x n).ds x (runF b x n).at_)).1.2.1)),some (.ref pm)]=_;rw[b1]
     .by_cases e:j=n
      .rw[e];exact O
      .exact aa j (by omega)
     .show x.length-(((runF b x n).at_:Int)+(stepL b (runF b x n).ds x (runF b x n).at_ (bestL b (runF b x n).ds x (runF b x n).at_)).1.2.1).toNat<x.length-((runF b x n).at_:Int).toNat;omega
    .have aD:(runF b x n).at_=x.length:=by
      have:¬(((runF b x n).at_:Int)<(x.length:Int)):=λq=>O (decide_eq_true q);omega
     exact bD _ _ ⟨n,u,J,ag,aG,aa,aD,kvs,aH,bc,aI⟩
   .rintro σ B cx cy b2 ⟨b3,b4,b5,b6,b7,b8,b9,ca,cb,cc,ce,aN,cf,h⟩;exact⟨b3,b4,b5,b6,b7,b8,b9,ca,cb,cc,ce,aN,cf,b2 _ _ h⟩
  case g2=>
   rintro σ B ⟨n,u,rfl,ag,aG,aa,aD,kvs,aH,bc,aI⟩;have Y:=za4 (x:=x) ap aP n;have bF:=Y.dl;have aq:=al.same ag;have bE:n<=x.length:=by
    have h1:=Y.sl;have h2:RunN b x n:=⟨aD,aa⟩;have cz:=h2.len n (Nat.le_refl _);omega
   obtain⟨ah,Z,ai⟩:=id aG;have aT:ah.length=(runF b x n).ds.length:=by have:=ai.length;simpa using this
   refine zah λbd ar=>?_;refine⟨_,J,pd,J,⟨_,SqL.of Z⟩,λas au=>?_⟩;have av:pd≠as:=zae Z au;refine zcz (z:=z) (λ_=>true) (λj=>pdD ((runF b x n).ds.getD j ld0)) (λσ=>∃v,σ=[v]) ⟨none,J⟩ au (by omega) (zbe (xs:=ah) (by rw[zak av];exact Z) av) (λj=>zgn _) (λj σ ab bH bI aF ⟨bJ,hw⟩ G aU _=>?_) (λσ ab vs G aV aw=>?_)
   .subst hw;obtain⟨ad,aW,aX,aY⟩:=zep (pd:=pd) (ai.mono G.x (z:=z)) (j:=j) (by omega);rw[aW];dsimp only[tYes,gName];rw[if_pos rfl];refine⟨_,J,1,J,ad,_,J,SqT.of aX,(show ¬(HT.sIx 3 0 (some 1)=0/\HT.sIx 3 3 none=3) by decide),λpn ax=>?_⟩;have sn:=Same.new (o:=.tup [.int ((runF b x n).ds.getD j ld0).2.1,.str ((runF b x n).ds.getD j ld0).2.2]) ax;exact aU rfl _ (.ref pn) _ ⟨_,J⟩ sn (.tup zab ((aq.same G).ne ax) (.cons (.int _) (.cons (.str _ aY) .nil)))
   rw[List.filter_eq_self.mpr (λ_ _=>rfl),aT,zde pdD (runF b x n).ds] at aw;refine⟨as,vs,J,.inl ⟨SqL.of aV,λl ay=>?_⟩⟩;have az:=Same.new (o:=.tup vs) ay;have I:=G.trans az;have aZ:l≠z:=(aq.same G).ne ay;have aA:Rep z (upd ab l (.tup vs)) (.ref l) (.tup ((runF b x n).ds.map pdD)):=.tup zab aZ (aw.mono az.x);have ac:=I _ _ aH;have aj:=(aI.same I).put am aa aA;have aB:=ag.trans I;generalize upd ab l (.tup vs)=D at I ac aj aB aA;refine⟨_,J,_,J,x,J,by omega,p,_,J,DPut.k (k:=.inl (x.length:Int)) ac (by omega),ar _ _ ?_⟩;have U:KeepE (λa=>a=p) D (upd D p (.dK (putK kvs (.inl ((runF b x n).at_:Int)) (.ref l)))):=(λae o a1 e=>by rw[zak a1];exact e);have aJ:NoTup (λa=>a=p) D:=λae xs e g=>by rw[show ae=p from e,ac] at g;cases g
   have aC:upd D p (.dK (putK kvs (.inl ((runF b x n).at_:Int)) (.ref l))) p=some (.dK (putK kvs (.inl ((runF b x n).at_:Int)) (.ref l))):=zab;rw[←aD];exact⟨_,J,bx _ _ (k p _ n _ (λa o e=>U a o (zae e np) (aB a o e)) np aC ⟨aD,aa⟩ (aj.keep U aJ))⟩
inductive zdB(P:Program)(w:World)(CP CS:Addr):List V->Hp->VK->XK->Prop where
 |mk {vs:List V} {H:Hp} {Q:VK} {E:XK} (z r dx:Addr) (v:V) (b:Bk) (x y:Str) (pt ps so dxs pr pn pw p q:Addr) (tab:List Rws) (i k:Nat) (ds ds':List LDr) (st:Stp) (c1:vs=[.ref r,.int k,.ref p,.ref q]) (c2:H r=some (.ins CP dx (pgF v x pt ps so pw)))
  (c3:H p=some (.tup (stV st))) (c4:PDs z H q ds') (c5:Bag z H) (c6:StdS P w z CS H so dxs pr pn tab) (c7:Stands tab k (ds.map (·.2))) (c8:zcW b ds y i st ds') (c9:ds'.length<=2000) (c10:tab.length<1000000)
  (c11:∀k' tab' H',(tab'=tab∨∃r,tab'=tab++[r])->Stands tab' k' (ds'.map (·.2))->KeepE (λb=>b=pr∨b=pn) H H'->StdS P w z CS H' so dxs pr pn tab'->Q (.int (k':Nat)) H'):zdB P w CP CS vs H Q E
theorem nOpen:∀s∈([("cut":Str),"escape","sign","close"]:List Str),¬V.str s=V.str "open":=by
 intro s B e;injection e with e;subst e;revert B;decide +kernel
theorem zmv:∀s∈([("cut":Str),"escape","sign","open"]:List Str),¬V.str s=V.str "close":=by
 intro s B e;injection e with e;subst e;revert B;decide +kernel
theorem zlF{z:Addr}{H:Hp}{v:V}{d:LDr}(r:Rep z H v (pdD d)):d.2.2.length<=1000:=by
 have r:Rep z H v (.tup [.int d.2.1,.str d.2.2]):=r;cases r with
 |tup h F r=>
  cases r with
  |cons G B=>
   cases B with
   |cons D I=>
    cases D;assumption
theorem zko{z:Addr}{H:Hp}{ds:List LDr}{d:LDr}{vs:List V}(D:Reps z H vs ((ds++[d]).map pdD)):∃ad,atI vs (-1)=some (.ref ad)/\ad≠z/\H ad=some (.tup [.int d.2.1,.str d.2.2])/\d.2.2.length<=1000:=by
 have F:vs.length=ds.length+1:=by have:=D.length;simpa using this
 have B:=ziN (ds:=ds++[d]) (i:=ds.length) D (by simp);have G:(ds++[d]).getD ds.length ld0=d:=by simp
 rw[G] at B;obtain⟨ad,I,J0,O⟩:=zkO B;exact⟨ad,zgb F I,J0,O,zlF B⟩
theorem scStandB:zav ["self","stand","step","doors"] ["self","stand","step","doors"] (zag zgl):=⟨J,J,J,by decide +kernel,J,by decide +kernel,by decide +kernel⟩
theorem zjh{f W Y CP CS:Addr}{fd Z aa:FuncData}(F:Fun K "stand_behind" "Page.stand_behind" zgl f fd)(J0:TxtP K mg CP)(ab:TxtS K mg CS)(al:Meth K CS "within" W)(am:Binds K Z ["self","number","door"] [])(ao:FnOk P w K mg base CX0 1 W Z ["self","number","door"] (zcY P w CS))(ap:Meth K CS "around" Y)(aq:Binds K aa ["self","number"] [])(ar:FnOk P w K mg base CX0 1 Y aa ["self","number"] (zdy P w CS)):FnOk P w K mg base CX0 2 f fd ["self","stand","step","doors"] (zdB P w CP CS):=by
 refine F.ok scStandB (λvs H Q E h=>?_) (λcdv A outer s H vs Q E as h=>?_)
 .obtain⟨z,r,dx,v,b,x,y,pt,ps,so,dxs,pr,pn,pw,p,q,tab,i,k,ds,ac,st,rfl,_⟩:=h;rfl
 .obtain⟨z,r,dx,v,b,x,y,pt,ps,so,dxs,pr,pn,pw,p,q,tab,i,k,ds,ac,st,rfl,hi,O,au,av,G,I,ae,aJ,aw,g⟩:=h;have aK:=scStandB.nd;have af:Room 1 _:=as.mono (by decide);refine⟨_,zac (zaY (zat zcg (zau ix_tup (pv 2) zaf (λ_ _=>rfl)) zay (zaz _))
    (zai (zax (zaV (zaI (pv 0) J) ab.cl al ao af am .nil pass0 (zaa (pv 1) (zaa (zau ix_list (pv 3) (zbL zbb zaf) (λ_ _=>rfl)) zad))))) zaA)
   (zac (zaY (zat zcg (zau ix_tup (pv 2) zaf (λ_ _=>rfl)) zay (zaz _))
    (zai (zax (zaV (zaI (pv 0) J) ab.cl ap ar af aq .nil pass0 (zaa (pv 1) zad)))) zaA)
   (zai (zax (pv 1)))),?_⟩
  dsimp only[cxOf,Cx.nox,Cx.wish];refine zba λaL _ U _ _=>zah λax ag=>?_;refine⟨_,J,p,_,2,_,J,J,SqT.of O,zaj (j:=2) J,J,_,J,?_⟩;unfold zcW at ae;have plain:st.2.2.1∈([("cut":Str),"escape","sign"]:List Str)->ac=ds->ax [some (.ref r),some (.int k),some (.ref p),some (.ref q)] H:=λhw B=>by
   refine ag _ _ (zah λay ah=>?_);refine⟨_,J,p,_,2,_,J,J,SqT.of O,zaj (j:=2) J,J,_,J,?_⟩;refine ite2 (λe=>absurd (of_decide_eq_true e) (zmv _ (List.mem_append_left [("open":Str)] hw))) (λ_=>ah _ _ ⟨_,J,U _ _ (g k tab H (.inl J) (by rw[B];exact I) (λ_ _ _ e=>e) G)⟩)
  rcases ae with⟨_,B,⟨_,D⟩|⟨_,D⟩⟩|⟨_,_,B,D⟩|⟨_,_,az,_,B,D⟩|⟨_,_,d,_,B,D⟩
  .have hw:st.2.2.1="cut":=by rw[D]
   exact ite2 (λe=>absurd (of_decide_eq_true e) (nOpen _ (by rw[hw];simp))) (λ_=>plain (by rw[hw];simp) B)
  .have hw:st.2.2.1="escape":=by rw[D]
   exact ite2 (λe=>absurd (of_decide_eq_true e) (nOpen _ (by rw[hw];simp))) (λ_=>plain (by rw[hw];simp) B)
  .have hw:st.2.2.1="sign":=by rw[D]
   exact ite2 (λe=>absurd (of_decide_eq_true e) (nOpen _ (by rw[hw];simp))) (λ_=>plain (by rw[hw];simp) B)
  .have hw:st.2.2.1="close":=by rw[D]
   refine ite2 (λe=>absurd (of_decide_eq_true e) (nOpen _ (by rw[hw];simp))) (λ_=>ag _ _ (zah λay ah=>?_));refine⟨_,J,p,_,2,_,J,J,SqT.of O,zaj (j:=2) J,J,_,J,?_⟩;refine ite2 (λ_=>?_) (λe=>absurd (decide_eq_true (by rw[hw])) e);generalize el:ds.map (·.2)=l at I;cases I with
   |zero=>
    exfalso;have:=congrArg List.length el;rw[List.length_map] at this;exact az (List.eq_nil_of_length_eq_zero this)
   |@suc k0 ai aM h1 h2 V=>
    refine⟨_,J,r,CP,dx,_,_,J,hi,J0.cl,J0.nG,zbB v x pt ps so pw,so,dxs,_,J,G.ins,zd0 (by simp),_,J,z,so,dxs,pr,pn,tab,k0,ai,J,G,h1,U _ _ (g ai.1 tab H (.inl J) ?_ (λ_ _ _ e=>e) G)⟩;rw[B,List.map_dropLast,el,List.dropLast_concat];exact V
  .have hw:st.2.2.1="open":=by rw[D]
   refine ite2 (λ_=>?_) (λe=>absurd (decide_eq_true (by rw[hw])) e);obtain⟨aA,aB,aj⟩:=au;rw[B] at aj;obtain⟨ad,aC,aD,aE,aF⟩:=zko aj;have aG:=I.le;refine⟨_,J,r,CP,dx,_,_,J,hi,J0.cl,J0.nG,zbB v x pt ps so pw,so,dxs,_,J,G.ins,zd0 (by simp),_,J,_,J,1,J,q,aA,-1,_,J,J,SqL.of aB,aC,z,so,dxs,pr,pn,ad,tab,k,(d.2.1,d.2.2),J,av,G,aD,aE,aF,aG,aw,λk1 aH H' ak h1 h2 V aI=>U _ _ (g (k1+1) aH H' ?_ ?_ V aI)⟩
   .rcases ak with e|e
    .exact .inl e
    .exact .inr ⟨_,e⟩
   .rw[B,List.map_append];refine .suc h1 h2 ?_;rcases ak with e|e
    .rw[e];exact I
    .rw[e];exact I.mono _
theorem PgS.keep{P:Program}{w:World}{z CP CS:Addr}{H H':Hp}{r dx:Addr}{v:V}{b:Bk}{x:Str}{pt ps so dxs pr pn pw:Addr}{tab:List Rws}{N:Nat}{ks:List Nat}(h:PgS P w z CP CS H r dx v b x pt ps so dxs pr pn pw tab N ks){S:Addr->Prop}(k:KeepE S H H')(n:NoTup S H)(h1:¬S r)(h2:¬S pt)(B:¬S ps)(D:¬S so)(F:¬S pr)(G:¬S pn):PgS P w z CP CS H' r dx v b x pt ps so dxs pr pn pw tab N ks:=by
 obtain⟨tv,I,J0⟩:=h.told;exact⟨k _ _ h1 h.ins,Rep.keep k n h.rb (.tup (zbC _)),h.ok,h.run,⟨tv,k _ _ h2 I,Reps.keep k n J0 (zaX _)⟩,k _ _ B h.stands,h.kl,h.st,h.sd.keep k n D F G,h.xl,h.nes⟩
theorem PgS.butX{P:Program}{w:World}{z CP CS tb:Addr}{H H':Hp}{r dx:Addr}{v:V}{b:Bk}{x:Str}{pt ps so dxs pr pn pw:Addr}{tab:List Rws}{N:Nat}{ks:List Nat}(h:PgS P w z CP CS H r dx v b x pt ps so dxs pr pn pw tab N ks)(k:ButX tb H H')(L:LamTb tb H):PgS P w z CP CS H' r dx v b x pt ps so dxs pr pn pw tab N ks:=by
 obtain⟨J0,B⟩:=L.tbl;obtain⟨tv,F,O⟩:=h.told;obtain⟨U,G,W,I⟩:=h.sd.ex;exact h.keep (S:=λa=>a=tb) (λb o D e=>k b o D e) (λb xs D e=>by rw[show b=tb from D,B] at e;cases e) (zar h.ins B (by intro q;cases q)) (zar F B (by intro q;cases q)) (zar h.stands B (by intro q;cases q))
  (zar h.sd.ins B (by intro q;cases q)) (zar G B (by intro q;cases q)) (zar I B (by intro q;cases q))
theorem zkT{z:Addr}{H:Hp}{p:Addr}{B:List V}{ds:List LDr}(h:H p=some (.lst B))(R:Reps z H B ((ds.map (·.2)).map pdP)):PDs z H p ds:=by
 rw[List.map_map] at R;exact⟨B,h,R⟩
theorem zkU{b:Bk}{y:Str}{ds:List LDr}:∀ {n:Nat},(∀j,j<n->(it0 b y ds j).at_<y.length)->(it0 b y ds n).ss.length=n
 |0,_=>rfl
 |n+1,h=>by
  have B:=zkU (n:=n) λj D=>h j (by omega);show (zaQ b y (it0 b y ds n)).ss.length=_;unfold zaQ;rw[if_pos (h n (by omega))];show ((it0 b y ds n).ss++[_]).length=_;rw[List.length_append,B];rfl
noncomputable def KeptS(b:Bk)(x:Str)(i K:Nat):Prop:=∀y:Str,y.cps.toList=x.cps.toList.take i->SureN b y K
inductive zdC(P:Program)(w:World)(tb CP CS:Addr):List V->Hp->VK->XK->Prop where
 |mk {vs:List V} {H:Hp} {Q:VK} {E:XK} (z r dx:Addr) (v:V) (b:Bk) (x:Str) (pt ps so dxs pr pn pw:Addr) (tab:List Rws) (N:Nat) (ks:List Nat) (i:Nat) (c1:vs=[.ref r,.int i]) (c2:PgS P w z CP CS H r dx v b x pt ps so dxs pr pn pw tab N ks) (c3:Bag z H) (c4:LamTb tb H) (c5:i<=x.length)
  (c6:∀K H',K<=N->(runF b x K).at_<=i->KeptS b x i K->ButX tb H H'->Bag z H'->LamTb tb H'->Q (.int (K:Nat)) H'):zdC P w tb CP CS vs H Q E
theorem scCountS:zav ["self","begin","far","near"] ["self","begin"] (zag zdg):=⟨J,J,J,by decide +kernel,J,by decide +kernel,by decide +kernel⟩
theorem zji{f ai aj ak aa tb CP CS:Addr}{fd al am ao ap:FuncData}{aq:Value}(F:Fun K "count_sure" "Page.count_sure" zdg f fd)(T:TxtB mg)(G:TxtP K mg CP)(aC:TxtS K mg CS)(aD:mg "LONGEST_MARK"=some aq)(aE:RelV (.int 4) aq)(aF:Meth K CP "count_ended" ai)(aG:Binds K al ["self","place"] [])(aH:FnOk P w K mg base CX0 2 ai al ["self","place"] (zd1 P w CP CS))(aI:Meth K CP "beginning" aj)(ab:Binds K am ["self","number"] [])(aJ:FnOk P w K mg base CX0 1 aj am ["self","number"] (zcd P w CP CS))(k3:W.keepIn K (.ref aa)=true)(aK:Binds K ap ["book","part","doors"] [])(aL:mg "sure_steps"=some (.ref aa))(aM:FnOk P w K mg base CX0 5 aa ap ["book","part","doors"] (zcc tb))(aN:Meth K CS "doors_by" ak)(aO:Binds K ao ["self","number"] [])(aP:FnOk P w K mg base CX0 1 ak ao ["self","number"] (zbX P w CS)):FnOk P w K mg base CX0 6 f fd ["self","begin"] (zdC P w tb CP CS):=by
 refine F.ok scCountS (λvs H Q E h=>?_) (λcdv A outer s H vs Q E ac h=>?_)
 .obtain⟨z,r,dx,v,b,x,pt,ps,so,dxs,pr,pn,pw,tab,N,ks,i,rfl,_⟩:=h;rfl
 .obtain⟨z,r,dx,v,b,x,pt,ps,so,dxs,pr,pn,pw,tab,N,ks,i,rfl,D,ad,aQ,hi,k⟩:=h;have ar:=scCountS.nd;have as:Room 1 _:=ac.mono (by decide);have aR:Room 2 _:=ac.mono (by decide);refine⟨_,zac (zap (i:=2) ar J (Or.inl J) (zaV (pv 0) G.cl aF aH aR aG .nil pass0 (zaa (zaB zcf (pv 1) (zes J aD aE)) zad)))
   (zac (zap (i:=3) ar J (Or.inl J) (zaG zbT (zaI (pv 0) J) (zaJ (zaV (pv 0) G.cl aI aJ as ab .nil pass0 (zaa (pv 2) zad))) (zaJ (pv 1))))
   (zai (zax (zaB zaN (pv 2) (zao zaD (by rfl) T.len b_len (zaa (zas aM ac J aL k3 aK .nil pass0 (zaa (zaI (pv 0) J) (zaa (pv 3) (zaa (zaV (zaI (pv 0) J) aC.cl aN aP as aO .nil pass0 (zaa (zau ix_list (zaI (pv 0) J) (pv 2) (λ_ _=>rfl)) zad)) zad)))) zad)))))),?_⟩
  dsimp only[cxOf,Cx.nox,Cx.wish];have ba:(100000:Nat)<=sizeLine:=by rw[sizeLine_eq];decide
  have bb:=D.nle;have bc:=D.xl;obtain⟨au,bd,av,_⟩:=id D.ok;refine zba λbe _ aS _ _=>zah λaT ae=>?_;refine⟨_,J,r,dx,_,J,D.ins,za8 (by simp),_,J,_,_,J,J,z,r,dx,v,b,x,pt,ps,so,dxs,pr,pn,pw,tab,N,ks,(i:Int)-4,J,D,λB J0 aU bf=>ae _ _ (zah λaT ae=>?_)⟩;have af:B=0∨(runF b x B).at_+4<=i:=by
   rcases aU with h|h
   .exact .inl h
   .exact .inr (by omega)
  have bg:(runF b x B).at_<=i:=by
   rcases af with h|h
   .rw[h];exact Nat.zero_le _
   .omega
  refine⟨_,J,r,CP,dx,_,_,J,D.ins,G.cl,G.nX,zbq v x pt ps so pw,_,J,r,dx,_,J,D.ins,za8 (by simp),_,J,z,r,dx,v,b,x,pt,ps,so,dxs,pr,pn,pw,tab,N,ks,B,J,D,J0,_,J,_,J,_,J,x,J,by omega,?_⟩;have aw:cutS x (some ((runF b x B).at_:Int)) (some (i:Int))=cutS x (some ((runF b x B).at_:Int)) (some (((runF b x B).at_:Int)+((i-(runF b x B).at_:Nat):Int))):=by
   congr 2;omega
  have O:=zcB x (runF b x B).at_ (i-(runF b x B).at_);rw[←aw] at O;clear aw;generalize cutS x (some ((runF b x B).at_:Int)) (some (i:Int))=near at O;refine ae _ _ ?_;have bh:near.length=i-(runF b x B).at_:=by rw[←zal,O,List.length_take,List.length_drop,zal];omega
  obtain⟨aV,aW,U⟩:=D.st B J0;have ax:=za4 (x:=x) av au B;have bi:=ax.dl;refine⟨_,J,_,J,r,CP,dx,_,_,J,D.ins,G.cl,G.nB,zi9 v x pt ps so pw,_,J,_,J,r,CP,dx,_,_,J,D.ins,G.cl,G.nG,zbB v x pt ps so pw,so,dxs,_,J,D.sd.ins,zd0 (by simp),?_⟩;refine⟨_,J,r,CP,dx,_,_,J,D.ins,G.cl,G.nS,zcq v x pt ps so pw,_,J,ps,_,B,_,J,J,SqL.of D.stands,zaj (by rw[List.getElem?_map,aW];rfl),z,so,dxs,pr,pn,tab,aV,(runF b x B).ds.map (·.2),J,ad,D.sd,U,by rw[List.length_map];omega,λp bj H1 V np aX aY=>?_⟩;have aZ:p≠z:=ad.ne np;refine⟨z,v,b,p,(runF b x B).ds,near,J,ad.same V,aZ,D.rb.mono V.x,D.ok,zkT aX aY,ax.bk,by omega,aQ.same V,λa1 Y n H2 ab bk a2 ag a3 a4 bl a5 L2=>?_⟩;have bm:Y.length=n:=by
   have:=a4.length;rw[List.length_map,zkU (λj a6=>(ag j a6).1)] at this;exact this
  refine⟨a1,Y,J,.inl (SqL.of a2),_,_,J,J,aS _ _ ?_⟩;have ah:KeptS b x i (B+n):=λy I=>by
   have Z:y.length=i:=by rw[←zal,I,List.length_take,zal];omega
   have ay:y.cps.toList=x.cps.toList.take (runF b x B).at_++near.cps.toList:=by
    rw[I,O,←List.take_add];congr 1;omega
   have az:(x.cps.toList.take (runF b x B).at_).length=(runF b x B).at_:=by
    rw[List.length_take,zal];omega
   exact⟨zjd D.ok (x:=x) (y:=y) (near:=near) (more:=x.cps.toList.drop i) (pre:=x.cps.toList.take (runF b x B).at_) (by rw[I,List.take_append_drop]) D.run J0 (by rw[Z];exact af) ay az ag,
    zje D.ok (x:=x) (y:=y) (near:=near) (more:=x.cps.toList.drop i) (pre:=x.cps.toList.take (runF b x B).at_) (by rw[I,List.take_append_drop]) D.run J0 (by rw[Z];exact af) ay az ag a3⟩
  obtain⟨y,I⟩:∃y:Str,y.cps.toList=x.cps.toList.take i:=⟨⟨(x.cps.toList.take i).toArray⟩,by simp⟩;have Z:y.length=i:=by rw[←zal,I,List.length_take,zal];omega
  have U:=zbK (b:=b) (y:=y) (y':=x) (more:=x.cps.toList.drop i) (n:=B+n) (by rw[I,List.take_append_drop]) (ah y I).all;have a7:B+n<=N:=by
   by_cases q:B+n<=N
   .exact q
   .exfalso;have h1:=(U N (by omega)).1;have h2:=((ah y I).all N (by omega)).1;have bn:=D.run.at_;omega
  have a8:(runF b x (B+n)).at_<=i:=by
   rw[(U _ (Nat.le_refl _)).1,←Z];exact(za4 (x:=y) av au (B+n)).le
  have e:(B:Int)+(Y.length:Int)=((B+n:Nat):Int):=by omega
  show Q (.int ((B:Int)+(Y.length:Int))) H2;rw[e];exact k (B+n) H2 a7 a8 ah (λaA o a9 aB=>ab aA o (zae aB np) a9 (V aA o aB)) a5 L2
end T1
namespace L2
open PySem PySem.Spec PyProof.Rows
theorem zlG{P:Program}{w:World}{sh:List Bool}{a c:Addr}{kvs:List NEnt}{q:Str}:¬dN P w sh a kvs=cdO c q:=by
 intro e;unfold dN cdO at e;injection e with e;obtain⟨o,D⟩:∃o:Obj,o={ cls:=.type "dict",data:=.fields #[.none,.str q 0] }:=⟨_,J⟩;have I:(⟨Array.replicate (c+1) o,{}⟩:Heap).get? c=some o:=by
  unfold Heap.get?;rw[show (⟨Array.replicate (c+1) o,{}⟩:Heap).objs=Array.replicate (c+1) o from rfl,Array.getElem?_replicate,if_pos (Nat.lt_succ_self c),D]
 have g:(⟨Array.replicate (c+1) o,{}⟩:Heap).CodeRec (.ref c) q:=⟨c,o,#[.none,.str q 0],_,J,I,by rw[D],J⟩;have e:=congrFun e (⟨Array.replicate (c+1) o,{}⟩:Heap);rw[←e] at g;obtain⟨_,_,xs,_,J0,es,ep,B,_,F,_⟩:=g;have h2:J0=o:=by
  unfold Heap.get? at B;rw[show (⟨Array.replicate (c+1) o,{}⟩:Heap).objs=Array.replicate (c+1) o from rfl,Array.getElem?_replicate] at B;by_cases G:a<c+1
  .rw[if_pos G,D] at B;rw[D];injection B with B;exact B.symm
  .rw[if_neg G] at B;cases B
 rw[h2,D] at F;cases F
end L2
namespace T1
open PySem L2
variable {P:Program}{w:World}{K:W.Frag}{mg:Str->Option Value}{base:Heap}
structure PgM(P:Program)(w:World)(z CP CS:Addr)(H:Hp)(r dx:Addr)(v:V)(b:Bk)(x x':Str)(pt ps so dxs pr pn pw:Addr)(tab:List Rws)(N:Nat)(ks:List Nat):Prop where
 ins:H r=some (.ins CP dx (pgF v x' pt ps so pw))
 rb:Rep z H v (bkD b)
 ok:BkOk b
 run:RunN b x N
 told:∃tv,H pt=some (.lst tv)/\Reps z H tv ((runF b x N).ss.map stD)
 stands:H ps=some (.lst (ks.map λk:Nat=>V.int (k:Int)))
 kl:ks.length=N+1
 st:∀j,j<=N->∃k,ks[j]?=some k/\Stands tab k ((runF b x j).ds.map (·.2))
 sd:StdS P w z CS H so dxs pr pn tab
 xl:x.length<=2000
 xl':x'.length<=2000
 nes:(pt≠pr/\ps≠pr/\pw≠pr)/\(pt≠z/\ps≠z/\pw≠z)/\(pw≠pt/\pw≠ps)
structure RaC(z CP:Addr)(H:Hp)(r dx:Addr)(v:V)(b:Bk)(x x':Str)(pt ps so pw el:Addr)(N:Nat)(ks:List Nat)(kvs:List (Key×V)):Prop where
 ins:H r=some (.ins CP dx (pgF v x' pt ps so pw))
 rb:Rep z H v (bkD b)
 told:∃tv,H pt=some (.lst tv)/\Reps z H tv ((runF b x N).ss.map stD)
 stands:H ps=some (.lst (ks.map λk:Nat=>V.int (k:Int)))
 eld:H el=some (.dK kvs)
theorem RaC.keep{z CP:Addr}{H H':Hp}{r dx:Addr}{v:V}{b:Bk}{x x':Str}{pt ps so pw el:Addr}{N:Nat}{ks:List Nat}{kvs:List (Key×V)}(h:RaC z CP H r dx v b x x' pt ps so pw el N ks kvs){S:Addr->Prop}(k:KeepE S H H')(n:NoTup S H)(h1:¬S r)(h2:¬S pt)(B:¬S ps)(D:¬S el):RaC z CP H' r dx v b x x' pt ps so pw el N ks kvs:=by
 obtain⟨tv,F,G⟩:=h.told;exact⟨k _ _ h1 h.ins,Rep.keep k n h.rb (.tup (zbC _)),⟨tv,k _ _ h2 F,Reps.keep k n G (zaX _)⟩,k _ _ B h.stands,k _ _ D h.eld⟩
structure NewS(b:Bk)(x':Str)(tab:List Rws)(j:Nat)(ks:List Nat):Prop where
 len:ks.length=j+1
 st:∀l,l<=j->∃k,ks[l]?=some k/\Stands tab k ((runF b x' l).ds.map (·.2))
theorem NewS.mono{b:Bk}{x':Str}{tab:List Rws}{j:Nat}{ks:List Nat}(h:NewS b x' tab j ks)(more:List Rws):NewS b x' (tab++more) j ks:=⟨h.len,λl B=>by
 obtain⟨k,e,s⟩:=h.st l B;exact⟨k,e,s.mono more⟩⟩
theorem NewS.snoc{b:Bk}{x':Str}{tab:List Rws}{j k:Nat}{ks:List Nat}(h:NewS b x' tab j ks)(s:Stands tab k ((runF b x' (j+1)).ds.map (·.2))):NewS b x' tab (j+1) (ks++[k]):=⟨by rw[List.length_append,h.len];rfl,λl D=>by
 by_cases q:l<=j
 .obtain⟨B,e,s'⟩:=h.st l q;exact⟨B,by rw[List.getElem?_append_left (by rw[h.len];omega)];exact e,s'⟩
 .have e:l=j+1:=by omega
  subst e;exact⟨k,by rw[List.getElem?_append_right (by rw[h.len];omega),h.len,Nat.sub_self];rfl,s⟩⟩
structure RaS(P:Program)(w:World)(tb z CP CS:Addr)(H0 H:Hp)(r dx:Addr)(v:V)(b:Bk)(x x':Str)(pt ps so dxs pr pn pw el:Addr)(tab0 tab:List Rws)(N:Nat)(ks:List Nat)(kvs:List (Key×V))(pT pS q:Addr)(K j i:Nat)(ks':List Nat):Prop where
 core:RaC z CP H r dx v b x x' pt ps so pw el N ks kvs
 bag:Bag z H
 lam:LamTb tb H
 keep:KeepE (λa=>a=pr∨a=pn∨a=tb) H0 H
 sd:StdS P w z CS H so dxs pr pn tab
 ext:∃more,tab=tab0++more/\more.length<=i-K
 new:∃fv,H pT=some (.lst fv)/\Reps z H fv ((runF b x' j).ss.map stD)
 hS:H pS=some (.lst (ks'.map λk:Nat=>V.int (k:Int)))
 ns:NewS b x' tab i ks'
 ds:PDs z H q (runF b x' j).ds
 jK:K<=i
structure Fresh3(H0:Hp)(pT pS q:Addr):Prop where
 t:H0 pT=none
 s:H0 pS=none
 u:H0 q=none
 ts:pT≠pS
 tq:pT≠q
 sq:pS≠q
theorem zcC{tb:Addr}{H H':Hp}{S:Addr->Prop}(h:LamTb tb H)(k:KeepE S H H')(h1:¬S tb)(h2:∀a,S a->∀c q,H a≠some (cdO c q)):LamTb tb H':=by
 rcases h with h|⟨B,h,g⟩
 .exact .inl (k _ _ h1 h)
 .exact .inr ⟨B,k _ _ h1 h,k _ _ (λe=>h2 B e _ _ g) g⟩
theorem zd2{tb a:Addr}{H:Hp}{l l':List V}(h:LamTb tb H)(D:H a=some (.lst l)):LamTb tb (upd H a (.lst l')):=by
 obtain⟨ps,F⟩:=h.tbl;refine zcC h (S:=λb=>b=a) (λb o B e=>by rw[zak B];exact e) (λe=>(zar F D (by intro q;cases q)) e) (λb B c q e=>?_);rw[show b=a from B,D] at e;cases e
theorem zaH{H:Hp}{a:Addr}{o:HO}(h:H a=some o)(n:∀xs,o≠.tup xs):NoTup (λb=>b=a) H:=λb xs e g=>by
 rw[show b=a from e,h] at g;injection g with g;exact n xs g
theorem zby{H:Hp}{S T:Addr->Prop}(h:NoTup S H)(g:NoTup T H):NoTup (λb=>S b∨T b) H:=λb xs e=>e.elim (h b xs) (g b xs)
theorem zaS{H:Hp}{a:Addr}{o:HO}:KeepE (λb=>b=a) H (upd H a o):=λb o' B e=>by rw[zak B];exact e
theorem Fresh3.ne{H0:Hp}{pT pS q a:Addr}{o:HO}(F:Fresh3 H0 pT pS q)(h:H0 a=some o):a≠pT/\a≠pS/\a≠q:=⟨zae h F.t,zae h F.s,zae h F.u⟩
structure At0(P:Program)(w:World)(tb z CP CS:Addr)(H0:Hp)(r dx:Addr)(v:V)(b:Bk)(x x':Str)(pt ps so dxs pr pn pw el:Addr)(tab0:List Rws)(N:Nat)(ks:List Nat)(kvs:List (Key×V))(pT pS q:Addr):Prop where
 core:RaC z CP H0 r dx v b x x' pt ps so pw el N ks kvs
 bag:Bag z H0
 lam:LamTb tb H0
 sd:StdS P w z CS H0 so dxs pr pn tab0
 ok:BkOk b
 fr:Fresh3 H0 pT pS q
 npr:pt≠pr/\ps≠pr
section
variable {P:Program}{w:World}{tb z CP CS:Addr}{H0 H:Hp}{r dx:Addr}{v:V}{b:Bk}{x x':Str}{pt ps so dxs pr pn pw el:Addr}{tab0 tab:List Rws}{N:Nat}{ks:List Nat}{kvs:List (Key×V)}{pT pS q:Addr}{K j i:Nat}{ks':List Nat}
theorem At0.nes(A:At0 P w tb z CP CS H0 r dx v b x x' pt ps so dxs pr pn pw el tab0 N ks kvs pT pS q):(r≠pT/\r≠pS/\r≠q)/\(pt≠pT/\pt≠pS/\pt≠q)/\(ps≠pT/\ps≠pS/\ps≠q)/\(el≠pT/\el≠pS/\el≠q)/\(so≠pT/\so≠pS/\so≠q)/\(pr≠pT/\pr≠pS/\pr≠q)/\(pn≠pT/\pn≠pS/\pn≠q)/\(tb≠pT/\tb≠pS/\tb≠q)/\(z≠pT/\z≠pS/\z≠q):=by
 obtain⟨tv,B,_⟩:=A.core.told;obtain⟨J0,D,_,F⟩:=A.sd.ex;obtain⟨O,G⟩:=A.lam.tbl;obtain⟨c,d,I⟩:=A.bag;exact⟨A.fr.ne A.core.ins,A.fr.ne B,A.fr.ne A.core.stands,A.fr.ne A.core.eld,A.fr.ne A.sd.ins,A.fr.ne D,A.fr.ne F,A.fr.ne G,A.fr.ne I⟩
theorem RaS.read(A:At0 P w tb z CP CS H0 r dx v b x x' pt ps so dxs pr pn pw el tab0 N ks kvs pT pS q)(W:RaS P w tb z CP CS H0 H r dx v b x x' pt ps so dxs pr pn pw el tab0 tab N ks kvs pT pS q K j i ks')(O:(runF b x' j).at_<x'.length){p:Addr}{B:Hp}(I:But2 q tb H B)(np:H p=none)(Z:B p=some (.tup (stV (zbi b x' j))))(ah:PDs z B q (stepL b (runF b x' j).ds x' (runF b x' j).at_ (bestL b (runF b x' j).ds x' (runF b x' j).at_)).2)(ai:LamTb tb B){F:List V}(aa:H pT=some (.lst F))(aj:Reps z H F ((runF b x' j).ss.map stD)) :
  B pT=some (.lst F)/\RaS P w tb z CP CS H0 (upd B pT (.lst (F++[.ref p]))) r dx v b x x' pt ps so dxs pr pn pw el tab0 tab N ks kvs pT pS q K (j+1) i ks'/\upd B pT (.lst (F++[.ref p])) p=some (.tup (stV (zbi b x' j))):=by
 obtain⟨⟨ak,aQ,al⟩,⟨am,aR,ao⟩,⟨ap,aS,aq⟩,⟨ar,aT,as⟩,⟨au,aU,av⟩,⟨aw,p2,p3⟩,⟨ax,aV,ay⟩,⟨az,aA,aW⟩,aB,aX,aC⟩:=A.nes;obtain⟨aY,D⟩:=W.lam.tbl;obtain⟨tv,aD,_⟩:=W.core.told;obtain⟨aZ,aE,_,aF⟩:=W.sd.ex;obtain⟨a1,aG,_⟩:=id W.ds;obtain⟨ab,a2,ac,_⟩:=id A.ok;have U:KeepE (λa=>a=q∨a=tb) H B:=λb o ad e=>I b o (λc=>ad (.inl c)) (λc=>ad (.inr c)) e;have Y:NoTup (λa=>a=q∨a=tb) H:=zby (zaH aG (by intro xs c;cases c)) (zaH D (by intro xs c;cases c));have G:∀ {a:Addr},a≠q->a≠tb->¬(a=q∨a=tb):=λh g c=>c.elim h g;have J0:B pT=some (.lst F):=I _ _ A.fr.tq az.symm aa;have aH:=W.core.keep U Y (G al (zar W.core.ins D (by intro c;cases c))) (G ao (zar aD D (by intro c;cases c))) (G aq (zar W.core.stands D (by intro c;cases c))) (G as (zar W.core.eld D (by intro c;cases c)));have aI:=W.sd.keep U Y (G av (zar W.sd.ins D (by intro c;cases c))) (G p3 (zar aE D (by intro c;cases c))) (G ay (zar aF D (by intro c;cases c)));have ae:=zaH J0 (by intro xs c;cases c);have aJ:=Reps.keep U Y aj (zaX _);have aK:p≠z:=W.bag.ne np;have aL:p≠pT:=(zae aa np).symm;obtain⟨q1,a3,a4,a5,a6,a7⟩:=zaK (x:=x') ac (za4 (x:=x') ac ab j).bk ab O;have aM:upd B pT (.lst (F++[.ref p])) p=some (.tup (stV (zbi b x' j))):=by rw[zak aL];exact Z
 refine⟨J0,⟨aH.keep zaS ae ak am ap ar,?_,?_,?_,aI.keep zaS ae au aw ax,W.ext,⟨_,zab,?_⟩,?_,W.ns,?_,W.jK⟩,aM⟩
 .obtain⟨c,d,af⟩:=W.bag;exact⟨c,d,by rw[zak aB];exact I _ _ aC (zar af D (by intro c;cases c)) af⟩
 .exact zd2 ai J0
 .intro a o ag e;have h1:=W.keep a o ag e;obtain⟨aN,a8,aO⟩:=A.fr.ne e;rw[zak aN];exact I a o aO (λc=>ag (.inr (.inr c))) h1
 .rw[zbJ O,List.map_append];refine Reps.updL J0 (aJ.append (.cons ?_ .nil)) ((zaX _).append (zaX [_]));exact zgc Z aK (by omega)
 .rw[zak A.fr.ts.symm];exact I _ _ A.fr.sq aA.symm W.hS
 .rw[zcn O];obtain⟨aP,h1,h2⟩:=ah;exact⟨aP,by rw[zak A.fr.tq.symm];exact h1,Reps.updL J0 h2 (zcK _)⟩
theorem RaS.behind(A:At0 P w tb z CP CS H0 r dx v b x x' pt ps so dxs pr pn pw el tab0 N ks kvs pT pS q)(W:RaS P w tb z CP CS H0 H r dx v b x x' pt ps so dxs pr pn pw el tab0 tab N ks kvs pT pS q K (j+1) j ks'){U:Nat}{I:List Rws}{G:Hp}(aa:I=tab∨∃r,I=tab++[r])(s:Stands I U ((runF b x' (j+1)).ds.map (·.2)))(B:KeepE (λa=>a=pr∨a=pn) H G)(ag:StdS P w z CS G so dxs pr pn I) :
  G pS=some (.lst (ks'.map λk:Nat=>V.int (k:Int)))/\RaS P w tb z CP CS H0 (upd G pS (.lst ((ks'++[U]).map λk:Nat=>V.int (k:Int)))) r dx v b x x' pt ps so dxs pr pn pw el tab0 I N ks kvs pT pS q K (j+1) (j+1) (ks'++[U]):=by
 obtain⟨⟨aC,ah,aD⟩,⟨aE,ai,aF⟩,⟨aG,aj,aH⟩,⟨aI,ak,aJ⟩,⟨aK,al,aL⟩,⟨am,p2,p3⟩,⟨ao,ab,ap⟩,⟨aM,aN,aO⟩,aP,aq,aQ⟩:=A.nes;obtain⟨aR,ac⟩:=W.lam.tbl;obtain⟨tv,ar,_⟩:=W.core.told;obtain⟨aS,J0,_,F⟩:=W.sd.ex;obtain⟨as,au,av⟩:=W.new;obtain⟨aw,ax,ay⟩:=W.ds;obtain⟨more,ad,aT⟩:=W.ext;have Y:NoTup (λa=>a=pr∨a=pn) H:=zby (zaH J0 (by intro xs c;cases c)) (zaH F (by intro xs c;cases c));have D:∀ {a:Addr},a≠pr->a≠pn->¬(a=pr∨a=pn):=λh g c=>c.elim h g;have az:=W.core.keep B Y (D (zar W.core.ins J0 (by intro c;cases c)) (zar W.core.ins F (by intro c;cases c))) (D A.npr.1 (zar ar F (by intro c;cases c))) (D A.npr.2 (zar W.core.stands F (by intro c;cases c))) (D (zar W.core.eld J0 (by intro c;cases c)) (zar W.core.eld F (by intro c;cases c)));have O:G pS=some (.lst (ks'.map λk:Nat=>V.int (k:Int))):=B _ _ (D p2.symm ab.symm) W.hS;have ae:=zaH O (by intro xs c;cases c);obtain⟨c,d,af⟩:=W.bag;have aA:LamTb tb G:=zcC W.lam B (D (zar ac J0 (by intro c;cases c)) (zar ac F (by intro c;cases c))) (λa ha c q e=>by
  rcases ha with ha|ha
  .rw[ha,J0] at e;cases e
  .rw[ha,F] at e;injection e with e;exact zlG e)
 refine⟨O,az.keep zaS ae ah ai aj ak,⟨c,d,by rw[zak aq];exact B _ _ (D W.sd.prz.symm (zar af F (by intro c;cases c))) af⟩,zd2 aA O,λa o ha e=>?_,ag.keep zaS ae al p2 ab,?_,⟨as,?_,?_⟩,zab,?_,⟨aw,?_,?_⟩,Nat.le_succ_of_le W.jK⟩
 .obtain⟨aU,aB,aV⟩:=A.fr.ne e;rw[zak aB];exact B a o (λc=>ha (c.elim .inl λc=>.inr (.inl c))) (W.keep a o ha e)
 .have aW:=W.jK;rcases aa with e|⟨Z,e⟩
  .exact⟨more,by rw[e,ad],by omega⟩
  .exact⟨more++[Z],by rw[e,ad,List.append_assoc],by rw[List.length_append];show more.length+1<=_;omega⟩
 .rw[zak A.fr.ts];exact B _ _ (D am.symm ao.symm) au
 .exact Reps.updL O (Reps.keep B Y av (zaX _)) (zaX _)
 .rcases aa with e|⟨Z,e⟩
  .rw[e] at s ⊢;exact W.ns.snoc s
  .rw[e] at s ⊢;exact(W.ns.mono [Z]).snoc s
 .rw[zak A.fr.sq.symm];exact B _ _ (D p3.symm ap.symm) ax
 .exact Reps.updL O (Reps.keep B Y ay (zcK _)) (zcK _)
end
theorem zg2(xs:List V){k:Nat}(h:k<=xs.length):cutV xs none (some (k:Int))=xs.take k:=by
 unfold cutV;rw[HT.sIx_nat,HT.sIx_none,List.drop_zero,Nat.min_eq_left h,Nat.sub_zero]
theorem zg3(xs:List V){k:Nat}(h:k<=xs.length):cutV xs (some (k:Int)) none=xs.drop k:=by
 unfold cutV;rw[HT.sIx_nat,HT.sIx_none,Nat.min_eq_left h];exact List.take_of_length_le (by rw[List.length_drop];exact Nat.le_refl _)
theorem zd3{b:Bk}{x:Str}:∀ {j:Nat},(∀l,l<j->(runF b x l).at_<x.length)->(runF b x j).ss.length=j
 |0,_=>rfl
 |j+1,h=>by
  rw[zbJ (h j (by omega)),List.length_append,zd3 (j:=j) λl B=>h l (by omega)];rfl
theorem zkp{b:Bk}{x x':Str}{N n j:Nat}{d:Int}(G:BkOk b)(run:RunN b x N)(I:n<=N)(B:∀l,l<j->(runF b x' l).at_<x'.length)(Z:((runF b x' j).at_:Int)=(runF b x n).at_+d)(J0:x'.cps.toList.drop (runF b x' j).at_=x.cps.toList.drop (runF b x n).at_)(O:n=N∨SamePd (runF b x' j).ds (runF b x n).ds)(aa:(x'.length:Int)=x.length+d):RunN b x' (j+(N-n))/\(runF b x' (j+(N-n))).ss=(runF b x' j).ss++((runF b x N).ss.drop n).map (mvS d)/\∀k,1<=k->k<=N-n->SamePd (runF b x' (j+k)).ds (runF b x (n+k)).ds:=by
 obtain⟨D,ab,F,_⟩:=id G;rcases O with h|h
 .subst h;have h1:=run.at_;have ac:=run.len n (Nat.le_refl _);rw[Nat.sub_self,Nat.add_zero,List.drop_eq_nil_of_le (by omega)];exact⟨⟨by omega,B⟩,by simp,λk h1 h2=>by omega⟩
 .obtain⟨U,V,W⟩:=zkl run I J0 h (za4 (x:=x') F D j).le (za4 (x:=x) F D n).le B;refine⟨U,?_,λk _ Y=>(V k Y).2⟩;rw[W];congr 3;omega
theorem zlH{CS dxs CP dx pr pn:Addr}{v:V}{x:Str}{pt ps so pw:Addr}:¬HO.ins CS dxs (stF pr pn)=HO.ins CP dx (pgF v x pt ps so pw):=λq=>by
 injection q with _ _ q;have:(2:Nat)=6:=congrArg List.length q;omega
noncomputable def GoAt(b:Bk)(x x':Str)(N:Nat)(e d:Int)(l:Nat):Prop:=∃n:Nat,n<=N/\e<=((runF b x n).at_:Int)/\((runF b x' l).at_:Int)=(runF b x n).at_+d/\SamePd (runF b x' l).ds (runF b x n).ds
inductive zg4(P:Program)(w:World)(tb CP CS:Addr):List V->Hp->VK->XK->Prop where
 |mk {vs:List V} {H:Hp} {Q:VK} {E:XK} (z r dx:Addr) (v:V) (b:Bk) (x x':Str) (pt ps so dxs pr pn pw el:Addr) (tab:List Rws) (N:Nat) (ks:List Nat) (kvs:List (Key×V)) (K:Nat) (e d:Int)
  (c1:vs=[.ref r,.int K,.int (runF b x K).at_,.ref el,.int d]) (c2:PgM P w z CP CS H r dx v b x x' pt ps so dxs pr pn pw tab N ks) (c3:Bag z H) (c4:LamTb tb H) (c5:H el=some (.dK kvs)) (c6:EldK b x e d (N+1) kvs) (c7:K<=N)
  (c8:∀j,j<=K->(runF b x' j).at_=(runF b x j).at_/\SamePd (runF b x' j).ds (runF b x j).ds/\(runF b x' j).ss=(runF b x j).ss)
  (c9:(x'.length:Int)=x.length+d) (c10:∀a a':Nat,e<=(a:Int)->(a':Int)=a+d->x'.cps.toList.drop a'=x.cps.toList.drop a) (c11:e<=(x.length:Int)) (c12:tab.length+2000<1000000) (c13:∃wl,H pw=some (.lst wl))
  (c14:∀M n pt' ps' ks' tab' H',K<=M->n<=N->((runF b x' M).at_:Int)=(runF b x n).at_+d->e<=((runF b x n).at_:Int)->(n=N∨SamePd (runF b x' M).ds (runF b x n).ds)->(∀l,K<=l->l<M->¬GoAt b x x' N e d l)->(runF b x' (M+(N-n))).ss=(runF b x' M).ss++((runF b x N).ss.drop n).map (mvS d) ->
   PgS P w z CP CS H' r dx v b x' pt' ps' so dxs pr pn pw tab' (M+(N-n)) ks'->tab'.length<=tab.length+2000->KeepE (λa=>a=r∨a=pr∨a=pn∨a=tb) H H'->Bag z H'->LamTb tb H'->H pt'=none->H ps'=none->Q (.int (runF b x' M).at_) H'):zg4 P w tb CP CS vs H Q E
theorem scAnew:zav ["self","kept","first","elder","longer","told","stands","doors","place","step","number"] ["self","kept","first","elder","longer"] (zag mAnew):=⟨J,J,J,by decide +kernel,J,by decide +kernel,by decide +kernel⟩
theorem ndSL:(["step","longer"]:List Str).Nodup:=by decide +kernel
theorem zlI{f ak aX aY aC bk tb CP CS:Addr}{fd bX bY bZ b0 b1:FuncData}(F:Fun K "read_anew" "Page.read_anew" mAnew f fd)(T:TxtB mg)(G:TxtP K mg CP)(cS:TxtS K mg CS)(k1:W.keepIn K (.ref aC)=true)(aZ:Binds K b0 ["book","text","place","doors"] [])(cT:mg "read_step"=some (.ref aC))(cU:FnOk P w K mg base CX0 4 aC b0 ["book","text","place","doors"] (zdW tb))(cV:Meth K CS "doors_by" ak)(cW:Binds K bX ["self","number"] [])(cX:FnOk P w K mg base CX0 1 ak bX ["self","number"] (zbX P w CS))(cY:Meth K CP "goes_on" aX)(cZ:Binds K bY ["self","place","elder","stand"] [])(c0:FnOk P w K mg base CX0 1 aX bY ["self","place","elder","stand"] (zdA CP))(c1:Meth K CP "stand_behind" aY)(c2:Binds K bZ ["self","stand","step","doors"] [])(c3:FnOk P w K mg base CX0 2 aY bZ ["self","stand","step","doors"] (zdB P w CP CS))(a1:W.keepIn K (.ref bk)=true)(c4:Binds K b1 ["step","by"] [])(c5:mg "moved"=some (.ref bk))(c6:FnOk P w K mg base CX0 1 bk b1 ["step","by"] zeS) :
  FnOk P w K mg base CX0 5 f fd ["self","kept","first","elder","longer"] (zg4 P w tb CP CS):=by
 refine F.ok scAnew (λvs H Q E h=>?_) (λcdv A outer s H vs Q E a2 h=>?_)
 .obtain⟨z,r,dx,v,b,x,x',pt,ps,so,dxs,pr,pn,pw,el,tab,N,ks,kvs,eU,e,d,rfl,_⟩:=h;rfl
 .obtain⟨z,r,dx,v,b,x,x',pt,ps,so,dxs,pr,pn,pw,el,tab,N,ks,kvs,D,e,d,rfl,B,bl,bm,b2,a3,bn,a4,c7,c8,eV,eW,⟨wl,aq⟩,k⟩:=h;have ar:=scAnew.nd;have bo:Room 1 _:=a2.mono (by decide);have c9:Room 2 _:=a2.mono (by decide);have da:Room 4 _:=a2.mono (by decide);have db:(A.deeper (PyProof.Rows.envOfC (Str.ofString "Page.read_anew") (zag mAnew) s.heap.objs.size f cdv)).units+1<cLine:=by have:=a2.un;omega
  refine⟨_,zac (zap (i:=5) ar J (Or.inl J) (zaG zbM (zaI (pv 0) J) zaW (zaJ (pv 1))))
   (zac (zap (i:=6) ar J (Or.inl J) (zaG zbM (zaI (pv 0) J) zaW (zaJ (zaB zaN (pv 1) zaf))))
   (zac (zap (i:=7) ar J (Or.inl J) (zaV (zaI (pv 0) J) cS.cl cV cX bo cW .nil pass0 (zaa (zau ix_list (pv 6) (pv 1) (λ_ _=>rfl)) zad)))
   (zac (zap (i:=8) ar J (Or.inl J) (pv 2))
   (zac (zb0 PassesOwn.never (PW.pt (zcF (zat zd7 (pv 8) (zao zam (by rfl) T.len b_len (zaa (zaI (pv 0) J) zad)) (zaz _)) (zbZ (zdD (zeb (zaV (pv 0) G.cl cY c0 bo cZ .nil pass0 (zaa (pv 8) (zaa (pv 3) (zaa (zau ix_list (pv 6) (zbL zbb zaf) (λ_ _=>rfl)) zad)))))))))
    (zac (zap (i:=9) ar J (Or.inl J) (zas cU da J cT k1 aZ .nil pass0 (zaa (zaI (pv 0) J) (zaa (zaI (pv 0) J) (zaa (pv 8) (zaa (pv 7) zad))))))
    (zac (zaU (zbN PySem.F.plainAttrs_list PySem.F.slot_list_append PySem.F.type_list_append zaL (pv 5) (zaa (pv 9) zad)))
    (zac (zaU (zbN PySem.F.plainAttrs_list PySem.F.slot_list_append PySem.F.type_list_append zaL (pv 6) (zaa (zaV (pv 0) G.cl c1 c3 c9 c2 .nil pass0 (zaa (zau ix_list (pv 6) (zbL zbb zaf) (λ_ _=>rfl)) (zaa (pv 9) (zaa (pv 7) zad)))) zad)))
    (zai (zkB (i:=8) ar J (Or.inl J) (zau ix_tup (pv 9) zaf (λ_ _=>rfl)) zkC))))))
   (zac (zap (i:=10) ar J (Or.inl J) (zeC db (pv 3) (pv 8) (λ_ _=>rfl)))
   (zac (zch (pv 0) (zaB zdj (pv 5) (zaZ (N':=["step","longer"]) (js:=[none,some 4]) J J (zbc (zag mAnew) (by decide +kernel)) ⟨J,Or.inr (Or.inl J),J,trivial⟩ (zbg (zaG zbM (zaI (pv 0) J) (zaJ (pv 10)) zaW)) (λcl s H fp=>zaq (i:=0) ndSL J (Or.inl J)) (λcl s H fp=>zbr) (λcl s H fp=>zas c6 bo J c5 a1 c4 .nil pass0 (zaa (pv 0) (zaa (pv 1) zad))))) J)
   (zac (zch (pv 0) (zaB zdj (pv 6) (zaG zbM (zaI (pv 0) J) (zaJ (zaB zaN (pv 10) zaf)) zaW)) J)
   (zai (zax (pv 8)))))))))),?_⟩
  dsimp only[cxOf,Cx.nox,Cx.wish];have eX:(100000:Nat)<=sizeLine:=by rw[sizeLine_eq];decide
  obtain⟨tv,b3,bp⟩:=B.told;refine zba λeY _ dc _ _=>zah λas O=>?_;obtain⟨al,eZ,am,_⟩:=id B.ok;have e0:=B.xl;have e1:=B.xl';have bq:(runF b x N).ss.length=N:=B.run.len N (Nat.le_refl _);have e2:tv.length=N:=by have:=bp.length;rw[List.length_map,bq] at this;exact this
  have e3:=B.kl;have e4:N<=2000:=by
   have h1:=(za4 (x:=x) am al N).sl;have h2:=B.run.at_;omega
  refine⟨_,J,r,CP,dx,_,_,J,B.ins,G.cl,G.nT,zcN v x' pt ps so pw,_,J,_,J,pt,tv,J,SqL.of b3,λpT b4=>O _ _ (zah λas O=>?_)⟩;rw[zg2 tv (by omega:D<=tv.length)] at *;have az:=Same.new (o:=.lst (tv.take D)) b4;have aD:upd H pT (.lst (tv.take D)) pT=some (.lst (tv.take D)):=zab;generalize upd H pT (.lst (tv.take D))=H1 at az aD;refine⟨_,J,r,CP,dx,_,_,J,az _ _ B.ins,G.cl,G.nS,zcq v x' pt ps so pw,_,J,_,_,J,J,_,J,ps,_,J,SqL.of (az _ _ B.stands),λpS a5=>O _ _ (zah λas O=>?_)⟩;have b5:cutV (ks.map λk:Nat=>V.int (k:Int)) none (some ((D:Int)+1))=(ks.take (D+1)).map λk:Nat=>V.int (k:Int):=by
   have:=zg2 (ks.map λk:Nat=>V.int (k:Int)) (k:=D+1) (by rw[List.length_map];omega);rw[List.map_take];exact this
  rw[b5];have aE:=Same.new (o:=.lst ((ks.take (D+1)).map λk:Nat=>V.int (k:Int))) a5;have aF:upd H1 pS (.lst ((ks.take (D+1)).map λk:Nat=>V.int (k:Int))) pS=some (.lst ((ks.take (D+1)).map λk:Nat=>V.int (k:Int))):=zab;generalize upd H1 pS (.lst ((ks.take (D+1)).map λk:Nat=>V.int (k:Int)))=H2 at aE aF;have au:=az.trans aE;obtain⟨b6,b7,b8⟩:=B.st D bn;have b9:=za4 (x:=x) am al D;have e5:=b9.dl;have e6:=b9.le;refine⟨_,J,r,CP,dx,_,_,J,au _ _ B.ins,G.cl,G.nG,zbB v x' pt ps so pw,so,dxs,_,J,au _ _ B.sd.ins,zd0 (by simp),?_⟩;have ca:((ks.take (D+1)).map λk:Nat=>V.int (k:Int))[D]?=some (.int b6):=by
   rw[List.getElem?_map,List.getElem?_take_of_lt (Nat.lt_succ_self _),b7];rfl
  refine⟨_,J,_,J,pS,_,D,_,J,J,SqL.of aF,zaj ca,z,so,dxs,pr,pn,tab,b6,(runF b x D).ds.map (·.2),J,bl.same au,B.sd.same au,b8,by rw[List.length_map];omega,λq e7 cb a6 a7 aG br=>O _ _ (zah λas O=>?_)⟩;have ab:=au.trans a6;refine⟨_,J,O _ _ ?_⟩;have dd:H q=none:=au.free a7;have de:H pS=none:=az.free a5;have bs:At0 P w tb z CP CS H r dx v b x x' pt ps so dxs pr pn pw el tab N ks kvs pT pS q:=⟨⟨B.ins,B.rb,B.told,B.stands,b2⟩,bl,bm,B.sd,B.ok,⟨b4,de,dd,zae aD a5,zae (aE _ _ aD) a7,zae aF a7⟩,B.nes.1.1,B.nes.1.2.1⟩;obtain⟨df,dg,dh⟩:=a4 D (Nat.le_refl _);have di:RaS P w tb z CP CS H cb r dx v b x x' pt ps so dxs pr pn pw el tab tab N ks kvs pT pS q D D D (ks.take (D+1)):=by
   refine⟨⟨ab _ _ B.ins,B.rb.mono ab.x,⟨tv,ab _ _ b3,bp.mono ab.x⟩,ab _ _ B.stands,ab _ _ b2⟩,bl.same ab,bm.same ab,λa o _ e=>ab a o e,B.sd.same ab,⟨[],by simp,Nat.zero_le _⟩,⟨tv.take D,a6 _ _ (aE _ _ aD),?_⟩,a6 _ _ aF,⟨?_,λl aH=>?_⟩,?_,Nat.le_refl _⟩
   .rw[dh,B.run.take bn,List.map_take];exact(bp.mono ab.x).take D
   .rw[List.length_take];omega
   .obtain⟨aI,h1,h2⟩:=B.st l (by omega);exact⟨aI,by rw[List.getElem?_take_of_lt (by omega)];exact h1,by rw[show (runF b x' l).ds.map (·.2)=(runF b x l).ds.map (·.2) from (a4 l aH).2.1];exact h2⟩
   .rw[←show (runF b x' D).ds.map (·.2)=(runF b x D).ds.map (·.2) from dg] at br;exact zkT aG br
  have dj:∀l,l<D->(runF b x' l).at_<x'.length:=λl aH=>by
   have h1:=(a4 l (by omega)).1;have aJ:=B.run.mono B.ok (i:=l) (j:=D) aH bn;have bt:=(za4 (x:=x') am al D).le;omega
  have dk:=(bs.nes).2.2.2.2.2.2.2.2.2.2.symm;clear a4 ca b5 br aG a6 aE az au aD aF a7 a5 b8 b7;refine zdN (J0:=λσ' H'=>∃(j n:Nat) (ae:List Rws) (ks':List Nat) (av:Option V),σ'=[some (.ref r),some (.int D),some (.int (runF b x D).at_),some (.ref el),some (.int d),some (.ref pT),some (.ref pS),some (.ref q),some (.int (runF b x' j).at_),av,none] /\
   RaS P w tb z CP CS H H' r dx v b x x' pt ps so dxs pr pn pw el tab ae N ks kvs pT pS q D j j ks'/\(∀l,l<j->(runF b x' l).at_<x'.length)/\n<=N/\e<=((runF b x n).at_:Int)/\((runF b x' j).at_:Int)=(runF b x n).at_+d/\valV kvs (.inl ((runF b x' j).at_:Int))=some (.int n)/\(n=N∨SamePd (runF b x' j).ds (runF b x n).ds)/\(∀l,D<=l->l<j->¬GoAt b x x' N e d l)) (λas O=>?g1) ?g2
  case g1=>
   refine zb1 (λσ' H'=>∃(j:Nat) (ae:List Rws) (ks':List Nat) (av:Option V),σ'=[some (.ref r),some (.int D),some (.int (runF b x D).at_),some (.ref el),some (.int d),some (.ref pT),some (.ref pS),some (.ref q),some (.int (runF b x' j).at_),av,none] /\
    RaS P w tb z CP CS H H' r dx v b x x' pt ps so dxs pr pn pw el tab ae N ks kvs pT pS q D j j ks'/\(∀l,l<j->(runF b x' l).at_<x'.length)/\(∀l,D<=l->l<j->¬GoAt b x x' N e d l))
    (λσ _=>match σ[8]? with|some (some (V.int i))=>x'.length-i.toNat|_=>0) ⟨D,tab,ks.take (D+1),none,by rw[df];rfl,di,dj,λl h1 h2=>by omega⟩ ?_ ?_
   .rintro σ' aK ⟨j,ae,ks',av,rfl,W,aw,aL⟩;have ai:=za4 (x:=x') am al j;have dl:=ai.le;have cc:=ai.dl;have dm:=ai.sl;have ce:=zd3 aw;refine⟨_,J,_,J,r,CP,dx,_,_,J,W.core.ins,G.cl,G.nX,zbq v x' pt ps so pw,x',J,by omega,_,_,J,J,_,J,?_⟩;refine ite2 (λg=>?_) (λg=>?_)
    .have g:(runF b x' j).at_<x'.length:=by have:=of_decide_eq_true g;omega
     obtain⟨a8,dn,aM⟩:=W.ns.st j (Nat.le_refl _);have cf:atI (ks'.map λk:Nat=>V.int (k:Int)) (-1)=some (.int (a8:Int)):=zgb (m:=j) (by rw[List.length_map,W.ns.len]) (by rw[List.getD_eq_getElem?_getD,List.getElem?_map,dn];rfl);refine⟨_,J,r,dx,_,J,W.core.ins,za8 (by simp),_,J,_,J,_,J,1,J,pS,_,-1,_,J,J,SqL.of W.hS,cf,r,dx,v,x',pt,ps,so,pw,el,ks,kvs,(runF b x' j).at_,a8,J,W.core.ins,W.core.stands,W.core.eld,λu dp=>?_,λbu cg=>?_⟩
     .obtain⟨n,h1,h2,aJ,bt⟩:=a3.all _ _ dp;exact⟨n,ks[n],aJ,by rw[List.getElem?_eq_getElem (by omega)]⟩
     .refine⟨_,J,?_⟩;cases bu with
      |true=>
       refine iteF (O _ _ ?_);obtain⟨n,h1,h2⟩:=cg.mp rfl;obtain⟨dq,g1,g2,a9,ak⟩:=a3.all _ _ h1;injection a9 with a9;have ao:n=dq:=by omega
       subst ao;injection ak with ak;refine⟨j,n,ae,ks',av,J,W,aw,by omega,g2,ak,h1,.inr ?_,aL⟩;obtain⟨ch,aA,bv⟩:=B.st n (by omega);rw[h2] at aA;injection aA with aA;subst aA;obtain⟨more,ap,_⟩:=W.ext;rw[ap] at aM;exact aM.inj (bv.mono more)
      |false=>
       have dr:¬GoAt b x x' N e d j:=λ⟨n,q1,ax,dt,bw⟩=>by
        have ba:=a3.has n (by omega) ax;rw[←dt] at ba;obtain⟨ch,aA,bv⟩:=B.st n q1;obtain⟨more,ap,_⟩:=W.ext;have bw:(runF b x' j).ds.map (·.2)=(runF b x n).ds.map (·.2):=bw;rw[bw] at aM;have ao:a8=ch:=Stands.uniq W.sd.nod aM (by rw[ap];exact bv.mono more);exact absurd (cg.mpr ⟨n,ba,by rw[aA,ao]⟩) (by decide)
       refine iteT ?_;show (tSeq _ _) _ _ _;refine zba λe8 du _ _ _=>zah λci aN=>?_;refine⟨_,J,r,CP,dx,_,_,J,W.core.ins,G.cl,G.nB,zi9 v x' pt ps so pw,_,J,r,CP,dx,_,_,J,W.core.ins,G.cl,G.nX,zbq v x' pt ps so pw,_,J,_,J,?_⟩;refine⟨z,v,b,q,(runF b x' j).ds,x',(runF b x' j).at_,J,W.bag,dk,W.core.rb,B.ok,W.ds,ai.bk,g,by omega,by omega,W.lam,λp bx ay np cj ck cm=>aN _ _ (zah λci aN=>?_)⟩;obtain⟨U,bb,aB⟩:=W.new;obtain⟨bz,aa,aO⟩:=W.read bs g ay np cj ck cm bb aB;have dv:U.length=(runF b x' j).ss.length:=by have:=aB.length;simpa using this
       refine⟨_,J,.inl ⟨J,_,SqL.of bz⟩,_,J,pT,U,_,J,J,bz,by omega,aN _ _ (zah λci aN=>?_)⟩;generalize upd bx pT (.lst (U++[.ref p]))=aP at aa aO;clear ck cm cj ay np bb bz aB W;have cn:=zfP B.ok ai.bk g;rw[←zcn g] at cn;obtain⟨more,ap,dw⟩:=aa.ext;have e9:=(za4 (x:=x') am al (j+1)).dl;have fa:=(za4 (x:=x') am al (j+1)).le;have dy:ae.length<1000000:=by rw[ap,List.length_append];omega
       refine⟨_,J,.inl ⟨J,_,SqL.of aa.hS⟩,?_⟩;refine⟨_,J,r,dx,_,J,aa.core.ins,za8 (by simp),_,J,1,J,pS,_,-1,_,J,J,SqL.of aa.hS,cf,_,J,_,J,?_⟩;refine⟨z,r,dx,v,b,x',x',pt,ps,so,dxs,pr,pn,pw,p,q,ae,(runF b x' j).at_,a8,(runF b x' j).ds,(runF b x' (j+1)).ds,zbi b x' j,J,aa.core.ins,aO,aa.ds,aa.bag,aa.sd,aM,cn,by omega,dy,λaQ dz I dA dB a1 Y=>?_⟩;obtain⟨aR,co⟩:=aa.behind bs dA dB a1 Y;obtain⟨dC,aS,_,bA⟩:=aa.sd.ex;have cp:=a1 _ _ (λc=>c.elim (zar aO aS (by intro c;cases c)) (zar aO bA (by intro c;cases c))) aO;have cq:upd I pS (.lst ((ks'++[aQ]).map λk:Nat=>V.int (k:Int))) p=some (.tup (stV (zbi b x' j))):=by rw[zak (zar cp aR (by intro c;cases c))];exact cp
       have cr:=aa.ns.len;have dD:(ks'.map λk:Nat=>V.int (k:Int))++[V.int (aQ:Int)]=(ks'++[aQ]).map λk:Nat=>V.int (k:Int):=by rw[List.map_append];rfl
       refine⟨pS,_,_,J,J,aR,by rw[List.length_map];omega,?_⟩;rw[dD];refine aN _ _ ?_;generalize upd I pS (.lst ((ks'++[aQ]).map λk:Nat=>V.int (k:Int)))=bc at co cq;obtain⟨cs,p2,p3,p4,p5,fb⟩:=zaK (x:=x') am ai.bk al g;have dE:((runF b x' j).at_:Int)+(zbi b x' j).2.1=((runF b x' (j+1)).at_:Int):=by
        have dF:∀(a:Nat) (k:Int),1<=k->((a+k.toNat:Nat):Int)=(a:Int)+k:=λa k fc=>by omega
        rw[zdm g];exact(dF _ _ cs).symm
       refine⟨_,J,_,J,p,_,1,_,J,J,SqT.of cq,zaj (j:=1) J,_,_,J,J,?_⟩;dsimp only;rw[dE];refine du _ _ ⟨⟨j+1,dz,ks'++[aQ],_,J,co,λl aH=>?_,λl h1 h2=>?_⟩,?_⟩
       .by_cases ax:l=j
        .rw[ax];exact g
        .exact aw l (by omega)
       .by_cases ax:l=j
        .rw[ax];exact dr
        .exact aL l h1 (by omega)
       .show x'.length-((runF b x' (j+1)).at_:Int).toNat<x'.length-((runF b x' j).at_:Int).toNat;have ao:1<=(zbi b x' j).2.1:=cs;omega
    .have fe:(runF b x' j).at_=x'.length:=by
      have:¬(runF b x' j).at_<x'.length:=λq=>g (decide_eq_true (by omega));omega
     have ff:=B.run.at_;have dG:=a3.has N (by omega) (by omega);refine iteF (O _ _ ⟨j,N,ae,ks',av,J,W,aw,Nat.le_refl _,by omega,by omega,?_,.inl J,aL⟩);rw[show ((runF b x' j).at_:Int)=((runF b x N).at_:Int)+d by omega];exact dG
   .rintro σ cb fg fh aG ⟨ba,ao,dH,dI,aS,dJ,bB,dK,dL,aC,dM,dN,dO,dP,dQ,dR,bt,dS,dT,dU,dV,aZ,dW,h⟩;refine⟨ba,ao,dH,dI,aS,dJ,bB,dK,dL,aC,dM,dN,dO,dP,dQ,dR,bt,dS,dT,dU,dV,aZ,dW,?_⟩;cases aZ with
    |false=>exact aG _ _ h
    |true=>
     obtain⟨bC,g1,cu,aT,cv,g2,a9,ak,cw,aX,bD,aY,cx,dX,cy,dY,dZ,d0,d1,d2,d3,d4,d5,d6,d7,d8,d9,eb,ec,ed,ee,ef,eg,eh,ei,ej,ek,bd,em,bE,en,eo,ep⟩:=h;refine⟨bC,g1,cu,aT,cv,g2,a9,ak,cw,aX,bD,aY,cx,dX,cy,dY,dZ,d0,d1,d2,d3,d4,d5,d6,d7,d8,d9,eb,ec,ed,ee,ef,eg,eh,ei,ej,ek,bd,em,bE,en,eo,λbu bF=>?_⟩;obtain⟨c,eq,h⟩:=ep bu bF;exact⟨c,eq,aG _ _ h⟩
  case g2=>
   rintro σ' aK ⟨j,n,ae,ks',av,rfl,W,aw,cz,cA,bG,er,cB,aL⟩;have ai:=za4 (x:=x') am al j;have dl:=ai.le;have dm:=ai.sl;have ce:=zd3 aw;obtain⟨et,cC,eu⟩:=zkp B.ok B.run cz aw bG (c8 _ _ cA bG) cB c7;have bF:DGet aK el (.int ((runF b x' j).at_:Int)) (some (.int (n:Int))):=by rw[←er];exact DGet.k (k:=.inl ((runF b x' j).at_:Int)) W.core.eld
   refine zah λas O=>?_;refine⟨_,J,_,J,el,_,J,bF,O _ _ (zah λas O=>?_)⟩;obtain⟨ac,ew,cD⟩:=W.core.told;have fi:ac.length=N:=by have:=cD.length;rw[List.length_map,bq] at this;exact this
   obtain⟨U,bb,aB⟩:=W.new;have dv:U.length=j:=by have:=aB.length;rw[List.length_map,ce] at this;exact this
   refine⟨_,J,_,J,r,CP,dx,_,_,J,W.core.ins,G.cl,G.nT,zcN v x' pt ps so pw,_,J,_,J,pt,ac,J,SqL.of ew,λpl ey=>?_⟩;rw[zg3 ac (by omega:n<=ac.length)];have ay:=Same.new (o:=.lst (ac.drop n)) ey;have be:upd aK pl (.lst (ac.drop n)) pl=some (.lst (ac.drop n)):=zab;generalize upd aK pl (.lst (ac.drop n))=bx at ay be;have cE:Reps z bx (ac.drop n) (((runF b x N).ss.drop n).map stD):=by
    rw[List.map_drop];exact(cD.mono ay.x).drop n
   refine⟨pl,J,⟨_,SqL.of be⟩,λcF cG=>?_⟩;have cH:pl≠cF:=zae be cG;have cc:(ac.drop n).length=((runF b x N).ss.drop n).length:=by have:=cE.length;simpa using this
   refine zcz (z:=z) (λ_=>true) (λi=>stD (mvS d (((runF b x N).ss.drop n).getD i st0))) (λσ=>∃u,σ=[u,some (.int d)]) ⟨none,J⟩ cG (by rw[List.length_drop];omega) (zbe (xs:=ac.drop n) (by rw[zak cH];exact be) cH) (λi=>zmr _) (λi σ aP fj fk hi ⟨bC,hw⟩ bf ez _=>?_) (λσ aP vs bf eA bH=>?_)
   .subst hw;obtain⟨eB,ao,fl,eC,eD⟩:=ziZ ((zi0 (t:=i) cE (by omega)).mono bf.x);rw[ao];dsimp only[tYes,gName];rw[if_pos rfl];refine⟨_,J,_,J,eB,d,((runF b x N).ss.drop n).getD i st0,J,eC,λpm I aU nm eE=>?_⟩;exact ez rfl _ (.ref pm) I ⟨_,J⟩ aU (zgc eE (((W.bag.same ay).same bf).ne nm) eD)
   .rw[List.filter_eq_self.mpr (λ_ _=>rfl),cc,zgX (λs=>stD (mvS d s)) ((runF b x N).ss.drop n)] at bH;have bI:=ay.trans bf;have fm:vs.length=N-n:=by
     have:=bH.length;rw[List.length_map,List.length_drop,bq] at this;exact this
    refine⟨pT,cF,U,vs,J,J,bI _ _ bb,eA,by omega,λp2 cI=>?_⟩;have aU:=Same.new (o:=.lst (U++vs)) cI;have Y:=bI.trans aU;have bJ:upd aP p2 (.lst (U++vs)) p2=some (.lst (U++vs)):=zab;have cJ:Reps z (upd aP p2 (.lst (U++vs))) (U++vs) ((runF b x' (j+(N-n))).ss.map stD):=by
     rw[cC,List.map_append];refine Reps.append (aB.mono Y.x) ?_;rw[List.map_map];exact bH.mono aU.x
    have ad:=bI.free cI;generalize upd aP p2 (.lst (U++vs))=I at aU Y bJ cJ;refine⟨_,J,r,CP,dx,_,J,Y _ _ W.core.ins,G.cl,G.nT,by show (6:Nat)<1000;decide,?_⟩;rw[zlE];have af:=Y _ _ W.core.ins;have bg:KeepE (λa=>a=r) I (upd I r (.ins CP dx (pgF v x' p2 ps so pw))):=zaS;have bK:NoTup (λa=>a=r) I:=zaH af (by intro xs c;cases c);have eF:upd I r (.ins CP dx (pgF v x' p2 ps so pw)) p2=some (.lst (U++vs)):=by rw[zak (zar bJ af (by intro c;cases c))];exact bJ
    have eG:=Reps.keep bg bK cJ (zaX _);have bL:RaC z CP I r dx v b x x' pt ps so pw el N ks kvs:=W.core.keep (S:=λ_=>False) (λa o _ e=>Y a o e) (λ_ _ h=>h.elim) id id id id;have eH:upd I r (.ins CP dx (pgF v x' p2 ps so pw)) ps=some (.lst (ks.map λk:Nat=>V.int (k:Int))):=by rw[zak (zar bL.stands af (by intro c;cases c))];exact bL.stands
    have aR:=Y _ _ W.hS;have eI:upd I r (.ins CP dx (pgF v x' p2 ps so pw)) pS=some (.lst (ks'.map λk:Nat=>V.int (k:Int))):=by rw[zak (zar aR af (by intro c;cases c))];exact aR
    have eJ:=Rep.keep bg bK bL.rb (.tup (zbC _));have bM:=W.sd.same Y;obtain⟨dC,aS,_,bA⟩:=id bM.ex;have cK:=bM.keep bg bK (zar bM.ins af zlH) (zar aS af (by intro c;cases c)) (zar bA af (by intro c;cases c));have bN:KeepE (λa=>a=r∨a=pr∨a=pn∨a=tb) H (upd I r (.ins CP dx (pgF v x' p2 ps so pw))):=λa o aj e=>by
     rw[zak (λc=>aj (.inl c))];exact Y a o (W.keep a o (λc=>aj (.inr c)) e)
    have cL:Bag z (upd I r (.ins CP dx (pgF v x' p2 ps so pw))):=by
     obtain⟨c,d',aV⟩:=W.bag.same Y;exact⟨c,d',by rw[zak (zar aV af (by intro c;cases c))];exact aV⟩
    have bO:LamTb tb (upd I r (.ins CP dx (pgF v x' p2 ps so pw))):=by
     obtain⟨eK,bP⟩:=(W.lam.same Y).tbl;refine zcC (W.lam.same Y) bg (zar bP af (by intro c;cases c)) (λa aj c aW e=>?_);rw[show a=r from aj,af] at e;cases e
    have bQ:upd I r (.ins CP dx (pgF v x' p2 ps so pw)) r=some (.ins CP dx (pgF v x' p2 ps so pw)):=zab;refine O _ _ (zah λas O=>?_);generalize upd I r (.ins CP dx (pgF v x' p2 ps so pw))=bc at *;refine⟨_,J,_,J,r,CP,dx,_,_,J,bQ,G.cl,G.nS,zcq v x' p2 ps so pw,_,J,_,_,J,J,_,J,ps,_,J,SqL.of eH,λbh eL=>?_⟩;have eM:cutV (ks.map λk:Nat=>V.int (k:Int)) (some ((n:Int)+1)) none=(ks.drop (n+1)).map λk:Nat=>V.int (k:Int):=by
     have:=zg3 (ks.map λk:Nat=>V.int (k:Int)) (k:=n+1) (by rw[List.length_map];omega);rw[List.map_drop];exact this
    rw[eM];have bi:=Same.new (o:=.lst ((ks.drop (n+1)).map λk:Nat=>V.int (k:Int))) eL;have cM:upd bc bh (.lst ((ks.drop (n+1)).map λk:Nat=>V.int (k:Int))) bh=some (.lst ((ks.drop (n+1)).map λk:Nat=>V.int (k:Int))):=zab;generalize upd bc bh (.lst ((ks.drop (n+1)).map λk:Nat=>V.int (k:Int)))=cN at bi cM;have cr:=W.ns.len;refine⟨pS,bh,_,_,J,J,bi _ _ eI,cM,by rw[List.length_map,List.length_map,List.length_drop];omega,λp3 cO=>?_⟩;have eN:(ks'.map λk:Nat=>V.int (k:Int))++((ks.drop (n+1)).map λk:Nat=>V.int (k:Int))=(ks'++ks.drop (n+1)).map λk:Nat=>V.int (k:Int):=by rw[List.map_append]
    rw[eN];have ag:=bi.trans (Same.new (o:=.lst ((ks'++ks.drop (n+1)).map λk:Nat=>V.int (k:Int))) cO);have bR:upd cN p3 (.lst ((ks'++ks.drop (n+1)).map λk:Nat=>V.int (k:Int))) p3=some (.lst ((ks'++ks.drop (n+1)).map λk:Nat=>V.int (k:Int))):=zab;have Z:=bi.free cO;generalize upd cN p3 (.lst ((ks'++ks.drop (n+1)).map λk:Nat=>V.int (k:Int)))=bS at ag bR;have ah:=ag _ _ bQ;refine⟨_,J,r,CP,dx,_,J,ah,G.cl,G.nS,by show (6:Nat)<1000;decide,?_⟩;rw[zja];have bj:KeepE (λa=>a=r) bS (upd bS r (.ins CP dx (pgF v x' p2 p3 so pw))):=zaS;have bT:NoTup (λa=>a=r) bS:=zaH ah (by intro xs c;cases c);have cP:=ag _ _ eF;have bU:=cK.same ag;obtain⟨fn,bd,_,bE⟩:=id cK.ex;obtain⟨fo,bB,_,eO⟩:=id bU.ex;obtain⟨⟨bC,cu,aT⟩,⟨cv,cw,bD⟩,cx,cy⟩:=B.nes;obtain⟨fq,h1,_,aJ⟩:=id B.sd.ex;obtain⟨eK,cQ⟩:=bm.tbl;have eP:aK pw=some (.lst wl):=W.keep _ _ (λc=>c.elim aT λc=>c.elim (zar aq aJ (by intro c;cases c)) (zar aq cQ (by intro c;cases c))) aq;have eQ:bc pw=some (.lst wl):=bN _ _ (λc=>c.elim (zar aq B.ins (by intro c;cases c)) λc=>c.elim aT λc=>c.elim (zar aq aJ (by intro c;cases c)) (zar aq cQ (by intro c;cases c))) aq;obtain⟨fr,cR,_,eR⟩:=id W.sd.ex;obtain⟨more,ap,dw⟩:=W.ext;have eS:=W.jK;refine O _ _ ⟨_,J,dc _ _ (k j n p2 p3 (ks'++ks.drop (n+1)) ae _ eS cz bG cA cB aL cC ⟨zab,Rep.keep bj bT (eJ.mono ag.x) (.tup (zbC _)),B.ok,et,⟨U++vs,by rw[zak (zar cP ah (by intro c;cases c))];exact cP,Reps.keep bj bT (eG.mono ag.x) (zaX _)⟩,by rw[zak (zar bR ah (by intro c;cases c))];exact bR,by rw[List.length_append,List.length_drop];omega,λl aH=>?_,bU.keep bj bT (zar bU.ins ah zlH) (zar bB ah (by intro c;cases c)) (zar eO ah (by intro c;cases c)),B.xl',⟨⟨(zae cR ad).symm,(zae bd Z).symm,aT⟩,⟨W.bag.ne ad,cL.ne Z,bD⟩,zae eP ad,zae eQ Z⟩⟩ ?_ (λa o aj e=>?_) ?_ ?_ ?_ ?_)⟩
    .by_cases ax:l<=j
     .obtain⟨aI,g1,g2⟩:=W.ns.st l ax;exact⟨aI,by rw[List.getElem?_append_left (by omega)];exact g1,g2⟩
     .obtain⟨m,rfl⟩:∃m,l=j+m:=⟨l-j,by omega⟩;obtain⟨aI,g1,g2⟩:=B.st (n+m) (by omega);refine⟨aI,?_,?_⟩
      .rw[List.getElem?_append_right (by omega),List.getElem?_drop,cr];rw[show n+1+(j+m-(j+1))=n+m by omega];exact g1
      .rw[ap,show (runF b x' (j+m)).ds.map (·.2)=(runF b x (n+m)).ds.map (·.2) from eu m (by omega) (by omega)];exact g2.mono more
    .rw[ap,List.length_append];omega
    .rw[zak (λc=>aj (.inl c))];exact ag a o (bN a o aj e)
    .obtain⟨c,d',aV⟩:=cL.same ag;exact⟨c,d',by rw[zak (zar aV ah (by intro c;cases c))];exact aV⟩
    .obtain⟨ft,bP⟩:=(bO.same ag).tbl;refine zcC (bO.same ag) bj (zar bP ah (by intro c;cases c)) (λa aj c aW e=>?_);rw[show a=r from aj,ah] at e;cases e
    .cases aW:H p2 with
     |none=>rfl
     |some o=>
      exfalso;have bV:=W.keep p2 o (λc=>?_) aW
      .rw[bV] at ad;cases ad
      .rcases c with c|c|c
       .rw[c,cR] at ad;cases ad
       .rw[c,eR] at ad;cases ad
       .obtain⟨eT,bW⟩:=W.lam.tbl;rw[c,bW] at ad;cases ad
    .cases aW:H p3 with
     |none=>rfl
     |some o=>
      exfalso;have bV:=bN p3 o (λc=>?_) aW
      .rw[bV] at Z;cases Z
      .rcases c with c|c|c|c
       .rw[c,bQ] at Z;cases Z
       .rw[c,bd] at Z;cases Z
       .rw[c,bE] at Z;cases Z
       .obtain⟨eT,bW⟩:=bO.tbl;rw[c,bW] at Z;cases Z
theorem zd4(y:Str){k:Nat}(h:k<=y.length):(cutS y none (some (k:Int))).cps.toList=y.cps.toList.take k:=by
 have:=zcB y 0 k;rw[List.drop_zero] at this;rw[←this];unfold cutS;rw[HT.sIx_none];have B:HT.sIx y.length 0 (some ((0:Nat):Int))=0:=by rw[HT.sIx_nat];omega
 have D:((0:Nat):Int)+(k:Int)=(k:Int):=by omega
 rw[B,D]
structure PutR(b:Bk)(x x':Str)(bg en:Nat)(t:Str)(N K M n:Nat)(d:Int):Prop where
 tx:x'.cps.toList=x.cps.toList.take bg++t.cps.toList++x.cps.toList.drop en
 dd:d=(t.length:Int)-((en:Int)-(bg:Int))
 kN:K<=N
 at_:(runF b x K).at_<=bg
 ak:(runF b x' K).at_=(runF b x K).at_
 sk:(runF b x' K).ss=(runF b x K).ss
 kM:K<=M
 nN:n<=N
 am:((runF b x' M).at_:Int)=(runF b x n).at_+d
 enn:(en:Int)<=((runF b x n).at_:Int)
 ss:(runF b x' (M+(N-n))).ss=(runF b x' M).ss++((runF b x N).ss.drop n).map (mvS d)
 sure:KeptS b x bg K
 hor:n=N∨SamePd (runF b x' M).ds (runF b x n).ds
 no:∀l,K<=l->l<M->¬GoAt b x x' N en d l
inductive spPut(P:Program)(w:World)(tb CP CS:Addr):List V->Hp->VK->XK->Prop where
 |mk {vs:List V} {H:Hp} {Q:VK} {E:XK} (z r dx:Addr) (v:V) (b:Bk) (x:Str) (pt ps so dxs pr pn pw:Addr) (tab:List Rws) (N:Nat) (ks:List Nat) (bg en:Nat) (t:Str)
  (c1:vs=[.ref r,.int bg,.int en,.str t]) (c2:PgS P w z CP CS H r dx v b x pt ps so dxs pr pn pw tab N ks) (c3:Bag z H) (c4:LamTb tb H) (c5:bg<=en) (c6:en<=x.length) (c7:x.length-(en-bg)+t.length<=2000) (c8:tab.length+2000<1000000) (c9:∃wl,H pw=some (.lst wl))
  (c10:∀p x' K M n d pt' ps' ks' tab' H',PutR b x x' bg en t N K M n d->PgS P w z CP CS H' r dx v b x' pt' ps' so dxs pr pn pw tab' (M+(N-n)) ks'->tab'.length<=tab.length+2000->KeepE (λa=>a=r∨a=pr∨a=pn∨a=tb) H H'->Bag z H'->LamTb tb H'->H p=none->H' p=some (.tup [.int (runF b x K).at_,.int (runF b x' M).at_])->H pt'=none->H ps'=none->Q (.ref p) H'):spPut P w tb CP CS vs H Q E
theorem scPut:zav ["self","begin","end","text","kept","first","longer","elder","last"] ["self","begin","end","text"] (zag mPut):=⟨J,J,J,by decide +kernel,J,by decide +kernel,by decide +kernel⟩
theorem zmw{f am ao ap aq tb CP CS:Addr}{fd ar as au av:FuncData}(F:Fun K "put" "Page.put" mPut f fd)(T:TxtB mg)(J0:TxtP K mg CP)(aJ:Meth K CP "count_sure" am)(aK:Binds K ar ["self","begin"] [])(aL:FnOk P w K mg base CX0 6 am ar ["self","begin"] (zdC P w tb CP CS))(aM:Meth K CP "beginning" ao)(aN:Binds K as ["self","number"] [])(aO:FnOk P w K mg base CX0 1 ao as ["self","number"] (zcd P w CP CS))(aP:Meth K CP "numbers_by_beginnings" ap)(aQ:Binds K au ["self","end","longer"] [])(aR:FnOk P w K mg base CX0 2 ap au ["self","end","longer"] (zcZ P w CP CS))(aS:Meth K CP "read_anew" aq)(aT:Binds K av ["self","kept","first","elder","longer"] [])(aU:FnOk P w K mg base CX0 5 aq av ["self","kept","first","elder","longer"] (zg4 P w tb CP CS)):FnOk P w K mg base CX0 7 f fd ["self","begin","end","text"] (spPut P w tb CP CS):=by
 refine F.ok scPut (λvs H Q E h=>?_) (λcdv A outer s H vs Q E ab h=>?_)
 .obtain⟨z,r,dx,v,b,x,pt,ps,so,dxs,pr,pn,pw,tab,N,ks,D,G,t,rfl,_⟩:=h;rfl
 .obtain⟨z,r,dx,v,b,x,pt,ps,so,dxs,pr,pn,pw,tab,N,ks,D,G,t,rfl,ac,aV,ae,bE,aw,bF,aW,⟨wl,ax⟩,k⟩:=h;have Y:=scPut.nd;have aX:Room 1 _:=ab.mono (by decide);have aY:Room 2 _:=ab.mono (by decide);have aZ:Room 5 _:=ab.mono (by decide);refine⟨_,zac (zap (i:=4) Y J (Or.inl J) (zaV (pv 0) J0.cl aJ aL ab aK .nil pass0 (zaa (pv 1) zad)))
   (zac (zap (i:=5) Y J (Or.inl J) (zaV (pv 0) J0.cl aM aO aX aN .nil pass0 (zaa (pv 4) zad)))
   (zac (zap (i:=6) Y J (Or.inl J) (zaB zcf (zao zam (by rfl) T.len b_len (zaa (pv 3) zad)) (zaB zcf (pv 2) (pv 1))))
   (zac (zap (i:=7) Y J (Or.inl J) (zaV (pv 0) J0.cl aP aR aY aQ .nil pass0 (zaa (pv 2) (zaa (pv 6) zad))))
   (zac (zch (pv 0) (zaB zbh (zaB zbh (zaG zbT (zaI (pv 0) J) zaW (zaJ (pv 1))) (pv 3)) (zaG zbT (zaI (pv 0) J) (zaJ (pv 2)) zaW)) J)
   (zac (zap (i:=8) Y J (Or.inl J) (zaV (pv 0) J0.cl aS aU aZ aT .nil pass0 (zaa (pv 4) (zaa (pv 5) (zaa (pv 7) (zaa (pv 6) zad))))))
   (zai (zax (za9 (zaa (pv 5) (zaa (pv 8) zad)))))))))),?_⟩
  dsimp only[cxOf,Cx.nox,Cx.wish];have bG:(100000:Nat)<=sizeLine:=by rw[sizeLine_eq];decide
  have a1:=ac.xl;refine zba λbH _ a2 _ _=>zah λZ I=>?_;refine⟨_,J,r,dx,_,J,ac.ins,za8 (by simp),_,J,z,r,dx,v,b,x,pt,ps,so,dxs,pr,pn,pw,tab,N,ks,D,J,ac,aV,ae,by omega,λV H1 af a3 ay ad a4 a5=>I _ _ (zah λZ I=>?_)⟩;have aa:=ac.butX ad ae;refine⟨_,J,r,dx,_,J,aa.ins,za8 (by simp),_,J,z,r,dx,v,b,x,pt,ps,so,dxs,pr,pn,pw,tab,N,ks,V,J,aa,af,I _ _ (zah λZ I=>?_)⟩;refine⟨_,J,t,J,by omega,_,J,_,J,_,_,J,J,_,_,J,J,I _ _ (zah λZ I=>?_)⟩;refine⟨_,J,r,dx,_,J,aa.ins,za8 (by simp),_,J,_,J,z,r,dx,v,b,x,pt,ps,so,dxs,pr,pn,pw,tab,N,ks,G,(t.length:Int)-((G:Int)-(D:Int)),J,aa,λel kvs H2 W bI az a6=>I _ _ (zah λZ I=>?_)⟩;have B:=aa.same W;have a7:=a4.same W;have ag:=a5.same W;have a8:(cutS x none (some (D:Int))).length=D:=by rw[←zal,zd4 x (by omega),List.length_take,zal];omega
  have a9:(cutS x (some (G:Int)) none).length=x.length-G:=by rw[←zal,zcb x aw,List.length_drop,zal]
  have ba:(cutS x none (some (D:Int))++t).length=D+t.length:=by rw[zeT,a8]
  refine⟨_,J,r,CP,dx,_,_,J,B.ins,J0.cl,J0.nX,zbq v x pt ps so pw,_,J,_,J,x,J,by omega,_,J,_,_,J,J,by omega,_,J,r,CP,dx,_,_,J,B.ins,J0.cl,J0.nX,zbq v x pt ps so pw,_,J,_,J,x,J,by omega,_,_,J,J,by omega,_,J,r,CP,dx,_,J,B.ins,J0.cl,J0.nX,by show (6:Nat)<1000;decide,?_⟩;rw[zki];obtain⟨x',ex'⟩:∃x',x'=cutS x none (some (D:Int))++t++cutS x (some (G:Int)) none:=⟨_,J⟩;rw[←ex'];have ah:x'.cps.toList=x.cps.toList.take D++t.cps.toList++x.cps.toList.drop G:=by rw[ex',zcX,zcX,zd4 x (by omega),zcb x aw]
  have bJ:x'.length=D+t.length+(x.length-G):=by rw[ex',zeT,ba,a9]
  have bb:(x.cps.toList.take D).length=D:=by rw[List.length_take,zal];omega
  have O:KeepE (λa=>a=r) H2 (upd H2 r (.ins CP dx (pgF v x' pt ps so pw))):=zaS;have ai:NoTup (λa=>a=r) H2:=zaH B.ins (by intro xs c;cases c);obtain⟨tv,aA,bc⟩:=B.told;obtain⟨bK,bd,_,be⟩:=id B.sd.ex;have aB:PgM P w z CP CS (upd H2 r (.ins CP dx (pgF v x' pt ps so pw))) r dx v b x x' pt ps so dxs pr pn pw tab N ks:=⟨zab,Rep.keep O ai B.rb (.tup (zbC _)),B.ok,B.run,⟨tv,O _ _ (zar aA B.ins (by intro c;cases c)) aA,Reps.keep O ai bc (zaX _)⟩,O _ _ (zar B.stands B.ins (by intro c;cases c)) B.stands,B.kl,B.st,B.sd.keep O ai (zar B.sd.ins B.ins zlH) (zar bd B.ins (by intro c;cases c)) (zar be B.ins (by intro c;cases c)),a1,by omega,B.nes⟩;have bf:Bag z (upd H2 r (.ins CP dx (pgF v x' pt ps so pw))):=by
   obtain⟨c,d',aC⟩:=a7;exact⟨c,d',O _ _ (zar aC B.ins (by intro c;cases c)) aC⟩
  have bg:LamTb tb (upd H2 r (.ins CP dx (pgF v x' pt ps so pw))):=by
   obtain⟨bh,bi⟩:=ag.tbl;refine zcC ag O (zar bi B.ins (by intro c;cases c)) (λa U c bL e=>?_);rw[show a=r from U,B.ins] at e;cases e
  have bj:=O _ _ (zar az B.ins (by intro c;cases c)) az;obtain⟨bh,bk⟩:=ae.tbl;have aD:=W _ _ (ad _ _ (zar ax bk (by intro c;cases c)) ax);have bl:=O _ _ (zar aD B.ins (by intro c;cases c)) aD;have k3:KeepE (λa=>a=r∨a=pr∨a=pn∨a=tb) H (upd H2 r (.ins CP dx (pgF v x' pt ps so pw))):=λa o U e=>by
   rw[zak (λc=>U (.inl c))];exact W a o (ad a o (λc=>U (.inr (.inr (.inr c)))) e)
  have bm:upd H2 r (.ins CP dx (pgF v x' pt ps so pw)) r=some (.ins CP dx (pgF v x' pt ps so pw)):=zab;have aE:∀ {a:Addr},upd H2 r (.ins CP dx (pgF v x' pt ps so pw)) a=none->H a=none:=λ{a} n=>by
   cases q:H a with
   |none=>rfl
   |some o=>
    exfalso;by_cases c:a=r
    .rw[c,bm] at n;cases n
    .rw[zak c] at n;by_cases aF:a=tb
     .obtain⟨bM,bn⟩:=ag.tbl;rw[aF,bn] at n;cases n
     .rw[W a o (ad a o aF q)] at n;cases n
  obtain⟨y,aj⟩:∃y:Str,y.cps.toList=x.cps.toList.take D:=⟨⟨(x.cps.toList.take D).toArray⟩,by simp⟩;have ak:=zjf (b:=b) (x:=x) (x':=x') (y:=y) (more:=x.cps.toList.drop D) (more':=t.cps.toList++x.cps.toList.drop G) (K:=V) (by rw[aj,List.take_append_drop]) (by rw[aj,ah,List.append_assoc]) (ay y aj).all;refine I _ _ (zah λZ I=>?_);generalize upd H2 r (.ins CP dx (pgF v x' pt ps so pw))=bN at *;refine⟨_,J,r,dx,_,J,aB.ins,za8 (by simp),_,J,_,J,_,J,_,J,z,r,dx,v,b,x,x',pt,ps,so,dxs,pr,pn,pw,el,tab,N,ks,kvs,V,G,(t.length:Int)-((G:Int)-(D:Int)),J,aB,bf,bg,bj,a6,af,ak,by omega,λa bO h1 h2=>?_,by omega,aW,⟨wl,bl⟩,λM n pt' ps' ks' bo bP bp bq br bs bt bu bv al bw aG bx aH bz bA=>I _ _ ?_⟩
  .have aI:(x.cps.toList.take D++t.cps.toList).length=D+t.length:=by rw[List.length_append,bb,zal]
   rw[ah,List.drop_append,aI,List.drop_eq_nil_of_le (by rw[aI];omega),List.nil_append,List.drop_drop];congr 1;omega
  .refine⟨_,J,_,J,by show (2:Nat)<=_;omega,λp np=>a2 _ _ (k p x' V M n _ pt' ps' ks' bo _ ⟨ah,J,af,a3,(ak V (Nat.le_refl _)).1,(ak V (Nat.le_refl _)).2.2,bp,bq,br,bs,bv,ay,bt,bu⟩ (al.same (Same.new np)) bw (λa o U e=>Same.new np _ _ (aG a o U (k3 a o U e))) (bx.same (Same.new np)) (aH.same (Same.new np)) ?_ zab ?_ ?_)⟩
   rotate_left
   .exact aE bz
   .exact aE bA
   cases q:H p with
   |none=>rfl
   |some o=>
    exfalso;obtain⟨bQ,bB,_,bC⟩:=id al.sd.ex;obtain⟨bR,bD⟩:=aH.tbl;have h1:=aG p o (λc=>?_) (k3 p o (λc=>?_) q)
    .rw[h1] at np;cases np
    all_goals
     rcases c with c|c|c|c
     .rw[c,al.ins] at np;cases np
     .rw[c,bB] at np;cases np
     .rw[c,bC] at np;cases np
     .rw[c,bD] at np;cases np
theorem zmx:bootBuiltins "sum"=some (.builtin "sum"):=by decide +kernel
theorem ndStp:(["step"]:List Str).Nodup:=by decide +kernel
theorem zjj(k:Nat):∀S T:List LDr,Cmps (k+1) (S.map pdD) (T.map pdD)
 |[],_=>.nilL _ _
 |_::_,[]=>.nilR _ _
 |a::s,b::t=>.cons (.tup (.cons (.int _ _ _) (.cons (.str _ _ _) (.nilL _ _)))) (zjj k s t)
theorem zkV:∀ {S T:List LDr},S.map pdD=T.map pdD->SamePd S T
 |[],[],_=>rfl
 |[],_::_,h=>by simp at h
 |_::_,[],h=>by simp at h
 |a::s,b::t,h=>by
  rw[List.map_cons,List.map_cons] at h;injection h with h1 h2;have i:=zkV h2;unfold SamePd at i ⊢;rw[List.map_cons,List.map_cons,i];unfold pdD at h1;injection h1 with h1;injection h1 with h1 B;injection h1 with h1;injection B with B _;injection B with B;rw[Prod.ext h1 B]
theorem eq_pds{S T:List LDr}:eqDs (S.map pdD) (T.map pdD)=true↔SamePd S T:=⟨λh=>zkV (eqDs_eq h),λh=>by rw[SamePd.pd h];exact eqDs_refl _⟩
noncomputable def AtL(b:Bk)(x x':Str)(N N':Nat)(d:Int)(m:Int):Prop:=∃n B:Nat,n<=N/\B<=N'/\((runF b x' B).at_:Int)=m/\((runF b x n).at_:Int)+d=m/\SamePd (runF b x' B).ds (runF b x n).ds
structure AnewR(b:Bk)(x x':Str)(bg en:Nat)(t:Str)(N N':Nat)(K l:Nat)(d:Int):Prop where
 tx:x'.cps.toList=x.cps.toList.take bg++t.cps.toList++x.cps.toList.drop en
 dd:d=(t.length:Int)-((en:Int)-(bg:Int))
 run:RunN b x N
 run':RunN b x' N'
 le:l<=x'.length
 ge:bg+t.length<=l
 at_:l=x'.length∨AtL b x x' N N' d l
 no:∀m:Nat,bg+t.length<=m->m<l->¬AtL b x x' N N' d m
inductive ze7:List V->Hp->VK->XK->Prop where
 |mk {vs:List V} {H:Hp} {Q:VK} {E:XK} (z:Addr) (v:V) (b:Bk) (x:Str) (bg en:Nat) (t:Str) (c1:vs=[v,.str x,.int bg,.int en,.str t]) (c2:Bag z H) (c3:Rep z H v (bkD b)) (c4:BkOk b) (c5:x.length+t.length<=20000) (c6:bg<=en) (c7:en<=x.length)
  (c8:∀p q x' y N N' K l d H',Same H H'->H p=none->H q=none->H' p=some (.lst [.str x',.ref q])->y.cps.toList=x.cps.toList.take bg->SureN b y K->H' q=some (.tup [.int (runF b y K).at_,.int (l:Nat)])->AnewR b x x' bg en t N N' K l d->Q (.ref p) H'):ze7 vs H Q E
theorem scLAnew:zav ["book","old","begin","end","put","text","first","elder","stands","more","last","place"] ["book","old","begin","end","put"] (zag lAnew):=⟨J,J,J,by decide +kernel,J,by decide +kernel,by decide +kernel⟩
theorem zkq{f au av:Addr}{fd aT aU:FuncData}(F:Fun K "_law_anew" "_law_anew" lAnew f fd)(T:TxtB mg)(bl:Txt2 mg)(bm:mg "sum"=none)(k1:W.keepIn K (.ref au)=true)(bn:Binds K aT ["book","text"] [])(bo:mg "_law_sure"=some (.ref au))(bp:FnOk P w K mg base CX0 2 au aT ["book","text"] zeU)(k2:W.keepIn K (.ref av)=true)(aV:Binds K aU ["book","text"] [])(aW:mg "_law_stands"=some (.ref av))(aX:FnOk P w K mg base CX0 2 av aU ["book","text"] zcr):FnOk P w K mg base CX0 6 f fd ["book","old","begin","end","put"] ze7:=by
 refine F.ok scLAnew (λvs H Q E h=>?_) (λcdv A outer s H vs Q E ai h=>?_)
 .obtain⟨z,v,b,x,B,Y,t,rfl,_⟩:=h;rfl
 .obtain⟨z,v,b,x,B,Y,t,rfl,aw,R,Z,bZ,b0,aY,k⟩:=h;have aa:=scLAnew.nd;obtain⟨ax,b1,ay,_⟩:=id Z;have az:Room 2 _:=ai.mono (by decide);have aj:(A.deeper (PyProof.Rows.envOfC (Str.ofString "_law_anew") (zag lAnew) s.heap.objs.size f cdv)).units+1<cLine:=by have:=ai.un;omega
  refine⟨_,zac (zap (i:=5) aa J (Or.inl J) (zaB zbh (zaB zbh (zaG zbT (pv 1) zaW (zaJ (pv 2))) (pv 4)) (zaG zbT (pv 1) (zaJ (pv 3)) zaW)))
   (zac (zap (i:=6) aa J (Or.inl J) (zao (zjK J) (by rfl) bm zmx (zaa (zaZ (N':=["step"]) (js:=[none]) J J (zbc (zag lAnew) (by decide +kernel)) trivial (zbg (zas bp az J bo k1 bn .nil pass0 (zaa (pv 0) (zaa (zaG zbT (pv 1) zaW (zaJ (pv 2))) zad)))) (λcl s H fp=>zaq (i:=0) ndStp J (Or.inl J)) (λcl s H fp=>zbr) (λcl s H fp=>zau zbs (pv 0) zaf (λ_ _=>rfl))) zad)))
   (zac (zap (i:=7) aa J (Or.inl J) (zas aX az J aW k2 aV .nil pass0 (zaa (pv 0) (zaa (pv 1) zad))))
   (zac (zap (i:=8) aa J (Or.inl J) (zas aX az J aW k2 aV .nil pass0 (zaa (pv 0) (zaa (pv 5) zad))))
   (zac (zap (i:=9) aa J (Or.inl J) (zaB zcf (zao zam (by rfl) T.len b_len (zaa (pv 4) zad)) (zaB zcf (pv 3) (pv 2))))
   (zac (zap (i:=10) aa J (Or.inl J) (zao zam (by rfl) T.len b_len (zaa (pv 5) zad)))
   (zac (zbG PassesOwn.never J (zbg (zkK (zfz ai.hd (by rfl) bl.list zgy (by rfl) T.range (zaa (zaB zaN (pv 2) (zao zam (by rfl) T.len b_len (zaa (pv 4) zad))) (zaa (zaB zaN (zao zam (by rfl) T.len b_len (zaa (pv 5) zad)) zaf) zad))) (zbL zbb zaf) (λσ H Q b2 h bq=>by obtain⟨i,e,h⟩:=h;exact⟨i,e,bq _ _ h⟩))) (zaq (i:=11) aa J (Or.inl J))
    (zai (zaY (PW.pt (zcF (zhL (zif aj (pv 11) (pv 8))) (zcF (zhL (zif aj (zaB zcf (pv 11) (pv 9)) (pv 7))) (zbZ (zat (zl9 ai) (zeC aj (pv 8) (pv 11) (λ_ _=>rfl)) (zeC aj (pv 7) (zaB zcf (pv 11) (pv 9)) (λ_ _=>rfl)) (zaz _)))))) (zai (zap (i:=10) aa J (Or.inl J) (pv 11))) zaA)))
   (zai (zax (zaE (zaa (pv 5) (zaa (za9 (zaa (pv 6) (zaa (pv 10) zad))) zad))))))))))),?_⟩
  dsimp only[cxOf,Cx.nox,Cx.wish];have b3:=za2;have b4:(100000:Nat)<=sizeLine:=by rw[sizeLine_eq];decide
  refine zba λb5 _ br _ _=>zah λac J0=>?_;have aZ:(cutS x none (some (B:Int))).length=B:=by rw[←zal,zd4 x (by omega),List.length_take,zal];omega
  have bs:(cutS x (some (Y:Int)) none).length=x.length-Y:=by rw[←zal,zcb x aY,List.length_drop,zal]
  have bt:(cutS x none (some (B:Int))++t).length=B+t.length:=by rw[zeT,aZ]
  refine⟨_,J,_,J,_,J,x,J,by omega,_,J,_,_,J,J,by omega,_,J,_,J,_,J,x,J,by omega,_,_,J,J,by omega,J0 _ _ (zah λac J0=>?_)⟩;obtain⟨x',ex'⟩:∃x',x'=cutS x none (some (B:Int))++t++cutS x (some (Y:Int)) none:=⟨_,J⟩;rw[←ex'];have bu:x'.cps.toList=x.cps.toList.take B++t.cps.toList++x.cps.toList.drop Y:=by rw[ex',zcX,zcX,zd4 x (by omega),zcb x aY]
  have b6:x'.length=B+t.length+(x.length-Y):=by rw[ex',zeT,bt,bs]
  -- first
  have a1:=zd4 x (k:=B) (by omega);refine⟨_,J,_,J,_,J,_,J,x,J,by omega,z,v,b,cutS x none (some (B:Int)),J,aw,R,Z,by omega,λa2 a3 D H1 bv b7 ak a4 al=>?_⟩;generalize cutS x none (some (B:Int))=y at a1 a4 al aZ;have a5:a3.length=(runF b y D).ss.length:=by have:=al.length;simpa using this
  have b8:=(za4 (x:=y) ay ax D).sl;have b9:=(za4 (x:=y) ay ax D).le;refine⟨a2,J,⟨_,SqL.of ak⟩,λpS a6=>?_⟩;have a7:a2≠pS:=zae ak a6;refine zbf (λj=>some (V.int ((runF b y D).ss.getD j st0).2.1)) (λσ=>∃u,σ=[u]) ⟨none,J⟩ a6 (by omega) (zbe (xs:=a3) (by rw[zak a7];exact ak) a7) (λj σ bw ca cb ⟨bx,hw⟩ aA bz=>?_) (λσ H2 bA am=>?_)
  .subst hw;obtain⟨bB,e,cc,bC,ce⟩:=ziZ ((zi0 (t:=j) al (by omega)).mono aA.x);rw[e];dsimp only[tYes,gName];rw[if_pos rfl];exact⟨_,J,bB,_,1,_,J,J,SqT.of bC,zaj (j:=1) J,bz _ _ ⟨_,J⟩ (Same.refl _)⟩
  rw[zbS,a5,zgX (λs=>V.int s.2.1) (runF b y D).ss] at am;have a8:(runF b y D).ss.map (λs=>V.int s.2.1)=((runF b y D).ss.map (·.2.1)).map V.int:=by rw[List.map_map];rfl
  rw[a8] at am;have bD:((runF b y D).ss.map (·.2.1)).sum=((runF b y D).at_:Int):=by
   rw[zdX];exact(zj5 (x:=y) (ds0:=[]) ay ax (λd bE=>nomatch bE) D).sum
  refine⟨pS,_,J,SqL.of am,?_⟩;rw[bD];refine J0 _ _ (zah λac J0=>?_);have aB:=bv.trans bA;have bF:=aw.same aB;have R2:=R.mono aB.x (z:=z);clear am a8 al ak a5
  -- elder,stands
  refine⟨_,J,_,J,z,v,b,x,J,bF,R2,Z,by omega,λao a9 N bw aA cf bG aC bH=>J0 _ _ (zah λac J0=>?_)⟩;have aD:=aB.trans aA;refine⟨_,J,_,J,z,v,b,x',J,aw.same aD,R.mono aD.x,Z,by omega,λpt ba N' ap aE cg bI aF KT=>J0 _ _ (zah λac J0=>?_)⟩;have bJ:=aD.trans aE;have bK:=aE _ _ bG;have aG:=bH.same aE;refine⟨_,J,t,J,by omega,_,J,_,J,_,_,J,J,_,_,J,J,J0 _ _ (zah λac J0=>?_)⟩;dsimp only;obtain⟨d,bb⟩:∃d:Int,d=(t.length:Int)-((Y:Int)-(B:Int)):=⟨_,J⟩;rw[←bb];refine⟨_,J,x',J,by omega,J0 _ _ (zah λac J0=>?_)⟩
  -- last
  have bc:∀m:Int,AtL b x x' N N' d m↔∃q ab,valV ba (.inl m)=some (.ref q)/\valV a9 (.inl (m-d))=some (.ref ab)/\∃n I:Nat,n<=N/\I<=N'/\((runF b x' I).at_:Int)=m/\((runF b x n).at_:Int)+d=m/\Rep z ap (.ref q) (.tup ((runF b x' I).ds.map pdD))/\Rep z ap (.ref ab) (.tup ((runF b x n).ds.map pdD))/\SamePd (runF b x' I).ds (runF b x n).ds:=λm=>by
   constructor
   .rintro⟨n,I,h1,h2,af,aq,ag⟩;obtain⟨q,O,aH⟩:=KT.has I (by omega);obtain⟨ab,U,aI⟩:=aG.has n (by omega);rw[af] at O;rw[show ((runF b x n).at_:Int)=m-d by omega] at U;exact⟨q,ab,O,U,n,I,h1,h2,af,aq,aH,aI,ag⟩
   .rintro⟨q,ab,_,_,n,I,h1,h2,af,aq,_,_,ag⟩;exact⟨n,I,h1,h2,af,aq,ag⟩
  refine⟨_,J,_,J,t,J,by omega,_,_,J,J,_,J,x',J,by omega,_,_,J,J,?_⟩;refine⟨((B+t.length:Nat):Int),((x'.length+1:Nat):Int),?_,⟨by omega,by omega,by omega,by omega⟩,by omega,λaJ bL=>?_⟩
  .congr 1
  obtain⟨G,bM⟩:∃G:Nat,G=(((x'.length+1:Nat):Int)-((B+t.length:Nat):Int)).toNat:=⟨_,J⟩;rw[←bM];have ch:B+t.length+G=x'.length+1:=by omega
  have bN:=Same.new (o:=.lst ((List.range G).map λk:Nat=>V.int (((B+t.length:Nat):Int)+(k:Int)))) bL;refine⟨1,J,aJ,_,J,J,SqL.of zab,λah bO=>?_⟩;have bP:=Same.new (o:=.lst ((List.range G).map λk:Nat=>V.int (((B+t.length:Nat):Int)+(k:Int))).reverse) bO;have ad:=bN.trans bP;have ar:upd (upd ap aJ (.lst ((List.range G).map λk:Nat=>V.int (((B+t.length:Nat):Int)+(k:Int))))) ah (.lst ((List.range G).map λk:Nat=>V.int (((B+t.length:Nat):Int)+(k:Int))).reverse) ah=some (.lst ((List.range G).map λk:Nat=>V.int (((B+t.length:Nat):Int)+(k:Int))).reverse):=zab;generalize upd (upd ap aJ (.lst ((List.range G).map λk:Nat=>V.int (((B+t.length:Nat):Int)+(k:Int))))) ah (.lst ((List.range G).map λk:Nat=>V.int (((B+t.length:Nat):Int)+(k:Int))).reverse)=bQ at ad ar;have bd:=ad _ _ bI;have be:=ad _ _ bK;have bf:∀(i:Nat) (u:V),((List.range G).map λk:Nat=>V.int (((B+t.length:Nat):Int)+(k:Int))).reverse[i]?=some u->i<G/\u=.int ((x'.length-i:Nat):Int):=λi u h=>by
   have hi:=(List.getElem?_eq_some_iff.mp h).1;rw[List.length_reverse,List.length_map,List.length_range] at hi;rw[List.getElem?_reverse (by rw[List.length_map,List.length_range];exact hi),List.getElem?_map,List.length_map,List.length_range,List.getElem?_range (by omega)] at h;injection h with h;refine⟨hi,?_⟩;rw[←h];show V.int (((B+t.length:Nat):Int)+((G-1-i:Nat):Int))=_;congr 1;omega
  have aK:(((List.range G).map λk:Nat=>V.int (((B+t.length:Nat):Int)+(k:Int))).reverse).length=G:=by rw[List.length_reverse,List.length_map,List.length_range]
  generalize ((List.range G).map λk:Nat=>V.int (((B+t.length:Nat):Int)+(k:Int))).reverse=xs at ar bf aK;refine⟨ah,J,⟨_,SqL.of ar⟩,zgr (K:=K) (a:=ah) (xs:=xs) (λi σ ae=>∃(l:Nat) (aL:Option V),σ=[some v,some (.str x),some (.int B),some (.int Y),some (.str t),some (.str x'),some (.int (runF b y D).at_),some (.ref ao),some (.ref pt),some (.int d),some (.int (l:Nat)),aL]/\ae=bQ/\l<=x'.length/\(l=x'.length∨(AtL b x x' N N' d l/\x'.length+1<=l+i))/\(∀m:Nat,x'.length+1<=m+i->m<l->¬AtL b x x' N N' d m))
   ⟨x'.length,none,J,J,Nat.le_refl _,.inl J,λm h1 h2=>by omega⟩ (λi σ ae _ ⟨_,_,_,e,_⟩=>by rw[e];exact SqL.of ar) ?_ ?_⟩
  .rintro i u σ ae hi ⟨l,aL,rfl,rfl,aM,as,aN⟩;obtain⟨ci,rfl⟩:=bf i u hi;show (tIfS _ _ _) _ _ _;refine zba λbR bg _ _ _=>?_;have aO:¬AtL b x x' N N' d ((x'.length-i:Nat):Int)->bR.nx [some v,some (.str x),some (.int B),some (.int Y),some (.str t),some (.str x'),some (.int (runF b y D).at_),some (.ref ao),some (.ref pt),some (.int d),some (.int (l:Nat)),some (.int ((x'.length-i:Nat):Int))] ae:=λaP=>bg _ _ ⟨l,_,J,J,aM,as.imp id (λh=>⟨h.1,by omega⟩),λm h1 h2=>by
    by_cases e:m=x'.length-i
    .rw[e];exact aP
    .exact aN m (by omega) h2⟩
   refine⟨_,J,_,J,pt,_,J,DGet.k (k:=.inl ((x'.length-i:Nat):Int)) bd,?_⟩;cases hv1:valV ba (.inl ((x'.length-i:Nat):Int)) with
   |none=>
    refine⟨_,J,iteF (iteF (aO λh=>?_))⟩;obtain⟨q,ab,O,_⟩:=(bc _).mp h;rw[hv1] at O;cases O
   |some bx=>
    refine⟨_,J,iteT ?_⟩;refine⟨_,J,_,J,_,_,J,J,_,J,ao,_,J,DGet.k (k:=.inl (((x'.length-i:Nat):Int)-d)) be,?_⟩;cases hv2:valV a9 (.inl (((x'.length-i:Nat):Int)-d)) with
    |none=>
     refine⟨_,J,iteF (iteF (aO λh=>?_))⟩;obtain⟨q,ab,_,U,_⟩:=(bc _).mp h;rw[hv2] at U;cases U
    |some cj=>
     refine⟨_,J,iteT ?_⟩;obtain⟨I,bS,aQ⟩:=KT.all _ _ hv1;obtain⟨n,aP,aR⟩:=aG.all _ _ hv2;injection aQ with aQ;injection aR with aR;obtain⟨q,O,aH⟩:=KT.has I bS;obtain⟨ab,U,aI⟩:=aG.has n aP;rw[←aQ,hv1] at O;rw[←aR,hv2] at U;injection O with O;injection U with U;subst O;subst U;refine⟨_,J,_,J,pt,_,J,by have:=DGet.k (k:=.inl ((x'.length-i:Nat):Int)) bd;rw[hv1] at this;exact this,?_⟩;refine⟨_,J,_,J,_,J,_,_,J,J,ao,_,J,by have:=DGet.k (k:=.inl (((x'.length-i:Nat):Int)-d)) be;rw[hv2] at this;exact this,?_⟩;refine⟨z,z,_,_,aH.mono ad.x,aI.mono ad.x,zjj 3 _ _,_,J,?_⟩;refine ite2 (λg=>?_) (λg=>?_)
     .have g:SamePd (runF b x' I).ds (runF b x n).ds:=eq_pds.mp g;exact⟨_,J,bg _ _ ⟨x'.length-i,_,J,J,by omega,.inr ⟨⟨n,I,by omega,by omega,by omega,by omega,g⟩,by omega⟩,λm h1 h2=>by omega⟩⟩
     .refine aO λh=>g (eq_pds.mpr ?_);obtain⟨bh,bi,h1,h2,af,aq,ag⟩:=h;have bT:bi=I:=by
       rcases Nat.lt_trichotomy bi I with c|c|c
       .have:=aF.mono Z c (by omega);omega
       .exact c
       .have:=aF.mono Z c h2;omega
      have bU:bh=n:=by
       rcases Nat.lt_trichotomy bh n with c|c|c
       .have:=aC.mono Z c (by omega);omega
       .exact c
       .have:=aC.mono Z c h1;omega
      rw[←bT,←bU];exact ag
  .rintro σ ae ⟨l,aL,rfl,rfl,aM,as,aN⟩;refine J0 _ _ ⟨_,J,_,J,_,J,by show (2:Nat)<=_;omega,λq bj=>⟨by show (2:Nat)<=_;omega,λp np=>br _ _ ?_⟩⟩;have aS:=bJ.trans ad;have bk:=Same.new (o:=.tup [V.int (runF b y D).at_,V.int (l:Nat)]) bj;have bV:=aS.free bj;have bW:=(aS.trans bk).free np;have bX:upd ae q (.tup [V.int (runF b y D).at_,V.int (l:Nat)]) q=some (.tup [V.int (runF b y D).at_,V.int (l:Nat)]):=zab;have bY:B+t.length<=l:=by
    rcases as with h|⟨_,h⟩
    .omega
    .rw[aK] at h;omega
   exact k p q x' y N N' D l d _ ((aS.trans bk).trans (Same.new np)) bW bV zab a1 a4 (Same.new np _ _ bX) ⟨bu,bb,aC,aF,aM,bY,as.imp id And.left,λm h1 h2=>aN m (by rw[aK];omega) h2⟩
inductive ze8(P:Program)(w:World)(CP CS:Addr):List V->Hp->VK->XK->Prop where
 |mk {vs:List V} {H:Hp} {Q:VK} {E:XK} (z r dx:Addr) (v:V) (b:Bk) (x:Str) (pt ps so dxs pr pn pw:Addr) (tab:List Rws) (N:Nat) (ks:List Nat) (c1:vs=[.ref r]) (c2:PgS P w z CP CS H r dx v b x pt ps so dxs pr pn pw tab N ks) (c3:Q (.str x) H):ze8 P w CP CS vs H Q E
inductive zc0(P:Program)(w:World)(tb CP CS:Addr):List V->Hp->VK->XK->Prop where
 |mk {vs:List V} {H:Hp} {Q:VK} {E:XK} (z r dx:Addr) (v:V) (b:Bk) (x:Str) (pt ps so dxs pr pn pw:Addr) (tab:List Rws) (N:Nat) (ks:List Nat) (bg en:Nat) (t:Str) (wl:List V)
  (c1:vs=[.ref r,.int bg,.int en,.str t]) (c2:PgS P w z CP CS H r dx v b x pt ps so dxs pr pn pw tab N ks) (c3:Bag z H) (c4:LamTb tb H) (c5:bg<=en) (c6:en<=x.length) (c7:x.length-(en-bg)+t.length<=2000) (c8:tab.length+2000<1000000) (c9:H pw=some (.lst wl)) (c9':wl.length<=1000)
  (c10:∀p wv x' K M n d pt' ps' ks' tab' H',PutR b x x' bg en t N K M n d->PgS P w z CP CS H' r dx v b x' pt' ps' so dxs pr pn pw tab' (M+(N-n)) ks'->tab'.length<=tab.length+2000->KeepE (λa=>a=pw∨a=r∨a=pr∨a=pn∨a=tb) H H'->Bag z H'->LamTb tb H'->H' pw=some (.lst (wl++[wv]))->(∃pq,wv=.ref pq/\pq≠z/\H' pq=some (.tup [.int bg,.int ((bg:Int)+(t.length:Int)),.str (cutS x (some (bg:Int)) (some (en:Int)))]))->H p=none->H' p=some (.tup [.int (runF b x K).at_,.int (runF b x' M).at_])->H pt'=none->H ps'=none->Q (.ref p) H'):zc0 P w tb CP CS vs H Q E
theorem zlJ:zav ["self"] ["self"] (zag zi8):=⟨J,J,J,by decide +kernel,J,by decide +kernel,by decide +kernel⟩
theorem scChange:zav ["self","begin","end","text"] ["self","begin","end","text"] (zag zgj):=⟨J,J,J,by decide +kernel,J,by decide +kernel,by decide +kernel⟩
theorem zkr{f CP CS:Addr}{fd:FuncData}(F:Fun K "text" "Page.text" zi8 f fd)(B:TxtP K mg CP):FnOk P w K mg base CX0 1 f fd ["self"] (ze8 P w CP CS):=by
 refine F.ok zlJ (λvs H Q E h=>?_) (λcdv A outer s H vs Q E G h=>?_)
 .obtain⟨z,r,dx,v,b,x,pt,ps,so,dxs,pr,pn,pw,tab,N,ks,rfl,_⟩:=h;rfl
 .obtain⟨z,r,dx,v,b,x,pt,ps,so,dxs,pr,pn,pw,tab,N,ks,rfl,D,k⟩:=h;refine⟨_,zai (zax (zaI (pv 0) J)),?_⟩;dsimp only[cxOf,Cx.nox,Cx.wish];exact⟨_,J,r,CP,dx,_,_,J,D.ins,B.cl,B.nX,zbq v x pt ps so pw,k⟩
theorem zjk{f ag tb CP CS:Addr}{fd ah:FuncData}{ai:Value}(F:Fun K "change" "Page.change" zgj f fd)(T:TxtB mg)(J0:TxtP K mg CP)(as:mg "MOST_SIGNS"=some ai)(au:RelV (.int 2000) ai)(av:Meth K CP "put" ag)(aw:Binds K ah ["self","begin","end","text"] [])(ax:FnOk P w K mg base CX0 7 ag ah ["self","begin","end","text"] (spPut P w tb CP CS)):FnOk P w K mg base CX0 8 f fd ["self","begin","end","text"] (zc0 P w tb CP CS):=by
 refine F.ok scChange (λvs H Q E h=>?_) (λcdv A outer s H vs Q E ay h=>?_)
 .obtain⟨z,r,dx,v,b,x,pt,ps,so,dxs,pr,pn,pw,tab,N,ks,B,G,t,wl,rfl,_⟩:=h;rfl
 .obtain⟨z,r,dx,v,b,x,pt,ps,so,dxs,pr,pn,pw,tab,N,ks,B,G,t,wl,rfl,Z,aj,az,aA,aB,aC,aD,ak,a5,k⟩:=h;have a6:=scChange.nd;refine⟨_,zac (zaY (zdD (zig zfV zfV zfV zaf (pv 1) (pv 2) (zao zam (by rfl) T.len b_len (zaa (zaI (pv 0) J) zad)))) zbQ zaA)
   (zac (zaY (zat zg9 (zaB zaN (zaB zcf (zao zam (by rfl) T.len b_len (zaa (zaI (pv 0) J) zad)) (zaB zcf (pv 2) (pv 1))) (zao zam (by rfl) T.len b_len (zaa (pv 3) zad))) (zes J as au) (zaz _)) zbQ zaA)
   (zac (zaU (zbN PySem.F.plainAttrs_list PySem.F.slot_list_append PySem.F.type_list_append zaL (zaI (pv 0) J) (zaa (za9 (zaa (pv 1) (zaa (zaB zaN (pv 1) (zao zam (by rfl) T.len b_len (zaa (pv 3) zad))) (zaa (zaG zbT (zaI (pv 0) J) (zaJ (pv 1)) (zaJ (pv 2))) zad)))) zad)))
   (zai (zax (zaV (pv 0) J0.cl av ax ay aw .nil pass0 (zaa (pv 1) (zaa (pv 2) (zaa (pv 3) zad)))))))),?_⟩
  dsimp only[cxOf,Cx.nox,Cx.wish];have a7:(100000:Nat)<=sizeLine:=by rw[sizeLine_eq];decide
  have a8:=Z.xl;refine zba λa9 _ aE _ _=>zah λal W=>?_;have aa:=Z.ins;have aF:decide ((0:Int)<=(B:Int))=true:=decide_eq_true (by omega);have aG:decide ((B:Int)<=(G:Int))=true:=decide_eq_true (by omega);have aH:decide ((G:Int)<=(x.length:Int))=true:=decide_eq_true (by omega);have aI:decide ((2000:Int)<((x.length:Int)-((G:Int)-(B:Int)))+(t.length:Int))=false:=decide_eq_false (by omega);refine⟨_,J,_,_,J,J,_,J,ite2 (λ_=>?_) (λg=>absurd aF g)⟩;refine⟨_,J,_,_,J,J,_,J,ite2 (λ_=>?_) (λg=>absurd aG g)⟩;refine⟨_,J,r,CP,dx,_,_,J,aa,J0.cl,J0.nX,zbq v x pt ps so pw,x,J,by omega,_,_,J,J,_,J,?_⟩;refine ite2 (λg=>absurd g (by rw[aH];decide)) (λ_=>W _ _ (zah λal W=>?_));refine⟨_,J,r,CP,dx,_,_,J,aa,J0.cl,J0.nX,zbq v x pt ps so pw,x,J,by omega,_,J,_,J,_,_,J,J,_,_,J,J,_,J,t,J,by omega,_,_,J,J,_,_,J,J,_,J,?_⟩;refine ite2 (λg=>absurd g (by rw[aI];decide)) (λ_=>W _ _ (zah λal W=>?_));refine⟨_,J,r,CP,dx,_,_,J,aa,J0.cl,J0.nW,ze5 v x pt ps so pw,.inl ⟨J,_,SqL.of ak⟩,?_⟩;refine⟨_,J,_,J,_,J,t,J,by omega,_,_,J,J,_,J,r,CP,dx,_,_,J,aa,J0.cl,J0.nX,zbq v x pt ps so pw,_,J,_,J,_,J,_,J,x,J,by omega,by show (3:Nat)<=_;omega,λD am=>?_⟩;have Y:=Same.new (o:=.tup [V.int B,V.int ((B:Int)+(t.length:Int)),V.str (cutS x (some (B:Int)) (some (G:Int)))]) am;have I:=Y _ _ ak;have O:=Z.same Y;have aJ:=aj.same Y;have ao:=az.same Y;refine⟨pw,wl,_,J,J,I,by omega,W _ _ ?_⟩;have U:upd H D (.tup [V.int B,(λi j=>V.int (i+j)) (B:Int) (t.length:Int),V.str (cutS x (some (B:Int)) (some (G:Int)))]) D=some (.tup [.int B,.int ((B:Int)+(t.length:Int)),.str (cutS x (some (B:Int)) (some (G:Int)))]):=zab;have aK:=aj.ne am;generalize upd H D (.tup [V.int B,(λi j=>V.int (i+j)) (B:Int) (t.length:Int),V.str (cutS x (some (B:Int)) (some (G:Int)))])=H1 at *;have ab:KeepE (λa=>a=pw) H1 (upd H1 pw (.lst (wl++[.ref D]))):=zaS;have aL:NoTup (λa=>a=pw) H1:=zaH I (by intro xs c;cases c);obtain⟨⟨ba,bb,ap⟩,⟨bc,bd,aM⟩,aN,aO⟩:=Z.nes;obtain⟨be,aP,_,ad⟩:=id O.sd.ex;obtain⟨bf,aq⟩:=ao.tbl;have ar:=O.keep ab aL (zar O.ins I (by intro c;cases c)) aN.symm aO.symm (zar O.sd.ins I (by intro c;cases c)) ap.symm (zar ad I (by intro c;cases c));have aQ:Bag z (upd H1 pw (.lst (wl++[.ref D]))):=by
   obtain⟨c,d',aR⟩:=aJ;exact⟨c,d',ab _ _ aM.symm aR⟩
  have L2:=zd2 (l':=wl++[.ref D]) ao I;have ae:upd H1 pw (.lst (wl++[.ref D])) pw=some (.lst (wl++[.ref D])):=zab;have aS:upd H1 pw (.lst (wl++[.ref D])) D=some (.tup [.int B,.int ((B:Int)+(t.length:Int)),.str (cutS x (some (B:Int)) (some (G:Int)))]):=ab _ _ (zar U I (by intro c;cases c)) U;have k2:KeepE (λa=>a=pw) H (upd H1 pw (.lst (wl++[.ref D]))):=λa o ac e=>ab a o ac (Y a o e);have af:∀ {a:Addr},upd H1 pw (.lst (wl++[.ref D])) a=none->H a=none:=λ{a} n=>by
   cases q:H a with
   |none=>rfl
   |some o=>
    exfalso;by_cases c:a=pw
    .rw[c,ae] at n;cases n
    .rw[k2 a o c q] at n;cases n
  generalize upd H1 pw (.lst (wl++[.ref D]))=H2 at *;refine⟨_,J,r,dx,_,J,ar.ins,za8 (by simp),_,J,_,J,_,J,z,r,dx,v,b,x,pt,ps,so,dxs,pr,pn,pw,tab,N,ks,B,G,t,J,ar,aQ,L2,aA,aB,aC,aD,⟨_,ae⟩,λp x' aT M n d pt' ps' ks' aU aV aW aX aY k3 aZ a1 np a2 a3 a4=>aE _ _ (k p (.ref D) x' aT M n d pt' ps' ks' aU aV aW aX aY (λa o ac e=>k3 a o (λc=>ac (.inr c)) (k2 a o (λc=>ac (.inl c)) e)) aZ a1 ?_ ⟨D,J,aK,?_⟩ (af np) a2 (af a3) (af a4))⟩
  .exact k3 _ _ (λc=>c.elim (zar I O.ins (by intro c;cases c)) λc=>c.elim ap λc=>c.elim (zar I ad (by intro c;cases c)) (zar I aq (by intro c;cases c))) ae
  .exact k3 _ _ (λc=>c.elim (zar U O.ins (by intro c;cases c)) λc=>c.elim (zar U aP (by intro c;cases c)) λc=>c.elim (zar U ad (by intro c;cases c)) (zar U aq (by intro c;cases c))) aS
inductive zc1(P:Program)(w:World)(CP CS:Addr):List V->Hp->VK->XK->Prop where
 |mk {vs:List V} {H:Hp} {Q:VK} {E:XK} (z r dx:Addr) (v:V) (b:Bk) (x:Str) (pt ps so dxs pr pn pw:Addr) (tab:List Rws) (N:Nat) (ks:List Nat) (c1:vs=[.ref r]) (c2:PgS P w z CP CS H r dx v b x pt ps so dxs pr pn pw tab N ks)
  (c3:∀p tv H',Same H H'->H p=none->H' p=some (.lst tv)->Reps z H' tv ((runF b x N).ss.map stD)->Q (.ref p) H'):zc1 P w CP CS vs H Q E
inductive ze9(P:Program)(w:World)(tb CP CS:Addr):List V->Hp->VK->XK->Prop where
 |mk {vs:List V} {H:Hp} {Q:VK} {E:XK} (z r dx:Addr) (v:V) (b:Bk) (t:Str) (c1:vs=[.ref r,v,.str t]) (c2:H r=some (.ins CP dx [])) (c3:Bag z H) (c4:LamTb tb H) (c5:Rep z H v (bkD b)) (c6:BkOk b) (c7:t.length<=2000)
  (c8:∀pt ps so dxs pr pn pw tab N ks H',PgS P w z CP CS H' r dx v b t pt ps so dxs pr pn pw tab N ks->tab.length<=2000->KeepE (λa=>a=r∨a=tb) H H'->Bag z H'->LamTb tb H'->H' pw=some (.lst [])->H pr=none->H pn=none->H pw=none->H pt=none->H ps=none->Q .non H'):ze9 P w tb CP CS vs H Q E
theorem zbY(f:Str)(v:V):∀fs:List (Str×V),(putF f v fs).length<=fs.length+1
 |[]=>Nat.le_refl _
 |(g,x)::r=>by
  show (if g=f then (g,v)::r else (g,x)::putF f v r).length<=_;split
  .show r.length+1<=r.length+1+1;omega
  .have:=zbY f v r;show (putF f v r).length+1<=r.length+1+1;omega
theorem zks(v:V)(x:Str)(pt ps so pw:Addr):putF "ways_back" (.ref pw) (putF "standings" (.ref so) (putF "stands" (.ref ps) (putF "told" (.ref pt) (putF "signs" (.str x) (putF "book" v [])))))=pgF v x pt ps so pw:=by
 have B:putF "signs" (.str x) (putF "book" v [])=[(("book":Str),v),("signs",.str x)]:=zbP (by decide +kernel);rw[B];have D:putF "told" (.ref pt) [(("book":Str),v),("signs",.str x)]=[(("book":Str),v),("signs",.str x),("told",.ref pt)]:=(zbP (by decide +kernel)).trans (congrArg _ (zbP (by decide +kernel)));rw[D];have F:putF "stands" (.ref ps) [(("book":Str),v),("signs",.str x),("told",.ref pt)]=[(("book":Str),v),("signs",.str x),("told",.ref pt),("stands",.ref ps)]:=(zbP (by decide +kernel)).trans (congrArg _ ((zbP (by decide +kernel)).trans (congrArg _ (zbP (by decide +kernel)))));rw[F];have G:putF "standings" (.ref so) [(("book":Str),v),("signs",.str x),("told",.ref pt),("stands",.ref ps)]=[(("book":Str),v),("signs",.str x),("told",.ref pt),("stands",.ref ps),("standings",.ref so)]:=(zbP (by decide +kernel)).trans (congrArg _ ((zbP (by decide +kernel)).trans (congrArg _ ((zbP (by decide +kernel)).trans (congrArg _ (zbP (by decide +kernel)))))));rw[G];exact(zbP (by decide +kernel)).trans (congrArg _ ((zbP (by decide +kernel)).trans (congrArg _ ((zbP (by decide +kernel)).trans (congrArg _ ((zbP (by decide +kernel)).trans (congrArg _ (zbP (by decide +kernel)))))))))
theorem zjl:zav ["self"] ["self"] (zag zgk):=⟨J,J,J,by decide +kernel,J,by decide +kernel,by decide +kernel⟩
theorem scPInit:zav ["self","book","text"] ["self","book","text"] (zag zi7):=⟨J,J,J,by decide +kernel,J,by decide +kernel,by decide +kernel⟩
theorem zhG{f CP CS:Addr}{fd:FuncData}(F:Fun K "steps" "Page.steps" zgk f fd)(I:Txt2 mg)(D:TxtP K mg CP):FnOk P w K mg base CX0 1 f fd ["self"] (zc1 P w CP CS):=by
 refine F.ok zjl (λvs H Q E h=>?_) (λcdv A outer s H vs Q E U h=>?_)
 .obtain⟨z,r,dx,v,b,x,pt,ps,so,dxs,pr,pn,pw,tab,N,ks,rfl,_⟩:=h;rfl
 .obtain⟨z,r,dx,v,b,x,pt,ps,so,dxs,pr,pn,pw,tab,N,ks,rfl,G,k⟩:=h;refine⟨_,zai (zax (zbk zci (by rfl) I.list zgy (zaa (zaI (pv 0) J) zad))),?_⟩;dsimp only[cxOf,Cx.nox,Cx.wish];obtain⟨tv,J0,O⟩:=G.told;exact⟨_,J,r,CP,dx,_,_,J,G.ins,D.cl,D.nT,zcN v x pt ps so pw,pt,tv,J,.inl (SqL.of J0),λl B=>k l tv _ (Same.new B) B zab (O.mono (Same.new B).x)⟩
theorem zkt{f aR aS tb CP CS:Addr}{fd aT aU:FuncData}{aV:Value}(F:Fun K "__init__" "Page.__init__" zi7 f fd)(T:TxtB mg)(D:TxtP K mg CP)(bj:mg "MOST_SIGNS"=some aV)(bk:RelV (.int 2000) aV)(bl:Meth K CP "put" aR)(bm:Binds K aT ["self","begin","end","text"] [])(bn:FnOk P w K mg base CX0 7 aR aT ["self","begin","end","text"] (spPut P w tb CP CS))(M2:L2.Mk K CS aS)(bo:mg "Standings"=some (.ref CS))(bp:Binds K aU ["self"] [])(bq:FnOk P w K mg base CX0 1 aS aU ["self"] (ze2 P w CS)):FnOk P w K mg base CX0 8 f fd ["self","book","text"] (ze9 P w tb CP CS):=by
 refine F.ok scPInit (λvs H Q E h=>?_) (λcdv A outer s H vs Q E ax h=>?_)
 .obtain⟨z,r,dx,v,b,t,rfl,_⟩:=h;rfl
 .obtain⟨z,r,dx,v,b,t,rfl,ah,br,aW,bs,bt,b7,k⟩:=h;have b8:=scPInit.nd;have ai:Room 2 _:=ax.mono (by decide);refine⟨_,zac (zaY (zat zg9 (zao zam (by rfl) T.len b_len (zaa (pv 2) zad)) (zes J bj bk) (zaz _)) zbQ zaA)
   (zac (zch (pv 0) (pv 1) J)
   (zac (zch (pv 0) zay J)
   (zac (zch (pv 0) (zaE zad) J)
   (zac (zch (pv 0) (zaE (zaa zaf zad)) J)
   (zac (zch (pv 0) (zjx M2 bq ai J bo bp .nil pass0) J)
   (zac (zch (pv 0) (zaE zad) J)
   (zai (zaU (zaV (pv 0) D.cl bl bn ax bm .nil pass0 (zaa zaf (zaa zaf (zaa (pv 2) zad)))))))))))),?_⟩
  dsimp only[cxOf,Cx.nox,Cx.wish];have b9:(100000:Nat)<=sizeLine:=by rw[sizeLine_eq];decide
  have bu:decide ((2000:Int)<(t.length:Int))=false:=decide_eq_false (by omega);refine zba λca bv _ _ _=>zah λaa I=>?_;refine⟨_,J,t,J,by omega,_,_,J,J,_,J,ite2 (λg=>absurd g (by rw[bu];decide)) (λ_=>I _ _ (zah λaa I=>?_))⟩;refine⟨_,J,_,J,r,CP,dx,_,J,ah,D.cl,D.nB,by show (0:Nat)<1000;decide,?_⟩;have bw:NoTup (λa=>a=r) H:=zaH ah (by intro xs c;cases c);have aX:upd H r (.ins CP dx (putF "book" v [])) r=some (.ins CP dx (putF "book" v [])):=zab;have k1:KeepE (λa=>a=r) H (upd H r (.ins CP dx (putF "book" v []))):=zaS;refine I _ _ (zah λaa I=>?_);generalize upd H r (.ins CP dx (putF "book" v []))=H1 at aX k1;refine⟨_,J,r,CP,dx,_,J,aX,D.cl,D.nX,by show (1:Nat)<1000;decide,I _ _ (zah λaa I=>?_)⟩;have ai:upd H1 r (.ins CP dx (putF "signs" (.str (Str.ofString "")) (putF "book" v []))) r=some (.ins CP dx (putF "signs" (.str (Str.ofString "")) (putF "book" v []))):=zab;have k2:KeepE (λa=>a=r) H (upd H1 r (.ins CP dx (putF "signs" (.str (Str.ofString "")) (putF "book" v [])))):=λa o B e=>zaS a o B (k1 a o B e);generalize upd H1 r (.ins CP dx (putF "signs" (.str (Str.ofString "")) (putF "book" v [])))=H2 at ai k2;refine⟨Nat.zero_le _,λpt aY=>?_⟩;have ay:=Same.new (o:=.lst []) aY;have aI:upd H2 pt (.lst []) pt=some (.lst []):=zab;generalize upd H2 pt (.lst [])=aj at ay aI;have bx:(putF "signs" (.str (Str.ofString "")) (putF "book" v [])).length<=2:=Nat.le_trans (zbY _ _ _) (Nat.succ_le_succ (zbY _ _ _));refine⟨_,J,r,CP,dx,_,J,ay _ _ ai,D.cl,D.nT,by omega,I _ _ (zah λaa I=>?_)⟩;have bz:=ay _ _ ai;have bA:=Nat.le_trans (zbY "told" (.ref pt) (putF "signs" (.str (Str.ofString "")) (putF "book" v []))) (Nat.succ_le_succ bx);generalize bB:putF "told" (.ref pt) (putF "signs" (.str (Str.ofString "")) (putF "book" v []))=V at *;have aZ:upd aj r (.ins CP dx V) r=some (.ins CP dx V):=zab;have a1:KeepE (λa=>a=r) aj (upd aj r (.ins CP dx V)):=zaS;have aJ:=a1 _ _ (zar aI bz (by intro c;cases c)) aI;have k3:KeepE (λa=>a=r) H (upd aj r (.ins CP dx V)):=λa o B e=>a1 a o B (ay a o (k2 a o B e));generalize upd aj r (.ins CP dx V)=a2 at aZ aJ k3;refine⟨by show (1:Nat)<=_;omega,λps a3=>?_⟩;have ak:=Same.new (o:=.lst [.int 0]) a3;have aK:upd a2 ps (.lst [.int 0]) ps=some (.lst [.int 0]):=zab;have az:=ak _ _ aZ;refine⟨_,J,r,CP,dx,_,J,az,D.cl,D.nS,by omega,I _ _ (zah λaa I=>?_)⟩;generalize upd a2 ps (.lst [.int 0])=al at ak aK az;have bC:=Nat.le_trans (zbY "stands" (.ref ps) V) (Nat.succ_le_succ bA);generalize bD:putF "stands" (.ref ps) V=W at *;have am:upd al r (.ins CP dx W) r=some (.ins CP dx W):=zab;have aL:KeepE (λa=>a=r) al (upd al r (.ins CP dx W)):=zaS;have aA:=aL _ _ (zar aK az (by intro c;cases c)) aK;have aB:=aL _ _ (zar (ak _ _ aJ) az (by intro c;cases c)) (ak _ _ aJ);have ab:KeepE (λa=>a=r) H (upd al r (.ins CP dx W)):=λa o B e=>aL a o B (ak a o (k3 a o B e));generalize upd al r (.ins CP dx W)=ac at am aA aB ab;intro so dxs aM bE bF;have bG:Same ac (upd ac dxs (.own so)):=Same.new bE;have bH:upd ac dxs (.own so) so=none:=by rw[zak bF.symm];exact aM
  have aN:=bG.trans (Same.new (o:=.ins CS dxs []) bH);refine⟨so,dxs,J,zab,λpr pn ad bI bJ cb bK bL a4 a5=>⟨J,?_⟩⟩;have k5:∀a o,ac a=some o->ad a=some o:=λa o e=>bK a o (zae e aM) (aN a o e);have ao:ac pr=none:=aN.free bI;have a6:ac pn=none:=aN.free bJ;have ap:=k5 _ _ am;refine⟨_,J,r,CP,dx,_,J,ap,D.cl,D.nG,by omega,I _ _ (zah λaa I=>?_)⟩;have cc:=Nat.le_trans (zbY "standings" (.ref so) W) (Nat.succ_le_succ bC);generalize bM:putF "standings" (.ref so) W=ae at *;have a7:r≠so:=zae am aM;have af:KeepE (λa=>a=r) ad (upd ad r (.ins CP dx ae)):=zaS;have aO:upd ad r (.ins CP dx ae) r=some (.ins CP dx ae):=zab;have aC:=af _ _ (zar (k5 _ _ aA) ap (by intro c;cases c)) (k5 _ _ aA);have aD:=af _ _ (zar (k5 _ _ aB) ap (by intro c;cases c)) (k5 _ _ aB);have a8:=af _ _ a7.symm bL;have aq:=af _ _ (zar a4 ap (by intro c;cases c)) a4;have aE:=af _ _ (zar a5 ap (by intro c;cases c)) a5;have ar:KeepE (λa=>a=r) H (upd ad r (.ins CP dx ae)):=λa o B e=>af a o B (k5 a o (ab a o B e));generalize upd ad r (.ins CP dx ae)=a9 at aO aC aD a8 aq aE ar;refine⟨Nat.zero_le _,λpw O=>?_⟩;have J0:=Same.new (o:=.lst []) O;have aF:upd a9 pw (.lst []) pw=some (.lst []):=zab;have U:=J0 _ _ aO;refine⟨_,J,r,CP,dx,_,J,U,D.cl,D.nW,by omega,I _ _ ?_⟩;generalize upd a9 pw (.lst [])=as at J0 aF U;have bN:putF "ways_back" (.ref pw) ae=pgF v (Str.ofString "") pt ps so pw:=by rw[←bM,←bD,←bB,zks]
  rw[bN];have Y:KeepE (λa=>a=r) as (upd as r (.ins CP dx (pgF v (Str.ofString "") pt ps so pw))):=zaS;have au:upd as r (.ins CP dx (pgF v (Str.ofString "") pt ps so pw)) r=some (.ins CP dx (pgF v (Str.ofString "") pt ps so pw)):=zab;have ba:=Y _ _ (zar (J0 _ _ aC) U (by intro c;cases c)) (J0 _ _ aC);have bb:=Y _ _ (zar (J0 _ _ aD) U (by intro c;cases c)) (J0 _ _ aD);have bc:=Y _ _ a7.symm (J0 _ _ a8);have bd:=Y _ _ (zar (J0 _ _ aq) U (by intro c;cases c)) (J0 _ _ aq);have be:=Y _ _ (zar (J0 _ _ aE) U (by intro c;cases c)) (J0 _ _ aE);have aP:=Y _ _ (zar aF U (by intro c;cases c)) aF;have Z:KeepE (λa=>a=r) H (upd as r (.ins CP dx (pgF v (Str.ofString "") pt ps so pw))):=λa o B e=>Y a o B (J0 a o (ar a o B e));generalize upd as r (.ins CP dx (pgF v (Str.ofString "") pt ps so pw))=aQ at au ba bb bc bd be aP Z;obtain⟨c,d,ag⟩:=br;obtain⟨ce,bf⟩:=aW.tbl;have av:z≠r:=zar ag ah (by intro c;cases c);have bO:=ab _ _ av ag;have bP:=ar _ _ av ag;have bQ:Bag z aQ:=⟨c,d,Z _ _ av ag⟩;have bg:tb≠r:=zar bf ah (by intro c;cases c);have bR:LamTb tb aQ:=zcC aW Z bg (λa B c q e=>by rw[show a=r from B,ah] at e;cases e);have bS:(Str.ofString "").length=0:=by rw[zaR];rfl
  have bT:=k2 _ _ av ag;have bU:=k3 _ _ av ag;have bV:PgS P w z CP CS aQ r dx v b (Str.ofString "") pt ps so dxs pr pn pw [] 0 [0]:=by
   refine⟨au,Rep.keep Z bw bs (.tup (zbC _)),bt,⟨by rw[bS];rfl,λj bh=>absurd bh (Nat.not_lt_zero _)⟩,⟨[],bb,.nil⟩,ba,J,λj bh=>?_,⟨bc,⟨[],bd,.nil,be⟩,(zae bO ao).symm,λj cf h=>by simp at h,List.nodup_nil⟩,by omega,⟨⟨zae aB ao,zae aA ao,(zae aq O).symm⟩,⟨(zae bT aY).symm,(zae bU a3).symm,(zae bP O).symm⟩,(zae aD O).symm,(zae aC O).symm⟩⟩;have bW:j=0:=by omega
   subst bW;exact⟨0,J,.zero⟩
  refine⟨_,J,r,dx,_,J,au,za8 (by simp),_,J,z,r,dx,v,b,Str.ofString "",pt,ps,so,dxs,pr,pn,pw,[],0,[0],0,0,t,J,bV,bQ,bR,Nat.le_refl _,Nat.zero_le _,by omega,by show 0+2000<1000000;decide,⟨_,aP⟩,λp x' cg M n d' pt' ps' ks' bX bY bZ b0 b1 bi b2 b3 np ch b4 b5=>bv _ _ ?_⟩;have ex:x'=t:=zca (by rw[bZ.tx,List.take_zero,List.nil_append,List.drop_zero,zaR];exact List.append_nil _);subst ex;have aw:∀ {G:Hp} {o':HO} {a:Addr},KeepE (λa=>a=r) H G->G r=some o'->G a=none->H a=none:=λ{G o' a} b6 ax aG=>by
   cases q:H a with
   |none=>rfl
   |some o=>
    exfalso;by_cases c:a=r
    .rw[c,ax] at aG;cases aG
    .rw[b6 a o c q] at aG;cases aG
  refine k pt' ps' so dxs pr pn pw bX _ ks' bY b0 (by simpa using b1) (λa o B e=>?_) b2 b3 ?_ (aw ab am ao) (aw ab am a6) (aw ar aO O) (aw Z au b4) (aw Z au b5)
  .have aH:=ab a o (λc=>B (.inl c)) e;refine bi a o (λc=>?_) (Z a o (λc=>B (.inl c)) e);rcases c with c|c|c|c
   .exact B (.inl c)
   .rw[c,ao] at aH;cases aH
   .rw[c,a6] at aH;cases aH
   .exact B (.inr c)
  .refine bi _ _ (λc=>?_) aP;rcases c with c|c|c|c
   .exact zar aF U (by intro c;cases c) c
   .exact(zae aq O).symm c
   .exact(zae aE O).symm c
   .exact(zae (ar _ _ bg bf) O).symm c
theorem zgo{z tb:Addr}{H H':Hp}(L:LamTb tb H)(B:Bag z H)(A:Aft z H H'):LamTb tb H':=by
 obtain⟨c,d,D⟩:=B;exact L.sameX D A.1
theorem RunN.uniq{b:Bk}{x:Str}{N M:Nat}(h:RunN b x N)(g:RunN b x M):N=M:=by
 rcases Nat.lt_trichotomy N M with c|c|c
 .have h1:=g.lt N c;have h2:=h.at_;omega
 .exact c
 .have h1:=h.lt M c;have h2:=g.at_;omega
theorem RunN.inj_at{b:Bk}{x:Str}{N i j:Nat}(h:RunN b x N)(B:BkOk b)(hi:i<=N)(D:j<=N)(e:(runF b x i).at_<(runF b x j).at_):i<j:=by
 rcases Nat.lt_trichotomy i j with c|c|c
 .exact c
 .subst c;omega
 .have:=h.mono B c hi;omega
theorem zku{b:Bk}{x I B y t:Str}{F J0 N O N' K D M n l:Nat}{d U:Int}(V:BkOk b)(aq:F<=J0)(ar:J0<=x.length)(R:PutR b x I F J0 t N K M n d)(W:RunN b I (M+(N-n)))(A:AnewR b x B F J0 t O N' D l U)(run:RunN b x N)(Y:y.cps.toList=x.cps.toList.take F)(S:SureN b y D) :
  B=I/\(runF b x K).at_=(runF b y D).at_/\(runF b I M).at_=l:=by
 obtain⟨ab,as,ac,_⟩:=id V;have ex:B=I:=zca (by rw[R.tx,A.tx]);subst ex;have ad:O=N:=A.run.uniq run;subst ad;have ae:=A.run'.uniq W;subst ae;have af:D=K:=S.uniq (R.sure y Y);subst af;have ag:U=d:=by rw[A.dd,R.dd]
 subst ag;refine⟨J,?_,?_⟩
 .exact(zbK (b:=b) (y:=y) (y':=x) (more:=x.cps.toList.drop F) (by rw[Y,List.take_append_drop]) S.all D (Nat.le_refl _)).1
 .have ah:=R.am;have au:=R.enn;have av:=R.dd;have ai:=R.nN;have aw:=(za4 (x:=B) ac ab M).le;have ax:(B.length:Int)=x.length+U:=by
   have h1:=congrArg List.length R.tx;rw[List.length_append,List.length_append,List.length_take,List.length_drop,zal,zal,zal] at h1;have h2:=R.dd;have Z:=R.at_;have aa:min F x.length=F:=by omega
   rw[aa] at h1;omega
  have aj:(runF b B M).at_=B.length∨AtL b x B O (M+(O-n)) U ((runF b B M).at_:Int):=by
   rcases R.hor with h|h
   .left
    have:=run.at_;rw[h] at ah;omega
   .exact .inr ⟨n,M,ai,by omega,J,by omega,h⟩
  have h1:¬(runF b B M).at_<l:=λc=>by
   rcases aj with h|h
   .have:=A.le;omega
   .exact A.no _ (by omega) c h
  have h2:¬l<(runF b B M).at_:=λc=>by
   rcases A.at_ with h|⟨ak,G,al,am,ay,az,ao⟩
   .omega
   .have aA:(runF b B G).at_=l:=by omega
    have Z:G<M:=W.inj_at V am (by omega) (by omega);have ap:D<=G:=by
     by_cases q:D<=G
     .exact q
     .exfalso;have aB:=W.mono V (i:=G) (j:=D) (by omega) (by have:=R.kM;omega);have aa:=R.ak;have aC:=R.at_;have aD:=A.ge;omega
    exact R.no G ap Z ⟨ak,al,by have:=A.ge;omega,by omega,ao⟩
  omega
theorem zmN{v:V}{x:Str}{pt ps so pw:Addr}:(pgF v x pt ps so pw).lookup ("standing_at":Str)=none:=by
 unfold pgF;rw[zaM (by decide +kernel),zaM (by decide +kernel),zaM (by decide +kernel),zaM (by decide +kernel),zaM (by decide +kernel),zaM (by decide +kernel)];rfl
theorem zjm{v:V}{x:Str}{pt ps so pw:Addr}:(pgF v x pt ps so pw).lookup ("take_back":Str)=none:=by
 unfold pgF;rw[zaM (by decide +kernel),zaM (by decide +kernel),zaM (by decide +kernel),zaM (by decide +kernel),zaM (by decide +kernel),zaM (by decide +kernel)];rfl
noncomputable abbrev zfa:Stmt:=za7 sPage 5
structure LastAt(b:Bk)(x:Str)(N i n:Nat):Prop where
 le:n<=N
 at_:(runF b x n).at_<=i
 no:∀j,n<j->j<=N->i<(runF b x j).at_
theorem LastAt.uniq{b:Bk}{x:Str}{N i n m:Nat}(h:LastAt b x N i n)(g:LastAt b x N i m):n=m:=by
 rcases Nat.lt_trichotomy n m with q|q|q
 .have:=h.no m q g.le;have:=g.at_;omega
 .exact q
 .have:=g.no n q h.le;have:=h.at_;omega
noncomputable def keyN:Key->Int
 |.inl k=>k
 |.inr _=>0
inductive spAt(P:Program)(w:World)(CP CS:Addr):List V->Hp->VK->XK->Prop where
 |mk {vs:List V} {H:Hp} {Q:VK} {E:XK} (z r dx:Addr) (v:V) (b:Bk) (x:Str) (pt ps so dxs pr pn pw:Addr) (tab:List Rws) (N:Nat) (ks:List Nat) (i:Nat) (c1:vs=[.ref r,.int (i:Int)]) (c2:PgS P w z CP CS H r dx v b x pt ps so dxs pr pn pw tab N ks) (c3:Bag z H) (c4:i<=x.length)
  (q:∀p n H',Same H H'->H p=none->LastAt b x N i n->Rep z H' (.ref p) (.tup ((runF b x n).ds.map pdD))->Q (.ref p) H'):spAt P w CP CS vs H Q E
inductive spLAt(P:Program)(w:World):List V->Hp->VK->XK->Prop where
 |mk {vs:List V} {H:Hp} {Q:VK} {E:XK} (z d:Addr) (ep:Nat) (kvs:List (Key×V)) (b:Bk) (x:Str) (N i:Nat) (c1:vs=[.ref d,.int (i:Int)]) (c2:H d=some (dE P w d ep kvs)) (c3:RunN b x N) (c4:BkOk b) (c5:StdK z H b x (N+1) kvs) (c6:kvs.length<=20001)
  (q:∀p n H',Same H H'->LastAt b x N i n->Rep z H' (.ref p) (.tup ((runF b x n).ds.map pdD))->Q (.ref p) H'):spLAt P w vs H Q E
theorem scAt9:zav ["self","place"] ["self","place"] (zag zfa):=⟨J,J,J,by decide +kernel,J,by decide +kernel,by decide +kernel⟩
theorem zmO{f G O CP CS:Addr}{fd U V:FuncData}(F:Fun K "standing_at" "Page.standing_at" zfa f fd)(T:TxtB mg)(D:TxtP K mg CP)(ad:TxtS K mg CS)(ae:Meth K CP "count_ended" G)(af:Binds K U ["self","place"] [])(ag:FnOk P w K mg base CX0 2 G U ["self","place"] (zd1 P w CP CS))(ah:Meth K CS "doors_by" O)(ai:Binds K V ["self","number"] [])(aj:FnOk P w K mg base CX0 1 O V ["self","number"] (zbX P w CS)):FnOk P w K mg base CX0 3 f fd ["self","place"] (spAt P w CP CS):=by
 refine F.ok scAt9 (λvs H Q E h=>?_) (λcdv A outer s H vs Q E W h=>?_)
 .obtain⟨z,r,dx,v,b,x,pt,ps,so,dxs,pr,pn,pw,tab,N,ks,i,rfl,_⟩:=h;rfl
 .obtain⟨z,r,dx,v,b,x,pt,ps,so,dxs,pr,pn,pw,tab,N,ks,i,rfl,B,Y,hi,q⟩:=h;have ax:=scAt9.nd;have ak:Room 1 _:=W.mono (by decide);refine⟨_,zac (zaY (zdD (zju zfV zfV zaf (pv 1) (zao zam (by rfl) T.len b_len (zaa (zaI (pv 0) J) zad)))) zbQ zaA)
   (zai (zax (zbk zbD (by rfl) T.tuple zex (zaa (zaV (zaI (pv 0) J) ad.cl ah aj ak ai .nil pass0 (zaa (zau ix_list (zaI (pv 0) J) (zaV (pv 0) D.cl ae ag W af .nil pass0 (zaa (pv 1) zad)) (λ_ _=>rfl)) zad)) zad)))),?_⟩
  dsimp only[cxOf,Cx.nox,Cx.wish];have ay:(100000:Nat)<=sizeLine:=by rw[sizeLine_eq];decide
  have az:=B.xl;obtain⟨al,aA,am,_⟩:=id B.ok;refine zba λaB _ ao _ _=>zah λaC ap=>?_;refine⟨_,J,_,_,J,J,_,J,?_⟩;rw[decide_eq_true (show (0:Int)<=(i:Int) by omega)];refine iteT ⟨_,J,r,CP,dx,_,_,J,B.ins,D.cl,D.nX,zbq v x pt ps so pw,x,J,by omega,_,_,J,J,_,J,?_⟩;rw[decide_eq_true (show (i:Int)<=(x.length:Int) by omega)];refine iteF (ap _ _ ?_);refine⟨_,J,r,CP,dx,_,_,J,B.ins,D.cl,D.nG,zbB v x pt ps so pw,so,dxs,_,J,B.sd.ins,zd0 (by simp),?_⟩;refine⟨_,J,r,CP,dx,_,_,J,B.ins,D.cl,D.nS,zcq v x pt ps so pw,_,J,r,dx,_,J,B.ins,za8 (by simp),_,J,z,r,dx,v,b,x,pt,ps,so,dxs,pr,pn,pw,tab,N,ks,(i:Int),J,B,λn Z h1 h2=>?_⟩;obtain⟨aq,ar,as⟩:=B.st n Z;have aa:=za4 (x:=x) am al n;have aD:=aa.dl;have aE:=aa.le;refine⟨ps,_,n,_,J,J,SqL.of B.stands,zaj (by rw[List.getElem?_map,ar];rfl),z,so,dxs,pr,pn,tab,aq,(runF b x n).ds.map (·.2),J,Y,B.sd,as,by rw[List.length_map];omega,λp ab H1 I np au av=>?_⟩;refine⟨p,ab,J,.inl ⟨SqL.of au,λl J0=>ao _ _ ?_⟩⟩;have ac:=Same.new (o:=.tup ab) J0;refine q l n _ (I.trans ac) (I.free J0) ⟨Z,?_,λj G aw=>?_⟩ (.tup zab ((Y.same I).ne J0) ?_)
  .rcases h1 with h|h
   .rw[h];exact Nat.zero_le _
   .omega
  .have:=h2 j G aw;omega
  .have e:((runF b x n).ds.map (·.2)).map pdP=(runF b x n).ds.map pdD:=by rw[List.map_map];rfl
   rw[←e];exact av.mono ac.x
theorem scLAt9:zav ["stands","place"] ["stands","place"] (zag zb7):=⟨J,J,J,by decide +kernel,J,by decide +kernel,by decide +kernel⟩
theorem ndBP9:(["begin","place"]:List Str).Nodup:=by decide +kernel
theorem zmy{f:Addr}{fd:FuncData}(F:Fun K "_law_standing_at" "_law_standing_at" zb7 f fd)(G:mg "max"=none):FnOk P w K mg base CX0 1 f fd ["stands","place"] (spLAt P w):=by
 refine F.ok scLAt9 (λvs H Q E h=>?_) (λcdv A outer s H vs Q E ax h=>?_)
 .obtain⟨z,d,ep,kvs,b,x,N,i,rfl,_⟩:=h;rfl
 .obtain⟨z,d,ep,kvs,b,x,N,i,rfl,I,ai,aj,O,ay,q⟩:=h;have az:=scLAt9.nd;refine⟨_,zai (zax (zmf (pv 0) (zao (zeD J) (by rfl) G zmB (zaa (zaZ (N':=["begin","place"]) (js:=[none,some 1]) J J (zbc (zag zb7) (by decide +kernel)) ⟨J,Or.inr (Or.inl J),J,trivial⟩ (zjP (pv 0)) (λcl s H fp=>zaq (i:=0) ndBP9 J (Or.inl J))
    (λcl s H fp=>zcj (zat zfV (pv 0) (pv 1) (zaz _))) (λcl s H fp=>pv 0)) zad)) (λ_ _=>rfl))),?_⟩
  dsimp only[cxOf,Cx.nox,Cx.wish];have aA:(100000:Nat)<=sizeLine:=by rw[sizeLine_eq];decide
  refine⟨_,J,_,J,d,ep,kvs,J,I,λZ aa=>?_⟩;have ab:d≠Z:=zae I aa;have ac:∀j,j<kvs.length->∃n:Nat,n<N+1/\(kvs.getD j (.inl 0,.non)).1=.inl ((runF b x n).at_:Int):=λj B=>by
   have e:(kvs.getD j (.inl 0,.non))=kvs[j]:=by simp[B]
   rw[e];have ak:(valV kvs (kvs[j]).1).isSome=true:=by
    rw[←zb4,List.any_eq_true];exact⟨kvs[j],List.getElem_mem B,decide_eq_true J⟩
   obtain⟨u,U⟩:=Option.isSome_iff_exists.mp ak;exact O.all _ u U
  refine zbf (λj=>if keyN (kvs.getD j (.inl 0,.non)).1<=(i:Int) then some (.int (keyN (kvs.getD j (.inl 0,.non)).1)) else none) (λσ=>∃u,σ=[u,some (.int (i:Int))]) ⟨none,J⟩ aa (by omega) (zim (by rw[zak ab];exact I) ab) (λj σ H1 C B ⟨u,U⟩ J0 al=>?_) (λσ H1 J0 ad=>?_)
  .subst U;obtain⟨n,W,e⟩:=ac j B;have am:(kvs.map λae=>kV ae.1).getD j .non=kV (kvs.getD j (.inl 0,.non)).1:=by simp[B]
   rw[am];have D:=al [some (kV (kvs.getD j (.inl 0,.non)).1),some (.int (i:Int))] H1 ⟨_,J⟩ (Same.refl _);rw[e] at D ⊢;dsimp only[gName];refine⟨_,J,_,J,_,_,J,J,_,J,?_⟩;have D:C (if ((runF b x n).at_:Int)<=(i:Int) then some (.int ((runF b x n).at_:Int)) else none) _ _:=D;refine ite2 (λg=>?_) (λg=>?_)
   .rw[if_pos (of_decide_eq_true g)] at D;exact⟨_,J,D⟩
   .rw[if_neg (λq=>g (decide_eq_true q))] at D;exact D
  .have ao:∀m,flatN (λj=>(if keyN (kvs.getD j (.inl 0,.non)).1<=(i:Int) then some (V.int (keyN (kvs.getD j (.inl 0,.non)).1)) else none).toList) m=(((List.range m).filter λj=>decide (keyN (kvs.getD j (.inl 0,.non)).1<=(i:Int))).map λj=>keyN (kvs.getD j (.inl 0,.non)).1).map V.int:=λm=>by
    induction m with
    |zero=>rfl
    |succ m ap=>
     show flatN _ m++_=_;rw[ap,List.range_succ,List.filter_append,List.map_append,List.map_append];congr 1;dsimp only;by_cases g:keyN (kvs.getD m (.inl 0,.non)).1<=(i:Int)
     .rw[if_pos g,List.filter_cons_of_pos (by simpa using g)];rfl
     .rw[if_neg g,List.filter_cons_of_neg (by simpa using g)];rfl
   rw[ao] at ad;have af:∀n,n<=N->(runF b x n).at_<=i->((runF b x n).at_:Int)∈((List.range kvs.length).filter λj=>decide (keyN (kvs.getD j (.inl 0,.non)).1<=(i:Int))).map λj=>keyN (kvs.getD j (.inl 0,.non)).1:=λn W aB=>by
    obtain⟨p,Y,_⟩:=O.has n (by omega);have aq:=zlc Y;obtain⟨ae,ar,e⟩:=List.mem_map.mp aq;obtain⟨j,B,rfl⟩:=List.mem_iff_getElem.mp ar;have ag:kvs.getD j (.inl 0,.non)=kvs[j]:=by simp[B]
    refine List.mem_map.mpr ⟨j,List.mem_filter.mpr ⟨List.mem_range.mpr B,?_⟩,?_⟩
    .rw[ag,e];exact decide_eq_true (show ((runF b x n).at_:Int)<=(i:Int) by omega)
    .rw[ag,e];rfl
   refine⟨Z,_,J,SqL.of ad,?_,λM as G=>?_⟩
   .exact List.length_pos_of_mem (af 0 (Nat.zero_le _) (Nat.zero_le _))
   .obtain⟨j,B,rfl⟩:=List.mem_map.mp as;obtain⟨au,ah⟩:=List.mem_filter.mp B;obtain⟨n,W,e⟩:=ac j (List.mem_range.mp au);rw[e] at ah G ⊢;have av:(runF b x n).at_<=i:=by
     have:=of_decide_eq_true ah;have:((runF b x n).at_:Int)<=(i:Int):=this;omega
    obtain⟨p,Y,aw⟩:=O.has n W;refine⟨d,.inl ((runF b x n).at_:Int),ep,kvs,.ref p,J,J,J0 _ _ I,Y,?_⟩;refine q p n H1 J0 ⟨by omega,av,λm h1 h2=>?_⟩ (aw.mono J0.x);by_cases g:(runF b x m).at_<=i
    .have aC:((runF b x m).at_:Int)<=((runF b x n).at_:Int):=G _ (af m h2 g);have aD:=ai.mono aj (i:=n) (j:=m) h1 h2;omega
    .omega
noncomputable abbrev zc2:Stmt:=za7 sPage 2
inductive zg5(P:Program)(w:World)(tb CP CS:Addr):List V->Hp->VK->XK->Prop where
 |mk {vs:List V} {H:Hp} {Q:VK} {E:XK} (z r dx:Addr) (v:V) (b:Bk) (x:Str) (pt ps so dxs pr pn pw pq:Addr) (tab:List Rws) (N:Nat) (ks:List Nat) (bg en:Nat) (t:Str) (wl:List V)
  (c1:vs=[.ref r]) (c2:PgS P w z CP CS H r dx v b x pt ps so dxs pr pn pw tab N ks) (c3:Bag z H) (c4:LamTb tb H) (c5:bg<=en) (c6:en<=x.length) (c7:x.length-(en-bg)+t.length<=2000) (c8:tab.length+2000<1000000) (c9:H pw=some (.lst (wl++[.ref pq]))) (c9':H pq=some (.tup [.int bg,.int en,.str t]))
  (c10:∀x' K M n d pt' ps' ks' tab' H',PutR b x x' bg en t N K M n d->PgS P w z CP CS H' r dx v b x' pt' ps' so dxs pr pn pw tab' (M+(N-n)) ks'->tab'.length<=tab.length+2000->KeepE (λa=>a=pw∨a=r∨a=pr∨a=pn∨a=tb) H H'->Bag z H'->LamTb tb H'->H' pw=some (.lst wl)->H pt'=none->H ps'=none->Q .non H'):zg5 P w tb CP CS vs H Q E
theorem scBack:zav ["self","begin","end","text"] ["self"] (zag zc2):=⟨J,J,J,by decide +kernel,J,by decide +kernel,by decide +kernel⟩
theorem zlK{f Z tb CP CS:Addr}{fd aa:FuncData}(F:Fun K "take_back" "Page.take_back" zc2 f fd)(I:TxtP K mg CP)(ak:Meth K CP "put" Z)(al:Binds K aa ["self","begin","end","text"] [])(am:FnOk P w K mg base CX0 7 Z aa ["self","begin","end","text"] (spPut P w tb CP CS)):FnOk P w K mg base CX0 8 f fd ["self"] (zg5 P w tb CP CS):=by
 refine F.ok scBack (λvs H Q E h=>?_) (λcdv A outer s H vs Q E ao h=>?_)
 .obtain⟨z,r,dx,v,b,x,pt,ps,so,dxs,pr,pn,pw,G,tab,N,ks,ab,ac,t,wl,rfl,_⟩:=h;rfl
 .obtain⟨z,r,dx,v,b,x,pt,ps,so,dxs,pr,pn,pw,G,tab,N,ks,ab,ac,t,wl,rfl,D,ap,ad,aq,ar,as,au,B,ae,k⟩:=h;have U:=scBack.nd;refine⟨_,zac (zaY (zdD (zcP (zaI (pv 0) J) (λ_=>rfl))) zbQ zaA)
   (zac (zbz (zfo PySem.F.plainAttrs_list PySem.F.slot_list_pop PySem.F.type_list_pop zgw (zaI (pv 0) J)) (zbF J (zaw (zaq (i:=1) U J (Or.inl J)) (zaw (zaq (i:=2) U J (Or.inl J)) (zaw (zaq (i:=3) U J (Or.inl J)) za6)))))
   (zai (zaU (zaV (pv 0) I.cl ak am ao al .nil pass0 (zaa (pv 1) (zaa (pv 2) (zaa (pv 3) zad))))))),?_⟩
  dsimp only[cxOf,Cx.nox,Cx.wish];have aQ:(100000:Nat)<=sizeLine:=by rw[sizeLine_eq];decide
  have aR:=D.xl;have af:=D.ins;refine zba λaS av _ _ _=>zah λaw W=>?_;have ax:(!(wl++[V.ref G]).isEmpty)=true:=by cases wl<;>rfl
  refine⟨_,J,r,CP,dx,_,_,J,af,I.cl,I.nW,ze5 v x pt ps so pw,_,.inl ⟨_,SqL.of B,J⟩,?_⟩;rw[ax];refine iteF (W _ _ (zah λaw W=>?_));have J0:KeepE (λa=>a=pw) H (upd H pw (.lst wl)):=zaS;have ay:NoTup (λa=>a=pw) H:=zaH B (by intro xs c;cases c);obtain⟨⟨aT,aU,ag⟩,⟨aV,aW,az⟩,aA,aB⟩:=D.nes;obtain⟨aX,aY,_,ah⟩:=id D.sd.ex;obtain⟨aZ,aC⟩:=ad.tbl;have Y:=D.keep J0 ay (zar D.ins B (by intro c;cases c)) aA.symm aB.symm (zar D.sd.ins B (by intro c;cases c)) ag.symm (zar ah B (by intro c;cases c));have aD:Bag z (upd H pw (.lst wl)):=by
   obtain⟨c,d',aE⟩:=ap;exact⟨c,d',J0 _ _ az.symm aE⟩
  have L2:=zd2 (l':=wl) ad B;have O:upd H pw (.lst wl) pw=some (.lst wl):=zab;have aF:=J0 _ _ (zar ae B (by intro c;cases c)) ae;have ai:∀ {a:Addr},upd H pw (.lst wl) a=none->H a=none:=λ{a} n=>by
   by_cases c:a=pw
   .rw[c,O] at n;cases n
   .rw[zak c] at n;exact n
  refine⟨_,J,r,CP,dx,_,_,J,af,I.cl,I.nW,ze5 v x pt ps so pw,.inl ⟨J,_,SqL.of B⟩,pw,wl++[.ref G],.ref G,J,J,B,by simp,?_⟩;rw[show (wl++[V.ref G]).dropLast=wl by simp];generalize upd H pw (.lst wl)=H2 at *;refine⟨G,_,J,SqT.of aF,J,_,_,J,_,_,J,_,_,J,J,W _ _ ?_⟩;refine⟨_,J,r,dx,_,J,Y.ins,za8 (by simp),_,J,_,J,_,J,z,r,dx,v,b,x,pt,ps,so,dxs,pr,pn,pw,tab,N,ks,ab,ac,t,J,Y,aD,L2,aq,ar,as,au,⟨_,O⟩,λp x' aG M n d pt' ps' ks' aH aI aJ aK aL k3 aM aN np a1 aO aP=>av _ _ (k x' aG M n d pt' ps' ks' aH aI aJ aK aL (λa o aj e=>k3 a o (λc=>aj (.inr c)) (J0 a o (λc=>aj (.inl c)) e)) aM aN ?_ (ai aO) (ai aP))⟩;exact k3 _ _ (λc=>c.elim (zar O Y.ins (by intro c;cases c)) λc=>c.elim ag λc=>c.elim (zar B ah (by intro c;cases c)) (zar B aC (by intro c;cases c))) O
inductive Backs(H:Hp):List V->List Str->Str->Prop where
 |nil (x:Str):Backs H [] [] x
 |snoc {wl:List V} {xs:List Str} {y x t:Str} {pq:Addr} {bg en:Nat} (h:Backs H wl xs y) (e:H pq=some (.tup [.int bg,.int en,.str t])) (h1:bg<=en) (h2:en<=x.length) (h3:x.length-(en-bg)+t.length<=2000) (h4:y.cps.toList=x.cps.toList.take bg++t.cps.toList++x.cps.toList.drop en):Backs H (wl++[.ref pq]) (xs++[y]) x
theorem Backs.keep{H H':Hp}{S:Addr->Prop}(k:KeepE S H H')(n:NoTup S H){wl:List V}{xs:List Str}{x:Str}(h:Backs H wl xs x):Backs H' wl xs x:=by
 induction h with
 |nil x=>exact .nil x
 |snoc h e h1 h2 B D F=>exact .snoc F (k _ _ (λc=>n _ _ c e) e) h1 h2 B D
theorem Backs.len{H:Hp}{wl:List V}{xs:List Str}{x:Str}(h:Backs H wl xs x):wl.length=xs.length:=by
 induction h with
 |nil=>rfl
 |snoc _ _ _ _ _ _ B=>rw[List.length_append,List.length_append,B];rfl
theorem Backs.last{H:Hp}{wl:List V}{xs:List Str}{x:Str}(h:Backs H wl xs x)(J0:xs≠[]):∃F G y t I,∃D B:Nat,wl=F++[.ref I]/\xs=G++[y]/\Backs H F G y/\H I=some (.tup [.int D,.int B,.str t])/\D<=B/\B<=x.length/\x.length-(B-D)+t.length<=2000/\y.cps.toList=x.cps.toList.take D++t.cps.toList++x.cps.toList.drop B:=by
 cases h with
 |nil=>exact absurd rfl J0
 |snoc h e h1 h2 O U=>exact⟨_,_,_,_,_,_,_,J,J,h,e,h1,h2,O,U⟩
theorem zlL{x x' t o:Str}{B D:Nat}(Y:B<=D)(Z:D<=x.length)(F:x'.cps.toList=x.cps.toList.take B++t.cps.toList++x.cps.toList.drop D)(J0:o=cutS x (some (B:Int)) (some (D:Int))) :
  B+t.length<=x'.length/\x'.length-(B+t.length-B)+o.length=x.length/\x.cps.toList=x'.cps.toList.take B++o.cps.toList++x'.cps.toList.drop (B+t.length):=by
 have G:=congrArg List.length F;rw[List.length_append,List.length_append,List.length_take,List.length_drop,zal,zal,zal] at G;have O:cutS x (some (B:Int)) (some (D:Int))=cutS x (some (B:Int)) (some ((B:Int)+((D-B:Nat):Int))):=by congr 2;omega
 have I:o.cps.toList=(x.cps.toList.drop B).take (D-B):=by rw[J0,O,zcB]
 have aa:o.length=D-B:=by rw[←zal,I,List.length_take,List.length_drop,zal];omega
 have U:min B x.length=B:=by omega
 rw[U] at G;have V:(x.cps.toList.take B).length=B:=by rw[List.length_take,zal];omega
 refine⟨by omega,by omega,?_⟩;rw[F,I];have h1:(x.cps.toList.take B++t.cps.toList++x.cps.toList.drop D).take B=x.cps.toList.take B:=by rw[List.append_assoc,List.take_append_of_le_length (by omega),List.take_of_length_le (by omega)]
 have h2:(x.cps.toList.take B++t.cps.toList++x.cps.toList.drop D).drop (B+t.length)=x.cps.toList.drop D:=List.drop_left' (by rw[List.length_append,V,zal]);rw[h1,h2,List.append_assoc];have W:(x.cps.toList.drop B).take (D-B)++x.cps.toList.drop D=x.cps.toList.drop B:=by
  have:x.cps.toList.drop D=(x.cps.toList.drop B).drop (D-B):=by rw[List.drop_drop];congr 1;omega
  rw[this,List.take_append_drop]
 rw[W,List.take_append_drop]
inductive zfb(CP CN:Addr):List V->Hp->VK->XK->Prop where
 |mk {vs:List V} {H:Hp} {Q:VK} {E:XK} (r dx:Addr) (v:V) (x:Str) (pt ps so pw:Addr) (c1:vs=[.ref r]) (c2:H r=some (.ins CP dx (pgF v x pt ps so pw))) (c3:H pw=some (.lst [])) (c4:E (.ref CN) none H):zfb CP CN vs H Q E
theorem zkv{f CP B:Addr}{fd:FuncData}(F:Fun K "take_back" "Page.take_back" zc2 f fd)(D:TxtP K mg CP)(G:W.excIn K B bmVE "ValueError.__new__"=true)(I:mg "Nothing"=some (.ref B)) :
  FnOk P w K mg base (CXE P w) 1 f fd ["self"] (zfb CP B):=by
 refine F.okX scBack (λvs H Q E h=>?_) (λcdv A outer s H vs Q E V h=>?_)
 .obtain⟨r,dx,v,x,pt,ps,so,pw,rfl,_⟩:=h;rfl
 .obtain⟨r,dx,v,x,pt,ps,so,pw,rfl,J0,O,U⟩:=h;refine⟨_,zac (zaY (zdD (zcP (zaI (pv 0) J) (λ_=>rfl))) (zai (zjS G J J I (zaa zay zad) zmI)) zaA) zbQ,?_⟩;dsimp only[cxOf];refine⟨_,J,r,CP,dx,_,_,J,J0,D.cl,D.nW,ze5 v x pt ps so pw,_,.inl ⟨_,SqL.of O,J⟩,?_⟩;refine iteT ?_;exact⟨by simp[sizeLine_eq],U⟩
end T1
namespace L2
open PySem PySem.Spec PyProof.Rows
theorem zjn{ea:Addr}{ecl:Value}{lo:Int}{n:Nat}{H0:Hp}{p:Addr}(h:H0 ea=some (exH ea ecl))(B:ea≠p):ItOk (ItrU ea ecl lo n) n (λi=>.int (lo+i)) H0 p where
 go:=λi H h _=>h
 stop:=λH k=>⟨Nat.le_refl _,k ea _ B h⟩
 yld:=λi H x H' _ _ q=>q
theorem zcs{X:Cx}{a:Expr}{ta:TE}{T:Str}{D:Addr}{B p2 pos:Pos}(G:X.mg "isinstance"=none)(I:X.mg T=some (.ref D))(J0:PE X a ta)(O:Gl X "isinstance":=by rfl)(U:Gl X T:=by rfl)(F:starEach [a,.Name T p2] X.env=(false,eval a X.env)::starEach [.Name T p2] X.env:=by rfl)(V:(backTo pos (starEach [.Name T p2] X.env)).any (·.1)=false:=by rfl)(W:(T==("__debug__":Str))=false:=by decide) :
  PE X (.Call (.Name "isinstance" B) [a,.Name T p2] [] pos) (tCB (rIsX X.K) (tCons ta (tCons (tC (.ref D)) tNil))):=
 zao (p:=B) (pos:=pos) (X:=X) zgI O G T1.b_isinst (zaa J0 (zaa (zes (v:=.ref D) (pos:=p2) U I J W) zad) F) (by decide) (by decide) F V
theorem zlM{X:Cx}{a:Expr}{ta:TE}{T:Str}{n:String}{B p2 pos:Pos}(F:X.mg "isinstance"=none)(G:X.mg T=none)(I:bootBuiltins T=some (.type n))(J0:PE X a ta)(O:Gl X "isinstance":=by rfl)(U:Gl X T:=by rfl)(D:starEach [a,.Name T p2] X.env=(false,eval a X.env)::starEach [.Name T p2] X.env:=by rfl)(V:(backTo pos (starEach [.Name T p2] X.env)).any (·.1)=false:=by rfl)(W:T≠"__name__":=by decide)(Y:(T==("__debug__":Str))=false:=by decide) :
  PE X (.Call (.Name "isinstance" B) [a,.Name T p2] [] pos) (tCB (rIsX X.K) (tCons ta (tCons (tC (.ty n)) tNil))):=
 zao (p:=B) (pos:=pos) (X:=X) zgI O F T1.b_isinst (zaa J0 (zaa (zkX (v:=.ty n) (pos:=p2) U G I J W Y) zad) D) (by decide) (by decide) D V
end L2
namespace T1
open PySem L2
variable {P:Program}{w:World}{K:W.Frag}{mg:Str->Option Value}{base:Heap}
structure TxtE(mg:Str->Option Value)(c1 c2 c3 c4 c5 c6 c7 c8:Addr):Prop where
 e1:mg "NoDoor"=some (.ref c1)
 e2:mg "NoPlace"=some (.ref c2)
 e3:mg "NoRow"=some (.ref c3)
 e4:mg "NoText"=some (.ref c4)
 e5:mg "NoTongue"=some (.ref c5)
 e6:mg "NoWay"=some (.ref c6)
 e7:mg "Nothing"=some (.ref c7)
 e8:mg "TooMany"=some (.ref c8)
 ve:mg "ValueError"=none
noncomputable abbrev kWords:List Str:=["NoDoor","NoPlace","NoRow","NoText","NoTongue","NoWay","Nothing","TooMany","+"]
noncomputable def kList(bs:List Bool)(n:Nat):List Str:=(List.range n).filterMap λi=>if bs.getD i false=true then some (kWords.getD i "") else none
noncomputable def zfc(bs:List Bool):Str:=PySem.Builtin.Str.glued (Str.ofString "") (kList bs 9)
theorem zeq(bs:List Bool):∀n,flatN (λi=>(if bs.getD i false=true then some (V.str (kWords.getD i "")) else none).toList) n=(kList bs n).map V.str
 |0=>rfl
 |n+1=>by
  show flatN _ n++_=_;rw[zeq bs n];unfold kList;rw[List.range_succ,List.filterMap_append,List.map_append];congr 1;by_cases h:bs.getD n false=true
  .show (if bs.getD n false=true then some (V.str (kWords.getD n "")) else none).toList=_;rw[if_pos h,List.filterMap_cons,if_pos h];rfl
  .show (if bs.getD n false=true then some (V.str (kWords.getD n "")) else none).toList=_;rw[if_neg h,List.filterMap_cons,if_neg h];rfl
theorem zjo(bs:List Bool)(n:Nat):(kList bs n).length<=n:=by
 have:=List.length_filterMap_le (λi=>if bs.getD i false=true then some (kWords.getD i "") else none) (List.range n);rw[List.length_range] at this;exact this
theorem zgp{bs:List Bool}{n:Nat}{y:Str}(h:y∈kList bs n):y.length<=100:=by
 obtain⟨i,_,hi⟩:=List.mem_filterMap.mp h;have B:∀j,(kWords.getD j "").length<=100:=by
  intro j;rcases j with _|_|_|_|_|_|_|_|_|j
  all_goals first|decide +kernel|exact(by decide +kernel:(Str.ofString "").length<=100)
 split at hi
 .cases hi;exact B i
 .cases hi
inductive zd5(K:W.Frag)(c1 c2 c3 c4 c5 c6 c7 c8:Addr):Addr->List V->Hp->VK->XK->Prop where
 |mk {ea:Addr} {vs:List V} {H:Hp} {Q:VK} {E:XK} (C:Addr) (b1 b2 b3 b4 b5 b6 b7 b8 b9:Bool) (h1:vs=[.ref ea]) (h2:H ea=some (exH ea (.ref C))) (h3:ExCls K C)
  (k1:W.kitOne K (.ref C) (.ref c1)=some b1) (k2:W.kitOne K (.ref C) (.ref c2)=some b2) (k3:W.kitOne K (.ref C) (.ref c3)=some b3) (k4:W.kitOne K (.ref C) (.ref c4)=some b4)
  (k5:W.kitOne K (.ref C) (.ref c5)=some b5) (k6:W.kitOne K (.ref C) (.ref c6)=some b6) (k7:W.kitOne K (.ref C) (.ref c7)=some b7) (k8:W.kitOne K (.ref C) (.ref c8)=some b8)
  (k9:W.kitOne K (.ref C) (.type "ValueError")=some b9) (q:∀H',Same H H'->Q (.str (zfc [b1,b2,b3,b4,b5,b6,b7,b8,b9])) H'):zd5 K c1 c2 c3 c4 c5 c6 c7 c8 ea vs H Q E
theorem b_ve:bootBuiltins "ValueError"=some (.type "ValueError"):=by decide +kernel
theorem scKinds:zav ["e","some","words"] ["e"] (zag zgO):=⟨J,J,J,by decide +kernel,J,by decide +kernel,by decide +kernel⟩
theorem ndKWS:(["k","words","some"]:List Str).Nodup:=by decide +kernel
theorem zkw{f ae af ag ah ai aj ak al:Addr}{fd:FuncData}(F:Fun K "_law_kinds" "_law_kinds" zgO f fd)(T:TxtB mg)(TE:TxtE mg ae af ag ah ai aj ak al):FnOkU P w K mg base 1 f fd ["e"] (zd5 K ae af ag ah ai aj ak al):=by
 refine F.okU scKinds (λea vs H Q E h=>?_) (λcdv A outer s H vs Q E ea a9 aI h=>?_)
 .obtain⟨C,B,D,G,I,J0,O,U,W,Z,rfl,_⟩:=h;rfl
 .obtain⟨C,B,D,G,I,J0,O,U,W,Z,rfl,ab,Y,k1,k2,k3,aJ,k5,aK,aL,aM,aN,q⟩:=h;have ap:=scKinds.nd;refine⟨_,zac (zap (i:=1) ap J (Or.inr J) (zaE (zaa (zcs T.isinst TE.e1 (pv 0)) (zaa (zcs T.isinst TE.e2 (pv 0)) (zaa (zcs T.isinst TE.e3 (pv 0)) (zaa (zcs T.isinst TE.e4 (pv 0)) zad))))))
   (zac (zap (i:=1) ap J (Or.inr J) (zaB zdj (pv 1) (zaE (zaa (zcs T.isinst TE.e5 (pv 0)) (zaa (zcs T.isinst TE.e6 (pv 0)) (zaa (zcs T.isinst TE.e7 (pv 0)) (zaa (zcs T.isinst TE.e8 (pv 0)) zad)))))))
   (zac (zaU (zbN PySem.F.plainAttrs_list PySem.F.slot_list_append PySem.F.type_list_append zaL (pv 1) (zaa (zlM T.isinst TE.ve b_ve (pv 0)) zad)))
   (zac (zap (i:=2) ap J (Or.inr J) (zaE (zaa zay (zaa zay (zaa zay (zaa zay (zaa zay (zaa zay (zaa zay (zaa zay (zaa zay zad)))))))))))
   (zai (zax (zbN PySem.F.plainAttrs_str PySem.F.slot_str_join PySem.F.type_str_join zld zay (zaa
    (ziu (ea:=ea) (ecl:=.ref C) (N':=["k","words","some"]) (js:=[none,some 2,some 1]) J aI (zbc (zag zgO) (by decide +kernel)) ⟨J,Or.inr (Or.inl J),J,J,Or.inr (Or.inl J),J,trivial⟩ (zhp J T.range (zaa zaf zad))
     (λcl s H fp=>zaq (i:=0) ndKWS J (Or.inl J)) (λcl s H fp=>zcj (zeb (zau zey (pv 2) (pv 0) (λ_ _=>rfl)))) (λcl s H fp=>zau zey (pv 1) (pv 0) (λ_ _=>rfl))) zad))))))),?_⟩
  dsimp only[cxOfU,cxOf];have ba:(1000:Nat)<=sizeLine:=by rw[sizeLine_eq];decide
  refine zah λaq aa=>?_;refine⟨_,J,ea,C,V.ref ae,_,Value.ref ae,J,J,(λ_ z=>z),ab,Y,k1,_,J,ea,C,V.ref af,_,Value.ref af,J,J,(λ_ z=>z),ab,Y,k2,_,J,ea,C,V.ref ag,_,Value.ref ag,J,J,(λ_ z=>z),ab,Y,k3,_,J,ea,C,V.ref ah,_,Value.ref ah,J,J,(λ_ z=>z),ab,Y,aJ,by simp only[List.length_cons,List.length_nil];omega,λp np=>aa _ _ (zah λaq aa=>?_)⟩;have aw:Same H (upd H p (.lst [.bl B,.bl D,.bl G,.bl I])):=Same.new np;have aO:upd H p (.lst [.bl B,.bl D,.bl G,.bl I]) p=some (.lst [.bl B,.bl D,.bl G,.bl I]):=zab;have ad:=aw _ _ ab;generalize upd H p (.lst [.bl B,.bl D,.bl G,.bl I])=H1 at *;refine⟨_,J,_,J,ea,C,V.ref ai,_,Value.ref ai,J,J,(λ_ z=>z),ad,Y,k5,_,J,ea,C,V.ref aj,_,Value.ref aj,J,J,(λ_ z=>z),ad,Y,aK,_,J,ea,C,V.ref ak,_,Value.ref ak,J,J,(λ_ z=>z),ad,Y,aL,_,J,ea,C,V.ref al,_,Value.ref al,J,J,(λ_ z=>z),ad,Y,aM,by simp only[List.length_cons,List.length_nil];omega,λp2 aP=>?_⟩;have ar:Same H1 (upd H1 p2 (.lst [.bl J0,.bl O,.bl U,.bl W])):=Same.new aP;have aQ:=ar _ _ aO;have aR:upd H1 p2 (.lst [.bl J0,.bl O,.bl U,.bl W]) p2=some (.lst [.bl J0,.bl O,.bl U,.bl W]):=zab;have aS:=ar _ _ ad;have ax:=aw.trans ar;generalize upd H1 p2 (.lst [.bl J0,.bl O,.bl U,.bl W])=H2 at *;refine⟨p,p2,_,_,J,J,aQ,aR,by simp only[List.length_cons,List.length_nil];omega,λp3 as=>aa _ _ (zah λaq aa=>?_)⟩;have ay:Same H2 (upd H2 p3 (.lst ([.bl B,.bl D,.bl G,.bl I]++[.bl J0,.bl O,.bl U,.bl W]))):=Same.new as;have az:upd H2 p3 (.lst ([.bl B,.bl D,.bl G,.bl I]++[.bl J0,.bl O,.bl U,.bl W])) p3=some (.lst ([.bl B,.bl D,.bl G,.bl I]++[.bl J0,.bl O,.bl U,.bl W])):=zab;have aT:=ay _ _ aS;have aU:=ax.trans ay;have aV:H p3=none:=by
   cases c:H p3 with
   |none=>rfl
   |some o=>rw[ax _ _ c] at as;cases as
  generalize upd H2 p3 (.lst ([.bl B,.bl D,.bl G,.bl I]++[.bl J0,.bl O,.bl U,.bl W]))=au at *;refine⟨_,J,.inl ⟨J,_,SqL.of az⟩,_,J,ea,C,V.ty "ValueError",_,Value.type "ValueError",J,J,(λ_ z=>z),aT,Y,aN,p3,_,_,J,J,az,by simp only[List.length_cons,List.length_nil,List.length_append];omega,aa _ _ (zah λaq aa=>?_)⟩;have aA:Same H (upd au p3 (.lst ([.bl B,.bl D,.bl G,.bl I]++[.bl J0,.bl O,.bl U,.bl W]++[.bl Z]))):=SameX.of_new aV (SameX.upd aU.x);have aW:upd au p3 (.lst ([.bl B,.bl D,.bl G,.bl I]++[.bl J0,.bl O,.bl U,.bl W]++[.bl Z])) p3=some (.lst ([.bl B,.bl D,.bl G,.bl I]++[.bl J0,.bl O,.bl U,.bl W]++[.bl Z])):=zab;have aX:=aA _ _ ab;generalize upd au p3 (.lst ([.bl B,.bl D,.bl G,.bl I]++[.bl J0,.bl O,.bl U,.bl W]++[.bl Z]))=ac at *;refine⟨by simp only[List.length_cons,List.length_nil];omega,λp4 aY=>aa _ _ ?_⟩;have av:Same ac (upd ac p4 (.lst (kWords.map V.str))):=Same.new aY;have aZ:=aA.trans av;have aB:=av _ _ aX;have a1:=av _ _ aW;have a2:upd ac p4 (.lst (kWords.map V.str)) p4=some (.lst (kWords.map V.str)):=zab;have aC:upd ac p4 (.lst (kWords.map V.str))=upd ac p4 (.lst [.str "NoDoor",.str "NoPlace",.str "NoRow",.str "NoText",.str "NoTongue",.str "NoWay",.str "Nothing",.str "TooMany",.str "+"]):=rfl;rw[←aC];clear aC;generalize upd ac p4 (.lst (kWords.map V.str))=bb at *;refine⟨J,9,J,by decide,by decide,λaD aE=>?_⟩;have aF:ea≠aD:=zae aB aE;refine zbf (λi=>if ([B,D,G,I,J0,O,U,W,Z]:List Bool).getD i false=true then some (V.str (kWords.getD i "")) else none) (λσ=>∃u,σ=[u,some (.ref p4),some (.ref p3)]) ⟨none,J⟩ aE (by decide) (zjn (by rw[zak aF];exact aB) aF) (λj σ a3 C aG ⟨u,a4⟩ am ao=>?_) (λσ a3 am aH=>?_)
  .subst a4;have aG:j<9:=aG;have a5:(0:Int)+(j:Int)=(j:Int):=by omega
   have a6:atI ([.bl B,.bl D,.bl G,.bl I]++[.bl J0,.bl O,.bl U,.bl W]++[.bl Z]) (j:Int)=some (V.bl (([B,D,G,I,J0,O,U,W,Z]:List Bool).getD j false)):=by
    refine zaj ?_;rcases j with _|_|_|_|_|_|_|_|_|j
    all_goals first|rfl|omega
   have a7:atI (kWords.map V.str) (j:Int)=some (V.str (kWords.getD j "")):=by
    refine zaj ?_;rcases j with _|_|_|_|_|_|_|_|_|j
    all_goals first|rfl|omega
   dsimp only[gName];rw[a5];refine⟨_,J,_,J,p3,_,_,_,J,J,SqL.of (am _ _ a1),a6,_,J,?_⟩;refine ite2 (λg=>?_) (λg=>?_)
   .rw[if_pos g] at ao;exact⟨_,J,_,J,p4,_,_,_,J,J,SqL.of (am _ _ a2),a7,ao _ _ ⟨_,J⟩ (Same.refl _)⟩
   .rw[if_neg g] at ao;exact ao _ _ ⟨_,J⟩ (Same.refl _)
  .rw[zeq] at aH;exact⟨_,aD,_,J,J,SqL.of aH,Nat.le_trans (zjo _ _) (by decide),by decide +kernel,λy a8=>zgp a8,q _ (aZ.trans am)⟩
structure TxtN(mg:Str->Option Value)(cN c1 c2 c3 c4 c5 c6 c7 c8:Addr):Prop extends TxtE mg c1 c2 c3 c4 c5 c6 c7 c8 where
 e0:mg "NestError"=some (.ref cN)
theorem zfd{K:W.Frag}{af B D F G I J0 O U C ea:Addr}{V Y Z aa ab ac ad ae:Bool}{H:Hp}{Q:VK}{E:XK}(X:ErrC K af [B,D,F,G,I,J0,O,U] C [V,Y,Z,aa,ab,ac,ad,ae])(h2:H ea=some (exH ea (.ref C)))(q:∀H',Same H H'->Q (.str (zfc [V,Y,Z,aa,ab,ac,ad,ae,true])) H'):zd5 K B D F G I J0 O U ea [.ref ea] H Q E:=by
 have ks:=X.ks;simp only[List.map_cons,List.map_nil,List.cons.injEq,and_true] at ks;obtain⟨k1,k2,k3,ag,k5,ah,ai,aj⟩:=ks;exact⟨C,_,_,_,_,_,_,_,_,_,J,h2,X.xc,k1,k2,k3,ag,k5,ah,ai,aj,X.kv,q⟩
theorem kN:zfc [false,false,false,false,false,false,true,false,true]=Str.ofString "Nothing+":=by decide +kernel
noncomputable def zjp(K:W.Frag)(V Y Z aa ab ac ad ae af:Addr)(Q:VK):XK:=λcls _ H1=>∃C B D F G I J0 O U,cls=.ref C/\ErrC K V [Y,Z,aa,ab,ac,ad,ae,af] C [B,D,F,G,I,J0,O,U]/\∀H2,Same H1 H2->∀p,H2 p=none->Q (.ref p) (upd H2 p (.lst [.str (zfc [B,D,F,G,I,J0,O,U,true]),.non]))
noncomputable def Told(Q:VK):VK:=λv H1=>∀p,H1 p=none->Q (.ref p) (upd H1 p (.lst [.str "",v]))
inductive zcD(K:W.Frag)(CP yN y1 y2 y3 y4 y5 y6 y7 y8:Addr)(s1 s2 s3:Sp):List V->Hp->VK->XK->Prop where
 |ch {vs:List V} {H:Hp} {Q:VK} {E:XK} (r dx pd:Addr) (fs:List (Str×V)) (x y u:V) (c1:vs=[.ref r,.ref pd]) (c2:H r=some (.ins CP dx fs)) (c3:fs.lookup ("change":Str)=none) (c4:H pd=some (.lst [.str "change",x,y,u])) (q:∀Q' E',(∀v H1,Told Q v H1->Q' v H1)->(∀c o H1,zjp K yN y1 y2 y3 y4 y5 y6 y7 y8 Q c o H1->E' c o H1)->s1 [.ref r,x,y,u] H Q' E'):zcD K CP yN y1 y2 y3 y4 y5 y6 y7 y8 s1 s2 s3 vs H Q E
 |at {vs:List V} {H:Hp} {Q:VK} {E:XK} (r dx pd:Addr) (fs:List (Str×V)) (x:V) (c1:vs=[.ref r,.ref pd]) (c2:H r=some (.ins CP dx fs)) (c3:fs.lookup ("standing_at":Str)=none) (c4:H pd=some (.lst [.str "at",x])) (q:∀Q' E',(∀v H1,Told Q v H1->Q' v H1)->(∀c o H1,zjp K yN y1 y2 y3 y4 y5 y6 y7 y8 Q c o H1->E' c o H1)->s2 [.ref r,x] H Q' E'):zcD K CP yN y1 y2 y3 y4 y5 y6 y7 y8 s1 s2 s3 vs H Q E
 |bk {vs:List V} {H:Hp} {Q:VK} {E:XK} (r dx pd:Addr) (fs:List (Str×V)) (c1:vs=[.ref r,.ref pd]) (c2:H r=some (.ins CP dx fs)) (c3:fs.lookup ("take_back":Str)=none) (c4:H pd=some (.lst [.str "back"])) (q:∀Q' E',(∀v H1,Told Q v H1->Q' v H1)->(∀c o H1,zjp K yN y1 y2 y3 y4 y5 y6 y7 y8 Q c o H1->E' c o H1)->s3 [.ref r] H Q' E'):zcD K CP yN y1 y2 y3 y4 y5 y6 y7 y8 s1 s2 s3 vs H Q E
theorem wch1:decide (V.str (Str.ofString "at")=V.str (Str.ofString "change"))=false:=by decide +kernel
theorem wch2:decide (V.str (Str.ofString "back")=V.str (Str.ofString "change"))=false:=by decide +kernel
theorem wch3:decide (V.str (Str.ofString "back")=V.str (Str.ofString "at"))=false:=by decide +kernel
theorem scTriedP:zav ["page","deed","kind","told","e"] ["page","deed"] (zag ziK):=⟨J,J,J,by decide +kernel,J,by decide +kernel,by decide +kernel⟩
theorem zjq{f CP ao ae af ag ah ai aj ak al ap aq ar am:Addr}{fd as au av aw:FuncData}{ax ay az:Sp}(F:Fun K "_law_tried" "_law_tried" ziK f fd)(aF:TxtN mg ao ae af ag ah ai aj ak al)(cl:Cls K CP)(aG:Meth K CP "change" ap)(Z:Binds K as ["self","begin","end","text"] [])(aH:FnOk P w K mg base (CXE P w) 8 ap as ["self","begin","end","text"] ax)(aI:Meth K CP "standing_at" aq)(aa:Binds K au ["self","place"] [])(aJ:FnOk P w K mg base (CXE P w) 8 aq au ["self","place"] ay)(aK:Meth K CP "take_back" ar)(ab:Binds K av ["self"] [])(aL:FnOk P w K mg base (CXE P w) 8 ar av ["self"] az)(k5:W.keepIn K (.ref am)=true)(ac:Binds K aw ["e"] [])(aM:mg "_law_kinds"=some (.ref am))(aN:FnOkU P w K mg base 1 am aw ["e"] (zd5 K ae af ag ah ai aj ak al)):FnOk P w K mg base CX0 9 f fd ["page","deed"] (zcD K CP ao ae af ag ah ai aj ak al ax ay az):=by
 refine F.ok scTriedP (λvs H Q E h=>?_) (λcdv A outer s H vs Q E ad h=>?_)
 .cases h with
  |ch r dx pd fs x y u B=>subst B;rfl
  |«at» r dx pd fs x B=>subst B;rfl
  |bk r dx pd fs B=>subst B;rfl
 .have I:=scTriedP.nd;have aA:RoomU 1 _:=(ad.mono (by decide:1<=8)).soft;have aO:=za2;refine⟨_,zac (zap (i:=2) I J (Or.inl J) zay)
   (zac (zap (i:=3) I J (Or.inl J) zea)
   (zac (zjT (i:=4) I J J J J J aF.e0
    (zdR (zmk (zat zcg (zau ix_list (pv 1) zaf (λ_ _=>rfl)) zay (zaz _))
     (zdR (zir (i:=3) I J (Or.inl J) (zgH (pv 0) cl aG aH ad Z .nil (zaa (zau ix_list (pv 1) zaf (λ_ _=>rfl)) (zaa (zau ix_list (pv 1) zaf (λ_ _=>rfl)) (zaa (zau ix_list (pv 1) zaf (λ_ _=>rfl)) zad))))))
    (zdR (zmk (zat zcg (zau ix_list (pv 1) zaf (λ_ _=>rfl)) zay (zaz _))
     (zdR (zir (i:=3) I J (Or.inl J) (zgH (pv 0) cl aI aJ ad aa .nil (zaa (zau ix_list (pv 1) zaf (λ_ _=>rfl)) zad))))
    (zdR (zir (i:=3) I J (Or.inl J) (ziq (pv 0) cl aK aL ad ab .nil)))))))
    (λa=>zai (zap (i:=2) I J (Or.inl J) (zjV aN ⟨aA.dp,aA.un⟩ rfl J aM k5 ac .nil (zaa (pv 4) zad)))))
   (zai (zax (zaE (zaa (pv 2) (zaa (pv 3) zad))))))),?_⟩
  dsimp only[cxOf,Cx.nox,Cx.wish];have J0:∀ {x y:V},[x,y].length<=sizeLine:=λ{x y}=>by show (2:Nat)<=_;omega
  cases h with
  |ch r dx pd fs x y u B O U D q=>
   subst B;refine⟨_,J,pd,_,0,_,J,J,SqL.of D,zaj (j:=0) J,J,_,J,iteT ?_⟩;refine⟨_,J,r,dx,fs,J,O,U,_,J,pd,_,1,_,J,J,SqL.of D,zaj (j:=1) J,_,J,pd,_,2,_,J,J,SqL.of D,zaj (j:=2) J,_,J,pd,_,3,_,J,J,SqL.of D,zaj (j:=3) J,?_⟩;refine q _ _ (λv H1 h=>⟨_,J,_,J,J0,λp np=>h p np⟩) (λc o H1 h=>?_);obtain⟨C,Z,aa,ab,aB,ac,aC,aD,aE,rfl,G,h⟩:=h;exact⟨G.m,λa Y=>⟨_,J,zfd G zab λH' s'=>⟨_,J,_,J,J0,λp np=>h H' ((Same.new Y).trans s') p np⟩⟩⟩
  |«at» r dx pd fs x B O U D q=>
   subst B;refine⟨_,J,pd,_,0,_,J,J,SqL.of D,zaj (j:=0) J,J,_,J,?_⟩;rw[wch1];refine iteF ⟨_,J,pd,_,0,_,J,J,SqL.of D,zaj (j:=0) J,J,_,J,iteT ?_⟩;refine⟨_,J,r,dx,fs,J,O,U,_,J,pd,_,1,_,J,J,SqL.of D,zaj (j:=1) J,?_⟩;refine q _ _ (λv H1 h=>⟨_,J,_,J,J0,λp np=>h p np⟩) (λc o H1 h=>?_);obtain⟨C,Z,aa,ab,aB,ac,aC,aD,aE,rfl,G,h⟩:=h;exact⟨G.m,λa Y=>⟨_,J,zfd G zab λH' s'=>⟨_,J,_,J,J0,λp np=>h H' ((Same.new Y).trans s') p np⟩⟩⟩
  |bk r dx pd fs B O U D q=>
   subst B;refine⟨_,J,pd,_,0,_,J,J,SqL.of D,zaj (j:=0) J,J,_,J,?_⟩;rw[wch2];refine iteF ⟨_,J,pd,_,0,_,J,J,SqL.of D,zaj (j:=0) J,J,_,J,?_⟩;rw[wch3];refine iteF ⟨_,J,r,dx,fs,J,O,U,?_⟩;refine q _ _ (λv H1 h=>⟨_,J,_,J,J0,λp np=>h p np⟩) (λc o H1 h=>?_);obtain⟨C,Z,aa,ab,aB,ac,aC,aD,aE,rfl,G,h⟩:=h;exact⟨G.m,λa Y=>⟨_,J,zfd G zab λH' s'=>⟨_,J,_,J,J0,λp np=>h H' ((Same.new Y).trans s') p np⟩⟩⟩
inductive zc3:List V->Hp->VK->XK->Prop where
 |mk {vs:List V} {H:Hp} {Q:VK} {E:XK} (z:Addr) (v:V) (b:Bk) (x:Str) (c1:vs=[.ref z,v,.str x]) (c2:Bag z H) (c3:Rep z H v (bkD b)) (c4:BkOk b) (c5:x.length<=2000)
  (c6:∀(bg en:Nat) t p H',Aft z H H'->H p=none->H' p=some (.lst [.int bg,.int en,.str t])->bg<=en->en<=x.length->x.length-(en-bg)+t.length<=x.length+48->Q (.ref p) H'):zc3 vs H Q E
theorem scLChange:zav ["bag","book","text","begin","end","put"] ["bag","book","text"] (zag zf8):=⟨J,J,J,by decide +kernel,J,by decide +kernel,by decide +kernel⟩
theorem zhH{f ai aj:Addr}{fd au av:FuncData}(F:Fun K "_law_change" "_law_change" zf8 f fd)(T:TxtB mg)(aQ:Txt2 mg)(k1:W.keepIn K (.ref ai)=true)(aa:Binds K au ["bag","many"] [])(ab:mg "_law_take"=some (.ref ai))(ac:FnOk P w K mg base CX0 1 ai au ["bag","many"] zdl)(k2:W.keepIn K (.ref aj)=true)(aw:Binds K av ["bag","book","most"] [])(ax:mg "_law_text"=some (.ref aj))(ay:FnOk P w K mg base CX0 2 aj av ["bag","book","most"] zfG):FnOk P w K mg base CX0 3 f fd ["bag","book","text"] zc3:=by
 refine F.ok scLChange (λvs H Q E h=>?_) (λcdv A outer s H vs Q E az h=>?_)
 .obtain⟨z,v,b,x,rfl,_⟩:=h;rfl
 .obtain⟨z,v,b,x,rfl,aR,aA,aB,a5,k⟩:=h;have ad:=scLChange.nd;have ae:Room 1 _:=az.mono (by decide);have aC:Room 2 _:=az.mono (by decide);refine⟨_,zac (zap (i:=3) ad J (Or.inl J) (zas ac ae J ab k1 aa .nil pass0 (zaa (pv 0) (pa_B (zaB zaN (zao zam (by rfl) T.len b_len (zaa (pv 2) zad)) zaf) zad))))
   (zac (zap (i:=4) ad J (Or.inl J) (zao (zfh J) (by rfl) aQ.min zl4 (zaa (zao zam (by rfl) T.len b_len (zaa (pv 2) zad)) (pa_B (zaB zaN (pv 3) (zau ix_list (zaE (pa_K zaf (pa_K zaf (pa_K zaf (zaa (zas ac ae J ab k1 aa .nil pass0 (zaa (pv 0) (pa_K zaf zad))) (pa_K zaf zad)))))) (zas ac ae J ab k1 aa .nil pass0 (zaa (pv 0) (pa_K zaf zad))) (λ_ _=>rfl))) zad))))
   (zac (zap (i:=5) ad J (Or.inl J) (zau ix_list (zaE (zaa (zas ay aC J ax k2 aw .nil pass0 (zaa (pv 0) (zaa (pv 1) (pa_K zaf zad)))) (pa_K zay (zaa (zaG zbT (pv 2) (zaJ (pv 3)) (zaJ (pv 4))) (zaa (zas ay aC J ax k2 aw .nil pass0 (zaa (pv 0) (zaa (pv 1) (pa_K zaf zad)))) zad))))) (zas ac ae J ab k1 aa .nil pass0 (zaa (pv 0) (pa_K zaf zad))) (λ_ _=>rfl)))
   (zac (zaY (zat zcg (zas ac ae J ab k1 aa .nil pass0 (zaa (pv 0) (pa_K zaf zad))) zaf (zaz _)) (zac (zap (i:=3) ad J (Or.inl J) zaf) (zai (zap (i:=4) ad J (Or.inl J) (zao zam (by rfl) T.len b_len (zaa (pv 2) zad))))) zaA)
   (zai (zax (zaE (zaa (pv 3) (zaa (pv 4) (zaa (pv 5) zad))))))))),?_⟩
  dsimp only[cxOf,Cx.nox,Cx.wish];have a6:(100000:Nat)<=sizeLine:=by rw[sizeLine_eq];decide
  refine zba λa7 _ aS _ _=>zah λag G=>?_;refine⟨_,J,_,J,x,J,by omega,_,_,J,J,z,(x.length:Int)+1,J,aR,by omega,by omega,λB H1 a8 aD=>G _ _ (zah λag G=>?_)⟩;refine⟨_,J,x,J,by omega,_,J,_,J,z,30,J,aD.2,by decide,by decide,λJ0 H2 a9 aE=>⟨by show (5:Nat)<=_;omega,λaf aF=>?_⟩⟩;have ak:=aD.trans aE;have ah:=ak.new (o:=.lst [.int 0,.int 1,.int 2,.int J0,.int 0]) aF;have al:upd H2 af (.lst [.int 0,.int 1,.int 2,.int J0,.int 0]) af=some (.lst [.int 0,.int 1,.int 2,.int J0,.int 0]):=zab;have aT:af≠z:=ak.2.ne aF;generalize upd H2 af (.lst [.int 0,.int 1,.int 2,.int J0,.int 0])=ba at ah al;refine⟨_,J,z,5,J,ah.2,by decide,by decide,λI bb bc am=>?_⟩;have ao:=ah.trans am;obtain⟨O,aG⟩:∃O:Nat,([.int 0,.int 1,.int 2,.int J0,.int 0]:List V)[I]?=some (.int (O:Int)):=by
   rcases(by omega:I=0∨I=1∨I=2∨I=3∨I=4) with rfl|rfl|rfl|rfl|rfl
   .exact⟨0,J⟩
   .exact⟨1,J⟩
   .exact⟨2,J⟩
   .exact⟨J0,J⟩
   .exact⟨0,J⟩
  refine⟨af,_,I,_,J,J,SqL.of (am.1 _ _ aT al),zaj aG,_,_,J,J,_,_,J,?_⟩;obtain⟨D,aH,aU,aV⟩:∃D:Nat,(if (B:Int)+(O:Int)<(x.length:Int) then (B:Int)+(O:Int) else (x.length:Int))=(D:Int)/\B<=D/\D<=x.length:=by
   by_cases h:B+O<x.length
   .exact⟨B+O,by rw[if_pos (by omega)];omega,by omega,by omega⟩
   .exact⟨x.length,by rw[if_neg (by omega)],by omega,Nat.le_refl _⟩
  dsimp only;rw[aH];refine G _ _ (zah λag G=>?_);clear aH aG al ah ak am aE;refine⟨_,J,_,J,z,v,b,3,J,ao.2,aA.mono ao.1,aB,by decide,by decide,λU bd aW be=>?_⟩;have ap:=ao.trans aW;refine⟨_,J,_,J,_,J,_,J,_,J,x,J,by omega,?_⟩;refine⟨_,J,_,J,z,v,b,12,J,ap.2,aA.mono ap.1,aB,by decide,by decide,λY aI aX bf=>⟨by show (4:Nat)<=_;omega,λp2 aJ=>?_⟩⟩;have aK:=ap.trans aX;have aq:=aK.new (o:=.lst [.str U,.str (Str.ofString ""),.str (cutS x (some (B:Int)) (some (D:Int))),.str Y]) aJ;have ar:upd aI p2 (.lst [.str U,.str (Str.ofString ""),.str (cutS x (some (B:Int)) (some (D:Int))),.str Y]) p2=some (.lst [.str U,.str (Str.ofString ""),.str (cutS x (some (B:Int)) (some (D:Int))),.str Y]):=zab;have aY:p2≠z:=aK.2.ne aJ;have aL:(cutS x (some (B:Int)) (some (D:Int))).length<=D-B:=by
   have h1:=zcB x B (D-B);rw[show (B:Int)+((D-B:Nat):Int)=(D:Int) by omega] at h1;rw[←zal,h1,List.length_take];omega
  have bg:(Str.ofString "").length=0:=by rw[zaR];rfl
  generalize upd aI p2 (.lst [.str U,.str (Str.ofString ""),.str (cutS x (some (B:Int)) (some (D:Int))),.str Y])=bh at aq ar;generalize cutS x (some (B:Int)) (some (D:Int))=aM at ar aL;refine⟨_,J,z,4,J,aq.2,by decide,by decide,λZ bi bj aN=>?_⟩;obtain⟨t,aZ,bk⟩:∃t:Str,([.str U,.str (Str.ofString ""),.str aM,.str Y]:List V)[Z]?=some (.str t)/\(t.length<=48∨t.length<=D-B):=by
   rcases(by omega:Z=0∨Z=1∨Z=2∨Z=3) with rfl|rfl|rfl|rfl
   .exact⟨U,J,.inl (by omega)⟩
   .exact⟨_,J,.inl (by omega)⟩
   .exact⟨aM,J,.inr aL⟩
   .exact⟨Y,J,.inl (by omega)⟩
  refine⟨p2,_,Z,_,J,J,SqL.of (aN.1 _ _ aY ar),zaj aZ,G _ _ (zah λag G=>?_)⟩;have aO:=aq.trans aN;refine⟨_,J,z,12,J,aO.2,by decide,by decide,λbl a1 bm a2=>?_⟩;have as:=aO.trans a2;have aP:∀(B D:Nat),B<=D->D<=x.length->x.length-(D-B)+t.length<=x.length+48->ag [some (.ref z),some v,some (.str x),some (.int B),some (.int D),some (.str t)] a1:=λB D h1 h2 a3=>by
   refine G _ _ ⟨_,J,_,J,_,J,by show (3:Nat)<=_;omega,λp np=>aS _ _ (k B D t p _ (as.new np) ?_ zab h1 h2 a3)⟩;cases q:H p with
   |none=>rfl
   |some o=>
    exfalso;by_cases c:p=z
    .obtain⟨bn,bo,a4⟩:=as.2;rw[c,a4] at np;cases np
    .rw[as.1 p o c q] at np;cases np
  refine⟨J,_,J,ite2 (λ_=>?_) (λ_=>?_)⟩
  .show (tSeq _ _) _ _ _;refine⟨_,J,x,J,by omega,aP 0 x.length (Nat.zero_le _) (Nat.le_refl _) (by omega)⟩
  .exact aP B D aU aV (by omega)
noncomputable def zfe(K:W.Frag)(tb:Addr):Sp:=λvs H Q _=>∃a,∃B:List Int,vs=[.ref a]/\SqL K H a (B.map V.int)/\LamTb tb H/\∀H',Q (.bl true) H'
noncomputable abbrev spBk9(P:Program)(w:World)(tb CP CS B:Addr):Sp:=λvs H Q E=>zg5 P w tb CP CS vs H Q E∨zfb CP B vs H Q E
structure S9(P:Program)(w:World)(tb CP CS z r dx:Addr)(v:V)(b:Bk)(so dxs pr pn pw pl:Addr)(H0 H:Hp)(x:Str)(pt ps:Addr)(tab:List Rws)(N:Nat)(ks:List Nat)(wl:List V)(xs tl:List Str):Prop where
 pg:PgS P w z CP CS H r dx v b x pt ps so dxs pr pn pw tab N ks
 B0:Bag z H
 L:LamTb tb H
 hpw:H pw=some (.lst wl)
 bk:Backs H wl xs x
 hpl:H pl=some (.lst (tl.map V.str))
 nl:pl≠z/\pl≠pt/\pl≠ps/\pl≠pr/\pl≠pw
 old:ButX tb H0 H
 new:H0 z=none/\H0 r=none/\H0 pr=none/\H0 pn=none/\H0 pw=none/\H0 pl=none
section
variable {P:Program}{w:World}{tb CP CS z r dx:Addr}{v:V}{b:Bk}{so dxs pr pn pw pl:Addr}{H0 H H':Hp}{x:Str}{pt ps:Addr}{tab:List Rws}{N:Nat}{ks:List Nat}{wl:List V}{xs tl:List Str}
theorem S9.keep{S:Addr->Prop}(h:S9 P w tb CP CS z r dx v b so dxs pr pn pw pl H0 H x pt ps tab N ks wl xs tl)(k:KeepE S H H')(n:NoTup S H)(h1:¬S r)(h2:¬S pt)(D:¬S ps)(F:¬S so)(G:¬S pr)(I:¬S pn)(J0:¬S pw)(O:¬S pl)(B:Bag z H')(L:LamTb tb H')(o:∀a,S a->H0 a=none) :
  S9 P w tb CP CS z r dx v b so dxs pr pn pw pl H0 H' x pt ps tab N ks wl xs tl:=
 ⟨h.pg.keep k n h1 h2 D F G I,B,L,k _ _ J0 h.hpw,h.bk.keep k n,k _ _ O h.hpl,h.nl,λa u U e=>k _ _ (λq=>by rw[o a q] at e;cases e) (h.old a u U e),h.new⟩
theorem S9.same(h:S9 P w tb CP CS z r dx v b so dxs pr pn pw pl H0 H x pt ps tab N ks wl xs tl)(s:Same H H'):S9 P w tb CP CS z r dx v b so dxs pr pn pw pl H0 H' x pt ps tab N ks wl xs tl:=
 h.keep (S:=λ_=>False) (λa o _ e=>s a o e) (λ_ _ q=>q.elim) id id id id id id id id (h.B0.same s) (h.L.same s) (λ_ q=>q.elim)
theorem S9.aft(h:S9 P w tb CP CS z r dx v b so dxs pr pn pw pl H0 H x pt ps tab N ks wl xs tl)(A:Aft z H H'):S9 P w tb CP CS z r dx v b so dxs pr pn pw pl H0 H' x pt ps tab N ks wl xs tl:=by
 obtain⟨c,d,e⟩:=id h.B0;obtain⟨J0,O,_,B⟩:=id h.pg.sd.ex;obtain⟨_,⟨D,F,G⟩,_⟩:=id h.pg.nes;exact h.keep (S:=λa=>a=z) (λa o I e=>A.1 a o I e) (zaH e (by intro xs q;cases q)) (zar h.pg.ins e (by intro q;cases q)) D F (zar h.pg.sd.ins e (by intro q;cases q)) h.pg.sd.prz (zar B e (by intro q;cases q)) G h.nl.1 A.2 (zgo h.L h.B0 A) (λa q=>by rw[q];exact h.new.1)
theorem S9.app(h:S9 P w tb CP CS z r dx v b so dxs pr pn pw pl H0 H x pt ps tab N ks wl xs tl)(B:List Str):S9 P w tb CP CS z r dx v b so dxs pr pn pw pl H0 (upd H pl (.lst (B.map V.str))) x pt ps tab N ks wl xs B:=by
 obtain⟨D,F,G,I,J0⟩:=h.nl;obtain⟨Z,aa,_,O⟩:=id h.pg.sd.ex;have k:KeepE (λa=>a=pl) H (upd H pl (.lst (B.map V.str))):=zaS;have n:NoTup (λa=>a=pl) H:=zaH h.hpl (by intro xs q;cases q);refine⟨h.pg.keep k n (zar h.pg.ins h.hpl (by intro q;cases q)) F.symm G.symm (zar h.pg.sd.ins h.hpl (by intro q;cases q)) I.symm (zar O h.hpl (by intro q;cases q)),?_,zd2 h.L h.hpl,k _ _ J0.symm h.hpw,h.bk.keep k n,zab,h.nl,λa u U e=>k _ _ (λq=>by rw[q,h.new.2.2.2.2.2] at e;cases e) (h.old a u U e),h.new⟩;obtain⟨W,d',Y⟩:=id h.B0;exact⟨W,d',k _ _ D.symm Y⟩
theorem S9.put(h:S9 P w tb CP CS z r dx v b so dxs pr pn pw pl H0 H x pt ps tab N ks wl xs tl){x':Str}{pt' ps':Addr}{F:List Rws}{N':Nat}{ks':List Nat}{D:List V}{G:List Str}(U:PgS P w z CP CS H' r dx v b x' pt' ps' so dxs pr pn pw F N' ks')(k:KeepE (λa=>a=pw∨a=r∨a=pr∨a=pn∨a=tb) H H')(B:Bag z H')(L:LamTb tb H')(W:H' pw=some (.lst D))(bk:Backs H' D G x')(Y:H pt'=none)(Z:H ps'=none):S9 P w tb CP CS z r dx v b so dxs pr pn pw pl H0 H' x' pt' ps' F N' ks' D G tl:=by
 obtain⟨aa,ah,ai,I,J0⟩:=h.nl;obtain⟨aj,ak,_,ab⟩:=id h.pg.sd.ex;obtain⟨al,ac⟩:=h.L.tbl;obtain⟨am,ad,ae,af,ag,ao⟩:=h.new;refine⟨U,B,L,W,bk,k _ _ (λc=>?_) h.hpl,⟨aa,zae h.hpl Y,zae h.hpl Z,I,J0⟩,λa u O e=>k _ _ (λc=>?_) (h.old a u O e),h.new⟩
 .rcases c with c|c|c|c|c
  .exact J0 c
  .exact zar h.hpl h.pg.ins (by intro q;cases q) c
  .exact I c
  .exact zar h.hpl ab (by intro q;cases q) c
  .exact zar h.hpl ac (by intro q;cases q) c
 .rcases c with c|c|c|c|c
  .rw[c,ag] at e;cases e
  .rw[c,ad] at e;cases e
  .rw[c,ae] at e;cases e
  .rw[c,af] at e;cases e
  .exact O c
end
inductive Tn9(P:Program)(w:World)(tb CP CS z r dx:Addr)(v:V)(b:Bk)(so dxs pr pn pw pl:Addr)(H0:Hp)(a:Addr)(i t:Nat):L2.St->Hp->Prop where
 |mk {σ:L2.St} {H9:Hp} (x:Str) (pt ps:Addr) (tab:List Rws) (N:Nat) (ks:List Nat) (wl:List V) (xs:List Str) (w6 w7 w8 w9 w10 w11 w12 w13 w14:Option V) (e:σ=[some (.ref a),some (.int (0+i)),some (.ref z),some v,some (.ref pl),some (.ref r),w6,w7,w8,w9,w10,w11,w12,w13,w14]) (s:S9 P w tb CP CS z r dx v b so dxs pr pn pw pl H0 H9 x pt ps tab N ks wl xs (xs++[x])) (h1:xs.length<=t) (h2:tab.length+2000*xs.length<=2000*(2*t+1)) (h3:∀y∈xs++[x],y.length<=80+48*t):Tn9 P w tb CP CS z r dx v b so dxs pr pn pw pl H0 a i t σ H9
inductive Bk9(P:Program)(w:World)(tb CP CS z r dx:Addr)(v:V)(b:Bk)(so dxs pr pn pw pl:Addr)(H0:Hp)(a:Addr)(i t:Nat)(w13 w14:Option V):L2.St->Hp->Prop where
 |mk {σ:L2.St} {H9:Hp} (x:Str) (pt ps:Addr) (tab:List Rws) (N:Nat) (ks:List Nat) (wl:List V) (xs:List Str) (w7 w8 w9 w10 w11 w12:Option V) (e:σ=[some (.ref a),some (.int (0+i)),some (.ref z),some v,some (.ref pl),some (.ref r),some (.int (0+t)),w7,w8,w9,w10,w11,w12,w13,w14]) (s:S9 P w tb CP CS z r dx v b so dxs pr pn pw pl H0 H9 x pt ps tab N ks wl xs (xs++[x])) (h1:xs.length<=t+1) (h2:tab.length+2000*xs.length<=2000*(2*(t+1)+1)) (h3:∀y∈xs++[x],y.length<=80+48*(t+1)):Bk9 P w tb CP CS z r dx v b so dxs pr pn pw pl H0 a i t w13 w14 σ H9
inductive Ou9(tb a:Addr)(H:Hp):L2.St->Hp->Prop where
 |mk {σ:L2.St} {H2:Hp} (u1 u2 u3 u4 u5 u6 u7 u8 u9 u10 u11 u12 u13 u14:Option V) (e:σ=[some (.ref a),u1,u2,u3,u4,u5,u6,u7,u8,u9,u10,u11,u12,u13,u14]) (h1:ButX tb H H2) (h2:LamTb tb H2):Ou9 tb a H σ H2
theorem scLaw09:zav ["script","k","bag","book","texts","page","turn","begin","end","put","text","due","back","stands","place"] ["script"] (zag lLaw):=⟨J,J,J,by decide +kernel,J,by decide +kernel,by decide +kernel⟩
theorem zjr{B:Type} [DecidableEq B]:∀ {l m:List B},l.Nodup->l ⊆ m->l.length<=m.length
 |[],_,_,_=>Nat.zero_le _
 |a::l,m,I,D=>by
  obtain⟨h1,h2⟩:=List.nodup_cons.mp I;have F:a∈m:=D List.mem_cons_self;have J0:=zjr (m:=m.erase a) h2 λx G=>(List.mem_erase_of_ne (λe=>h1 (by rw[←e];exact G))).mpr (D (List.mem_cons_of_mem _ G));rw[List.length_erase_of_mem F] at J0;have:=List.length_pos_of_mem F;rw[List.length_cons];omega
theorem zg6(k:Nat):∀ds:List LDr,Deps (k+1) (ds.map pdD)
 |[]=>.nil _
 |d::r=>.cons (.tup (.cons (.int _ _) (.cons (.str _ _) (.nil _)))) (zg6 k r)
theorem em9(l:List Str)(y:Str):(l++[y]).map V.str=l.map V.str++[V.str y]:=by rw[List.map_append];rfl
theorem zkx{f tb CP CS cC cD bD cE cF cG cH aV cI aW aX aY bE bF bG bH bI bJ bK ay aH az cJ:Addr}{fd cK cL cM cN cO cP cQ cR cS cT cU cV cW cX:FuncData}{aZ:Sp}(F:Fun K "law" "law" lLaw f fd)(T:TxtB mg)(eF:Txt2 mg)(bL:TxtP K mg CP)(eG:mg "Page"=some (.ref CP))(M:L2.Mk K CP ay)(eH:ErrC K cC [cD,bD,cE,cF,cG,cH,aV,cI] aV [false,false,false,false,false,false,true,false])(k1:W.keepIn K (.ref aW)=true)(eI:Binds K cK ["script","k"] [])(eJ:mg "_law_bag"=some (.ref aW))(eK:FnOk P w K mg base CX0 1 aW cK ["script","k"] (spBag K))(k2:W.keepIn K (.ref aX)=true)(eL:Binds K cL ["bag"] [])(eM:mg "_law_book"=some (.ref aX))(eN:FnOk P w K mg base CX0 3 aX cL ["bag"] zgN)(k3:W.keepIn K (.ref aY)=true)(eO:Binds K cM ["bag","book","most"] [])(eP:mg "_law_text"=some (.ref aY))(eQ:FnOk P w K mg base CX0 2 aY cM ["bag","book","most"] zfG)(cY:W.keepIn K (.ref bE)=true)(cZ:Binds K cN ["bag","many"] [])(c0:mg "_law_take"=some (.ref bE))(c1:FnOk P w K mg base CX0 1 bE cN ["bag","many"] zdl)(k5:W.keepIn K (.ref bF)=true)(eR:Binds K cO ["bag","book","text"] [])(eS:mg "_law_change"=some (.ref bF))(eT:FnOk P w K mg base CX0 3 bF cO ["bag","book","text"] zc3)(eU:W.keepIn K (.ref bG)=true)(eV:Binds K cP ["book","old","begin","end","put"] [])(eW:mg "_law_anew"=some (.ref bG))(eX:FnOk P w K mg base CX0 6 bG cP ["book","old","begin","end","put"] ze7)(eY:W.keepIn K (.ref bH)=true)(eZ:Binds K cQ ["book","text"] [])(e0:mg "_law_steps"=some (.ref bH))(e1:FnOk P w K mg base CX0 2 bH cQ ["book","text"] zeP)(c2:W.keepIn K (.ref bI)=true)(c3:Binds K cR ["page","deed"] [])(c4:mg "_law_tried"=some (.ref bI))(c5:FnOk P w K mg base CX0 9 bI cR ["page","deed"] (zcD K CP cC cD bD cE cF cG cH aV cI (zc0 P w tb CP CS) aZ (spBk9 P w tb CP CS aV)))(e2:W.keepIn K (.ref bJ)=true)(e3:Binds K cS ["book","text"] [])(e4:mg "_law_stands"=some (.ref bJ))(e5:FnOk P w K mg base CX0 2 bJ cS ["book","text"] zcr)(e6:W.keepIn K (.ref bK)=true)(e7:Binds K cT ["stands","place"] [])(e8:mg "_law_standing_at"=some (.ref bK))(e9:FnOk P w K mg base CX0 1 bK cT ["stands","place"] (spLAt P w))(fa:Binds K cU ["self","book","text"] [])(fb:FnOk P w K mg base CX0 8 ay cU ["self","book","text"] (ze9 P w tb CP CS))(c6:Meth K CP "steps" aH)(fc:Binds K cV ["self"] [])(fe:FnOk P w K mg base CX0 1 aH cV ["self"] (zc1 P w CP CS))(ff:Meth K CP "text" az)(fg:Binds K cW ["self"] [])(fh:FnOk P w K mg base CX0 1 az cW ["self"] (ze8 P w CP CS))(aj:Meth K CP "standing_at" cJ)(fi:Binds K cX ["self","place"] [])(fj:FnOk P w K mg base CX0 3 cJ cX ["self","place"] (spAt P w CP CS)):FnOk P w K mg base CX0 10 f fd ["script"] (zfe K tb):=by
 refine F.ok scLaw09 (λvs H Q E h=>?_) (λcdv A outer s H vs Q E as h=>?_)
 .obtain⟨a,bM,rfl,_⟩:=h;rfl
 .obtain⟨a,bM,rfl,c7,c8,k⟩:=h;have G:=scLaw09.nd;have aI:Room 1 _:=as.mono (by decide);have a1:Room 2 _:=as.mono (by decide);have bN:Room 3 _:=as.mono (by decide);have bn:Room 5 _:=as.mono (by decide);have fk:Room 6 _:=as.mono (by decide);refine⟨_,zac (zbG PassesOwn.never J (zbj J T.range (pa_B (zaB zaN (zao (zfh J) (by rfl) eF.min zl4 (zaa (zao zaD (by rfl) T.len b_len (zaa (pv 0) zad)) (pa_K zaf zad))) zaf) zad)) (zaq (i:=1) G J (Or.inl J))
    (zac (zap (i:=2) G J (Or.inl J) (zas eK aI J eJ k1 eI .nil pass0 (zaa (pv 0) (zaa (pv 1) zad))))
    (zac (zap (i:=3) G J (Or.inl J) (zas eN bN J eM k2 eL .nil pass0 (zaa (pv 2) zad)))
    (zac (zap (i:=4) G J (Or.inl J) (zaE (zaa (zas eQ a1 J eP k3 eO .nil pass0 (zaa (pv 2) (zaa (pv 3) (pa_K zaf zad)))) zad)))
    (zac (zap (i:=5) G J (Or.inl J) (zk2 M fb as J eG fa .nil pass0 (zaa (pv 3) (zaa (zau ix_list (pv 4) zaf (λ_ _=>rfl)) zad))))
    (zai (zbG PassesOwn.never J (zbj J T.range (pa_B (zaB zaN zaf (zas c1 aI J c0 cY cZ .nil pass0 (zaa (pv 2) (zaa zaf zad)))) zad)) (zaq (i:=6) G J (Or.inl J))
     (zac (zbz (zas eT bN J eS k5 eR .nil pass0 (zaa (pv 2) (zaa (pv 3) (zaa (zau ix_list (pv 4) (zbL zbb zaf) (λ_ _=>rfl)) zad)))) (zic J (zaw (zaq (i:=7) G J (Or.inl J)) (zaw (zaq (i:=8) G J (Or.inl J)) (zaw (zaq (i:=9) G J (Or.inl J)) za6)))))
     (zac (zbz (zas eX fk J eW eU eV .nil pass0 (zaa (pv 3) (zaa (zau ix_list (pv 4) (zbL zbb zaf) (λ_ _=>rfl)) (zaa (pv 7) (zaa (pv 8) (zaa (pv 9) zad)))))) (zic J (zaw (zaq (i:=10) G J (Or.inl J)) (zaw (zaq (i:=11) G J (Or.inl J)) za6))))
     (zac (zaY (zat (zc6 bn) (zas c5 as J c4 c2 c3 .nil pass0 (zaa (pv 5) (pa_L (zaE (pa_K zay (zaa (pv 7) (zaa (pv 8) (zaa (pv 9) zad))))) zad))) (zaE (pa_K zay (zaa (pv 11) zad))) (zaz _)) (zai (zax zd6)) zaA)
     (zac (zaU (zbN PySem.F.plainAttrs_list PySem.F.slot_list_append PySem.F.type_list_append zaL (pv 4) (zaa (pv 10) zad)))
     (zac (zbG PassesOwn.never J (zbj J T.range (zaa (zau ix_list (zaE (pa_K zaf (pa_K zaf (pa_K zaf (pa_K zaf (pa_K zaf zad)))))) (zas c1 aI J c0 cY cZ .nil pass0 (zaa (pv 2) (zaa zaf zad))) (λ_ _=>rfl)) zad)) (zaq (i:=12) G J (Or.inl J))
      (zac (zap (i:=11) G J (Or.inl J) (zaE (pa_K zay (pa_K zea zad))))
      (zac (zaY (zat zg9 (zao zaD (by rfl) T.len b_len (zaa (pv 4) zad)) zaf (zaz _))
       (zac (zap (i:=11) G J (Or.inl J) (zaE (pa_K zay (pa_K zea zad)))) (zai (zaU (zfo PySem.F.plainAttrs_list PySem.F.slot_list_pop PySem.F.type_list_pop zgw (pv 4))))) zaA)
      (zai (zaY (zat (zc6 bn) (zas c5 as J c4 c2 c3 .nil pass0 (zaa (pv 5) (pa_L (zaE (pa_K zay zad)) zad))) (pv 11) (zaz _)) (zai (zax zd6)) zaA)))))
     (zac (zaY (PW.pt (zlT (zat zfg (zgs (pv 5) bL.cl ff fh aI fg .nil pass0) (zau ix_list (pv 4) (zbL zbb zaf) (λ_ _=>rfl)) (zaz _)) (zky (zat (zc6 bn) (zgs (pv 5) bL.cl c6 fe aI fc .nil pass0) (zau ix_list (zas e1 a1 J e0 eY eZ .nil pass0 (zaa (pv 3) (zaa (zau ix_list (pv 4) (zbL zbb zaf) (λ_ _=>rfl)) zad))) zaf (λ_ _=>rfl)) (zaz _))))) (zai (zax zd6)) zaA)
     (zac (zap (i:=13) G J (Or.inl J) (zli (zas e5 a1 J e4 e2 e3 .nil pass0 (zaa (pv 3) (zaa (zau ix_list (pv 4) (zbL zbb zaf) (λ_ _=>rfl)) zad)))))
     (zai (zbG PassesOwn.never J (zbj J T.range (pa_B (zaB zaN (zao zam (by rfl) T.len b_len (zaa (zau ix_list (pv 4) (zbL zbb zaf) (λ_ _=>rfl)) zad)) zaf) zad)) (zaq (i:=14) G J (Or.inl J))
      (zai (zaY (zat (zf1 bn) (zaV (pv 5) bL.cl aj fj bN fi .nil pass0 (zaa (pv 14) zad)) (zas e9 aI J e8 e6 e7 .nil pass0 (zaa (pv 13) (zaa (pv 14) zad))) (zaz _)) (zai (zax zd6)) zaA))))))))))))))))))
   (zai (zax zd6)),?_⟩
  dsimp only[cxOf,Cx.nox,Cx.wish];have gI:(100000:Nat)<=sizeLine:=by rw[sizeLine_eq];decide
  obtain⟨n,fl,c9⟩:=zmu (m:=10) (bM.map V.int).length;obtain⟨fm,bO⟩:=c8.tbl;refine zba λD gJ fn _ _=>zah λY B=>?_;refine⟨_,J,a,_,J,.inl c7,_,_,J,_,_,J,J,(n:Int)+2,?_,by omega,by omega,?_⟩
  .rw[←fl];rfl
  refine zbA (λ_=>Ou9 tb a H) ⟨none,none,none,none,none,none,none,none,none,none,none,none,none,none,J,λb o _ e=>e,c8⟩ ?_ ?_
  .rintro i σ H0 hi ⟨fo,fq,fr,ft,fu,fv,fw,fx,fy,fz,fA,fB,fC,fD,rfl,da,fE⟩;have gK:i<n+2:=by omega
   show (tSeq _ _) _ _ _;refine zba λgL fF gM _ _=>zah λY B=>?_;refine⟨_,J,_,J,a,bM,i,by simp,zke bO da c7,by omega,λz H1 db bP bQ=>B _ _ (zah λY B=>?_)⟩;have dc:=fE.same bP;refine⟨_,J,z,J,bQ,λv b H2 a2 bR au=>B _ _ (zah λY B=>?_)⟩;have bS:=zgo dc bQ a2;refine⟨_,J,_,J,z,v,b,20,J,a2.2,bR,au,by decide,by decide,λaf bT bo fG=>⟨by show (1:Nat)<=_;omega,λpl a3=>B _ _ (zah λY B=>?_)⟩⟩;have a4:=a2.trans bo;have dd:=zgo bS a2.2 bo;have de:=bR.mono bo.1;have a5:=Same.new (o:=.lst [.str af]) a3;have a6:upd bT pl (.lst [.str af]) pl=some (.lst [.str af]):=zab;have bU:pl≠z:=a4.2.ne a3;have df:=a4.2.same a5;have bV:=dd.same a5;have dg:=de.mono a5.x;have k3:∀I o,H0 I=some o->upd bT pl (.lst [.str af]) I=some o:=λI o e=>a5 I o (a4.1 I o (zae e db) (bP I o e));generalize upd bT pl (.lst [.str af])=a7 at *;have bW:∀ {q:Addr},a7 q=none->H0 q=none:=λ{q} h=>by
    cases e:H0 q with
    |none=>rfl
    |some o=>rw[k3 q o e] at h;cases h
   have dh:H0 pl=none:=by
    cases e:H0 pl with
    |none=>rfl
    |some o=>rw[a4.1 pl o bU (bP _ _ e)] at a3;cases a3
   clear a4 dd de a5 a3 bo bS bR a2 dc bQ;refine⟨_,J,_,J,pl,_,0,_,J,J,SqL.of a6,zaj (j:=0) J,λr dx a8 di bp=>?_⟩;have dj:Same a7 (upd a7 dx (.own r)):=Same.new di;have dk:upd a7 dx (.own r) r=none:=by rw[zak bp.symm];exact a8
   have aA:=dj.trans (Same.new (o:=.ins CP dx []) dk);refine⟨z,r,dx,v,b,af,J,zab,df.same aA,bV.same aA,dg.mono aA.x,au,by omega,λpt ps so dxs pr pn pw tab N ks bX dl fH k5 dm dn dp bY dq bZ aB aC=>⟨J,B _ _ ?_⟩⟩;have b0:=aA _ _ a6;have dr:bX pl=some (.lst [.str af]):=k5 _ _ (λc=>c.elim (zae a6 a8) (by obtain⟨fm,bO⟩:=bV.tbl;exact zar a6 bO (by intro q;cases q))) b0;have aj:∀ {q:Addr},upd (upd a7 dx (.own r)) r (.ins CP dx []) q=none->pl≠q/\H0 q=none:=λh=>⟨zae b0 h,bW (aA.free h)⟩;have b1:S9 P w tb CP CS z r dx v b so dxs pr pn pw pl H0 bX af pt ps tab N ks [] [] [af]:=
    ⟨dl,dm,dn,dp,.nil af,dr,⟨bU,(aj aB).1,(aj aC).1,(aj bY).1,(aj bZ).1⟩,λI o bq e=>k5 I o (λc=>c.elim (zae (k3 I o e) a8) bq) (aA I o (k3 I o e)),db,bW a8,(aj bY).2,(aj dq).2,(aj bZ).2,dh⟩
   clear dl dm dn dp dr k5 aj bY dq bZ aB aC b0 aA dk dj di bp a8 bW k3 bU df bV dg a6 dh;refine⟨_,J,z,9,J,b1.B0,by decide,by decide,λbr gN gO dt=>?_⟩;refine⟨4,br,J,J,4+(br:Int),J,by omega,by omega,?_⟩;have fI:(4+(br:Int)).toNat=4+br:=by omega
   rw[fI];have du:=b1.aft dt;clear b1 dt bX;refine zbA (Tn9 P w tb CP CS z r dx v b so dxs pr pn pw pl H0 a i)
    ⟨af,pt,ps,tab,N,ks,[],[],_,_,_,_,_,_,_,_,_,J,du,Nat.le_refl _,by show tab.length+2000*0<=_;omega,λy hy=>by rw[List.mem_singleton.mp hy];omega⟩ ?_ ?_
   .clear du fH fG;rintro t σ dv gP ⟨x,pt,ps,tab,N,ks,wl,xs,fJ,a9,ba,bb,bc,bd,be,b2,aD,rfl,al,am,ao,ac⟩;have gQ:t<12:=by omega
    show (tSeq _ _) _ _ _;refine zba λgR fK gS _ _=>zah λY B=>?_;have dw:x.length<=80+48*t:=ac x (List.mem_append_right _ List.mem_cons_self);have dy:=al.bk.len;have dz:dv pl=some (.lst (xs.map V.str++[V.str x])):=by rw[←em9];exact al.hpl
    refine⟨_,J,_,J,_,J,1,J,pl,_,-1,_,J,J,SqL.of dz,zb2 _ _,z,v,b,x,J,al.B0,al.pg.rb,au,by omega,λag ak tx fL fM dA fN dB bf bg fO=>?_⟩;refine⟨fL,_,J,SqL.of dB,J,_,_,J,_,_,J,_,_,J,J,B _ _ (zah λY B=>?_)⟩;have aJ:=al.aft dA;clear al dA fN dB dz;have dC:fM pl=some (.lst (xs.map V.str++[V.str x])):=by rw[←em9];exact aJ.hpl
    refine⟨_,J,_,J,1,J,pl,_,-1,_,J,J,SqL.of dC,zb2 _ _,_,J,_,J,_,J,z,v,b,x,ag,ak,tx,J,aJ.B0,aJ.pg.rb,au,by omega,bf,bg,λfP aK aE y aF N' b3 l gT dD dF fQ dG dH hy dI dJ dK=>?_⟩;refine⟨fP,_,J,SqL.of dH,J,_,_,J,_,_,J,J,B _ _ (zah λY B=>?_)⟩;have dL:=aJ.same dF;have dM:aK≠z:=aJ.B0.ne dG;clear aJ dF fQ dG dH dC;refine⟨_,J,_,J,_,J,_,J,by show (4:Nat)<=_;omega,λpd av=>?_⟩;have b4:=Same.new (o:=.lst [.str "change",.int ag,.int ak,.str tx]) av;have aL:upd dD pd (.lst [.str "change",.int ag,.int ak,.str tx]) pd=some (.lst [.str "change",.int ag,.int ak,.str tx]):=zab;generalize upd dD pd (.lst [.str "change",.int ag,.int ak,.str tx])=fR at *;have O:=dL.same b4;have b5:=b4 _ _ dJ;clear dL b4 av dJ;refine .ch r dx pd _ (.int ag) (.int ak) (.str tx) rfl O.pg.ins (za8 (by simp)) aL λdN dO bs b6=>?_;refine⟨z,r,dx,v,b,x,pt,ps,so,dxs,pr,pn,pw,tab,N,ks,ag,ak,tx,wl,J,O.pg,O.B0,O.L,bf,bg,by omega,by omega,O.hpw,by omega,λap gU x' fS fT m d pt' ps' ks' b7 b8 aM b9 fU bt dP dQ dR fV dS ca aB aC=>bs _ _ λp np=>?_⟩;obtain⟨fW,dT,el⟩:=zku au bf bg aM b9.run dK O.pg.run hy dI;subst fW;rw[dT,el] at ca;obtain⟨dU,rfl,_,dV⟩:=fV;obtain⟨dW,aN,_,bh⟩:=id O.pg.sd.ex;obtain⟨fX,bi⟩:=O.L.tbl;have bj:NoTup (λa=>a=pw∨a=r∨a=pr∨a=pn∨a=tb) fR:=zby (zaH O.hpw (by intro xs c;cases c)) (zby (zaH O.pg.ins (by intro xs c;cases c)) (zby (zaH aN (by intro xs c;cases c)) (zby (zaH bh (by intro xs c;cases c)) (zaH bi (by intro xs c;cases c)))));obtain⟨ay,aH,az⟩:=zlL bf bg aM.tx rfl;have cb:=O.pg.xl;have dX:Backs b8 (wl++[.ref dU]) (xs++[x]) aE:=.snoc (O.bk.keep bt bj) (by rw[dV];congr 3) (Nat.le_add_right ag tx.length) ay (by omega) az;have bu:=O.put b9 bt dP dQ dR dX aB aC;have dY:=bt _ _ (λc=>bj _ _ c b5) b5;have dZ:ap≠z:=O.B0.ne dS;have fY:aE.length<=x.length+48:=by
     have h1:=congrArg List.length aM.tx;rw[List.length_append,List.length_append,List.length_take,List.length_drop,zal,zal,zal] at h1;omega
    clear O dX dV bj bt b5 dS dP dQ dR b9 aB aC aN bh bi aL;have cc:=Same.new (o:=.lst [.str "",.ref ap]) np;refine⟨_,J,by show (2:Nat)<=_;omega,λp2 ce=>?_⟩;have d0:upd b8 p (.lst [.str "",.ref ap]) p=some (.lst [.str "",.ref ap]):=zab;have d1:p≠z:=bu.B0.ne np;generalize upd b8 p (.lst [.str "",.ref ap])=d2 at *;have cf:=Same.new (o:=.lst [.str "",.ref aK]) ce;have d3:p2≠z:=(bu.B0.same cc).ne ce;have d4:upd d2 p2 (.lst [.str "",.ref aK]) p2=some (.lst [.str "",.ref aK]):=zab;have d5:=cf _ _ d0;generalize upd d2 p2 (.lst [.str "",.ref aK])=bv at *;have bw:=cc.trans cf;have d6:Rep z bv (.ref ap) (.tup [.int (runF b y b3).at_,.int (l:Nat)]):=.tup (bw _ _ ca) dZ (.cons (.int _) (.cons (.int _) .nil));have d7:Rep z bv (.ref aK) (.tup [.int (runF b y b3).at_,.int (l:Nat)]):=.tup (bw _ _ dY) dM (.cons (.int _) (.cons (.int _) .nil));refine⟨z,z,[.str "",.tup [.int (runF b y b3).at_,.int (l:Nat)]],.lst d5 d1 (.cons (.str _ (by decide +kernel)) (.cons d6 .nil)),.lst d4 d3 (.cons (.str _ (by decide +kernel)) (.cons d7 .nil)),.cons (.str _ _) (.cons (.tup (.cons (.int _ _) (.cons (.int _ _) (.nil _)))) (.nil _)),_,J,iteF (B _ _ (zah λY B=>?_))⟩;have cg:=bu.same bw;clear bu d6 d7 d5 d0 d4 cc cf bw np ce ca dY d1 d3 dZ dM;have ch:bv pl=some (.lst (xs.map V.str++[V.str x])):=by rw[←em9];exact cg.hpl
    have ci:(xs.map V.str++[V.str x]).length=xs.length+1:=by rw[List.length_append,List.length_map];rfl
    refine⟨_,J,.inl ⟨J,_,SqL.of ch⟩,_,J,pl,_,_,J,J,ch,by omega,B _ _ ?_⟩;have bk:=cg.app (xs++[x]++[aE]);have cj:(xs++[x]++[aE]).map V.str=xs.map V.str++[V.str x]++[V.str aE]:=by rw[em9,em9]
    rw[cj] at bk;generalize upd bv pl (.lst (xs.map V.str++[V.str x]++[V.str aE]))=d8 at *;clear cg ch;refine zdN (J0:=Bk9 P w tb CP CS z r dx v b so dxs pr pn pw pl H0 a i t b2 aD) (λY J0=>?gA) ?gB
    case gA=>
     refine⟨by show (5:Nat)<=_;omega,λbl ck=>?_⟩;have d9:=Same.new (o:=.lst [.int 0,.int 0,.int 1,.int 2,.int 20]) ck;have eb:upd d8 bl (.lst [.int 0,.int 0,.int 1,.int 2,.int 20]) bl=some (.lst [.int 0,.int 0,.int 1,.int 2,.int 20]):=zab;have ec:bl≠z:=bk.B0.ne ck;generalize upd d8 bl (.lst [.int 0,.int 0,.int 1,.int 2,.int 20])=ed at *;have Z:=bk.same d9;refine⟨_,J,z,5,J,Z.B0,by decide,by decide,λcm fZ a1 cn=>?_⟩;have aw:=Z.aft cn;have ee:=cn.1 _ _ ec eb;obtain⟨aO,ef,gW⟩:∃aO:Nat,([V.int 0,V.int 0,V.int 1,V.int 2,V.int 20]:List V)[cm]?=some (.int (aO:Int))/\aO<=20:=by
      match cm,a1 with
      |0,_=>exact⟨0,J,by omega⟩
      |1,_=>exact⟨0,J,by omega⟩
      |2,_=>exact⟨1,J,by omega⟩
      |3,_=>exact⟨2,J,by omega⟩
      |4,_=>exact⟨20,J,by omega⟩
      |m+5,h=>omega
     refine⟨bl,_,cm,_,J,J,SqL.of ee,zaj ef,(aO:Int),J,by omega,by omega,?_⟩;have f0:((aO:Int)).toNat=aO:=by omega
     rw[f0];clear bk Z d9 ck eb ec cn ee ef;refine zbA (λ_=>Bk9 P w tb CP CS z r dx v b so dxs pr pn pw pl H0 a i t b2 aD)
      ⟨aE,pt',ps',b7,_,ks',wl++[.ref dU],xs++[x],_,_,_,_,_,_,J,aw,by rw[List.length_append];show xs.length+1<=_;omega,by rw[List.length_append];show _+2000*(xs.length+1)<=_;omega,λy hy=>by
       rcases List.mem_append.mp hy with hy|hy
       .have:=ac y hy;omega
       .rw[List.mem_singleton.mp hy];omega⟩ ?_ ?_
     .clear aw ci dy dw ac am ao cj fY fU fO bf bg aM dK hy dI ay aH az dT el cb;rintro j σ aP f1 ⟨x,pt,ps,tab,N,ks,wl,xs,a9,ba,bb,bc,bd,be,rfl,ad,am,ao,ac⟩;show (tSeq _ _) _ _ _;refine zba λgX eg gY _ _=>zah λY B=>?_;refine⟨by show (2:Nat)<=_;omega,λbx co=>B _ _ (zah λY B=>?_)⟩;have aQ:=Same.new (o:=.lst [.str "Nothing+",.non]) co;have eh:upd aP bx (.lst [.str "Nothing+",.non]) bx=some (.lst [.str "Nothing+",.non]):=zab;have ei:bx≠z:=ad.B0.ne co;generalize upd aP bx (.lst [.str "Nothing+",.non])=ah at *;have aa:=ad.same aQ;clear ad aQ co;have bz:ah pl=some (.lst (xs.map V.str++[V.str x])):=by rw[←em9];exact aa.hpl
      have ej:(xs.map V.str++[V.str x]).length=xs.length+1:=by rw[List.length_append,List.length_map];rfl
      refine⟨_,J,pl,_,J,.inl (SqL.of bz),_,_,J,J,_,J,ite2 (λg=>?_) (λg=>B _ _ ?_)⟩
      .have g:=of_decide_eq_true g;have bp:xs≠[]:=λe=>by
        rw[ej,e] at g;exact absurd g (by decide)
       obtain⟨cp,ax,y,t',ap,ag,ak,rfl,rfl,f2,ek,h1,h2,f3,f4⟩:=aa.bk.last bp;refine zah λgZ f5=>?_;refine⟨by show (2:Nat)<=_;omega,λaq aR=>f5 _ _ ?_⟩;have ae:=Same.new (o:=.lst [.str "",.non]) aR;have em:upd ah aq (.lst [.str "",.non]) aq=some (.lst [.str "",.non]):=zab;have f6:aq≠z:=aa.B0.ne aR;have f7:aq≠pl:=(zae bz aR).symm;have f8:aq≠pw:=(zae aa.hpw aR).symm;have f9:aq≠pr:=by
        obtain⟨dW,aN,_,_⟩:=id aa.pg.sd.ex;exact(zae aN aR).symm
       generalize upd ah aq (.lst [.str "",.non])=aS at *;have ai:=aa.same ae;have aT:=ae _ _ bz;have cq:=ae _ _ ek;clear aa ae aR bz ek eh ei f2;refine⟨_,J,.inl ⟨J,_,SqL.of aT⟩,pl,_,.str x,J,J,aT,by simp,B _ _ ?_⟩;rw[List.dropLast_concat];have aG:=ai.app (ax++[y]);have en:upd aS pl (.lst ((ax++[y]).map V.str)) ap=some (.tup [.int ag,.int ak,.str t']):=by rw[zak (zar cq aT (by intro c;cases c))];exact cq
       have eo:upd aS pl (.lst ((ax++[y]).map V.str)) aq=some (.lst [.str "",.non]):=by rw[zak f7];exact em
       generalize upd aS pl (.lst ((ax++[y]).map V.str))=aU at *;clear ai aT cq em;refine⟨_,J,by show (1:Nat)<=_;omega,λpd av=>?_⟩;have ar:=Same.new (o:=.lst [.str "back"]) av;have aL:upd aU pd (.lst [.str "back"]) pd=some (.lst [.str "back"]):=zab;generalize upd aU pd (.lst [.str "back"])=cr at *;have ab:=aG.same ar;have ga:=ar _ _ en;have bA:=ar _ _ eo;clear aG ar av en eo;have cb:=ab.pg.xl;obtain⟨dW,aN,_,bh⟩:=id ab.pg.sd.ex;obtain⟨fX,bi⟩:=ab.L.tbl;have bj:NoTup (λa=>a=pw∨a=r∨a=pr∨a=pn∨a=tb) cr:=zby (zaH ab.hpw (by intro xs c;cases c)) (zby (zaH ab.pg.ins (by intro xs c;cases c)) (zby (zaH aN (by intro xs c;cases c)) (zby (zaH bh (by intro xs c;cases c)) (zaH bi (by intro xs c;cases c)))));have gb:Backs cr cp ax y:=by
        obtain⟨g0,g1,bD,g2,g3,g4,g5,aW,aX,aY,_⟩:=ab.bk.last (λe=>by simp at e);obtain⟨ay,_⟩:=List.append_inj' aW rfl;obtain⟨aH,az⟩:=List.append_inj' aX rfl;cases az;rw[ay,aH];exact aY
       have ci:(ax++[y]).length=ax.length+1:=by rw[List.length_append];rfl
       refine .bk r dx pd _ rfl ab.pg.ins zjm aL λdN dO bs b6=>.inl ?_;refine⟨z,r,dx,v,b,x,pt,ps,so,dxs,pr,pn,pw,ap,tab,N,ks,ag,ak,t',cp,J,ab.pg,ab.B0,ab.L,h1,h2,f3,by omega,ab.hpw,ga,λx' fS fT m d pt' ps' ks' b7 cs aM gc g6 cu gd ge gf aB aC=>bs _ _ λp np=>?_⟩;have gg:x'=y:=zca (by rw[aM.tx,f4]);subst gg;have eq:=ab.put gc cu gd ge gf (gb.keep cu bj) aB aC;have gh:cs aq=some (.lst [.str "",.non]):=by
        refine cu _ _ (λc=>?_) bA;rcases c with c|c|c|c|c
        .exact f8 c
        .exact zar bA ab.pg.ins (by intro q;cases q) c
        .exact f9 c
        .exact zar bA bh (by intro q;cases q) c
        .exact zar bA bi (by intro q;cases q) c
       have er:=Same.new (o:=.lst [.str "",.non]) np;have bm:Reps z (upd cs p (.lst [.str "",.non])) [.str "",.non] [.str "",.non]:=.cons (.str _ (by decide +kernel)) (.cons .non .nil);have gi:=eq.same er;refine⟨_,J,z,z,[.str "",.non],.lst zab (eq.B0.ne np) bm,.lst (er _ _ gh) f6 bm,.cons (.str _ _) (.cons (.non _) (.nil _)),_,J,iteF (eg _ _ ?_)⟩;refine⟨x',pt',ps',b7,_,ks',cp,ax,_,_,_,_,_,_,J,gi,by omega,by omega,λy' gj=>ac y' (List.mem_append_left _ gj)⟩
      .have gk:xs=[]:=by
        cases xs with
        |nil=>rfl
        |cons c l=>exact absurd (decide_eq_true (show (1:Int)<(((c::l).map V.str++[V.str x]).length:Int) by rw[ej];show (1:Int)<(((l.length+1)+1:Nat):Int);omega)) g
       subst gk;have gl:wl=[]:=List.eq_nil_of_length_eq_zero (by rw[aa.bk.len];rfl);subst gl;refine⟨_,J,by show (1:Nat)<=_;omega,λpd av=>?_⟩;have ae:=Same.new (o:=.lst [.str "back"]) av;have aL:upd ah pd (.lst [.str "back"]) pd=some (.lst [.str "back"]):=zab;generalize upd ah pd (.lst [.str "back"])=aS at *;have ai:=aa.same ae;have gm:=ae _ _ eh;clear aa ae av;refine .bk r dx pd _ rfl ai.pg.ins zjm aL λdN dO bs b6=>.inr ?_;refine⟨r,dx,v,x,pt,ps,so,pw,J,ai.pg.ins,ai.hpw,b6 _ _ _ ⟨aV,false,false,false,false,false,false,true,false,J,eH,λH2 aZ p np=>?_⟩⟩;rw[kN];have ar:=Same.new (o:=.lst [.str "Nothing+",.non]) np;have bm:Reps z (upd H2 p (.lst [.str "Nothing+",.non])) [.str "Nothing+",.non] [.str "Nothing+",.non]:=.cons (.str _ (by decide +kernel)) (.cons .non .nil);have et:=ai.same aZ;refine⟨_,J,z,z,[.str "Nothing+",.non],.lst zab (et.B0.ne np) bm,.lst (ar _ _ (aZ _ _ gm)) ei bm,.cons (.str _ _) (.cons (.non _) (.nil _)),_,J,iteF (eg _ _ ?_)⟩;exact⟨x,pt,ps,tab,N,ks,[],[],_,_,_,_,_,_,J,et.same ar,am,ao,ac⟩
     .rintro σ aP ⟨x,pt,ps,tab,N,ks,wl,xs,a9,ba,bb,bc,bd,be,rfl,ad,am,ao,ac⟩;exact J0 _ _ ⟨x,pt,ps,tab,N,ks,wl,xs,_,_,_,_,_,_,J,ad,am,ao,ac⟩
    case gB=>
     clear bk ci dy dw ac am ao cj;rintro σ ed ⟨x,pt,ps,tab,N,ks,wl,xs,a9,ba,bb,bc,bd,be,rfl,Z,am,ao,ac⟩;have cv:ed pl=some (.lst (xs.map V.str++[V.str x])):=by rw[←em9];exact Z.hpl
     have cb:=Z.pg.xl;have gn:¬(!decide (V.str x=V.str x))=true:=by simp
     refine zah λY B=>?_;refine⟨_,J,r,dx,_,J,Z.pg.ins,za8 (by simp),z,r,dx,v,b,x,pt,ps,so,dxs,pr,pn,pw,tab,N,ks,J,Z.pg,_,J,1,J,pl,_,-1,_,J,J,SqL.of cv,zb2 _ _,J,_,J,ite2 (λg=>absurd g gn) (λ_=>?_)⟩;refine⟨_,J,r,dx,_,J,Z.pg.ins,za8 (by simp),z,r,dx,v,b,x,pt,ps,so,dxs,pr,pn,pw,tab,N,ks,J,Z.pg,λg7 g8 fZ cw eu ew ey=>?_⟩;have aw:=Z.same cw;refine⟨_,J,_,J,1,J,pl,_,-1,_,J,J,SqL.of (cw _ _ cv),zb2 _ _,z,v,b,x,J,aw.B0,aw.pg.rb,au,by omega,λgo g9 ha hb aP bB ez gp cx gq=>?_⟩;refine⟨go,_,0,_,J,J,SqL.of ez,zaj (j:=0) J,?_⟩;rw[zmt gp aw.pg.run.at_] at cx;refine⟨z,z,_,.lst (bB _ _ ew) (Z.B0.ne eu) (ey.mono bB.x),cx,zi3 3 _,_,J,iteF (B _ _ (zah λY B=>?_))⟩;have ad:=aw.same bB;clear Z aw cx gq ez ew ey eu cw bB cv;have cy:aP pl=some (.lst (xs.map V.str++[V.str x])):=by rw[←em9];exact ad.hpl
     refine⟨_,J,_,J,1,J,pl,_,-1,_,J,J,SqL.of cy,zb2 _ _,z,v,b,x,J,ad.B0,ad.pg.rb,au,by omega,λU kvs aF ah aQ eA cz gr cA=>?_⟩;refine⟨U,kvs,J,cz,λep eB=>B _ _ ?_⟩;have aa:=ad.same aQ;have gs:aF=N:=gr.uniq aa.pg.run;subst gs;have ae:Same aP (upd ah U (dE P w U ep kvs)):=λI o eC=>by rw[zak (zae eC eA)];exact aQ I o eC
     have gt:StdK z (upd ah U (dE P w U ep kvs)) b x (aF+1) kvs:=cA.keep (S:=λa=>a=U) zaS (zaH cz (by intro xs c;cases c));have gu:upd ah U (dE P w U ep kvs) U=some (dE P w U ep kvs):=zab;have ai:=ad.same ae;have aT:=ae _ _ cy;generalize upd ah U (dE P w U ep kvs)=aS at *;have hc:=ai.pg.nle;have gv:kvs.length<=20001:=by
      have h1:=zjr (m:=(List.range (aF+1)).map λn=>(Sum.inl ((runF b x n).at_:Int):Key)) eB λk gw=>by
       obtain⟨eD,gx,rfl⟩:=List.mem_map.mp gw;have gy:(valV kvs eD.1).isSome=true:=by
        rw[←zb4,List.any_eq_true];exact⟨eD,gx,decide_eq_true J⟩
       obtain⟨u,gz⟩:=Option.isSome_iff_exists.mp gy;obtain⟨n,c9,e⟩:=cA.all _ u gz;exact List.mem_map.mpr ⟨n,List.mem_range.mpr c9,e.symm⟩
      simp at h1;omega
     clear ad aa cA aQ eA cz cy ae ah eB;refine⟨_,J,1,J,pl,_,-1,_,J,J,SqL.of aT,zb2 _ _,x,J,by omega,_,_,J,J,(x.length:Int)+1,J,by omega,by omega,?_⟩;have gC:((x.length:Int)+1).toNat=x.length+1:=by omega
     rw[gC];refine zbA (λj σ aU=>∃aD,σ=[some (.ref a),some (.int (0+i)),some (.ref z),some v,some (.ref pl),some (.ref r),some (.int (0+t)),a9,ba,bb,bc,bd,be,some (.ref U),aD]/\Same aS aU) ⟨_,J,Same.refl _⟩ ?_ ?_
     .rintro j σ aU f1 ⟨aD,rfl,bC⟩;have aG:=ai.same bC;refine⟨_,J,r,dx,_,J,aG.pg.ins,zmN,_,J,z,r,dx,v,b,x,pt,ps,so,dxs,pr,pn,pw,tab,aF,ks,j,by simp,aG.pg,aG.B0,by omega,λp hd cr ar np gD gE=>?_⟩;have cB:=bC.trans ar;refine⟨_,J,_,J,z,U,ep,kvs,b,x,aF,j,by simp,cB _ _ gu,aG.pg.run,au,gt.same cB,gv,λp2 c6 cs eE gF gG=>?_⟩;have gH:=gD.uniq gF;subst gH;exact⟨z,z,_,gE.mono eE.x,gG,zg6 3 _,_,J,iteF ⟨_,J,cB.trans eE⟩⟩
     .rintro σ aU ⟨aD,rfl,bC⟩;exact fK _ _ ⟨x,pt,ps,tab,aF,ks,wl,xs,_,_,_,_,_,_,_,_,_,J,ai.same bC,am,ao,ac⟩
   .rintro σ dv ⟨x,pt,ps,tab,N,ks,wl,xs,fJ,a9,ba,bb,bc,bd,be,b2,aD,rfl,al,am,ao,ac⟩;exact fF _ _ ⟨_,_,_,_,_,_,_,_,_,_,_,_,_,_,J,λI o bq e=>al.old I o bq (da I o bq e),al.L⟩
  .rintro σ H2 ⟨fo,fq,fr,ft,fu,fv,fw,fx,fy,fz,fA,fB,fC,fD,rfl,aZ,bS⟩;exact B _ _ (fn _ _ (k H2))
end T1
namespace L2
open PySem PySem.Spec PyProof.Rows
theorem law_callT{P:Program}{w:World}{K:W.Frag}{mg ad:Str->Option Value}{CX:CXT}{k:Nat}{ae a c tb:Addr}{fd:FuncData}{x:Str}{sp:Sp}{B:Shared}{vs:List Value}{U:List Int}(af:K.In B.heap)(ag:B.heap.Ns mainGlobals mg)(D:B.heap.Ns builtinsNs ad)(aw:∀x:Str,x≠"__name__"->ad x=bootBuiltins x)(ax:B.heap.NoLimit)(ay:B.gens=#[])(az:∃Y ob,mg "__builtins__"=some (.ref Y)/\Y≠builtinsNs/\B.heap.get? Y=some ob/\ob.cls=.type "module"/\ob.dict=some builtinsNs/\ob.data=.plain)(aA:W.codeHdIn K c tb=true)(I:B.heap.get? tb=some (W.tabObj #[]))(ak:K.lookup tb=none)(J0:B.heap.get? a=some { cls:=.type "list",data:=.seq vs.toArray })(hi:IntsAre vs U)(al:U.length<=sizeLine)(aB:Room k callerA)(F:∀base:Heap,K.In base->base.Ns mainGlobals mg->base.BuiltinsAt mg tb->FnOk P w K mg base CX k ae fd [x] sp)(aC:∀(s:Shared) (u:Value),BindsTo s fd ⟨[u],[]⟩ [(x,u)])(aD:∀H:Hp,H tb=some (.tbl #[])->SqL K H a (U.map V.int)->sp [.ref a] H (λv _=>v=.bl true) λ_ _ _=>False)(aE:∀H e s',CX [] H B (λ_ _ _=>False) e s'->False) :
  codeAny (model P w) callerA (.call (.ref ae) ⟨[.ref a],[]⟩) (λr s'=>r=.ok (.ret (.bool true))/\OldK B.heap s'.heap/\s'.os=B.os/\AllBare s'.gens) B:=by
 have am:=zfp hi;have aF:=hi.length;have aG:a≠tb:=λz=>by
  rw[z,I] at J0;cases J0
 have ao:∀H:Hp,H tb=some (.tbl #[])->(∀b,b≠tb->H b=none∨∃o xs,H b=some (.frz o (.lst xs)))->SqL K H a (U.map V.int)->HOk P w H B.heap->(∀b,H b≠none->b=a∨b=tb)->(∀b,H b≠none->K.lookup b=none) ->
   codeAny (model P w) callerA (.call (.ref ae) ⟨[.ref a],[]⟩) (λr s'=>r=.ok (.ret (.bool true))/\OldK B.heap s'.heap/\s'.os=B.os/\AllBare s'.gens) B:=by
  intro H ap aH aI aq ar aJ;have ah:∀ {b:Addr} {o:Obj},B.heap.get? b=some o->H b=none->(hidT B.heap H).get? b=some o:=λe n=>zjs e n;have aK:∀ {b:Addr} {o:Obj},B.heap.get? b=some o->(o.cls=.type "list"->False)->(o.cls=.none->False)->H b=none:=λ{b o} e aL aM=>by
   cases q:H b with
   |none=>rfl
   |some u=>
    rcases ar b (by rw[q];simp) with e'|e'
    .subst e';rw[J0] at e;cases e;exact(aL J).elim
    .subst e';rw[I] at e;cases e;exact(aM J).elim
  have aN:∀ {b:Addr} {o:Obj} {es:Array DictEntry} {ep:Nat},B.heap.get? b=some o->o.data=.dict es ep->H b=none:=λ{b o es ep} e d=>by
   cases q:H b with
   |none=>rfl
   |some u=>
    rcases ar b (by rw[q];simp) with e'|e'
    .subst e';rw[J0] at e;cases e;have d':Data.seq vs.toArray _=Data.dict es ep:=d;cases d'
    .subst e';rw[I] at e;cases e;have d':Data.fields #[]=Data.dict es ep:=d;cases d'
  have Z:∀ {b:Addr} {m:Str->Option Value},B.heap.Ns b m->(hidT B.heap H).Ns b m:=λ{b m} ⟨o,es,ep,e,d,r⟩=>⟨o,es,ep,ah e (aN e d),d,r⟩;have as:K.In (hidT B.heap H):=λb o e=>ah (af b o e) (by
   cases q:H b with
   |none=>rfl
   |some u=>rw[aJ b (by rw[q];simp)] at e;cases e)
  have aO:Mod K mg (hidT B.heap H):=⟨as,Z ag,⟨ad,Z D,aw⟩,let ⟨aP,h1,h2⟩:=ax;⟨aP,Z h1,h2⟩⟩;have aQ:(hidT B.heap H).BuiltinsAt mg tb:=by
   obtain⟨Y,ob,aR,aS,O,aa,aT,ai⟩:=az;refine⟨Y,ob,aR,aS,λq=>?_,λq=>?_,ah O (aK O (λq=>by rw[aa] at q;injection q with q;exact absurd q (by decide)) (λq=>by rw[aa] at q;cases q)),aa,aT,ai⟩
   .obtain⟨o,es,ep,e,aU,_⟩:=ag;rw[q,e] at O;cases O;rw[aU] at ai;cases ai
   .rw[q,I] at O;cases O;cases aa
  have aV:Env0 P w K mg (hidT B.heap H) callerA [] B H:=⟨J,aO,λb o e=>zkW e,Nat.le_of_eq (zhK _ _),trivial,λb D=>absurd (show b∈([]:List Addr) from D) (by simp),aq,.of_eq ay⟩;refine codeAny_mono ((F _ as (Z ag) aQ).run callerA [] B H ⟨[.ref a],[]⟩ [.ref a] [.ref a] _ _ aB aV (aC B (.ref a)) (.cons rfl .nil) (aD H ap aI)) λr s' h=>?_;cases r with
  |error e=>exact(aE H e s' h).elim
  |ok aW=>
   cases aW with
   |next=>exact False.elim h
   |brk=>exact False.elim h
   |cont=>exact False.elim h
   |ret u=>
    obtain⟨v,H',os,aX,ab,au,aY,q⟩:=h;have aZ:v=.bl true:=q;subst aZ;obtain rfl:u=Value.bool true:=aY;refine⟨J,⟨λb o e=>?_,λb o e=>ab.there b o e (by simp)⟩,os,aX⟩;by_cases av:b=tb
    .subst av;rw[I] at e;cases e;obtain⟨more,ac⟩:=ab.tbls b _ ap;have aj:s'.heap.get? b=some { cls:=.none,data:=.fields (#[]++more) }:=au b _ ac;have TA:=(W.codeHd_of_K af aA).tab I;exact .inr (.inl ⟨TA.isCodeTable,J,#[],more,J,aj⟩)
    .refine .inl ?_;cases q:H b with
     |none=>exact ab.keep b o e q (by intro z;exact absurd (show b∈([]:List Addr) from z) (by simp)) (by simp)
     |some u=>
      rcases aH b av with z|⟨ob,xs,z⟩
      .rw[q] at z;cases z
      .have a1:=ab.frzs b ob _ z;obtain⟨ac,_⟩:=aq b _ z;obtain⟨aj,_⟩:=au b _ a1;rw[e] at ac;cases ac;exact aj
 cases hk:K.lookup a with
 |some o=>
  have e:=af a o hk;rw[J0] at e;cases e;refine ao (λb=>if b=tb then some (.tbl #[]) else none) (if_pos J) (λb D=>.inl (if_neg D)) (.inr ⟨_,vs.toArray,_,hk,J,J,J,by rw[List.size_toArray,aF];exact al,by simpa using am⟩) (λb u z=>?_) (λb z=>?_) λb z=>?_
  .by_cases D:b=tb
   .have z':=(if_pos D).symm.trans z;cases z';subst D;exact I
   .have z':=(if_neg D).symm.trans z;cases z'
  .by_cases D:b=tb
   .exact .inr D
   .exact absurd (if_neg D) z
  .by_cases D:b=tb
   .rw[D];exact ak
   .exact absurd (if_neg D) z
 |none=>
  refine ao (λb=>if b=tb then some (.tbl #[]) else if b=a then some (.frz { cls:=.type "list",data:=.seq vs.toArray } (.lst (U.map V.int))) else none) (if_pos J) (λb D=>?_) (.inl (.inr ⟨{ cls:=.type "list",data:=.seq vs.toArray },(if_neg aG).trans (if_pos J)⟩)) (λb u z=>?_) (λb z=>?_) λb z=>?_
  .by_cases G:b=a
   .exact .inr ⟨_,_,(if_neg D).trans (if_pos G)⟩
   .exact .inl ((if_neg D).trans (if_neg G))
  .by_cases D:b=tb
   .have z':=(if_pos D).symm.trans z;cases z';subst D;exact I
   .by_cases G:b=a
    .have z':=((if_neg D).trans (if_pos G)).symm.trans z;cases z';subst G;exact⟨J0,by rw[List.length_map];exact al,vs,_,am,J0⟩
    .have z':=((if_neg D).trans (if_neg G)).symm.trans z;cases z'
  .by_cases D:b=tb
   .exact .inr D
   .by_cases G:b=a
    .exact .inl G
    .exact absurd ((if_neg D).trans (if_neg G)) z
  .by_cases D:b=tb
   .rw[D];exact ak
   .by_cases G:b=a
    .rw[G];exact hk
    .exact absurd ((if_neg D).trans (if_neg G)) z
theorem walk_ofT{l:W.OpenLaw}{n k:Nat}{q:Program}{U:List Str}{XP:(Str->Option Value)->Heap->Prop}{I:World->Heap->Prop}{d:DefRec}{K:Params->W.Frag}{CX:World->CXT}{sp:World->Sp}{x:Str}{tb:Addr}(Y:l.most=some n)(Z:n<=sizeLine)(aa:d.params.defaults=[])(ab:Room k callerA)(ac:∀(w:World) (h:Heap),I w h->(K w.params).In h/\h.get? tb=some (W.tabObj #[]))(F:∀(w:World) (mg:Str->Option Value) (B:Addr) (h:Heap),(K w.params).In h->h.Ns mainGlobals mg->mg d.name=some (.ref B) ->
   ∃(fd:FuncData) (c:Addr),W.codeHdIn (K w.params) c tb=true/\(K w.params).lookup tb=none/\(∀(s:Shared) (u:Value),BindsTo s fd ⟨[u],[]⟩ [(x,u)]) /\
    ∀base:Heap,(K w.params).In base->base.Ns mainGlobals mg->base.BuiltinsAt mg tb->FnOk l.prog w (K w.params) mg base (CX w) k B fd [x] (sp w))(ad:∀(w:World) (H:Hp) (a:Addr) (D:List Int),D.length<=n->H tb=some (.tbl #[])->SqL (K w.params) H a (D.map V.int)->sp w [.ref a] H (λv _=>v=.bl true) λ_ _ _=>False)(ae:∀(w:World) (H:Hp) (s:Shared) (e:Value) (s':Shared),CX w [] H s (λ_ _ _=>False) e s'->False) :
  W.WalkO q U XP I l.row.toRowW d [] (λf vs=>PySem.call f vs):=by
 refine Att.attach_call Y aa λw s₀ af mg au B o pm cd doc a vs D G ag av aw ax ah ai aj J0 ak=>?_;obtain⟨O,al⟩:=ac w _ ag;obtain⟨fd,c,am,ao,ap,aq⟩:=F w mg B _ O G.T.g ah;exact law_callT O G.T.g G.T.b G.T.builtins G.T.nolimit ak G.T.bmain am al ao ai aj (Nat.le_trans J0 Z) ab aq ap (λH ar as=>ad w H a D J0 ar as) λH e s'=>ae w H af e s'
end L2
namespace T1
open PySem L2
structure FK(K:W.Frag)(n:Str)(st:Stmt)(f:Addr)(fd:FuncData):Prop where
 a:W.nsIn K mainGlobals n=some (some (.ref f))
 F:Fun K n n st f fd
structure MK(K:W.Frag)(C:Addr)(n q:Str)(st:Stmt)(f:Addr)(fd:FuncData):Prop where
 M:Meth K C n f
 F:Fun K n q st f fd
section
variable {K:W.Frag}{n q x:Str}{st:Stmt}{f C:Addr}{fd:FuncData}{oc kV doc pm cdv ct:Value}{od an:Option Addr}{osl:Array (Option Value)}
theorem fk(a:W.nsIn K mainGlobals n=some (some (.ref f)))(l:K.lookup f=some ⟨oc,od,.func (W.fnOf n n (zbO st) (zbl st) (zag st) .none kV doc pm an cdv ct),osl⟩)(c:W.codeIn K cdv n=true)(k:W.keepIn K (.ref f)=true) :
  FK K n st f (W.fnOf n n (zbO st) (zbl st) (zag st) .none kV doc pm an cdv ct):=⟨a,zh1 l c k⟩
theorem mkm(a:W.findIn K (.ref C) n=some (some (.ref f)))(i:W.isFn K (.ref f)=true)(l:K.lookup f=some ⟨oc,od,.func (W.fnOf n q (zbO st) (zbl st) (zag st) .none kV doc pm an cdv ct),osl⟩)(c:W.codeIn K cdv q=true)(k:W.keepIn K (.ref f)=true) :
  MK K C n q st f (W.fnOf n q (zbO st) (zbl st) (zag st) .none kV doc pm an cdv ct):=⟨⟨a,i,k⟩,zh1 l c k⟩
theorem FK.m{h:Heap}{mg:Str->Option Value}(A:FK K n st f fd)(X:K.In h)(G:h.Ns mainGlobals mg):mg n=some (.ref f):=W.mg_of X G A.a
theorem FK.law{h:Heap}{mg:Str->Option Value}(A:FK K n st f fd)(X:K.In h)(G:h.Ns mainGlobals mg){g:Addr}(e:mg n=some (.ref g)):g=f:=by
 have:=e.symm.trans (A.m X G);injection this with this;injection this
noncomputable abbrev fo(x q:Str)(st:Stmt)(kV doc pm:Value)(an:Option Addr)(cdv ct:Value):FuncData:=W.fnOf x q (zbO st) (zbl st) (zag st) .none kV doc pm an cdv ct
theorem bn1{p:Str}(F:Fun K x q st f fd)(h:∀kV doc pm an cdv ct a,bindArgs (fo x q st kV doc pm an cdv ct) ⟨[a],[]⟩=pure [(p,a)]):Binds K fd [p] []:=
 F.binds λ_ _ _ _ _ _ us B=>bd1 (f:=λus=>bindArgs _ ⟨us,[]⟩) (g:=λus=>pure (List.zip _ us)) (h _ _ _ _ _ _) us B
theorem bn2{p p2:Str}(F:Fun K x q st f fd)(h:∀kV doc pm an cdv ct a b,bindArgs (fo x q st kV doc pm an cdv ct) ⟨[a,b],[]⟩=pure [(p,a),(p2,b)]):Binds K fd [p,p2] []:=
 F.binds λ_ _ _ _ _ _ us B=>bd2 (f:=λus=>bindArgs _ ⟨us,[]⟩) (g:=λus=>pure (List.zip _ us)) (h _ _ _ _ _ _) us B
theorem bn3{p p2 p3:Str}(F:Fun K x q st f fd)(h:∀kV doc pm an cdv ct a b c,bindArgs (fo x q st kV doc pm an cdv ct) ⟨[a,b,c],[]⟩=pure [(p,a),(p2,b),(p3,c)]):Binds K fd [p,p2,p3] []:=
 F.binds λ_ _ _ _ _ _ us B=>bd3 (f:=λus=>bindArgs _ ⟨us,[]⟩) (g:=λus=>pure (List.zip _ us)) (h _ _ _ _ _ _) us B
theorem bn4{p p2 p3 p4:Str}(F:Fun K x q st f fd)(h:∀kV doc pm an cdv ct a b c d,bindArgs (fo x q st kV doc pm an cdv ct) ⟨[a,b,c,d],[]⟩=pure [(p,a),(p2,b),(p3,c),(p4,d)]):Binds K fd [p,p2,p3,p4] []:=
 F.binds λ_ _ _ _ _ _ us B=>bd4 (f:=λus=>bindArgs _ ⟨us,[]⟩) (g:=λus=>pure (List.zip _ us)) (h _ _ _ _ _ _) us B
theorem bn5{p p2 p3 p4 p5:Str}(F:Fun K x q st f fd)(h:∀kV doc pm an cdv ct a b c d e,bindArgs (fo x q st kV doc pm an cdv ct) ⟨[a,b,c,d,e],[]⟩=pure [(p,a),(p2,b),(p3,c),(p4,d),(p5,e)]):Binds K fd [p,p2,p3,p4,p5] []:=
 F.binds λ_ _ _ _ _ _ us B=>bd5 (f:=λus=>bindArgs _ ⟨us,[]⟩) (g:=λus=>pure (List.zip _ us)) (h _ _ _ _ _ _) us B
theorem bnl(F:Fun K x q st f fd)(h:∀kV doc pm an cdv ct (s:Shared) (v:Value),BindsTo s (fo x q st kV doc pm an cdv ct) ⟨[v],[]⟩ [("script",v)]):∀(s:Shared) (v:Value),BindsTo s fd ⟨[v],[]⟩ [("script",v)]:=by
 obtain⟨oc,od,kV,doc,pm,an,cdv,ct,osl,rfl,B,D⟩:=F.ex;exact h _ _ _ _ _ _
end
/-! ### what the top has written,and the law's own head -/
theorem all_mk{l:W.OpenLaw}{w:World}{K:W.Frag}{h:Heap}{mg:Str->Option Value}{bg ao D h1 h2 bh bi B bj bk bl bm bn bo bp bq br bs bt bu aT bv bw bx bz bA bB ap bC bD bE bF bG bH bI bJ bK bL bM bN bO bP bQ bR bS bT bU bV cf aq ac ad ae af ag ah J0 ai:Addr}{cg ch ci cj ck cm cn co cp cq cr cs cu cv cw cx cy cz cA cB cC cD cE cF cG cH cI cJ cK cL cM cN cO cP cQ cR cS cT cU cV cW cX cY cZ:FuncData}{od an:Option Addr}{c0:Array (Option Value)}{oc kV c1 pm ct:Value}{c2:Tok}{c3:Tok}(X:K.In h)(G:h.Ns mainGlobals mg)(c4:mg "law"=some (.ref bg))(I:FK K "tongue_within" zf6 bw cg)(Y:FK K "possible_marks" sPoss bx ch)(ar:FK K "fitting_marks" zdt bz ci)(as:FK K "take_mark" ziG bA cj)(au:FK K "read_plain" zf7 bB ck)(c5:W.nsIn K mainGlobals "read_step"=some (some (.ref ap)))(c6:K.lookup ap=some ⟨oc,od,.func (W.fnOf "read_step" "read_step" (zbO sStep) (zbl sStep) (zag sStep) .none kV c1 pm an (.ref ao) ct),c0⟩)(c7:W.codeIn K (.ref ao) "read_step"=true)(aU:W.keepIn K (.ref ap)=true)(av:FK K "moved" ziH bC cm)(aw:FK K "is_sure" zdT bD cn)(ax:FK K "sure_steps" zda bE co)(ay:FK K "_law_bag" lBag bF cp)(F:FK K "_law_take" lTake bG cq)(az:FK K "_law_mark" lMk bH cr)(aA:FK K "_law_fits_book" lFits bI cs)(aB:FK K "_law_book" lBook bJ cu)(aC:FK K "_law_marks" ziI bK cv)(Z:FK K "_law_text" lText bL cw)(O:FK K "_law_fitting" zcy bM cx)(U:FK K "_law_step" lStep bN cy)(aD:FK K "_law_steps" ziJ bO cz)(aE:FK K "_law_sure" lSure bP cA)(aa:FK K "_law_stands" zdb bQ cB)(aF:FK K "_law_anew" lAnew bR cC)(aG:FK K "_law_change" zf8 bS cD)(aH:FK K "_law_tried" ziK bT cE)(aI:FK K "_law_kinds" zgO bU cF)(aJ:FK K "_law_standing_at" zb7 bV cG)(aV:FK K "law" lLaw cf cH)(bW:W.codeHdIn K ao 158=true)(c8:K.lookup 158=none)(c9:W.nsIn K mainGlobals "Standings"=some (some (.ref D)))(aK:MK K D "__init__" "Standings.__init__" zi4 h1 cI)(aW:MK K D "within" "Standings.within" zeW h2 cJ)(aX:MK K D "around" "Standings.around" zgf bh cK)(aj:MK K D "doors_by" "Standings.doors_by" zeX bi cL)(da:W.plainGet K D Str.empty=true)(db:W.hasDictIn K D=true)(dc:W.plainOver K D=true)(dd:W.findIn K (.ref D) "__setattr__"=some (some (.builtin "object.__setattr__")))(de:W.makesIn K D=true)(df:W.keepIn K (.ref D)=true)(dg:W.findIn K (.ref D) "rows"=some none)(dh:W.findIn K (.ref D) "numbers"=some none)(di:W.nsIn K mainGlobals "Page"=some (some (.ref B)))(aL:MK K B "__init__" "Page.__init__" zi7 bj cM)(aY:MK K B "change" "Page.change" zgj bk cN)(aZ:MK K B "text" "Page.text" zi8 bl cO)(a1:MK K B "steps" "Page.steps" zgk bm cP)(ak:MK K B "put" "Page.put" mPut bn cQ)(a2:MK K B "read_anew" "Page.read_anew" mAnew bo cR)(a3:MK K B "goes_on" "Page.goes_on" ze4 bp cS)(a4:MK K B "stand_behind" "Page.stand_behind" zgl bq cT)(ab:MK K B "beginning" "Page.beginning" zdf br cU)(a5:MK K B "numbers_by_beginnings" "Page.numbers_by_beginnings" zdz bs cV)(a6:MK K B "count_sure" "Page.count_sure" zdg bt cW)(aM:MK K B "count_ended" "Page.count_ended" zcM bu cX)(aN:MK K B "take_back" "Page.take_back" zc2 aT cY)(aO:MK K B "standing_at" "Page.standing_at" zfa bv cZ)(dj:W.plainGet K B Str.empty=true)(dk:W.hasDictIn K B=true)(dl:W.plainOver K B=true)(dm:W.findIn K (.ref B) "__setattr__"=some (some (.builtin "object.__setattr__")))(dn:W.makesIn K B=true)(dp:W.keepIn K (.ref B)=true)(dq:W.findIn K (.ref B) "book"=some none)(dr:W.findIn K (.ref B) "signs"=some none)(dt:W.findIn K (.ref B) "told"=some none)(du:W.findIn K (.ref B) "stands"=some none)(dv:W.findIn K (.ref B) "standings"=some none)(dw:W.findIn K (.ref B) "ways_back"=some none)(dy:W.nsIn K mainGlobals "len"=some none)(dz:W.nsIn K mainGlobals "ord"=some none)(dA:W.nsIn K mainGlobals "all"=some none)(dB:W.nsIn K mainGlobals "any"=some none)(dC:W.nsIn K mainGlobals "isinstance"=some none)(dD:W.nsIn K mainGlobals "str"=some none)(dE:W.nsIn K mainGlobals "int"=some none)(dF:W.nsIn K mainGlobals "bool"=some none)(dG:W.nsIn K mainGlobals "tuple"=some none)(dH:W.nsIn K mainGlobals "range"=some none)(dI:W.nsIn K mainGlobals "sorted"=some none)(fc:W.nsIn K mainGlobals "max"=some none)(dJ:W.nsIn K mainGlobals "list"=some none)(dK:W.nsIn K mainGlobals "set"=some none)(dL:W.nsIn K mainGlobals "min"=some none)(dM:W.nsIn K mainGlobals "sum"=some none)(bX:W.nsIn K mainGlobals "max"=some none)(dN:W.nsIn K mainGlobals "ValueError"=some none)(dO:W.nsIn K mainGlobals "LONGEST_MARK"=some (some (.int 4 c2)))(dP:W.nsIn K mainGlobals "MOST_SIGNS"=some (some (.int 2000 c3)))(dQ:W.nsIn K mainGlobals "NestError"=some (some (.ref aq)))(dR:W.nsIn K mainGlobals "NoDoor"=some (some (.ref ac)))(dS:W.nsIn K mainGlobals "NoPlace"=some (some (.ref ad)))(dT:W.nsIn K mainGlobals "NoRow"=some (some (.ref ae)))(dU:W.nsIn K mainGlobals "NoText"=some (some (.ref af)))(dV:W.nsIn K mainGlobals "NoTongue"=some (some (.ref ag)))(dW:W.nsIn K mainGlobals "NoWay"=some (some (.ref ah)))(dX:W.nsIn K mainGlobals "Nothing"=some (some (.ref J0)))(dY:W.nsIn K mainGlobals "TooMany"=some (some (.ref ai)))(dZ:errB K aq [ac,ad,ae,af,ag,ah,J0,ai] J0 [false,false,false,false,false,false,true,false]=true) :
  ∃(fd:FuncData) (c:Addr),W.codeHdIn K c 158=true/\K.lookup 158=none/\(∀(s:Shared) (v:Value),BindsTo s fd ⟨[v],[]⟩ [("script",v)])/\∀base:Heap,K.In base->base.Ns mainGlobals mg->base.BuiltinsAt mg 158->FnOk l.prog w K mg base CX0 10 bg fd ["script"] (zfe K 158):=by
 have e:=aV.law X G c4;subst e;have T:TxtB mg:=⟨W.mg_none_of X G dy,W.mg_none_of X G dz,W.mg_none_of X G dA,W.mg_none_of X G dB,W.mg_none_of X G dC,W.mg_none_of X G dD,W.mg_none_of X G dE,W.mg_none_of X G dF,W.mg_none_of X G dG,W.mg_none_of X G dH,W.mg_none_of X G dI,W.mg_none_of X G bX⟩;have V:Txt2 mg:=⟨W.mg_none_of X G dJ,W.mg_none_of X G dK,W.mg_none_of X G dL⟩;have d0:=W.mg_none_of X G dM;have d1:=W.mg_none_of X G bX;have d2:=W.mg_none_of X G dN;have d3:=W.mg_of X G dO;have bY:=W.mg_of X G dP;have d4:Cls K D:=⟨da,db,dc,dd⟩;have d5:=bn1 (p:="self") aK.F λ_ _ _ _ _ _ _=>rfl;have d6:=bn3 (p:="self") (p2:="number") (p3:="door") aW.F λ_ _ _ _ _ _ _ _ _=>rfl;have d7:=bn2 (p:="self") (p2:="number") aX.F λ_ _ _ _ _ _ _ _=>rfl;have a7:=bn2 (p:="self") (p2:="number") aj.F λ_ _ _ _ _ _ _ _=>rfl;have bZ:Cls K B:=⟨dj,dk,dl,dm⟩;have d8:=bn3 (p:="self") (p2:="book") (p3:="text") aL.F λ_ _ _ _ _ _ _ _ _=>rfl;have d9:=bn4 (p:="self") (p2:="begin") (p3:="end") (p4:="text") aY.F λ_ _ _ _ _ _ _ _ _ _=>rfl;have eb:=bn1 (p:="self") aZ.F λ_ _ _ _ _ _ _=>rfl;have ec:=bn1 (p:="self") a1.F λ_ _ _ _ _ _ _=>rfl;have a8:=bn4 (p:="self") (p2:="begin") (p3:="end") (p4:="text") ak.F λ_ _ _ _ _ _ _ _ _ _=>rfl;have ed:=bn5 (p:="self") (p2:="kept") (p3:="first") (p4:="elder") (p5:="longer") a2.F λ_ _ _ _ _ _ _ _ _ _ _=>rfl
 have ee:=bn4 (p:="self") (p2:="place") (p3:="elder") (p4:="stand") a3.F λ_ _ _ _ _ _ _ _ _ _=>rfl;have ef:=bn4 (p:="self") (p2:="stand") (p3:="step") (p4:="doors") a4.F λ_ _ _ _ _ _ _ _ _ _=>rfl;have aP:=bn2 (p:="self") (p2:="number") ab.F λ_ _ _ _ _ _ _ _=>rfl;have eg:=bn3 (p:="self") (p2:="end") (p3:="longer") a5.F λ_ _ _ _ _ _ _ _ _=>rfl;have eh:=bn2 (p:="self") (p2:="begin") a6.F λ_ _ _ _ _ _ _ _=>rfl;have b0:=bn2 (p:="self") (p2:="place") aM.F λ_ _ _ _ _ _ _ _=>rfl;have ei:=bn1 (p:="self") aN.F λ_ _ _ _ _ _ _=>rfl;have b1:=bn2 (p:="self") (p2:="place") aO.F λ_ _ _ _ _ _ _ _=>rfl;have aQ:=bn1 (p:="doors") I.F λ_ _ _ _ _ _ _=>rfl;have b2:=bn2 (p:="book") (p2:="doors") Y.F λ_ _ _ _ _ _ _ _=>rfl;have ej:=bn4 (p:="book") (p2:="text") (p3:="place") (p4:="doors") ar.F λ_ _ _ _ _ _ _ _ _ _=>rfl;have ek:=bn4 (p:="mark") (p2:="door") (p3:="place") (p4:="doors") as.F λ_ _ _ _ _ _ _ _ _ _=>rfl;have em:=bn4 (p:="book") (p2:="text") (p3:="place") (p4:="doors") au.F λ_ _ _ _ _ _ _ _ _ _=>rfl;have b3:=zh1 (st:=sStep) c6 c7 aU;have b4:=W.mg_of X G c5;have b5:=bn4 (p:="book") (p2:="text") (p3:="place") (p4:="doors") b3 λ_ _ _ _ _ _ _ _ _ _=>rfl;have en:=bn2 (p:="step") (p2:="by") av.F λ_ _ _ _ _ _ _ _=>rfl;have eo:=bn4 (p:="book") (p2:="part") (p3:="place") (p4:="doors") aw.F λ_ _ _ _ _ _ _ _ _ _=>rfl;have ep:=bn3 (p:="book") (p2:="part") (p3:="doors") ax.F λ_ _ _ _ _ _ _ _ _=>rfl;have eq:=bn2 (p:="script") (p2:="k") ay.F λ_ _ _ _ _ _ _ _=>rfl;have al:=bn2 (p:="bag") (p2:="many") F.F λ_ _ _ _ _ _ _ _=>rfl;have er:=bn2 (p:="bag") (p2:="signs") az.F λ_ _ _ _ _ _ _ _=>rfl;have et:=bn1 (p:="book") aA.F λ_ _ _ _ _ _ _=>rfl;have eu:=bn1 (p:="bag") aB.F λ_ _ _ _ _ _ _=>rfl;have ew:=bn1 (p:="book") aC.F λ_ _ _ _ _ _ _=>rfl;have b6:=bn3 (p:="bag") (p2:="book") (p3:="most") Z.F λ_ _ _ _ _ _ _ _ _=>rfl;have a9:=bn4 (p:="book") (p2:="doors") (p3:="text") (p4:="place") O.F λ_ _ _ _ _ _ _ _ _ _=>rfl;have ba:=bn5 (p:="book") (p2:="doors") (p3:="text") (p4:="place") (p5:="mark") U.F λ_ _ _ _ _ _ _ _ _ _ _=>rfl;have ey:=bn2 (p:="book") (p2:="text") aD.F λ_ _ _ _ _ _ _ _=>rfl;have ez:=bn2 (p:="book") (p2:="text") aE.F λ_ _ _ _ _ _ _ _=>rfl;have b7:=bn2 (p:="book") (p2:="text") aa.F λ_ _ _ _ _ _ _ _=>rfl;have eA:=bn5 (p:="book") (p2:="old") (p3:="begin") (p4:="end") (p5:="put") aF.F λ_ _ _ _ _ _ _ _ _ _ _=>rfl;have eB:=bn3 (p:="bag") (p2:="book") (p3:="text") aG.F λ_ _ _ _ _ _ _ _ _=>rfl;have eC:=bn2 (p:="page") (p2:="deed") aH.F λ_ _ _ _ _ _ _ _=>rfl;have eD:=bn1 (p:="e") aI.F λ_ _ _ _ _ _ _=>rfl;have eE:=bn2 (p:="stands") (p2:="place") aJ.F λ_ _ _ _ _ _ _ _=>rfl;refine⟨_,ao,bW,c8,bnl aV.F λ_ _ _ _ _ _ s v=>.of_eq J,λbase _ _ eF=>?_⟩;have aR:FnOk l.prog w K mg base CX0 1 bw _ ["doors"] zb9:=ziP I.F ;have b8:FnOk l.prog w K mg base CX0 2 bx _ ["book","doors"] zfI:=zlv Y.F I.F.kp aQ (I.m X G) aR;have eG:FnOk l.prog w K mg base CX0 3 bz _ ["book","text","place","doors"] zgR:=zlw ar.F Y.F.kp b2 (Y.m X G) b8;have eH:FnOk l.prog w K mg base CX0 2 bA _ ["mark","door","place","doors"] zeR:=zj2 as.F T I.F.kp aQ (I.m X G) aR;have eI:FnOk l.prog w K mg base CX0 2 bB _ ["book","text","place","doors"] zdv:=ziT au.F T I.F.kp aQ (I.m X G) aR;have b9:FnOk l.prog w K mg base CX0 4 ap _ ["book","text","place","doors"] (zdW 158):=zj3 b3 rfl bW eF T T.max ar.F.kp ej (ar.m X G) eG au.F.kp em (au.m X G) eI as.F.kp ek (as.m X G) eH;have eJ:FnOk l.prog w K mg base CX0 1 bC _ ["step","by"] zeS:=zj8 av.F ;have eK:FnOk l.prog w K mg base CX0 3 bD _ ["book","part","place","doors"] zgU:=zlA aw.F T I.F.kp aQ (I.m X G) aR Y.F.kp b2 (Y.m X G) b8;have eL:FnOk l.prog w K mg base CX0 5 bE _ ["book","part","doors"] (zcc 158):=zfO ax.F T aU b5 b4 b9 aw.F.kp eo (aw.m X G) eK;have eM:FnOk l.prog w K mg base CX0 1 bF _ ["script","k"] (spBag K):=zmo ay.F T ;have am:FnOk l.prog w K mg base CX0 1 bG _ ["bag","many"] zdl:=zlr F.F ;have eN:FnOk l.prog w K mg base CX0 2 bH _ ["bag","signs"] spMk:=zmK az.F T F.F.kp al (F.m X G) am;have eO:FnOk l.prog w K mg base CX0 1 bI _ ["book"] zgK:=zls aA.F T V ;have eP:FnOk l.prog w K mg base CX0 3 bJ _ ["bag"] zgN:=zjZ aB.F T V F.F.kp al (F.m X G) am az.F.kp er (az.m X G) eN aA.F.kp et (aA.m X G) eO;have eQ:FnOk l.prog w K mg base CX0 1 bK _ ["book"] zdu:=ziL aC.F ;have ca:FnOk l.prog w K mg base CX0 2 bL _ ["bag","book","most"] zfG:=zlu Z.F T F.F.kp al (F.m X G) am aC.F.kp ew (aC.m X G) eQ;have bb:FnOk l.prog w K mg base CX0 1 bM _ ["book","doors","text","place"] zbV:=zhu O.F T ;have bc:FnOk l.prog w K mg base CX0 1 bN _ ["book","doors","text","place","mark"] zej:=zj1 U.F T ;have eR:FnOk l.prog w K mg base CX0 2 bO _ ["book","text"] zeP:=ziM aD.F T O.F.kp a9 (O.m X G) bb U.F.kp ba (U.m X G) bc;have eS:FnOk l.prog w K mg base CX0 2 bP _ ["book","text"] zeU:=zkd aE.F T V O.F.kp a9 (O.m X G) bb U.F.kp ba (U.m X G) bc;have cb:FnOk l.prog w K mg base CX0 2 bQ _ ["book","text"] zcr:=zhF aa.F T O.F.kp a9 (O.m X G) bb U.F.kp ba (U.m X G) bc;have eT:FnOk l.prog w K mg base CX0 6 bR _ ["book","old","begin","end","put"] ze7:=zkq aF.F T V d0 aE.F.kp ez (aE.m X G) eS aa.F.kp b7 (aa.m X G) cb;have eU:FnOk l.prog w K mg base CX0 3 bS _ ["bag","book","text"] zc3:=zhH aG.F T V F.F.kp al (F.m X G) am Z.F.kp b6 (Z.m X G) ca;have eV:FnOk l.prog w K mg base CX0 1 bV _ ["stands","place"] (spLAt l.prog w):=zmy aJ.F d1 ;have bd:TxtN mg aq ac ad ae af ag ah J0 ai:=⟨⟨W.mg_of X G dR,W.mg_of X G dS,W.mg_of X G dT,W.mg_of X G dU,W.mg_of X G dV,W.mg_of X G dW,W.mg_of X G dX,W.mg_of X G dY,d2⟩,W.mg_of X G dQ⟩;have cc:=zlm dZ;have TS:TxtS K mg D:=⟨d4,dg,dh⟩;have TP:TxtP K mg B:=⟨bZ,dq,dr,dt,du,dv,dw⟩;have eW:FnOk l.prog w K mg base CX0 1 h1 _ ["self"] (ze2 l.prog w D):=zkh aK.F TS;have eX:FnOk l.prog w K mg base CX0 1 h2 _ ["self","number","door"] (zcY l.prog w D):=zhC aW.F T TS;have eY:FnOk l.prog w K mg base CX0 1 bh _ ["self","number"] (zdy l.prog w D):=zi6 aX.F TS;have be:FnOk l.prog w K mg base CX0 1 bi _ ["self","number"] (zbX l.prog w D):=zhD aj.F TS;have aS:FnOk l.prog w K mg base CX0 1 br _ ["self","number"] (zcd l.prog w B D):=zjb ab.F T TP;have ce:FnOk l.prog w K mg base CX0 2 bu _ ["self","place"] (zd1 l.prog w B D):=zkn aM.F T TP ab.M aP aS;have eZ:FnOk l.prog w K mg base CX0 1 bp _ ["self","place","elder","stand"] (zdA B):=zjg a3.F TP;have e0:FnOk l.prog w K mg base CX0 2 bq _ ["self","stand","step","doors"] (zdB l.prog w B D):=zjh a4.F TP TS aW.M d6 eX aX.M d7 eY;have e1:FnOk l.prog w K mg base CX0 2 bs _ ["self","end","longer"] (zcZ l.prog w B D):=zhE a5.F T TP ab.M aP aS;have e2:FnOk l.prog w K mg base CX0 6 bt _ ["self","begin"] (zdC l.prog w 158 B D):=zji a6.F T TP TS d3 ⟨_,J⟩ aM.M b0 ce ab.M aP aS ax.F.kp ep (ax.m X G) eL aj.M a7 be;have e3:FnOk l.prog w K mg base CX0 5 bo _ ["self","kept","first","elder","longer"] (zg4 l.prog w 158 B D):=zlI a2.F T TP TS aU b5 b4 b9 aj.M a7 be a3.M ee eZ a4.M ef e0 av.F.kp en (av.m X G) eJ
 have bf:FnOk l.prog w K mg base CX0 7 bn _ ["self","begin","end","text"] (spPut l.prog w 158 B D):=zmw ak.F T TP a6.M eh e2 ab.M aP aS a5.M eg e1 a2.M ed e3;have e4:FnOk l.prog w K mg base CX0 8 bk _ ["self","begin","end","text"] (zc0 l.prog w 158 B D):=zjk aY.F T TP bY ⟨_,J⟩ ak.M a8 bf;have e5:FnOk l.prog w K mg base CX0 8 aT _ ["self"] (zg5 l.prog w 158 B D):=zlK aN.F TP ak.M a8 bf;have e6:FnOk l.prog w K mg base (CXE l.prog w) 1 aT _ ["self"] (zfb B J0):=zkv aN.F TP cc.ex bd.e7;have e7:FnOk l.prog w K mg base CX0 3 bv _ ["self","place"] (spAt l.prog w B D):=zmO aO.F T TP TS aM.M b0 ce aj.M a7 be;have e8:FnOk l.prog w K mg base CX0 1 bl _ ["self"] (ze8 l.prog w B D):=zkr aZ.F TP;have e9:FnOk l.prog w K mg base CX0 1 bm _ ["self"] (zc1 l.prog w B D):=zhG a1.F V TP;have fa:FnOk l.prog w K mg base CX0 8 bj _ ["self","book","text"] (ze9 l.prog w 158 B D):=zkt aL.F T TP bY ⟨_,J⟩ ak.M a8 bf ⟨de,aK.M.1,aK.M.2,df⟩ (W.mg_of X G c9) d5 eW;have fb:FnOkU l.prog w K mg base 1 bU _ ["e"] (zd5 K ac ad ae af ag ah J0 ai):=zkw aI.F T bd.toTxtE;have GT:FnOk l.prog w K mg base CX0 9 bT _ ["page","deed"] (zcD K B aq ac ad ae af ag ah J0 ai (zc0 l.prog w 158 B D) (λ_ _ _ _=>False) (spBk9 l.prog w 158 B D J0)):=zjq aH.F bd bZ aY.M d9 e4.cx aO.M b1 FnOk.never aN.M ei (FnOk.or e5.cx (e6.up (by decide))) aI.F.kp eD (aI.m X G) fb;exact zkx aV.F T V TP (W.mg_of X G di) ⟨dn,aL.M.1,aL.M.2,dp⟩ cc ay.F.kp eq (ay.m X G) eM aB.F.kp eu (aB.m X G) eP Z.F.kp b6 (Z.m X G) ca F.F.kp al (F.m X G) am aG.F.kp eB (aG.m X G) eU aF.F.kp eA (aF.m X G) eT aD.F.kp ey (aD.m X G) eR aH.F.kp eC (aH.m X G) GT aa.F.kp b7 (aa.m X G) cb aJ.F.kp eE (aJ.m X G) eV d8 fa a1.M ec e9 aZ.M eb e8 aO.M b1 e7
theorem walk{l:W.OpenLaw}{q:Program}{G:List Str}{XP:(Str->Option Value)->Heap->Prop}{B:World->Heap->Prop}{d:DefRec}{K:Params->W.Frag}(I:l.most=some 63)(J0:d.params.defaults=[])(O:∀(w:World) (h:Heap),B w h->(K w.params).In h/\h.get? 158=some (W.tabObj #[]))(F:∀(w:World) (mg:Str->Option Value) (D:Addr) (h:Heap),(K w.params).In h->h.Ns mainGlobals mg->mg d.name=some (.ref D) ->
   ∃(fd:FuncData) (c:Addr),W.codeHdIn (K w.params) c 158=true/\(K w.params).lookup 158=none/\(∀(s:Shared) (u:Value),BindsTo s fd ⟨[u],[]⟩ [("script",u)])/\∀base:Heap,(K w.params).In base->base.Ns mainGlobals mg->base.BuiltinsAt mg 158->FnOk l.prog w (K w.params) mg base CX0 10 D fd ["script"] (zfe (K w.params) 158)) :
  W.WalkO q G XP B l.row.toRowW d [] (λf vs=>PySem.call f vs):=
 L2.walk_ofT (n:=63) (k:=10) (x:="script") (tb:=158) (CX:=λ_=>CX0) (sp:=λw=>zfe (K w.params) 158) I (by decide) J0 ⟨J,by decide,by decide⟩ O F (λ_ _ a U Z V Y=>⟨a,U,J,Y,.inl V,λ_=>rfl⟩) λ_ _ _ _ _ z=>z
end T1
open PySem PySem.W PyProof.Rows
local macro_rules|`(tactic| walk_at "own def")=>`(tactic| (refine' T1.fk ?k1 ?k2 ?k3 ?k4;(case k1=>k_is);(case k2=>k_is);(case k3=>k_is);(case k4=>k_is)))
local macro_rules|`(tactic| walk_at "own method")=>`(tactic| (refine' T1.mkm ?k1 ?k2 ?k3 ?k4 ?k5;(case k1=>k_is);(case k2=>k_is);(case k3=>k_is);(case k4=>k_is);(case k5=>k_is)))
def PySem.W.Fast.tw5497587142334005795 : Nat := 0
def PySem.W.Fast.tw13558759354893788197 : Nat := 0
def PySem.W.Fast.tw17353749742920122704 : Nat := 0
def PySem.W.Fast.tw14702668894377263676 : Nat := 0
def PySem.W.Fast.tw7675881287867955552 : Nat := 0
def PySem.W.Fast.tw9976848779708874810 : Nat := 0
def PySem.W.Fast.tw16216122184230637504 : Nat := 0
def PySem.W.Fast.tw6405500092157620760 : Nat := 0
def PySem.W.Fast.tw7979272452011993546 : Nat := 0
def PySem.W.Fast.tw14538419374760267335 : Nat := 0
def PySem.W.Fast.tw9119229397882924519 : Nat := 0
def PySem.W.Fast.tw5907596769239941545 : Nat := 0
def PySem.W.Fast.tw17432766307223746297 : Nat := 0
def PySem.W.Fast.tw11368915112200177345 : Nat := 0
def PySem.W.Fast.tw11910355782371546494 : Nat := 0
def PySem.W.Fast.tw2191969069103634872 : Nat := 0
def PySem.W.Fast.tw17298341298364685602 : Nat := 0
def PySem.W.Fast.tw13887828315211977047 : Nat := 0
def PySem.W.Fast.tw3824343574292109059 : Nat := 0
def PySem.W.Fast.tw18322946562228345091 : Nat := 0
def PySem.W.Fast.tw127989751971591414 : Nat := 0
def PySem.W.Fast.tw5493697108586683670 : Nat := 0
def PySem.W.Fast.tw5662530516082819085 : Nat := 0
def PySem.W.Fast.tw16351993480401547392 : Nat := 0
def PySem.W.Fast.tw1046550923141530460 : Nat := 0
def PySem.W.Fast.tw48125392139893407 : Nat := 0
def PySem.W.Fast.tw4478764538018743295 : Nat := 0
def PySem.W.Fast.tw15654855448494526108 : Nat := 0
def PySem.W.Fast.tw4919439265431815736 : Nat := 0
def PySem.W.Fast.tw9270174021903762227 : Nat := 0
def PySem.W.Fast.tw18324420674547293602 : Nat := 0
def PySem.W.Fast.tw13952996073130784479 : Nat := 0
def PySem.W.Fast.tw9971611551009181848 : Nat := 0
def PySem.W.Fast.tw5099416299843090876 : Nat := 0
def PySem.W.Fast.tw1066873696393523616 : Nat := 0
def PySem.W.Fast.tw6052829423433444765 : Nat := 0
def PySem.W.Fast.tw7367475368371797812 : Nat := 0
def PySem.W.Fast.tw11955618228985533273 : Nat := 0
def PySem.W.Fast.tw17954672655269875931 : Nat := 0
def PySem.W.Fast.tw1918282211699374521 : Nat := 0
def PySem.W.Fast.tw13784119664372197855 : Nat := 0
def PySem.W.Fast.tw8829630618934484960 : Nat := 0
def PySem.W.Fast.tw2765184440320627036 : Nat := 0
def PySem.W.Fast.tw656293706295564245 : Nat := 0
def PySem.W.Fast.tw2529736905372290770 : Nat := 0
def PySem.W.Fast.tw10673147378934102663 : Nat := 0
def PySem.W.Fast.tw10578668778463480778 : Nat := 0
def PySem.W.Fast.tw1070454469930105569 : Nat := 0
def PySem.W.Fast.tw8334299827987158849 : Nat := 0
def PySem.W.Fast.tw12729507243080137691 : Nat := 0
def PySem.W.Fast.tw7493540133573055290 : Nat := 0
def PySem.W.Fast.tw13293777975733732314 : Nat := 0
def PySem.W.Fast.tw9300291363283262683 : Nat := 0
def PySem.W.Fast.tw5166596869872574779 : Nat := 0
def PySem.W.Fast.tw13081587102823090463 : Nat := 0
def PySem.W.Fast.tw10208363474626293850 : Nat := 0
def PySem.W.Fast.tw6754840974172646501 : Nat := 0
def PySem.W.Fast.tw5689866725368478595 : Nat := 0
def PySem.W.Fast.tw5473191577155222854 : Nat := 0
def PySem.W.Fast.tw15227854997886123809 : Nat := 0
def PySem.W.Fast.tw4785957687987646366 : Nat := 0
def PySem.W.Fast.tw10745582027860066609 : Nat := 0
def PySem.W.Fast.tw7429870767876350801 : Nat := 0
def PySem.W.Fast.tw15362293803010973235 : Nat := 0
def PySem.W.Fast.tw1771151338172081762 : Nat := 0
def PySem.W.Fast.tw6805514642533493281 : Nat := 0
def PySem.W.Fast.tw8429537538029548014 : Nat := 0
def PySem.W.Fast.tw4360347013881311905 : Nat := 0
def PySem.W.Fast.tw17970873617077983494 : Nat := 0
def PySem.W.Fast.tw16955880592828103110 : Nat := 0
def PySem.W.Fast.tw13096682958923313386 : Nat := 0
def PySem.W.Fast.tw7516706797671833686 : Nat := 0
def PySem.W.Fast.tw17073244088982270174 : Nat := 0
def PySem.W.Fast.tw9456321414486469396 : Nat := 0
def PySem.W.Fast.tw12516629698868317806 : Nat := 0
def PySem.W.Fast.tw4711731649817460665 : Nat := 0
def PySem.W.Fast.tw6210305489921289867 : Nat := 0
def PySem.W.Fast.tw1529422551661085724 : Nat := 0
def PySem.W.Fast.tw12024648494492109868 : Nat := 0
def PySem.W.Fast.tw11651971703619970255 : Nat := 0
def PySem.W.Fast.tw11104655841820172390 : Nat := 0
def PySem.W.Fast.tw8590003670574196633 : Nat := 0
def PySem.W.Fast.tw9626247756865971619 : Nat := 0
def PySem.W.Fast.tw943715834958575875 : Nat := 0
def PySem.W.Fast.tw8998885805043743136 : Nat := 0
def PySem.W.Fast.tw14698204897886435723 : Nat := 0
def PySem.W.Fast.tw16584074068261624356 : Nat := 0
def PySem.W.Fast.tw3912743336971349685 : Nat := 0
def PySem.W.Fast.tw11869134642285923027 : Nat := 0
def PySem.W.Fast.tw12019137721847651226 : Nat := 0
def PySem.W.Fast.tw6108565474502903825 : Nat := 0
def PySem.W.Fast.tw8493603707026445888 : Nat := 0
def PySem.W.Fast.tw15921118489838390911 : Nat := 0
def PySem.W.Fast.tw17798222018221715412 : Nat := 0
def PySem.W.Fast.tw16583084144819358640 : Nat := 0
def PySem.W.Fast.tw10243940618564650871 : Nat := 0
def PySem.W.Fast.tw618961923383534881 : Nat := 0
def PySem.W.Fast.tw3066653291382958053 : Nat := 0
def PySem.W.Fast.tw643907566803429001 : Nat := 0
def PySem.W.Fast.tw14259428924083011952 : Nat := 0
def PySem.W.Fast.tw13145989885831463568 : Nat := 0
def PySem.W.Fast.tw13400601496989709757 : Nat := 0
def PySem.W.Fast.tw17293618295453142340 : Nat := 0
def PySem.W.Fast.tw15162157969903965651 : Nat := 0
def PySem.W.Fast.tw16478075879483863898 : Nat := 0
def PySem.W.Fast.tw15214529883655790790 : Nat := 0
def PySem.W.Fast.tw8287409551716609789 : Nat := 0
def PySem.W.Fast.tw5279417492690517180 : Nat := 0
def PySem.W.Fast.tw14583727680392299566 : Nat := 0
def PySem.W.Fast.tw5909661663841876552 : Nat := 0
def PySem.W.Fast.tw7718545065108087115 : Nat := 0
def PySem.W.Fast.tw11466524637092725023 : Nat := 0
def PySem.W.Fast.tw8619352791662442352 : Nat := 0
def PySem.W.Fast.tw6720557505341601686 : Nat := 0
def PySem.W.Fast.tw3652119807161166756 : Nat := 0
def PySem.W.Fast.tw5035538611062250984 : Nat := 0
def PySem.W.Fast.tw17949892143432270383 : Nat := 0
def PySem.W.Fast.tw6652297584897582986 : Nat := 0
def PySem.W.Fast.tw877932710651103995 : Nat := 0
def PySem.W.Fast.tw14140577727316629590 : Nat := 0
def PySem.W.Fast.tw15969943495600239247 : Nat := 0
def PySem.W.Fast.tw11479928767219922528 : Nat := 0
def PySem.W.Fast.tw2779564297141737347 : Nat := 0
def PySem.W.Fast.tw15635915215594775166 : Nat := 0
def PySem.W.Fast.tw16933971183627369695 : Nat := 0
def PySem.W.Fast.tw3205734007386139499 : Nat := 0
def PySem.W.Fast.tw15838894967014138087 : Nat := 0
def PySem.W.Fast.tw10916969567687706741 : Nat := 0
set_option maxRecDepth 100000 in
set_option maxHeartbeats 0 in
theorem PySem.Challenge.cw_tonguenest_k09_whole_changes_taken_back_holds : PySem.Challenge.rw_tonguenest_k09_whole_changes_taken_back.Holds := by
  w_on; o_law; k_head; (case hw => w_witness2)
  k_fill
  refine T1.walk (l := PySem.Challenge.rw_tonguenest_k09_whole_changes_taken_back) rfl rfl (fun w h Y => ⟨PySem.W.km_in_of Y, PySem.W.km_tabs_of Y 158 (by simp)⟩) ?F
  case F =>
    intro w mg fa h KX G hmg
    refine' T1.all_mk KX G hmg ?A1 ?A2 ?A3 ?A4 ?A5 ?a6 ?l6 ?c6 ?k6 ?A7 ?A8 ?A9 ?A10 ?A11 ?A12 ?A13 ?A14 ?A15 ?A16 ?A17 ?A18 ?A19 ?A20 ?A21 ?A22 ?A23 ?A24 ?A25 ?A26 ?A27 ?hd ?hp ?aC1 ?B1 ?B2 ?B3 ?B4 ?cpg1 ?chd1 ?cpo1 ?csa1 ?cmk1 ?ckc1 ?nA1_1 ?nA1_2 ?aC2 ?B5 ?B6 ?B7 ?B8 ?B9 ?B10 ?B11 ?B12 ?B13 ?B14 ?B15 ?B16 ?B17 ?B18 ?cpg2 ?chd2 ?cpo2 ?csa2 ?cmk2 ?ckc2 ?nA2_1 ?nA2_2 ?nA2_3 ?nA2_4 ?nA2_5 ?nA2_6 ?z1 ?z2 ?z3 ?z4 ?z5 ?z6 ?z7 ?z8 ?z9 ?z10 ?z11 ?z12 ?z13 ?z14 ?z15 ?z16 ?z17 ?z18 ?gi1 ?gi2 ?aE0 ?aE1 ?aE2 ?aE3 ?aE4 ?aE5 ?aE6 ?aE7 ?aE8 ?xE7
    (case A1 => walk_at "own def")
    (case A2 => walk_at "own def")
    (case A3 => walk_at "own def")
    (case A4 => walk_at "own def")
    (case A5 => walk_at "own def")
    (case a6 => k_is)
    (case l6 => k_is)
    (case c6 => k_is)
    (case k6 => k_is)
    (case A7 => walk_at "own def")
    (case A8 => walk_at "own def")
    (case A9 => walk_at "own def")
    (case A10 => walk_at "own def")
    (case A11 => walk_at "own def")
    (case A12 => walk_at "own def")
    (case A13 => walk_at "own def")
    (case A14 => walk_at "own def")
    (case A15 => walk_at "own def")
    (case A16 => walk_at "own def")
    (case A17 => walk_at "own def")
    (case A18 => walk_at "own def")
    (case A19 => walk_at "own def")
    (case A20 => walk_at "own def")
    (case A21 => walk_at "own def")
    (case A22 => walk_at "own def")
    (case A23 => walk_at "own def")
    (case A24 => walk_at "own def")
    (case A25 => walk_at "own def")
    (case A26 => walk_at "own def")
    (case A27 => walk_at "own def")
    (case hd => kernel_rfl)
    (case hp => kernel_rfl)
    (case aC1 => k_is)
    (case B1 => walk_at "own method")
    (case B2 => walk_at "own method")
    (case B3 => walk_at "own method")
    (case B4 => walk_at "own method")
    (case cpg1 => k_is)
    (case chd1 => k_is)
    (case cpo1 => k_is)
    (case csa1 => k_is)
    (case cmk1 => k_is)
    (case ckc1 => k_is)
    (case nA1_1 => k_is)
    (case nA1_2 => k_is)
    (case aC2 => k_is)
    (case B5 => walk_at "own method")
    (case B6 => walk_at "own method")
    (case B7 => walk_at "own method")
    (case B8 => walk_at "own method")
    (case B9 => walk_at "own method")
    (case B10 => walk_at "own method")
    (case B11 => walk_at "own method")
    (case B12 => walk_at "own method")
    (case B13 => walk_at "own method")
    (case B14 => walk_at "own method")
    (case B15 => walk_at "own method")
    (case B16 => walk_at "own method")
    (case B17 => walk_at "own method")
    (case B18 => walk_at "own method")
    (case cpg2 => k_is)
    (case chd2 => k_is)
    (case cpo2 => k_is)
    (case csa2 => k_is)
    (case cmk2 => k_is)
    (case ckc2 => k_is)
    (case nA2_1 => k_is)
    (case nA2_2 => k_is)
    (case nA2_3 => k_is)
    (case nA2_4 => k_is)
    (case nA2_5 => k_is)
    (case nA2_6 => k_is)
    (case z1 => k_is)
    (case z2 => k_is)
    (case z3 => k_is)
    (case z4 => k_is)
    (case z5 => k_is)
    (case z6 => k_is)
    (case z7 => k_is)
    (case z8 => k_is)
    (case z9 => k_is)
    (case z10 => k_is)
    (case z11 => k_is)
    (case z12 => k_is)
    (case z13 => k_is)
    (case z14 => k_is)
    (case z15 => k_is)
    (case z16 => k_is)
    (case z17 => k_is)
    (case z18 => k_is)
    (case gi1 => k_is)
    (case gi2 => k_is)
    (case aE0 => k_is)
    (case aE1 => k_is)
    (case aE2 => k_is)
    (case aE3 => k_is)
    (case aE4 => k_is)
    (case aE5 => k_is)
    (case aE6 => k_is)
    (case aE7 => k_is)
    (case aE8 => k_is)
    (case xE7 => kernel_rfl)
