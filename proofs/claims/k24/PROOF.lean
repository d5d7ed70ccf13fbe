import PyProof.Rows.All
import Wide.All
import OpenK.AllK
import Wide.FinOn
import Lean
import PyProof.EqAt
import PyProof.EqKinds
import PyProof.TupleCall
import PyProof.NeKinds
import KE.KSortKey
import KE.KMinKey
import PyProof.StrBlockG
import PyProof.StrBlockI
import KE.KRevSl
import PyProof.MeetsStr
import KE.KLam
import KE.KNestM
import PyProof.Rows.ZipForRows
import PyProof.Rows.FactsT2
import PyProof.StrOps2
import PyProof.Rows.SumAny
import KE.KDictSum
import PyProof.WalkInts
import PyProof.Rows.MinMaxN
import PyProof.TupleKey
import PyProof.DictRoadsH
import PyProof.ListRange
import PyProof.Rows.Range3
import PyProof.StrLawsIn
import PyProof.ListMulRoad
import PySem.Challenge.RW_tonguenest_k24_whole_long_and_deep_texts
set_option maxHeartbeats 0
set_option Elab.async false
set_option linter.all false
set_option maxRecDepth 100000
-- CHANGE: your row's module here,as the last of these rows
theorem J.{u}{a:Sort u}{b:a}:b=b:=rfl
namespace L2
open PySem PySem.Spec PyProof.Rows
noncomputable abbrev Key:=Sum Int Str
noncomputable def keyIs:Key->Value->Bool
 |.inl k,v=>Value.isInt k v
 |.inr x,v=>Value.isStrOf x v
noncomputable def keyH(w:World):Key->Int
 |.inl k=>hashInt k
 |.inr x=>hashStr w x
theorem za4:∀ {k:Key}{v:Value},keyIs k v=true->(∃i t,k=Sum.inl i/\v=Value.int i t)∨(∃x t,k=Sum.inr x/\v=Value.str x t)
 |.inl i,v,h=>by
  obtain⟨t,e⟩:=Value.isInt_shape (k:=i) (v:=v) h;exact .inl ⟨i,t,J,e⟩
 |.inr x,v,h=>by
  obtain⟨t,e⟩:=Value.isStrOf_shape (x:=x) (v:=v) h;exact .inr ⟨x,t,J,e⟩
theorem zhz(i:Int)(t:Tok):keyIs (.inl i) (.int i t)=true:=by simp[keyIs,Value.isInt]
theorem zhA(x:Str)(t:Tok):keyIs (.inr x) (.str x t)=true:=by simp[keyIs,Value.isStrOf]
theorem zlr(a b:Int):decide ((Sum.inl a:Key)=Sum.inl b)=(a==b):=by
 by_cases e:a=b
 .subst e;simp
 .have h:¬(Sum.inl a:Key)=Sum.inl b:=λq=>e (Sum.inl.inj q);rw[decide_eq_false h];exact(beq_eq_false_iff_ne.mpr e).symm
theorem zls(a b:Str):decide ((Sum.inr a:Key)=Sum.inr b)=decide (a=b):=by
 by_cases e:a=b
 .subst e;simp
 .have h:¬(Sum.inr a:Key)=Sum.inr b:=λq=>e (Sum.inr.inj q);rw[decide_eq_false h,decide_eq_false e]
theorem zlt(a:Int)(b:Str):decide ((Sum.inl a:Key)=Sum.inr b)=false:=decide_eq_false (λq=>nomatch q)
theorem zlu(a:Str)(b:Int):decide ((Sum.inr a:Key)=Sum.inl b)=false:=decide_eq_false (λq=>nomatch q)
noncomputable def zaI(prog:Program)(w:World):PySem.KeyKind prog w Key where
 is:=keyIs
 hash:=keyH w
 inj:=λv a b G F=>by
  rcases za4 G with⟨i,t,rfl,rfl⟩|⟨x,t,rfl,rfl⟩
  .rcases za4 F with⟨j,u,rfl,e⟩|⟨y,u,rfl,e⟩
   .injection e with B _;rw[B]
   .exact nomatch e
  .rcases za4 F with⟨j,u,rfl,e⟩|⟨y,u,rfl,e⟩
   .exact nomatch e
   .injection e with B _;rw[B]
 byValue:=λk v h=>by
  rcases za4 h with⟨i,t,rfl,rfl⟩|⟨x,t,rfl,rfl⟩<;>rfl
 pyHash:=λD h=>by
  rcases za4 D with⟨i,t,rfl,rfl⟩|⟨x,t,rfl,rfl⟩
  .exact wpAny_pyHash_int h
  .exact wpAny_pyHash_str h
 eqBool:=λI D h=>by
  rcases za4 I with⟨i,t,rfl,rfl⟩|⟨x,t,rfl,rfl⟩
  .rcases za4 D with⟨j,u,rfl,rfl⟩|⟨y,u,rfl,rfl⟩
   .rw[zlr] at h;exact wpAny_eqBool_int h
   .rw[zlt] at h;exact SeqAt.EqAt.int_str i t y u _ _ _ _ h
  .rcases za4 D with⟨j,u,rfl,rfl⟩|⟨y,u,rfl,rfl⟩
   .rw[zlu] at h;exact SeqAt.EqAt.str_int x t j u _ _ _ _ h
   .rw[zls] at h;exact wpAny_eqBool_str h
 «strs»:=λk x t v h=>by
  rcases za4 h with⟨i,u,rfl,e⟩|⟨y,u,rfl,e⟩
  .exact nomatch e
  .injection e with B _;subst B;cases v<;>rfl
theorem zfN(prog:Program)(w:World)(i:Int)(t:Tok):(zaI prog w).is (.inl i) (.int i t)=true:=zhz i t
theorem zfO(prog:Program)(w:World)(x:Str)(t:Tok):(zaI prog w).is (.inr x) (.str x t)=true:=zhA x t
inductive V where
 |non|bl (b:Bool)|int (i:Int)|str (x:Str)|byt (b:Array UInt8)|flt (b:UInt64)|ref (a:Addr)|ty (n:String)
 deriving DecidableEq
noncomputable def RelV:V->Value->Prop
 |.non,u=>u=Value.none
 |.bl b,u=>u=Value.bool b
 |.int i,u=>∃t,u=Value.int i t
 |.str x,u=>∃t,u=Value.str x t
 |.byt b,u=>∃t,u=Value.bytes b t
 |.flt b,u=>∃t,u=Value.float b t
 |.ref a,u=>u=Value.ref a
 |.ty n,u=>u=Value.type n
noncomputable abbrev Vals:List V->List Value->Prop:=Paired RelV
theorem Vals.length{xs:List V}{us:List Value}(r:Vals xs us):xs.length=us.length:=Paired.length r
theorem Vals.get:∀ {xs:List V}{us:List Value}{i:Nat}{x:V},Vals xs us->xs[i]?=some x->∃u,us[i]?=some u/\RelV x u
 |_,_,_,_,.nil,e=>by simp at e
 |_,_,0,_,.cons r _,e=>by simp at e;subst e;exact⟨_,J,r⟩
 |_,_,i+1,x,.cons _ t,e=>by
  obtain⟨u,h1,h2⟩:=Vals.get (i:=i) (x:=x) t (by simpa using e);exact⟨u,by simpa using h1,h2⟩
theorem Vals.set{x:V}{u:Value}(r:RelV x u):∀ {xs:List V}{us:List Value}(i:Nat),Vals xs us->Vals (xs.set i x) (us.set i u)
 |_,_,_,.nil=>.nil
 |_,_,0,.cons _ t=>.cons r t
 |_,_,i+1,.cons q t=>.cons q (Vals.set r i t)
theorem Vals.append:∀ {xs ys:List V}{us B:List Value},Vals xs us->Vals ys B->Vals (xs++ys) (us++B)
 |_,_,_,_,.nil,s=>s
 |_,_,_,_,.cons r t,s=>.cons r (Vals.append t s)
theorem Vals.take:∀ {xs:List V}{us:List Value}(n:Nat),Vals xs us->Vals (xs.take n) (us.take n)
 |_,_,0,_=>.nil
 |_,_,_+1,.nil=>.nil
 |_,_,n+1,.cons r t=>.cons r (Vals.take n t)
theorem Vals.drop:∀ {xs:List V}{us:List Value}(n:Nat),Vals xs us->Vals (xs.drop n) (us.drop n)
 |_,_,0,r=>r
 |_,_,_+1,.nil=>.nil
 |_,_,n+1,.cons _ t=>Vals.drop n t
noncomputable def RelO:Option V->Option Value->Prop
 |some v,some u=>RelV v u
 |none,none=>True
 |_,_=>False
noncomputable def KV{κ:Type}:List (κ×V)->List (κ×Value)->Prop:=Paired λ(p:κ×V) (q:κ×Value)=>p.1=q.1/\RelV p.2 q.2
noncomputable def kV:Key->V
 |.inl i=>.int i
 |.inr x=>.str x
inductive HO where
 /-- a list -/
 |lst (xs:List V)
 /-- a tuple (never changes) -/
 |tup (xs:List V)
 /-- a dict whose keys are ints and texts;one whose keys are tuples of ints and texts (the empty one is both) -/
 |dK (kvs:List (Key×V))|dT (kvs:List (List Key×V))
 /-- a set of ints: its members,its size -/
 |set (S:Int->Bool) (n:Nat)
 /-- an instance of the class at C,its dict at dx,its attributes -/
 |ins (C dx:Addr) (fs:List (Str×V))
 /-- the dict of the instance at x -/
 |own (x:Addr)
 /-- the dict of an exception -/
 |xd (fs:List (Str×V))
 /-- a bound method,f of x -/
 |met (f x:Addr)
 /-- a range object lo,lo+1,.. below hi -/
 |rng (lo hi:Int)
 /-- a thing that is known to the object (the script;a dict while a loop walks it): read,never written while it is so -/
 |frz (o:Obj) (u:HO)
 /-- a code object's table -/
 |tbl (ps:Array Value)
 /-- any other thing,by what is true of its one object (a def of one's own: SetO a S n:=HO.ext λh=>..) -/
 |ext (φ:Heap->Prop)
noncomputable abbrev Hp:=Addr->Option HO
noncomputable def upd(H:Hp)(a:Addr)(o:HO):Hp:=λb=>if b=a then some o else H b
theorem zab{H:Hp}{a:Addr}{o:HO}:upd H a o a=some o:=by unfold upd;rw[if_pos rfl]
theorem zah{H:Hp}{a b:Addr}{o:HO}(h:b≠a):upd H a o b=H b:=by unfold upd;rw[if_neg h]
theorem zao{H:Hp}{a b:Addr}{o u:HO}(h:H a=some o)(h':H b=some u)(d:o≠u):a≠b:=by
 intro e;subst e;rw[h] at h';exact d (Option.some.inj h')
theorem zad{H:Hp}{a b:Addr}{o:HO}(h:H a=some o)(h':H b=none):a≠b:=by
 intro e;subst e;rw[h] at h';cases h'
section
variable (P:Program) (w:World)
noncomputable def ObjOk(H:Hp)(h:Heap)(a:Addr):HO->Prop
 |.lst xs=>xs.length<=sizeLine/\∃(its:List Value) (n:Nat),Vals xs its/\h.get? a=some { cls:=.type "list",data:=.seq its.toArray n }
 |.tup xs=>xs.length<=sizeLine/\∃its:List Value,Vals xs its/\IsTup h a its.toArray
 |.dK kvs=>kvs.length<=sizeLine/\(a==sysModules)=false/\∃vs,KV kvs vs/\h.DictOf (zaI P w) a vs
 |.dT kvs=>kvs.length<=sizeLine/\(a==sysModules)=false/\∃xs:List (List Key×Addr×Value),
   Paired (λ(p:List Key×V) (q:List Key×Addr×Value)=>p.1=q.1/\H q.2.1=some (.tup (p.1.map kV))/\RelV p.2 q.2.2) kvs xs /\
   ∃o es D,h.get? a=some o/\o.ExactDict/\o.data=.dict es D/\es.toList=xs.map (entryOfKey (tupleKind (zaI P w)))/\(xs.map (·.1)).Nodup
 |.set S n=>h.SetOf (intKind P w) a S n
 |.ins C dx fs=>H dx=some (.own a)/\fs.length<=1000/\dx≠a/\h.get? a=some (W.instObj C dx) /\
   ∃mA,h.Ns1 dx mA/\(∀f,RelO (fs.lookup f) (mA f))/\PySem.Within mA (fs.map (·.1))
 |.own _=>∃o,h.get? a=some o
 |.xd fs=>∃mA,h.Ns1 a mA/\∀f,RelO (fs.lookup f) (mA f)
 |.rng lo hi=>∃t u v,h.get? a=some { cls:=.type "range",data:=.fields #[.int lo t,.int hi u,.int 1 v] }
 |.frz o u=>h.get? a=some o/\ObjOk H h a u
 |.tbl ps=>h.get? a=some { cls:=.none,data:=.fields ps }
 |.met f x=>h.get? a=some (W.methodObj (.ref f) (.ref x))
 |.ext B=>B h/\(∃o,h.get? a=some o)/\∀h1 h2:Heap,B h1->(∀o,h1.get? a=some o->h2.get? a=some o)->B h2
noncomputable def HOk(H:Hp)(h:Heap):Prop:=∀a o,H a=some o->ObjOk P w H h a o
end
section
variable {P:Program}{w:World}{H H':Hp}{h h':Heap}{a:Addr}{o:HO}
theorem ObjOk.lt(x:ObjOk P w H h a o):a<h.objs.size:=by
 cases o with
 |lst xs=>obtain⟨_,_,_,_,e⟩:=x;exact Heap.lt_size e
 |tup xs=>obtain⟨_,_,_,p⟩:=x;exact p.lt
 |dK kvs=>obtain⟨_,_,_,_,o,_,_,e,_⟩:=x;exact Heap.lt_size e
 |dT kvs=>obtain⟨_,_,_,_,o,_,_,e,_⟩:=x;exact Heap.lt_size e
 |set S n=>obtain⟨o,_,_,_,e,_⟩:=x;exact Heap.lt_size e
 |ins C dx fs=>obtain⟨_,_,_,e,_⟩:=x;exact Heap.lt_size e
 |own y=>obtain⟨_,e⟩:=x;exact Heap.lt_size e
 |xd fs=>obtain⟨_,⟨_,_,_,e,_⟩,_⟩:=x;exact Heap.lt_size e
 |rng lo hi=>obtain⟨_,_,_,e⟩:=x;exact Heap.lt_size e
 |frz B u=>obtain⟨e,_⟩:=x;exact Heap.lt_size e
 |tbl ps=>exact Heap.lt_size (show h.get? a=some _ from x)
 |met f y=>exact Heap.lt_size (show h.get? a=some _ from x)
 |ext D=>obtain⟨_,⟨_,e⟩,_⟩:=x;exact Heap.lt_size e
theorem Paired.mapP{B D:Type}{F G:B->D->Prop}:∀ {I:List B}{J0:List D},Paired F I J0->(∀a b,F a b->G a b)->Paired G I J0
 |_,_,.nil,_=>.nil
 |_,_,.cons r t,f=>.cons (f _ _ r) (Paired.mapP t f)
theorem ObjOk.stay(x:ObjOk P w H h a o)(k:∀b u,(b=a∨H b=some (.own a))->h.get? b=some u->h'.get? b=some u)(F:∀b,H b=some (.own a)->H' b=some (.own a))(G:∀b xs,H b=some (.tup xs)->H' b=some (.tup xs)):ObjOk P w H' h' a o:=by
 induction o with
 |lst xs=>obtain⟨z,its,n,r,e⟩:=x;exact⟨z,its,n,r,k _ _ (.inl J) e⟩
 |tup xs=>obtain⟨z,its,r,B,e,c⟩:=x;exact⟨z,its,r,B,k _ _ (.inl J) e,c⟩
 |dK kvs=>obtain⟨z,y,vs,r,B,es,D,e,c⟩:=x;exact⟨z,y,vs,r,B,es,D,k _ _ (.inl J) e,c⟩
 |dT kvs=>
  obtain⟨z,y,xs,r,B,es,D,e,c⟩:=x;exact⟨z,y,xs,Paired.mapP r λp q z=>⟨z.1,G _ _ z.2.1,z.2.2⟩,B,es,D,k _ _ (.inl J) e,c⟩
 |set S n=>obtain⟨B,es,D,t,e,c⟩:=x;exact⟨B,es,D,t,k _ _ (.inl J) e,c⟩
 |ins C dx fs=>
  obtain⟨d,z,I,e,mA,⟨od,es,D,J0,c⟩,r⟩:=x;exact⟨F _ d,z,I,k _ _ (.inl J) e,mA,⟨od,es,D,k _ _ (.inr d) J0,c⟩,r⟩
 |own y=>obtain⟨B,e⟩:=x;exact⟨B,k _ _ (.inl J) e⟩
 |xd fs=>obtain⟨mA,⟨od,es,D,e,c⟩,r⟩:=x;exact⟨mA,⟨od,es,D,k _ _ (.inl J) e,c⟩,r⟩
 |rng lo hi=>obtain⟨t,u,v,e⟩:=x;exact⟨t,u,v,k _ _ (.inl J) e⟩
 |frz B u L=>obtain⟨e,q⟩:=x;exact⟨k _ _ (.inl J) e,L q⟩
 |tbl ps=>
  have e:h.get? a=some { cls:=.none,data:=.fields ps }:=x;show h'.get? a=some { cls:=.none,data:=.fields ps };exact k a _ (.inl J) e
 |met f y=>
  have e:h.get? a=some (W.methodObj (.ref f) (.ref y)):=x;show h'.get? a=some (W.methodObj (.ref f) (.ref y));exact k a _ (.inl J) e
 |ext M=>obtain⟨p,⟨o,e⟩,st⟩:=x;exact⟨st _ _ p λo q=>k _ _ (.inl J) q,⟨o,k _ _ (.inl J) e⟩,st⟩
theorem HOk.lt(x:HOk P w H h)(e:H a=some o):a<h.objs.size:=(x a o e).lt
theorem HOk.fresh(x:HOk P w H h)(e:h.objs.size<=a):H a=none:=by
 cases q:H a with
 |none=>rfl
 |some u=>exact absurd (Nat.lt_of_lt_of_le (x.lt q) e) (Nat.lt_irrefl _)
theorem HOk.kept(x:HOk P w H h)(k:∀b u,h.get? b=some u->h'.get? b=some u):HOk P w H h':=λa o e=>
 (x a o e).stay (λb u _ q=>k b u q) (λ_ q=>q) λ_ _ q=>q
theorem HOk.laid(x:HOk P w H h)(k:∀b u,h.get? b=some u->h'.get? b=some u)(F:h.objs.size<=a)(G:ObjOk P w (upd H a o) h' a o):HOk P w (upd H a o) h':=λb u e=>by
 have B:=x.fresh F;by_cases D:b=a
 .subst D;rw[zab] at e;cases e;exact G
 .rw[zah D] at e;exact(x b u e).stay (λc v _ q=>k c v q) (λc q=>by rw[zah (zad q B)];exact q) λc xs q=>by rw[zah (zad q B)];exact q
end
noncomputable def Rd(H:Hp)(a:Addr)(u:HO):Prop:=H a=some u∨∃o,H a=some (.frz o u)
theorem Rd.ok{P:Program}{w:World}{H:Hp}{h:Heap}{a:Addr}{u:HO}(r:Rd H a u)(x:HOk P w H h):ObjOk P w H h a u:=by
 rcases r with r|⟨o,r⟩
 .exact x a u r
 .obtain⟨_,q⟩:=x a _ r;exact q
noncomputable def Mut:Option HO->Prop
 |some (.lst _)=>True
 |some (.dK _)=>True
 |some (.dT _)=>True
 |some (.set _ _)=>True
 |some (.ins _ _ _)=>True
 |some (.ext _)=>True
 |_=>False
section
variable {P:Program}{w:World}{H:Hp}{h h':Heap}{x e:Addr}{o':HO}
theorem HOk.write(J0:HOk P w H h)(B:Mut (H x))(G:e=x∨H e=some (.own x))(k:∀b u,b≠e->h.get? b=some u->h'.get? b=some u)(L:∃u,h'.get? e=some u)(M:ObjOk P w (upd H x o') h' x o'):HOk P w (upd H x o') h':=λb u q=>by
 have I:∀c y,H c=some (.own y)->c≠x:=λc y r z=>by subst z;rw[r] at B;exact B
 have O:∀c xs,H c=some (.tup xs)->c≠x:=λc xs r z=>by subst z;rw[r] at B;exact B
 by_cases D:b=x
 .subst D;rw[zab] at q;cases q;exact M
 .rw[zah D] at q;by_cases F:b=e
  .have q':H b=some (.own x):=by
    rcases G with z|z
    .exact absurd (F.trans z) D
    .rw[F];exact z
   rw[q] at q';cases q';obtain⟨v,R⟩:=L;exact⟨v,by rw[F];exact R⟩
  .refine(J0 b u q).stay (λc v hc r=>k c v ?_ r) (λc r=>by rw[zah (I c b r)];exact r) λc xs r=>by rw[zah (O c xs r)];exact r
   rcases hc with rfl|hc
   .exact F
   .rintro rfl;rcases G with z|z
    .exact I c b hc z
    .rw[hc] at z;cases z;exact D rfl
end
structure Un(fs ex:List Addr)(H H':Hp)(h h':Heap):Prop where
 keep:∀b o,h.get? b=some o->H b=none->b∉fs->b∉ex->h'.get? b=some o
 slot:∀b o,h.get? b=some o->H b=none->b∈fs->b∉ex->∃sl,h'.get? b=some { o with slots:=sl }
 free:∀b o,h.get? b=some o->H b=none->b∉ex->H' b=none
 there:∀b o,h.get? b=some o->b∉ex->∃o',h'.get? b=some o'
 tups:∀b xs,H b=some (.tup xs)->H' b=some (.tup xs)
 frzs:∀b o u,H b=some (.frz o u)->H' b=some (.frz o u)
 tbls:∀b ps,H b=some (.tbl ps)->∃more,H' b=some (.tbl (ps++more))
section
variable {fs fs' ex ex':List Addr}{H H1 H2:Hp}{h h1 h2 h':Heap}{a x e:Addr}{o:HO}
theorem Un.any(u:Un fs ex H H1 h h1){b:Addr}{B:Obj}(q:h.get? b=some B)(n:H b=none)(D:b∉ex):∃G,h1.get? b=some { B with slots:=G }:=by
 by_cases F:b∈fs
 .exact u.slot b B q n F D
 .exact⟨B.slots,u.keep b B q n F D⟩
theorem Un.kept(k:∀b u,h.get? b=some u->h'.get? b=some u):Un fs ex H H h h':=
 ⟨λb B q _ _ _=>k b B q,λb B q _ _ _=>⟨B.slots,k b B q⟩,λ_ _ _ n _=>n,λb B q _=>⟨B,k b B q⟩,λ_ _ q=>q,λ_ _ _ q=>q,λ_ ps q=>⟨#[],by rw[q];simp⟩⟩
theorem Un.refl:Un fs ex H H h h:=Un.kept λ_ _ q=>q
theorem Un.laid(k:∀b u,h.get? b=some u->h'.get? b=some u)(D:h.objs.size<=a)(B:H a=none):Un fs ex H (upd H a o) h h' where
 keep:=λb u q _ _ _=>k b u q
 slot:=λb u q _ _ _=>⟨u.slots,k b u q⟩
 free:=λb u q n _=>by rw[zah (Nat.ne_of_lt (Nat.lt_of_lt_of_le (Heap.lt_size q) D))];exact n
 there:=λb u q _=>⟨u,k b u q⟩
 tups:=λb xs q=>by rw[zah (zad q B)];exact q
 frzs:=λb u xs q=>by rw[zah (zad q B)];exact q
 tbls:=λb ps q=>⟨#[],by rw[zah (zad q B),q];simp⟩
theorem Un.write(B:Mut (H x))(J0:e=x∨H e=some (.own x))(k:∀b u,b≠e->h.get? b=some u->h'.get? b=some u)(L:∃u,h'.get? e=some u):Un fs ex H (upd H x o) h h':=by
 have F:∀b,H b=none->b≠x:=λb n z=>by subst z;rw[n] at B;exact B
 have G:∀b,H b=none->b≠e:=λb n z=>by
  subst z;rcases J0 with r|r
  .exact F b n r
  .rw[n] at r;cases r
 have D:∀b u,H b=some u->¬Mut (some u)->b≠x:=λb u q nm z=>by subst z;rw[q] at B;exact nm B
 refine⟨λb u q n _ _=>k b u (G b n) q,λb u q n _ _=>⟨u.slots,k b u (G b n) q⟩,λb u q n _=>by rw[zah (F b n)];exact n,λb u q _=>?_,
  λb xs q=>by rw[zah (D b _ q λz=>z)];exact q,λb u xs q=>by rw[zah (D b _ q λz=>z)];exact q,λb ps q=>⟨#[],by rw[zah (D b _ q λz=>z),q];simp⟩⟩
 by_cases I:b=e
 .subst I;exact L
 .exact⟨u,k b u I q⟩
end
noncomputable def trk(h:Heap)(H:Hp):List Addr:=(List.range h.objs.size).filter λa=>(H a).isSome
noncomputable def hidT(h:Heap)(H:Hp):Heap:=W.hideAll h (trk h H)
theorem zhB(h:Heap)(H:Hp):(hidT h H).objs.size=h.objs.size:=W.hideAll_size _ _
theorem zji{h:Heap}{H:Hp}{b:Addr}{o:Obj}(e:h.get? b=some o)(n:H b=none):(hidT h H).get? b=some o:=
 W.hideAll_get _ e λB=>by
  have q:(H b).isSome=true:=(List.mem_filter.mp B).2;rw[n] at q;simp at q
theorem zkC{h:Heap}{H:Hp}{b:Addr}{o:Obj}(e:(hidT h H).get? b=some o):h.get? b=some o/\H b=none:=by
 have B:h.get? b=some o:=W.of_hideAll (trk h H) e;refine⟨B,?_⟩;cases q:H b with
 |none=>rfl
 |some x=>
  have D:b∈trk h H:=List.mem_filter.mpr ⟨List.mem_range.mpr (Heap.lt_size B),by simp[q]⟩;have z:(hidT h H).get? b=none:=W.hideAll_none (trk h H) D;rw[z] at e;cases e
structure Mod(K:W.Frag)(mg:Str->Option Value)(base:Heap):Prop where
 kin:K.In base
 glob:base.Ns mainGlobals mg
 blt:∃mb,base.Ns builtinsNs mb/\∀x:Str,x≠"__name__"->mb x=bootBuiltins x
 nolimit:base.NoLimit
structure Cx where
 prog:Program
 w:World
 K:W.Frag
 mg:Str->Option Value
 base:Heap
 A:Around
 N:List Str
 s₀:Shared
 H₀:Hp
 env:Env
 outer:List Env
 stack:List Env
 ex:List Addr
 fn:Str->Bool
 calm:Bool
 pn:List (Addr×Obj)
 xe:Value->Shared->Prop
noncomputable def frs(l:List Env):List Addr:=l.filterMap (·.frame)
noncomputable abbrev Cx.fs(X:Cx):List Addr:=frs X.outer
noncomputable def Vis(sc:Scope)(x:Str):Prop:=sc.names.lookup x=some .local∨sc.names.lookup x=some .cell∨sc.names.lookup x=some .free
noncomputable def Loc(sc:Scope)(x:Str):Prop:=sc.names.lookup x=some .local∨sc.names.lookup x=some .cell
noncomputable def Look(env:Env)(h:Heap)(m:Str->Option Value)(x:Str)(u:Value):Prop:=
 (env.kindOf x=some .local/\m x=some u)∨((env.kindOf x=some .cell∨env.kindOf x=some .free)/\∃c,env.cells.lookup x=some c/\h.IsCell c (some u))
structure Cx.Ok(X:Cx):Prop where
 mod:Mod X.K X.mg X.base
 kind:X.env.scope.kind=.function
 glob:X.env.globals=mainGlobals
 blt:X.env.builtins=builtinsNs
 above:X.s₀.heap.objs.size<=X.env.locals
 inj:∀x y c,X.env.cells.lookup x=some c->X.env.cells.lookup y=some c->x=y
 has:∀x,(X.env.kindOf x=some .cell∨X.env.kindOf x=some .free)->∃c,X.env.cells.lookup x=some c
 cab:∀x c,X.fn x=true->X.env.cells.lookup x=some c->X.s₀.heap.objs.size<=c
 hd:X.calm=true->X.A.handled=none
 frames:X.A.frames=some X.stack
 stk:X.stack=X.outer∨(X.stack=X.env::X.outer/\X.env.frame=some X.env.locals)
 exf:∀b∈X.ex,b≠X.env.locals/\∀x c,X.env.cells.lookup x=some c->c≠b
 bs:∀b o,X.base.get? b=some o->X.s₀.heap.get? b=some o/\X.H₀ b=none
 bsz:X.base.objs.size<=X.s₀.heap.objs.size
 noex:∀b o,X.base.get? b=some o->b∉X.ex
 exfs:∀b∈X.ex,b∉X.fs
 funs:X.s₀.heap.FunFrames X.base X.outer
 frf:∀b∈X.fs,X.H₀ b=none
structure Inv(X:Cx)(pins:List (Addr×Obj))(σ:List (Option V))(H:Hp)(s:Shared):Prop where
 ok:X.Ok
 os:s.os=X.s₀.os
 bare:AllBare s.gens
 base:Un X.fs X.ex X.H₀ H X.s₀.heap s.heap
 loc:∃m,s.heap.Ns X.env.locals m/\∀(i:Nat) (x:Str) (v:V),X.N[i]?=some x->σ[i]?=some (some v)->Vis X.env.scope x->∃u,RelV v u/\Look X.env s.heap m x u
 cell:∀x c,X.env.cells.lookup x=some c->∃v,s.heap.IsCell c v
 free:H X.env.locals=none
 freeC:∀x c,X.env.cells.lookup x=some c->H c=none
 pin:∀p∈X.pn++pins,s.heap.get? p.1=some p.2/\H p.1=none/\p.1≠X.env.locals/\p.1∉X.fs/\∀v,p.2.data≠.cell v
 hok:HOk X.prog X.w H s.heap
 len:σ.length=X.N.length
section
variable {X:Cx}{pins:List (Addr×Obj)}{σ:List (Option V)}{H H':Hp}{s:Shared}{h':Heap}
theorem Cx.Ok.nofr(B:X.Ok){b:Addr}{o:Obj}(e:X.base.get? b=some o):b∉X.fs:=λD=>by
 have:=(B.funs.mem D).1;rw[e] at this;cases this
theorem Inv.bs(B:Inv X pins σ H s):∀b o,X.base.get? b=some o->s.heap.get? b=some o/\H b=none:=λb o e=>
 ⟨B.base.keep b o (B.ok.bs b o e).1 (B.ok.bs b o e).2 (B.ok.nofr e) (B.ok.noex b o e),B.base.free b o (B.ok.bs b o e).1 (B.ok.bs b o e).2 (B.ok.noex b o e)⟩
theorem Inv.bk(B:Inv X pins σ H s):∀b o,X.base.get? b=some o->s.heap.get? b=some o:=λb o e=>(B.bs b o e).1
theorem Inv.mod(B:Inv X pins σ H s):Mod X.K X.mg X.base:=B.ok.mod
theorem Inv.kIn(B:Inv X pins σ H s):X.K.In s.heap:=B.ok.mod.kin.keeps B.bk
theorem Inv.lt(B:Inv X pins σ H s):X.env.locals<s.heap.objs.size:=let ⟨_,D,_⟩:=B.loc;D.lt
theorem Inv.sz(B:Inv X pins σ H s):X.s₀.heap.objs.size<=s.heap.objs.size:=Nat.le_trans B.ok.above (Nat.le_of_lt B.lt)
theorem Inv.nofs(B:Inv X pins σ H s){a:Addr}(h:s.heap.objs.size<=a):a∉X.fs:=λD=>by
 obtain⟨_,o,F,_⟩:=B.ok.funs.mem D;exact absurd (Nat.lt_of_lt_of_le (Heap.lt_size F) (Nat.le_trans B.sz h)) (Nat.lt_irrefl _)
theorem Inv.cne(B:Inv X pins σ H s):∀x c,X.env.cells.lookup x=some c->c≠X.env.locals:=λx c e z=>by
 obtain⟨v,o,D,F⟩:=B.cell x c e;obtain⟨m,⟨o',es,J0,G,I,_⟩,_⟩:=B.loc;rw[z,G] at D;cases D;rw[I] at F;cases F
theorem Inv.funs(D:Inv X pins σ H s):s.heap.FunFrames X.base X.outer:=by
 have L:∀(l:List Env),(∀b∈frs l,b∈X.fs)->X.s₀.heap.FunFrames X.base l->s.heap.FunFrames X.base l:=by
  intro l;induction l with
  |nil=>intro _ _;trivial
  |cons env r M=>
   intro J0 O;obtain⟨R,⟨B,o,F,S,U,V⟩,W⟩:=O;have G:B∈X.fs:=J0 B (by unfold frs;rw[List.filterMap_cons,F];exact List.mem_cons_self);obtain⟨Y,e⟩:=D.base.slot B o U (D.ok.frf B G) G λz=>D.ok.exfs B z G;exact⟨R,⟨B,_,F,S,e,V⟩,M (λb I=>J0 b (by unfold frs;rw[List.filterMap_cons,F];exact List.mem_cons_of_mem _ I)) W⟩
 exact L X.outer (λ_ I=>I) D.ok.funs
theorem Inv.stack(B:Inv X pins σ H s):s.heap.FunFrames X.base X.stack:=by
 rcases B.ok.stk with e|⟨e,D⟩
 .rw[e];exact B.funs
 .rw[e];obtain⟨m,F,_⟩:=B.loc;refine .cons (by rw[B.ok.kind];decide) D F ?_ B.funs;exact Heap.get?_none_of_le (Nat.le_trans B.ok.bsz B.ok.above)
theorem Inv.stkSub(D:Inv X pins σ H s):∀b∈frs X.stack,b∈X.env.locals::X.fs:=λb B=>by
 rcases D.ok.stk with e|⟨e,F⟩
 .rw[e] at B;exact List.mem_cons_of_mem _ B
 .rw[e] at B;unfold frs at B;rw[List.filterMap_cons,F] at B;exact B
theorem Inv.stkFree(B:Inv X pins σ H s):∀b∈frs X.stack,H b=none:=λb hb=>by
 rcases List.mem_cons.mp (B.stkSub b hb) with e|hb
 .rw[e];exact B.free
 .obtain⟨_,o,D,_⟩:=B.ok.funs.mem hb;exact B.base.free b o D (B.ok.frf b hb) λz=>B.ok.exfs b z hb
theorem Inv.step{g':Array GenState}{t':Nat}{d':Drawn}{ch:List Addr}(B:Inv X pins σ H s)(J0:∀b∈ch,(b∈X.ex∨X.s₀.heap.objs.size<=b)/\b≠X.env.locals/\(∀x c,X.env.cells.lookup x=some c->c≠b)/\∀p∈X.pn++pins,p.1≠b)(keep:∀b o,b≠X.env.locals->b∉X.fs->b∉ch->s.heap.get? b=some o->H b=none->h'.get? b=some o)(slot:∀b o,b≠X.env.locals->b∈X.fs->b∉ch->s.heap.get? b=some o->H b=none->∃R,h'.get? b=some { o with slots:=R })(free:∀b o,b∉ch->s.heap.get? b=some o->H b=none->H' b=none)(there:∀b o,b∉ch->s.heap.get? b=some o->∃o',h'.get? b=some o')(tups:∀b xs,H b=some (.tup xs)->H' b=some (.tup xs))(frzs:∀b o u,H b=some (.frz o u)->H' b=some (.frz o u))(tbls:∀b ps,H b=some (.tbl ps)->∃more,H' b=some (.tbl (ps++more)))(ab:∀m,s.heap.Ns X.env.locals m->h'.Ns X.env.locals m)(ac:HOk X.prog X.w H' h')(ad:AllBare g') :
  Inv X pins σ H' { s with heap:=h',gens:=g',drawn:=d',toks:=t' }:=by
 have U:∀b o,X.s₀.heap.get? b=some o->b≠X.env.locals:=λb o e=>Nat.ne_of_lt (Nat.lt_of_lt_of_le (Heap.lt_size e) B.ok.above);have O:∀b o,X.s₀.heap.get? b=some o->b∉X.ex->b∉ch:=λb o e D G=>by
  rcases(J0 b G).1 with z|z
  .exact D z
  .exact absurd (Nat.lt_of_lt_of_le (Heap.lt_size e) z) (Nat.lt_irrefl _)
 have V:∀x c,X.env.cells.lookup x=some c->∀v,s.heap.IsCell c v->h'.IsCell c v:=λx c e v ⟨o,I,S⟩=>by
  have L:c∉ch:=λz=>(J0 c z).2.2.1 x c e rfl;by_cases W:c∈X.fs
  .obtain⟨R,q⟩:=slot c o (B.cne x c e) W L I (B.freeC x c e);exact⟨_,q,S⟩
  .exact⟨o,keep c o (B.cne x c e) W L I (B.freeC x c e),S⟩
 refine⟨B.ok,B.os,ad,⟨λb o e n G D=>?_,λb o e n G D=>?_,λb o e n D=>?_,λb o e D=>?_,λb xs e=>tups b xs (B.base.tups b xs e),λb o xs e=>frzs b o xs (B.base.frzs b o xs e),λb ps e=>?_⟩,?_,λx c e=>?_,?_,λx c e=>?_,λp Y=>?_,ac,B.len⟩
 .exact keep b o (U b o e) G (O b o e D) (B.base.keep b o e n G D) (B.base.free b o e n D)
 .obtain⟨R,F⟩:=B.base.slot b o e n G D;obtain⟨ae,M⟩:=slot b _ (U b o e) G (O b o e D) F (B.base.free b o e n D);exact⟨ae,M⟩
 .obtain⟨o',F⟩:=B.base.there b o e D;exact free b o' (O b o e D) F (B.base.free b o e n D)
 .obtain⟨o',F⟩:=B.base.there b o e D;exact there b o' (O b o e D) F
 .obtain⟨af,F⟩:=B.base.tbls b ps e;obtain⟨ag,M⟩:=tbls b _ F;exact⟨af++ag,by rw[M,Array.append_assoc]⟩
 .obtain⟨m,ah,ai⟩:=B.loc;refine⟨m,ab m ah,λi x v F M aj=>?_⟩;obtain⟨u,r,l⟩:=ai i x v F M aj;refine⟨u,r,?_⟩;rcases l with l|⟨k,c,e,z⟩
  .exact .inl l
  .exact .inr ⟨k,c,e,V x c e _ z⟩
 .obtain⟨v,z⟩:=B.cell x c e;exact⟨v,V x c e v z⟩
 .obtain⟨m,⟨o,_,_,I,_⟩,_⟩:=B.loc;exact free _ o (λz=>(J0 _ z).2.1 rfl) I B.free
 .obtain⟨v,o,I,S⟩:=B.cell x c e;exact free c o (λz=>(J0 c z).2.2.1 x c e J) I (B.freeC x c e)
 .obtain⟨e,n,Z,aa,d⟩:=B.pin p Y;have L:p.1∉ch:=λz=>(J0 p.1 z).2.2.2 p Y rfl;exact⟨keep p.1 p.2 Z aa L e n,free p.1 p.2 L e n,Z,aa,d⟩
theorem Inv.un{t':Nat}(B:Inv X pins σ H s)(u:Un X.fs [] H H' s.heap h')(I:HOk X.prog X.w H' h'):Inv X pins σ H' { s with heap:=h',toks:=t' }:=by
 obtain⟨m,⟨o,es,S,F,r⟩,_⟩:=id B.loc;obtain⟨U,J0⟩:=u.any F B.free (by simp);exact B.step (g':=s.gens) (d':=s.drawn) (ch:=[]) (λ_ z=>nomatch z) (λb o _ D _ e n=>u.keep b o e n D (by simp)) (λb o _ D _ e n=>u.slot b o e n D (by simp)) (λb o _ e n=>u.free b o e n (by simp)) (λb o _ e=>u.there b o e (by simp)) u.tups u.frzs u.tbls (λV L=>by
  obtain⟨o',M,O,G,R⟩:=L;rw[F] at G;cases G;exact⟨_,M,O,J0,R⟩) I B.bare
theorem Inv.call{g':Array GenState}{t':Nat}{d':Drawn}{ch:List Addr}(D:Inv X pins σ H s)(u:Un (frs X.stack) ch H H' s.heap h')(L:HOk X.prog X.w H' h')(M:AllBare g')(G:∀b∈ch,(b∈X.ex∨X.s₀.heap.objs.size<=b)/\b≠X.env.locals/\(∀x c,X.env.cells.lookup x=some c->c≠b)/\∀p∈X.pn++pins,p.1≠b) :
  Inv X pins σ H' { s with heap:=h',gens:=g',drawn:=d',toks:=t' }:=by
 obtain⟨m,⟨o,es,W,I,r⟩,_⟩:=id D.loc;obtain⟨Y,F⟩:=u.any I D.free λz=>(G _ z).2.1 rfl;exact D.step (ch:=ch) G (λb o F O B e n=>u.keep b o e n (λz=>(List.mem_cons.mp (D.stkSub b z)).elim F O) B) (λb o _ _ B e n=>u.any e n B) (λb o B e n=>u.free b o e n B) (λb o B e=>u.there b o e B) u.tups u.frzs u.tbls (λZ R=>by
  obtain⟨o',S,U,J0,V⟩:=R;rw[I] at J0;cases J0;exact⟨_,S,U,F,V⟩) L M
theorem Inv.turned{t':Nat}{it:Addr}(D:Inv X pins σ H s)(k:∀b o,b≠it->s.heap.get? b=some o->h'.get? b=some o)(I:H it=none)(F:it≠X.env.locals)(h1:it∈X.ex∨X.s₀.heap.objs.size<=it)(h2:∀x c,X.env.cells.lookup x=some c->c≠it)(J0:∀p∈X.pn++pins,p.1≠it):Inv X pins σ H { s with heap:=h',toks:=t' }:=by
 have G:∀b u,H b=some u->b≠it:=λb u e z=>by rw[z,I] at e;cases e
 refine D.step (g':=s.gens) (d':=s.drawn) (ch:=[it]) (λb L=>?_) (λb o _ _ B e _=>k b o (λz=>B (by simp[z])) e) (λb o _ _ B e _=>⟨o.slots,k b o (λz=>B (by simp[z])) e⟩) (λ_ _ _ _ n=>n)
  (λb o B e=>⟨o,k b o (λz=>B (by simp[z])) e⟩) (λ_ _ e=>e) (λ_ _ _ e=>e) (λb ps e=>⟨#[],by rw[e];simp⟩) (λm M=>?_) (λb u e=>?_) D.bare
 .have e:b=it:=by simpa using L
  subst e;exact⟨h1,F,h2,J0⟩
 .obtain⟨o,es,O,R,r⟩:=M;exact⟨o,es,O,k _ o (Ne.symm F) R,r⟩
 .refine(D.hok b u e).stay (λc v B q=>k c v ?_ q) (λ_ q=>q) λ_ _ q=>q;rcases B with z|z
  .rw[z];exact G b u e
  .exact G c _ z
theorem Inv.tok(B:Inv X pins σ H s)(t:Nat):Inv X pins σ H { s with toks:=t }:=B.un (h':=s.heap) (t':=t) Un.refl B.hok
theorem Inv.kept{t':Nat}(B:Inv X pins σ H s)(k:∀b u,s.heap.get? b=some u->h'.get? b=some u):Inv X pins σ H { s with heap:=h',toks:=t' }:=B.un (Un.kept k) (B.hok.kept k)
theorem Inv.laid{a:Addr}{o:HO}{t':Nat}(B:Inv X pins σ H s)(k:∀b u,s.heap.get? b=some u->h'.get? b=some u)(D:s.heap.objs.size<=a)(F:ObjOk X.prog X.w (upd H a o) h' a o) :
  Inv X pins σ (upd H a o) { s with heap:=h',toks:=t' }:=B.un (Un.laid k D (B.hok.fresh D)) (B.hok.laid k D F)
theorem Inv.write{x e:Addr}{o:HO}{t':Nat}(B:Inv X pins σ H s)(D:Mut (H x))(F:e=x∨H e=some (.own x))(k:∀b u,b≠e->s.heap.get? b=some u->h'.get? b=some u)(G:∃u,h'.get? e=some u)(I:ObjOk X.prog X.w (upd H x o) h' x o):Inv X pins σ (upd H x o) { s with heap:=h',toks:=t' }:=B.un (Un.write D F k G) (B.hok.write D F k G I)
theorem Inv.pins_of{D:List (Addr×Obj)}(B:Inv X pins σ H s)(h:∀p∈D,s.heap.get? p.1=some p.2/\H p.1=none/\p.1≠X.env.locals/\p.1∉X.fs/\∀v,p.2.data≠.cell v):Inv X D σ H s:=
 ⟨B.ok,B.os,B.bare,B.base,B.loc,B.cell,B.free,B.freeC,λp F=>(List.mem_append.mp F).elim (λz=>B.pin p (List.mem_append_left _ z)) (h p),B.hok,B.len⟩
theorem zgl{N:List Str}(B:N.Nodup){i j:Nat}{x:Str}(a:N[i]?=some x)(b:N[j]?=some x):i=j:=by
 obtain⟨h1,D⟩:=List.getElem?_eq_some_iff.mp a;obtain⟨h2,F⟩:=List.getElem?_eq_some_iff.mp b;exact(List.getElem_inj B).mp (D.trans F.symm)
theorem zfd{ao:Model}{A:Around}{E:Value->Shared->Prop}{i:Nat}{x:Str}{v:V}{u:Value}{Q:Unit->Shared->Prop}(B:Inv X pins σ H s)(af:X.N.Nodup)(hi:X.N[i]?=some x)(G:Loc X.env.scope x)(r:RelV v u)(h:∀s',Inv X pins (σ.set i (some v)) H s'->(∃a,Heap.SameBut a s.heap s'.heap/\(a=X.env.locals∨X.env.cells.lookup x=some a))->Q () s')(ap:X.fn x=true∨X.env.scope.names.lookup x=some .local:=by first|exact .inl rfl|exact .inr rfl|assumption):wpAny ao A (storeName X.env x u) Q E s:=by
 obtain⟨m,S,ag⟩:=id B.loc;have aq:(X.env.scope.kind==.class || (X.env.scope.kind==.module&&X.env.locals != X.env.globals))=false:=by rw[B.ok.kind];rfl
 have ah:i<σ.length:=by rw[B.len];exact(List.getElem?_eq_some_iff.mp hi).1
 have U:=B.cne;have ai:∀ {a:Addr} {h':Heap},(∃o,s.heap.get? a=some o/\H a=none)->Heap.SameBut a s.heap h'->HOk X.prog X.w H h':=λ{a h'} ar D b as e=>by
  obtain⟨_,_,aj⟩:=ar;refine(B.hok b as e).stay (λc M hc q=>(D.2 c ?_).trans q) (λ_ q=>q) λ_ _ q=>q;rintro rfl;rcases hc with rfl|hc
  .rw[aj] at e;cases e
  .rw[aj] at hc;cases hc
 rcases G with hk|hk
 .refine wpAny_storeName_local hk S (λh' au D=>?_) aq;obtain⟨av,_,_,aw,_⟩:=id S;refine h _ ⟨B.ok,B.os,B.bare,⟨λb o e n J0 G=>?_,λb o e n J0 G=>?_,B.base.free,λb o e G=>?_,B.base.tups,B.base.frzs,B.base.tbls⟩,⟨_,au,λj y W F I Y=>?_⟩,λy c e=>?_,B.free,B.freeC,λp Z=>?_,ai ⟨av,aw,B.free⟩ D,by simpa using B.len⟩ ⟨_,D,.inl J⟩
  .exact(D.2 b (Nat.ne_of_lt (Nat.lt_of_lt_of_le (Heap.lt_size e) B.ok.above))).trans (B.base.keep b o e n J0 G)
  .obtain⟨aa,F⟩:=B.base.slot b o e n J0 G;exact⟨aa,(D.2 b (Nat.ne_of_lt (Nat.lt_of_lt_of_le (Heap.lt_size e) B.ok.above))).trans F⟩
  .obtain⟨o',F⟩:=B.base.there b o e G;exact⟨o',(D.2 b (Nat.ne_of_lt (Nat.lt_of_lt_of_le (Heap.lt_size e) B.ok.above))).trans F⟩
  .by_cases L:j=i
   .subst L;rw[hi] at F;cases F;rw[List.getElem?_set_self ah] at I;cases I;exact⟨u,r,.inl ⟨hk,by simp⟩⟩
   .rw[List.getElem?_set_ne (Ne.symm L)] at I;obtain⟨ab,ac,q⟩:=ag j y W F I Y;refine⟨ab,ac,?_⟩;rcases q with⟨k,e⟩|⟨k,c,e,z⟩
    .refine .inl ⟨k,?_⟩;have:y≠x:=λe=>L (zgl af F (e ▸ hi));simp[this,e]
    .exact .inr ⟨k,c,e,z.sameBut D (U y c e)⟩
  .obtain⟨M,z⟩:=B.cell y c e;exact⟨M,z.sameBut D (U y c e)⟩
  .obtain⟨e,n,O,ad,d⟩:=B.pin p Z;exact⟨(D.2 p.1 O).trans e,n,O,ad,d⟩
 .have ae:X.fn x=true:=by
   rcases ap with z|z
   .exact z
   .rw[z] at hk;cases hk
  obtain⟨c,hc⟩:=B.ok.has x (.inl hk);obtain⟨M,z⟩:=B.cell x c hc;refine wpAny_storeName_cell B.ok.kind hk hc z (λh' ak D=>?_);obtain⟨oc,al,ax⟩:=id z;refine h { s with heap:=h' } ⟨B.ok,B.os,B.bare,⟨λb o e n J0 G=>?_,λb o e n J0 G=>?_,B.base.free,λb o e G=>?_,B.base.tups,B.base.frzs,B.base.tbls⟩,⟨m,S.sameBut D (Ne.symm (U x c hc)),λj y W F I Y=>?_⟩,λy R e=>?_,B.free,B.freeC,λp Z=>?_,ai ⟨oc,al,B.freeC x c hc⟩ D,by simpa using B.len⟩ ⟨c,D,.inr hc⟩
  .exact(D.2 b (Nat.ne_of_lt (Nat.lt_of_lt_of_le (Heap.lt_size e) (B.ok.cab x c ae hc)))).trans (B.base.keep b o e n J0 G)
  .obtain⟨aa,F⟩:=B.base.slot b o e n J0 G;exact⟨aa,(D.2 b (Nat.ne_of_lt (Nat.lt_of_lt_of_le (Heap.lt_size e) (B.ok.cab x c ae hc)))).trans F⟩
  .obtain⟨o',F⟩:=B.base.there b o e G;exact⟨o',(D.2 b (Nat.ne_of_lt (Nat.lt_of_lt_of_le (Heap.lt_size e) (B.ok.cab x c ae hc)))).trans F⟩
  .by_cases L:j=i
   .subst L;rw[hi] at F;cases F;rw[List.getElem?_set_self ah] at I;cases I;exact⟨u,r,.inr ⟨.inl hk,c,hc,ak⟩⟩
   .rw[List.getElem?_set_ne (Ne.symm L)] at I;obtain⟨ab,ac,q⟩:=ag j y W F I Y;refine⟨ab,ac,?_⟩;rcases q with q|⟨k,R,e,z'⟩
    .exact .inl q
    .refine .inr ⟨k,R,e,z'.sameBut D ?_⟩;rintro rfl;exact L (zgl af F (B.ok.inj _ _ _ e hc ▸ hi))
  .by_cases am:R=c
   .subst am;exact⟨_,ak⟩
   .obtain⟨ay,az⟩:=B.cell y R e;exact⟨ay,az.sameBut D am⟩
  .obtain⟨e,n,O,ad,d⟩:=B.pin p Z;refine⟨(D.2 p.1 ?_).trans e,n,O,ad,d⟩;intro q;rw[q,al] at e;have q':oc=p.2:=Option.some.inj e;exact d M (by rw[←q'];exact ax)
theorem zeq{B:Model}{A:Around}{E:Value->Shared->Prop}{i:Nat}{x:Str}{v:V}{u:Value}{Q:Unit->Shared->Prop}(D:Inv X pins σ H s)(F:X.N.Nodup)(hi:X.N[i]?=some x)(G:Loc X.env.scope x)(r:RelV v u)(h:∀s',Inv X pins (σ.set i (some v)) H s'->Q () s')(I:X.fn x=true∨X.env.scope.names.lookup x=some .local:=by first|exact .inl rfl|exact .inr rfl|assumption):wpAny B A (storeName X.env x u) Q E s:=
 zfd D F hi G r (λs' J0 _=>h s' J0) I
theorem Inv.call'{s':Shared}{ch:List Addr}(B:Inv X pins σ H s)(D:s'.os=s.os)(u:Un (frs X.stack) ch H H' s.heap s'.heap)(F:HOk X.prog X.w H' s'.heap)(G:AllBare s'.gens)(I:∀b∈ch,(b∈X.ex∨X.s₀.heap.objs.size<=b)/\b≠X.env.locals/\(∀x c,X.env.cells.lookup x=some c->c≠b)/\∀p∈X.pn++pins,p.1≠b):Inv X pins σ H' s':=by
 obtain⟨h',g',d',t',o'⟩:=s';have e:o'=s.os:=D;subst e;exact B.call (g':=g') (t':=t') (d':=d') u F G I
end
noncomputable abbrev XK:=Value->Option Addr->Hp->Prop
noncomputable abbrev St:=List (Option V)
noncomputable abbrev VK:=V->Hp->Prop
noncomputable abbrev TE:=St->Hp->VK->Prop
noncomputable abbrev TT:=St->Hp->(Bool->Hp->Prop)->Prop
noncomputable abbrev TA:=St->Hp->(List V->Hp->Prop)->Prop
structure Ends where
 nx:St->Hp->Prop
 rt:VK
 bk:St->Hp->Prop:=λ_ _=>False
 ct:St->Hp->Prop:=λ_ _=>False
noncomputable abbrev TS:=Ends->St->Hp->Prop
noncomputable def EP(X:Cx)(pins:List (Addr×Obj))(σ:St)(Q:VK)(u:Value)(s':Shared):Prop:=∃v H',Inv X pins σ H' s'/\RelV v u/\Q v H'
noncomputable def TP(X:Cx)(pins:List (Addr×Obj))(σ:St)(Q:Bool->Hp->Prop)(b:Bool)(s':Shared):Prop:=∃H',Inv X pins σ H' s'/\Q b H'
noncomputable def AP(X:Cx)(pins:List (Addr×Obj))(σ:St)(Q:List V->Hp->Prop)(us:List Value)(s':Shared):Prop:=∃vs H',Inv X pins σ H' s'/\Vals vs us/\Q vs H'
noncomputable def SP(X:Cx)(pins:List (Addr×Obj))(D:Ends)(f:Flow)(s':Shared):Prop:=
 match f with
 |.next=>∃σ' H',Inv X pins σ' H' s'/\D.nx σ' H'
 |.brk=>∃σ' H',Inv X pins σ' H' s'/\D.bk σ' H'
 |.cont=>∃σ' H',Inv X pins σ' H' s'/\D.ct σ' H'
 |.ret u=>∃v σ' H',Inv X pins σ' H' s'/\RelV v u/\D.rt v H'
noncomputable def PE(X:Cx)(e:Expr)(t:TE):Prop:=
 ∀(pins:List (Addr×Obj)) (s:Shared) (σ:St) (H:Hp) (Q:VK),Inv X pins σ H s->t σ H Q->wpAny (model X.prog X.w) X.A (eval e X.env) (EP X pins σ Q) X.xe s
noncomputable def PT(X:Cx)(e:Expr)(t:TT):Prop:=
 ∀(pins:List (Addr×Obj)) (s:Shared) (σ:St) (H:Hp) (Q:Bool->Hp->Prop),Inv X pins σ H s->t σ H Q->wpAny (model X.prog X.w) X.A (isTrue e X.env (eval e X.env)) (TP X pins σ Q) X.xe s
noncomputable def PW(X:Cx)(e:Expr)(t:TT):Prop:=
 ∀(B:Sem Value) (pins:List (Addr×Obj)) (s:Shared) (σ:St) (H:Hp) (Q:Bool->Hp->Prop),Inv X pins σ H s->t σ H Q->wpAny (model X.prog X.w) X.A (isTrue e X.env B) (TP X pins σ Q) X.xe s
theorem PW.pt{X:Cx}{e:Expr}{t:TT}(h:PW X e t):PT X e t:=h _
noncomputable def PA(X:Cx)(es:List Expr)(t:TA):Prop:=
 ∀(pos:Pos) (pins:List (Addr×Obj)) (s:Shared) (σ:St) (H:Hp) (Q:List V->Hp->Prop),Inv X pins σ H s->t σ H Q->wpAny (model X.prog X.w) X.A (spliced (backTo pos (starEach es X.env))) (AP X pins σ Q) X.xe s
noncomputable def PS(X:Cx)(st:Stmt)(t:TS):Prop:=
 ∀(pins:List (Addr×Obj)) (s:Shared) (σ:St) (H:Hp) (D:Ends),Inv X pins σ H s->t D σ H->wpAny (model X.prog X.w) X.A (exec st X.env) (SP X pins D) X.xe s
noncomputable def PSs(X:Cx)(st:List Stmt)(t:TS):Prop:=
 ∀(pins:List (Addr×Obj)) (s:Shared) (σ:St) (H:Hp) (D:Ends),Inv X pins σ H s->t D σ H->wpAny (model X.prog X.w) X.A (execs st X.env) (SP X pins D) X.xe s
theorem thn{B:Type}{t:Sem B}{Q D:B->Shared->Prop}{F:Model}{A:Around}{E:Value->Shared->Prop}{s:Shared}(h:wpAny F A t Q E s)(G:∀a s,Q a s->D a s):wpAny F A t D E s:=wpAny_mono h G λ_ _ x=>x
section
variable {X:Cx}
theorem bin{a b:Expr}{ta tb:TE}(G:PE X a ta)(I:PE X b tb){pins:List (Addr×Obj)}{s:Shared}{σ:St}{H:Hp}{R:V->V->Hp->Prop}(J0:Inv X pins σ H s)(h:ta σ H λx H1=>tb σ H1 λy H2=>R x y H2){F:Type}{Q:F->Shared->Prop}{f:Value->Value->Sem F}(L:∀v u B x y H2,Inv X pins σ H2 B->RelV x v->RelV y u->R x y H2->wpAny (model X.prog X.w) X.A (f v u) Q X.xe B) :
  wpAny (model X.prog X.w) X.A (eval a X.env) (λv M=>wpAny (model X.prog X.w) X.A (eval b X.env) (λu O=>wpAny (model X.prog X.w) X.A (f v u) Q X.xe O) X.xe M) X.xe s:=by
 refine thn (G pins s σ H _ J0 h) λv S D=>?_;obtain⟨x,H1,U,W,q1⟩:=D;refine thn (I pins S σ H1 _ U q1) λu B D=>?_;obtain⟨y,H2,Y,Z,aa⟩:=D;exact L v u B x y H2 Y W Z aa
noncomputable def tVar(i:Nat):TE:=λσ H Q=>∃v,σ[i]?=some (some v)/\Q v H
noncomputable def tC(v:V):TE:=λ_ H Q=>Q v H
theorem zlv{i:Nat}{x:Str}{pos:Pos}(J0:X.N[i]?=some x)(L:Vis X.env.scope x)(D:(x==("__debug__":Str))=false:=by decide)(M:(x==("__classdict__":Str))=false:=by decide):PE X (.Name x pos) (tVar i):=by
 intro pins s σ H Q B h;obtain⟨v,e,h⟩:=h;obtain⟨m,O,R⟩:=B.loc;obtain⟨u,r,l⟩:=R i x v J0 e L;have F:EP X pins σ Q u s:=⟨v,H,B,r,h⟩;rcases l with⟨hk,S⟩|⟨hk,c,G,I⟩
 .exact wpAny_Name (wpAny_loadName_local B.ok.kind hk O S F) D
 .rcases hk with hk|hk
  .exact wpAny_Name (wpAny_loadName_cell B.ok.kind hk G I F) D
  .exact wpAny_Name (wpAny_loadName_free B.ok.kind hk G I F M) D
theorem zaf{i j pos}:PE X (.Constant (.int i) j pos) (tC (.int i)):=λ_ _ _ H _ B h=>wpAny_Constant_int ⟨.int i,H,B.tok _,⟨_,J⟩,h⟩
theorem zfe{b j pos}:PE X (.Constant (.bool b) j pos) (tC (.bl b)):=λ_ _ _ H _ B h=>Constant_bool ⟨.bl b,H,B,J,h⟩
theorem zgm{j pos}:PE X (.Constant .none j pos) (tC .non):=λ_ _ _ H _ B h=>Constant_none ⟨.non,H,B,J,h⟩
theorem zaH{x j pos}:PE X (.Constant (.str x) j pos) (tC (.str x)):=λ_ _ _ H _ B h=>Calls.Constant_str ⟨.str x,H,B.tok _,⟨_,J⟩,h⟩
noncomputable def Gl(X:Cx)(x:Str):Prop:=X.env.kindOf x=some .globalImplicit
theorem zer{E:Value->Shared->Prop}{pins:List (Addr×Obj)}{s:Shared}{σ:St}{H:Hp}{x:Str}{u:Value}{pos:Pos}{Q:Value->Shared->Prop}(B:Inv X pins σ H s)(D:Gl X x)(F:X.mg x=some u)(h:Q u s)(G:(x==("__debug__":Str))=false:=by decide):wpAny (model X.prog X.w) X.A (eval (.Name x pos) X.env) Q E s:=
 Calls.Name_function_global B.ok.kind D (Calls.loadGlobal_global (by rw[B.ok.glob];exact B.mod.glob.keeps B.bk) F h) G
theorem zct{E:Value->Shared->Prop}{pins:List (Addr×Obj)}{s:Shared}{σ:St}{H:Hp}{x:Str}{u:Value}{pos:Pos}{Q:Value->Shared->Prop}(B:Inv X pins σ H s)(D:Gl X x)(F:X.mg x=none)(G:bootBuiltins x=some u)(h:Q u s)(I:x≠"__name__":=by decide)(J0:(x==("__debug__":Str))=false:=by decide):wpAny (model X.prog X.w) X.A (eval (.Name x pos) X.env) Q E s:=by
 obtain⟨L,h1,h2⟩:=B.mod.blt;exact Calls.Name_function_global B.ok.kind D (Calls.loadGlobal_builtin (by rw[B.ok.glob];exact B.mod.glob.keeps B.bk) F (by rw[B.ok.blt];exact h1.keeps B.bk) ((h2 x I).trans G) h) J0
theorem zfP{x:Str}{v:V}{u:Value}{pos:Pos}(D:Gl X x)(F:X.mg x=some u)(r:RelV v u)(G:(x==("__debug__":Str))=false:=by decide):PE X (.Name x pos) (tC v):=
 λ_ _ _ H _ B h=>zer B D F ⟨v,H,B,r,h⟩ G
variable {a b:Expr}{ta tb:TE}{pos:Pos}
noncomputable def PC(X:Cx)(op:CmpOp)(a b:Expr)(t:TE):Prop:=
 ∀(pins:List (Addr×Obj)) (s:Shared) (σ:St) (H:Hp) (Q:VK),Inv X pins σ H s->t σ H Q ->
  wpAny (model X.prog X.w) X.A (eval a X.env) (λv B=>wpAny (model X.prog X.w) X.A (eval b X.env) (λu D=>wpAny (model X.prog X.w) X.A (compareOp op v u) (EP X pins σ Q) X.xe D) X.xe B) X.xe s
noncomputable def tB(t:TE):TT:=λσ H Q=>t σ H λx H1=>∃c,x=.bl c/\Q c H1
theorem zlw{op:CmpOp}{t:TE}(h:PC X op a b t)(h1:behindInMarks op b=false:=by first|exact nobehind _ (by decide) (by decide)|rfl):PE X (.Compare a [op] [b] pos) t:=λpins s σ H Q B hw=>wpAny_Compare1 (h pins s σ H Q B hw) h1
theorem zhC{op:CmpOp}{t:TE}(h:PC X op a b t)(h1:behindInMarks op b=false:=by first|exact nobehind _ (by decide) (by decide)|rfl):PT X (.Compare a [op] [b] pos) (tB t):=by
 intro pins s σ H Q B hw;refine wpAny_isTrue_Compare1 (thn (h pins s σ H _ B hw) λv I h1=>thn h1 λu J0 h2=>thn h2 λc L D=>?_) h1;obtain⟨x,H1,F,G,q1⟩:=D;obtain⟨d,rfl,q⟩:=q1;cases G;exact wpAny_truthy_bool ⟨H1,F,q⟩
theorem zhD{e:Expr}{t:TE}(h:PE X e t)(D:∀B,isTrue e X.env B=(do let v ← B;standAt e.pos;holding [v] (truthy v)):=by intro _;rfl):PT X e (tB t):=by
 intro pins s σ H Q F hw;refine isTrue_plain (thn (h pins s σ H _ F hw) λv L G=>?_) (D _);obtain⟨x,H1,I,J0,q1⟩:=G;obtain⟨d,rfl,q⟩:=q1;cases J0;exact wpAny_truthy_bool ⟨H1,I,q⟩
variable {tA tB':TT}{rest:List Expr}
noncomputable def tAnd(t u:TT):TT:=λσ H Q=>t σ H λc H1=>if c=true then u σ H1 Q else Q false H1
noncomputable def tOr(t u:TT):TT:=λσ H Q=>t σ H λc H1=>if c=true then Q true H1 else u σ H1 Q
noncomputable def tNot(t:TT):TT:=λσ H Q=>t σ H λc H1=>Q (!c) H1
theorem zb9(B:PT X a tA):PW X (.BoolOp .And [a] pos) tA:=by
 intro F pins s σ H Q D h;refine isTrue_and (thn (B pins s σ H Q D h) λc G e=>?_);cases c with
 |true=>exact isTrue_and_nil e
 |false=>exact e
theorem zhE(B:PT X a tA):PW X (.BoolOp .Or [a] pos) tA:=by
 intro F pins s σ H Q D h;refine isTrue_or (thn (B pins s σ H Q D h) λc G e=>?_);cases c with
 |false=>exact isTrue_or_nil e
 |true=>exact e
theorem zcE(D:PT X a tA)(F:PW X (.BoolOp .And (b::rest) pos) tB'):PW X (.BoolOp .And (a::b::rest) pos) (tAnd tA tB'):=by
 intro G pins s σ H Q I h;refine isTrue_and (thn (D pins s σ H _ I h) λc J0 L=>?_);obtain⟨H1,B,q1⟩:=L;cases c with
 |true=>exact F G pins J0 σ H1 Q B q1
 |false=>exact⟨H1,B,q1⟩
theorem zkD(D:PT X a tA)(F:PW X (.BoolOp .Or (b::rest) pos) tB'):PW X (.BoolOp .Or (a::b::rest) pos) (tOr tA tB'):=by
 intro G pins s σ H Q I h;refine isTrue_or (thn (D pins s σ H _ I h) λc J0 L=>?_);obtain⟨H1,B,q1⟩:=L;cases c with
 |true=>exact⟨H1,B,q1⟩
 |false=>exact F G pins J0 σ H1 Q B q1
theorem zgn(B:PT X a tA):PT X (.UnaryOp .Not a pos) (tNot tA):=by
 intro pins s σ H Q D h;exact isTrue_not (B pins s σ H (λc H1=>Q (!c) H1) D h)
noncomputable def tAndV(ta tb:TE):TE:=λσ H Q=>ta σ H λx H1=>∃c,x=.bl c/\if c=true then tb σ H1 Q else Q (.bl false) H1
noncomputable def tNotV(ta:TE):TE:=λσ H Q=>ta σ H λx H1=>∃c,x=.bl c/\Q (.bl (!c)) H1
theorem zke{op}{t:TE}(h:PE X a t):PE X (.BoolOp op [a] pos) t:=λpins s σ H Q B hw=>BoolOp_one (h pins s σ H Q B hw)
theorem zkf(D:PE X a ta)(F:PE X (.BoolOp .And (b::rest) pos) tb):PE X (.BoolOp .And (a::b::rest) pos) (tAndV ta tb):=by
 intro pins s σ H Q G h;refine BoolOp_and (thn (D pins s σ H _ G h) λv I J0=>?_);obtain⟨x,H1,B,L,q1⟩:=J0;obtain⟨c,rfl,q1⟩:=q1;cases L;refine wpAny_truthy_bool ?_;cases c with
 |true=>exact F pins I σ H1 Q B q1
 |false=>exact⟨.bl false,H1,B,J,q1⟩
theorem zlx(B:PE X a ta):PE X (.UnaryOp .Not a pos) (tNotV ta):=by
 intro pins s σ H Q D h;refine UnaryOp_ (thn (B pins s σ H _ D h) λv J0 F=>?_);obtain⟨x,H1,G,I,q1⟩:=F;obtain⟨c,rfl,q1⟩:=q1;cases I;exact not_of (wpAny_truthy_bool ⟨.bl (!c),H1,G,J,q1⟩)
end
noncomputable def SqL(K:W.Frag)(H:Hp)(a:Addr)(xs:List V):Prop:=
 Rd H a (.lst xs) ∨
  ∃(o:Obj) (its:Array Value) (n:Nat),K.lookup a=some o/\o.cls=.type "list"/\o.dict=none/\o.data=.seq its n/\its.size<=sizeLine/\Vals xs its.toList
noncomputable def SqT(K:W.Frag)(H:Hp)(a:Addr)(xs:List V):Prop:=
 Rd H a (.tup xs) ∨
  ∃(o:Obj) (its:Array Value) (n:Nat),K.lookup a=some o/\o.cls=.type "tuple"/\o.data=.seq its n/\its.size<=sizeLine/\Vals xs its.toList
noncomputable def absV:Value->Option V
 |.none=>some .non
 |.bool b=>some (.bl b)
 |.int i _=>some (.int i)
 |.str x _=>some (.str x)
 |.bytes b _=>some (.byt b)
 |.float b _=>some (.flt b)
 |.ref a=>some (.ref a)
 |.type n=>some (.ty n)
 |_=>none
theorem RelV.abs{x:V}{u:Value}(r:RelV x u):absV u=some x:=by
 cases x with
 |non=>cases r;rfl
 |bl _=>cases r;rfl
 |int _=>obtain⟨t,rfl⟩:=r;rfl
 |str _=>obtain⟨t,rfl⟩:=r;rfl
 |byt _=>obtain⟨t,rfl⟩:=r;rfl
 |flt _=>obtain⟨t,rfl⟩:=r;rfl
 |ref _=>cases r;rfl
 |ty _=>cases r;rfl
theorem RelV.inj{x y:V}{u:Value}(r:RelV x u)(q:RelV y u):x=y:=Option.some.inj (r.abs.symm.trans q.abs)
theorem Vals.inj:∀ {xs ys:List V}{us:List Value},Vals xs us->Vals ys us->xs=ys
 |_,_,_,.nil,.nil=>rfl
 |_,_,_,.cons r t,.cons B t'=>by rw[r.inj B,Vals.inj t t']
section
variable {X:Cx}{pins:List (Addr×Obj)}{σ:St}{H:Hp}{s:Shared}{a:Addr}{xs ys:List V}
theorem SqL.of{K:W.Frag}(h:H a=some (.lst xs)):SqL K H a xs:=.inl (.inl h)
theorem SqT.of{K:W.Frag}(h:H a=some (.tup xs)):SqT K H a xs:=.inl (.inl h)
theorem Inv.list(B:Inv X pins σ H s)(h:SqL X.K H a xs):∃its:List Value,Vals xs its/\PlainL s.heap a its.toArray/\xs.length<=sizeLine:=by
 rcases h with h|⟨o,its,n,D,F,G,I,J0,r⟩
 .obtain⟨z,its,n,r,e⟩:=h.ok B.hok;exact⟨its,r,⟨_,n,e,J,J,J⟩,z⟩
 .refine⟨its.toList,r,⟨o,n,B.kIn a o D,F,G,by simpa using I⟩,?_⟩;have e:=r.length;simp only[Array.length_toList] at e;omega
theorem Inv.tuple(B:Inv X pins σ H s)(h:SqT X.K H a xs):∃its:List Value,Vals xs its/\IsTup s.heap a its.toArray/\xs.length<=sizeLine:=by
 rcases h with h|⟨o,its,n,D,F,G,I,r⟩
 .obtain⟨z,its,r,p⟩:=h.ok B.hok;exact⟨its,r,p,z⟩
 .refine⟨its.toList,r,⟨o,B.kIn a o D,F,n,by simpa using G⟩,?_⟩;have e:=r.length;simp only[Array.length_toList] at e;omega
theorem Inv.list_inj(B:Inv X pins σ H s)(h:SqL X.K H a xs)(h':SqL X.K H a ys):xs=ys:=by
 obtain⟨its,r,⟨o,n,e,_,_,d⟩,_⟩:=B.list h;obtain⟨its',F,⟨o',I,D,_,_,d'⟩,_⟩:=B.list h';rw[e] at D;cases D;rw[d] at d';injection d' with G _;have:its=its':=by simpa using congrArg Array.toList G
 subst this;exact r.inj F
theorem Inv.tuple_inj(B:Inv X pins σ H s)(h:SqT X.K H a xs)(h':SqT X.K H a ys):xs=ys:=by
 obtain⟨its,r,⟨o,e,_,n,d⟩,_⟩:=B.tuple h;obtain⟨its',F,⟨o',D,_,I,d'⟩,_⟩:=B.tuple h';rw[e] at D;cases D;rw[d] at d';injection d' with G _;have:its=its':=by simpa using congrArg Array.toList G
 subst this;exact r.inj F
end
noncomputable abbrev Cx.wish(X:Cx)(E:Value->Shared->Prop):Cx:={ X with xe:=E }
noncomputable abbrev Cx.nox(X:Cx):Cx:=X.wish λ_ _=>False
theorem Cx.Ok.wish{X:Cx}(B:X.Ok)(E:Value->Shared->Prop):(X.wish E).Ok:=
 ⟨B.mod,B.kind,B.glob,B.blt,B.above,B.inj,B.has,B.cab,B.hd,B.frames,B.stk,B.exf,B.bs,B.bsz,B.noex,B.exfs,B.funs,B.frf⟩
theorem Cx.Ok.unwish{X:Cx}{E:Value->Shared->Prop}(B:(X.wish E).Ok):X.Ok:=
 ⟨B.mod,B.kind,B.glob,B.blt,B.above,B.inj,B.has,B.cab,B.hd,B.frames,B.stk,B.exf,B.bs,B.bsz,B.noex,B.exfs,B.funs,B.frf⟩
section
variable {X:Cx}{pins:List (Addr×Obj)}{σ:St}{H:Hp}{s:Shared}{E:Value->Shared->Prop}
theorem Inv.wish(B:Inv X pins σ H s)(E:Value->Shared->Prop):Inv (X.wish E) pins σ H s:=⟨B.ok.wish E,B.os,B.bare,B.base,B.loc,B.cell,B.free,B.freeC,B.pin,B.hok,B.len⟩
theorem Inv.unwish(B:Inv (X.wish E) pins σ H s):Inv X pins σ H s:=⟨B.ok.unwish,B.os,B.bare,B.base,B.loc,B.cell,B.free,B.freeC,B.pin,B.hok,B.len⟩
theorem SP.unwish{D:Ends}{f:Flow}{s':Shared}(h:SP (X.wish E) pins D f s'):SP X pins D f s':=by
 cases f with
 |next=>obtain⟨σ',H',B,q⟩:=h;exact⟨σ',H',B.unwish,q⟩
 |brk=>obtain⟨σ',H',B,q⟩:=h;exact⟨σ',H',B.unwish,q⟩
 |cont=>obtain⟨σ',H',B,q⟩:=h;exact⟨σ',H',B.unwish,q⟩
 |ret u=>obtain⟨v,σ',H',B,r,q⟩:=h;exact⟨v,σ',H',B.unwish,r,q⟩
theorem PSs.nox{st:List Stmt}{t:TS}(h:PSs X.nox st t):PSs X st t:=λpins s σ H D B hw=>
 wpAny_mono (h pins s σ H D (B.wish _) hw) (λ_ _ q=>q.unwish) λ_ _ z=>False.elim z
end
section
variable {X:Cx}{st:Stmt}{rest:List Stmt}{t u:TS}{e:Expr}{te:TE}{pos:Pos}
noncomputable def tNext:TS:=λD σ H=>D.nx σ H
noncomputable def tSeq(t u:TS):TS:=λD σ H=>t { D with nx:=u D } σ H
theorem zaC:PSs X [] tNext:=λ_ _ σ H _ B h=>wpAny_execs_nil ⟨σ,H,B,h⟩
theorem zac(h1:PS X st t)(h2:PSs X rest u):PSs X (st::rest) (tSeq t u):=by
 intro pins s σ H D B h;refine wpAny_execs_cons (thn (h1 pins s σ H { D with nx:=u D } B h) λf F q=>?_);cases f with
 |next=>
  obtain⟨σ',H',G,q⟩:=q;exact h2 pins F σ' H' D G q
 |ret v=>exact q
 |brk=>exact q
 |cont=>exact q
theorem zai(h1:PS X st t):PSs X [st] t:=by
 intro pins s σ H D B h;refine wpAny_execs_cons (thn (h1 pins s σ H D B h) λf F q=>?_);cases f with
 |next=>exact wpAny_execs_nil q
 |ret v=>exact q
 |brk=>exact q
 |cont=>exact q
theorem Inv.quiet{pins:List (Addr×Obj)}{σ:St}{H:Hp}{s:Shared}(B:Inv X pins σ H s):interactive X.env=false:=by simp[interactive,B.ok.kind]
noncomputable def tDrop(te:TE):TS:=λD σ H=>te σ H λ_ H1=>D.nx σ H1
theorem zaP(F:PE X e te)(G:swapsWith e none pos.line X.env=pure false:=by rfl):PS X (.Expr e pos) (tDrop te):=by
 intro pins s σ H D B h;refine wpAny_Expr_any (thn (F pins s σ H _ B h) λv L I=>?_) B.quiet G;obtain⟨x,H1,J0,M,q1⟩:=I;exact⟨σ,H1,J0,q1⟩
noncomputable def tRet(te:TE):TS:=λD σ H=>te σ H D.rt
theorem zaw(B:PE X e te):PS X (.Return (some e) pos) (tRet te):=by
 intro pins s σ H D F h;refine wpAny_Return_some (thn (B pins s σ H _ F h) λv L G=>?_);obtain⟨x,H1,I,J0,q1⟩:=G;exact⟨x,σ,H1,I,J0,q1⟩
noncomputable def tIfS(c:TT)(t u:TS):TS:=λD σ H=>c σ H λb H1=>if b=true then t D σ H1 else u D σ H1
theorem za9{c:Expr}{a b:List Stmt}{tc:TT}(G:PT X c tc)(I:PSs X a t)(J0:PSs X b u):PS X (.If c a b pos) (tIfS tc t u):=by
 intro pins s σ H D L h;refine wpAny_If (thn (G pins s σ H _ L h) λd B M=>?_);obtain⟨H1,F,q1⟩:=M;cases d with
 |true=>exact I pins B σ H1 D F q1
 |false=>exact J0 pins B σ H1 D F q1
noncomputable def zly:TS:=λ_ _ _=>False
theorem zdC{B:List Stmt}:PSs X B zly:=λ_ _ _ _ _ _ h=>h.elim
end
noncomputable abbrev TG:=V->St->Hp->(St->Hp->Prop)->Prop
noncomputable abbrev TGs:=List V->St->Hp->(St->Hp->Prop)->Prop
noncomputable def PG(X:Cx)(B:Expr)(t:TG):Prop:=
 ∀(pins:List (Addr×Obj)) (s:Shared) (σ:St) (H:Hp) (v:V) (u:Value) (Q:St->Hp->Prop),Inv X pins σ H s->RelV v u->t v σ H Q ->
  wpAny (model X.prog X.w) X.A (assign B X.env u) (λ_ s'=>∃σ' H',Inv X pins σ' H' s'/\Q σ' H') X.xe s
noncomputable def PGs(X:Cx)(B:List Expr)(t:TGs):Prop:=
 ∀(pins:List (Addr×Obj)) (s:Shared) (σ:St) (H:Hp) (vs:List V) (us:List Value) (Q:St->Hp->Prop),Inv X pins σ H s->Vals vs us->t vs σ H Q ->
  wpAny (model X.prog X.w) X.A (assignInOrder ((assignEach B X.env).map (·.2)) us) (λ_ s'=>∃σ' H',Inv X pins σ' H' s'/\Q σ' H') X.xe s
noncomputable abbrev TSet:=V->V->V->Hp->(Hp->Prop)->Prop
noncomputable def PSet(X:Cx)(t:TSet):Prop:=
 ∀(pins:List (Addr×Obj)) (s:Shared) (σ:St) (H:Hp) (o i v:V) (B D u:Value) (Q:Hp->Prop),Inv X pins σ H s->RelV o B->RelV i D->RelV v u->t o i v H Q ->
  wpAny (model X.prog X.w) X.A (setItem B D u) (λ_ s'=>∃H',Inv X pins σ H' s'/\Q H') X.xe s
noncomputable abbrev TIp:=V->V->Hp->VK->Prop
noncomputable def PIp(X:Cx)(op:Operator)(t:TIp):Prop:=
 ∀(pins:List (Addr×Obj)) (s:Shared) (σ:St) (H:Hp) (x y:V) (v u:Value) (Q:VK),Inv X pins σ H s->RelV x v->RelV y u->t x y H Q ->
  wpAny (model X.prog X.w) X.A (inplaceOp op v u) (EP X pins σ Q) X.xe s
section
variable {X:Cx}{pos:Pos}
noncomputable def gName(i:Nat):TG:=λv σ H Q=>Q (σ.set i (some v)) H
theorem zaq{i:Nat}{x:Str}(B:X.N.Nodup)(hi:X.N[i]?=some x)(D:Loc X.env.scope x)(F:X.fn x=true∨X.env.scope.names.lookup x=some .local:=by first|exact .inl rfl|exact .inr rfl|assumption):PG X (.Name x pos) (gName i):=by
 intro pins s σ H v u Q G r h;exact wpAny_assign_Name (zeq G B hi D r (λs' I=>⟨_,H,I,h⟩) F)
noncomputable def gNil:TGs:=λvs σ H Q=>vs=[]/\Q σ H
noncomputable def gCons(t:TG)(u:TGs):TGs:=λvs σ H Q=>∃v r,vs=v::r/\t v σ H λσ' H'=>u r σ' H' Q
theorem za2:PGs X [] gNil:=by
 intro pins s σ H vs us Q B r h;obtain⟨e,h⟩:=h;subst e;cases r;exact assignInOrder_nil ⟨σ,H,B,h⟩
theorem zas{e:Expr}{es:List Expr}{t:TG}{u:TGs}(h1:PG X e t)(h2:PGs X es u)(B:(assignEach (e::es) X.env).map (·.2)=assign e X.env::(assignEach es X.env).map (·.2):=by rfl):PGs X (e::es) (gCons t u):=by
 intro pins s σ H vs us Q D r h;obtain⟨v,O,F,h⟩:=h;subst F;cases r with
 |cons r G=>
  rw[B];refine assignInOrder_cons (thn (h1 pins s σ H _ _ _ D r h) λ_ I J0=>?_);obtain⟨L,H1,M,q1⟩:=J0;exact h2 pins I L H1 _ _ Q M G q1
noncomputable def gTup(K:W.Frag)(n:Nat)(t:TGs):TG:=λv σ H Q=>∃a xs,v=.ref a/\SqT K H a xs/\xs.length=n/\t xs σ H Q
theorem zbG{es:List Expr}{k:Nat}{t:TGs}{n:Nat}(F:X.calm=true)(h:PGs X es t)(G:(assignEach es X.env).length=n:=by rfl)(I:(assignEach es X.env).findIdx? (·.1)=none:=by rfl):PG X (.Tuple es k pos) (gTup X.K n t):=by
 intro pins s σ H v u Q B r hw;obtain⟨a,xs,J0,L,M,hw⟩:=hw;subst J0;cases r;obtain⟨its,D,O,U⟩:=B.tuple L;refine assign_Tuple_tuple (B.ok.hd F) O (by simp[G,←M,D.length]) I λh' R=>?_;have S:Inv X pins σ H { s with heap:=h' }:=B.kept (t':=s.toks) λb o e=>R b o (Nat.ne_of_lt (Heap.lt_size e)) e;exact h pins _ σ H xs _ Q S (by simpa using D) hw
noncomputable def gSub(to B:TE)(t:TSet):TG:=λv σ H Q=>to σ H λo H1=>B σ H1 λi H2=>t o i v H2 λD=>Q σ D
theorem zhF{o i:Expr}{to G:TE}{t:TSet}(I:PE X o to)(hi:PE X i G)(J0:PSet X t)(L:∀v,assign (.Subscript o i pos) X.env v=(do
   let B ← holding [v] (eval o X.env);let D ← holding [v,B] (eval i X.env)
   standAt pos
   holding [v,B,D] (setItem B D v)
   release [v,B,D] []):=by intro _;rfl):PG X (.Subscript o i pos) (gSub to G t):=by
 intro pins s σ H v u Q M r h;rw[L];refine wpAny_bind (wpAny_holding (thn (I pins s σ H _ M h) λB O F=>?_));obtain⟨x,H1,R,S,q1⟩:=F;refine wpAny_bind (wpAny_holding (thn (hi pins O σ H1 _ R q1) λD U F=>?_));obtain⟨y,H2,V,W,Y⟩:=F;refine wpAny_bind (wpAny_standAt (wpAny_bind (wpAny_holding (thn (J0 pins U σ H2 x y v B D u _ V S W r Y) λ_ ac F=>?_))));obtain⟨Z,aa,ab⟩:=F;exact wpAny_release ⟨σ,Z,aa,ab⟩
noncomputable def tAsg(te:TE)(g:TG):TS:=λD σ H=>te σ H λx H1=>g x σ H1 D.nx
theorem zbw{tg e:Expr}{te:TE}{g:TG}(B:PE X e te)(F:PG X tg g)(G:swapsWithSole [tg] e pos.line X.env=pure false:=by rfl)(hw:swappedStores [tg] e X.env=pure none:=by rfl)(h1:(assignEach [tg] X.env).map (·.2)=[assign tg X.env]:=by rfl):PS X (.Assign [tg] e pos) (tAsg te g):=by
 intro pins s σ H D I h;refine wpAny_Assign_stores (thn (B pins s σ H _ I h) λv J0 L=>?_) G hw;obtain⟨x,H1,M,O,q1⟩:=L;rw[h1];exact thn (F pins J0 σ H1 x v _ M O q1) λ_ R q=>q
theorem zan{i:Nat}{x:Str}{e:Expr}{te:TE}{pos':Pos}(B:X.N.Nodup)(hi:X.N[i]?=some x)(F:Loc X.env.scope x)(G:PE X e te)(I:swapsWith e (some (.Name x pos')) pos.line X.env=pure false:=by rfl)(J0:X.fn x=true∨X.env.scope.names.lookup x=some .local:=by first|exact .inl rfl|exact .inr rfl|assumption) :
  PS X (.Assign [.Name x pos'] e pos) (tAsg te (gName i)):=by
 intro pins s σ H D L h;refine wpAny_Assign_Name (thn (G pins s σ H _ L h) λv U M=>?_) I;obtain⟨y,H1,O,R,q1⟩:=M;exact zeq O B hi F R (λV S=>⟨_,H1,S,q1⟩) J0
noncomputable def tAug(i:Nat)(te:TE)(B:TIp):TS:=λD σ H=>∃x,σ[i]?=some (some x)/\te σ H λy H1=>B x y H1 λz H2=>D.nx (σ.set i (some z)) H2
theorem zhG{i:Nat}{x:Str}{e:Expr}{te:TE}{op:Operator}{I:TIp}{pos':Pos}(J0:X.N.Nodup)(hi:X.N[i]?=some x)(F:Loc X.env.scope x)(L:PE X e te)(M:PIp X op I)(O:X.fn x=true∨X.env.scope.names.lookup x=some .local:=by first|exact .inl rfl|exact .inr rfl|assumption) :
  PS X (.AugAssign (.Name x pos') op e pos) (tAug i te I):=by
 intro pins s σ H D B h;obtain⟨v,R,h⟩:=h;obtain⟨m,S,U⟩:=B.loc;have V:Vis X.env.scope x:=by rcases F with k|k;exact .inl k;exact .inr (.inl k)
 obtain⟨u,r,l⟩:=U i x v hi R V;refine wpAny_AugAssign_Name ?_;have go:wpAny (model X.prog X.w) X.A (eval e X.env) (λw W=>wpAny (model X.prog X.w) X.A (inplaceOp op u w) (λr Y=>wpAny (model X.prog X.w) X.A (storeName X.env x r) (λ_=>SP X pins D .next) X.xe Y) X.xe W) X.xe s:=by
  refine thn (L pins s σ H _ B h) λw Z G=>?_;obtain⟨y,H1,aa,ab,q1⟩:=G;refine thn (M pins Z σ H1 v y u w _ aa r ab q1) λz aj G=>?_;obtain⟨ak,H2,ac,ad,ae⟩:=G;exact zeq ac J0 hi F ad (λal af=>⟨_,H2,af,ae⟩) O
 rcases l with⟨hk,ag⟩|⟨hk,c,ah,ai⟩
 .exact wpAny_loadName_local B.ok.kind hk S ag go
 .rcases hk with hk|hk
  .exact wpAny_loadName_cell B.ok.kind hk ah ai go
  .rcases F with k|k
   .have:X.env.scope.names.lookup x=some .free:=hk;rw[k] at this;cases this
   .have:X.env.scope.names.lookup x=some .free:=hk;rw[k] at this;cases this
noncomputable def ipI(f:Int->Int->Int):TIp:=λx y H Q=>∃i j,x=.int i/\y=.int j/\Q (.int (f i j)) H
theorem zhH:PIp X .Add (ipI λi j=>i+j):=by
 intro pins s σ H x y v u Q B D F h;obtain⟨i,j,G,I,q⟩:=h;subst G;subst I;obtain⟨t,rfl⟩:=D;obtain⟨t',rfl⟩:=F;exact iadd_int ⟨.int _,H,B.tok _,⟨_,J⟩,q⟩
end
section
variable {X:Cx}{pos:Pos}
noncomputable def zkg(c:TT)(tb:TS):TS:=λD σ H=>∃W:Nat->St->Hp->Prop,(∃m,W m σ H)/\∀m σ H,W m σ H ->
 c σ H λb H1=>if b=true then ∃N:St->Hp->Prop,(∀σ' H',N σ' H'->∃B,B<m/\W B σ' H')/\tb { D with nx:=N,ct:=N,bk:=D.nx } σ H1 else D.nx σ H1
theorem zbM{c:Expr}{S:List Stmt}{tc:TT}{tb:TS}(U:PassesOwn (model X.prog X.w) X.A X.env X.xe)(Z:PT X c tc)(aa:PSs X S tb):PS X (.While c S [] pos) (zkg tc tb):=by
 intro pins s σ H D ab h;obtain⟨W,⟨ac,ad⟩,ae⟩:=h;refine wpAny_While (codeAny_whileLoop (λn s'=>∃σ' H',Inv X pins σ' H' s'/\W n σ' H') ?_ ac ⟨σ,H,ab,ad⟩);rintro n af ⟨G,H1,ag,ah⟩;refine wpAny_passesOwn U (thn (Z pins af G H1 _ ag (ae n G H1 ah)) λb ai aj=>?_);obtain⟨H2,V,I⟩:=aj;cases b with
 |true=>
  obtain⟨N,Y,I⟩:=I;rw[if_pos rfl];refine wpAny_passesOwn U (thn (aa pins ai G H2 _ V I) λf ak J0=>?_);cases f with
  |next=>
   obtain⟨B,F,L,n3⟩:=J0;obtain⟨M,O,R⟩:=Y B F n3;exact⟨M,O,B,F,L,R⟩
  |cont=>
   obtain⟨B,F,L,n3⟩:=J0;obtain⟨M,O,R⟩:=Y B F n3;exact⟨M,O,B,F,L,R⟩
  |brk=>exact J0
  |ret v=>exact J0
 |false=>
  rw[if_neg Bool.false_ne_true];exact wpAny_execs_nil ⟨G,H2,V,I⟩
end
structure It where
 go:Nat->Hp->Prop
 yld:Nat->Hp->V->Hp->Prop
 stop:Nat->Hp->Prop
noncomputable def FpOk(X:Cx)(pins:List (Addr×Obj))(H:Hp)(b:Addr):Prop:=
 H b=none/\b≠X.env.locals/\b∉X.fs/\(b∈X.ex∨X.s₀.heap.objs.size<=b)/\(∀x c,X.env.cells.lookup x=some c->c≠b)/\∀p∈X.pn++pins,p.1≠b
theorem Inv.fpOk{X:Cx}{pins:List (Addr×Obj)}{σ:St}{H H':Hp}{s:Shared}{b:Addr}(B:Inv X pins σ H s)(D:s.heap.objs.size<=b)(F:H' b=none):FpOk X pins H' b:=by
 refine⟨F,Nat.ne_of_gt (Nat.lt_of_lt_of_le B.lt D),B.nofs D,.inr (Nat.le_trans B.sz D),λx c e z=>?_,λp G z=>?_⟩
 .obtain⟨v,q⟩:=B.cell x c e;exact absurd (Nat.lt_of_lt_of_le q.lt (by rw[z];exact D)) (Nat.lt_irrefl _)
 .exact absurd (Nat.lt_of_lt_of_le (Heap.lt_size (B.pin p G).1) (by rw[z];exact D)) (Nat.lt_irrefl _)
structure Turn(P:Program)(w:World)(K:W.Frag)(tg:Expr)(J0:It)(fp:List Addr)(it:Addr)(tn:Nat->Heap->Prop):Prop where
 mem:it∈fp
 obj:∀i h,tn i h->∀b∈fp,∃o,h.get? b=some o/\∀v,o.data≠.cell v
 keep:∀i h h',tn i h->(∀b∈fp,∀o,h.get? b=some o->h'.get? b=some o)->tn i h'
 item:∀(X:Cx),X.prog=P->X.w=w->X.K=K->X.calm=true->∀(i:Nat) (pins:List (Addr×Obj)) (s:Shared) (σ:St) (H:Hp) (E:Value->Shared->Prop),Inv X pins σ H s->(∀b∈fp,FpOk X pins H b)->tn i s.heap->J0.go i H ->
  wpAny (model P w) X.A (pyNext (.ref it)) (λr s1=>∃u,r=some u /\
   wpAny (model P w) X.A (letOwnedTupleGo tg (.ref it) u) (λ_ s2=>∃x H',Inv X pins σ H' s2/\RelV x u/\J0.yld i H x H'/\tn (i+1) s2.heap/\∀b∈fp,H' b=none) E s1) E s
 done:∀(X:Cx),X.prog=P->X.w=w->X.K=K->X.calm=true->∀(i:Nat) (pins:List (Addr×Obj)) (s:Shared) (σ:St) (H:Hp) (E:Value->Shared->Prop),Inv X pins σ H s->(∀b∈fp,FpOk X pins H b)->tn i s.heap->J0.stop i H ->
  wpAny (model P w) X.A (pyNext (.ref it)) (λr s1=>r=none/\Inv X pins σ H s1) E s
 self:∀(A:Around) (i:Nat) (s:Shared) (Q:Value->Shared->Prop) (E:Value->Shared->Prop),tn i s.heap->Q (.ref it) s->wpAny (model P w) A (pyIter (.ref it)) Q E s
noncomputable abbrev TI:=St->Hp->(It->Hp->Prop)->Prop
noncomputable def PIE(X:Cx)(pins:List (Addr×Obj))(σ:St)(tg:Expr)(R:It->Hp->Prop)(F:Value)(B:Shared):Prop:=
 ∃(it:Addr) (fp:List Addr) (D:Nat->Heap->Prop) (J0:It) (H':Hp),F=.ref it/\Inv X pins σ H' B/\Turn X.prog X.w X.K tg J0 fp it D/\D 0 B.heap/\(∀b∈fp,FpOk X pins H' b)/\R J0 H'
noncomputable def PI(X:Cx)(tg iter:Expr)(wi:TI):Prop:=
 ∀(pins:List (Addr×Obj)) (s:Shared) (σ:St) (H:Hp) (R:It->Hp->Prop),Inv X pins σ H s->wi σ H R ->
  wpAny (model X.prog X.w) X.A (eval iter X.env) (λv B=>wpAny (model X.prog X.w) X.A (pyIter v) (PIE X pins σ tg R) X.xe B) X.xe s
theorem zjj{D:Model}{A:Around}{E:Value->Shared->Prop}{s:Shared}{tg:Expr}{it:Addr}{u:Value}{o:Obj}{n:String}{vs:Array Value}{Q:Unit->Shared->Prop}(F:s.heap.get? it=some o)(G:o.cls=.type n)(I:o.data=.fields vs)(J0:["enumerate","zip","dict_itemiterator","dict_reverseitemiterator","odict_iterator","itertools.zip_longest","itertools.pairwise"].contains n=false)(B:Q () s):wpAny D A (letOwnedTupleGo tg (.ref it) u) Q E s:=by
 unfold letOwnedTupleGo;cases tg<;>first
  |exact wpAny_pure B
  |(cases u<;>first
    |exact wpAny_pure B
    |(refine wpAny_bind (wpAny_load F ?_)
      rw[G,I];show wpAny D A (if (["enumerate","zip","dict_itemiterator","dict_reverseitemiterator","odict_iterator","itertools.zip_longest","itertools.pairwise"].contains n&&vs[0]?==some (rawInt _))=true then _ else _) Q E s;rw[if_neg (by intro h;rw[J0,Bool.false_and] at h;cases h)];exact wpAny_pure B))
noncomputable def Itl(K:W.Frag)(a:Addr):It:=
 ⟨λi H=>∃xs x,SqL K H a xs/\xs[i]?=some x,λi H x H'=>H'=H/\∀xs,SqL K H a xs->xs[i]?=some x,λi H=>∃xs,SqL K H a xs/\xs.length<=i⟩
noncomputable def Itt(K:W.Frag)(a:Addr):It:=
 ⟨λi H=>∃xs x,SqT K H a xs/\xs[i]?=some x,λi H x H'=>H'=H/\∀xs,SqT K H a xs->xs[i]?=some x,λi H=>∃xs,SqT K H a xs/\xs.length<=i⟩
noncomputable def Itr(lo:Int)(n:Nat):It:=⟨λi _=>i<n,λi H x H'=>H'=H/\x=.int (lo+i),λi _=>n<=i⟩
theorem zhI{P:Program}{w:World}{K:W.Frag}{tg:Expr}(a it:Addr):Turn P w K tg (Itl K a) [it] it (λi h=>h.IsListIter it a i) where
 mem:=by simp
 obj:=λi h st b B=>by
  have e:b=it:=by simpa using B
  subst e;obtain⟨o,e,c,d⟩:=st;exact⟨o,e,λv z=>by rw[d] at z;cases z⟩
 keep:=λi h h' st k=>st.at λo e=>k it (by simp) o e
 item:=by
  intro X I hw J0 Z i pins s σ H E D F st L;subst I hw J0;obtain⟨xs,x,G,M⟩:=L;obtain⟨its,O,p,ab⟩:=D.list G;obtain⟨u,ac,ad⟩:=O.get M;obtain⟨R,S,ae,U,V,Y⟩:=F it (by simp);refine wpAny_pyNext_list_item st p.isList (x:=u) (by simpa using ac) λh' aa af=>?_;have ag:Inv X pins σ H { s with heap:=h' }:=D.turned (t':=s.toks) (λb o B e=>(af.2 b B).trans e) R S U V Y;obtain⟨o,e,c,d⟩:=id aa;exact⟨u,J,zjj (s:={ s with heap:=h' }) e c d (by decide) ⟨x,H,ag,ad,⟨J,λys ah=>by rw[D.list_inj ah G];exact M⟩,aa,λb B=>(F b B).1⟩⟩
 done:=by
  intro X I hw J0 Z i pins s σ H E D F st L;subst I hw J0;obtain⟨xs,G,M⟩:=L;obtain⟨its,O,p,ab⟩:=D.list G;obtain⟨R,S,ae,U,V,Y⟩:=F it (by simp);have aj:=O.length;exact wpAny_pyNext_list_end (D.ok.hd Z) st p.isList (by simp;omega) λh' ai=>⟨J,D.turned (t':=s.toks) (λb o B e=>ai b o B e) R S U V Y⟩
 self:=λ_ _ _ _ _ st h=>wpAny_pyIter_listiter st h
theorem zg2{P:Program}{w:World}{K:W.Frag}{tg:Expr}(a it:Addr):Turn P w K tg (Itt K a) [it] it (λi h=>h.IsTupleIter it a i) where
 mem:=by simp
 obj:=λi h st b B=>by
  have e:b=it:=by simpa using B
  subst e;obtain⟨o,e,c,d⟩:=st;exact⟨o,e,λv z=>by rw[d] at z;cases z⟩
 keep:=λi h h' st k=>st.at λo e=>k it (by simp) o e
 item:=by
  intro X I hw J0 Z i pins s σ H E D F st L;subst I hw J0;obtain⟨xs,x,G,M⟩:=L;obtain⟨its,O,p,ab⟩:=D.tuple G;obtain⟨u,ac,ad⟩:=O.get M;obtain⟨R,S,ae,U,V,Y⟩:=F it (by simp);refine wpAny_pyNext_tuple_item st (show s.heap.IsTuple a its.toArray from p) (x:=u) (by simpa using ac) λh' aa af=>?_;have ag:Inv X pins σ H { s with heap:=h' }:=D.turned (t':=s.toks) (λb o B e=>(af.2 b B).trans e) R S U V Y;obtain⟨o,e,c,d⟩:=id aa;exact⟨u,J,zjj (s:={ s with heap:=h' }) e c d (by decide) ⟨x,H,ag,ad,⟨J,λys ah=>by rw[D.tuple_inj ah G];exact M⟩,aa,λb B=>(F b B).1⟩⟩
 done:=by
  intro X I hw J0 Z i pins s σ H E D F st L;subst I hw J0;obtain⟨xs,G,M⟩:=L;obtain⟨its,O,p,ab⟩:=D.tuple G;obtain⟨R,S,ae,U,V,Y⟩:=F it (by simp);have aj:=O.length;exact wpAny_pyNext_tuple_end (D.ok.hd Z) st (show s.heap.IsTuple a its.toArray from p) (by simp;omega) λh' ai=>⟨J,D.turned (t':=s.toks) (λb o B e=>ai b o B e) R S U V Y⟩
 self:=λ_ _ _ _ _ st h=>wpAny_pyIter_tupleiter st h
theorem zg3{P:Program}{w:World}{K:W.Frag}{tg:Expr}(it:Addr)(lo:Int)(n:Nat):Turn P w K tg (Itr lo n) [it] it (λi h=>IsRangeIter h it (lo+(i:Nat)*1) ((n:Int)-(i:Nat)) 1) where
 mem:=by simp
 obj:=λi h st b B=>by
  have e:b=it:=by simpa using B
  subst e;exact⟨_,st,λv z=>by
   have z':Data.fields _=Data.cell v:=z;cases z'⟩
 keep:=λi h h' st k=>k it (by simp) _ st
 item:=by
  intro X G hw I J0 i pins s σ H E D F st L;subst G hw I;obtain⟨M,O,Y,R,S,U⟩:=F it (by simp);have W:=Walks.range (prog:=X.prog) (w:=X.w) (D.ok.hd J0) it lo 1 n;refine W.item i s _ _ L st λv h' tk Z V aa=>?_;obtain⟨t,rfl⟩:=Z;have ab:Inv X pins σ H { s with heap:=h',toks:=tk }:=D.turned (λb o B e=>aa b o (by simpa using B) e) M O R S U;refine⟨_,J,zjj (s:={ s with heap:=h',toks:=tk }) (n:="range_iterator") V J J (by decide) ⟨.int (lo+i),H,ab,⟨t,?_⟩,⟨J,J⟩,V,λb B=>(F b B).1⟩⟩;rw[Int.mul_one]
 done:=by
  intro X G hw I J0 i pins s σ H E D F st L;subst G hw I;obtain⟨M,O,Y,R,S,U⟩:=F it (by simp);exact wpAny_pyNext_range_end (D.ok.hd J0) st (by have:n<=i:=L;omega) λh' ac=>⟨J,D.turned (t':=s.toks) (λb o B e=>ac b o B e) M O R S U⟩
 self:=λ_ _ _ _ _ st h=>wpAny_pyIter_rangeiter st h
section
variable {X:Cx}{tg:Expr}
noncomputable def iList(K:W.Frag)(tl:TE):TI:=λσ H R=>tl σ H λx H1=>∃a,x=.ref a/\(∃xs,SqL K H1 a xs)/\R (Itl K a) H1
noncomputable def iTup(K:W.Frag)(tl:TE):TI:=λσ H R=>tl σ H λx H1=>∃a,x=.ref a/\(∃xs,SqT K H1 a xs)/\R (Itt K a) H1
theorem zbc{l:Expr}{tl:TE}(F:PE X l tl):PI X tg l (iList X.K tl):=by
 intro pins s σ H R G h;refine thn (F pins s σ H _ G h) λv B I=>?_;obtain⟨x,H1,D,J0,q1⟩:=I;obtain⟨a,e,⟨xs,L⟩,q⟩:=q1;subst e;cases J0;obtain⟨its,O,p,S⟩:=D.list L;refine wpAny_pyIter_list p.isList ?_;refine⟨B.heap.objs.size,[B.heap.objs.size],_,_,H1,J,D.kept (t':=B.toks) λb o e=>Heap.get?_push_of_some _ e,zhI a _,⟨_,Heap.get?_push_size _ J,J,J⟩,λb M=>?_,q⟩;have e:b=B.heap.objs.size:=by simpa using M
 subst e;exact D.fpOk (Nat.le_refl _) (D.hok.fresh (Nat.le_refl _))
theorem zd8{l:Expr}{tl:TE}(F:PE X l tl):PI X tg l (iTup X.K tl):=by
 intro pins s σ H R G h;refine thn (F pins s σ H _ G h) λv B I=>?_;obtain⟨x,H1,D,J0,q1⟩:=I;obtain⟨a,e,⟨xs,L⟩,q⟩:=q1;subst e;cases J0;obtain⟨its,O,p,S⟩:=D.tuple L;refine wpAny_pyIter_tuple (show B.heap.IsTuple a its.toArray from p) ?_;refine⟨B.heap.objs.size,[B.heap.objs.size],_,_,H1,J,D.kept (t':=B.toks) λb o e=>Heap.get?_push_of_some _ e,zg2 a _,⟨_,Heap.get?_push_size _ J,J,J⟩,λb M=>?_,q⟩;have e:b=B.heap.objs.size:=by simpa using M
 subst e;exact D.fpOk (Nat.le_refl _) (D.hok.fresh (Nat.le_refl _))
theorem zjk{pins:List (Addr×Obj)}{σ:St}{H:Hp}{s:Shared}{R:It->Hp->Prop}{E:Value->Shared->Prop}{lo hi:Int}{t u v:Tok}{tk:Nat}(D:Inv X pins σ H s)(h1:-(2 ^ 62)<=lo)(h2:lo<2 ^ 62)(F:-(2 ^ 62)<=hi)(G:hi<2 ^ 62)(q:R (Itr lo (hi-lo).toNat) H):wpAny (model X.prog X.w) X.A (pyIter (.ref s.heap.objs.size)) (PIE X pins σ tg R) E { s with heap:=s.heap.push { cls:=.type "range",data:=.fields #[.int lo t,.int hi u,.int 1 v] },toks:=tk }:=by
 refine wpAny_pyIter_range (IsRange.new ..) (small_one h1 h2 F G) ?_;have B:Inv X pins σ H { s with heap:=s.heap.push { cls:=.type "range",data:=.fields #[.int lo t,.int hi u,.int 1 v] },toks:=tk }:=D.kept λb o e=>Heap.get?_push_of_some _ e;refine⟨(s.heap.push { cls:=.type "range",data:=.fields #[.int lo t,.int hi u,.int 1 v] }).objs.size,[(s.heap.push { cls:=.type "range",data:=.fields #[.int lo t,.int hi u,.int 1 v] }).objs.size],_,_,H,J,
  B.kept (t':=tk) λb o e=>Heap.get?_push_of_some _ e,zg3 _ lo (hi-lo).toNat,?_,λb I=>?_,q⟩
 .have J0:lo+((0:Nat):Int)*1=lo:=by simp
  have L:(((hi-lo).toNat:Nat):Int)-((0:Nat):Int)=Builtin.Range.rangeSize lo hi 1:=by rw[rangeSize_one];split<;>omega
  show IsRangeIter _ _ (lo+((0:Nat):Int)*1) ((((hi-lo).toNat:Nat):Int)-((0:Nat):Int)) 1;rw[J0,L];exact Heap.get?_push_size _ rfl
 .have e:b=(s.heap.push { cls:=.type "range",data:=.fields #[.int lo t,.int hi u,.int 1 v] }).objs.size:=by simpa using I
  subst e;exact B.fpOk (Nat.le_refl _) (B.hok.fresh (Nat.le_refl _))
noncomputable def iRng1(ta:TA):TI:=λσ H R=>ta σ H λvs H1=>∃j:Int,vs=[.int j]/\-(2 ^ 62)<=j/\j<2 ^ 62/\R (Itr 0 j.toNat) H1
theorem zdD{a:Expr}{ta:TA}{p pos:Pos}(D:Gl X "range")(F:X.mg "range"=none)(G:PA X [a] ta)(I:starEach [a] X.env=[(false,eval a X.env)]:=by rfl):PI X tg (.Call (.Name "range" p) [a] [] pos) (iRng1 ta):=by
 intro pins s σ H R B h;refine Call_ (zct B D F boot_range (PyProof.Rows.callWith_type1 (thn (G pos pins s σ H _ B h) λus U J0=>?_) I J));obtain⟨vs,H1,L,M,q1⟩:=J0;obtain⟨j,e,q1,O,q⟩:=q1;subst e;cases M with
 |cons r S=>
  cases S;obtain⟨t,rfl⟩:=r;exact call_range_1 (zjk L (by omega) (by omega) q1 O (by simpa using q))
noncomputable def tFor(wi:TI)(g:TG)(tb:TS):TS:=λD σ H=>wi σ H λJ0 H1=>∃W:Nat->Nat->St->Hp->Prop,(∃m,W 0 m σ H1)/\∀i m σ H,W i m σ H ->
 (J0.stop i H/\D.nx σ H)∨(J0.go i H/\∃N:St->Hp->Prop,(∀σ' H',N σ' H'->∃B,B<m/\W (i+1) B σ' H')/\∀x H',J0.yld i H x H'->g x σ H' λF H2=>tb { D with nx:=N,ct:=N,bk:=D.nx } F H2)
noncomputable def zff(fp:List Addr)(h:Heap):List (Addr×Obj):=fp.filterMap λb=>(h.get? b).map λo=>(b,o)
theorem zcg{fp:List Addr}{h:Heap}{b:Addr}{o:Obj}(B:b∈fp)(e:h.get? b=some o):(b,o)∈zff fp h:=List.mem_filterMap.mpr ⟨b,B,by rw[e];rfl⟩
theorem zhJ{fp:List Addr}{h:Heap}{p:Addr×Obj}(B:p∈zff fp h):p.1∈fp/\h.get? p.1=some p.2:=by
 obtain⟨b,D,e⟩:=List.mem_filterMap.mp B;cases q:h.get? b with
 |none=>rw[q] at e;cases e
 |some o=>
  rw[q] at e;have F:(b,o)=p:=Option.some.inj e;subst F;exact⟨D,q⟩
theorem Inv.pinned{pins:List (Addr×Obj)}{σ:St}{H:Hp}{s:Shared}{fp:List Addr}(B:Inv X pins σ H s)(G:∀b∈fp,FpOk X pins H b)(I:∀b∈fp,∃o,s.heap.get? b=some o/\∀v,o.data≠.cell v):Inv X (pins++zff fp s.heap) σ H s:=
 B.pins_of λp J0=>(List.mem_append.mp J0).elim (λz=>B.pin p (List.mem_append_right _ z)) λz=>by
  obtain⟨D,e⟩:=zhJ z;obtain⟨L,M,O,_⟩:=G p.1 D;obtain⟨o,F,d⟩:=I p.1 D;rw[e] at F;cases F;exact⟨e,L,M,O,d⟩
theorem Inv.unpinned{pins pl:List (Addr×Obj)}{σ:St}{H:Hp}{s:Shared}(B:Inv X (pins++pl) σ H s):Inv X pins σ H s:=B.pins_of λp D=>B.pin p (List.mem_append_right _ (List.mem_append_left _ D))
theorem zcF{iter:Expr}{ab:List Stmt}{wi:TI}{g:TG}{tb:TS}{pos:Pos}(M:PassesOwn (model X.prog X.w) X.A X.env X.xe)(ac:X.calm=true)(hi:PI X tg iter wi)(al:PG X tg g)(B:PSs X ab tb)(am:∀x,foldedSetIterable iter X.env x=pure x:=by intro _;rfl):PS X (.For tg iter ab [] pos) (tFor wi g tb):=by
 intro pins s σ H D ao h;refine wpAny_For (thn (hi pins s σ H _ ao h) λv aR h1=>thn h1 λaS aT h2=>?_) am;obtain⟨it,fp,ad,J0,H2,e,ap,T,aq,ae,W,⟨ar,as⟩,au⟩:=h2;subst e
 -- what stays true of the iterator's objects through the loop
 have U:∀ {H':Hp},(∀b∈fp,H' b=none)->∀b∈fp,FpOk X pins H' b:=λav b B=>⟨av b B,(ae b B).2⟩;refine codeAny_forLoop_any (λn s'=>∃i σ' H',Inv X pins σ' H' s'/\ad i s'.heap/\(∀b∈fp,H' b=none)/\W i n σ' H') ?_ ar ⟨0,σ,H2,ap,aq,λb B=>(ae b B).1,as⟩;rintro n af ⟨i,O,S,ag,ah,ai,aw⟩;rcases au i n O S aw with⟨stop,ax⟩|⟨go,N,ay,step⟩
 .refine wpAny_passesOwn M (thn (T.done X J J J ac i pins af O S X.xe ag (U ai) ah stop) λr az ⟨V,aA⟩=>?_);subst V;exact wpAny_execs_nil ⟨O,S,aA,ax⟩
 .refine wpAny_passesOwn M (thn (T.item X J J J ac i pins af O S X.xe ag (U ai) ah go) λr az ⟨u,V,aB⟩=>?_);subst V;refine wpAny_passesOwn M (thn aB λ_ aj Y=>?_);obtain⟨x,ak,aC,aD,aE,Z,aF⟩:=Y;have aG:=aC.pinned (U aF) (T.obj _ _ Z);refine wpAny_passesOwn M (thn (al _ aj O ak x u _ aG aD (step x ak aE)) λ_ aH Y=>?_);obtain⟨aI,aJ,aK,aL⟩:=Y;refine wpAny_passesOwn M (thn (B _ aH aI aJ _ aK aL) λf aa L=>?_);have again:∀ {F:St} {G:Hp},Inv X (pins++zff fp aj.heap) F G aa->N F G->∃m,m<n/\∃i σ' H',Inv X pins σ' H' aa/\ad i aa.heap/\(∀b∈fp,H' b=none)/\W i m σ' H':=λ{F G} I R=>by
   obtain⟨aM,aN,aO⟩:=ay F G R;refine⟨aM,aN,i+1,F,G,I.unpinned,T.keep _ _ _ Z λb B o e=>(I.pin (b,o) (List.mem_append_right _ (List.mem_append_right _ (zcg B e)))).1,λb B=>?_,aO⟩;obtain⟨o,e,d⟩:=T.obj _ _ Z b B;exact(I.pin (b,o) (List.mem_append_right _ (List.mem_append_right _ (zcg B e)))).2.1
  cases f with
  |next=>obtain⟨F,G,I,R⟩:=L;exact again I R
  |cont=>obtain⟨F,G,I,R⟩:=L;exact again I R
  |brk=>obtain⟨F,G,I,L⟩:=L;exact⟨F,G,I.unpinned,L⟩
  |ret v=>obtain⟨aP,F,G,I,aQ,L⟩:=L;exact⟨aP,F,G,I.unpinned,aQ,L⟩
end
theorem zgo{K:W.Frag}{a:Addr}{xs:List V}{g:TG}{tb:TS}{D:Ends}{σ:St}{H:Hp}(Pv:Nat->St->Hp->Prop)(I:Pv 0 σ H)(J0:∀i σ H,i<=xs.length->Pv i σ H->SqL K H a xs)(L:∀i x σ H,xs[i]?=some x->Pv i σ H->g x σ H λB H2=>tb { D with nx:=Pv (i+1),ct:=Pv (i+1),bk:=D.nx } B H2)(M:∀σ H,Pv xs.length σ H->D.nx σ H) :
  ∃W:Nat->Nat->St->Hp->Prop,(∃m,W 0 m σ H)/\∀i m σ H,W i m σ H ->
   ((Itl K a).stop i H/\D.nx σ H)∨((Itl K a).go i H/\∃N:St->Hp->Prop,(∀σ' H',N σ' H'->∃F,F<m/\W (i+1) F σ' H')/\∀x H',(Itl K a).yld i H x H'->g x σ H' λB H2=>tb { D with nx:=N,ct:=N,bk:=D.nx } B H2):=by
 refine⟨λi m σ H=>m=xs.length-i/\i<=xs.length/\Pv i σ H,⟨xs.length,by simp,Nat.zero_le _,I⟩,?_⟩;rintro i m σ H ⟨rfl,hi,p⟩;have q:=J0 i σ H hi p;by_cases G:i<xs.length
 .refine .inr ⟨⟨xs,xs[i],q,by simp[G]⟩,Pv (i+1),λσ' H' O=>⟨xs.length-(i+1),by omega,J,G,O⟩,λx H' y=>?_⟩;obtain⟨e,y⟩:=y;subst e;exact L i x σ _ (y xs q) p
 .have e:i=xs.length:=by omega
  subst e;exact .inl ⟨⟨xs,q,Nat.le_refl _⟩,M σ H p⟩
theorem zfQ{K:W.Frag}{a:Addr}{xs:List V}{g:TG}{tb:TS}{D:Ends}{σ:St}{H:Hp}(Pv:Nat->St->Hp->Prop)(I:Pv 0 σ H)(J0:∀i σ H,i<=xs.length->Pv i σ H->SqT K H a xs)(L:∀i x σ H,xs[i]?=some x->Pv i σ H->g x σ H λB H2=>tb { D with nx:=Pv (i+1),ct:=Pv (i+1),bk:=D.nx } B H2)(M:∀σ H,Pv xs.length σ H->D.nx σ H) :
  ∃W:Nat->Nat->St->Hp->Prop,(∃m,W 0 m σ H)/\∀i m σ H,W i m σ H ->
   ((Itt K a).stop i H/\D.nx σ H)∨((Itt K a).go i H/\∃N:St->Hp->Prop,(∀σ' H',N σ' H'->∃F,F<m/\W (i+1) F σ' H')/\∀x H',(Itt K a).yld i H x H'->g x σ H' λB H2=>tb { D with nx:=N,ct:=N,bk:=D.nx } B H2):=by
 refine⟨λi m σ H=>m=xs.length-i/\i<=xs.length/\Pv i σ H,⟨xs.length,by simp,Nat.zero_le _,I⟩,?_⟩;rintro i m σ H ⟨rfl,hi,p⟩;have q:=J0 i σ H hi p;by_cases G:i<xs.length
 .refine .inr ⟨⟨xs,xs[i],q,by simp[G]⟩,Pv (i+1),λσ' H' O=>⟨xs.length-(i+1),by omega,J,G,O⟩,λx H' y=>?_⟩;obtain⟨e,y⟩:=y;subst e;exact L i x σ _ (y xs q) p
 .have e:i=xs.length:=by omega
  subst e;exact .inl ⟨⟨xs,q,Nat.le_refl _⟩,M σ H p⟩
theorem zdE{lo:Int}{n:Nat}{g:TG}{tb:TS}{D:Ends}{σ:St}{H:Hp}(Pv:Nat->St->Hp->Prop)(I:Pv 0 σ H)(J0:∀i σ H,i<n->Pv i σ H->g (.int (lo+i)) σ H λB H2=>tb { D with nx:=Pv (i+1),ct:=Pv (i+1),bk:=D.nx } B H2)(L:∀σ H,Pv n σ H->D.nx σ H) :
  ∃W:Nat->Nat->St->Hp->Prop,(∃m,W 0 m σ H)/\∀i m σ H,W i m σ H ->
   ((Itr lo n).stop i H/\D.nx σ H)∨((Itr lo n).go i H/\∃N:St->Hp->Prop,(∀σ' H',N σ' H'->∃G,G<m/\W (i+1) G σ' H')/\∀x H',(Itr lo n).yld i H x H'->g x σ H' λB H2=>tb { D with nx:=N,ct:=N,bk:=D.nx } B H2):=by
 refine⟨λi m σ H=>m=n-i/\i<=n/\Pv i σ H,⟨n,by simp,Nat.zero_le _,I⟩,?_⟩;rintro i m σ H ⟨rfl,hi,p⟩;by_cases F:i<n
 .refine .inr ⟨F,Pv (i+1),λσ' H' M=>⟨n-(i+1),by omega,J,F,M⟩,λx H' y=>?_⟩;obtain⟨e,y⟩:=y;subst e y;exact J0 i σ _ F p
 .have e:i=n:=by omega
  subst e;exact .inl ⟨Nat.le_refl _,L σ H p⟩
theorem zbN{c:TT}{tb:TS}{D:Ends}{σ:St}{H:Hp}(Pv:St->Hp->Prop)(B:St->Hp->Nat)(G:Pv σ H)(I:∀σ H,Pv σ H->c σ H λb H1=>if b=true then tb { D with nx:=λσ' H'=>Pv σ' H'/\B σ' H'<B σ H,ct:=λσ' H'=>Pv σ' H'/\B σ' H'<B σ H,bk:=D.nx } σ H1 else D.nx σ H1)(J0:∀σ H Q F,(∀b H1,Q b H1->F b H1)->c σ H Q->c σ H F):zkg c tb D σ H:=by
 refine⟨λm σ H=>m=B σ H/\Pv σ H,⟨_,J,G⟩,?_⟩;rintro m σ H ⟨rfl,p⟩;refine J0 σ H _ _ (λb H1 q=>?_) (I σ H p);cases b with
 |true=>exact⟨_,λσ' H' ⟨L,l⟩=>⟨_,l,J,L⟩,q⟩
 |false=>exact q
noncomputable abbrev R2:=V->V->Hp->VK->Prop
noncomputable def OpR(X:Cx)(f:Value->Value->Sem Value)(r:R2):Prop:=
 ∀(pins:List (Addr×Obj)) (s:Shared) (σ:St) (H:Hp) (x y:V) (v u:Value) (Q:VK),Inv X pins σ H s->RelV x v->RelV y u->r x y H Q ->
  wpAny (model X.prog X.w) X.A (f v u) (EP X pins σ Q) X.xe s
noncomputable def UnR(X:Cx)(f:Value->Sem Value)(r:V->Hp->VK->Prop):Prop:=
 ∀(pins:List (Addr×Obj)) (s:Shared) (σ:St) (H:Hp) (x:V) (v:Value) (Q:VK),Inv X pins σ H s->RelV x v->r x H Q ->
  wpAny (model X.prog X.w) X.A (f v) (EP X pins σ Q) X.xe s
noncomputable def CallR(X:Cx)(f:Value)(r:List V->Hp->VK->Prop):Prop:=
 ∀(pins:List (Addr×Obj)) (s:Shared) (σ:St) (H:Hp) (xs:List V) (us:List Value) (Q:VK),Inv X pins σ H s->Vals xs us->r xs H Q ->
  wpAny (model X.prog X.w) X.A (call f us) (EP X pins σ Q) X.xe s
noncomputable def TruR(X:Cx)(r:V->Hp->(Bool->Hp->Prop)->Prop):Prop:=
 ∀(pins:List (Addr×Obj)) (s:Shared) (σ:St) (H:Hp) (x:V) (v:Value) (Q:Bool->Hp->Prop),Inv X pins σ H s->RelV x v->r x H Q ->
  wpAny (model X.prog X.w) X.A (truthy v) (TP X pins σ Q) X.xe s
noncomputable def tOp(r:R2)(ta tb:TE):TE:=λσ H Q=>ta σ H λx H1=>tb σ H1 λy H2=>r x y H2 Q
noncomputable def tUn(r:V->Hp->VK->Prop)(ta:TE):TE:=λσ H Q=>ta σ H λx H1=>r x H1 Q
noncomputable def rI(C:Int->Int->Prop)(g:Int->Int->V):R2:=λx y H Q=>∃i j,x=.int i/\y=.int j/\C i j/\Q (g i j) H
noncomputable def rI0(g:Int->Int->V):R2:=λx y H Q=>∃i j,x=.int i/\y=.int j/\Q (g i j) H
noncomputable def rU(g:Int->V):V->Hp->VK->Prop:=λx H Q=>∃i,x=.int i/\Q (g i) H
section
variable {X:Cx}{a b c:Expr}{ta tb tc:TE}{pos:Pos}
theorem binT(F:PE X a ta)(G:PE X b tb){pins:List (Addr×Obj)}{s:Shared}{σ:St}{H:Hp}{R:V->V->Hp->Prop}(I:Inv X pins σ H s)(h:ta σ H λx H1=>tb σ H1 λy H2=>R x y H2){Q:Value->Shared->Prop}{f:Value->Value->Sem Value}(J0:∀v u B x y H2,Inv X pins σ H2 B->RelV x v->RelV y u->R x y H2->wpAny (model X.prog X.w) X.A (f v u) Q X.xe B) :
  wpAny (model X.prog X.w) X.A (eval a X.env) (λv L=>wpAny (model X.prog X.w) X.A (eval b X.env) (λu M=>wpAny (model X.prog X.w) X.A (f v u) Q X.xe M) X.xe L) X.xe s:=by
 refine thn (F pins s σ H _ I h) λv O D=>?_;obtain⟨x,H1,S,U,q1⟩:=D;refine thn (G pins O σ H1 _ S q1) λu B D=>?_;obtain⟨y,H2,W,Y,Z⟩:=D;exact J0 v u B x y H2 W U Y Z
theorem zax{op:Operator}{r:R2}(B:OpR X (binaryOp op) r)(D:PE X a ta)(F:PE X b tb):PE X (.BinOp a op b pos) (tOp r ta tb):=by
 intro pins s σ H Q G h;exact wpAny_BinOp (binT D F G h λv u I x y H2 J0 L M q=>B pins I σ H2 x y v u Q J0 L M q)
theorem zbK{op:UnaryOp}{r:V->Hp->VK->Prop}(B:UnR X (unaryOp op) r)(D:PE X a ta):PE X (.UnaryOp op a pos) (tUn r ta):=by
 intro pins s σ H Q F h;refine UnaryOp_ (thn (D pins s σ H _ F h) λv G I=>?_);obtain⟨x,H1,J0,L,q1⟩:=I;exact B pins G σ H1 x v Q J0 L q1
theorem opI{f:Value->Value->Sem Value}{C:Int->Int->Prop}{g:Int->Int->Int}(rule:∀(i j:Int) (t u:Tok) (s:Shared) (Q:Value->Shared->Prop) (E:Value->Shared->Prop),C i j->Q (.int (g i j) s.toks) { s with toks:=s.toks+1 }->wpAny (model X.prog X.w) X.A (f (.int i t) (.int j u)) Q E s) :
  OpR X f (rI C λi j=>.int (g i j)):=by
 intro pins s σ H x y v u Q B D F h;obtain⟨i,j,rfl,rfl,G,q⟩:=h;obtain⟨t,rfl⟩:=D;obtain⟨t',rfl⟩:=F;exact rule i j t t' s _ _ G ⟨.int (g i j),H,B.tok _,⟨_,J⟩,q⟩
theorem opI0{f:Value->Value->Sem Value}{g:Int->Int->Int}(rule:∀(i j:Int) (t u:Tok) (s:Shared) (Q:Value->Shared->Prop) (E:Value->Shared->Prop),Q (.int (g i j) s.toks) { s with toks:=s.toks+1 }->wpAny (model X.prog X.w) X.A (f (.int i t) (.int j u)) Q E s) :
  OpR X f (rI0 λi j=>.int (g i j)):=by
 intro pins s σ H x y v u Q B D F h;obtain⟨i,j,rfl,rfl,q⟩:=h;obtain⟨t,rfl⟩:=D;obtain⟨t',rfl⟩:=F;exact rule i j t t' s _ _ ⟨.int (g i j),H,B.tok _,⟨_,J⟩,q⟩
theorem opB0{f:Value->Value->Sem Value}{g:Int->Int->Bool}(rule:∀(i j:Int) (t u:Tok) (s:Shared) (Q:Value->Shared->Prop) (E:Value->Shared->Prop),Q (.bool (g i j)) s->wpAny (model X.prog X.w) X.A (f (.int i t) (.int j u)) Q E s) :
  OpR X f (rI0 λi j=>.bl (g i j)):=by
 intro pins s σ H x y v u Q B D F h;obtain⟨i,j,rfl,rfl,q⟩:=h;obtain⟨t,rfl⟩:=D;obtain⟨t',rfl⟩:=F;exact rule i j t t' s _ _ ⟨.bl (g i j),H,B,J,q⟩
noncomputable def CDiv(i j:Int):Prop:=0<j/\j<1073741824
noncomputable def CPow(i j:Int):Prop:=0<=j/\j<=1000000/\i.natAbs<2 ^ 64
noncomputable def CMul(i j:Int):Prop:=(-(2 ^ 64)<i/\i<2 ^ 64)∨(-(2 ^ 64)<j/\j<2 ^ 64)
theorem CMul.ok{i j:Int}(h:CMul i j):IntMulOk i j:=by
 rcases h with⟨h1,h2⟩|⟨h1,h2⟩
 .exact .of_left (intBits_le_64 h1 h2)
 .exact .of_right (intBits_le_64 h1 h2)
theorem zaT:OpR X (binaryOp .Add) (rI0 λi j=>.int (i+j)):=opI0 λ_ _ _ _ _ _ _ q=>add_int q
theorem zb7:OpR X (binaryOp .Sub) (rI0 λi j=>.int (i-j)):=opI0 λ_ _ _ _ _ _ _ q=>sub_int q
theorem zd9:OpR X (binaryOp .Mult) (rI CMul λi j=>.int (i*j)):=opI λ_ _ _ _ _ _ _ B q=>mul_int q B.ok
theorem zdF:OpR X (binaryOp .FloorDiv) (rI CDiv λi j=>.int (i / j)):=opI λi j _ _ _ _ _ B q=>by
 have h1:(0:Int)<j:=B.1;have h2:j<1073741824:=B.2;exact floordiv_int (by omega) (by rw[Int.fdiv_eq_ediv_of_nonneg i (by omega)];exact q) (.inl (PyProof.noPylong_small (by omega)))
theorem zdb:OpR X (binaryOp .Mod) (rI (λ_ j=>0<j) λi j=>.int (i % j)):=opI λi j _ _ _ _ _ B q=>by
 have h1:(0:Int)<j:=B;exact mod_int' (by omega) (by rw[Int.fmod_eq_emod_of_nonneg i (by omega)];exact q)
theorem zhK:OpR X (binaryOp .Pow) (rI CPow λi j=>.int (i ^ j.toNat)):=opI λ_ _ _ _ _ _ _ B q=>pow_int_small B.1 B.2.1 B.2.2 q
theorem unI{f:Value->Sem Value}{g:Int->Int}(rule:∀(i:Int) (t:Tok) (s:Shared) (Q:Value->Shared->Prop) (E:Value->Shared->Prop),Q (.int (g i) s.toks) { s with toks:=s.toks+1 }->wpAny (model X.prog X.w) X.A (f (.int i t)) Q E s) :
  UnR X f (rU λi=>.int (g i)):=by
 intro pins s σ H x v Q B D h;obtain⟨i,rfl,q⟩:=h;obtain⟨t,rfl⟩:=D;exact rule i t s _ _ ⟨.int (g i),H,B.tok _,⟨_,J⟩,q⟩
theorem zbd:UnR X (unaryOp .USub) (rU λi=>.int (-i)):=unI λ_ _ _ _ _ q=>neg_int q
end
noncomputable def scal:V->V->Bool
 |.non,.non=>true|.non,.int _=>true|.int _,.non=>true|.non,.bl _=>true|.bl _,.non=>true|.non,.str _=>true|.str _,.non=>true
 |.int _,.int _=>true|.bl _,.bl _=>true|.str _,.str _=>true|.byt _,.byt _=>true
 |.int _,.str _=>true|.str _,.int _=>true|.bl _,.str _=>true|.str _,.bl _=>true
 |_,_=>false
noncomputable def rEq:R2:=λx y H Q=>scal x y=true/\Q (.bl (decide (x=y))) H
noncomputable def rNe:R2:=λx y H Q=>scal x y=true/\Q (.bl (!decide (x=y))) H
theorem zhL{i j:Int}:decide (V.int i=V.int j)=(i==j):=by
 rw[Bool.eq_iff_iff];simp
theorem zkh{i j:Bool}:decide (V.bl i=V.bl j)=(i==j):=by
 rw[Bool.eq_iff_iff];simp
theorem zfR{i j:Str}:decide (V.str i=V.str j)=(i==j):=by
 rw[Bool.eq_iff_iff];simp
theorem zhM{i j:Array UInt8}:decide (V.byt i=V.byt j)=(i.toList==j.toList):=by
 rw[Bool.eq_iff_iff];cases i;cases j;simp
section
variable {X:Cx}{a b c:Expr}{ta tb tc:TE}{pos:Pos}
theorem zaU{pins:List (Addr×Obj)}{σ:St}{H:Hp}{s:Shared}{Q:VK}{k B:Bool}(D:Inv X pins σ H s)(q:Q (.bl k) H)(e:k=B):EP X pins σ Q (.bool B) s:=by
 subst e;exact⟨.bl k,H,D,J,q⟩
theorem zb8:OpR X (compareOp .Eq) rEq:=by
 intro pins s σ H x y v u Q B G D h;obtain⟨F,q⟩:=h;cases x with
 |non=>
  cases G;cases y with
  |non=>cases D;exact PySem.EqNone.eq_none_none (zaU B q (by simp))
  |bl j=>cases D;exact PySem.EqNone.eq_none_bool (zaU B q (by simp))
  |int j=>obtain⟨t',rfl⟩:=D;exact PySem.EqNone.eq_none_int (zaU B q (by simp))
  |str j=>obtain⟨t',rfl⟩:=D;exact PySem.EqNone.eq_none_str (zaU B q (by simp))
  |_=>exact absurd (show false=true from F) Bool.false_ne_true
 |bl i=>
  cases G;cases y with
  |non=>cases D;exact PySem.EqNone.eq_bool_none (zaU B q (by simp))
  |bl j=>cases D;exact eq_bool (zaU B q zkh)
  |str j=>obtain⟨t',rfl⟩:=D;exact PySem.EqMixed.eq_bool_str (zaU B q (by simp))
  |_=>exact absurd (show false=true from F) Bool.false_ne_true
 |int i=>
  obtain⟨t,rfl⟩:=G;cases y with
  |non=>cases D;exact PySem.EqNone.eq_int_none (zaU B q (by simp))
  |int j=>obtain⟨t',rfl⟩:=D;exact eq_int (zaU B q zhL)
  |str j=>obtain⟨t',rfl⟩:=D;exact PySem.EqMixed.eq_int_str (zaU B q (by simp))
  |_=>exact absurd (show false=true from F) Bool.false_ne_true
 |str i=>
  obtain⟨t,rfl⟩:=G;cases y with
  |non=>cases D;exact PySem.EqNone.eq_str_none (zaU B q (by simp))
  |bl j=>cases D;exact PySem.EqMixed.eq_str_bool (zaU B q (by simp))
  |int j=>obtain⟨t',rfl⟩:=D;exact PySem.EqMixed.eq_str_int (zaU B q (by simp))
  |str j=>obtain⟨t',rfl⟩:=D;exact eq_str (zaU B q zfR)
  |_=>exact absurd (show false=true from F) Bool.false_ne_true
 |byt i=>
  obtain⟨t,rfl⟩:=G;cases y with
  |byt j=>obtain⟨t',rfl⟩:=D;exact W.eq_bytes (zaU B q zhM)
  |_=>exact absurd (show false=true from F) Bool.false_ne_true
 |_=>cases y<;>exact absurd (show false=true from F) Bool.false_ne_true
theorem zg4:OpR X (compareOp .NotEq) rNe:=by
 intro pins s σ H x y v u Q B G D h;obtain⟨F,q⟩:=h;cases x with
 |non=>
  cases G;cases y with
  |non=>cases D;exact PySem.EqNone.ne_none_none (zaU B q (by simp))
  |bl j=>cases D;exact PySem.EqNone.ne_none_bool (zaU B q (by simp))
  |int j=>obtain⟨t',rfl⟩:=D;exact PySem.EqNone.ne_none_int (zaU B q (by simp))
  |str j=>obtain⟨t',rfl⟩:=D;exact PySem.EqNone.ne_none_str (zaU B q (by simp))
  |_=>exact absurd (show false=true from F) Bool.false_ne_true
 |bl i=>
  cases G;cases y with
  |non=>cases D;exact PySem.EqNone.ne_bool_none (zaU B q (by simp))
  |bl j=>cases D;exact ne_bool (zaU B q (congrArg not zkh))
  |str j=>obtain⟨t',rfl⟩:=D;exact PySem.EqMixed.ne_bool_str (zaU B q (by simp))
  |_=>exact absurd (show false=true from F) Bool.false_ne_true
 |int i=>
  obtain⟨t,rfl⟩:=G;cases y with
  |non=>cases D;exact PySem.EqNone.ne_int_none (zaU B q (by simp))
  |int j=>obtain⟨t',rfl⟩:=D;exact ne_int (zaU B q (congrArg not zhL))
  |str j=>obtain⟨t',rfl⟩:=D;exact PySem.EqMixed.ne_int_str (zaU B q (by simp))
  |_=>exact absurd (show false=true from F) Bool.false_ne_true
 |str i=>
  obtain⟨t,rfl⟩:=G;cases y with
  |non=>cases D;exact PySem.EqNone.ne_str_none (zaU B q (by simp))
  |bl j=>cases D;exact PySem.EqMixed.ne_str_bool (zaU B q (by simp))
  |int j=>obtain⟨t',rfl⟩:=D;exact PySem.EqMixed.ne_str_int (zaU B q (by simp))
  |str j=>obtain⟨t',rfl⟩:=D;exact ne_str (zaU B q (congrArg not zfR))
  |_=>exact absurd (show false=true from F) Bool.false_ne_true
 |byt i=>
  obtain⟨t,rfl⟩:=G;cases y with
  |byt j=>obtain⟨t',rfl⟩:=D;exact W.ne_bytes (zaU B q (congrArg not zhM))
  |_=>exact absurd (show false=true from F) Bool.false_ne_true
 |_=>cases y<;>exact absurd (show false=true from F) Bool.false_ne_true
theorem zd6:OpR X (compareOp .Lt) (rI0 λi j=>.bl (decide (i<j))):=opB0 λ_ _ _ _ _ _ _ q=>lt_int q
theorem zjl:OpR X (compareOp .LtE) (rI0 λi j=>.bl (decide (i<=j))):=opB0 λ_ _ _ _ _ _ _ q=>le_int q
theorem zhN:OpR X (compareOp .Gt) (rI0 λi j=>.bl (decide (j<i))):=opB0 λ_ _ _ _ _ _ _ q=>gt_int q
theorem zl3:OpR X (compareOp .GtE) (rI0 λi j=>.bl (decide (j<=i))):=opB0 λ_ _ _ _ _ _ _ q=>ge_int q
theorem zlz:OpR X (compareOp .Is) (λx y H Q=>y=.non/\Q (.bl (decide (x=.non))) H):=by
 intro pins s σ H x y v u Q D B F h;obtain⟨rfl,q⟩:=h;cases F;refine is_none_gen (zaU D q ?_);cases x<;>first
  |(cases B;rfl)
  |(obtain⟨t,rfl⟩:=B;rfl)
theorem zaz(b:Expr){op:CmpOp}(h:op≠.In:=by decide)(h2:op≠.NotIn:=by decide):behindInMarks op b=false:=by
 have B:(op==CmpOp.In)=false:=by cases op<;>first|rfl|exact absurd rfl h
 have D:(op==CmpOp.NotIn)=false:=by cases op<;>first|rfl|exact absurd rfl h2
 cases b<;>simp[behindInMarks,B,D]
theorem zfS{op:CmpOp}{r:R2}(B:OpR X (compareOp op) r)(D:PE X a ta)(F:PE X b tb)(G:behindInMarks op b=false):PE X (.Compare a [op] [b] pos) (tOp r ta tb):=by
 intro pins s σ H Q I h;exact wpAny_Compare1 (binT D F I h λv u J0 x y H2 L M O q=>B pins J0 σ H2 x y v u Q L M O q) G
noncomputable def tTest(t:TE):TT:=λσ H Q=>t σ H λx H'=>∃k,x=.bl k/\Q k H'
theorem zau{op:CmpOp}{r:R2}(B:OpR X (compareOp op) r)(D:PE X a ta)(F:PE X b tb)(G:behindInMarks op b=false):PT X (.Compare a [op] [b] pos) (tTest (tOp r ta tb)):=by
 intro pins s σ H Q I h;refine wpAny_isTrue_Compare1 (thn (D pins s σ H _ I h) λv J0 ⟨x,H1,L,M,q1⟩=>thn (F pins J0 σ H1 _ L q1) λu O ⟨y,H2,R,S,U⟩=>
  thn (B pins O σ H2 x y v u _ R M S U) λc aa ⟨z,V,W,Y,k,e,Z⟩=>?_) G
 subst e;cases Y;exact wpAny_truthy_bool ⟨V,W,Z⟩
noncomputable def TruV(K:W.Frag)(x:V)(H:Hp)(k:Bool):Prop:=
 match x with
 |.non=>k=false
 |.bl b=>k=b
 |.int i=>k=(i != 0)
 |.str y=>y.length<=sizeLine/\k=((y.length:Int) != 0)
 |.byt y=>y.size<=sizeLine/\k=((y.size:Int) != 0)
 |.ref p=>(∃xs,SqL K H p xs/\k=!xs.isEmpty)∨(∃xs,SqT K H p xs/\k=!xs.isEmpty)∨∃kvs,H p=some (.dK kvs)/\k=!kvs.isEmpty
 |_=>False
theorem zg5{κ:Type}{kvs:List (κ×V)}{vs:List (κ×Value)}(r:KV kvs vs):(!vs.isEmpty)=!kvs.isEmpty:=by
 cases r<;>rfl
theorem zea{xs:List V}{its:List Value}(r:Vals xs its):(!its.toArray.isEmpty)=!xs.isEmpty:=by
 cases r<;>simp
theorem zcG:(sizeLine:Nat)<2 ^ 63:=by rw[sizeLine_eq];decide
theorem zlA:TruR X (λx H Q=>∃k,TruV X.K x H k/\Q k H):=by
 intro pins s σ H x v Q D F h;obtain⟨k,e,q⟩:=h;have O:=zcG;have R:sizeLine=16777216:=sizeLine_eq;cases x with
 |non=>
  cases F;have B:k=false:=e;subst B;exact truthy_none ⟨H,D,q⟩
 |bl b=>
  cases F;have B:k=b:=e;subst B;exact wpAny_truthy_bool ⟨H,D,q⟩
 |int i=>
  obtain⟨t,rfl⟩:=F;have B:k=(i != 0):=e;subst B;exact PySem.P.truthy_int ⟨H,D,q⟩
 |str y=>
  obtain⟨t,rfl⟩:=F;obtain⟨L,B⟩:y.length<=sizeLine/\k=((y.length:Int) != 0):=e;subst B;exact PySem.P.truthy_str (by omega) ⟨H,D.tok _,q⟩
 |byt y=>
  obtain⟨t,rfl⟩:=F;obtain⟨L,B⟩:y.size<=sizeLine/\k=((y.size:Int) != 0):=e;subst B;exact W.truthy_bytes (by omega) ⟨H,D.tok _,q⟩
 |ref p=>
  cases F;have B:(∃xs,SqL X.K H p xs/\k=!xs.isEmpty)∨(∃xs,SqT X.K H p xs/\k=!xs.isEmpty)∨∃kvs,H p=some (.dK kvs)/\k=!kvs.isEmpty:=e;rcases B with⟨xs,G,B⟩|⟨xs,G,B⟩|⟨kvs,G,B⟩
  .subst B;obtain⟨its,r,pl,I⟩:=D.list G;have J0:=r.length;exact wpAny_truthy_list pl.isList (by simp only[List.size_toArray];omega) ⟨H,D.tok _,by rw[zea r];exact q⟩
  .subst B;obtain⟨its,r,pl,I⟩:=D.tuple G;have J0:=r.length;exact truthy_tuple pl (by simp only[List.size_toArray];omega) ⟨H,D.tok _,by rw[zea r];exact q⟩
  .subst B;obtain⟨I,M,vs,r,m⟩:kvs.length<=sizeLine/\(p==sysModules)=false/\∃vs,KV kvs vs/\s.heap.DictOf (zaI X.prog X.w) p vs:=D.hok p _ G;have J0:kvs.length=vs.length:=Paired.length r;exact wpAny_truthy_dict M m (by omega) ⟨H,D.tok _,by rw[zg5 r];exact q⟩
 |_=>exact(show False from e).elim
theorem zdj(D:PE X a ta)(F:∀B,isTrue a X.env B=(do let v ← B;standAt a.pos;holding [v] (truthy v))) :
  PT X a (λσ H Q=>ta σ H λx H'=>∃k,TruV X.K x H' k/\Q k H'):=by
 intro pins s σ H Q G h;refine isTrue_plain (thn (D pins s σ H _ G h) λv I J0=>?_) (F _);obtain⟨x,H1,L,M,q1⟩:=J0;exact zlA pins I σ H1 x v Q L M q1
theorem zaS:OpR X (binaryOp .Add) (λx y H Q=>∃i j,x=.str i/\y=.str j/\i.length+j.length<=sizeLine/\Q (.str (i++j)) H):=by
 intro pins s σ H x y v u Q B D F h;obtain⟨i,j,rfl,rfl,G,q⟩:=h;obtain⟨t,rfl⟩:=D;obtain⟨t',rfl⟩:=F;exact add_str (λt' tk=>⟨.str (i++j),H,B.tok _,⟨_,J⟩,q⟩) G
theorem vals1{x:V}{us:List Value}(r:Vals [x] us):∃u,us=[u]/\RelV x u:=by
 cases r with
 |cons B D=>cases D;exact⟨_,J,B⟩
theorem vals2{x y:V}{us:List Value}(r:Vals [x,y] us):∃u B,us=[u,B]/\RelV x u/\RelV y B:=by
 cases r with
 |cons D F=>
  cases F with
  |cons G I=>cases I;exact⟨_,_,J,D,G⟩
theorem zhO(F:X.calm=true):CallR X (.builtin "max") (λxs H Q=>∃i j,xs=[.int i,.int j]/\Q (.int (if j>i then j else i)) H):=by
 intro pins s σ H xs us Q D r h;obtain⟨i,j,rfl,q⟩:=h;obtain⟨u,G,rfl,⟨t,rfl⟩,⟨t',rfl⟩⟩:=vals2 r;refine max_two_ints (D.ok.hd F) λh' tk k=>⟨_,H,D.kept k,?_,q⟩;by_cases B:j>i
 .rw[if_pos B,if_pos B];exact⟨_,J⟩
 .rw[if_neg B,if_neg B];exact⟨_,J⟩
theorem zdG(F:X.calm=true):CallR X (.builtin "min") (λxs H Q=>∃i j,xs=[.int i,.int j]/\Q (.int (if j<i then j else i)) H):=by
 intro pins s σ H xs us Q D r h;obtain⟨i,j,rfl,q⟩:=h;obtain⟨u,G,rfl,⟨t,rfl⟩,⟨t',rfl⟩⟩:=vals2 r;refine min_two_ints (D.ok.hd F) λh' tk k=>⟨_,H,D.kept k,?_,q⟩;by_cases B:j<i
 .rw[if_pos B,if_pos B];exact⟨_,J⟩
 .rw[if_neg B,if_neg B];exact⟨_,J⟩
theorem zhP:CallR X (.type "int") (λxs H Q=>(∃i,xs=[.int i]/\Q (.int i) H)∨∃k,xs=[.bl k]/\Q (.int (if k then 1 else 0)) H):=by
 intro pins s σ H xs us Q B r h;rcases h with⟨i,rfl,q⟩|⟨k,rfl,q⟩
 .obtain⟨u,rfl,t,rfl⟩:=vals1 r;exact call_int_int ⟨.int i,H,B,⟨_,J⟩,q⟩
 .obtain⟨u,rfl,D⟩:=vals1 r;cases D;exact call_int_bool ⟨.int (if k then 1 else 0),H,B.tok _,⟨_,J⟩,q⟩
end
structure ObjM(h:Heap)(x dx C:Addr)(mA:Str->Option Value):Prop where
 obj:h.get? x=some (W.instObj C dx)
 ns:h.Ns1 dx mA
 ne:dx≠x
theorem zhQ{h:Heap}{dx:Addr}{mA:Str->Option Value}(n:h.Ns1 dx mA):∃od,h.get? dx=some od/\∀name,W.lookIn name od=some (mA name):=by
 obtain⟨o,es,M,B,D,F,_,G⟩:=n;refine⟨o,B,λname=>?_⟩;have e:=G name;unfold nsFind findBy at e;rw[←Array.find?_toList] at e;unfold W.lookIn;rw[D];dsimp only;split
 .rename_i y q;rw[q] at e;exact congrArg some e
 .rename_i q;rw[q] at e;have a:es.toList.any (·.refKey)=false:=by
   rw[List.any_eq_false];intro y I;obtain⟨z,t,J0⟩:=F y (Array.mem_toList_iff.mp I);simp[DictEntry.refKey,J0]
  have L:¬es.toList.any (·.refKey)=true:=by rw[a];exact Bool.false_ne_true
  rw[if_neg L];exact congrArg some e
theorem ObjM.look{h:Heap}{x dx C:Addr}{mA:Str->Option Value}(B:ObjM h x dx C mA):∃od,W.InstAt h x (W.instObj C dx) C (some od)/\∀name,W.lookIn name od=some (mA name):=
 let ⟨od,D,F⟩:=zhQ B.ns
 ⟨od,⟨B.obj,J,J,D⟩,F⟩
section
variable {prog:Program}{w:World}{A:Around}{E:Value->Shared->Prop}{s:Shared}{K:W.Frag}{x dx C f:Addr}{mA:Str->Option Value}{name:Str}{v:Value}
theorem zkE{B:Bool}{Q:Value->Shared->Prop}(X:K.In s.heap)(D:ObjM s.heap x dx C mA)(F:W.plainGet K C name=true)(G:W.hasDictIn K C=true)(I:W.findIn K (.ref C) name=some none)(L:mA name=some v)(M:W.handedIn v=true)(h:Q v { s with toks:=s.toks+1 }) :
  wpAny (model prog w) A (getAttr (.ref x) name B) Q E s:=by
 obtain⟨od,J0,O⟩:=D.look;exact W.get_value X J0 (W.plainGet_of F).1 (W.findObj_own G I J (by rw[O,L])) M h
theorem zjm{pl:Sem Bool}{Q:Value×List Value->Shared->Prop}(X:K.In s.heap)(D:ObjM s.heap x dx C mA)(B:W.plainGet K C name=true)(F:W.findIn K (.ref C) name=some (some (.ref f)))(G:W.isFn K (.ref f)=true)(I:mA name=none)(h:Q (.ref f,[.ref x]) s) :
  wpAny (model prog w) A (getMethod (.ref x) name pl) Q E s:=by
 obtain⟨od,J0,L⟩:=D.look;exact W.method_fn X J0 (W.plainGet_of B).1 (W.plainGet_of B).2 F (beq_iff_eq.mp G) (by show (W.lookIn name od).map (·.isSome)=some false;rw[L,I];rfl) h
theorem zkF{D:List Str}{Q:Unit->Shared->Prop}(X:K.In s.heap)(B:ObjM s.heap x dx C mA)(I:W.findIn K (.ref C) "__setattr__"=some (some (.builtin "object.__setattr__")))(L:W.plainOver K C=true)(M:W.takerIn K C name=some none)(O:W.hasDictIn K C=true)(hw:PySem.Within mA D)(hsz:D.length<=sizeLine)(h:∀h',ObjM h' x dx C (λy=>if y=name then some v else mA y)->Heap.SameBut dx s.heap h'->Q () { s with heap:=h',toks:=s.toks+2 }) :
  wpAny (model prog w) A (setAttr (.ref x) name v) Q E s:=by
 obtain⟨od,J0,aa⟩:=B.look;refine W.set_plain X J0 I (W.osa_open (s:={ s with toks:=s.toks+1 }) (r:=none) X J0 L M λb=>?_);obtain⟨ab,R,S⟩:=W.any_some O;have U:s.heap.get? x=some ⟨.ref C,some dx,.plain,#[]⟩:=B.obj;refine wpAny_bind (wpAny_pure (wpAny_bind (wpAny_bind (wpAny_loadPart U (wpAny_bind (W.Looks.here (s:={ s with toks:=s.toks+1 }) (W.looks_clsIn X R) ?_))))));rw[S];refine wpAny_pure (a:=some dx) (wpAny_bind (wpAny_pure (wpAny_bind ?_)));refine wpAny_nsSet1 (s:={ s with toks:=s.toks+1 }) B.ns λh' F G=>?_;obtain⟨ac,ad,ae,V,Y,Z⟩:=F.count (PySem.Within.cons name v hw);refine wpAny_bind (wpAny_lookBehind V (by rw[Y];exact pastItsLine_dict (Nat.le_trans Z (by rw[List.length_cons];omega))) ?_);exact wpAny_pure (h _ ⟨(G.2 _ (Ne.symm B.ne)).trans B.obj,F,B.ne⟩ G)
theorem zjn{R:Result->Shared->Prop}{vs:List Value}{B:List (Str×Value)}(X:K.In s.heap)(D:W.makesIn K C=true)(hi:W.findIn K (.ref C) "__init__"=some (some (.ref f)))(F:W.typeIn K (.ref f)=some (.type "function"))(h:codeAny (model prog w) (A.under (.builtin "type.__call__" ⟨.ref C::vs,B⟩)) (.call (.ref f) ⟨.ref (s.heap.objs.size+1)::vs,B⟩) (W.InitBack (s.heap.objs.size+1) R)
   { s with heap:=(s.heap.push W.emptyDict).push (W.instObj C s.heap.objs.size) }) :
  codeAny (model prog w) A (.call (.ref C) ⟨vs,B⟩) R s:=by
 obtain⟨G,g,d,t,os⟩:=s;exact W.make_core (W.makes_of X D) (W.looks_findIn X hi) (λself=>W.bind_fn X self F) (.inl J) h
end
noncomputable def putF(f:Str)(v:V):List (Str×V)->List (Str×V)
 |[]=>[(f,v)]
 |(g,x)::r=>if g=f then (g,v)::r else (g,x)::putF f v r
theorem zcu(f g:Str)(v:V):∀fs:List (Str×V),(putF f v fs).lookup g=if g=f then some v else fs.lookup g
 |[]=>by
  show List.lookup g [(f,v)]=_;by_cases h:g=f
  .have B:(g==f)=true:=beq_iff_eq.mpr h;simp only[List.lookup,B,if_pos h]
  .have B:(g==f)=false:=beq_eq_false_iff_ne.mpr h;simp only[List.lookup,B,if_neg h]
 |(k,x)::r=>by
  have F:=zcu f g v r;rw[show putF f v ((k,x)::r)=(if k=f then (k,v)::r else (k,x)::putF f v r) from rfl];by_cases D:k=f
  .rw[if_pos D];by_cases h:g=k
   .have B:(g==k)=true:=beq_iff_eq.mpr h;simp only[List.lookup,B,if_pos (h.trans D)]
   .have B:(g==k)=false:=beq_eq_false_iff_ne.mpr h;simp only[List.lookup,B,if_neg (λe:g=f=>h (e.trans D.symm))]
  .rw[if_neg D];by_cases h:g=k
   .have B:(g==k)=true:=beq_iff_eq.mpr h;simp only[List.lookup,B,if_neg (λe:g=f=>D (h.symm.trans e))]
   .have B:(g==k)=false:=beq_eq_false_iff_ne.mpr h;simp only[List.lookup,B];exact F
theorem zdH(f:Str)(v:V):∀fs:List (Str×V),f∈(putF f v fs).map (·.1)/\∀g,g∈fs.map (·.1)->g∈(putF f v fs).map (·.1)
 |[]=>⟨by simp[putF],λg h=>by simp at h⟩
 |(k,x)::r=>by
  obtain⟨D,F⟩:=zdH f v r;rw[show putF f v ((k,x)::r)=(if k=f then (k,v)::r else (k,x)::putF f v r) from rfl];by_cases B:k=f
  .rw[if_pos B];subst B;exact⟨by simp,λg h=>by simpa using h⟩
  .rw[if_neg B];refine⟨?_,λg h=>?_⟩
   .rw[List.map_cons];exact List.mem_cons_of_mem _ D
   .rw[List.map_cons] at h ⊢;rcases List.mem_cons.mp h with e|e
    .exact List.mem_cons.mpr (.inl e)
    .exact List.mem_cons_of_mem _ (F g e)
theorem zdI(f:Str)(v:V):∀fs:List (Str×V),(putF f v fs).length<=fs.length+1
 |[]=>by simp[putF]
 |(k,x)::r=>by
  have D:=zdI f v r;rw[show putF f v ((k,x)::r)=(if k=f then (k,v)::r else (k,x)::putF f v r) from rfl];by_cases B:k=f
  .rw[if_pos B,List.length_cons,List.length_cons];omega
  .rw[if_neg B,List.length_cons,List.length_cons];omega
theorem RelO.some_of{v:V}{o:Option Value}(r:RelO (some v) o):∃u,o=some u/\RelV v u:=by
 cases o with
 |none=>exact(show False from r).elim
 |some u=>exact⟨u,J,r⟩
theorem RelO.none_of{o:Option Value}(r:RelO none o):o=none:=by
 cases o with
 |none=>rfl
 |some u=>exact(show False from r).elim
theorem zhR{v:V}{u:Value}(r:RelV v u):W.handedIn u=true:=by
 cases v with
 |non=>cases (show u=Value.none from r);rfl
 |bl b=>cases (show u=Value.bool b from r);rfl
 |int i=>obtain⟨t,e⟩:=(show ∃t,u=Value.int i t from r);cases e;rfl
 |str x=>obtain⟨t,e⟩:=(show ∃t,u=Value.str x t from r);cases e;rfl
 |byt b=>obtain⟨t,e⟩:=(show ∃t,u=Value.bytes b t from r);cases e;rfl
 |flt b=>obtain⟨t,e⟩:=(show ∃t,u=Value.float b t from r);cases e;rfl
 |ref a=>cases (show u=Value.ref a from r);rfl
 |ty n=>cases (show u=Value.type n from r);rfl
section
variable {P:Program}{w:World}{H H':Hp}{h h':Heap}{a C dx:Addr}{fs fs':List (Str×V)}
theorem zfT(B:HOk P w H h)(e:H a=some (.ins C dx fs)):∃mA,ObjM h a dx C mA/\(∀f,RelO (fs.lookup f) (mA f))/\PySem.Within mA (fs.map (·.1))/\fs.length<=1000/\H dx=some (.own a):=by
 obtain⟨d,z,D,F,mA,n,r,q⟩:=(show ObjOk P w H h a (.ins C dx fs) from B a _ e);exact⟨mA,⟨F,n,D⟩,r,q,z,d⟩
end
structure Cls(K:W.Frag)(C:Addr):Prop where
 pg:W.plainGet K C Str.empty=true
 hd:W.hasDictIn K C=true
 po:W.plainOver K C=true
 sa:W.findIn K (.ref C) "__setattr__"=some (some (.builtin "object.__setattr__"))
theorem Cls.get{K:W.Frag}{C:Addr}(c:Cls K C)(f:Str):W.plainGet K C f=true:=c.pg
noncomputable def NoAttr(K:W.Frag)(C:Addr)(f:Str):Prop:=W.findIn K (.ref C) f=some none
theorem NoAttr.taker{K:W.Frag}{C:Addr}{f:Str}(n:NoAttr K C f):W.takerIn K C f=some none:=by
 unfold W.takerIn;rw[show W.findIn K (.ref C) f=some none from n];rfl
structure Meth(K:W.Frag)(C:Addr)(m:Str)(f:Addr):Prop where
 at_:W.findIn K (.ref C) m=some (some (.ref f))
 fn:W.isFn K (.ref f)=true
 kp:W.keepIn K (.ref f)=true
section
variable {X:Cx}{pins:List (Addr×Obj)}{σ:St}{H:Hp}{s:Shared}{a C dx:Addr}{fs:List (Str×V)}{f:Str}{v:V}{A:Around}{E:Value->Shared->Prop}
theorem zeb{b:Bool}{Q:Value->Shared->Prop}(B:Inv X pins σ H s)(e:H a=some (.ins C dx fs))(c:Cls X.K C)(n:NoAttr X.K C f)(l:fs.lookup f=some v)(h:∀u s',Inv X pins σ H s'->RelV v u->Q u s'):wpAny (model X.prog X.w) A (getAttr (.ref a) f b) Q E s:=by
 obtain⟨mA,F,r,_,_,_⟩:=zfT B.hok e;obtain⟨u,G,D⟩:=RelO.some_of (v:=v) (o:=mA f) (by rw[←l];exact r f);exact zkE B.kIn F (c.get f) c.hd n G (zhR D) (h u _ (B.tok _) D)
theorem zcY{m:Str}{g:Addr}{pl:Sem Bool}{Q:Value×List Value->Shared->Prop}(B:Inv X pins σ H s)(e:H a=some (.ins C dx fs))(c:Cls X.K C)(k:Meth X.K C m g)(l:fs.lookup m=none)(h:Q (.ref g,[.ref a]) s):wpAny (model X.prog X.w) A (getMethod (.ref a) m pl) Q E s:=by
 obtain⟨mA,D,r,_,_,_⟩:=zfT B.hok e;have F:mA m=none:=RelO.none_of (by rw[←l];exact r m);exact zjm B.kIn D (c.get m) k.at_ k.fn F h
theorem zec{y:V}{u:Value}{Q:Unit->Shared->Prop}(B:Inv X pins σ H s)(e:H a=some (.ins C dx fs))(c:Cls X.K C)(n:NoAttr X.K C f)(U:fs.length<1000)(I:RelV y u)(h:∀s',Inv X pins σ (upd H a (.ins C dx (putF f y fs))) s'->Q () s'):wpAny (model X.prog X.w) A (setAttr (.ref a) f u) Q E s:=by
 obtain⟨mA,D,r,wi,_,G⟩:=zfT B.hok e;have J0:(fs.map (·.1)).length<=sizeLine:=by rw[List.length_map,sizeLine_eq];omega
 refine zkF B.kIn D c.sa c.po n.taker c.hd wi J0 λh' F L=>h _ ?_;have M:∃o,h'.get? dx=some o:=let ⟨o,_,_,O,_⟩:=F.ns;⟨o,O⟩;refine B.write (x:=a) (e:=dx) (by rw[e];exact True.intro) (.inr G) (λb q R z=>(L.2 b R).trans z) M ?_;refine⟨by rw[zah D.ne];exact G,?_,D.ne,F.obj,_,F.ns,λg=>?_,λg S=>?_⟩
 .have:=zdI f y fs;omega
 .show RelO ((putF f y fs).lookup g) (if g=f then some u else mA g);rw[zcu];by_cases q:g=f
  .rw[if_pos q,if_pos q];exact I
  .rw[if_neg q,if_neg q];exact r g
 .by_cases q:g=f
  .rw[q];exact(zdH f y fs).1
  .refine(zdH f y fs).2 g (wi g λz=>S ?_);show (if g=f then some u else mA g)=none;rw[if_neg q];exact z
theorem Inv.made(F:Inv X pins σ H s):Inv X pins σ (upd (upd H s.heap.objs.size (.own (s.heap.objs.size+1))) (s.heap.objs.size+1) (.ins C s.heap.objs.size []))
  { s with heap:=(s.heap.push W.emptyDict).push (W.instObj C s.heap.objs.size) }:=by
 have B:(s.heap.push W.emptyDict).get? s.heap.objs.size=some W.emptyDict:=Heap.get?_push_size s.heap rfl;have G:((s.heap.push W.emptyDict).push (W.instObj C s.heap.objs.size)).get? (s.heap.objs.size+1)=some (W.instObj C s.heap.objs.size):=by
  have:=Heap.get?_push_size (s.heap.push W.emptyDict) (o:=W.instObj C s.heap.objs.size) rfl
  rwa [Heap.size_push] at this
 have I:(s.heap.push W.emptyDict).Ns s.heap.objs.size (λ_=>none):=⟨W.emptyDict,#[],_,B,J,(λe J0=>absurd J0 (by simp)),λ_=>rfl⟩;have L:=F.laid (a:=s.heap.objs.size) (o:=.own (s.heap.objs.size+1)) (h':=s.heap.push W.emptyDict) (t':=s.toks) (λb u q=>Heap.get?_push_of_some _ q) (Nat.le_refl _) ⟨_,B⟩;refine L.laid (a:=s.heap.objs.size+1) (o:=.ins C s.heap.objs.size []) (t':=s.toks) (λb u q=>Heap.get?_push_of_some _ q) (Nat.le_of_eq (Heap.size_push _ _)) ?_;have D:s.heap.objs.size≠s.heap.objs.size+1:=Nat.ne_of_lt (Nat.lt_succ_self _);refine⟨by rw[zah D,zab],Nat.zero_le _,D,G,λ_=>none,(Heap.Ns1.of_empty I).at λo q=>Heap.get?_push_of_some _ q,λ_=>True.intro,λy M=>absurd J M⟩
theorem zkG{prog:Program}{w:World}{env:Env}{e:Expr}{f:Str}{pos:Pos}{s:Shared}{Q:Value->Shared->Prop}(B:attributeBase e f env (eval e env)=eval e env)(h:wpAny (model prog w) A (eval e env) (λo D=>wpAny (model prog w) A (getAttr o f true) Q E D) E s):wpAny (model prog w) A (eval (.Attribute e f pos) env) Q E s:=
 Attribute_any_ h (by rw[arm_eval_Attribute,B])
end
noncomputable def tFld(K:W.Frag)(ta:TE)(f:Str):TE:=λσ H Q=>ta σ H λx H1=>∃a C dx fs v,x=.ref a/\H1 a=some (.ins C dx fs)/\Cls K C/\NoAttr K C f/\fs.lookup f=some v/\Q v H1
noncomputable def sFld(K:W.Frag)(ta tv:TE)(f:Str):TS:=λD σ H=>tv σ H λy H1=>ta σ H1 λx H2=>∃a C dx fs,x=.ref a/\H2 a=some (.ins C dx fs)/\Cls K C/\NoAttr K C f/\fs.length<1000 /\
 D.nx σ (upd H2 a (.ins C dx (putF f y fs)))
noncomputable def InOp(X:Cx)(op:Operator)(B:V->V->Hp->VK->Prop):Prop:=
 ∀(pins:List (Addr×Obj)) (s:Shared) (σ:St) (H:Hp) (x y:V) (u v:Value) (Q:VK),Inv X pins σ H s->RelV x u->RelV y v->B x y H Q->wpAny (model X.prog X.w) X.A (inplaceOp op u v) (EP X pins σ Q) X.xe s
noncomputable def zkH(K:W.Frag)(ta tv:TE)(G:V->V->Hp->VK->Prop)(f:Str):TS:=λD σ H=>ta σ H λx H1=>∃a C dx fs v,x=.ref a/\H1 a=some (.ins C dx fs)/\Cls K C/\NoAttr K C f/\fs.lookup f=some v /\
 tv σ H1 λy H2=>G v y H2 λz B=>∃F fs',B a=some (.ins C F fs')/\fs'.length<1000/\D.nx σ (upd B a (.ins C F (putF f z fs')))
section
variable {X:Cx}{o e value:Expr}{f:Str}{pos pos' tpos:Pos}{ta tv:TE}
theorem zaG(B:PE X e ta)(D:attributeBase e f X.env (eval e X.env)=eval e X.env):PE X (.Attribute e f pos) (tFld X.K ta f):=by
 intro pins s σ H Q F h;refine zkG D (thn (B pins s σ H _ F h) λu R G=>?_);obtain⟨x,H1,I,J0,a,C,dx,fs,v,ex,L,c,n,l,q⟩:=G;subst ex;obtain rfl:u=Value.ref a:=J0;exact zeb I L c n l λS U M O=>⟨v,H1,M,O,q⟩
theorem zbB(B:PE X o ta)(F:PE X value tv)(G:swapsWith value (some (.Attribute o f pos')) pos.line X.env=pure false):PS X (.Assign [.Attribute o f pos'] value pos) (sFld X.K ta tv f):=by
 intro pins s σ H D I h;refine plainObj_wpAny_Assign_Attribute (thn (F pins s σ H _ I h) λu J0 L=>?_) G;obtain⟨y,H1,M,O,q⟩:=L;refine thn (B pins J0 σ H1 _ M q) λR aa S=>?_;obtain⟨x,H2,U,V,a,C,dx,fs,ex,W,c,n,l,Y⟩:=S;subst ex;obtain rfl:R=Value.ref a:=V;exact zec U W c n l O λab Z=>⟨σ,_,Z,Y⟩
theorem zfg{op:Operator}{F:V->V->Hp->VK->Prop}(G:PE X o ta)(I:PE X value tv)(J0:InOp X op F):PS X (.AugAssign (.Attribute o f tpos) op value pos) (zkH X.K ta tv F f):=by
 intro pins s σ H D L h;refine wpAny_AugAssign_AttributeAny (thn (G pins s σ H _ L h) λM ak B=>?_);obtain⟨x,H1,O,R,a,C,dx,fs,v,ex,S,c,n,l,q⟩:=B;subst ex;obtain rfl:M=Value.ref a:=R;refine zeb O S c n l λu U W Y=>thn (I pins U σ H1 _ W q) λZ aa B=>?_;obtain⟨y,H2,ab,ac,ad⟩:=B;refine thn (J0 pins aa σ H2 v y u Z _ ab Y ac ad) λal am ae=>?_;obtain⟨z,ao,af,ag,ap,fs',ah,l',ai⟩:=ae;exact zec af ah c n l' ag λaq aj=>⟨σ,_,aj,ai⟩
noncomputable def rAdd:V->V->Hp->VK->Prop:=λx y H Q=>∃i j,x=.int i/\y=.int j/\Q (.int (i+j)) H
theorem zlB:InOp X .Add rAdd:=by
 rintro pins s σ H x y u v Q B D F ⟨i,j,rfl,rfl,q⟩;obtain⟨t,rfl⟩:=(show ∃t,u=Value.int i t from D);obtain⟨t',rfl⟩:=(show ∃t',v=Value.int j t' from F);exact PyProof.Rows.iadd_int ⟨.int (i+j),H,B.tok _,⟨_,J⟩,q⟩
theorem zkI{pl:Sem Bool}{m:Str}{apos:Pos}{args:List Expr}{pins:List (Addr×Obj)}{s:Shared}{σ:St}{H:Hp}{Q:Value->Shared->Prop}{te:TE}(G:PE X e te)(I:Inv X pins σ H s)(h:te σ H λx H1=>∃a C dx fs g,x=.ref a/\H1 a=some (.ins C dx fs)/\Cls X.K C/\Meth X.K C m g/\fs.lookup m=none /\
   ∀B,Inv X pins σ H1 B->wpAny (model X.prog X.w) X.A (callWith pos (.ref g) [.ref a] (backTo pos (starEach args X.env)) (backToKw pos (keywordEach [] X.env))) Q X.xe B)(J0:eval (.Call (.Attribute e m apos) args [] pos) X.env=(do
   let D ← eval e X.env
   standAt apos.atName
   let (f,first) ← holding [D] (getMethod D m pl)
   callWith pos f first (backTo pos (starEach args X.env)) (backToKw pos (keywordEach [] X.env)))) :
  wpAny (model X.prog X.w) X.A (eval (.Call (.Attribute e m apos) args [] pos) X.env) Q X.xe s:=by
 refine W.methodCall_KW (pl:=pl) (thn (G pins s σ H _ I h) λu B L=>?_) J0;obtain⟨x,H1,F,M,a,C,dx,fs,g,ex,O,c,k,l,q⟩:=L;subst ex;obtain rfl:u=Value.ref a:=M;exact zcY F O c k l (q B F)
end
section
variable {X:Cx}{pins:List (Addr×Obj)}{σ:St}{H:Hp}{s:Shared}{A:Around}{E:Value->Shared->Prop}{Q:Value->Shared->Prop}{c:Value}{b:Bool}
end
structure Room(k:Nat)(A:Around):Prop where
 hd:A.handled=none
 dp:A.depth+3*k+5<recursionLimit
 un:A.units+16*k+200<cLine
theorem Room.mono{j k:Nat}{A:Around}(r:Room k A)(h:j<=k):Room j A:=⟨r.hd,by have:=r.dp;omega,by have:=r.un;omega⟩
theorem Room.deeper{k:Nat}{A:Around}(r:Room (k+1) A)(env:Env):Room k (A.deeper env):=
 ⟨r.hd,by have:=r.dp;show A.depth+1+3*k+5<_;omega,by have:=r.un;show A.units+3+16*k+200<_;omega⟩
theorem Room.in1{k:Nat}{A:Around}(r:Room (k+1) A):Room k A.in1:=
 ⟨r.hd,by have:=r.dp;show A.depth+3*k+5<_;omega,by have:=r.un;show A.units+1+16*k+200<_;omega⟩
theorem zg6{A:Around}{C:Addr}{us:List Value}{B:List (Str×Value)}:(A.under (.builtin "type.__call__" ⟨.ref C::us,B⟩)).depth=A.depth+1:=by
 first|rfl|simp[Around.under,Code.weight,Code.isCreation,Code.isGuard,Code.isCaller,Code.frames,Code.isFrame,guardIds]
theorem zg7{A:Around}{C:Addr}{us:List Value}{B:List (Str×Value)}:(A.under (.builtin "type.__call__" ⟨.ref C::us,B⟩)).units=A.units+1:=by
 first|rfl|simp[Around.under,Code.cUnits,Code.frames,Code.isFrame]
theorem Room.make{k:Nat}{A:Around}(r:Room (k+1) A)(C:Addr)(us:List Value)(B:List (Str×Value)):Room k (A.under (.builtin "type.__call__" ⟨.ref C::us,B⟩)):=
 ⟨r.hd,by have:=r.dp;rw[zg6];omega,by have:=r.un;rw[zg7];omega⟩
theorem Room.depth{k:Nat}{A:Around}(r:Room k A):A.depth<recursionLimit:=by have:=r.dp;omega
theorem Room.units0{k:Nat}{A:Around}(r:Room k A):A.units<cLine:=by have:=r.un;omega
noncomputable def tNil:TA:=λ_ H Q=>Q [] H
noncomputable def tCons(ta:TE)(B:TA):TA:=λσ H Q=>ta σ H λx H1=>B σ H1 λxs H2=>Q (x::xs) H2
section
variable {X:Cx}{e:Expr}{es:List Expr}{te:TE}{t:TA}{pos:Pos}
theorem zae:PA X [] tNil:=λ_ _ _ _ H Q B h=>Calls.spliced_nil ⟨[],H,B,.nil,h⟩
theorem zaa(D:PE X e te)(F:PA X es t)(G:starEach (e::es) X.env=(false,eval e X.env)::starEach es X.env:=by rfl):PA X (e::es) (tCons te t):=by
 intro pos pins s σ H Q I h;rw[G];show wpAny _ _ (spliced ((false,eval e X.env)::backTo pos (starEach es X.env))) _ _ s;refine Calls.spliced_cons (thn (D pins s σ H _ I h) λu J0 B=>?_);obtain⟨x,H1,L,M,q1⟩:=B;refine thn (F pos pins J0 σ H1 _ L q1) λus U B=>?_;obtain⟨xs,H2,O,R,S⟩:=B;exact⟨x::xs,H2,O,.cons M R,S⟩
noncomputable def tTup(t:TA):TE:=λσ H Q=>t σ H λxs H1=>xs.length<=sizeLine/\∀p,H1 p=none->Q (.ref p) (upd H1 p (.tup xs))
noncomputable def tLst(t:TA):TE:=λσ H Q=>t σ H λxs H1=>xs.length<=sizeLine/\∀p,H1 p=none->Q (.ref p) (upd H1 p (.lst xs))
theorem zaV{x1}(h:PA X es t):PE X (.Tuple es x1 pos) (tTup t):=by
 intro pins s σ H Q F G;refine wpAny_Tuple_spliced (thn (h pos pins s σ H _ F G) λus B I=>?_);obtain⟨xs,H1,D,r,z,q⟩:=I;refine⟨by rw[←r.length];exact z,?_⟩;have J0:H1 B.heap.objs.size=none:=D.hok.fresh (Nat.le_refl _);refine⟨.ref B.heap.objs.size,upd H1 B.heap.objs.size (.tup xs),D.laid (t':=B.toks) (λb u e=>Heap.get?_push_of_some _ e) (Nat.le_refl _) ?_,J,q _ J0⟩;exact⟨z,us,r,⟨_,Heap.get?_push_size _ J,J,_,J⟩⟩
theorem zaN(h:PA X es t):PE X (.List es pos) (tLst t):=by
 intro pins s σ H Q F G;refine wpAny_List_spliced (thn (h pos pins s σ H _ F G) λus B I=>?_);obtain⟨xs,H1,D,r,z,q⟩:=I;refine⟨by rw[←r.length];exact z,?_⟩;have J0:H1 B.heap.objs.size=none:=D.hok.fresh (Nat.le_refl _);refine⟨.ref B.heap.objs.size,upd H1 B.heap.objs.size (.lst xs),D.laid (t':=B.toks) (λb u e=>Heap.get?_push_of_some _ e) (Nat.le_refl _) ?_,J,q _ J0⟩;exact⟨z,us,0,r,Heap.get?_push_size _ J⟩
end
noncomputable abbrev Sp:=List V->Hp->VK->XK->Prop
noncomputable abbrev CXT:=List Env->Hp->Shared->XK->Value->Shared->Prop
structure Env0(P:Program)(w:World)(K:W.Frag)(mg:Str->Option Value)(base:Heap)(A:Around)(outer:List Env)(s:Shared)(H:Hp):Prop where
 frames:A.frames=some outer
 mod:Mod K mg base
 bs:∀b o,base.get? b=some o->s.heap.get? b=some o/\H b=none
 bsz:base.objs.size<=s.heap.objs.size
 funs:s.heap.FunFrames base outer
 frf:∀b∈frs outer,H b=none
 hok:HOk P w H s.heap
 bare:AllBare s.gens
noncomputable def CE(outer:List Env)(P:Program)(w:World)(H:Hp)(s:Shared)(Q:VK)(u:Value)(s':Shared):Prop:=
 ∃v H',s'.os=s.os/\AllBare s'.gens/\Un (frs outer) [] H H' s.heap s'.heap/\HOk P w H' s'.heap/\RelV v u/\Q v H'
noncomputable def CR(CX:CXT)(outer:List Env)(P:Program)(w:World)(H:Hp)(s:Shared)(Q:VK)(E:XK)(r:Result)(s':Shared):Prop:=
 match r with
 |.ok (.ret u)=>CE outer P w H s Q u s'
 |.ok _=>False
 |.error e=>CX outer H s E e s'
structure FnOk(P:Program)(w:World)(K:W.Frag)(mg:Str->Option Value)(base:Heap)(CX:CXT)(k:Nat)(f:Addr)(fd:FuncData)(ps:List Str)(sp:Sp):Prop where
 len:∀vs H Q E,sp vs H Q E->vs.length=ps.length
 run:∀(A:Around) (outer:List Env) (s:Shared) (H:Hp) (args:Args) (us:List Value) (vs:List V) (Q:VK) (E:XK),Room k A->Env0 P w K mg base A outer s H->BindsTo s fd args (ps.zip us)->Vals vs us->sp vs H Q E ->
  codeAny (model P w) A (.call (.ref f) args) (CR CX outer P w H s Q E) s
theorem FnOk.mono{P:Program}{w:World}{K:W.Frag}{mg:Str->Option Value}{base:Heap}{CX:CXT}{j k:Nat}{f:Addr}{fd:FuncData}{ps:List Str}{sp:Sp}(F:FnOk P w K mg base CX j f fd ps sp)(h:j<=k) :
  FnOk P w K mg base CX k f fd ps sp:=⟨F.len,λA outer s H args us vs Q E B=>F.run A outer s H args us vs Q E (B.mono h)⟩
theorem FnOk.imp{P:Program}{w:World}{K:W.Frag}{mg:Str->Option Value}{base:Heap}{CX:CXT}{k:Nat}{f:Addr}{fd:FuncData}{ps:List Str}{sp B:Sp}(F:FnOk P w K mg base CX k f fd ps sp)(h:∀vs H Q E,B vs H Q E->sp vs H Q E):FnOk P w K mg base CX k f fd ps B:=
 ⟨λvs H Q E q=>F.len vs H Q E (h _ _ _ _ q),λA outer s H args us vs Q E D G I J0 L=>F.run A outer s H args us vs Q E D G I J0 (h _ _ _ _ L)⟩
theorem Env0.make{P:Program}{w:World}{K:W.Frag}{mg:Str->Option Value}{base:Heap}{A:Around}{outer:List Env}{s:Shared}{H:Hp}(e:Env0 P w K mg base A outer s H)(C:Addr)(us:List Value)(B:List (Str×Value)) :
  Env0 P w K mg base (A.under (.builtin "type.__call__" ⟨.ref C::us,B⟩)) outer s H:=⟨by first|exact e.frames|(simpa [Around.under,Code.envs,Code.isFrame,pushEnvs] using e.frames),e.mod,e.bs,e.bsz,e.funs,e.frf,e.hok,e.bare⟩
section
variable {X:Cx}{pins:List (Addr×Obj)}{σ:St}{H:Hp}{s s':Shared}
theorem Inv.env0(B:Inv X pins σ H s):Env0 X.prog X.w X.K X.mg X.base X.A X.stack s H:=
 ⟨B.ok.frames,B.ok.mod,B.bs,Nat.le_trans B.ok.bsz B.sz,B.stack,B.stkFree,B.hok,B.bare⟩
theorem Inv.after{Q:VK}{u:Value}(B:Inv X pins σ H s)(h:CE X.stack X.prog X.w H s Q u s'):EP X pins σ Q u s':=by
 obtain⟨v,H',os,D,F,G,r,q⟩:=h;obtain⟨I,g,d,t,J0⟩:=s';obtain rfl:J0=s.os:=os;exact⟨v,H',B.call (h':=I) (g':=g) (d':=d) (t':=t) (ch:=[]) F G D (λb z=>absurd z (by simp)),r,q⟩
end
noncomputable def tCall(sp:Sp)(dvs:List V)(E:XK)(t:TA):TE:=λσ H Q=>t σ H λvs H1=>sp (vs++dvs) H1 Q E
noncomputable def tMeth(C:Addr)(m:Str)(sp:Sp)(dvs:List V)(E:XK)(ta:TE)(t:TA):TE:=λσ H Q=>ta σ H λx H1=>∃a dx fs,x=.ref a/\H1 a=some (.ins C dx fs)/\fs.lookup m=none /\
 t σ H1 λvs H2=>sp (x::(vs++dvs)) H2 Q E
noncomputable def tMake(C:Addr)(sp:Sp)(dvs:List V)(E:XK)(t:TA):TE:=λσ H Q=>t σ H λvs H1=>∀x dx,H1 x=none->H1 dx=none->dx≠x ->
 sp (.ref x::(vs++dvs)) (upd (upd H1 dx (.own x)) x (.ins C dx [])) (λv H2=>v=.non/\Q (.ref x) H2) E
noncomputable def Binds(K:W.Frag)(fd:FuncData)(ps:List Str)(ds:List Value):Prop:=
 ∀(s:Shared) (us:List Value),K.In s.heap->(us++ds).length=ps.length->BindsTo s fd ⟨us,[]⟩ (ps.zip (us++ds))
theorem Binds.all{K:W.Frag}{fd:FuncData}{ps:List Str}(h:∀us:List Value,us.length=ps.length->bindArgs fd ⟨us,[]⟩=pure (ps.zip us)):Binds K fd ps []:=λs us _ B=>by
 rw[List.append_nil] at B ⊢;exact .of_eq (h us B)
noncomputable def zdc(CX:CXT)(X:Cx)(E:XK):Prop:=∀(pins:List (Addr×Obj)) (σ:St) (H:Hp) (s:Shared) (e:Value) (s':Shared),Inv X pins σ H s->CX X.stack H s E e s'->X.xe e s'
section
variable {X:Cx}{CX:CXT}{k:Nat}{f C:Addr}{fd:FuncData}{ps:List Str}{sp:Sp}{dvs:List V}{ds:List Value}{E:XK}{x m:Str}{p pos apos:Pos}{e o:Expr}{es:List Expr}{ta:TE}{t:TA}
theorem zhS{pins:List (Addr×Obj)}{σ:St}{H:Hp}{s:Shared}{Q:VK}{us:List Value}{vs:List V}(F:FnOk X.prog X.w X.K X.mg X.base CX k f fd ps sp)(I:Room k X.A)(J0:Binds X.K fd ps ds)(L:Vals dvs ds)(M:zdc CX X E)(D:Inv X pins σ H s)(r:Vals vs us)(h:sp (vs++dvs) H Q E):wpAny (model X.prog X.w) X.A (call (.ref f) us) (EP X pins σ Q) X.xe s:=by
 have G:Vals (vs++dvs) (us++ds):=r.append L;have O:(us++ds).length=ps.length:=by rw[←G.length];exact F.len _ _ _ _ h
 refine wpAny_call (codeAny_mono (F.run X.A X.stack s H ⟨us,[]⟩ (us++ds) (vs++dvs) Q E I D.env0 (J0 s us D.kIn O) G h) λr s' B=>?_);cases r with
 |error e=>exact M pins σ H s e s' D B
 |ok R=>
  cases R with
  |ret u=>exact D.after B
  |next=>exact False.elim B
  |brk=>exact False.elim B
  |cont=>exact False.elim B
theorem zat(F:FnOk X.prog X.w X.K X.mg X.base CX k f fd ps sp)(G:Room k X.A)(I:Gl X x)(J0:X.mg x=some (.ref f))(L:W.keepIn X.K (.ref f)=true)(M:Binds X.K fd ps ds)(O:Vals dvs ds)(R:zdc CX X E)(S:PA X (e::es) t)(U:(x==("__debug__":Str))=false:=by decide)(V:starEach (e::es) X.env=(false,eval e X.env)::starEach es X.env:=by rfl)(Y:(backTo pos (starEach es X.env)).any (·.1)=false:=by rfl) :
  PE X (.Call (.Name x p) (e::es) [] pos) (tCall sp dvs E t):=by
 intro pins s σ H Q B h;refine wpAny_Call_Name_kw (zer B I J0 ?_ U);refine W.callWith_K (h₀:=X.base) B.ok.mod.kin L (thn (S pos pins s σ H _ B h) λus aa Z=>?_) V Y;obtain⟨vs,H1,D,r,q⟩:=Z;refine⟨D.kIn,?_⟩;exact zhS F G M O R D r q
theorem zaZ{pl:Sem Bool}(M:PE X o ta)(c:Cls X.K C)(D:Meth X.K C m f)(F:FnOk X.prog X.w X.K X.mg X.base CX k f fd ps sp)(O:Room k X.A)(R:Binds X.K fd ps ds)(S:Vals dvs ds)(U:zdc CX X E)(V:PA X (e::es) t)(Y:starEach (e::es) X.env=(false,eval e X.env)::starEach es X.env:=by rfl)(Z:(backTo pos (starEach es X.env)).any (·.1)=false:=by rfl)(aa:eval (.Call (.Attribute o m apos) (e::es) [] pos) X.env=(do
   let G ← eval o X.env
   standAt apos.atName
   let (f,first) ← holding [G] (getMethod G m pl)
   callWith pos f first (backTo pos (starEach (e::es) X.env)) (backToKw pos (keywordEach [] X.env))):=by rfl) :
  PE X (.Call (.Attribute o m apos) (e::es) [] pos) (tMeth C m sp dvs E ta t):=by
 intro pins s σ H Q I h;refine W.methodCall_KW (pl:=pl) (thn (M pins s σ H _ I h) λu ab B=>?_) aa;obtain⟨x,H1,J0,ac,a,dx,fs,ex,ad,l,q⟩:=B;subst ex;obtain rfl:u=Value.ref a:=ac;refine zcY J0 ad c D l ?_;refine W.callWith_K (first:=[.ref a]) (h₀:=X.base) I.ok.mod.kin D.kp (thn (V pos pins ab σ H1 _ J0 q) λus af B=>?_) Y Z
 obtain⟨vs,H2,L,r,ae⟩:=B;refine⟨L.kIn,?_⟩;exact zhS (us:=.ref a::us) (vs:=.ref a::vs) F O R S U L (.cons J r) ae
theorem zcH{pl:Sem Bool}(I:PE X o ta)(c:Cls X.K C)(D:Meth X.K C m f)(F:FnOk X.prog X.w X.K X.mg X.base CX k f fd ps sp)(J0:Room k X.A)(L:Binds X.K fd ps ds)(M:Vals dvs ds)(O:zdc CX X E)(R:eval (.Call (.Attribute o m apos) [] [] pos) X.env=(do
   let G ← eval o X.env
   standAt apos.atName
   let (f,first) ← holding [G] (getMethod G m pl)
   callWith pos f first (backTo pos (starEach [] X.env)) (backToKw pos (keywordEach [] X.env))):=by rfl) :
  PE X (.Call (.Attribute o m apos) [] [] pos) (tMeth C m sp dvs E ta tNil):=by
 intro pins s σ H Q S h;refine W.methodCall_KW (pl:=pl) (thn (I pins s σ H _ S h) λu Z U=>?_) R;obtain⟨x,H1,B,V,a,dx,fs,ex,Y,l,q⟩:=U;subst ex;obtain rfl:u=Value.ref a:=V;refine zcY B Y c D l ?_;exact W.callWith_K0 (first:=[.ref a]) B.kIn D.kp (zhS (us:=[.ref a]) (vs:=[.ref a]) F J0 L M O B (.cons rfl .nil) q)
structure Mk(K:W.Frag)(C f:Addr):Prop where
 makes:W.makesIn K C=true
 init:W.findIn K (.ref C) "__init__"=some (some (.ref f))
 fn:W.isFn K (.ref f)=true
 kp:W.keepIn K (.ref C)=true
theorem zgp{pins:List (Addr×Obj)}{σ:St}{H:Hp}{s:Shared}{Q:VK}{us:List Value}{vs:List V}(I:Mk X.K C f)(F:FnOk X.prog X.w X.K X.mg X.base CX k f fd ps sp)(M:Room (k+1) X.A)(O:Binds X.K fd ps ds)(R:Vals dvs ds)(S:zdc CX X E)(D:Inv X pins σ H s)(r:Vals vs us)(h:∀x dx,H x=none->H dx=none->dx≠x->sp (.ref x::(vs++dvs)) (upd (upd H dx (.own x)) x (.ins C dx [])) (λv H2=>v=.non/\Q (.ref x) H2) E) :
  wpAny (model X.prog X.w) X.A (call (.ref C) us) (EP X pins σ Q) X.xe s:=by
 have J0:=h (s.heap.objs.size+1) s.heap.objs.size (D.hok.fresh (Nat.le_succ _)) (D.hok.fresh (Nat.le_refl _)) (Nat.ne_of_lt (Nat.lt_succ_self _));have G:=Inv.made (C:=C) D;have L:Vals (V.ref (s.heap.objs.size+1)::(vs++dvs)) (Value.ref (s.heap.objs.size+1)::(us++ds)):=.cons rfl (r.append R);have U:(Value.ref (s.heap.objs.size+1)::us++ds).length=ps.length:=by
  have e:=L.length;rw[F.len _ _ _ _ J0] at e;exact e.symm
 refine wpAny_call (zjn (f:=f) D.kIn I.makes I.init (beq_iff_eq.mp I.fn) (codeAny_mono (F.run _ X.stack _ _ ⟨Value.ref (s.heap.objs.size+1)::us,[]⟩ (Value.ref (s.heap.objs.size+1)::(us++ds)) _ _ E (M.make C us [])
  (G.env0.make C us []) (O _ (Value.ref (s.heap.objs.size+1)::us) G.kIn U) L J0) λr s' B=>?_))
 cases r with
 |error e=>exact S pins σ _ _ e s' G B
 |ok W=>
  cases W with
  |ret u=>
   obtain⟨v,H',Y,Z,aa,ab⟩:=G.after B;subst aa;exact⟨Z,⟨V.ref (s.heap.objs.size+1),H',Y,J,ab⟩⟩
  |next=>exact False.elim B
  |brk=>exact False.elim B
  |cont=>exact False.elim B
theorem zhT(D:Mk X.K C f)(F:FnOk X.prog X.w X.K X.mg X.base CX k f fd ps sp)(I:Room (k+1) X.A)(J0:Gl X x)(L:X.mg x=some (.ref C))(M:Binds X.K fd ps ds)(O:Vals dvs ds)(R:zdc CX X E)(S:PA X (e::es) t)(U:(x==("__debug__":Str))=false:=by decide)(V:starEach (e::es) X.env=(false,eval e X.env)::starEach es X.env:=by rfl)(Y:(backTo pos (starEach es X.env)).any (·.1)=false:=by rfl) :
  PE X (.Call (.Name x p) (e::es) [] pos) (tMake C sp dvs E t):=by
 intro pins s σ H Q B h;refine wpAny_Call_Name_kw (zer B J0 L ?_ U);refine W.callWith_K (h₀:=X.base) B.ok.mod.kin D.kp (thn (S pos pins s σ H _ B h) λus aa Z=>?_) V Y;obtain⟨vs,H1,G,r,q⟩:=Z;refine⟨G.kIn,?_⟩;exact zgp D F I M O R G r q
theorem zjo(D:Mk X.K C f)(F:FnOk X.prog X.w X.K X.mg X.base CX k f fd ps sp)(G:Room (k+1) X.A)(I:Gl X x)(J0:X.mg x=some (.ref C))(L:Binds X.K fd ps ds)(M:Vals dvs ds)(O:zdc CX X E)(R:(x==("__debug__":Str))=false:=by decide):PE X (.Call (.Name x p) [] [] pos) (tMake C sp dvs E tNil):=by
 intro pins s σ H Q B h;refine wpAny_Call_Name_kw (zer B I J0 ?_ R);exact W.callWith_K0 B.kIn D.kp (zgp (us:=[]) D F G L M O B .nil h)
end
section
variable {X:Cx}{CX:CXT}{k:Nat}{f C:Addr}{fd:FuncData}{ps ks:List Str}{sp:Sp}{E:XK}{x m:Str}{p pos apos kpos:Pos}{e o:Expr}{es:List Expr}{kws:List Keyword}{te ta:TE}{t tk:TA}{nm:Option Str}
variable {g:List Value->List Value->List Value}{gV:List V->List V->List V}
end
structure zav(N P:List Str)(sc:Scope):Prop where
 kind:sc.kind=.function
 co:sc.isCoroutine=false
 gen:sc.isGenerator=false
 nd:N.Nodup
 pre:N.take P.length=P
 par:∀x∈P,sc.names.lookup x=some .local∨sc.names.lookup x=some .cell
 nofree:∀y∈sc.names,y.2≠.free
theorem zfh{kindOf:Str->Option NameKind}{x:Str}:∀ {B:List (Str×Value)}{m:Str->Option Value},(∀v,(x,v)∉B)->bindL kindOf B m x=m x
 |[],_,_=>rfl
 |(n,v)::r,m,h=>by
  unfold bindL;rw[zfh λw hw=>h w (List.mem_cons_of_mem _ hw)];split
  .have:x≠n:=by rintro rfl;exact h v List.mem_cons_self
   simp[this]
  .rfl
theorem zfi{kindOf:Str->Option NameKind}{x:Str}:∀ {B:List (Str×Value)}{m:Str->Option Value},(∀v,(x,v)∉B)->bindC kindOf B m x=m x
 |[],_,_=>rfl
 |(n,v)::r,m,h=>by
  unfold bindC;rw[zfi λw hw=>h w (List.mem_cons_of_mem _ hw)];split
  .rfl
  .have:x≠n:=by rintro rfl;exact h v List.mem_cons_self
   simp[this]
theorem zfj{kindOf:Str->Option NameKind}{x:Str}{v:Value}:∀ {P:List Str}{vs:List Value}{i:Nat}{m:Str->Option Value},P.Nodup->P[i]?=some x->vs[i]?=some v->kindOf x=some .local ->
  bindL kindOf (P.zip vs) m x=some v
 |[],_,_,_,_,h,_,_=>by simp at h
 |_::_,[],_,_,_,_,h,_=>by simp at h
 |p::P,w::vs,0,m,B,h1,h2,D=>by
  simp at h1 h2;subst h1;subst h2;show bindL kindOf ((p,w)::P.zip vs) m p=_;unfold bindL;rw[zfh λv F=>(List.nodup_cons.mp B).1 (List.of_mem_zip F).1,if_pos D];simp
 |p::P,w::vs,i+1,m,B,h1,h2,D=>by
  show bindL kindOf ((p,w)::P.zip vs) m x=_;unfold bindL;exact zfj (i:=i) (List.nodup_cons.mp B).2 (by simpa using h1) (by simpa using h2) D
theorem zfk{kindOf:Str->Option NameKind}{x:Str}{v:Value}:∀ {P:List Str}{vs:List Value}{i:Nat}{m:Str->Option Value},P.Nodup->P[i]?=some x->vs[i]?=some v->kindOf x≠some .local ->
  bindC kindOf (P.zip vs) m x=some v
 |[],_,_,_,_,h,_,_=>by simp at h
 |_::_,[],_,_,_,_,h,_=>by simp at h
 |p::P,w::vs,0,m,B,h1,h2,D=>by
  simp at h1 h2;subst h1;subst h2;show bindC kindOf ((p,w)::P.zip vs) m p=_;unfold bindC;rw[zfi λv F=>(List.nodup_cons.mp B).1 (List.of_mem_zip F).1,if_neg D];simp
 |p::P,w::vs,i+1,m,B,h1,h2,D=>by
  show bindC kindOf ((p,w)::P.zip vs) m x=_;unfold bindC;exact zfk (i:=i) (List.nodup_cons.mp B).2 (by simpa using h1) (by simpa using h2) D
noncomputable def start(N:List Str)(vs:List V):St:=vs.map some++List.replicate (N.length-vs.length) none
noncomputable def cxOf(CX:CXT)(P:Program)(w:World)(K:W.Frag)(mg:Str->Option Value)(base:Heap)(N:List Str)(B:Str)(scope:Scope)(f:Addr)(D:Value)(A:Around)(outer:List Env)(s:Shared)(H:Hp)(E:XK):Cx where
 prog:=P
 w:=w
 K:=K
 mg:=mg
 base:=base
 A:=A.deeper (envOfC B scope s.heap.objs.size f D)
 N:=N
 s₀:=s
 H₀:=H
 env:=envOfC B scope s.heap.objs.size f D
 outer:=outer
 stack:=envOfC B scope s.heap.objs.size f D::outer
 ex:=[]
 calm:=true
 fn:=λ_=>true
 pn:=[]
 xe:=λe s'=>wpAny (model P w) (A.deeper (envOfC B scope s.heap.objs.size f D)) (leaving (envOfC B scope s.heap.objs.size f D) e) (λ_ F=>CX outer H s E e F) (λG F=>CX outer H s E G F) s'
theorem zgq{sc:Scope}{n:Nat}{x:Str}(h:sc.names.lookup x=some .cell):∃c,(cellsFrom n sc.names []).lookup x=some c:=by
 have q:=W.cellsFrom_some sc.names n [] (.inl h);exact Option.isSome_iff_exists.mp q
theorem zhU{CX:CXT}{P:Program}{w:World}{K:W.Frag}{mg:Str->Option Value}{base:Heap}{N ps:List Str}{F:Str}{scope:Scope}{f:Addr}{G:Value}{A:Around}{outer:List Env}{s J0:Shared}{H:Hp}{E:XK}{us:List Value}{vs:List V}(S:zav N ps scope)(R:A.handled=none)(B:Env0 P w K mg base A outer s H)(Z:vs.length=ps.length)(r:Vals vs us)(x:InCallC s s.heap.objs.size (bindL (envOfC F scope s.heap.objs.size f G).kindOf (ps.zip us) λ_=>none) (cellsFrom (s.heap.objs.size+1) scope.names []) (bindC (envOfC F scope s.heap.objs.size f G).kindOf (ps.zip us) λ_=>none) J0) :
  Inv (cxOf CX P w K mg base N F scope f G A outer s H E) [] (start N vs) H J0:=by
 have aa:ps.length<=N.length:=by have:=congrArg List.length S.pre;rw[List.length_take] at this;omega
 obtain⟨h1,tk,rfl,L⟩:=x.done;have I:∀b:Addr,b∉(cxOf CX P w K mg base N F scope f G A outer s H E).ex:=λb z=>absurd (show b∈([]:List Addr) from z) (by simp);refine⟨⟨B.mod,S.kind,J,J,Nat.le_refl _,λy z c h1 h2=>?_,λy hy=>?_,λy c _ h=>?_,λ_=>R,Around.frames_deeper B.frames,.inr ⟨J,J⟩,λb z=>absurd z (I b),B.bs,B.bsz,λb _ _=>I b,λb z=>absurd z (I b),B.funs,B.frf⟩,
  J,B.bare,Un.kept L,⟨_,x.toInCall.ns,λi y v h1 h2 ab=>?_⟩,λy c h=>⟨_,x.cell y c h⟩,B.hok.fresh (Nat.le_refl _),λy c h=>?_,λp D=>absurd (show p∈([]:List (Addr×Obj)) from D) (by simp),B.hok.kept L,?_⟩
 .exact name_of_addr x.apart (PySem.mem_of_lookup h1) (PySem.mem_of_lookup h2)
 .have hy:scope.names.lookup y=some .cell∨scope.names.lookup y=some .free:=hy;rcases hy with hy|hy
  .exact zgq hy
  .exact absurd rfl (S.nofree _ (PySem.mem_of_lookup hy))
 .exact Nat.le_of_lt (x.above y c (PySem.mem_of_lookup h))
 .have hi:i<vs.length:=by
   unfold start at h2;by_cases hi:i<vs.length
   .exact hi
   .rw[List.getElem?_append_right (by simpa using hi)] at h2;rw[List.getElem?_replicate] at h2;split at h2<;>cases h2
  have U:vs[i]?=some v:=by
   unfold start at h2;rw[List.getElem?_append_left (by simpa using hi),List.getElem?_map] at h2;cases e:vs[i]? with
   |none=>rw[e] at h2;cases h2
   |some a=>rw[e] at h2;cases h2;rfl
  obtain⟨u,M,Y⟩:=r.get U;have D:ps[i]?=some y:=by
   rw[←S.pre,List.getElem?_take_of_lt (by omega)];exact h1
  have O:ps.Nodup:=by rw[←S.pre];exact S.nd.sublist (List.take_sublist _ _)
  refine⟨u,Y,?_⟩;rcases S.par y (List.mem_of_getElem? D) with k|k
  .exact .inl ⟨k,zfj O D M k⟩
  .obtain⟨c,e⟩:=zgq (n:=s.heap.objs.size+1) k;refine .inr ⟨.inl k,c,e,?_⟩;have q:=x.cell y c e;rw[zfk O D M (by show scope.names.lookup y≠_;rw[k];decide)] at q;exact q
 .exact B.hok.fresh (Nat.le_of_lt (x.above y c (PySem.mem_of_lookup h)))
 .unfold start;show _=N.length;rw[List.length_append,List.length_map,List.length_replicate];omega
theorem zlC{CX:CXT}{P:Program}{w:World}{K:W.Frag}{mg:Str->Option Value}{base:Heap}{k:Nat}{f:Addr}{name B:Str}{M:Arguments}{G:List Stmt}{scope:Scope}{O kV doc pm cdv ct oc:Value}{an od:Option Addr}{osl:Array (Option Value)}{N ps:List Str}{sp:Sp}(ab:K.lookup f=some ⟨oc,od,.func (W.fnOf name B M G scope O kV doc pm an cdv ct),osl⟩)(ac:W.codeIn K cdv B=true)(S:zav N ps scope)(R:∀vs H Q E,sp vs H Q E->vs.length=ps.length)(ad:∀(A:Around) (outer:List Env) (s:Shared) (H:Hp) (vs:List V) (Q:VK) (E:XK),Room k (A.deeper (envOfC B scope s.heap.objs.size f cdv))->sp vs H Q E ->
   ∃t,PSs (cxOf CX P w K mg base N B scope f cdv A outer s H E) G t/\t { nx:=λ_ H'=>Q .non H',rt:=Q } (start N vs) H) :
  FnOk P w K mg base CX (k+1) f (W.fnOf name B M G scope O kV doc pm an cdv ct) ps sp:=by
 refine⟨R,λA outer s H args us vs Q E I F ae r U=>?_⟩;have af:=R _ _ _ _ U;have Y:K.In s.heap:=F.mod.kin.keeps λb o e=>(F.bs b o e).1;have ag:s.heap.NoLimit:=F.mod.nolimit.keeps λb o e=>(F.bs b o e).1;have ah:∀y∈ps.zip us,scope.names.lookup y.1=some .local∨(scope.names.lookup y.1=some .cell/\((cellsFrom (s.heap.objs.size+1) scope.names []).lookup y.1).isSome=true):=λ⟨n,v⟩ ai=>by
  rcases S.par n (List.of_mem_zip ai).1 with q|q
  .exact .inl q
  .exact .inr ⟨q,W.cellsFrom_some _ _ _ (.inl q)⟩
 refine codeAny_call_function I.depth (Y _ _ ab) rfl S.co S.gen rfl (W.codeRec_of Y ac) (ae _ _ _ _ ?_);refine wpAny_newFunctionEnv_cells S.kind ah λenv aj Z x=>?_;subst aj;refine⟨ag.keeps x.toInCall.keep,codeAny_func ?_⟩;obtain⟨t,ak,al⟩:=ad A outer s H vs Q E (I.deeper _) U;have am:Inv (cxOf CX P w K mg base N B scope f cdv A outer s H E) [] (start N vs) H Z:=zhU S I.hd F af r x;refine wpAny_mono (ak [] Z (start N vs) H _ am al) (λao s' D=>?_) λe s' D=>D;have aa:∀ {σ':St} {H':Hp} {v:V} {u:Value},Inv (cxOf CX P w K mg base N B scope f cdv A outer s H E) [] σ' H' s'->RelV v u->Q v H'->CE outer P w H s Q u s':=
  λ{σ' H' v u} J0 L q=>⟨v,H',J0.os,J0.bare,J0.base,J0.hok,L,q⟩
 cases ao with
 |ret u=>
  obtain⟨v,σ',H',J0,L,q⟩:=D;exact aa J0 L q
 |next=>
  obtain⟨σ',H',J0,q⟩:=D;exact aa (v:=V.non) (u:=Value.none) J0 rfl q
 |brk=>
  obtain⟨_,_,_,q⟩:=D;exact False.elim q
 |cont=>
  obtain⟨_,_,_,q⟩:=D;exact False.elim q
section
variable {X:Cx}{x:Str}{p pos:Pos}{e:Expr}{es:List Expr}{t:TA}{id T:String}{r:List V->Hp->VK->Prop}
noncomputable def tCB(r:List V->Hp->VK->Prop)(t:TA):TE:=λσ H Q=>t σ H λvs H1=>r vs H1 Q
theorem zar(D:CallR X (.builtin id) r)(F:Gl X x)(G:X.mg x=none)(I:bootBuiltins x=some (.builtin id))(J0:PA X (e::es) t)(L:x≠"__name__":=by decide)(M:(x==("__debug__":Str))=false:=by decide)(O:starEach (e::es) X.env=(false,eval e X.env)::starEach es X.env:=by rfl)(R:(backTo pos (starEach es X.env)).any (·.1)=false:=by rfl):PE X (.Call (.Name x p) (e::es) [] pos) (tCB r t):=by
 intro pins s σ H Q B h;refine wpAny_Call_Name_kw (zct B F G I ?_ L M);refine PyProof.Rows.callWith_builtin1 (thn (J0 pos pins s σ H _ B h) λus S U=>?_) O R;obtain⟨vs,H1,V,W,q1⟩:=U;exact D pins S σ H1 vs us Q V W q1
theorem zbx(D:CallR X (.type T) r)(F:Gl X x)(G:X.mg x=none)(I:bootBuiltins x=some (.type T))(J0:PA X (e::es) t)(L:x≠"__name__":=by decide)(M:(x==("__debug__":Str))=false:=by decide)(O:starEach (e::es) X.env=(false,eval e X.env)::starEach es X.env:=by rfl)(R:(backTo pos (starEach es X.env)).any (·.1)=false:=by rfl):PE X (.Call (.Name x p) (e::es) [] pos) (tCB r t):=by
 intro pins s σ H Q B h;refine wpAny_Call_Name_kw (zct B F G I ?_ L M);refine PyProof.Rows.callWith_type1 (thn (J0 pos pins s σ H _ B h) λus S U=>?_) O R;obtain⟨vs,H1,V,W,q1⟩:=U;exact D pins S σ H1 vs us Q V W q1
end
end L2
namespace HT
open PySem PyProof.Rows
section
open PySem.SeqAt
open PySem.AutoSeq1 (wpAny_loadPart')
open PySem.MeetsSeq PySem.MeetsSeq2 PySem.MeetsSeq3
end
section
variable {prog:Program}{w:World}{A:Around}{E:Value->Shared->Prop}{s:Shared}
noncomputable def sIx(n d:Nat):Option Int->Nat
 |none=>d
 |some v=>if v<0 then (v+(n:Int)).toNat else min v.toNat n
theorem sIx_none(n d:Nat):sIx n d none=d:=rfl
theorem sIx_nat(n d k:Nat):sIx n d (some (k:Int))=min k n:=by
 show (if (k:Int)<0 then ((k:Int)+(n:Int)).toNat else min (k:Int).toNat n)=min k n;rw[if_neg (by omega),Int.toNat_natCast]
theorem sIx_le(n d:Nat)(D:d<=n)(o:Option Int):sIx n d o<=n:=by
 cases o with
 |none=>exact D
 |some v=>
  show (if v<0 then (v+(n:Int)).toNat else min v.toNat n)<=n;by_cases B:v<0
  .rw[if_pos B];omega
  .rw[if_neg B];exact Nat.min_le_right _ _
theorem zhV(v:Int)(n d:Nat):(if v<0 then max (v+(n:Int)) 0 else min v (n:Int))=((sIx n d (some v):Nat):Int):=by
 show (if v<0 then max (v+(n:Int)) 0 else min v (n:Int))=(((if v<0 then (v+(n:Int)).toNat else min v.toNat n):Nat):Int);by_cases B:v<0
 .simp only[if_pos B];omega
 .simp only[if_neg B];omega
theorem zg8(lo hi:Option Int)(n:Nat):Builtin.Slice.sliceAdjust lo hi 1 (n:Int)=(((sIx n 0 lo:Nat):Int),((sIx n n hi:Nat):Int)):=by
 have h1:¬((1:Int)<0):=by omega
 unfold Builtin.Slice.sliceAdjust;simp only[h1,if_false];refine Prod.ext ?_ ?_
 .cases lo with
  |none=>rfl
  |some v=>exact zhV v n 0
 .cases hi with
  |none=>rfl
  |some v=>exact zhV v n n
theorem zg9(i j:Nat):Builtin.Slice.slicePlaces (i:Int) (j:Int) 1=j-i:=by
 unfold Builtin.Slice.slicePlaces;have h1:(1:Int)>0:=by omega
 simp only[h1,if_true,Int.ediv_one];split<;>omega
theorem zed{v:Value}{o:Option Int}{Q:Option Int->Shared->Prop}(p:IsPart v o)(h:Q o s):wpAny (model prog w) A (Builtin.Slice.slicePartIndex v) Q E s:=by
 cases p with
 |none=>exact slicePart_none h
 |int i t=>exact slicePart_int h
theorem zdh{I:Addr}{B D:Value}{lo hi:Option Int}{n:Nat}{Q:Int×Int×Nat->Shared->Prop}(J0:s.heap.IsSliceOf I B D .none)(pl:IsPart B lo)(L:IsPart D hi)(h:Q (((sIx n 0 lo:Nat):Int),1,sIx n n hi-sIx n 0 lo) s):wpAny (model prog w) A (Builtin.Slice.sliceApplied (.ref I) (pure (n:Int))) Q E s:=by
 obtain⟨os,F,M,G⟩:=id J0;unfold Builtin.Slice.sliceApplied Builtin.Slice.sliceFields;refine wpAny_bind (wpAny_bind (wpAny_field F G (x:=B) J (wpAny_bind (wpAny_field F G (x:=D) J (wpAny_bind (wpAny_field F G (x:=.none) J (wpAny_pure ?_)))))));refine wpAny_bind (slicePart_none ?_);show wpAny _ _ (if ((1:Int)==0)=true then _ else _) _ _ s;rw[if_neg (by decide)];refine wpAny_bind (zed pl (wpAny_bind (zed L (wpAny_bind (wpAny_pure ?_)))));show wpAny _ _ (match Builtin.Slice.sliceAdjust lo hi 1 (n:Int) with|(lo,hi)=>pure (lo,(1:Int),Builtin.Slice.slicePlaces lo hi 1)) _ _ s
 rw[zg8 lo hi n];show wpAny _ _ (pure (((sIx n 0 lo:Nat):Int),(1:Int),Builtin.Slice.slicePlaces ((sIx n 0 lo:Nat):Int) ((sIx n n hi:Nat):Int) 1)) _ _ s;rw[zg9];exact wpAny_pure h
theorem zjp(xs:Array Value)(i k:Nat):((List.range k).filterMap λ(m:Nat)=>xs[((i:Int)+(m:Int)*1).toNat]?).toArray=((xs.toList.drop i).take k).toArray:=by
 have e:(λ(m:Nat)=>xs[((i:Int)+(m:Int)*1).toNat]?)=λm=>xs[i+m]?:=by
  funext m;have:((i:Int)+(m:Int)*1).toNat=i+m:=by omega
  rw[this]
 rw[e];have:=pick_run xs i k;rw[List.filterMap_map] at this;have B:((λx=>xs[x]?)∘λx=>i+x)=λm=>xs[i+m]?:=rfl;rw[B] at this;rw[this]
theorem getItem_tuple_cut{t G:Addr}{B:Array Value}{I J0:Value}{lo hi:Option Int}{Q:Value->Shared->Prop}(D:IsTup s.heap t B)(L:s.heap.IsSliceOf G I J0 .none)(pl:IsPart I lo)(M:IsPart J0 hi)(hw:¬(sIx B.size 0 lo=0/\sIx B.size B.size hi=B.size))(h:Q (.ref s.heap.objs.size) { s with heap:=s.heap.push { cls:=.type "tuple",data:=.seq ((B.toList.drop (sIx B.size 0 lo)).take (sIx B.size B.size hi-sIx B.size 0 lo)).toArray } })(hsz:B.size<=sizeLine):wpAny (model prog w) A (getItem (.ref t) (.ref G)) Q E s:=by
 have F:sizeOk (.seq ((B.toList.drop (sIx B.size 0 lo)).take (sIx B.size B.size hi-sIx B.size 0 lo)).toArray):=by
  show ((B.toList.drop (sIx B.size 0 lo)).take (sIx B.size B.size hi-sIx B.size 0 lo)).toArray.size<=sizeLine;rw[List.size_toArray,List.length_take,List.length_drop,Array.length_toList];omega
 have V:sIx B.size B.size hi<=B.size:=sIx_le _ _ (Nat.le_refl _) hi;obtain⟨os,O,R,W⟩:=id L;have S:s.TypeIs (.ref G) "slice":=⟨os,O,R⟩;unfold getItem
 try with_reducible refine wpAny_holding ?_
 first|refine wpAny_bind (wpAny_pure ?_)|skip
 refine wpAny_bind (wpAny_sequenceKey D.typeIs (by decide) ?_);refine wpAny_bind (wpAny_callSpecial?_slot (name:=Str.ofString "__getitem__") D.typeIs PyProof.Rows.slot_tuple_getitem
  (wpAny_call_entry PyProof.Rows.slot_tuple_getitem D.typeIs entry_tuple_getitem ?_ (args_tuple_getitem _ _)))
 show wpAny _ _ (Builtin.Tuple.tupleItemsOf (.ref t) >>= _) _ _ s;refine wpAny_bind (tupleItemsOf_ D ?_);refine wpAny_bind (wpAny_typeOf S ?_);rw[if_pos (by decide)];refine wpAny_bind (zdh L pl M ?_);have U:¬((((sIx B.size 0 lo:Nat):Int)==0&&(1:Int)==1&&(sIx B.size B.size hi-sIx B.size 0 lo)==B.size)=true):=by
  intro q;rw[Bool.and_eq_true,Bool.and_eq_true] at q;have q1:((sIx B.size 0 lo:Nat):Int)=0:=eq_of_beq q.1.1;have Y:sIx B.size B.size hi-sIx B.size 0 lo=B.size:=eq_of_beq q.2;exact hw ⟨by omega,by omega⟩
 show wpAny _ _ (if (((sIx B.size 0 lo:Nat):Int)==0&&(1:Int)==1&&(sIx B.size B.size hi-sIx B.size 0 lo)==B.size)=true then _ else _) _ _ s;rw[if_neg U,zjp]
 first
  |exact wpAny_bind (m:=Builtin.Tuple.tupleExact _) (wpAny_newObj_type (wpAny_pure ⟨_,J,wpAny_pure h⟩) F)
  |exact wpAny_bind (m:=Builtin.Tuple.tupleExact _) (wpAny_newObj_type (wpAny_bind (wpAny_pure (wpAny_pure ⟨_,J,wpAny_pure h⟩))) F)
  |exact wpAny_bind (wpAny_bind (m:=Builtin.Tuple.tupleExact _) (wpAny_newObj_type (wpAny_pure (wpAny_pure ⟨_,J,wpAny_pure h⟩)) F))
  |exact wpAny_bind (wpAny_bind (m:=Builtin.Tuple.tupleExact _) (wpAny_newObj_type (wpAny_pure ⟨_,J,wpAny_pure h⟩) F))
end
end HT
namespace L2
open PySem PySem.Spec PyProof.Rows
noncomputable abbrev TO:=St->Hp->(Option Int->Hp->Prop)->Prop
noncomputable def PO(X:Cx)(e:Option Expr)(t:TO):Prop:=
 ∀(pins:List (Addr×Obj)) (s:Shared) (σ:St) (H:Hp) (Q:Option Int->Hp->Prop),Inv X pins σ H s->t σ H Q ->
  wpAny (model X.prog X.w) X.A (evalPart e X.env) (λu s'=>∃o H',Inv X pins σ H' s'/\IsPart u o/\Q o H') X.xe s
noncomputable def zkJ:TO:=λ_ H Q=>Q none H
noncomputable def tPart(t:TE):TO:=λσ H Q=>t σ H λx H1=>∃i,x=.int i/\Q (some i) H1
theorem zha{B:List Int}:∀ {us:List Value},Vals (B.map V.int) us->IntsAre us B:=by
 induction B with
 |nil=>intro us r;rw[List.map_nil] at r;cases r;exact .nil
 |cons n B D=>
  intro us r;rw[List.map_cons] at r;cases r with
  |cons F G=>
   obtain⟨t,e⟩:=F;subst e;exact .cons n t (D G)
section
variable {X:Cx}{e:Expr}{te:TE}{lo hi:Option Expr}{tl th:TO}{pos p2:Pos}
theorem zaL:PO X none zkJ:=by
 intro pins s σ H Q B h;rw[evalPart_none];exact wpAny_pure ⟨none,H,B,.none,h⟩
theorem zaD(h:PE X e te):PO X (some e) (tPart te):=by
 intro pins s σ H Q B hw;rw[evalPart_some];refine thn (h pins s σ H _ B hw) λu I D=>?_;obtain⟨x,H1,F,G,q1⟩:=D;obtain⟨i,rfl,q⟩:=q1;obtain⟨t,rfl⟩:=G;exact⟨some i,H1,F,.int i t,q⟩
noncomputable def SlR(X:Cx)(r:V->Option Int->Option Int->Hp->VK->Prop):Prop:=
 ∀(pins:List (Addr×Obj)) (s:Shared) (σ:St) (H:Hp) (x:V) (v B D:Value) (lo hi:Option Int) (F:Addr) (Q:VK),Inv X pins σ H s->RelV x v->s.heap.IsSliceOf F B D .none->IsPart B lo->IsPart D hi->r x lo hi H Q ->
  ∃T id,typeLookup (.type T) "__getitem__"=pure (some (.builtin id))/\s.TypeIs v T/\wpAny (model X.prog X.w) X.A (getItem v (.ref F)) (EP X pins σ Q) X.xe s
noncomputable def tSl(r:V->Option Int->Option Int->Hp->VK->Prop)(te:TE)(tl th:TO):TE:=λσ H Q=>te σ H λx H1=>tl σ H1 λl H2=>th σ H2 λu B=>r x l u B Q
theorem zaA{r:V->Option Int->Option Int->Hp->VK->Prop}(J0:SlR X r)(L:PE X e te)(M:PO X lo tl)(O:PO X hi th):PE X (.Subscript e (.Slice lo hi none p2) pos) (tSl r te tl th):=by
 intro pins s σ H Q R h;refine Subscript_ (thn (L pins s σ H _ R h) λv S G=>?_);obtain⟨x,H1,U,W,q1⟩:=G;refine wpAny_Slice (thn (M pins S σ H1 _ U q1) λD Y G=>?_);obtain⟨l,H2,Z,pl,aa⟩:=G;refine thn (O pins Y σ H2 _ Z aa) λF B ab=>?_;obtain⟨u,I,ac,ad,ae⟩:=ab;rw[evalPart_none];refine wpAny_pure ?_;have af:Inv X pins σ I { B with heap:=B.heap.push { cls:=.type "slice",data:=.fields #[D,F,.none] } }:=ac.kept (t':=B.toks) λb aj q=>Heap.get?_push_of_some _ q;obtain⟨T,id,ag,ah,ai⟩:=J0 pins { B with heap:=B.heap.push { cls:=.type "slice",data:=.fields #[D,F,.none] } } σ I x v D F l u B.heap.objs.size Q af W (Heap.IsSliceOf.new ..) pl ad ae;show wpAny (model X.prog X.w) X.A (subscriptTail e (.Slice lo hi none p2) v (.ref B.heap.objs.size)) (EP X pins σ Q) X.xe { B with heap:=B.heap.push { cls:=.type "slice",data:=.fields #[D,F,.none] } };exact tail_any (ops:=[.ref B.heap.objs.size,v]) ah ag ai (by with_unfolding_all rfl)
noncomputable def cutV(xs:List V)(lo hi:Option Int):List V:=(xs.drop (HT.sIx xs.length 0 lo)).take (HT.sIx xs.length xs.length hi-HT.sIx xs.length 0 lo)
theorem zdJ(xs:List V)(lo hi:Option Int):(cutV xs lo hi).length<=xs.length:=by
 unfold cutV;rw[List.length_take,List.length_drop];omega
noncomputable def rSlT(K:W.Frag):V->Option Int->Option Int->Hp->VK->Prop:=λx lo hi H Q=>∃a xs,x=.ref a/\SqT K H a xs /\
 ¬(HT.sIx xs.length 0 lo=0/\HT.sIx xs.length xs.length hi=xs.length)/\∀p,H p=none->Q (.ref p) (upd H p (.tup (cutV xs lo hi)))
theorem zki:SlR X (rSlT X.K):=by
 intro pins s σ H x v O R lo hi S Q B I J0 pl L h;obtain⟨a,xs,rfl,M,hw,q⟩:=h;cases I;obtain⟨its,r,F,G⟩:=B.tuple M;have D:its.toArray.size=xs.length:=by rw[List.size_toArray];exact r.length.symm
 refine⟨"tuple",_,PyProof.Rows.slot_tuple_getitem.lookup,F.typeIs,?_⟩;refine HT.getItem_tuple_cut F J0 pl L (by rw[D];exact hw) ?_ (by rw[D];exact G);rw[D];refine⟨.ref s.heap.objs.size,_,B.laid (t':=s.toks) (o:=.tup (cutV xs lo hi)) (λb U q=>Heap.get?_push_of_some _ q) (Nat.le_refl _) ?_,J,q _ (B.hok.fresh (Nat.le_refl _))⟩;exact⟨Nat.le_trans (zdJ xs lo hi) G,_,(r.drop (HT.sIx xs.length 0 lo)).take (HT.sIx xs.length xs.length hi-HT.sIx xs.length 0 lo),IsTup.new _ _⟩
end
noncomputable def ixN(n:Nat)(i:Int):Option Nat:=if 0<=i then (if i<n then some i.toNat else none) else if -(n:Int)<=i then some (i+n).toNat else none
noncomputable def atI{B:Type}(xs:List B)(i:Int):Option B:=(ixN xs.length i).bind λj=>xs[j]?
theorem zhW{n:Nat}{i:Int}{j:Nat}(h:ixN n i=some j):seqIndex? i n=some j/\j<n/\-(n:Int)<=i/\i<n:=by
 unfold ixN at h;by_cases B:0<=i
 .rw[if_pos B] at h;by_cases h1:i<n
  .rw[if_pos h1] at h;have e:i.toNat=j:=Option.some.inj h;exact⟨by rw[seqIndex_of B h1,e],by omega,by omega,h1⟩
  .rw[if_neg h1] at h;cases h
 .rw[if_neg B] at h;by_cases h1:-(n:Int)<=i
  .rw[if_pos h1] at h;have e:(i+n).toNat=j:=Option.some.inj h;exact⟨by rw[seqIndex_neg (by omega) h1,e],by omega,h1,by omega⟩
  .rw[if_neg h1] at h;cases h
theorem zfU{B:Type}{xs:List B}{i:Int}{v:B}(h:atI xs i=some v):∃j,seqIndex? i xs.length=some j/\xs[j]?=some v/\j<xs.length/\-(xs.length:Int)<=i/\i<xs.length:=by
 unfold atI at h;cases e:ixN xs.length i with
 |none=>rw[e] at h;cases h
 |some j=>
  rw[e] at h;obtain⟨h1,h2,D,F⟩:=zhW e;exact⟨j,h1,h,h2,D,F⟩
theorem zal{B:Type}{xs:List B}{j:Nat}{v:B}(h:xs[j]?=some v):atI xs (j:Int)=some v:=by
 have D:j<xs.length:=(List.getElem?_eq_some_iff.mp h).1;have e:ixN xs.length (j:Int)=some j:=by
  unfold ixN;rw[if_pos (by omega),if_pos (by omega)];simp
 unfold atI;rw[e];exact h
theorem zjq{B:Type}(xs:List B)(v:B):atI (xs++[v]) (-1)=some v:=by
 have D:(xs++[v]).length=xs.length+1:=by simp
 have e:ixN (xs++[v]).length (-1)=some xs.length:=by
  unfold ixN;rw[D,if_neg (by decide),if_pos (by omega)];congr 1;omega
 unfold atI;rw[e];show (xs++[v])[xs.length]?=some v;simp
noncomputable def zkK(b:Expr):Prop:=∀o i,subscripted b false o i=operate [o,i] (getItem o i)
noncomputable def IxR(X:Cx)(r:R2):Prop:=
 ∀(value B:Expr) (pins:List (Addr×Obj)) (s:Shared) (σ:St) (H:Hp) (x y:V) (v u:Value) (Q:VK),Inv X pins σ H s->RelV x v->RelV y u->r x y H Q ->
  subscripted B false v u=operate [v,u] (getItem v u)->wpAny (model X.prog X.w) X.A (subscriptTail value B v u) (EP X pins σ Q) X.xe s
noncomputable def MtR(X:Cx)(id:String)(r:V->List V->Hp->VK->Prop):Prop:=
 ∀(pins:List (Addr×Obj)) (s:Shared) (σ:St) (H:Hp) (x:V) (xs:List V) (v:Value) (us:List Value) (Q:VK),Inv X pins σ H s->RelV x v->Vals xs us->r x xs H Q ->
  wpAny (model X.prog X.w) X.A (call (.builtin id) (v::us)) (EP X pins σ Q) X.xe s
section
variable {X:Cx}{a b:Expr}{ta tb:TE}{pos:Pos}
theorem zay{r:R2}(B:IxR X r)(D:PE X a ta)(F:PE X b tb)(G:zkK b):PE X (.Subscript a b pos) (tOp r ta tb):=by
 intro pins s σ H Q I h;exact Subscript_ (binT D F I h λv u J0 x y H2 L M O q=>B a b pins J0 σ H2 x y v u Q L M O q (G _ _))
noncomputable def rIxL(K:W.Frag):R2:=λx y H Q=>∃p xs i v,x=.ref p/\y=.int i/\SqL K H p xs/\atI xs i=some v/\Q v H
noncomputable def rIxT(K:W.Frag):R2:=λx y H Q=>∃p xs i v,x=.ref p/\y=.int i/\SqT K H p xs/\atI xs i=some v/\Q v H
noncomputable def rIxS:R2:=λx y H Q=>∃z i c,x=.str z/\y=.int i/\z.length<=sizeLine/\atI z.cps.toList i=some c/\Q (.str ⟨#[c]⟩) H
theorem zaB:IxR X (rIxL X.K):=by
 intro value Y pins s σ H x y v u Q D L M h F;obtain⟨p,xs,i,z,rfl,rfl,O,R,q⟩:=h;cases L;obtain⟨t,rfl⟩:=M;obtain⟨its,r,pl,Z⟩:=D.list O;obtain⟨j,h1,h2,aa,S,U⟩:=zfU R;obtain⟨w,G,V⟩:=r.get h2;have W:=r.length;have ab:=zcG;have I:EP X pins σ Q w s:=⟨z,H,D,V,q⟩;by_cases J0:0<=i
 .have B:i.toNat=j:=by
   rw[seqIndex_of J0 U] at h1;exact Option.some.inj h1
  exact item_listR pl.isList J0 (by omega) (by rw[B];simpa using G) I F
 .have B:(i+(its.toArray.size:Int)).toNat=j:=by
   rw[seqIndex_neg (by omega) S] at h1;rw[List.size_toArray,←W];exact Option.some.inj h1
  exact subscriptTail_builtinR (x:=w) pl.isList.typeIs slot_list_getitem.lookup
   (wpAny_getItem_list_neg (Q:=λr s'=>r=w/\EP X pins σ Q r s') pl.isList (by omega) (by rw[List.size_toArray]<;>omega) (by omega) (by rw[B];simpa using G) ⟨J,I⟩) F
theorem zaE:IxR X (rIxT X.K):=by
 intro value S pins s σ H x y v u Q B D F h G;obtain⟨p,xs,i,z,rfl,rfl,I,J0,q⟩:=h;cases D;obtain⟨t,rfl⟩:=F;obtain⟨its,r,pl,U⟩:=B.tuple I;obtain⟨j,h1,h2,V,W,Y⟩:=zfU J0;obtain⟨w,L,M⟩:=r.get h2;have O:=r.length;have Z:=zcG;have R:EP X pins σ Q w s:=⟨z,H,B,M,q⟩;exact subscriptTail_builtinR (x:=w) pl.typeIs slot_tuple_getitem.lookup
  (getItem_tuple (j:=j) (Q:=λr s'=>r=w/\EP X pins σ Q r s') pl (by omega) (by omega) (by rw[List.size_toArray,←O];exact h1) (by simpa using L) ⟨J,R⟩) G
theorem zkj:IxR X rIxS:=by
 intro value S pins s σ H x y v u Q B D F h G;obtain⟨z,i,c,rfl,rfl,U,I,q⟩:=h;obtain⟨t,rfl⟩:=D;obtain⟨t',rfl⟩:=F;obtain⟨j,h1,h2,V,J0,L⟩:=zfU I;have M:z.cps.toList.length=z.length:=by simp[Str.length]
 rw[M] at h1 J0 L;have W:=zcG;exact tail_any (typeIs_str s z t) slot_str_getitem.lookup (getItem_str (c:=c) (by
  have O:decide (i < -(2 ^ 63:Int))=false:=decide_eq_false (by omega);have R:decide (i ≥ 2 ^ 63)=false:=decide_eq_false (by omega);rw[O,R,Bool.or_false]) (by rw[h1];simpa using h2) ⟨.str ⟨#[c]⟩,H,B.tok _,⟨_,J⟩,q⟩) G
theorem zhb(its:List Value)(n j:Nat)(u:Value):Obj.mapSeq (·.setIfInBounds j u) { cls:=.type "list",data:=.seq its.toArray n }={ cls:=.type "list",data:=.seq (its.set j u).toArray n }:=by
 simp[Obj.mapSeq]
theorem Inv.lst{pins:List (Addr×Obj)}{σ:St}{H:Hp}{s:Shared}{p:Addr}{xs:List V}(B:Inv X pins σ H s)(h:H p=some (.lst xs)) :
  ∃(its:List Value) (n:Nat),Vals xs its/\s.heap.get? p=some { cls:=.type "list",data:=.seq its.toArray n }/\xs.length<=sizeLine:=by
 obtain⟨z,its,n,r,e⟩:=B.hok p _ h;exact⟨its,n,r,e,z⟩
theorem Inv.lstUpd{pins:List (Addr×Obj)}{σ:St}{H:Hp}{s:Shared}{p:Addr}{xs ys:List V}{its its':List Value}{n B:Nat}{f:Obj->Obj}(F:Inv X pins σ H s)(h:H p=some (.lst xs))(G:s.heap.get? p=some { cls:=.type "list",data:=.seq its.toArray n })(D:f { cls:=.type "list",data:=.seq its.toArray n }={ cls:=.type "list",data:=.seq its'.toArray B })(r:Vals ys its')(I:ys.length<=sizeLine)(t:Nat) :
  Inv X pins σ (upd H p (.lst ys)) { s with heap:=s.heap.update p f,toks:=t }:=by
 have e:(s.heap.update p f).get? p=some { cls:=.type "list",data:=.seq its'.toArray B }:=by
  rw[Heap.get?_update_self f G (by rw[D]<;>rfl),D]
 refine F.write (x:=p) (e:=p) (by rw[h];trivial) (.inl J) (λb u J0 q=>(Heap.get?_update_other _ _ (Ne.symm J0)).trans q) ⟨_,e⟩ ?_;exact⟨I,its',B,r,e⟩
noncomputable def rSetL:V->V->V->Hp->(Hp->Prop)->Prop:=λo i v H Q=>∃p xs k j,o=.ref p/\i=.int k/\H p=some (.lst xs)/\ixN xs.length k=some j/\Q (upd H p (.lst (xs.set j v)))
theorem zgr:PSet X rSetL:=by
 intro pins s σ H o i v Z aa u Q G R S U h;obtain⟨p,xs,k,j,rfl,rfl,I,V,q⟩:=h;cases R;obtain⟨t,rfl⟩:=S;obtain⟨its,n,r,B,Y⟩:=G.lst I;obtain⟨h1,h2,J0,L⟩:=zhW V;have D:=r.length;have ab:=zcG;have M:Inv X pins σ (upd H p (.lst (xs.set j v))) { s with heap:=s.heap.update p (Obj.mapSeq (·.setIfInBounds j u)) }:=
  G.lstUpd I B (zhb its n j u) (r.set U j) (by rw[List.length_set];exact Y) s.toks
 by_cases O:0<=k
 .have F:k.toNat=j:=by
   rw[seqIndex_of O L] at h1;exact Option.some.inj h1
  exact W.ki_setAt B O (by omega) (by rw[List.size_toArray,←D];exact L) (by rw[F];exact⟨_,M,q⟩)
 .have F:(k+(its.toArray.size:Int)).toNat=j:=by
   rw[seqIndex_neg (by omega) J0] at h1;rw[List.size_toArray,←D];exact Option.some.inj h1
  exact W.ki_setBack B (by omega) (by rw[List.size_toArray,←D];exact J0) (by omega) (by rw[F];exact⟨_,M,q⟩)
theorem zfl(lo hi:Option Int)(n:Nat):(sliceBounds lo hi none n).1=((HT.sIx n 0 lo:Nat):Int)/\(sliceBounds lo hi none n).2.1=((HT.sIx n n hi:Nat):Int)/\(sliceBounds lo hi none n).2.2=1:=by
 refine⟨?_,?_,J⟩
 .cases lo with
  |none=>simp[sliceBounds,HT.sIx]
  |some i=>
   simp only[sliceBounds,HT.sIx,Option.getD_none,show (1:Int)>0 by decide,if_true];by_cases h:i<0
   .simp only[h,if_true]<;>omega
   .simp only[h,if_false]<;>omega
 .cases hi with
  |none=>simp[sliceBounds,HT.sIx]
  |some i=>
   simp only[sliceBounds,HT.sIx,Option.getD_none,show (1:Int)>0 by decide,if_true];by_cases h:i<0
   .simp only[h,if_true]<;>omega
   .simp only[h,if_false]<;>omega
theorem zes(its:List Value)(lo hi:Option Int):slicePick its.toArray lo hi none=((its.drop (HT.sIx its.length 0 lo)).take (HT.sIx its.length its.length hi-HT.sIx its.length 0 lo)).toArray:=by
 obtain⟨h1,h2,B⟩:=zfl lo hi its.toArray.size;unfold slicePick;rw[h1,h2,B];simp only[sliceRange_one,pick_run,List.size_toArray]<;>rfl
noncomputable def rSlL(K:W.Frag):V->Option Int->Option Int->Hp->VK->Prop:=λx lo hi H Q=>∃a xs,x=.ref a/\SqL K H a xs/\∀p,H p=none->Q (.ref p) (upd H p (.lst (cutV xs lo hi)))
theorem zbQ:SlR X (rSlL X.K):=by
 intro pins s σ H x v O R lo hi S Q B F G pl I h;obtain⟨a,xs,rfl,J0,q⟩:=h;cases F;obtain⟨its,r,D,L⟩:=B.list J0;have M:=r.length;refine⟨"list",_,slot_list_getitem.lookup,D.isList.typeIs,?_⟩;refine wpAny_getItem_list_slice D.isList G pl I .none (by simp) ?_ (by rw[List.size_toArray]<;>omega);rw[zes,←M];refine⟨.ref s.heap.objs.size,_,B.laid (t':=s.toks) (o:=.lst (cutV xs lo hi)) (λb U q=>Heap.get?_push_of_some _ q) (Nat.le_refl _) ?_,J,q _ (B.hok.fresh (Nat.le_refl _))⟩;exact⟨Nat.le_trans (zdJ xs lo hi) L,_,0,(r.drop (HT.sIx xs.length 0 lo)).take (HT.sIx xs.length xs.length hi-HT.sIx xs.length 0 lo),Heap.get?_push_size _ J⟩
theorem zaF:CallR X (.builtin "len") (λxs H Q=>∃p ys,xs=[.ref p]/\(SqL X.K H p ys∨SqT X.K H p ys)/\Q (.int ys.length) H):=by
 intro pins s σ H xs us Q B r h;obtain⟨p,ys,rfl,hq,q⟩:=h;obtain⟨u,rfl,G⟩:=vals1 r;cases G;have J0:=zcG;rcases hq with hq|hq
 .obtain⟨its,D,pl,I⟩:=B.list hq;have F:=D.length;exact Calls.call_len_list pl.isList (by simp only[List.size_toArray]<;>omega) ⟨.int ys.length,H,B.tok _,⟨s.toks+1,by rw[List.size_toArray,F]⟩,q⟩
 .obtain⟨its,D,pl,I⟩:=B.tuple hq;have F:=D.length;exact len_tuple pl (by simp only[List.size_toArray]<;>omega) ⟨.int ys.length,H,B.tok _,⟨s.toks+1,by rw[List.size_toArray,F]⟩,q⟩
theorem zap:CallR X (.builtin "len") (λxs H Q=>∃z,xs=[.str z]/\z.length<=sizeLine/\Q (.int z.length) H):=by
 intro pins s σ H xs us Q B r h;obtain⟨z,rfl,D,q⟩:=h;obtain⟨u,rfl,t,rfl⟩:=vals1 r;have F:=zcG;exact len_str (by omega) ⟨.int z.length,H,B.tok _,⟨_,J⟩,q⟩
theorem zca:CallR X (.type "list") (λxs H Q=>∃p ys,xs=[.ref p]/\(SqL X.K H p ys∨SqT X.K H p ys)/\∀l,H l=none->Q (.ref l) (upd H l (.lst ys))):=by
 intro pins s σ H xs us Q I r h;obtain⟨p,ys,rfl,hq,q⟩:=h;obtain⟨u,rfl,R⟩:=vals1 r;cases R;have O:∀(its:List Value),Vals ys its->ys.length<=sizeLine->∀(h':Heap) (B:Nat),(∀b o',s.heap.get? b=some o'->h'.get? b=some o') ->
   h'.get? s.heap.objs.size=some { cls:=.type "list",dict:=none,data:=.seq its.toArray B,slots:=#[] }->EP X pins σ Q (.ref s.heap.objs.size) { s with heap:=h' }:=λits D F h' B G e=>
  ⟨.ref s.heap.objs.size,_,I.laid (t':=s.toks) G (Nat.le_refl _) (show ObjOk X.prog X.w _ h' _ (.lst ys) from ⟨F,its,B,D,e⟩),J,q _ (I.hok.fresh (Nat.le_refl _))⟩
 rcases hq with hq|hq
 .obtain⟨its,D,pl,F⟩:=I.list hq;have S:=D.length;obtain⟨o,J0,L,n,M⟩:=pl.isList;exact call_list_seq p (.inl J) J0 L M (λh' B G e=>O its D F h' B G e) (by simp only[List.size_toArray]<;>omega)
 .obtain⟨its,D,pl,F⟩:=I.tuple hq;have S:=D.length;obtain⟨o,J0,L,n,M⟩:=pl;exact call_list_seq p (.inr J) J0 L M (λh' B G e=>O its D F h' B G e) (by simp only[List.size_toArray]<;>omega)
theorem zbD:CallR X (.type "tuple") (λxs H Q=>∃p ys,xs=[.ref p]/\((SqL X.K H p ys/\∀l,H l=none->Q (.ref l) (upd H l (.tup ys)))∨(SqT X.K H p ys/\Q (.ref p) H))):=by
 intro pins s σ H xs us Q B r h;obtain⟨p,ys,rfl,h⟩:=h;obtain⟨u,rfl,J0⟩:=vals1 r;cases J0;rcases h with⟨D,q⟩|⟨D,q⟩
 .obtain⟨its,F,pl,G⟩:=B.list D;have O:=F.length;refine call_tuple_list pl.isList (λh' L=>?_) (by simp only[List.size_toArray]<;>omega);have I:Inv X pins σ H { s with heap:=h' }:=B.kept (t':=s.toks) L;have M:Inv X pins σ (upd H h'.objs.size (.tup ys)) { s with heap:=h'.push { cls:=.type "tuple",data:=.seq its.toArray } }:=
   I.laid (t':=s.toks) (λb o e=>Heap.get?_push_of_some _ e) (Nat.le_refl _) (show ObjOk X.prog X.w _ _ _ (.tup ys) from ⟨G,its,F,IsTup.new _ _⟩)
  exact⟨.ref h'.objs.size,_,M,J,q _ (I.hok.fresh (Nat.le_refl _))⟩
 .obtain⟨its,F,pl,G⟩:=B.tuple D;exact call_tuple_same pl ⟨.ref p,H,B,J,q⟩
noncomputable def tyV(K:W.Frag)(T:String)(x:V)(H:Hp):Prop:=match x with
 |.str _=>T="str"
 |.int _=>T="int"
 |.ref p=>(T="list"/\∃xs,SqL K H p xs)∨(T="tuple"/\∃o,K.lookup p=some o/\o.cls=.type "tuple"/\o.dict=none) ∨
   (T="dict"/\((∃kvs,H p=some (.dK kvs))∨∃kvs,H p=some (.dT kvs)))∨(T="set"/\∃S n,H p=some (.set S n))
 |_=>False
theorem zkk{pins:List (Addr×Obj)}{σ:St}{H:Hp}{s:Shared}{T:String}{x:V}{v:Value}(D:Inv X pins σ H s)(r:RelV x v)(ty:tyV X.K T x H) :
  s.TypeIs v T/\∀a,v=.ref a->∃I,s.heap.get? a=some I/\I.dict=none:=by
 cases x with
 |str z=>
  obtain⟨t,rfl⟩:=r;cases (show T="str" from ty);exact⟨typeIs_str s z t,λ_ e=>nomatch e⟩
 |int i=>
  obtain⟨t,rfl⟩:=r;cases (show T="int" from ty);exact⟨typeIs_int s i t,λ_ e=>nomatch e⟩
 |ref p=>
  cases r;rcases ty with⟨rfl,xs,J0⟩|⟨rfl,o,B,L,F⟩|⟨rfl,B⟩|⟨rfl,S,n,B⟩
  .obtain⟨its,_,pl,_⟩:=D.list J0;refine⟨pl.isList.typeIs,λa e=>?_⟩;cases e;obtain⟨o,n,e,c,F,_⟩:=pl;exact⟨o,e,F⟩
  .refine⟨⟨o,D.kIn p o B,L⟩,λa e=>?_⟩;cases e;exact⟨o,D.kIn _ o B,F⟩
  .have z:∃o,s.heap.get? p=some o/\o.ExactDict:=by
    rcases B with⟨kvs,B⟩|⟨kvs,B⟩
    .obtain⟨_,_,_,_,o,_,_,e,ex,_⟩:=D.hok p _ B;exact⟨o,e,ex⟩
    .obtain⟨_,_,_,_,o,_,_,e,ex,_⟩:=D.hok p _ B;exact⟨o,e,ex⟩
   obtain⟨o,e,ex⟩:=z;refine⟨⟨o,e,ex.1⟩,λa G=>?_⟩;cases G;exact⟨o,e,ex.2.1⟩
  .obtain⟨o,_,_,_,e,ex,_⟩:=D.hok p _ B;refine⟨⟨o,e,ex.1⟩,λa G=>?_⟩;cases G;exact⟨o,e,ex.2.1⟩
 |_=>exact False.elim ty
noncomputable def tBM0(K:W.Frag)(T:String)(r:V->List V->Hp->VK->Prop)(to:TE):TE:=λσ H Q=>to σ H λx H1=>tyV K T x H1/\r x [] H1 Q
noncomputable def tBM(K:W.Frag)(T:String)(r:V->List V->Hp->VK->Prop)(to:TE)(t:TA):TE:=λσ H Q=>to σ H λx H1=>tyV K T x H1/\t σ H1 λxs H2=>r x xs H2 Q
variable {o e:Expr}{es:List Expr}{to:TE}{t:TA}{name:Str}{apos cpos:Pos}{T id:String}{r:V->List V->Hp->VK->Prop}
theorem zgs(F:PlainAttrs T)(slot:Slot T name id)(G:typeOf (.builtin id)=pure (.type "method_descriptor"))(I:MtR X id r)(J0:PE X o to)(L:attributeBase o name X.env (eval o X.env)=eval o X.env:=by rfl)(M:(apos.endLine==cpos.line)=true:=by rfl):PE X (.Call (.Attribute o name apos) [] [] cpos) (tBM0 X.K T r to):=by
 intro pins s σ H Q O h;refine wpAny_Call_method0_late L M (thn (J0 pins s σ H _ O h) λv R S=>?_);obtain⟨x,H1,B,D,ty,q1⟩:=S;obtain⟨h1,h2⟩:=zkk B D ty;exact⟨T,id,F,slot,G,h1,h2,Calls.callWith_builtin J (PySem.evalArgs_none (I pins R σ H1 x [] v [] Q B D .nil q1))⟩
theorem zbL(I:PlainAttrs T)(slot:Slot T name id)(J0:typeOf (.builtin id)=pure (.type "method_descriptor"))(L:MtR X id r)(M:PE X o to)(O:PA X (e::es) t)(R:attributeBase o name X.env (eval o X.env)=eval o X.env:=by rfl)(S:((backTo cpos (starEach (e::es) X.env)).all (λx=>!x.1)&&(backToKw cpos (keywordEach [] X.env)).all (λx=>x.1.isSome)
   && decide ((e::es).length+([]:List Keyword).length+(if ([]:List Keyword).isEmpty then 0 else 1)<30))=true:=by rfl)(U:(apos.endLine==cpos.line)=true:=by rfl)(V:starEach (e::es) X.env=(false,eval e X.env)::starEach es X.env:=by rfl)(W:(backTo cpos (starEach es X.env)).any (·.1)=false:=by rfl) :
  PE X (.Call (.Attribute o name apos) (e::es) [] cpos) (tBM X.K T r to t):=by
 intro pins s σ H Q Y h;refine wpAny_Call_method_late R S U rfl (thn (M pins s σ H _ Y h) λv Z B=>?_);obtain⟨x,H1,D,F,ty,q1⟩:=B;obtain⟨h1,h2⟩:=zkk D F ty;refine⟨T,id,I,slot,J0,h1,h2,?_⟩;have G:=O cpos pins Z σ H1 _ D q1;rw[V] at G ⊢;refine Calls.callWith_builtin (by show (false || (backTo cpos (starEach es X.env)).any (·.1))=false;rw[W]<;>rfl) (Calls.evalArgs_plain ?_);refine thn G λus aa B=>?_;obtain⟨vs,H2,ab,ac,ad⟩:=B;exact L pins aa σ H2 x vs v us Q ab F ac ad
end
noncomputable def MtM(X:Cx)(id:String)(r:V->List V->Hp->VK->Prop):Prop:=
 ∀(pins:List (Addr×Obj)) (s:Shared) (σ:St) (H:Hp) (x:V) (xs:List V) (v:Value) (us:List Value) (Q:VK),Inv X pins σ H s->RelV x v->Vals xs us->r x xs H Q ->
  wpAny (model X.prog X.w) X.A (call (.builtin id) (v::us)) (EP X pins σ Q) X.xe s
theorem Vals.unc{x:V}{xs:List V}{us:List Value}(h:Vals (x::xs) us):∃u r,us=u::r/\RelV x u/\Vals xs r:=by
 cases h with
 |cons r q=>exact⟨_,_,J,r,q⟩
theorem Vals.emp{us:List Value}(h:Vals [] us):us=[]:=by
 cases h;rfl
theorem Vals.one{x:V}{us:List Value}(h:Vals [x] us):∃u,us=[u]/\RelV x u:=by
 obtain⟨u,r,e,h1,h2⟩:=h.unc;exact⟨u,by rw[e,h2.emp],h1⟩
theorem Vals.two{x y:V}{us:List Value}(h:Vals [x,y] us):∃u v,us=[u,v]/\RelV x u/\RelV y v:=by
 obtain⟨u,r,e,h1,h2⟩:=h.unc;obtain⟨v,B,D⟩:=h2.one;exact⟨u,v,by rw[e,B],h1,D⟩
theorem Vals.zero:∀ {us:List Value},Vals [] us->us=[]
 |_,.nil=>rfl
theorem Vals.dropLast{xs:List V}{us:List Value}(h:Vals xs us):Vals xs.dropLast us.dropLast:=by
 induction h with
 |nil=>exact .nil
 |cons r t B=>
  cases t with
  |nil=>exact .nil
  |cons q t'=>exact .cons r B
theorem Vals.reverse{xs:List V}{us:List Value}(h:Vals xs us):Vals xs.reverse us.reverse:=by
 induction h with
 |nil=>exact .nil
 |cons r t B=>rw[List.reverse_cons,List.reverse_cons];exact Vals.append B (.cons r .nil)
theorem zhc{B:Type}(l:List B):l.eraseIdx (l.length-1)=l.dropLast:=by
 induction l with
 |nil=>rfl
 |cons a r D=>
  cases r with
  |nil=>rfl
  |cons b r=>
   have e:(a::b::r).length-1=((b::r).length-1)+1:=by
    have h1:(a::b::r).length=r.length+2:=rfl;have h2:(b::r).length=r.length+1:=rfl;omega
   rw[e,List.eraseIdx_cons_succ,D]
   all_goals rfl
section
variable {X:Cx}{pins:List (Addr×Obj)}{σ:St}{H:Hp}{s:Shared}{l b:Addr}{xs ys zs:List V}
theorem Inv.lset{its its':List Value}{n:Nat}{f:Array Value->Array Value}{t':Nat}(B:Inv X pins σ H s)(D:H l=some (.lst xs))(e:s.heap.get? l=some { cls:=.type "list",data:=.seq its.toArray n })(F:f its.toArray=its'.toArray)(G:Vals ys its')(I:ys.length<=sizeLine) :
  Inv X pins σ (upd H l (.lst ys)) { s with heap:=s.heap.update l (Obj.mapSeq f),toks:=t' }:=by
 have q:=PySem.IsL.update e f;rw[F] at q;refine B.write (x:=l) (e:=l) (by rw[D];exact trivial) (.inl J) (λM u J0 L=>(Heap.get?_update_other s.heap (Obj.mapSeq f) (Ne.symm J0)).trans L) ⟨_,q⟩ ?_;exact⟨I,its',_,G,q⟩
theorem Inv.lnew{its:List Value}{t':Nat}(B:Inv X pins σ H s)(D:Vals ys its)(F:ys.length<=sizeLine) :
  Inv X pins σ (upd H s.heap.objs.size (.lst ys)) { s with heap:=s.heap.push { cls:=.type "list",data:=.seq its.toArray },toks:=t' }:=
 B.laid (λ_ _ q=>Heap.get?_push_of_some _ q) (Nat.le_refl _) ⟨F,its,0,D,Heap.get?_push_size _ J⟩
theorem Inv.fresh(B:Inv X pins σ H s):H s.heap.objs.size=none:=B.hok.fresh (Nat.le_refl _)
theorem Inv.lstM(B:Inv X pins σ H s)(D:H l=some (.lst xs)):xs.length<=sizeLine/\∃(its:List Value) (n:Nat),Vals xs its/\xs.length=its.length/\s.heap.get? l=some { cls:=.type "list",data:=.seq its.toArray n }:=by
 obtain⟨z,its,n,r,e⟩:=B.hok l _ D;exact⟨z,its,n,r,r.length,e⟩
theorem zjr{n:Nat}(h:n<=sizeLine):Builtin.List.listTooLong n=false:=by
 unfold Builtin.List.listTooLong;exact decide_eq_false (by omega)
end
section
variable {X:Cx}
noncomputable def zkL:V->List V->Hp->VK->Prop:=λx vs H Q=>∃l xs y,x=.ref l/\vs=[y]/\H l=some (.lst xs)/\xs.length<sizeLine/\Q .non (upd H l (.lst (xs++[y])))
theorem zaK:MtM X "list.append" zkL:=by
 intro pins s σ H x vs v us Q B G I h;obtain⟨l,xs,y,rfl,rfl,D,L,q⟩:=h;cases G;obtain⟨u,rfl,J0⟩:=I.one;obtain⟨z,its,n,r,M,e⟩:=B.lstM D;refine call_meets F.slot_list_append ⟨_,e,J⟩ F.entry_list_append (F.args_list_append_2 _ _) (PySem.list_append l its.toArray n u (by rw[List.size_toArray];omega)) ⟨e,?_⟩;refine⟨.non,_,B.lset (its':=its++[u]) D e (by simp) (r.append (.cons J0 .nil)) ?_,J,q⟩;rw[List.length_append,List.length_singleton];omega
noncomputable def zkM:V->List V->Hp->VK->Prop:=λx vs H Q=>∃l b xs zs,x=.ref l/\vs=[.ref b]/\H l=some (.lst xs)/\H b=some (.lst zs)/\xs.length+zs.length<=sizeLine/\Q .non (upd H l (.lst (xs++zs)))
theorem zlD:MtM X "list.extend" zkM:=by
 intro pins s σ H x vs v us Q D I J0 h;obtain⟨l,b,xs,zs,rfl,rfl,G,L,U,q⟩:=h;cases I;obtain⟨u,rfl,M⟩:=J0.one;cases M;obtain⟨z,its,n,r,V,e⟩:=D.lstM G;obtain⟨W,B,n2,O,Y,R⟩:=D.lstM L;have hsz:its.toArray.size+B.toArray.size<=sizeLine:=by rw[List.size_toArray,List.size_toArray];omega
 have S:¬(!its.toArray.isEmpty&&Builtin.List.listTooLong (its.toArray.size+B.toArray.size))=true:=by
  rw[zjr hsz,Bool.and_false];exact Bool.false_ne_true
 refine call_meets F.slot_list_extend ⟨_,e,J⟩ F.entry_list_extend (F.args_list_extend_2 _ _)
  (AutoSeq1.list_extend_list_list_0 l its.toArray n b B.toArray n2 S (by rw[List.size_toArray];omega) (by omega)) ⟨e,R,?_⟩
 refine⟨.non,_,D.lset (its':=its++B) G e (by simp) (r.append O) ?_,J,q⟩;rw[List.length_append];omega
noncomputable def rPop:V->List V->Hp->VK->Prop:=λx vs H Q=>∃l xs y,x=.ref l/\vs=[]/\H l=some (.lst xs)/\xs[xs.length-1]?=some y/\Q y (upd H l (.lst xs.dropLast))
theorem zhX:MtM X "list.pop" rPop:=by
 intro pins s σ H x vs v us Q B G I h;obtain⟨l,xs,y,rfl,rfl,D,J0,q⟩:=h;cases G;have L:=I.zero;subst L;obtain⟨z,its,n,r,M,e⟩:=B.lstM D;obtain⟨u,O,R⟩:=r.get J0;have S:its.toArray[its.toArray.size-1]?=some u:=by
  show its.toArray[its.length-1]?=some u;rw[←Array.getElem?_toList,←M];exact O
 refine call_meets F.slot_list_pop ⟨_,e,J⟩ F.entry_list_pop (F.args_list_pop_1 _) (MeetsSeq.list_pop_last l its.toArray n u S (by rw[List.size_toArray];omega)) ⟨e,?_⟩;refine⟨y,_,B.lset (its':=its.dropLast) D e ?_ r.dropLast ?_,R,q⟩
 .show its.toArray.eraseIdxIfInBounds (its.toArray.size-1)=its.dropLast.toArray;rw[List.size_toArray,List.eraseIdxIfInBounds_toArray,zhc]
 .rw[List.length_dropLast];omega
noncomputable def zjs:V->List V->Hp->VK->Prop:=λx vs H Q=>∃l xs,x=.ref l/\vs=[]/\H l=some (.lst xs)/\Q .non (upd H l (.lst xs.reverse))
theorem zhd:MtM X "list.reverse" zjs:=by
 intro pins s σ H x vs v us Q B G I h;obtain⟨l,xs,rfl,rfl,D,q⟩:=h;cases G;have J0:=I.zero;subst J0;obtain⟨z,its,n,r,L,e⟩:=B.lstM D;refine call_meets F.slot_list_reverse ⟨_,e,J⟩ F.entry_list_reverse (F.args_list_reverse_1 _) (AutoSeq1.list_reverse_list_0 l its.toArray n (by rw[List.size_toArray];omega)) ⟨e,?_⟩;refine⟨.non,_,B.lset (its':=its.reverse) D e (by simp) r.reverse ?_,J,q⟩;rw[List.length_reverse];omega
noncomputable def rCat:R2:=λx y H Q=>∃l b xs zs,x=.ref l/\y=.ref b/\H l=some (.lst xs)/\H b=some (.lst zs)/\xs.length+zs.length<=sizeLine/\∀p,H p=none->Q (.ref p) (upd H p (.lst (xs++zs)))
theorem zcI:OpR X (binaryOp .Add) rCat:=by
 intro pins s σ H x y v u Q B F G h;obtain⟨l,b,xs,zs,rfl,rfl,I,J0,R,q⟩:=h;cases F;cases G;obtain⟨z,its,n,r,S,e⟩:=B.lstM I;obtain⟨U,D,n2,L,V,M⟩:=B.lstM J0;refine PySem.P.add_list e M ?_ (by rw[List.size_toArray,List.size_toArray];omega);have O:its.toArray++D.toArray=(its++D).toArray:=by simp
 rw[O];exact⟨.ref _,_,B.lnew (t':=s.toks) (r.append L) (by rw[List.length_append];omega),J,q _ B.fresh⟩
end
section
variable {prog:Program}{w:World}{A:Around}{E:Value->Shared->Prop}{s:Shared}
end
section
variable {X:Cx}
end
end L2
namespace Att
open PySem PySem.W PySem.Calls PyProof.Rows
theorem zdK{P:Params}{h:Heap}:∀(B:List Int) (vs:List Value),WellAll P h vs (B.map WData.int)->IntsAre vs B:=by
 intro B;induction B with
 |nil=>
  intro vs w;rw[List.map_nil] at w;cases w;exact .nil
 |cons n B D=>
  intro vs w;rw[List.map_cons] at w;cases w with
  |cons a b=>
   cases a;exact .cons _ _ (D _ b)
theorem zhY{l:OpenLaw}{n:Nat}(L:l.most=some n){P:Params}{h:Heap}{args:List WData}{G:List Value}(I:l.row.toRowW.claim.pre args=true)(M:WellAll P h G args) :
  ∃a vs B,G=[Value.ref a]/\args=[WData.list (B.map WData.int)]/\h.get? a=some { cls:=.type "list",data:=.seq vs.toArray }/\IntsAre vs B/\B.length<=n:=by
 have O:WShape.hasAll [] args [.list .int]=true:=(pre_splitW I).1;have J0:l.pre.holds [] { args:=args }=true:=(pre_splitW I).2;obtain⟨d,r,rfl,h1,h2⟩:=hasAllW_cons O;obtain rfl:=hasAllW_nil h2;obtain⟨xs,rfl,R⟩:=hasW_list h1;obtain⟨B,rfl⟩:=items_int R;have S:B.length<=n:=by
  unfold OpenLaw.pre at J0;have D:(WTm.not (.lt (.lit (.int (n:Int))) (.len (.arg 0)))).holds [] { args:=[.list (B.map .int)] }=true:=by
   have D:=(holds_andW J0).1;rw[L] at D;exact D
  have F:=condW_of D (w_not (w_lt w_lit (w_len_list (w_arg J))));rw[List.length_map] at F;refine Nat.le_of_not_lt λq=>?_;have q':(n:Int)<((B.length:Nat):Int):=by omega
  first
   |(rw[decide_eq_true q'] at F;exact absurd F (by decide))
   |(simp at F;omega)
 cases M with
 |cons U V=>
  cases V;cases U with
  |list W Y=>exact⟨_,_,B,J,J,W,zdK B _ Y,S⟩
theorem zhZ(l:OpenLaw)(args:List WData):l.row.toRowW.claim.post args (.bool true) args=true:=
 postW_of (r:=l.row.toRowW) (X:=(true==true))
  (show WShape.has [] (.bool true) .bool=true by first|rfl|decide|simp[WShape.has,WShape.arms,WShape.armsAll])
  (show (WTm.eq .res (.lit (.bool true))).value [] { args:=args,res:=some (.bool true),after:=args }=some (.bool (true==true)) from w_eq_bool (w_res J) w_lit) rfl
theorem attach_call{l:OpenLaw}{n:Nat}{q:Program}{L:List Str}{M:(Str->Option Value)->Heap->Prop}{O:World->Heap->Prop}{d:DefRec}(S:l.most=some n)(U:d.params.defaults=[])(call:∀(w:World) (s₀ B:Shared) (mg J0:Str->Option Value) (D:Addr) (o:Obj) (pm F doc:Value) (a:Addr) (vs:List Value) (I:List Int),
   Ground q L [] M w s₀ mg J0 B.heap->O w B.heap ->
   B.heap.get? D=some o->o.data=.func (docDef d.name d.params d.body d.scope pm F doc)->B.heap.CodeRec F d.name->mg d.name=some (.ref D) ->
   B.heap.get? a=some { cls:=.type "list",data:=.seq vs.toArray }->IntsAre vs I->I.length<=n->B.gens=#[] ->
   codeAny (model l.prog w) callerA (.call (.ref D) ⟨[.ref a],[]⟩) (λr s'=>r=.ok (.ret (.bool true))/\OldK B.heap s'.heap/\s'.os=B.os/\AllBare s'.gens) B) :
  WalkO q L M O l.row.toRowW d [] (λf vs=>PySem.call f vs):=by
 intro w s₀ B mg J0 G V D o pm F doc W kV Y Z aa R ab ac args am ao ad ap aq ae ar;obtain rfl:W=.none:=Dflts.none R U;obtain rfl:kV=.none:=Dflts.noKw R;obtain⟨a,vs,I,rfl,rfl,af,ag,ah⟩:=zhY S ad ae;refine enter_call (codeAny_mono (call w s₀ B mg J0 D o pm F doc a vs I G V Y (fd_plain Z) aa ab af ag ah ac) λr s' ai=>?_);obtain⟨rfl,h2,aj,ak⟩:=ai;exact⟨.inl ⟨.bool true,.bool true,[],J,λ_=>rfl,.bool true,zhZ l _,λ_=>⟨List.Pairwise.nil,λ_ al=>(nomatch al)⟩⟩,h2,aj,ak⟩
section
variable {prog:Program}{w:World}{A:Around}{E:Value->Shared->Prop}{s:Shared}{K:Frag}
noncomputable def noObjs(h:Heap):Heap:={ h with objs:=#[] }
theorem noObjs_get(h:Heap)(b:Addr):(noObjs h).get? b=none:=by
 cases e:(noObjs h).get? b with
 |none=>rfl
 |some o=>exact absurd (Heap.lt_size e) (Nat.not_lt_zero _)
noncomputable def ledger(h:Heap)(B d:Addr):List (Addr×Obj):=(List.range h.objs.size).filterMap λa=>if a=B∨a=d then none else (h.get? a).map λo=>(a,o)
theorem mem_ledger{h:Heap}{D d a:Addr}{o:Obj}:(a,o)∈ledger h D d↔a≠D/\a≠d/\h.get? a=some o:=by
 unfold ledger;rw[List.mem_filterMap];constructor
 .rintro⟨b,_,e⟩;split at e
  .cases e
  .rename_i F;obtain⟨o',B,G⟩:=Option.map_eq_some_iff.mp e;cases G;exact⟨λq=>F (.inl q),λq=>F (.inr q),B⟩
 .rintro⟨n1,n2,B⟩;refine⟨a,List.mem_range.mpr (Heap.lt_size B),?_⟩;rw[if_neg (show ¬(a=D∨a=d) from λq=>q.elim n1 n2),B]<;>rfl
theorem fr_all{h:Heap}{B:Addr}{m:Str->Option Value}(n:h.Ns B m):Fr (noObjs h) B h m:=
 ⟨n,λb o e=>(by rw[noObjs_get] at e;cases e),Nat.zero_le _⟩
end
end Att
namespace L2
open PySem PySem.Spec PyProof.Rows
theorem zfm:∀ {vs:List Value}{B:List Int},IntsAre vs B->Vals (B.map V.int) vs
 |_,_,.nil=>.nil
 |_,_,.cons n t h=>.cons ⟨t,J⟩ (zfm h)
noncomputable def za0(s:Stmt)(j:Nat):Stmt:=match s with
 |.ClassDef _ _ _ B _ _ _ _ _ _ _=>B.getD j (.Pass ⟨0,0,0,0⟩)
 |_=>.Pass ⟨0,0,0,0⟩
noncomputable def zbR(s:Stmt):Arguments:=match s with
 |.FunctionDef _ a _ _ _ _ _ _ _ _=>a
 |_=>{ posonlyargs:=[],args:=[],vararg:=none,kwonlyargs:=[],kw_defaults:=[],kwarg:=none,defaults:=[] }
noncomputable def zbA(s:Stmt):List Stmt:=match s with
 |.FunctionDef _ _ b _ _ _ _ _ _ _=>b
 |_=>[]
noncomputable def zag(s:Stmt):Scope:=match s with
 |.FunctionDef _ _ _ _ _ _ sc _ _ _=>sc
 |_=>{ kind:=.function,names:=[],isGenerator:=false,isCoroutine:=false }
noncomputable abbrev CX0:CXT:=λ_ _ _ _ _ _=>False
noncomputable abbrev E0:XK:=λ_ _ _=>False
theorem pass0{X:Cx}:zdc CX0 X E0:=λ_ _ _ _ _ _ _ h=>h.elim
structure Fun(K:W.Frag)(x qual:Str)(st:Stmt)(f:Addr)(fd:FuncData):Prop where
 ex:∃(oc:Value) (od:Option Addr) (kV doc pm:Value) (an:Option Addr) (cdv ct:Value) (osl:Array (Option Value)),
  fd=W.fnOf x qual (zbR st) (zbA st) (zag st) .none kV doc pm an cdv ct/\K.lookup f=some ⟨oc,od,.func fd,osl⟩/\W.codeIn K cdv qual=true
 kp:W.keepIn K (.ref f)=true
section
variable {P:Program}{w:World}{K:W.Frag}{mg:Str->Option Value}{base:Heap}
theorem Fun.ok{x B:Str}{st:Stmt}{f:Addr}{fd:FuncData}{N ps:List Str}{k:Nat}{sp:Sp}(F:Fun K x B st f fd)(S:zav N ps (zag st))(D:∀vs H Q E,sp vs H Q E->vs.length=ps.length)(G:∀(cdv:Value) (A:Around) (outer:List Env) (s:Shared) (H:Hp) (vs:List V) (Q:VK) (E:XK),Room k (A.deeper (envOfC B (zag st) s.heap.objs.size f cdv))->sp vs H Q E ->
   ∃t,PSs (cxOf CX0 P w K mg base N B (zag st) f cdv A outer s H E).nox (zbA st) t/\t { nx:=λ_ H'=>Q .non H',rt:=Q } (start N vs) H):FnOk P w K mg base CX0 (k+1) f fd ps sp:=by
 obtain⟨oc,od,kV,doc,pm,an,cdv,ct,osl,rfl,I,J0⟩:=F.ex;refine zlC I J0 S D λA outer s H vs Q E L M=>?_;obtain⟨t,h,q⟩:=G cdv A outer s H vs Q E L M;exact⟨t,h.nox,q⟩
theorem Fun.binds{x B:Str}{st:Stmt}{f:Addr}{fd:FuncData}{ps:List Str}(F:Fun K x B st f fd)(h:∀(kV doc pm:Value) (an:Option Addr) (cdv ct:Value) (us:List Value),us.length=ps.length->bindArgs (W.fnOf x B (zbR st) (zbA st) (zag st) .none kV doc pm an cdv ct) ⟨us,[]⟩=pure (ps.zip us)):Binds K fd ps []:=by
 obtain⟨oc,od,kV,doc,pm,an,cdv,ct,osl,rfl,D,G⟩:=F.ex;exact .all (h kV doc pm an cdv ct)
theorem zh0{x B:Str}{st:Stmt}{f:Addr}{oc:Value}{od an:Option Addr}{osl:Array (Option Value)}{kV doc pm cdv ct:Value}(l:K.lookup f=some ⟨oc,od,.func (W.fnOf x B (zbR st) (zbA st) (zag st) .none kV doc pm an cdv ct),osl⟩)(c:W.codeIn K cdv B=true)(k:W.keepIn K (.ref f)=true):Fun K x B st f (W.fnOf x B (zbR st) (zbA st) (zag st) .none kV doc pm an cdv ct):=⟨⟨oc,od,kV,doc,pm,an,cdv,ct,osl,J,l,c⟩,k⟩
end
section
variable {X:Cx}
theorem pv(i:Nat){x:Str}{pos:Pos}(B:X.N[i]?=some x:=by rfl)(D:Vis X.env.scope x:=by first|exact Or.inl rfl|exact Or.inr (Or.inl J)|exact Or.inr (Or.inr J))(F:(x==("__debug__":Str))=false:=by decide)(G:(x==("__classdict__":Str))=false:=by decide):PE X (.Name x pos) (tVar i):=zlv B D F G
end
theorem iteF{A B:Prop}(h:B):if false=true then A else B:=by
 rw[if_neg Bool.false_ne_true];exact h
theorem iteT{A B:Prop}(h:A):if true=true then A else B:=by
 rw[if_pos rfl];exact h
theorem ite2{c A B:Prop} [Decidable c] (h1:c->A) (h2:¬c->B):if c then A else B:=by
 by_cases h:c
 .rw[if_pos h];exact h1 h
 .rw[if_neg h];exact h2 h
noncomputable def Same(H H':Hp):Prop:=∀b o,H b=some o->H' b=some o
theorem Same.refl(H:Hp):Same H H:=λ_ _ h=>h
theorem Same.trans{H H1 H2:Hp}(a:Same H H1)(b:Same H1 H2):Same H H2:=λc o h=>b c o (a c o h)
theorem Same.free{H H':Hp}(e:Same H H'){l:Addr}(h:H' l=Option.none):H l=Option.none:=by
 cases q:H l with
 |none=>rfl
 |some o=>
  rw[e l o q] at h;cases h
theorem zcZ(env:Env):∀(names:List (Str×NameKind)) (B:List (Str×Addr)),(∀x∈names,x.2=.free->∃c,env.cells.lookup x.1=some c) ->
  (∀x c,B.lookup x=some c->env.cells.lookup x=some c) ->
  ∃cl:List (Str×Addr),(forIn names B (λ(x:Str×NameKind) r=>(if (x.2==.free)=true then cellOf env x.1 >>= λa=>pure (ForInStep.yield ((x.1,a)::r)) else pure (ForInStep.yield r):Sem (ForInStep (List (Str×Addr))))))=pure cl /\
   (∀x c,cl.lookup x=some c->env.cells.lookup x=some c)/\(∀x c,B.lookup x=some c->∃d,cl.lookup x=some d)/\(∀x∈names,x.2=.free->∃c,cl.lookup x.1=some c)
 |[],B,_,h2=>⟨B,J,h2,λx c e=>⟨c,e⟩,λx hx=>by simp at hx⟩
 |(n,k)::r,B,h1,h2=>by
  rw[List.forIn_cons];by_cases I:k=.free
  .subst I;obtain⟨c,J0⟩:=h1 (n,.free) List.mem_cons_self rfl;obtain⟨cl,e,L,D,M⟩:=zcZ env r ((n,c)::B) (λx hx=>h1 x (List.mem_cons_of_mem _ hx)) (λx d e=>by
    rw[List.lookup_cons] at e;cases F:x==n with
    |true=>
     rw[F] at e;have O:x=n:=by simpa using F
     cases e;rw[O];exact J0
    |false=>rw[F] at e;exact h2 x d e)
   have R:cellOf env n=pure c:=by unfold cellOf;simp only at J0;rw[J0]
   refine⟨cl,?_,L,λx d e=>?_,λx hx G=>?_⟩
   .simp only[beq_self_eq_true,if_true,R,pure_bind];exact e
   .by_cases hx:x=n
    .subst hx;exact D x c (by simp[List.lookup_cons])
    .exact D x d (by rw[List.lookup_cons];have:(x==n)=false:=(by simpa using hx);rw[this];exact e)
   .rcases List.mem_cons.mp hx with rfl|hx
    .exact D n c (by simp[List.lookup_cons])
    .exact M x hx G
  .obtain⟨cl,e,L,D,M⟩:=zcZ env r B (λx hx=>h1 x (List.mem_cons_of_mem _ hx)) h2;have F:(k==NameKind.free)=false:=by simpa using I
   refine⟨cl,?_,L,D,λx hx G=>?_⟩
   .simp only[F,Bool.false_eq_true,if_false,pure_bind];exact e
   .rcases List.mem_cons.mp hx with rfl|hx
    .exact absurd G I
    .exact M x hx G
theorem zee(env:Env)(sc:Scope)(h1:∀x∈sc.names,x.2=.free->∃c,env.cells.lookup x.1=some c) :
  ∃cl:List (Str×Addr),closureFor sc env=pure cl/\(∀x c,cl.lookup x=some c->env.cells.lookup x=some c)/\(∀x∈sc.names,x.2=.free->∃c,cl.lookup x.1=some c):=by
 obtain⟨cl,e,B,_,D⟩:=zcZ env sc.names [] h1 (λx c e=>by simp at e);refine⟨cl,?_,B,D⟩;unfold closureFor;simp only[bind_pure];exact e
noncomputable def Cx.blk(X:Cx)(sc:Scope)(cl:List (Str×Addr))(N':List Str)(B:Shared)(D:Hp)(ex:List Addr):Cx:=
 { X with N:=N',s₀:=B,H₀:=D,env:=compEnvC sc cl B.heap.objs.size X.env,outer:=X.stack,stack:=X.stack,ex:=ex,fn:=λ_=>false,pn:=[],xe:=λ_ _=>False }
structure BlkOk(X:Cx)(sc:Scope):Prop where
 kind:sc.kind=.function
 names:∀x∈sc.names,x.2=.local->sc.names.lookup x.1=some .local
 nocell:∀x∈sc.names,x.2≠.cell
 free:∀x∈sc.names,x.2=.free->X.env.kindOf x.1=some .cell
theorem zbk{names:List (Str×NameKind)}{x:Str}{k:NameKind}(h:names.lookup x=some k):(x,k)∈names:=PySem.mem_of_lookup h
theorem za5{env:Env}:∀ {names:List (Str×NameKind)}{x:Str}{k:NameKind},
  (names.map λ(n,k)=>if (k==NameKind.free&&env.scope.kind==.function&&env.kindOf n==some .cell) then (n,NameKind.cell) else (n,k)).lookup x=some k ->
  names.lookup x=some k∨(k=.cell/\names.lookup x=some .free)
 |[],_,_,h=>by simp at h
 |(n,D)::r,x,k,h=>by
  have F:=@za5 env r x k;change List.lookup x ((if (D==NameKind.free&&env.scope.kind==.function&&env.kindOf n==some .cell)=true then (n,NameKind.cell) else (n,D))::_)=_ at h;cases hx:x==n with
  |true=>
   by_cases B:(D==NameKind.free&&env.scope.kind==.function&&env.kindOf n==some .cell)=true
   .rw[if_pos B] at h;simp only[List.lookup_cons,hx] at h;have G:D=.free:=by simp only[Bool.and_eq_true,beq_iff_eq] at B;exact B.1.1
    cases h;exact .inr ⟨J,by simp only[List.lookup_cons,hx,G]⟩
   .rw[if_neg B] at h;simp only[List.lookup_cons,hx] at h;cases h;exact .inl (by simp only[List.lookup_cons,hx])
  |false=>
   have h':List.lookup x (r.map λ(n,k)=>if (k==NameKind.free&&env.scope.kind==.function&&env.kindOf n==some .cell) then (n,NameKind.cell) else (n,k))=some k:=by
    by_cases B:(D==NameKind.free&&env.scope.kind==.function&&env.kindOf n==some .cell)=true
    .rw[if_pos B] at h;simp only[List.lookup_cons,hx] at h;exact h
    .rw[if_neg B] at h;simp only[List.lookup_cons,hx] at h;exact h
   simp only[List.lookup_cons,hx];exact F h'
section
variable {X:Cx}{pins:List (Addr×Obj)}{σ σ':St}{H:Hp}{s:Shared}{sc:Scope}{cl:List (Str×Addr)}{N':List Str}{fp:List Addr}
theorem zh1(D:Inv X pins σ H s)(B:BlkOk X sc)(F:∀x c,cl.lookup x=some c->X.env.cells.lookup x=some c)(S:∀x∈sc.names,x.2=.free->∃c,cl.lookup x.1=some c)(I:∀b∈fp,FpOk X pins H b/\b<s.heap.objs.size)(Z:σ'.length=N'.length)(aa:∀(i:Nat) (x:Str) (v:V),N'[i]?=some x->σ'[i]?=some (some v)->Vis (relabel sc X.env) x->∃j:Nat,X.N[j]?=some x/\σ[j]?=some (some v)/\Vis X.env.scope x/\sc.names.lookup x=some .free){h':Heap}{tk:Nat}(ab:h'.Ns s.heap.objs.size (λ_=>none))(ac:Heap.SameBut s.heap.objs.size (s.heap.push { cls:=.type "dict",data:=.dict #[] }) h') :
  Inv (X.blk sc cl N' s H fp) [] σ' H { s with heap:=h',toks:=tk }:=by
 have M:∀b u,s.heap.get? b=some u->h'.get? b=some u:=λb u e=>(ac.2 b (Nat.ne_of_lt (Heap.lt_size e))).trans (Heap.get?_push_of_some _ e);have au:∀x c,cl.lookup x=some c->c<s.heap.objs.size:=λx c e=>by
  obtain⟨v,q⟩:=D.cell x c (F x c e);exact q.lt
 have ad:∀x c,cl.lookup x=some c->∃v,h'.IsCell c v:=λx c e=>by
  obtain⟨v,o,J0,L⟩:=D.cell x c (F x c e);exact⟨v,o,M _ _ J0,L⟩
 refine⟨⟨D.ok.mod,B.kind,D.ok.glob,D.ok.blt,Nat.le_refl _,λx y c J0 L=>D.ok.inj x y c (F x c J0) (F y c L),λx ae=>?_,λx c z=>(by cases z),D.ok.hd,D.ok.frames,.inl J,λb G=>⟨Nat.ne_of_lt (I b G).2,λx c e=>(I b G).1.2.2.2.2.1 x c (F x c e)⟩,
  D.bs,?_,λb o e G=>?_,λb G af=>?_,D.stack,D.stkFree⟩,J,D.bare,Un.kept M,⟨_,ab,λi x v J0 L U=>?_⟩,ad,D.hok.fresh (Nat.le_refl _),λx c e=>D.freeC x c (F x c e),λp ag=>absurd (show p∈([]:List (Addr×Obj)) from ag) (by simp),D.hok.kept M,Z⟩
 .have ah:(relabel sc X.env).names.lookup x=some .cell∨(relabel sc X.env).names.lookup x=some .free:=ae;have:sc.names.lookup x=some .free:=by
   rcases ah with h|h
   .rcases za5 h with h|⟨_,h⟩
    .exact absurd rfl (B.nocell _ (zbk h))
    .exact h
   .rcases za5 h with h|⟨O,h⟩
    .exact h
    .cases O
  exact S (x,.free) (zbk this) rfl
 .exact Nat.le_trans D.ok.bsz D.sz
 .have:=(I b G).1.2.2.2.1;rcases this with z|z
  .exact D.ok.noex b o e z
  .exact absurd (Nat.lt_of_lt_of_le (Heap.lt_size e) (Nat.le_trans D.ok.bsz z)) (Nat.lt_irrefl _)
 .have:=D.stkSub b af;rcases List.mem_cons.mp this with z|z
  .exact(I b G).1.2.1 z
  .exact(I b G).1.2.2.1 z
 .obtain⟨j,ai,aj,ak,R⟩:=aa i x v J0 L U;obtain⟨m,av,al⟩:=D.loc;obtain⟨u,r,l⟩:=al j x v ai aj ak;refine⟨u,r,?_⟩;have am:=B.free (x,.free) (zbk R) rfl;have ao:X.env.kindOf x=some .cell:=am;rcases l with⟨W,_⟩|⟨_,c,ap,aq⟩
  .rw[ao] at W;cases W
  .obtain⟨d,ar⟩:=S (x,.free) (zbk R) rfl;have Y:cl.lookup x=some d:=ar;have:=F x d Y;rw[ap] at this;cases this;refine .inr ⟨?_,c,Y,?_⟩
   .rcases U with z|z|z
    .rcases za5 z with h|⟨O,h⟩
     .rw[R] at h;cases h
     .cases O
    .exact .inl z
    .exact .inr z
   .obtain⟨o,q1,as⟩:=aq;exact⟨o,M _ _ q1,as⟩
theorem zkN{H':Hp}{O:St}{R:List (Addr×Obj)}{s':Shared}{I:Heap}(S:Inv X pins σ H s)(U:∀b∈fp,FpOk X pins H b/\b<s.heap.objs.size)(J0:Inv (X.blk sc cl N' s H fp) R O H' s')(G:Heap.SameBut s.heap.objs.size s'.heap I):Inv X pins σ H' { s' with heap:=I }:=by
 have L:∀b o,s.heap.get? b=some o->b≠s.heap.objs.size:=λb o e=>Nat.ne_of_lt (Heap.lt_size e);have M:H' s.heap.objs.size=none:=J0.free;have B:Un (frs X.stack) fp H H' s.heap s'.heap:=J0.base;refine S.call' (ch:=fp) (s':={ s' with heap:=I }) J0.os ⟨λb o e n D F=>?_,λb o e n D F=>?_,B.free,λb o e F=>?_,B.tups,B.frzs,B.tbls⟩ (λb o e=>?_) J0.bare λb D=>?_
 .exact(G.2 b (L b o e)).trans (B.keep b o e n D F)
 .obtain⟨V,q⟩:=B.slot b o e n D F;exact⟨V,(G.2 b (L b o e)).trans q⟩
 .obtain⟨o',q⟩:=B.there b o e F;exact⟨o',(G.2 b (L b o e)).trans q⟩
 .refine(J0.hok b o e).stay (λc ab hc q=>(G.2 c ?_).trans q) (λ_ q=>q) λ_ _ q=>q;rintro rfl;rcases hc with rfl|hc
  .rw[M] at e;cases e
  .rw[M] at hc;cases hc
 .obtain⟨ac,W,ad,Y,Z,aa⟩:=(U b D).1;exact⟨Y,W,Z,aa⟩
end
noncomputable abbrev TR:=St->Hp->(St->Hp->Prop)->Prop
noncomputable def PR(X:Cx)(rest:Sem Unit)(t:TR):Prop:=
 ∀(pins:List (Addr×Obj)) (s:Shared) (σ:St) (H:Hp) (N:St->Hp->Prop),Inv X pins σ H s->t σ H N->wpAny (model X.prog X.w) X.A rest (λ_ s'=>∃σ' H',Inv X pins σ' H' s'/\N σ' H') X.xe s
noncomputable def PTs(X:Cx)(ifs:List Expr)(t:TT):Prop:=
 ∀(pins:List (Addr×Obj)) (s:Shared) (σ:St) (H:Hp) (Q:Bool->Hp->Prop),Inv X pins σ H s->t σ H Q ->
  wpAny (model X.prog X.w) X.A (forIn ifs true λc r=>if r=true then do let B ← isTrue c X.env (eval c X.env);pure (ForInStep.yield B) else pure (ForInStep.yield r)) (TP X pins σ Q) X.xe s
noncomputable def tYes:TT:=λ_ H Q=>Q true H
theorem zbh{X:Cx}:PTs X [] tYes:=λ_ _ _ H _ B h=>wpAny_tests_nil ⟨H,B,h⟩
theorem zet{X:Cx}{c:Expr}{t:TT}(h:PT X c t):PTs X [c] t:=λpins s σ H Q B q=>wpAny_tests_one (h pins s σ H Q B q)
noncomputable def tLoop(J0:It)(g:TG)(tt:TT)(G:TR)(Qe:St->Hp->Prop)(σ:St)(H:Hp):Prop:=∃W:Nat->Nat->St->Hp->Prop,(∃m,W 0 m σ H)/\∀i m σ H,W i m σ H ->
 (J0.stop i H/\Qe σ H)∨(J0.go i H/\∃N:St->Hp->Prop,(∀σ' H',N σ' H'->∃D,D<m/\W (i+1) D σ' H')/\∀x H',J0.yld i H x H'->g x σ H' λB H2=>tt B H2 λb F=>if b=true then G B F N else N B F)
theorem zh2{X:Cx}(ap:X.xe=λ_ _=>False)(ae:X.calm=true){e:Expr}{d:Nat}{tg iter:Expr}{ifs:List Expr}{D:Value}{rest:Sem Unit}{g:TG}{tt:TT}{af:TR}{J0:It}{fp:List Addr}{it:Addr}{U:Nat->Heap->Prop}(aq:compTurn e d (.ref it) D X.env=(do
   standAt iter.pos
   match ← pyNext (.ref it) with
   |none=>pure (.done .next)
   |some v=>
    letOwnedTupleGo tg (.ref it) v
    assign tg X.env v
    let mut O:=true
    for c in ifs do
     if O then O ← isTrue c X.env (eval c X.env)
    if O then rest
    again (.compLoop e d (.ref it) D X.env)))(ar:(Code.compLoop e d (.ref it) D X.env).quiet=true)(as:X.A.under (.compLoop e d (.ref it) D X.env)=X.A)(au:(model X.prog X.w).den (.compLoop e d (.ref it) D X.env)=(compTurn e d (.ref it) D X.env).onRaise (λx=>do noteFrame x X.env;theTreesLotGoes x))(av:PG X tg g)(aw:PTs X ifs tt)(ax:PR X rest af)(T:Turn X.prog X.w X.K tg J0 fp it U){pins:List (Addr×Obj)}{σ:St}{H:Hp}{s:Shared}{Qe:St->Hp->Prop}{R:Result->Shared->Prop}(ay:Inv X pins σ H s)(st:U 0 s.heap)(ag:∀b∈fp,FpOk X pins H b)(h:tLoop J0 g tt af Qe σ H)(az:∀s' σ' H',Inv X pins σ' H' s'->Qe σ' H'->R (.ok .next) s') :
  codeAny (model X.prog X.w) X.A (.compLoop e d (.ref it) D X.env) R s:=by
 obtain⟨W,⟨aA,aB⟩,aC⟩:=h;have Z:∀ {H':Hp},(∀b∈fp,H' b=none)->∀b∈fp,FpOk X pins H' b:=λaD b B=>⟨aD b B,(ag b B).2⟩;have I:∀ {aa:Type} {t:Sem aa} {Q:aa->Shared->Prop} {s:Shared} {E:Value->Shared->Prop},wpAny (model X.prog X.w) X.A t Q X.xe s->wpAny (model X.prog X.w) X.A t Q E s:=λ{aa t Q s E} h=>
  wpAny_mono h (λ_ _ x=>x) λ_ _ x=>by rw[ap] at x;exact x.elim
 refine codeAny_loop ar (λn s'=>∃i σ' H',Inv X pins σ' H' s'/\U i s'.heap/\(∀b∈fp,H' b=none)/\W i n σ' H') (λn ah aE=>?_) aA ⟨0,σ,H,ay,st,λb B=>(ag b B).1,aB⟩;rw[as,au];refine wpAny_noted ?_;rw[aq];obtain⟨i,V,ab,ai,aj,ak,aF⟩:=aE;refine wpAny_bind (wpAny_standAt (wpAny_bind ?_));rcases aC i n V ab aF with⟨stop,aG⟩|⟨go,N,aH,step⟩
 .refine I (thn (T.done X J J J ae i pins ah V ab X.xe ai (Z ak) aj stop) λr aI ⟨ac,aJ⟩=>?_);subst ac;exact wpAny_pure (az _ _ _ aJ aG)
 .refine I (thn (T.item X J J J ae i pins ah V ab X.xe ai (Z ak) aj go) λr aI ⟨u,ac,aK⟩=>?_);subst ac;refine wpAny_bind (I (thn aK λ_ al F=>?_));obtain⟨x,am,aL,aM,aN,ad,aO⟩:=F;have aP:=aL.pinned (Z aO) (T.obj _ _ ad);refine wpAny_bind (I (thn (av _ al V am x u _ aP aM (step x am aN)) λ_ aQ F=>?_));obtain⟨ao,aR,aS,aT⟩:=F;have again:∀ {S:St} {G:Hp} {L:Shared},Inv X (pins++zff fp al.heap) S G L->N S G->∃m,m<n/\∃i σ' H',Inv X pins σ' H' L/\U i L.heap/\(∀b∈fp,H' b=none)/\W i m σ' H':=λ{S G L} M aU=>by
   obtain⟨aV,aW,aX⟩:=aH S G aU;refine⟨aV,aW,i+1,S,G,M.unpinned,T.keep _ _ _ ad λb B o e=>(M.pin (b,o) (List.mem_append_right _ (List.mem_append_right _ (zcg B e)))).1,λb B=>?_,aX⟩;obtain⟨o,e,dd⟩:=T.obj _ _ ad b B;exact(M.pin (b,o) (List.mem_append_right _ (List.mem_append_right _ (zcg B e)))).2.1
  refine wpAny_bind (I (thn (aw _ aQ ao aR _ aS aT) λO L F=>?_));obtain⟨G,M,Y⟩:=F;cases O with
  |false=>
   rw[if_neg (by simp)] at Y;exact wpAny_pure ⟨J,again M Y⟩
  |true=>
   rw[if_pos rfl] at Y;refine wpAny_bind (I (thn (ax _ L ao G _ M Y) λ_ a0 F=>?_));obtain⟨a1,a2,aY,aZ⟩:=F;exact wpAny_pure ⟨J,again aY aZ⟩
noncomputable def tApp(p:Addr)(te:TE):TR:=λσ H N=>te σ H λv B=>∃ys,B p=some (.lst ys)/\ys.length<sizeLine/\N σ (upd B p (.lst (ys++[v])))
theorem zlE{X:Cx}{elt:Expr}{te:TE}{p:Addr}(D:PE X elt te):PR X (do let _ ← call (.builtin "list.append") [.ref p,←eval elt X.env]) (tApp p te):=by
 intro pins s σ H N F h;refine wpAny_bind (thn (D pins s σ H _ F h) λu G B=>?_);obtain⟨v,H1,I,J0,ys,L,M,q1⟩:=B;refine wpAny_bind (thn (zaK pins G σ H1 (.ref p) [v] _ [u] (λ_ H2=>N σ H2) I J (.cons J0 .nil) ⟨p,ys,v,J,J,L,M,q1⟩) λ_ S B=>?_);obtain⟨_,H2,O,_,R⟩:=B;exact wpAny_pure ⟨σ,H2,O,R⟩
noncomputable def capSt(σ:St):List (Option Nat)->St
 |[]=>[]
 |none::js=>none::capSt σ js
 |some j::js=>(σ[j]?).join::capSt σ js
noncomputable def CapsOk(X:Cx)(sc:Scope):List Str->List (Option Nat)->Prop
 |[],[]=>True
 |_::xs,none::js=>CapsOk X sc xs js
 |x::xs,some j::js=>X.N[j]?=some x/\Vis X.env.scope x/\sc.names.lookup x=some .free/\CapsOk X sc xs js
 |_,_=>False
theorem CapsOk.len{X:Cx}{sc:Scope}{σ:St}:∀ {N':List Str}{js:List (Option Nat)},CapsOk X sc N' js->(capSt σ js).length=N'.length
 |[],[],_=>rfl
 |_::xs,none::js,h=>by simp only[capSt,List.length_cons];rw[CapsOk.len (N':=xs) (js:=js) h]
 |x::xs,some j::js,h=>by simp only[capSt,List.length_cons];rw[CapsOk.len (N':=xs) (js:=js) h.2.2.2]
 |[],_::_,h=>by cases h
 |_::_,[],h=>by cases h
theorem CapsOk.get{X:Cx}{sc:Scope}{σ:St}:∀ {N':List Str}{js:List (Option Nat)}{i:Nat}{x:Str}{v:V},CapsOk X sc N' js->N'[i]?=some x->(capSt σ js)[i]?=some (some v) ->
  ∃j:Nat,X.N[j]?=some x/\σ[j]?=some (some v)/\Vis X.env.scope x/\sc.names.lookup x=some .free
 |[],[],i,x,v,_,h1,_=>by simp at h1
 |y::xs,none::js,0,x,v,h,h1,h2=>by simp[capSt] at h2
 |y::xs,none::js,i+1,x,v,h,h1,h2=>CapsOk.get (N':=xs) (js:=js) (i:=i) h (by simpa using h1) (by simpa [capSt] using h2)
 |y::xs,some j::js,0,x,v,h,h1,h2=>by
  have D:y=x:=by simpa using h1
  subst D;refine⟨j,h.1,?_,h.2.1,h.2.2.1⟩;have B:(σ[j]?).join=some v:=by simpa [capSt] using h2
  cases q:σ[j]? with
  |none=>rw[q] at B;cases B
  |some o=>rw[q] at B;exact congrArg some B
 |y::xs,some j::js,i+1,x,v,h,h1,h2=>CapsOk.get (N':=xs) (js:=js) (i:=i) h.2.2.2 (by simpa using h1) (by simpa [capSt] using h2)
 |[],_::_,_,_,_,h,_,_=>by cases h
 |_::_,[],_,_,_,h,_,_=>by cases h
noncomputable def tComp(js:List (Option Nat))(wi:TI)(g:TG)(tt:TT)(te:TE):TE:=λσ H Q=>wi σ H λJ0 H1=>∀p,H1 p=none->tLoop J0 g tt (tApp p te) (λ_ H'=>Q (.ref p) H') (capSt σ js) (upd H1 p (.lst []))
section
variable {X:Cx}{elt tg iter:Expr}{ifs:List Expr}{sc:Scope}{pos:Pos}{N':List Str}{js:List (Option Nat)}{wi:TI}{g:TG}{tt:TT}{te:TE}
theorem zdL(ae:X.calm=true)(B:BlkOk X sc)(C:CapsOk X sc N' js){cl:List (Str×Addr)}(W:∀x c,cl.lookup x=some c->X.env.cells.lookup x=some c)(af:∀x∈sc.names,x.2=.free->∃c,cl.lookup x.1=some c)(ag:∀cl s H fp,PG (X.blk sc cl N' s H fp) tg g)(ah:∀cl s H fp,PTs (X.blk sc cl N' s H fp) ifs tt)(ai:∀cl s H fp,PE (X.blk sc cl N' s H fp) elt te){pins:List (Addr×Obj)}{σ:St}{H:Hp}{s:Shared}{Qe:Addr->Hp->Prop}{it:Addr}{fp:List Addr}{L:Nat->Heap->Prop}{J0:It}{RR:Value->Addr->Result->Shared->Prop}(Y:Inv X pins σ H s)(T:Turn X.prog X.w X.K tg J0 fp it L)(st:L 0 s.heap)(aj:∀b∈fp,FpOk X pins H b)(h:∀p,H p=none->tLoop J0 g tt (tApp p te) (λ_ H'=>Qe p H') (capSt σ js) (upd H p (.lst [])))(ak:∀p C s' H',C≠p->(∀b o,s.heap.get? b=some o->b≠C)->H' C=none->(∃m,s'.heap.Ns C m)->Qe p H'->(∀G,Heap.SameBut C s'.heap G->Inv X pins σ H' { s' with heap:=G })->FpOk X pins H' C->RR (.ref p) C (.ok .next) s') :
  wpAny (model X.prog X.w) X.A (newList []) (λZ al=>wpAny (model X.prog X.w) X.A (newFunctionEnv sc X.env.globals cl [] X.env.qual none .none (some X.env)) (λaa am=>
   codeAny (model X.prog X.w) X.A (.compStart (.ListComp elt [⟨tg,iter,ifs,0⟩] sc pos) 0 (.ref it) Z { aa with scope:=relabel sc X.env }) (RR Z aa.locals) am) X.xe al) X.xe s:=by
 refine wpAny_newObj_type ?_;have I:=Y.lnew (ys:=[]) (its:=[]) (t':=s.toks) .nil (by simp);generalize S:({ s with heap:=s.heap.push { cls:=.type "list",data:=.seq ([]:List Value).toArray },toks:=s.toks }:Shared)=D at I;have U:H s.heap.objs.size=none:=Y.fresh;have ao:=h _ U;have V:∀b∈fp,FpOk X pins (upd H s.heap.objs.size (.lst [])) b/\b<D.heap.objs.size:=λb F=>by
  obtain⟨ap,aq⟩:=aj b F;obtain⟨o,e,_⟩:=T.obj _ _ st b F;have M:=Heap.lt_size e;refine⟨⟨by rw[zah (Nat.ne_of_lt M)];exact ap,aq⟩,?_⟩;rw[←S];show b<(s.heap.push _).objs.size;rw[Heap.size_push];exact Nat.lt_succ_of_lt M
 have hsz:D.heap.objs.size=s.heap.objs.size+1:=by rw[←S];exact Heap.size_push ..
 have ar:L 0 D.heap:=by rw[←S];exact T.keep _ _ _ st λb F o e=>Heap.get?_push_of_some _ e
 refine wpAny_newFunctionEnv B.nocell (by intro y as;simp at as) (λO au ab=>?_) B.kind;have av:=zh1 (cl:=cl) (N':=N') (σ':=capSt σ js) (tk:=D.toks+([]:List (Str×Value)).length) I B W af V C.len (λi x v aw ax _=>C.get aw ax) (show O.Ns D.heap.objs.size (λ_=>none) from au) (show Heap.SameBut D.heap.objs.size (D.heap.push { cls:=.type "dict",data:=.dict #[] }) O from ab);have ac:L 0 O:=T.keep _ _ _ ar λb F o e=>(ab.2 b (Nat.ne_of_lt (Heap.lt_size e))).trans (Heap.get?_push_of_some _ e);have ay:∀b∈fp,FpOk (X.blk sc cl N' D (upd H s.heap.objs.size (.lst [])) fp) [] (upd H s.heap.objs.size (.lst [])) b:=λb F=>by
  obtain⟨⟨az,aA,aB,aG,aC,aH⟩,M⟩:=V b F;refine⟨az,Nat.ne_of_lt M,λz=>?_,.inl F,λx c e=>aC x c (W x c e),λp U=>absurd (show p∈([]:List (Addr×Obj)) from U) (by simp)⟩;rcases List.mem_cons.mp (I.stkSub b z) with z|z
  .exact aA z
  .exact aB z
 have ad:codeAny (model X.prog X.w) X.A (.compLoop (.ListComp elt [⟨tg,iter,ifs,0⟩] sc pos) 0 (.ref it) (.ref s.heap.objs.size) (compEnvC sc cl D.heap.objs.size X.env)) (RR (.ref s.heap.objs.size) D.heap.objs.size) { D with heap:=O,toks:=D.toks+([]:List (Str×Value)).length }:=by
  refine zh2 (X:=X.blk sc cl N' D (upd H s.heap.objs.size (.lst [])) fp) rfl ae (compTurn_list ..) rfl rfl rfl (ag _ _ _ _) (ah _ _ _ _) (zlE (ai _ _ _ _)) T av ac ay ao λs' σ' H' R q=>?_;have aD:∀G,Heap.SameBut D.heap.objs.size s'.heap G->Inv X pins σ H' { s' with heap:=G }:=λG aE=>zkN I V R aE;obtain⟨m,aF,_⟩:=R.loc;refine ak _ _ _ H' (by rw[hsz];exact Nat.succ_ne_self _) (λb o e=>?_) R.free ⟨m,aF⟩ q aD (I.fpOk (Nat.le_refl _) R.free);rw[hsz];exact Nat.ne_of_lt (Nat.lt_succ_of_lt (Heap.lt_size e))
 exact codeAny_compStart_list ad (T.self _ 0 _ _ _ ac ad)
theorem za6(ag:X.xe=λ_ _=>False)(F:X.calm=true)(B:BlkOk X sc)(C:CapsOk X sc N' js)(hi:PI X tg iter wi)(G:∀cl s H fp,PG (X.blk sc cl N' s H fp) tg g)(I:∀cl s H fp,PTs (X.blk sc cl N' s H fp) ifs tt)(L:∀cl s H fp,PE (X.blk sc cl N' s H fp) elt te)(M:∀x,foldedSetIterable iter X.env x=pure x:=by intro _;rfl):PE X (.ListComp elt [⟨tg,iter,ifs,0⟩] sc pos) (tComp js wi g tt te):=by
 intro pins s σ H Q D h;obtain⟨cl,O,R,S⟩:=zee X.env sc λx U V=>D.ok.has x.1 (.inl (B.free x U V));rw[eval_ListComp];refine wpAny_comprehension_free (use:=none) rfl M O B.kind B.names (thn (hi pins s σ H _ D h) λv ah h1=>thn h1 λai aj h2=>?_);obtain⟨it,fp,ak,J0,H2,e,W,T,Y,Z,h2⟩:=h2;subst e;refine zdL (Qe:=λp H'=>Q (.ref p) H') (RR:=λaa C=>compPost (model X.prog X.w) X.A X.xe none (EP X pins σ Q) aa C) F B C R S G I L W T Y Z h2 ?_;intro p C s' H' al am ao ab q ac _;obtain⟨m,ad⟩:=ab;exact⟨m,ad,λae af=>⟨.ref p,H',ac ae af,J,q⟩⟩
noncomputable def zjt(i:Nat)(js:List (Option Nat))(wi:TI)(g:TG)(tt:TT)(te:TE):TS:=λD σ H=>tComp js wi g tt te σ H λv H'=>D.nx (σ.set i (some v)) H'
theorem zb0{i:Nat}{y:Str}{F I:Pos}(aC:X.xe=λ_ _=>False)(R:X.calm=true)(S:X.N.Nodup)(U:X.N[i]?=some y)(G:Loc X.env.scope y)(B:BlkOk X sc)(C:CapsOk X sc N' js)(hi:PI X tg iter wi)(V:∀cl s H fp,PG (X.blk sc cl N' s H fp) tg g)(W:∀cl s H fp,PTs (X.blk sc cl N' s H fp) ifs tt)(Y:∀cl s H fp,PE (X.blk sc cl N' s H fp) elt te)(Z:swapsWith (.ListComp elt [⟨tg,iter,ifs,0⟩] sc pos) (some (.Name y F)) I.line X.env=pure true:=by rfl)(aa:∀x,foldedSetIterable iter X.env x=pure x:=by intro _;rfl)(ab:X.fn y=true∨X.env.scope.names.lookup y=some .local:=by first|exact .inl rfl|exact .inr rfl|assumption):PS X (.Assign [.Name y F] (.ListComp elt [⟨tg,iter,ifs,0⟩] sc pos) I) (zjt i js wi g tt te):=by
 intro pins s σ H D L h;obtain⟨cl,ac,ad,ae⟩:=zee X.env sc λx G af=>L.ok.has x.1 (.inl (B.free x G af));rw[exec_Assign_Name_used _ _ _ _ Z];refine wpAny_bind (wpAny_standAt (wpAny_bind ?_));show wpAny _ X.A (do let _ ← comprehension (.ListComp elt [⟨tg,iter,ifs,0⟩] sc pos) sc X.env _ (newList []) false (eval iter X.env) (some (assign (.Name y F) X.env))) _ _ s;refine wpAny_bind (thn (wpAny_comprehension_free (use:=some (assign (.Name y F) X.env)) (Q:=λ_ s'=>SP X pins D .next s') J aa ac B.kind B.names (thn (hi pins s σ H _ L h) λv aD h1=>thn h1 λaE aF h2=>?_)) λ_ s' ag=>wpAny_pure (wpAny_pure ag));obtain⟨it,fp,aG,J0,H2,e,ah,T,ai,aj,h2⟩:=h2;subst e;refine zdL (Qe:=λp H'=>D.nx (σ.set i (some (.ref p))) H') (RR:=λak C=>compPost (model X.prog X.w) X.A X.xe (some (assign (.Name y F) X.env)) (λ_ s'=>SP X pins D .next s') ak C) R B C ad ae V W Y ah T ai aj h2 ?_;intro p C s' H' aH aI aJ al q am ao;obtain⟨m,ap⟩:=al;have aq:Inv X pins σ H' s':=am s'.heap (.refl ..);obtain⟨ar,M,aK,as,O,au⟩:=ao;show wpAny _ X.A (assign (.Name y F) X.env (.ref p)) _ _ s';refine wpAny_assign_Name (zfd (v:=.ref p) aq S U G J (λav aw ax=>?_) ab);obtain⟨a,ay,ha⟩:=ax;have az:C≠a:=by
  rcases ha with rfl|ha
  .exact M
  .exact λz=>O y a ha z.symm
 refine⟨m,ap.sameBut ay az,λaL aA=>⟨_,H',aw.turned (t':=av.toks) (it:=C) (λb o aB e=>(aA.2 b aB).trans e) ar M as O au,q⟩⟩
end
section
variable {X:Cx}{e:Expr}{tg:Expr}{sc:Scope}{N':List Str}{js:List (Option Nat)}
end
section
variable {X:Cx}
theorem zh3:∀ {bs:List Bool}{us:List Value},Vals (bs.map V.bl) us->us=bs.map Value.bool
 |[],_,.nil=>rfl
 |b::bs,_,.cons r t=>by
  have e:=zh3 (bs:=bs) t;cases r;rw[e];rfl
theorem zju{prog:Program}{w:World}{A:Around}(bs:List Bool):TruthOf prog w A (λi v=>(bs.map Value.bool).toArray[i]?=some v) (λi=>bs.getD i false):=by
 intro i v s Q E D F;have e:(bs.map Value.bool)[i]?=some v:=by simpa using D
 rw[List.getElem?_map] at e;cases hb:bs[i]? with
 |none=>rw[hb] at e;cases e
 |some b=>
  rw[hb] at e;cases e;have:bs.getD i false=b:=by rw[List.getD_eq_getElem?_getD,hb];rfl
  have B:Q (bs.getD i false) s:=F;rw[this] at B;exact wpAny_truthy_bool B
theorem zh4(bs:List Bool):(List.range bs.length).any (λi=>bs.getD i false)=bs.any id:=by
 rw[Bool.eq_iff_iff,List.any_eq_true,List.any_eq_true];constructor
 .rintro⟨i,hi,h⟩;have hi:=List.mem_range.mp hi;exact⟨bs[i],List.getElem_mem hi,by simpa [hi] using h⟩
 .rintro⟨b,B,h⟩;obtain⟨i,hi,rfl⟩:=List.mem_iff_getElem.mp B;exact⟨i,List.mem_range.mpr hi,by simpa [hi] using h⟩
theorem zjv(D:X.calm=true):CallR X (.builtin "any") (λxs H Q=>∃(p:Addr) (bs:List Bool),xs=[.ref p]/\SqL X.K H p (bs.map V.bl)/\Q (.bl (bs.any id)) H):=by
 intro pins s σ H xs us Q B r h;obtain⟨p,bs,rfl,F,q⟩:=h;obtain⟨u,rfl,G⟩:=vals1 r;cases G;obtain⟨its,I,pl,R⟩:=B.list F;have e:=zh3 I;subst e;have J0:p<s.heap.objs.size:=by obtain⟨o,n,e,_⟩:=pl;exact Heap.lt_size e
 refine call_any_walk (wpAny_pyIter_list pl.isList ⟨s.heap.objs.size,_,[s.heap.objs.size],_,_,_,λi=>bs.getD i false,J,Walks.list (A:=X.A.in1) (show X.A.in1.handled=none from B.ok.hd D) _ p (Nat.ne_of_lt J0) (bs.map Value.bool).toArray,⟨⟨_,Heap.get?_push_size _ J,J,J⟩,?_⟩,zju bs,λh' tk L=>?_⟩)
 .exact pl.isList.at λo e=>Heap.get?_push_of_some _ e
 .have el:(bs.map Value.bool).toArray.size=bs.length:=by simp
  rw[el,zh4];refine⟨.bl _,H,B.kept (t':=tk) λb o e=>L b o ?_ (Heap.get?_push_of_some _ e),J,q⟩;intro M;have O:b=s.heap.objs.size:=by simpa using M
  exact absurd (O ▸ Heap.lt_size e) (Nat.lt_irrefl _)
noncomputable def stAt(x y:Str)(k:Nat):Bool:=decide (k+y.length<=x.length)&&Builtin.Str.subAt x y k
theorem zeu:MtR X "str.startswith" (λx vs H Q=>∃a b,x=.str a/\vs=[.str b]/\Q (.bl (stAt a b 0)) H):=by
 intro pins s σ H x vs v us Q B D G h;obtain⟨a,b,rfl,rfl,q⟩:=h;obtain⟨t,rfl⟩:=D;obtain⟨u,rfl,t',rfl⟩:=G.one;exact call_gives F.slot_str_startswith (typeIs_str s a t) F.entry_str_startswith (F.args_str_startswith_2 _ _) (gives_str_startswith a b t t') ⟨.bl _,H,B,J,q⟩
theorem zcJ:MtR X "str.startswith" (λx vs H Q=>∃a b k,x=.str a/\vs=[.str b,.int (k:Nat)]/\Q (.bl (stAt a b k)) H):=by
 intro pins s σ H x vs v us Q B D G h;obtain⟨a,b,k,rfl,rfl,q⟩:=h;obtain⟨t,rfl⟩:=D;obtain⟨u,J0,rfl,⟨t',rfl⟩,⟨I,rfl⟩⟩:=G.two;refine call_gives F.slot_str_startswith (typeIs_str s a t) F.entry_str_startswith (F.args_str_startswith_3 _ _ _) (gives_str_startswith_from a b k t t' I) ?_;have e:fromIndex a.length (k:Int)=k:=by unfold fromIndex;rw[if_neg (by omega)];omega
 rw[e];exact⟨.bl _,H,B,J,q⟩
end
section
variable {X:Cx}{e:Expr}{tg:Expr}{sc:Scope}{N':List Str}{js:List (Option Nat)}
end
section
variable {X:Cx}
end
section
variable {prog:Program}{w:World}{A:Around}{E:Value->Shared->Prop}{s:Shared}
end
noncomputable def SameX(p:Addr)(H H':Hp):Prop:=∀b o,b≠p->H b=some o->H' b=some o
theorem SameX.refl{p:Addr}{H:Hp}:SameX p H H:=λ_ _ _ e=>e
theorem SameX.trans{p:Addr}{H H1 H2:Hp}(a:SameX p H H1)(b:SameX p H1 H2):SameX p H H2:=λc o n e=>b c o n (a c o n e)
theorem SameX.upd{p:Addr}{H H':Hp}{o:HO}(a:SameX p H H'):SameX p H (upd H' p o):=λc u n e=>by rw[zah n];exact a c u n e
theorem Same.x{p:Addr}{H H':Hp}(a:Same H H'):SameX p H H':=λc o _ e=>a c o e
theorem Same.new{H:Hp}{p:Addr}{o:HO}(h:H p=none):Same H (upd H p o):=λb u e=>by rw[zah (zad e h)];exact e
structure ItOk(J0:It)(n:Nat)(item:Nat->V)(H0:Hp)(p:Addr):Prop where
 go:∀i H,i<n->SameX p H0 H->J0.go i H
 stop:∀H,SameX p H0 H->J0.stop n H
 yld:∀i H x H',i<n->SameX p H0 H->J0.yld i H x H'->H'=H/\x=item i
theorem zev{K:W.Frag}{a p:Addr}{xs:List V}{H0:Hp}(h:H0 a=some (.tup xs))(B:a≠p):ItOk (Itt K a) xs.length (λi=>xs.getD i .non) H0 p where
 go:=λi H hi k=>⟨xs,xs[i],SqT.of (k a _ B h),by simp[hi]⟩
 stop:=λH k=>⟨xs,SqT.of (k a _ B h),Nat.le_refl _⟩
 yld:=λi H v H' hi k ⟨e,q⟩=>⟨e,by
  have:=q xs (SqT.of (k a _ B h));rw[List.getD_eq_getElem?_getD,this];rfl⟩
theorem za7{K:W.Frag}{a p:Addr}{xs:List V}{H0:Hp}(h:H0 a=some (.lst xs))(B:a≠p):ItOk (Itl K a) xs.length (λi=>xs.getD i .non) H0 p where
 go:=λi H hi k=>⟨xs,xs[i],SqL.of (k a _ B h),by simp[hi]⟩
 stop:=λH k=>⟨xs,SqL.of (k a _ B h),Nat.le_refl _⟩
 yld:=λi H v H' hi k ⟨e,q⟩=>⟨e,by
  have:=q xs (SqL.of (k a _ B h));rw[List.getD_eq_getElem?_getD,this];rfl⟩
noncomputable def flatN(F:Nat->List V):Nat->List V
 |0=>[]
 |i+1=>flatN F i++F i
theorem zjw{J0:It}{g:TG}{tt:TT}{O:TR}{Qe:St->Hp->Prop}{R:St}{H0:Hp}{p:Addr}{D:List V}{n:Nat}{item:Nat->V}(F:Nat->List V)(P:St->Prop)(Y:P R)(Z:H0 p=some (.lst D))(M:ItOk J0 n item H0 p)(aa:∀i σ H (N:St->Hp->Prop),i<n->P σ->SameX p H0 H->H p=some (.lst (D++flatN F i))->(∀B I,P B->SameX p H I->I p=some (.lst (D++flatN F i++F i))->N B I) ->
   g (item i) σ H λB H2=>tt B H2 λb S=>if b=true then O B S N else N B S)(ab:∀σ H,P σ->SameX p H0 H->H p=some (.lst (D++flatN F n))->Qe σ H):tLoop J0 g tt O Qe R H0:=by
 refine⟨λi m σ H=>m=n-i/\i<=n/\P σ/\SameX p H0 H/\H p=some (.lst (D++flatN F i)),⟨n,J,Nat.zero_le _,Y,.refl,by simpa [flatN] using Z⟩,?_⟩;rintro i m σ H ⟨rfl,hi,U,G,W⟩;by_cases L:i<n
 .refine .inr ⟨M.go i H L G,λσ' H'=>P σ'/\SameX p H0 H'/\H' p=some (.lst (D++flatN F (i+1))),λσ' H' ⟨a,b,c⟩=>⟨n-(i+1),by omega,J,L,a,b,c⟩,λx H' y=>?_⟩;obtain⟨rfl,rfl⟩:=M.yld i H x H' L G y;refine aa i σ H' _ L U G W λB I ac ad ae=>⟨ac,G.trans ad,?_⟩;rw[ae];simp only[flatN,List.append_assoc]
 .have e:i=n:=by omega
  subst e;exact .inl ⟨M.stop H G,ab σ H U G W⟩
theorem zgt{F:Nat->List V}{k:Nat}(h:∀i,(F i).length<=k):∀n,(flatN F n).length<=n*k
 |0=>by simp[flatN]
 |n+1=>by
  have:=zgt h n;have h2:=h n;simp only[flatN,List.length_append,Nat.succ_mul];omega
theorem zjx{J0:It}{g:TG}{tt:TT}{te:TE}{Qe:St->Hp->Prop}{L:St}{H0:Hp}{p:Addr}{G:List V}{n:Nat}{item:Nat->V}(f:Nat->Option V)(P:St->Prop)(U:P L)(W:H0 p=some (.lst G))(hsz:G.length+n<=100000)(Y:ItOk J0 n item H0 p)(Z:∀i σ H (C:Option V->St->Hp->Prop),i<n->P σ->SameX p H0 H->(∀B D,P B->Same H D->C (f i) B D) ->
   g (item i) σ H λB H2=>tt B H2 λb M=>if b=true then te B M λv D=>C (some v) B D else C none B M)(aa:∀σ H,P σ->SameX p H0 H->H p=some (.lst (G++flatN (λi=>(f i).toList) n))->Qe σ H):tLoop J0 g tt (tApp p te) Qe L H0:=by
 refine zjw (λi=>(f i).toList) P U W Y (λi σ H N hi ab ac ad O=>?_) aa;refine Z i σ H (λo B D=>match o with
  |some v=>∃ys,D p=some (.lst ys)/\ys.length<sizeLine/\N B (upd D p (.lst (ys++[v])))
  |none=>N B D) hi ab ac λB D R I=>?_
 have S:=I p _ ad;cases e:f i with
 |none=>
  refine O B D R I.x ?_;rw[e];simpa using S
 |some v=>
  refine⟨_,S,?_,O B _ R (I.x.upd) ?_⟩
  .have h1:=zgt (F:=λi=>(f i).toList) (k:=1) (λi=>by show ((f i).toList).length<=1;cases f i<;>simp) i;have h2:(100000:Nat)<sizeLine:=by rw[sizeLine_eq];decide
   rw[List.length_append];omega
  .rw[zab,e];rfl
theorem zbE{J0:It}{g:TG}{tt:TT}{te:TE}{Qe:St->Hp->Prop}{G:St}{H0:Hp}{p:Addr}{n:Nat}{item:Nat->V}(f:Nat->Option V)(P:St->Prop)(O:P G)(I:H0 p=none)(hsz:n<=100000)(R:ItOk J0 n item (upd H0 p (.lst [])) p)(S:∀i σ H (C:Option V->St->Hp->Prop),i<n->P σ->Same H0 H->(∀B D,P B->Same H D->C (f i) B D) ->
   g (item i) σ H λB H2=>tt B H2 λb L=>if b=true then te B L λv D=>C (some v) B D else C none B L)(U:∀σ H,Same H0 H->H p=some (.lst (flatN (λi=>(f i).toList) n))->Qe σ H):tLoop J0 g tt (tApp p te) Qe G (upd H0 p (.lst [])):=by
 have W:Same H0 (upd H0 p (.lst [])):=Same.new I;have M:∀ {H},SameX p (upd H0 p (.lst [])) H->Same H0 H:=λ{H} h b o e=>h b o (zad e I) (W b o e);refine zjx f P O zab (by simpa using hsz) R (λi σ H C hi Y F Z=>S i σ H C hi Y (M F) Z) λσ H _ F aa=>U σ H (M F) (by simpa using aa)
theorem zbH(f:Nat->V):∀n,flatN (λi=>(some (f i)).toList) n=(List.range n).map f
 |0=>rfl
 |n+1=>by
  have:=zbH f n;simp only[Option.toList_some] at this;simp only[flatN,List.range_succ,List.map_append,this,Option.toList_some,List.map_cons,List.map_nil]
end L2
namespace T1
open PySem L2
inductive D where
 |non|bl (b:Bool)|int (i:Int)|str (x:Str)|tup (xs:List D)|lst (xs:List D)
mutual
/-- the value v stands for d;z is an address apart (the law's bag) -/
inductive Rep(z:Addr)(H:Hp):V->D->Prop where
 |non:Rep z H .non .non
 |bl (b:Bool):Rep z H (.bl b) (.bl b)
 |int (i:Int):Rep z H (.int i) (.int i)
 |str (x:Str) (h:x.length<=1000):Rep z H (.str x) (.str x)
 |tup {a:Addr} {xs:List V} {ds:List D} (h:H a=some (.tup xs)) (B:a≠z) (r:Reps z H xs ds):Rep z H (.ref a) (.tup ds)
 |lst {a:Addr} {xs:List V} {ds:List D} (h:H a=some (.lst xs)) (B:a≠z) (r:Reps z H xs ds):Rep z H (.ref a) (.lst ds)
inductive Reps(z:Addr)(H:Hp):List V->List D->Prop where
 |nil:Reps z H [] []
 |cons {v:V} {d:D} {vs:List V} {ds:List D} (h:Rep z H v d) (t:Reps z H vs ds):Reps z H (v::vs) (d::ds)
end
mutual
theorem Rep.mono{z:Addr}{H H':Hp}(k:SameX z H H'):∀ {v:V}{d:D},Rep z H v d->Rep z H' v d
 |_,_,.non=>.non
 |_,_,.bl b=>.bl b
 |_,_,.int i=>.int i
 |_,_,.str x h=>.str x h
 |_,_,.tup h B r=>.tup (k _ _ B h) B (Reps.mono k r)
 |_,_,.lst h B r=>.lst (k _ _ B h) B (Reps.mono k r)
theorem Reps.mono{z:Addr}{H H':Hp}(k:SameX z H H'):∀ {vs:List V}{ds:List D},Reps z H vs ds->Reps z H' vs ds
 |_,_,.nil=>.nil
 |_,_,.cons h t=>.cons (Rep.mono k h) (Reps.mono k t)
end
theorem Reps.length{z:Addr}{H:Hp}:∀ {vs:List V}{ds:List D},Reps z H vs ds->vs.length=ds.length
 |_,_,.nil=>rfl
 |_,_,.cons _ t=>by simp[Reps.length t]
theorem Reps.get{z:Addr}{H:Hp}:∀ {vs:List V}{ds:List D}{i:Nat},Reps z H vs ds->i<ds.length->Rep z H (vs.getD i .non) (ds.getD i .non)
 |_,_,0,.cons h _,_=>h
 |_,_,i+1,.cons _ t,hi=>by
  have:=Reps.get (i:=i) t (by simpa using hi);simpa using this
theorem b_len:bootBuiltins "len"=some (.builtin "len"):=by decide +kernel
theorem zl4:bootBuiltins "any"=some (.builtin "any"):=by decide +kernel
theorem zkO:bootBuiltins "min"=some (.builtin "min"):=by decide +kernel
theorem b_sorted:bootBuiltins "sorted"=some (.builtin "sorted"):=by decide +kernel
theorem zl5:bootBuiltins "int"=some (.type "int"):=by decide +kernel
theorem zew:bootBuiltins "tuple"=some (.type "tuple"):=by decide +kernel
theorem zgu:bootBuiltins "list"=some (.type "list"):=by decide +kernel
noncomputable def zkl(S sc:Scope):Bool:=sc.names.all λx=>(x.2 != .local || sc.names.lookup x.1==some .local)&&x.2 != .cell&&(x.2 != .free || S.names.lookup x.1==some .cell)
theorem zbl{X:Cx}{sc:Scope}(S:Scope)(h:zkl S sc=true)(D:X.env.scope=S:=by rfl)(F:sc.kind=.function:=by rfl):BlkOk X sc:=by
 unfold zkl at h;rw[List.all_eq_true] at h;refine⟨F,λx B G=>?_,λx B I=>?_,λx B J0=>?_⟩
 .have:=h x B;rw[G] at this;simp at this;exact this
 .have:=h x B;rw[I] at this;simp at this
 .have:=h x B;rw[J0] at this;simp at this;show X.env.scope.names.lookup x.1=some .cell;rw[D];exact this
end T1
namespace L2
open PySem PySem.Spec PyProof.Rows
theorem zdk{J0:It}{g:TG}{te:TE}{Qe:St->Hp->Prop}{G:St}{H0:Hp}{p:Addr}{n:Nat}{item:Nat->V}(f:Nat->V)(P:St->Prop)(L:P G)(M:H0 p=none)(hsz:n<=100000)(O:ItOk J0 n item (upd H0 p (.lst [])) p)(R:∀i σ H (C:V->St->Hp->Prop),i<n->P σ->Same H0 H->(∀B D,P B->Same H D->C (f i) B D)->g (item i) σ H λB H2=>te B H2 λv D=>C v B D)(S:∀σ H,Same H0 H->H p=some (.lst ((List.range n).map f))->Qe σ H):tLoop J0 g tYes (tApp p te) Qe G (upd H0 p (.lst [])):=
 zbE (λi=>some (f i)) P L M hsz O (λi σ H C hi U F W=>R i σ H (λv B D=>C (some v) B D) hi U F W) λσ H F I=>S σ H F (by rw[zbH] at I;exact I)
theorem zcK{B:Type} [Inhabited B] (xs:List B) (d:B) (f:B->V):(List.range xs.length).map (λi=>f (xs.getD i d))=xs.map f:=by
 apply List.ext_getElem?;intro i;rw[List.getElem?_map,List.getElem?_map];by_cases h:i<xs.length
 .simp[h]
 .simp[h]
section
variable {X:Cx}{sc:Scope}{cl:List (Str×Addr)}{N':List Str}{s:Shared}{H:Hp}{fp:List Addr}
theorem zex{es:List Expr}{k:Nat}{t:TGs}{pos:Pos}(n:Nat)(B:X.calm=true)(h:PGs (X.blk sc cl N' s H fp) es t)(D:(assignEach es (X.blk sc cl N' s H fp).env).length=n:=by rfl)(F:(assignEach es (X.blk sc cl N' s H fp).env).findIdx? (·.1)=none:=by rfl):PG (X.blk sc cl N' s H fp) (.Tuple es k pos) (gTup X.K n t):=zbG B h D F
theorem zb1:IxR (X.blk sc cl N' s H fp) (rIxT X.K):=zaE
end
section
variable {X:Cx}
noncomputable def zlF:R2:=λx y H Q=>∃p q xs,x=.ref p/\y=.ref q/\H p=some (.lst xs)/\H q=some (.lst [])/\Q (.bl (!xs.isEmpty)) H
theorem zcb(D:X.A.units<cLine):OpR X (compareOp .NotEq) zlF:=by
 intro pins s σ H x y v u Q B G I h;obtain⟨p,q,xs,rfl,rfl,J0,L,k⟩:=h;cases G;cases I;obtain⟨its,M,pl,R⟩:=B.list (SqL.of J0);obtain⟨S,O,F,U⟩:=B.list (SqL.of L);cases O;show wpAny _ _ (richCompare .NotEq _ _) _ _ _;cases M with
 |nil=>exact SeqAt.RcNeAt.lists (e:=λ_=>true) pl.isList F.isList rfl D (λj h1 _=>absurd h1 (by simp)) _ _ _ _ ⟨.bl _,H,B,J,k⟩
 |cons r t=>exact SeqAt.RcNeAt.lists_lengths pl.isList F.isList (by simp) D _ _ _ _ ⟨.bl _,H,B,J,k⟩
end
section
variable {X:Cx}{pins:List (Addr×Obj)}{σ:St}{H:Hp}{s:Shared}{h':Heap}{m:Str->Option Value}
theorem zgv(B:Addr):News (Att.noObjs s.heap) B s.heap (Att.ledger s.heap B B):=by
 rintro⟨a,o⟩ D;obtain⟨n1,_,e⟩:=Att.mem_ledger.mp D;exact⟨e,n1,Att.noObjs_get _ _⟩
theorem zdl{B:Addr}(N:News (Att.noObjs s.heap) B h' (Att.ledger s.heap B B)):∀b o,b≠B->s.heap.get? b=some o->h'.get? b=some o:=λb o D e=>(N (b,o) (Att.mem_ledger.mpr ⟨D,D,e⟩)).1
theorem Inv.lib{tk:Nat}(D:Inv X pins σ H s)(I:s.heap.Ns X.env.locals m)(F:Fr (Att.noObjs s.heap) X.env.locals h' m)(N:News (Att.noObjs s.heap) X.env.locals h' (Att.ledger s.heap X.env.locals X.env.locals)):Inv X pins σ H { s with heap:=h',toks:=tk }:=by
 have k:=zdl N;have G:∀b u,H b=some u->b≠X.env.locals:=λb u e z=>by rw[z,D.free] at e;cases e
 refine D.step (g':=s.gens) (d':=s.drawn) (ch:=[]) (λ_ z=>nomatch z) (λb o B _ _ e _=>k b o B e) (λb o B _ _ e _=>⟨o.slots,k b o B e⟩) (λ_ _ _ _ n=>n) (λb o _ e=>?_) (λ_ _ e=>e) (λ_ _ _ e=>e) (λb ps e=>⟨#[],by rw[e];simp⟩) (λJ0 L=>?_) (λb u e=>?_) D.bare
 .by_cases B:b=X.env.locals
  .obtain⟨o',_,_,M,_⟩:=F.ns;exact⟨o',by rw[B];exact M⟩
  .exact⟨o,k b o B e⟩
 .have:J0=m:=funext λx=>L.agree I x;rw[this];exact F.ns
 .refine(D.hok b u e).stay (λc v O q=>k c v ?_ q) (λ_ q=>q) λ_ _ q=>q;rcases O with z|z
  .rw[z];exact G b u e
  .exact G c _ z
theorem Inv.libNew{tk:Nat}{D:Addr}{G:Obj}{o:HO}(B:Inv X pins σ H s)(U:s.heap.Ns X.env.locals m)(F:Fr (Att.noObjs s.heap) X.env.locals h' m)(N:News (Att.noObjs s.heap) X.env.locals h' ((D,G)::Att.ledger s.heap X.env.locals X.env.locals))(V:∀q∈Att.ledger s.heap X.env.locals X.env.locals,q.1<D)(W:ObjOk X.prog X.w (upd H D o) h' D o):H D=none/\Inv X pins σ (upd H D o) { s with heap:=h',toks:=tk }:=by
 have N':News (Att.noObjs s.heap) X.env.locals h' (Att.ledger s.heap X.env.locals X.env.locals):=λp Y=>N p (List.mem_cons_of_mem _ Y);have k:=zdl N';have L:D≠X.env.locals:=(N (D,G) List.mem_cons_self).2.1;have M:∀o',s.heap.get? D≠some o':=λo' e=>absurd (V (D,o') (Att.mem_ledger.mpr ⟨L,L,e⟩)) (Nat.lt_irrefl _);have O:∀b u,H b=some u->b≠X.env.locals:=λb u e z=>by rw[z,B.free] at e;cases e
 have Z:∀b u,H b=some u->∃o',s.heap.get? b=some o':=λb u e=>by
  have ae:=(B.hok b u e).lt;cases u with
  |lst xs=>obtain⟨_,_,_,_,q⟩:=B.hok b _ e;exact⟨_,q⟩
  |tup xs=>obtain⟨_,_,_,G,q,_⟩:=B.hok b _ e;exact⟨G,q⟩
  |dK kvs=>obtain⟨_,_,_,_,G,_,_,q,_⟩:=B.hok b _ e;exact⟨G,q⟩
  |dT kvs=>obtain⟨_,_,_,_,G,_,_,q,_⟩:=B.hok b _ e;exact⟨G,q⟩
  |set S n=>obtain⟨G,_,_,_,q,_⟩:=B.hok b _ e;exact⟨G,q⟩
  |ins C dx fs=>obtain⟨_,_,_,q,_⟩:=B.hok b _ e;exact⟨_,q⟩
  |own y=>obtain⟨G,q⟩:=B.hok b _ e;exact⟨G,q⟩
  |xd fs=>obtain⟨_,⟨G,_,_,q,_⟩,_⟩:=B.hok b _ e;exact⟨G,q⟩
  |rng lo hi=>obtain⟨_,_,_,q⟩:=B.hok b _ e;exact⟨_,q⟩
  |frz G u=>obtain⟨q,_⟩:=B.hok b _ e;exact⟨_,q⟩
  |tbl ps=>exact⟨_,show s.heap.get? b=some _ from B.hok b _ e⟩
  |met f y=>exact⟨_,show s.heap.get? b=some _ from B.hok b _ e⟩
  |ext af=>obtain⟨_,q,_⟩:=B.hok b _ e;exact q
 have R:H D=none:=by
  cases e:H D with
  |none=>rfl
  |some u=>
   obtain⟨o',q⟩:=Z D u e;exact absurd q (M o')
 have J0:∀b u,H b=some u->b≠D:=λb u e=>zad e R;refine⟨R,B.step (g':=s.gens) (d':=s.drawn) (ch:=[]) (λ_ z=>nomatch z) (λb o I _ _ e _=>k b o I e) (λb o I _ _ e _=>⟨o.slots,k b o I e⟩) (λb o' _ e n=>?_) (λb o _ e=>?_) (λb xs e=>by rw[zah (J0 b _ e)];exact e) (λb _ _ e=>by rw[zah (J0 b _ e)];exact e) (λb ps e=>⟨#[],by rw[zah (J0 b _ e),e];simp⟩) (λaa ab=>?_) (λb u e=>?_) B.bare⟩
 .rw[zah (λz=>M o' (by rw[←z];exact e))];exact n
 .by_cases I:b=X.env.locals
  .obtain⟨o',_,_,ac,_⟩:=F.ns;exact⟨o',by rw[I];exact ac⟩
  .exact⟨o,k b o I e⟩
 .have:aa=m:=funext λx=>ab.agree U x;rw[this];exact F.ns
 .by_cases I:b=D
  .subst I;rw[zab] at e;cases e;exact W
  .rw[zah I] at e;refine(B.hok b u e).stay (λc v ad q=>k c v ?_ q) (λc q=>by rw[zah (J0 c _ q)];exact q) λc _ q=>by rw[zah (J0 c _ q)];exact q
   rcases ad with z|z
   .rw[z];exact O b u e
   .exact O c _ z
end
noncomputable def strOf:Value->Str
 |.str x _=>x
 |_=>⟨#[]⟩
theorem zc0:∀ {xs:List Str}{us:List Value},Vals (xs.map V.str) us->us.map strOf=xs/\∀u∈us,∃t,u=.str (strOf u) t
 |[],_,.nil=>⟨J,λu hu=>nomatch hu⟩
 |x::r,_,.cons h t=>by
  obtain⟨B,rfl⟩:=h;obtain⟨e,q⟩:=zc0 t;refine⟨by rw[List.map_cons,e];rfl,λu hu=>?_⟩;rcases List.mem_cons.mp hu with rfl|hu
  .exact⟨B,J⟩
  .exact q u hu
theorem zdd:∀ {us:List Value},(∀u∈us,∃t,u=.str (strOf u) t)->Vals ((us.map strOf).map V.str) us
 |[],_=>.nil
 |u::r,h=>.cons (h u List.mem_cons_self) (zdd λv B=>h v (List.mem_cons_of_mem _ B))
theorem zgw:∀its:List Value,(its.map λu=>((strOf u).length:Int)).zip its=its.map λu=>(((strOf u).length:Int),u)
 |[]=>rfl
 |a::r=>by rw[List.map_cons,List.zip_cons_cons,List.map_cons,zgw r]
noncomputable def zgx(K:W.Frag)(b:Bool):List V->Hp->VK->Prop:=λvs H Q=>∃(l:Addr) (xs:List Str),vs=[.ref l]/\SqL K H l (xs.map V.str)/\xs.length<64/\(∀y∈xs,y.length<=sizeLine) /\
 ∀(p:Addr) (ys:List Str),H p=none->ys.Perm xs->ys.Pairwise (λa c=>if b then c.length<=a.length else a.length<=c.length)->Q (.ref p) (upd H p (.lst (ys.map V.str)))
theorem zd7{X:Cx}{pins:List (Addr×Obj)}{σ:St}{H:Hp}{s:Shared}{Q:VK}{vs:List V}{us:List Value}{I:List (Str×Value)}{b:Bool}(J0:Inv X pins σ H s)(r:Vals vs us)(h:zgx X.K b vs H Q)(ab:∀l,argsOk "sorted" ⟨[.ref l],I⟩)(ac:∀x,argsOk "list.sort" ⟨[.ref x],I⟩)(ad:∀x,Builtin.«list.sort» ⟨[.ref x],I⟩=ksk_tree x (.builtin "len") b):wpAny (model X.prog X.w) X.A (call (.builtin "sorted") us I) (EP X pins σ Q) X.xe s:=by
 obtain⟨l,xs,rfl,ae,aA,af,q⟩:=h;obtain⟨u,rfl,ag⟩:=vals1 r;cases ag;obtain⟨its,ah,pl,_⟩:=J0.list ae;obtain⟨m,U,_⟩:=id J0.loc;obtain⟨L,W⟩:=zc0 ah;have aB:its.length=xs.length:=by rw[←L,List.length_map]
 have aC:=zcG;refine ksk_sorted (b:=b) (kz:=its.map λu=>((strOf u).length:Int)) (f:=.builtin "len") (Att.fr_all U) (zgv X.env.locals) pl.isList (by simp) (by omega) (ab l) ac ad (λi v k Y Z h tk aD F N=>?_) (λD h' tk M c F N ai aj=>?_)
 .have B:=List.mem_of_getElem? Y;obtain⟨t,ak⟩:=W v B;have al:k=((strOf v).length:Int):=by
   rw[List.getElem?_map,Y] at Z;exact(Option.some.inj Z).symm
  have aE:(strOf v).length<=sizeLine:=af _ (by rw[←L];exact List.mem_map_of_mem B);rw[ak,al];refine len_str (by omega) ?_;exact KskEnd.intro F N λp G=>G
 .obtain⟨ps,G,am,ao⟩:=aj;have ap:(its.map λu=>((strOf u).length:Int)).zip its=its.map λu=>(((strOf u).length:Int),u):=by
   exact zgw its
  rw[ap] at G;have B:∀p∈ps,p.1=((strOf p.2).length:Int)/\p.2∈its:=λp O=>by
   obtain⟨u,R,rfl⟩:=List.mem_map.mp (G.mem_iff.mp O);exact⟨J,R⟩
  have aa:(ps.map λp=>strOf p.2).Perm xs:=by
   have:=G.map λp=>strOf p.2;rw[List.map_map] at this;have aq:its.map ((λp:Int×Value=>strOf p.2)∘λu=>(((strOf u).length:Int),u))=xs:=by rw[←L];rfl
   rw[aq] at this;exact this
  have ar:(ps.map λp=>strOf p.2).Pairwise (λa c=>if b then c.length<=a.length else a.length<=c.length):=by
   rw[List.pairwise_map];refine ao.imp_of_mem λ{p q} h1 h2 S=>?_;have as:=(B p h1).1;have au:=(B q h2).1;rw[as,au] at S;cases b
   .simp at S ⊢;omega
   .simp at S ⊢;omega
  have av:Vals ((ps.map λp=>strOf p.2).map V.str) M.toList:=by
   rw[am];have:=zdd (us:=ps.map Prod.snd) λu R=>by
    obtain⟨p,O,rfl⟩:=List.mem_map.mp R;exact W _ (B p O).2
   have aw:(ps.map Prod.snd).map strOf=ps.map λp=>strOf p.2:=by rw[List.map_map];rfl
   rw[aw] at this;exact this
  have ax:(ps.map λp=>strOf p.2).length=xs.length:=aa.length_eq;have aF:(64:Nat)<=sizeLine:=by rw[sizeLine_eq];decide
  obtain⟨ay,az⟩:=J0.libNew (tk:=tk) (o:=.lst ((ps.map λp=>strOf p.2).map V.str)) U F N ai ⟨by rw[List.length_map,ax];omega,M.toList,c,av,(N (D,seqObj "list" M c) List.mem_cons_self).1⟩;exact⟨.ref D,_,az,J,q D _ ay aa ar⟩
theorem zey{X:Cx}{e:Expr}{te:TE}{p p2 F pos:Pos}(G:X.mg "sorted"=none)(I:X.mg "len"=none)(J0:PE X e te)(L:Gl X "sorted":=by rfl)(M:Gl X "len":=by rfl)(h1:starEach [e] X.env=(false,eval e X.env)::starEach [] X.env:=by rfl)(h2:backTo pos (starEach [e] X.env)=(false,eval e X.env)::backTo pos (starEach [] X.env):=by rfl)(O:(backTo pos (starEach [e] X.env)).any (·.1)=false:=by rfl) :
  PE X (.Call (.Name "sorted" p) [e] [⟨some "key",.Name "len" p2,F⟩] pos) (tCB (zgx X.K false) (tCons te tNil)):=by
 intro pins s σ H Q B h;refine wpAny_Call_Name_kw (zct B L G T1.b_sorted ?_ (by decide) (by decide));refine callWith_kw (thn ((zaa J0 zae h1) pos pins s σ H _ B h) λus S R=>?_) h2 O;obtain⟨vs,H1,D,r,q⟩:=R;refine kws_cons (zct D M I T1.b_len (kws_nil ?_) (by decide) (by decide));exact zd7 D r q (λl=>ksk_s1 _ _) (λx=>ksk_l1 _ _) (λx=>ksk_t4 "len" x)
noncomputable def cutS(z:Str)(lo hi:Option Int):Str:=⟨((z.cps.toList.drop (HT.sIx z.length 0 lo)).take (HT.sIx z.length z.length hi-HT.sIx z.length 0 lo)).toArray⟩
theorem zkm(v:Int)(n d:Nat):max (0:Int) (min (if v<0 then v+(n:Int) else v) (n:Int))=((HT.sIx n d (some v):Nat):Int):=by
 show _=(((if v<0 then (v+(n:Int)).toNat else min v.toNat n):Nat):Int);by_cases B:v<0
 .rw[if_pos B,if_pos B];omega
 .rw[if_neg B,if_neg B];omega
theorem zfV(lo hi:Option Int)(n:Nat):Builtin.Str.strSliceIndices lo hi 1 n=(List.range (HT.sIx n n hi-HT.sIx n 0 lo)).map λk=>HT.sIx n 0 lo+k:=by
 have B:∀a b:Nat,sliceRange (a:Int) (b:Int) 1=(List.range (b-a)).map λk=>a+k:=λa b=>by
  unfold sliceRange;have e:((if (1:Int)>0 then (if (a:Int)<b then ((b:Int)-a+1-1) / 1 else 0) else (if (a:Int)>b then ((a:Int)-b-1-1) / (-1) else 0)):Int).toNat=b-a:=by
   rw[if_pos (by decide)];by_cases h:(a:Int)<b
   .rw[if_pos h,Int.ediv_one];omega
   .rw[if_neg h];omega
  simp only[e];refine List.map_congr_left λk _=>?_;omega
 have D:(match lo with|none=>(if (1:Int)>0 then (0:Int) else (n:Int)-1)|some i=>if (1:Int)>0 then max 0 (min (if i<0 then i+(n:Int) else i) (n:Int)) else max (-1) (min (if i<0 then i+(n:Int) else i) ((n:Int)-1)))=((HT.sIx n 0 lo:Nat):Int):=by
  cases lo with
  |none=>rfl
  |some v=>
   show (if (1:Int)>0 then _ else _)=_;rw[if_pos (by decide)];exact zkm v n 0
 have F:(match hi with|none=>(if (1:Int)>0 then (n:Int) else -1)|some i=>if (1:Int)>0 then max 0 (min (if i<0 then i+(n:Int) else i) (n:Int)) else max (-1) (min (if i<0 then i+(n:Int) else i) ((n:Int)-1)))=((HT.sIx n n hi:Nat):Int):=by
  cases hi with
  |none=>rfl
  |some v=>
   show (if (1:Int)>0 then _ else _)=_;rw[if_pos (by decide)];exact zkm v n n
 unfold Builtin.Str.strSliceIndices;refine Eq.trans ?_ (B _ _);rw[←D,←F];cases lo<;>cases hi<;>rfl
theorem zh5(z:Str)(lo hi:Option Int):Txt.slice z lo hi=cutS z lo hi:=by
 have e:=zfV lo hi z.length;have h2:=HT.sIx_le z.length z.length (Nat.le_refl _) hi;have L:z.cps.toList.length=z.length:=by simp;rfl
 have F:(Builtin.Str.strSliceIndices lo hi 1 z.length).filterMap (z.cps[·]?)=(z.cps.toList.drop (HT.sIx z.length 0 lo)).take (HT.sIx z.length z.length hi-HT.sIx z.length 0 lo):=by
  rw[e];by_cases h:HT.sIx z.length 0 lo<=HT.sIx z.length z.length hi
  .have G:=StrLaws.picks z.cps.toList (HT.sIx z.length z.length hi-HT.sIx z.length 0 lo) (HT.sIx z.length 0 lo) (by omega);simpa using G
  .have:HT.sIx z.length z.length hi-HT.sIx z.length 0 lo=0:=by omega
   rw[this];simp
 unfold Txt.slice;split
 .rename_i hw;have D:(Builtin.Str.strSliceIndices lo hi 1 z.length).length=z.length:=by simpa using hw
  rw[e,List.length_map,List.length_range] at D;unfold cutS;rw[D];obtain⟨B⟩:=z;by_cases I:B.size=0
  .have:B=#[]:=Array.eq_empty_of_size_eq_zero I;subst this;simp[Str.length]
  .have J0:HT.sIx (Str.mk B).length 0 lo=0:=by
    have:(Str.mk B).length=B.size:=rfl;omega
   rw[J0];have:(Str.mk B).length=B.toList.length:=by simp;rfl
   rw[this,List.drop_zero];show Str.mk B=⟨(B.toList.take B.toList.length).toArray⟩;rw[List.take_length]
 .unfold cutS;rw[F]
noncomputable def rSlS:V->Option Int->Option Int->Hp->VK->Prop:=λx lo hi H Q=>∃z,x=.str z/\z.length<=sizeLine/\Q (.str (cutS z lo hi)) H
theorem zbp{X:Cx}:SlR X rSlS:=by
 intro pins s σ H x v I J0 lo hi L Q M O R pl D h;obtain⟨z,rfl,S,q⟩:=h;obtain⟨t,rfl⟩:=O;rw[←zh5] at q;refine⟨"str",_,F.slot_str_getitem.lookup,typeIs_str _ _ _,?_⟩;have B:∀(l u:Option (Int×Tok)),l.map (·.1)=lo->u.map (·.1)=hi->I=partValue l->J0=partValue u->wpAny (model X.prog X.w) X.A (getItem (.str z t) (.ref L)) (EP X pins σ Q) X.xe s:=λl u U V W Y=>by
  subst U V W Y;obtain⟨o,Z,aa,ab⟩:=R;refine wpAny_getItem_str_slice (l:=l) (u:=u) (st:=none) ⟨o,Z,aa,ab⟩ rfl ?_;exact post_val_or_str ⟨Nat.le_trans (Txt.slice_le z _ _) S,λt' k=>⟨.str _,H,M.tok _,⟨_,J⟩,q⟩⟩
 cases pl with
 |none=>
  cases D with
  |none=>exact B none none rfl rfl rfl rfl
  |int j u=>exact B none (some (j,u)) rfl rfl rfl rfl
 |int i G=>
  cases D with
  |none=>exact B (some (i,G)) none rfl rfl rfl rfl
  |int j u=>exact B (some (i,G)) (some (j,u)) rfl rfl rfl rfl
noncomputable def tRev(K:W.Frag)(te B:TE):TE:=λσ H Q=>te σ H λx H1=>B σ H1 λk H2=>∃a xs,x=.ref a/\k=.int (-1)/\SqL K H2 a xs/\∀p,H2 p=none->Q (.ref p) (upd H2 p (.lst xs.reverse))
theorem zkn{X:Cx}{e st:Expr}{te D:TE}{p2 pos:Pos}(L:PE X e te)(M:PE X st D)(O:∀σ H (Q I:VK),D σ H Q->(∀v H',Q v H'->I v H')->D σ H I):PE X (.Subscript e (.Slice none none (some st) p2) pos) (tRev X.K te D):=by
 intro pins s σ H Q R h;refine Subscript_ (thn (L pins s σ H _ R h) λv S U=>?_);obtain⟨x,H1,Y,Z,q1⟩:=U;refine wpAny_Slice ?_;rw[evalPart_none];refine wpAny_pure ?_;refine wpAny_pure ?_;have aa:PO X (some st) (tPart D):=zaD M;have ab:tPart D σ H1 (λo H2=>∃i,o=some i/\∃a xs,x=.ref a/\V.int i=.int (-1)/\SqL X.K H2 a xs/\∀p,H2 p=none->Q (.ref p) (upd H2 p (.lst xs.reverse))):=O σ H1 _ _ q1 λk H2 ⟨a,xs,ac,ad,ae,af⟩=>⟨-1,ad,-1,J,a,xs,ac,J,ae,af⟩;refine thn (aa pins S σ H1 (λo H2=>∃i,o=some i/\∃a xs,x=.ref a/\V.int i=.int (-1)/\SqL X.K H2 a xs/\∀p,H2 p=none->Q (.ref p) (upd H2 p (.lst xs.reverse))) Y ?_) λF B ⟨k,H2,ag,ah,ai⟩=>?_
 .exact ab
 .obtain⟨i,rfl,a,xs,rfl,aj,ak,q⟩:=ai;cases aj;cases Z;have G:Inv X pins σ H2 { B with heap:=B.heap.push { cls:=.type "slice",data:=.fields #[.none,.none,F] } }:=ag.kept (t':=B.toks) λb al q=>Heap.get?_push_of_some _ q;obtain⟨its,r,J0,am⟩:=G.list ak;show wpAny (model X.prog X.w) X.A (subscriptTail e (.Slice none none (some st) p2) (.ref a) (.ref B.heap.objs.size)) (EP X pins σ Q) X.xe { B with heap:=B.heap.push { cls:=.type "slice",data:=.fields #[.none,.none,F] } };refine tail_any (ops:=[.ref a,.ref B.heap.objs.size]) J0.isList.typeIs slot_list_getitem.lookup ?_ (by with_unfolding_all rfl);refine wpAny_getItem_list_slice J0.isList (Heap.IsSliceOf.new ..) .none .none ah (by decide) ?_ (by rw[List.size_toArray];have:=r.length;omega);rw[W.krv_pick];refine⟨.ref _,_,G.laid (t':=B.toks) (o:=.lst xs.reverse) (λb al q=>Heap.get?_push_of_some _ q) (Nat.le_refl _) ?_,J,q _ (G.hok.fresh (Nat.le_refl _))⟩;exact⟨by rw[List.length_reverse];exact am,_,0,r.reverse,by
   have:=Heap.get?_push_size { B.heap.push { cls:=.type "slice",data:=.fields #[.none,.none,F] } with } (o:={ cls:=.type "list",data:=.seq its.toArray.toList.reverse.toArray }) rfl;exact this⟩
end L2
namespace T1
open PySem L2 PyProof.Rows
mutual
inductive Dep:Nat->D->Prop where
 |non (k:Nat):Dep k .non
 |bl (k:Nat) (b:Bool):Dep k (.bl b)
 |int (k:Nat) (i:Int):Dep k (.int i)
 |str (k:Nat) (x:Str):Dep k (.str x)
 |tup {k:Nat} {ds:List D} (t:Deps k ds):Dep (k+1) (.tup ds)
 |lst {k:Nat} {ds:List D} (t:Deps k ds):Dep (k+1) (.lst ds)
inductive Deps:Nat->List D->Prop where
 |nil (k:Nat):Deps k []
 |cons {k:Nat} {d:D} {ds:List D} (h:Dep k d) (t:Deps k ds):Deps k (d::ds)
end
theorem Deps.get{k:Nat}:∀ {ds:List D}{i:Nat},Deps k ds->i<ds.length->Dep k (ds.getD i .non)
 |_,0,.cons h _,_=>h
 |_,i+1,.cons _ t,hi=>by
  have:=Deps.get (i:=i) t (by simpa using hi);simpa using this
theorem zbm{xs:List V}{us:List Value}(r:Vals xs us){j:Nat}(h:j<us.toArray.size):RelV (xs.getD j .non) us.toArray[j]:=by
 have D:=r.length;have h':j<xs.length:=by rw[D];simpa using h
 obtain⟨u,B,F⟩:=r.get (i:=j) (x:=xs.getD j .non) (by simp[h']);have:us.toArray[j]=u:=by
  have h2:j<us.length:=by simpa using h
  have e:us[j]?=some us[j]:=List.getElem?_eq_getElem h2;rw[e] at B;simpa using Option.some.inj B
 rw[this];exact F
section
variable {X:Cx}{pins:List (Addr×Obj)}{σ:L2.St}{H:Hp}{s:Shared}{z z':Addr}
theorem zh6(Z:Inv X pins σ H s):∀(k:Nat){d:D},Dep k d->∀ {A:Around}{x y:V}{u v:Value},Room k A->Rep z H x d->Rep z' H y d->RelV x u->RelV y v->SeqAt.EqAt A s u v true:=by
 intro k;induction k with
 |zero=>
  intro d aa A x y u v J0 B F G I;cases aa with
  |non=>cases B;cases F;cases G;cases I;exact SeqAt.EqAt.same _
  |bl _ b=>cases B;cases F;cases G;cases I;exact SeqAt.EqAt.same _
  |int _ i=>cases B;cases F;obtain⟨t,rfl⟩:=G;obtain⟨t',rfl⟩:=I;have:=SeqAt.EqAt.int_int (A:=A) (s:=s) i t i t';simpa using this
  |str _ x=>cases B;cases F;obtain⟨t,rfl⟩:=G;obtain⟨t',rfl⟩:=I;have:=SeqAt.EqAt.str_str (A:=A) (s:=s) x t x t';simpa using this
 |succ k ag=>
  intro d aa A x y u v J0 B F G I;cases aa with
  |non=>cases B;cases F;cases G;cases I;exact SeqAt.EqAt.same _
  |bl _ b=>cases B;cases F;cases G;cases I;exact SeqAt.EqAt.same _
  |int _ i=>cases B;cases F;obtain⟨t,rfl⟩:=G;obtain⟨t',rfl⟩:=I;have:=SeqAt.EqAt.int_int (A:=A) (s:=s) i t i t';simpa using this
  |str _ x=>cases B;cases F;obtain⟨t,rfl⟩:=G;obtain⟨t',rfl⟩:=I;have:=SeqAt.EqAt.str_str (A:=A) (s:=s) x t x t';simpa using this
  |@tup _ ds t=>
   cases B with
   |@tup a xs _ ab _ L=>
    cases F with
    |@tup b ys _ ac _ M=>
     cases G;cases I;by_cases O:a=b
     .subst O;exact SeqAt.EqAt.same _
     .obtain⟨its,q1,ad,_⟩:=Z.tuple (SqT.of ab);obtain⟨R,S,p2,_⟩:=Z.tuple (SqT.of ac);have U:=q1.length;have ae:=S.length;have W:=L.length;have af:=M.length;have Y:=SeqAt.RcAt.tuples (e:=λ_=>true) ad p2 J0.units0 λj h1 h2=>ag (t.get (i:=j) (by rw[←W,U];simpa using h1)) J0.in1 (L.get (i:=j) (by rw[←W,U];simpa using h1)) (M.get (i:=j) (by rw[←af,ae];simpa using h2)) (zbm q1 h1) (zbm S h2);have e:((List.range (min its.toArray.size R.toArray.size)).all (λ_=>true)&&its.toArray.size==R.toArray.size)=true:=by
       have:its.toArray.size=R.toArray.size:=by simp;omega
       rw[this];simp
      rw[e] at Y;exact SeqAt.EqAt.of_refs O Y
  |@lst _ ds t=>
   cases B with
   |@lst a xs _ ab _ L=>
    cases F with
    |@lst b ys _ ac _ M=>
     cases G;cases I;by_cases O:a=b
     .subst O;exact SeqAt.EqAt.same _
     .obtain⟨its,q1,ad,_⟩:=Z.list (SqL.of ab);obtain⟨R,S,p2,_⟩:=Z.list (SqL.of ac);have U:=q1.length;have ae:=S.length;have W:=L.length;have af:=M.length;have hsz:its.toArray.size=R.toArray.size:=by simp;omega
      have Y:=SeqAt.RcAt.lists (e:=λ_=>true) ad.isList p2.isList hsz J0.units0 λj h1 h2=>ag (t.get (i:=j) (by rw[←W,U];simpa using h1)) J0.in1 (L.get (i:=j) (by rw[←W,U];simpa using h1)) (M.get (i:=j) (by rw[←af,ae];simpa using h2)) (zbm q1 h1) (zbm S h2);have e:(List.range its.toArray.size).all (λ_=>true)=true:=by simp
      rw[e] at Y;exact SeqAt.EqAt.of_refs O Y
noncomputable def rSame(b:Bool):R2:=λx y H Q=>∃z z' ds,Rep z H x (.lst ds)/\Rep z' H y (.lst ds)/\Deps 4 ds/\Q (.bl b) H
theorem zch(G:Room 5 X.A):OpR X (compareOp .NotEq) (rSame false):=by
 intro pins s σ H x y v u Q B M O h;obtain⟨z,z',ds,D,F,R,q⟩:=h;cases D with
 |@lst a xs _ S _ D=>
  cases F with
  |@lst b ys _ U _ F=>
   cases M;cases O;obtain⟨its,q1,V,_⟩:=B.list (SqL.of S);obtain⟨W,I,p2,_⟩:=B.list (SqL.of U);have J0:=q1.length;have Y:=I.length;have L:=D.length;have Z:=F.length;have hsz:its.toArray.size=W.toArray.size:=by simp;omega
   show wpAny _ _ (richCompare .NotEq _ _) _ _ _;refine SeqAt.RcNeAt.lists (e:=λ_=>true) V.isList p2.isList hsz G.units0 (λj h1 h2=>zh6 B 4 (R.get (i:=j) (by rw[←L,J0];simpa using h1)) G.in1 (D.get (i:=j) (by rw[←L,J0];simpa using h1)) (F.get (i:=j) (by rw[←Z,Y];simpa using h2)) (zbm q1 h1) (zbm I h2)) _ _ _ _ ?_;have e:(!(List.range its.toArray.size).all (λ_=>true))=false:=by simp
   rw[e];exact⟨.bl _,H,B,J,q⟩
end
end T1
namespace L2
open PySem PySem.Spec PyProof.Rows
noncomputable def tokOf:Value->Tok
 |.str _ t=>t
 |_=>0
theorem zde:∀ {us:List Value},(∀u∈us,∃t,u=.str (strOf u) t)->us=strValues (us.map λu=>(strOf u,tokOf u))
 |[],_=>rfl
 |u::r,h=>by
  obtain⟨t,e⟩:=h u List.mem_cons_self;have B:=zde λv D=>h v (List.mem_cons_of_mem _ D);rw[List.map_cons];show u::r=.str (strOf u) (tokOf u)::strValues (r.map λu=>(strOf u,tokOf u));rw[←B];congr 1;rw[e];rfl
noncomputable def zgy(xs:List Str):Str:=xs.headD ⟨#[]⟩
theorem zdm{X:Cx}:MtR X "str.join" (λx vs H Q=>∃G l xs,x=.str G/\vs=[.ref l]/\SqL X.K H l (xs.map V.str)/\xs.length<=1/\G.length<=100/\(∀y∈xs,y.length<=1000)/\Q (.str (zgy xs)) H):=by
 intro pins s σ H x vs v us Q I J0 L h;obtain⟨G,l,xs,rfl,rfl,M,h1,O,R,q⟩:=h;obtain⟨t,rfl⟩:=J0;obtain⟨u,rfl,S⟩:=L.one;cases S;obtain⟨its,r,pl,_⟩:=I.list M;obtain⟨U,W⟩:=zc0 r;have Y:=zde W;have D:(its.map λu=>(strOf u,tokOf u)).map (·.1)=xs:=by rw[List.map_map,←U];rfl
 have Z:s.heap.IsList l (strValues (its.map λu=>(strOf u,tokOf u))).toArray:=by rw[←Y];exact pl.isList
 refine call_meets F.slot_str_join (typeIs_str s G t) F.entry_str_join (F.args_str_join_2 _ _) (meets_str_join_list G t l (its.map λu=>(strOf u,tokOf u)) ?_) ⟨Z,?_⟩
 .rw[D];exact StrLaws.joinFits (B:=1000) R (by have:xs.length*G.length<=1*100:=Nat.mul_le_mul h1 O;omega)
 .generalize its.map (λu=>(strOf u,tokOf u))=ps at D
  match ps,D with
  |[],D=>
   have:xs=[]:=by rw[←D];rfl
   subst this;show (Made.str _).post _ s;exact⟨by show (0:Nat)<=_;exact Nat.zero_le _,⟨.str _,H,I.tok _,⟨_,J⟩,q⟩⟩
  |[p],D=>
   have:xs=[p.1]:=by rw[←D];rfl
   subst this;exact⟨.str _,H,I,⟨_,J⟩,q⟩
  |p::p2::aa,D=>
   exfalso;rw[←D] at h1;simp at h1
theorem zaj{t u:TS}{D:Ends}{σ:St}{H:Hp}(h:∀B:St->Hp->Prop,(∀σ H,u D σ H->B σ H)->t { D with nx:=B } σ H):tSeq t u D σ H:=h (u D) λ_ _ q=>q
theorem zbC{t:TS}{D:Ends}{σ:St}{H:Hp}(h:∀B:Ends,(∀σ H,D.nx σ H->B.nx σ H)->(∀v H,D.rt v H->B.rt v H)->(∀σ H,D.bk σ H->B.bk σ H)->(∀σ H,D.ct σ H->B.ct σ H)->t B σ H):t D σ H:=h D (λ_ _ q=>q) (λ_ _ q=>q) (λ_ _ q=>q) λ_ _ q=>q
structure Wrq(G:Prop):Prop where
 out:G
theorem zgz{c A G:Prop} [Decidable c] (h:c->Wrq G->A) (g:G):if c then A else G:=by
 by_cases q:c
 .rw[if_pos q];exact h q ⟨g⟩
 .rw[if_neg q];exact g
theorem zez{t u:TS}{D:Ends}{σ:St}{H:Hp}{J0:St->Hp->Prop}(h1:∀B:St->Hp->Prop,(∀σ H,J0 σ H->B σ H)->t { D with nx:=B } σ H)(h2:∀σ H,J0 σ H->u D σ H):tSeq t u D σ H:=h1 (u D) h2
end L2
namespace L2
open PySem PySem.Spec PySem.Calls PyProof.Rows
section
variable {prog:Program}{w:World}{A:Around}{E:Value->Shared->Prop}{s:Shared}
theorem zjy{q a B:Addr}{D:Str}{O:Arguments}{scope:Scope}{pm R:Value}{S:Nat}{U p2 p3 p4 p5:Pos}{mg V:Str->Option Value}{its:List Value}{x:Str}{t:Tok}{Q:Value->Shared->Prop}(ac:s.heap.get? q=some (W.kla_obj "<lambda>" D O (.Call (.Name "len" U) [.Subscript (.Name "fit" p2) (.Constant (.int 0) S p3) p4] [] p5) scope [] pm B R))(ad:s.heap.CodeRec (.ref B) D)(ae:bindArgs (W.kla_fn "<lambda>" D O (.Call (.Name "len" U) [.Subscript (.Name "fit" p2) (.Constant (.int 0) S p3) p4] [] p5) scope [] pm (.ref B) R) ⟨[.ref a],[]⟩=pure [(("fit":Str),Value.ref a)])(af:scope.isCoroutine=false)(ag:scope.isGenerator=false)(L:scope.kind=.function)(ah:∀y∈scope.names,y.2≠.cell)(Y:scope.names.lookup ("fit":Str)=some .local)(ai:scope.names.lookup ("len":Str)=some .globalImplicit)(aj:s.heap.Ns mainGlobals mg)(ak:mg "len"=none)(al:s.heap.Ns builtinsNs V)(am:V "len"=some (.builtin "len"))(ao:s.heap.NoLimit)(ap:A.depth<recursionLimit)(aq:IsTup s.heap a its.toArray)(Z:its[0]?=some (.str x t))(aA:its.length<=sizeLine)(aB:x.length<=sizeLine)(h:∀h' tk t',(∀b o,s.heap.get? b=some o->h'.get? b=some o)->Q (.int x.length t') { s with heap:=h',toks:=tk }):wpAny (model prog w) A (call (.ref q) [.ref a]) Q E s:=by
 have aC:=zcG;refine wpAny_call (W.kla_callFunE ap ac J af ag J ad ?_);rw[ae];refine wpAny_pure (wpAny_newFunctionEnv ah (λy ar=>?_) (λI as aa=>⟨ao.fresh _ aa,?_⟩) L)
 .have:y=(("fit":Str),Value.ref a):=by simpa using ar
  rw[this];exact Y
 have J0:∀b o,s.heap.get? b=some o->I.get? b=some o:=λb o e=>aa.extBut b o (Nat.ne_of_lt (Heap.lt_size e)) (Heap.get?_push_of_some _ e);have au:([(("fit":Str),Value.ref a)]:List (Str×Value)).reverse.lookup ("fit":Str)=some (.ref a):=by simp[List.lookup]
 show codeAny _ _ (.expr _ (W.envX D scope s.heap.objs.size q (.ref B) [])) _ _;refine W.kla_codeExpr ?_;refine wpAny_Call_Name_kw (Calls.Name_function_global L (by show scope.names.lookup _=_;exact ai) (Calls.loadGlobal_builtin (aj.keeps J0) ak (al.keeps J0) am ?_) (by decide));refine PyProof.Rows.callWith_builtin1 ?_ rfl rfl;show wpAny _ _ (spliced ((false,eval _ _)::backTo p5 (starEach [] _))) _ _ _;refine Calls.spliced_cons (Subscript_ (wpAny_Name (wpAny_loadName_local L (by show scope.names.lookup _=_;exact Y) as au ?_) (by decide)));refine wpAny_Constant_int ?_;have ab:IsTup I a its.toArray:=by
  obtain⟨av,e,r⟩:=aq;exact⟨av,J0 _ _ e,r⟩
 have aw:0<its.length:=by
  cases its with
  |nil=>cases Z
  |cons _ _=>simp
 have ax:seqIndex? 0 its.toArray.size=some 0:=by
  have:=PySem.StrLaws.seqIndex_nonneg (i:=0) (n:=its.toArray.size) (by omega) (by simpa using aw);simpa using this
 have ay:∀tk,wpAny (model prog w) (A.deeper (W.envX D scope s.heap.objs.size q (.ref B) [])) (spliced (backTo p5 (starEach [] (W.envX D scope s.heap.objs.size q (.ref B) [])))) (λvs az=>wpAny (model prog w) (A.deeper (W.envX D scope s.heap.objs.size q (.ref B) [])) (call (.builtin "len") (.str x t::vs)) (λv s'=>(λ(r:Result) s'=>match r with|.ok (.ret v)=>Q v s'|.ok _=>False|.error e=>E e s') (.ok (.ret v)) s') (λG s'=>wpAny (model prog w) (A.deeper (W.envX D scope s.heap.objs.size q (.ref B) [])) (leaving (W.envX D scope s.heap.objs.size q (.ref B) []) G) (λ_ F=>(λ(r:Result) s'=>match r with|.ok (.ret v)=>Q v s'|.ok _=>False|.error e=>E e s') (.error G) F) (λM F=>(λ(r:Result) s'=>match r with|.ok (.ret v)=>Q v s'|.ok _=>False|.error e=>E e s') (.error M) F) s') az)
   (λG s'=>wpAny (model prog w) (A.deeper (W.envX D scope s.heap.objs.size q (.ref B) [])) (leaving (W.envX D scope s.heap.objs.size q (.ref B) []) G) (λ_ F=>(λ(r:Result) s'=>match r with|.ok (.ret v)=>Q v s'|.ok _=>False|.error e=>E e s') (.error G) F) (λM F=>(λ(r:Result) s'=>match r with|.ok (.ret v)=>Q v s'|.ok _=>False|.error e=>E e s') (.error M) F) s') { s with heap:=I,toks:=tk }:=λtk=>by
  refine Calls.spliced_nil (len_str (by omega) ?_);exact h I _ _ J0
 exact subscriptTail_builtinR (x:=.str x t) ab.typeIs slot_tuple_getitem.lookup (getItem_tuple (j:=0) (Q:=λr s'=>r=.str x t/\_) ab (by omega) (by omega) ax (by simpa using Z) ⟨J,ay _⟩) rfl
end
end L2
namespace L2
open PySem PySem.Spec PySem.Calls PyProof.Rows
noncomputable def ButX(q:Addr)(H H':Hp):Prop:=∀b o,b≠q->H b=some o->H' b=some o
noncomputable def cdO(c:Addr)(q:Str):HO:=.ext λh=>h.CodeRec (.ref c) q
noncomputable def LamT(P:Addr)(D cl:Nat)(q:Str)(H:Hp):Prop:=
 H P=some (.tbl #[])∨∃B,H P=some (.tbl #[rawInt D,rawInt cl,.ref B])/\H B=some (cdO B q)
theorem LamT.tbl{P:Addr}{B cl:Nat}{q:Str}{H:Hp}(h:LamT P B cl q H):∃ps,H P=some (.tbl ps):=by
 rcases h with h|⟨D,h,_⟩
 .exact⟨_,h⟩
 .exact⟨_,h⟩
theorem zhe{P:Program}{w:World}{H:Hp}{h:Heap}{c:Addr}{q:Str}(D:h.CodeRec (.ref c) q):ObjOk P w H h c (cdO c q):=by
 refine⟨D,?_,λh1 h2 e k=>?_⟩
 .obtain⟨F,oc,vs,t,e,B,_⟩:=D;cases e;exact⟨oc,B⟩
 .obtain⟨F,oc,vs,t,e,B,r⟩:=e;cases e;exact⟨c,oc,vs,t,J,k _ B,r⟩
section
variable {X:Cx}{pins:List (Addr×Obj)}{σ:St}{H:Hp}{s:Shared}{E:Value->Shared->Prop}
theorem zjz{P c:Addr}{pos:Pos}{nm q:Str}{J0:Arguments}{L:Expr}{scope:Scope}{ag:Nat}{Z:Value->Shared->Prop}(D:Inv X pins σ H s)(G:LamT P pos.line pos.col q H)(aa:closureFor scope X.env=pure [])(ab:X.env.code=.ref c)(ah:W.codeHdIn X.K c P=true)(ai:X.base.BuiltinsAt X.mg P)(h:∀f B I s' H1,Inv X pins σ H1 s'->ButX P H H1->LamT P pos.line pos.col q H1->s'.heap.get? f=some (W.kla_obj nm q J0 L scope [] ((X.mg "__name__").getD .none) B I)->s'.heap.CodeRec (.ref B) q->f≠X.env.locals->B≠X.env.locals->Z (.ref f) s') :
  wpAny (model X.prog X.w) X.A (makeFunction nm q J0 (.expr L) scope X.env [] [] [] pos ag) Z E s:=by
 have C:=W.codeHd_of_K D.kIn ah;have S:=D.mod.glob.keeps D.bk;have F:=ai.keeps D.bk;have U:=D.lt;obtain⟨av,aw,_⟩:=id D.loc;rcases G with G|⟨B,G,R⟩
 .have M:s.heap.get? P=some (W.tabObj #[]):=D.hok P _ G;have aj:P<s.heap.objs.size:=Heap.lt_size M;have ak:mainGlobals≠P:=λz=>by
   obtain⟨o,es,ax,e,hd,_⟩:=S;rw[z,M] at e;cases e;cases hd
  have al:X.env.locals≠P:=λz=>by rw[←z,D.free] at G;cases G
  refine W.kla_makeFunction (mg:=X.mg) aa D.ok.glob S ab C M trivial rfl ak F λB I h' tk ac O am V ao=>?_;have lt1:∀b u,H b=some u->b<s.heap.objs.size:=λb u e=>(D.hok b u e).lt;have ap:∀b u,H b=some u->b≠B:=λb u e=>Nat.ne_of_lt (Nat.lt_of_lt_of_le (lt1 b u e) O);have aq:B≠P:=(Nat.ne_of_lt (Nat.lt_of_lt_of_le aj O)).symm;have k:∀b o,b≠P->s.heap.get? b=some o->(h'.push (W.kla_obj nm q J0 L scope [] ((X.mg "__name__").getD .none) B I)).get? b=some o:=λb o F e=>Heap.get?_push_of_some _ (ac b o F e);have ad:(h'.push (W.kla_obj nm q J0 L scope [] ((X.mg "__name__").getD .none) B I)).get? P=some (W.tabObj #[rawInt pos.line,rawInt pos.col,.ref B]):=Heap.get?_push_of_some _ (by simpa using ao);have ae:(h'.push (W.kla_obj nm q J0 L scope [] ((X.mg "__name__").getD .none) B I)).CodeRec (.ref B) q:=by
   obtain⟨ar,oc,vs,t,e,Y,r⟩:=V;cases e;exact⟨B,oc,vs,t,J,Heap.get?_push_of_some _ Y,r⟩
  have same:∀b u,b≠P->H b=some u->upd (upd H B (cdO B q)) P (.tbl #[rawInt pos.line,rawInt pos.col,.ref B]) b=some u:=λb u F e=>by
   rw[zah F,zah (ap b u e)];exact e
  refine h h'.objs.size B I _ (upd (upd H B (cdO B q)) P (.tbl #[rawInt pos.line,rawInt pos.col,.ref B])) (D.step (g':=s.gens) (d':=s.drawn) (ch:=[]) (λ_ z=>nomatch z) (λb o _ _ _ e n=>?_) (λb o _ _ _ e n=>⟨o.slots,?_⟩) (λb o _ e n=>?_) (λb o _ e=>?_) (λb xs e=>?_) (λb o u e=>?_) (λb ps e=>?_) (λay as=>?_) (λb u e=>?_) D.bare) (λb u F e=>same b u F e) (.inr ⟨B,zab,by rw[zah aq,zab]⟩) (Heap.get?_push_size _ J) ae ?_ ?_
  .exact k b o (zad G n).symm e
  .exact k b o (zad G n).symm e
  .rw[zah (zad G n).symm,zah (Nat.ne_of_lt (Nat.lt_of_lt_of_le (Heap.lt_size e) O))];exact n
  .by_cases F:b=P
   .exact⟨_,by rw[F];exact ad⟩
   .exact⟨o,k b o F e⟩
  .exact same b _ (zao e G (by intro z;cases z)) e
  .exact same b _ (zao e G (by intro z;cases z)) e
  .by_cases F:b=P
   .subst F;rw[G] at e;cases e;exact⟨#[rawInt pos.line,rawInt pos.col,.ref B],by rw[zab];simp⟩
   .exact⟨#[],by rw[same b _ F e];simp⟩
  .exact(as.extBut ac al).push _
  .by_cases F:b=P
   .subst F;rw[zab] at e;cases e;exact ad
   .rw[zah F] at e;by_cases af:b=B
    .subst af;rw[zab] at e;cases e;exact zhe ae
    .rw[zah af] at e;refine(D.hok b u e).stay (λd v hd z=>k d v ?_ z) (λd z=>same d _ (zao z G (by intro y;cases y)) z) λd _ z=>same d _ (zao z G (by intro y;cases y)) z;rcases hd with hd|hd
     .rw[hd];exact F
     .exact zao hd G (by intro y;cases y)
  .exact(Nat.ne_of_lt (Nat.lt_of_lt_of_le U (Nat.le_trans O (Nat.le_of_lt am)))).symm
  .exact(Nat.ne_of_lt (Nat.lt_of_lt_of_le U O)).symm
 .have M:s.heap.get? P=some (W.tabObj #[rawInt pos.line,rawInt pos.col,.ref B]):=D.hok P _ G;have V:s.heap.CodeRec (.ref B) q:=(D.hok B _ R).1;refine W.kla_makeFunctionHit (mg:=X.mg) aa D.ok.glob S ab C M (by simp[TriplesOk,rawInt]) (cv:=.ref B) (by simp[codeAmong,rawInt]) F λI h' tk au hsz=>?_;have k:∀b o,s.heap.get? b=some o->(h'.push (W.kla_obj nm q J0 L scope [] ((X.mg "__name__").getD .none) B I)).get? b=some o:=λb o e=>Heap.get?_push_of_some _ (au b o e);refine h h'.objs.size B I _ H (D.kept k) (λ_ _ _ e=>e) (.inr ⟨B,G,R⟩) (Heap.get?_push_size _ J) ?_ (Nat.ne_of_lt (Nat.lt_of_lt_of_le U hsz)).symm (λz=>by rw[z,D.free] at R;cases R);obtain⟨ar,oc,vs,t,e,Y,r⟩:=V;cases e;exact⟨B,oc,vs,t,J,k _ _ Y,r⟩
end
end L2
namespace L2
open PySem PySem.Spec PySem.Calls PyProof.Rows
noncomputable def zkP(P:Addr)(B cl:Nat)(q:Str):List V->Hp->VK->Prop:=λvs H Q=>∃(l:Addr) (xs:List V) (ms:Nat->Str),vs=[.ref l]/\H l=some (.lst xs)/\0<xs.length/\(∀i,i<xs.length->∃a ys,xs[i]?=some (.ref a)/\H a=some (.tup (.str (ms i)::ys))/\(ms i).length<=1000)/\LamT P B cl q H /\
 ∀H1 i v,ButX P H H1->LamT P B cl q H1->xs[i]?=some v->(∀j,j<xs.length->(ms j).length<=(ms i).length/\(j<i->(ms j).length<(ms i).length))->Q v H1
section
variable {X:Cx}{pins:List (Addr×Obj)}{σ:St}{H:Hp}{s:Shared}{E:Value->Shared->Prop}
theorem zfW{q G:Addr}{O:Str}{aa:Arguments}{scope:Scope}{pm ab:Value}{ac:Nat}{ad p2 p3 p4 p5:Pos}{l:Addr}{xs:List V}{ms:Nat->Str}{Q:VK}(B:Inv X pins σ H s)(ag:X.calm=true)(ah:X.A.in1.depth<recursionLimit)(ai:X.mg "len"=none)(aj:s.heap.get? q=some (W.kla_obj "<lambda>" O aa (.Call (.Name "len" ad) [.Subscript (.Name "fit" p2) (.Constant (.int 0) ac p3) p4] [] p5) scope [] pm G ab))(ak:s.heap.CodeRec (.ref G) O)(al:q≠X.env.locals)(am:G≠X.env.locals)(ao:∀a,bindArgs (W.kla_fn "<lambda>" O aa (.Call (.Name "len" ad) [.Subscript (.Name "fit" p2) (.Constant (.int 0) ac p3) p4] [] p5) scope [] pm (.ref G) ab) ⟨[.ref a],[]⟩=pure [(("fit":Str),Value.ref a)])(ap:scope.isCoroutine=false)(aq:scope.isGenerator=false)(ar:scope.kind=.function)(as:∀y∈scope.names,y.2≠.cell)(au:scope.names.lookup ("fit":Str)=some .local)(av:scope.names.lookup ("len":Str)=some .globalImplicit)(R:H l=some (.lst xs))(aO:0<xs.length)(ae:∀i,i<xs.length->∃a ys,xs[i]?=some (.ref a)/\H a=some (.tup (.str (ms i)::ys))/\(ms i).length<=1000)(h:∀i v,xs[i]?=some v->(∀j,j<xs.length->(ms j).length<=(ms i).length/\(j<i->(ms j).length<(ms i).length))->Q v H) :
  wpAny (model X.prog X.w) X.A (call (.builtin "max") [.ref l] [(Str.ofString "key",.ref q)]) (EP X pins σ Q) E s:=by
 obtain⟨aP,its,aw,S,ax⟩:=B.hok l _ R;obtain⟨m,af,_⟩:=id B.loc;have aQ:xs.length=its.length:=S.length;have ay:l≠X.env.locals:=λz=>by rw[z,B.free] at R;cases R
 have aR:(1000:Nat)<=sizeLine:=by rw[sizeLine_eq];decide
 have az:∀b o,X.base.get? b=some o->b≠X.env.locals:=λb o e=>Nat.ne_of_lt (Nat.lt_of_lt_of_le (Heap.lt_size e) (Nat.le_trans B.ok.bsz B.ok.above));obtain⟨aS,aA,aB⟩:=B.mod.blt;refine kmk_max (vs:=its) (λi=>((ms i).length:Int)) (B.ok.hd ag) (Att.fr_all af) (zgv X.env.locals) (λh1 F N=>?_) (by omega) (λi v I h1 tk aT F N=>?_) (λi v h' aU I aC F N=>?_)
 .exact⟨_,zdl N _ _ ay ax,J,aw,J⟩
 .have hi:i<its.length:=(List.getElem?_eq_some_iff.mp I).1;obtain⟨a,ys,L,M,aD⟩:=ae i (by omega);have U:RelV (.ref a) v:=by
   have:=S.get L;obtain⟨u,J0,r⟩:=this;rw[I] at J0;cases J0;exact r
  cases U;obtain⟨aE,aV,rt,aF⟩:=B.hok a _ M;have aG:a≠X.env.locals:=λz=>by rw[z,B.free] at M;cases M
  have aH:News (Att.noObjs s.heap) X.env.locals h1 (Att.ledger s.heap X.env.locals X.env.locals):=λp D=>N p (List.mem_append_left _ D);have k:=zdl aH;have Y:∀b o,X.base.get? b=some o->h1.get? b=some o:=λb o e=>k b o (az b o e) (B.bk b o e);cases rt with
  |cons aI rt=>
   rename_i u us;obtain⟨aJ,aK⟩:=aI;subst aK;refine zjy (s:={ s with heap:=h1,toks:=tk }) (x:=ms i) (k q _ al aj) ?_ (ao a) ap aq ar as au av (B.mod.glob.keeps Y) ai (aA.keeps Y) ((aB "len" (by decide)).trans J) (B.mod.nolimit.keeps Y) ah (its:=.str (ms i) aJ::us) ?_ rfl ?_ (by omega) (λh2 aW aX Z=>?_)
   .obtain⟨aY,oc,vs,t,e,aL,r⟩:=ak;cases e;exact⟨G,oc,vs,t,J,k _ _ am aL,r⟩
   .obtain⟨aM,aN,r⟩:=aF;exact⟨aM,k _ _ aG aN,r⟩
   .have:=rt.length;simp at aE ⊢;omega
   .refine KskEnd.intro ⟨F.ns.keeps Z,λb o e=>Z b o (F.keep b o e),F.above⟩ (λp D=>⟨Z _ _ (N p D).1,(N p D).2⟩) λp D=>D
 .have hi:i<its.length:=(List.getElem?_eq_some_iff.mp I).1;obtain⟨a,ys,L,M,aD⟩:=ae i (by omega);have U:RelV (.ref a) v:=by
   obtain⟨u,J0,r⟩:=S.get L;rw[I] at J0;cases J0;exact r
  refine⟨.ref a,H,B.lib af F N,U,h i _ L λj aZ=>?_⟩;have:=aC j (by omega);exact⟨by omega,λq=>by have:=this.2 q;omega⟩
theorem zhf{e:Expr}{te:TE}{P c:Addr}{B:Arguments}{scope:Scope}{J0:Nat}{p L p2 p3 p4 p5 D V pos:Pos}(Y:X.calm=true)(Z:X.A.in1.depth<recursionLimit)(aa:X.mg "max"=none)(ab:X.mg "len"=none)(ac:X.env.code=.ref c)(ad:W.codeHdIn X.K c P=true)(ae:X.base.BuiltinsAt X.mg P)(af:PE X e te)(ag:∀a F pm G,bindArgs (W.kla_fn "<lambda>" (X.env.qual++"<lambda>") B (.Call (.Name "len" L) [.Subscript (.Name "fit" p2) (.Constant (.int 0) J0 p3) p4] [] p5) scope [] pm (.ref F) G) ⟨[.ref a],[]⟩=pure [(("fit":Str),Value.ref a)])(ah:Gl X "max":=by rfl)(ai:defaultsOf B X.env=([],[]):=by rfl)(aj:closureFor scope X.env=pure []:=by rfl)(ak:scope.isCoroutine=false:=by rfl)(al:scope.isGenerator=false:=by rfl)(am:scope.kind=.function:=by rfl)(ao:∀y∈scope.names,y.2≠.cell:=by decide)(ap:scope.names.lookup ("fit":Str)=some .local:=by rfl)(aq:scope.names.lookup ("len":Str)=some .globalImplicit:=by rfl)(h1:starEach [e] X.env=(false,eval e X.env)::starEach [] X.env:=by rfl)(h2:backTo pos (starEach [e] X.env)=(false,eval e X.env)::backTo pos (starEach [] X.env):=by rfl)(ar:(backTo pos (starEach [e] X.env)).any (·.1)=false:=by rfl) :
  PE X (.Call (.Name "max" p) [e] [⟨some "key",.Lambda B (.Call (.Name "len" L) [.Subscript (.Name "fit" p2) (.Constant (.int 0) J0 p3) p4] [] p5) scope D,V⟩] pos) (tCB (zkP P D.line D.col (X.env.qual++"<lambda>")) (tCons te tNil)):=by
 intro pins s σ H Q M h;refine wpAny_Call_Name_kw (zct M ah aa (u:=.builtin "max") rfl ?_ (by decide) (by decide));refine callWith_kw (thn ((zaa af zae h1) pos pins s σ H _ M h) λus aI as=>?_) h2 ar;obtain⟨vs,H1,au,r,q⟩:=as;obtain⟨l,xs,ms,rfl,O,av,aw,R,q⟩:=q;obtain⟨u,rfl,ax⟩:=vals1 r;cases ax;refine kws_cons (W.kla_eval ai (zjz au R aj ac ad ae λf F G aJ H2 ay I az aA aB aC aD=>kws_nil ?_));obtain⟨ps,S⟩:=R.tbl;refine zfW ay Y Z ab aA aB aC aD (λa=>ag a F _ G) ak al am ao ap aq (I _ _ (zao O S (by intro z;cases z)) O) av (λi hi=>?_) (λi v aE aF=>q H2 i v I az aE aF);obtain⟨a,ys,aG,U,aH⟩:=aw i hi;exact⟨a,ys,aG,I _ _ (zao U S (by intro z;cases z)) U,aH⟩
end
theorem Inv.turnedL{X:Cx}{pins:List (Addr×Obj)}{σ:St}{H:Hp}{s:Shared}{h':Heap}{t':Nat}{ch:List Addr}(D:Inv X pins σ H s)(k:∀b o,b∉ch->s.heap.get? b=some o->h'.get? b=some o)(F:∀b∈ch,FpOk X pins H b) :
  Inv X pins σ H { s with heap:=h',toks:=t' }:=by
 have G:∀b u,H b=some u->b∉ch:=λb u e z=>by rw[(F b z).1] at e;cases e
 refine D.step (g':=s.gens) (d':=s.drawn) (ch:=ch) (λb I=>?_) (λb o _ _ B e _=>k b o B e) (λb o _ _ B e _=>⟨o.slots,k b o B e⟩) (λ_ _ _ _ n=>n)
  (λb o B e=>⟨o,k b o B e⟩) (λ_ _ e=>e) (λ_ _ _ e=>e) (λb ps e=>⟨#[],by rw[e];simp⟩) (λm J0=>?_) (λb u e=>?_) D.bare
 .obtain⟨_,L,_,h1,h2,M⟩:=F b I;exact⟨h1,L,h2,M⟩
 .obtain⟨o,es,O,R,r⟩:=J0;exact⟨o,es,O,k _ o (λz=>(F _ z).2.1 rfl) R,r⟩
 .refine(D.hok b u e).stay (λc v B q=>k c v ?_ q) (λ_ q=>q) λ_ _ q=>q;rcases B with z|z
  .rw[z];exact G b u e
  .exact G c _ z
noncomputable def Itz(K:W.Frag)(a b:Addr):It:=
 ⟨λi H=>(∃xs x,SqL K H a xs/\xs[i]?=some x)/\∃ys y,SqL K H b ys/\ys[i]?=some y,
 λi H v H'=>∃p x y,v=.ref p/\H p=none/\H'=upd H p (.tup [x,y])/\(∀xs,SqL K H a xs->xs[i]?=some x)/\∀ys,SqL K H b ys->ys[i]?=some y,
 λi H=>(∃xs,SqL K H a xs)/\(∃ys,SqL K H b ys)/\((∃xs,SqL K H a xs/\xs.length<=i)∨∃ys,SqL K H b ys/\ys.length<=i)⟩
noncomputable def TnZ(z TI TO B D F G:Addr)(i:Nat)(h:Heap):Prop:=IsZip h z TI TO .none/\IsPair h TI (.ref B) (.ref D)/\(∃a b,IsPair h TO a b)/\h.IsListIter B F i/\h.IsListIter D G i
theorem zjA{P:Program}{w:World}{K:W.Frag}{ax:List Expr}{k:Nat}{pos:Pos}{z TI TO I J0 ad ae:Addr}(D:ZipApart z TI TO I J0 ad ae):Turn P w K (.Tuple ax k pos) (Itz K ad ae) [z,TI,TO,I,J0] z (TnZ z TI TO I J0 ad ae) where
 mem:=by simp
 obj:=λi h st b B=>by
  obtain⟨L,G,⟨a,aa,M⟩,⟨aY,ay,aZ,az⟩,⟨a0,aA,a1,aB⟩⟩:=st;simp only[List.mem_cons,List.not_mem_nil,or_false] at B;rcases B with rfl|rfl|rfl|rfl|rfl
  .exact⟨_,L,λv q=>by cases q⟩
  .exact⟨_,G,λv q=>by cases q⟩
  .exact⟨_,M,λv q=>by cases q⟩
  .exact⟨_,ay,λv q=>by rw[az] at q;cases q⟩
  .exact⟨_,aA,λv q=>by rw[aB] at q;cases q⟩
 keep:=λi h h' st k=>by
  obtain⟨L,G,⟨a,aa,M⟩,h1,h2⟩:=st;exact⟨k z (by simp) _ L,k TI (by simp) _ G,⟨a,aa,k TO (by simp) _ M⟩,h1.at λo e=>k I (by simp) o e,h2.at λo e=>k J0 (by simp) o e⟩
 item:=by
  intro X af hw ag am i pins s σ H E F ah st ai;subst af hw ag;obtain⟨⟨xs,x,V,ao⟩,ys,y,Y,ap⟩:=ai;obtain⟨L,G,⟨a,aa,M⟩,h1,h2⟩:=st;obtain⟨aq,aj,ak,aC⟩:=F.list V;obtain⟨ar,al,p2,aD⟩:=F.list Y;obtain⟨R,aE,aF⟩:=aj.get ao;obtain⟨S,aG,aH⟩:=al.get ap;refine wpAny_pyNext_zip_item D L G M h1 h2 ak.isList p2.isList (x:=R) (y:=S) (by simpa using aE) (by simpa using aG) λh' aI aJ aK aL aM a2 ab=>?_;refine⟨_,J,wpAny_letOwnedTupleGo_zip aI λas aN U=>?_⟩;have aO:H s.heap.objs.size=none:=F.hok.fresh (Nat.le_refl _);have aP:Inv X pins σ (upd H s.heap.objs.size (.tup [x,y])) { s with heap:=s.heap.push { cls:=.type "tuple",data:=.seq #[R,S] },toks:=s.toks }:=
   F.laid (λb o e=>Heap.get?_push_of_some _ e) (Nat.le_refl _) ⟨by simp only[List.length_cons,List.length_nil];rw[sizeLine_eq];decide,[R,S],.cons aF (.cons aH .nil),⟨_,Heap.get?_push_size _ J,J,_,J⟩⟩
  have Z:∀ {c o},s.heap.get? c=some o->c≠s.heap.objs.size:=λe=>Nat.ne_of_lt (Heap.lt_size e);have au:∀b∈[z,TI,TO,I,J0],b≠s.heap.objs.size:=λb B=>by
   simp only[List.mem_cons,List.not_mem_nil,or_false] at B;rcases B with rfl|rfl|rfl|rfl|rfl
   .exact Z L
   .exact Z G
   .exact Z M
   .obtain⟨_,e,_⟩:=h1;exact Z e
   .obtain⟨_,e,_⟩:=h2;exact Z e
  have av:∀b∈[z,TI,TO,I,J0],FpOk X pins (upd H s.heap.objs.size (.tup [x,y])) b:=λb B=>by
   obtain⟨aQ,aR⟩:=ah b B;exact⟨by rw[zah (au b B)];exact aQ,aR⟩
  have aS:as.get? s.heap.objs.size=some { cls:=.type "tuple",data:=.seq #[R,S] }:=U.extBut _ _ (au z (by simp)).symm aM;have aT:=
   Inv.turnedL (h':=as) (t':=s.toks) (ch:=[z,TI,TO,I,J0]) aP (λb o B e=>by
    by_cases aw:b=s.heap.objs.size
    .subst aw;have ac:(s.heap.push { cls:=.type "tuple",data:=.seq #[R,S] }).get? s.heap.objs.size=some o:=e;rw[Heap.get?_push_size _ rfl] at ac;cases ac;exact aS
    .have aU:s.heap.get? b=some o:=by
      have ac:(s.heap.push { cls:=.type "tuple",data:=.seq #[R,S] }).get? b=some o:=e
      rwa [Heap.get?_push_ne _ _ _ aw] at ac
     simp only[List.mem_cons,List.not_mem_nil,or_false,not_or] at B;exact U.extBut _ _ B.1 (ab b o B.1 B.2.2.1 B.2.2.2.1 B.2.2.2.2 aU)) av
  have aV:=U.extBut _ _ D.TIz (ab _ _ D.TIz D.TITO D.TIi1 D.TIi2 G);exact⟨.ref s.heap.objs.size,_,aT,J,⟨_,x,y,J,aO,J,λzs O=>by rw[F.list_inj O V];exact ao,λzs O=>by rw[F.list_inj O Y];exact ap⟩,
   ⟨aN,aV,⟨_,_,U.extBut _ _ D.TOz aJ⟩,aK.extBut U.extBut D.i1z,aL.extBut U.extBut D.i2z⟩,λb B=>(av b B).1⟩
 done:=by
  intro X af hw ag am i pins s σ H E F ah st ai;subst af hw ag;obtain⟨L,G,⟨a,aa,M⟩,h1,h2⟩:=st;obtain⟨⟨xs,V⟩,⟨ys,Y⟩,aW⟩:=ai;obtain⟨aq,aj,ak,aC⟩:=F.list V;obtain⟨ar,al,p2,aD⟩:=F.list Y;have a3:=aj.length;have a4:=al.length;have aX:aq.toArray[i]?=none∨ar.toArray[i]?=none:=by
   rcases aW with⟨zs,O,h⟩|⟨zs,O,h⟩
   .rw[F.list_inj O V] at h;exact .inl (by simp;omega)
   .rw[F.list_inj O Y] at h;exact .inr (by simp;omega)
  exact wpAny_pyNext_zip_end (F.ok.hd am) D L G M h1 h2 ak.isList p2.isList aX λh' ab=>⟨J,F.turnedL (t':=s.toks) (ch:=[z,TI,TO,I,J0]) (λb o B e=>by
   simp only[List.mem_cons,List.not_mem_nil,or_false,not_or] at B;exact ab b o B.1 B.2.2.1 B.2.2.2.1 B.2.2.2.2 e) ah⟩
 self:=λ_ _ _ _ _ st h=>wpAny_pyIter_zip st.1 h
noncomputable def iZip(K:W.Frag)(ta:TA):TI:=λσ H R=>ta σ H λvs H1=>∃B D,vs=[.ref B,.ref D]/\(∃xs,SqL K H1 B xs)/\(∃ys,SqL K H1 D ys)/\R (Itz K B D) H1
theorem zlG{X:Cx}{U:List Expr}{k:Nat}{V:Pos}{a b:Expr}{ta:TA}{p pos:Pos}(W:Gl X "zip")(Y:X.mg "zip"=none)(Z:PA X [a,b] ta)(aa:starEach [a,b] X.env=[(false,eval a X.env),(false,eval b X.env)]:=by rfl)(G:starEach [b] X.env=[(false,eval b X.env)]:=by rfl) :
  PI X (.Tuple U k V) (.Call (.Name "zip" p) [a,b] [] pos) (iZip X.K ta):=by
 intro pins s σ H R I h;refine Call_ (zct I W Y boot_zip (PyProof.Rows.callWith_type1 (thn (Z pos pins s σ H _ I h) λus B ab=>?_) (by rw[aa,G]) (by rw[G];rfl)));obtain⟨vs,H1,D,ac,q1⟩:=ab;obtain⟨ad,ae,e,⟨xs,af⟩,⟨ys,ag⟩,q⟩:=q1;subst e;cases ac with
 |cons r F=>
  cases F with
  |cons ah F=>
   cases F;cases r;cases ah;obtain⟨aq,ar,J0,as⟩:=D.list af;obtain⟨au,av,p2,aw⟩:=D.list ag;have lt1:ad<B.heap.objs.size:=by obtain⟨_,e,_⟩:=J0.isList;exact Heap.lt_size e
   have ai:ae<B.heap.objs.size:=by obtain⟨_,e,_⟩:=p2.isList;exact Heap.lt_size e
   refine call_zip_2 J0.isList p2.isList λh' L aj ak al am hsz ao=>?_;have ap:Inv X pins σ H1 { B with heap:=h' }:=D.kept (t':=B.toks) ao;refine wpAny_pyIter_zip L ⟨_,_,_,_,H1,J,ap,zjA (zipApart_new lt1 ai),⟨L,aj,⟨_,_,ak⟩,al,am⟩,λb M=>?_,q⟩;have O:B.heap.objs.size<=b:=by
    simp only[List.mem_cons,List.not_mem_nil,or_false] at M;rcases M with e|e|e|e|e<;>rw[e]<;>first|exact Nat.le_refl _|exact Nat.le_add_right _ _
   have S:=D.hok.fresh (a:=b) O;exact⟨S,(D.fpOk O S).2⟩
theorem zjB{K:W.Frag}{g:TG}{tt:TT}{F:TR}{Qe:St->Hp->Prop}{G:St}{H0:Hp}{a b:Addr}{xs ys:List V}(W:Nat->St->Hp->Prop)(J0:W 0 G H0)(ab:xs.length=ys.length)(L:∀i σ H,W i σ H->SqL K H a xs/\SqL K H b ys)(M:∀σ H,W xs.length σ H->Qe σ H)(O:∀i σ H p x y,W i σ H->xs[i]?=some x->ys[i]?=some y->H p=none->g (.ref p) σ (upd H p (.tup [x,y])) λB H2=>tt B H2 λb I=>if b=true then F B I (W (i+1)) else W (i+1) B I):tLoop (Itz K a b) g tt F Qe G H0:=by
 refine⟨λi m σ H=>m=xs.length-i/\i<=xs.length/\W i σ H,⟨_,J,Nat.zero_le _,J0⟩,?_⟩;rintro i m σ H ⟨rfl,hi,hw⟩;obtain⟨q1,D⟩:=L i σ H hw;by_cases R:i<xs.length
 .refine .inr ⟨⟨⟨xs,xs[i],q1,by simp[R]⟩,ys,ys[i]'(by omega),D,by simp⟩,W (i+1),λσ' H' q=>⟨xs.length-(i+1),by omega,J,by omega,q⟩,?_⟩;rintro x H' ⟨p,S,U,rfl,Y,rfl,Z,aa⟩;exact O i σ H p S U hw (Z _ q1) (aa _ D) Y
 .have e:i=xs.length:=by omega
  subst e;exact .inl ⟨⟨⟨_,q1⟩,⟨_,D⟩,.inl ⟨_,q1,Nat.le_refl _⟩⟩,M σ H hw⟩
section
variable {prog:Program}{w:World}{A:Around}{E:Value->Shared->Prop}{s:Shared}
theorem zfn{it t:Addr}{B:Array Value}(G:t≠it):∀(n i:Nat) (s:Shared) (Q:List Value->Shared->Prop),s.heap.IsListIter it t i->s.heap.IsList t B->i+n<=B.size ->
  (∀h',h'.IsListIter it t (i+n)->Heap.SameBut it s.heap h'->Q ((B.toList.drop i).take n) { s with heap:=h' })->wpAny (model prog w) A (draw (.ref it) n) Q E s
 |0,i,s,Q,D,_,_,F=>by
  show wpAny _ _ (pure []) Q E s;exact wpAny_pure (by simpa using F s.heap D (Heap.SameBut.refl ..))
 |n+1,i,s,Q,D,I,V,F=>by
  have J0:i<B.size:=by omega
  show wpAny _ _ (pyNext (.ref it) >>= _) Q E s;refine wpAny_bind (wpAny_pyNext_list_item D I (x:=B[i]) (by simp[J0]) λW M L=>?_);refine wpAny_bind (wpAny_holding (zfn G n (i+1) _ _ M (I.extBut L.extBut G) (by omega) λO R S=>wpAny_pure ?_));have U:B.toList.drop i=B[i]::B.toList.drop (i+1):=by simp[List.drop_eq_getElem_cons,J0]
  have:=F O (by rw[show i+(n+1)=i+1+n by omega];exact R) (L.trans S);rw[U,List.take_succ_cons] at this;exact this
theorem zdi{t:Addr}{B:Array Value}{Q:List Value->Shared->Prop}(L:A.handled=none)(D:s.heap.IsList t B)(M:∀h',Heap.ExtBut s.heap.objs.size s.heap h'->Q B.toList { s with heap:=h' }):wpAny (model prog w) A (unpackItems (.ref t) B.size none) Q E s:=by
 have G:t≠s.heap.objs.size:=by obtain⟨o,O,_⟩:=D;exact Nat.ne_of_lt (Heap.lt_size O)
 unfold unpackItems;refine wpAny_bind ?_
 .unfold notIterableAtAll;refine wpAny_bind (wpAny_specialOf D.typeIs F.slot_list_iter.lookup ?_);refine wpAny_pure ?_;simp only[Bool.false_eq_true,if_false];refine wpAny_bind (wpAny_holding (wpAny_pyIter_list D ?_));refine wpAny_bind (wpAny_holding (zfn G B.size 0 _ _ ⟨_,Heap.get?_push_size _ J,J,J⟩ (D.push _) (by omega) λR S I=>?_));have U:List.take B.size (List.drop 0 B.toList)=B.toList:=by
   rw[List.drop_zero];exact List.take_of_length_le (by simp)
  rw[U];rw[if_neg (by simp)];have V:Heap.IsList R t B:=(D.push _).extBut I.extBut G;refine wpAny_bind (wpAny_holding (wpAny_pyNext_list_end L S V (by simp) λW Y=>?_));simp only[Option.isSome_none,Bool.false_eq_true,if_false];refine wpAny_pure (M W λb o J0 e=>Y b o J0 (I.extBut b o J0 (Heap.get?_push_of_some _ e)))
theorem zc1{env:Env}{B:List Expr}{x1}{pos:Pos}{t:Addr}{D:Array Value}{Q:Unit->Shared->Prop}(F:A.handled=none)(G:s.heap.IsList t D)(I:(assignEach B env).length=D.size)(J0:(assignEach B env).findIdx? (·.1)=none)(h:∀h',Heap.ExtBut s.heap.objs.size s.heap h'->wpAny (model prog w) A (assignInOrder ((assignEach B env).map (·.2)) D.toList) Q E { s with heap:=h' }) :
  wpAny (model prog w) A (assign (.Tuple B x1 pos) env (.ref t)) Q E s:=by
 rw[assign_Tuple];refine wpAny_bind (wpAny_standAt ?_);unfold unpack;rw[I,J0];exact wpAny_bind (wpAny_holding (zdi F G h))
end
noncomputable def gTupL(K:W.Frag)(n:Nat)(t:TGs):TG:=λv σ H Q=>∃a xs,v=.ref a/\SqL K H a xs/\xs.length=n/\t xs σ H Q
theorem zh7{X:Cx}{pos:Pos}{es:List Expr}{k:Nat}{t:TGs}{n:Nat}(F:X.calm=true)(h:PGs X es t)(G:(assignEach es X.env).length=n:=by rfl)(I:(assignEach es X.env).findIdx? (·.1)=none:=by rfl):PG X (.Tuple es k pos) (gTupL X.K n t):=by
 intro pins s σ H v u Q B r hw;obtain⟨a,xs,J0,L,M,hw⟩:=hw;subst J0;cases r;obtain⟨its,D,O,U⟩:=B.list L;refine zc1 (B.ok.hd F) O.isList (by simp[G,←M,D.length]) I λh' R=>?_;have S:Inv X pins σ H { s with heap:=h' }:=B.kept (t':=s.toks) λb o e=>R b o (Nat.ne_of_lt (Heap.lt_size e)) e;exact h pins _ σ H xs _ Q S (by simpa using D) hw
end L2
namespace T1
open PySem PySem.Spec PyProof.Rows L2
noncomputable def zlH(b:Bool):R2:=λx y H Q=>∃z z' ds,Rep z H x (.tup ds)/\Rep z' H y (.tup ds)/\Deps 4 ds/\Q (.bl b) H
theorem zdM{X:Cx}(I:Room 5 X.A):OpR X (compareOp .NotEq) (zlH false):=by
 intro pins s σ H x y v u Q B O R h;obtain⟨z,z',ds,D,F,S,q⟩:=h;cases D with
 |@tup a xs _ U _ D=>
  cases F with
  |@tup b ys _ V _ F=>
   cases O;cases R;obtain⟨its,q1,W,_⟩:=B.tuple (SqT.of U);obtain⟨G,J0,p2,_⟩:=B.tuple (SqT.of V);have L:=q1.length;have Y:=J0.length;have M:=D.length;have Z:=F.length;have hsz:its.toArray.size=G.toArray.size:=by simp;omega
   show wpAny _ _ (richCompare .NotEq _ _) _ _ _;refine SeqAt.RcNeAt.tuples (e:=λ_=>true) W p2 I.units0 (λj h1 h2=>zh6 B 4 (S.get (i:=j) (by rw[←M,L];simpa using h1)) I.in1 (D.get (i:=j) (by rw[←M,L];simpa using h1)) (F.get (i:=j) (by rw[←Z,Y];simpa using h2)) (zbm q1 h1) (zbm J0 h2)) _ _ _ _ ?_;have e:(!((List.range (min its.toArray.size G.toArray.size)).all (λ_=>true)&&its.toArray.size==G.toArray.size))=false:=by rw[hsz];simp
   rw[e];exact⟨.bl _,H,B,J,q⟩
end T1
namespace L2
open PySem PySem.Spec PyProof.Rows
theorem zfo(a:Array Nat):∀(n:Nat) (B:Array Nat),((List.replicate n a).foldl (·++·) B).size=B.size+n*a.size
 |0,B=>by simp
 |n+1,B=>by
  rw[List.replicate_succ,List.foldl_cons,zfo a n,Array.size_append,Nat.succ_mul];omega
noncomputable def rRepS:R2:=λx y H Q=>∃(a:Str) (n:Nat),x=.str a/\y=.int n/\2<=n/\n<=100000/\1<=a.length/\a.length*n<=10000000/\∀b:Str,b.length=a.length*n->Q (.str b) H
theorem zkQ{X:Cx}:OpR X (binaryOp .Mult) rRepS:=by
 intro pins s σ H x y v u Q D F G h;obtain⟨a,n,rfl,rfl,h1,h2,S,U,q⟩:=h;obtain⟨t,rfl⟩:=F;obtain⟨t',rfl⟩:=G;have I:sizeLine=16777216:=sizeLine_eq;have J0:((n:Int)==1 || a.length==0)=false:=by
  rw[Bool.or_eq_false_iff];constructor
  .rw[beq_eq_false_iff_ne];omega
  .rw[beq_eq_false_iff_ne];omega
 refine PySem.P.mul_str (by
   have L:¬(n:Int) < -(2 ^ 63):=by omega
   have M:¬(n:Int) ≥ 2 ^ 63:=by omega
   rw[decide_eq_false L,decide_eq_false M];rfl) (λ_ _=>?_) (λ_ _=>?_) ?_
 .intro O;have V:a.length<=10000000:=by
   have:=Nat.mul_le_mul_left a.length h1;omega
  have R:(0:Int)<(n:Int):=by omega
  have:=(Int.lt_iff_add_one_le.mp O);have W:((2 ^ 63-1) / (n:Int)) ≥ (2 ^ 63-1) / 100000:=by
   refine Int.le_ediv_of_mul_le R ?_;have:((2 ^ 63-1) / 100000:Int)*(n:Int)<=((2 ^ 63-1) / 100000)*100000:=Int.mul_le_mul_of_nonneg_left (by omega) (by decide);refine Int.le_trans this (by decide)
  have Y:((2 ^ 63-1) / 100000:Int)=92233720368547:=by decide
  omega
 .show decide (a.length*(n:Int).toNat>sizeLine)=false;rw[decide_eq_false_iff_not,Int.toNat_natCast];omega
 .rw[if_neg (by omega),if_neg (by rw[J0];exact Bool.false_ne_true)];have B:Str.length ⟨(List.replicate (n:Int).toNat a.cps).foldl (·++·) #[]⟩=a.length*n:=by
   show Array.size _=_;rw[zfo,Int.toNat_natCast,Nat.mul_comm];show 0+_=_;rw[Nat.zero_add];rfl
  refine⟨by show Str.length ⟨(List.replicate (n:Int).toNat a.cps).foldl (·++·) #[]⟩<=sizeLine;rw[B,I];omega,⟨.str _,H,D.tok _,⟨_,J⟩,q _ B⟩⟩
end L2
namespace T1
open PySem PySem.Spec PyProof.Rows L2
end T1
namespace L2
open PySem PySem.Spec PyProof.Rows
theorem zgA{X:Cx}(I:X.calm=true):CallR X (.builtin "sum") (λxs H Q=>∃(p:Addr) (B:List Int),xs=[.ref p]/\SqL X.K H p (B.map V.int)/\Q (.int B.sum) H):=by
 intro pins s σ H xs us Q D r h;obtain⟨p,B,rfl,J0,q⟩:=h;obtain⟨u,rfl,L⟩:=vals1 r;cases L;obtain⟨its,M,pl,S⟩:=D.list J0;have hi:IntsAre its B:=zha M;obtain⟨zs,O⟩:=hi.allInts.items;have F:numsOf its.toArray.toList=B:=by rw[show its.toArray.toList=its from rfl,hi.numsOf]
 have G:=pl.isList;rw[O] at G F;rw[nums_intItems] at F;refine sum_intListG (D.ok.hd I) G λh' tk t' R=>?_;rw[preSum_eq,List.take_of_length_le (by simp),F];exact⟨.int _,H,D.kept (t':=tk) R,⟨_,J⟩,q⟩
noncomputable def rAddS:V->V->Hp->VK->Prop:=λx y H Q=>∃i j,x=.str i/\y=.str j/\i.length+j.length<=sizeLine/\Q (.str (i++j)) H
theorem zkR{X:Cx}:InOp X .Add rAddS:=by
 rintro pins s σ H x y u v Q B D F ⟨i,j,rfl,rfl,G,q⟩;obtain⟨t,rfl⟩:=D;obtain⟨t',rfl⟩:=F;exact iadd_str (λt' tk=>⟨.str (i++j),H,B.tok _,⟨_,J⟩,q⟩) G
end L2
namespace T1
open PySem L2 PyProof.Rows
mutual
noncomputable def eqD:D->D->Bool
 |.non,.non=>true
 |.bl a,.bl b=>a==b
 |.int a,.int b=>a==b
 |.str a,.str b=>a==b
 |.tup xs,.tup ys=>eqDs xs ys
 |.lst xs,.lst ys=>eqDs xs ys
 |_,_=>false
noncomputable def eqDs:List D->List D->Bool
 |[],[]=>true
 |a::xs,b::ys=>eqD a b&&eqDs xs ys
 |_,_=>false
end
mutual
theorem zlI:∀ {a b:D},eqD a b=true->a=b
 |.non,.non,_=>rfl
 |.bl a,.bl b,h=>by rw[eqD] at h;rw[eq_of_beq h]
 |.int a,.int b,h=>by rw[eqD] at h;rw[eq_of_beq h]
 |.str a,.str b,h=>by rw[eqD] at h;rw[eq_of_beq h]
 |.tup xs,.tup ys,h=>by rw[eqD] at h;rw[eqDs_eq h]
 |.lst xs,.lst ys,h=>by rw[eqD] at h;rw[eqDs_eq h]
 |.non,.bl _,h|.non,.int _,h|.non,.str _,h|.non,.tup _,h|.non,.lst _,h=>by simp[eqD] at h
 |.bl _,.non,h|.bl _,.int _,h|.bl _,.str _,h|.bl _,.tup _,h|.bl _,.lst _,h=>by simp[eqD] at h
 |.int _,.non,h|.int _,.bl _,h|.int _,.str _,h|.int _,.tup _,h|.int _,.lst _,h=>by simp[eqD] at h
 |.str _,.non,h|.str _,.bl _,h|.str _,.int _,h|.str _,.tup _,h|.str _,.lst _,h=>by simp[eqD] at h
 |.tup _,.non,h|.tup _,.bl _,h|.tup _,.int _,h|.tup _,.str _,h|.tup _,.lst _,h=>by simp[eqD] at h
 |.lst _,.non,h|.lst _,.bl _,h|.lst _,.int _,h|.lst _,.str _,h|.lst _,.tup _,h=>by simp[eqD] at h
theorem eqDs_eq:∀ {xs ys:List D},eqDs xs ys=true->xs=ys
 |[],[],_=>rfl
 |a::xs,b::ys,h=>by
  rw[eqDs,Bool.and_eq_true] at h;rw[zlI h.1,eqDs_eq h.2]
 |[],_::_,h=>by simp[eqDs] at h
 |_::_,[],h=>by simp[eqDs] at h
end
mutual
theorem zeA:∀a:D,eqD a a=true
 |.non=>by simp[eqD]
 |.bl a=>by simp[eqD]
 |.int a=>by simp[eqD]
 |.str a=>by simp[eqD]
 |.tup xs=>by rw[eqD];exact eqDs_refl xs
 |.lst xs=>by rw[eqD];exact eqDs_refl xs
theorem eqDs_refl:∀xs:List D,eqDs xs xs=true
 |[]=>by simp[eqDs]
 |a::xs=>by rw[eqDs,zeA a,eqDs_refl xs];rfl
end
theorem zci:∀xs ys:List D,eqDs xs ys=((List.range (min xs.length ys.length)).all (λj=>eqD (xs.getD j .non) (ys.getD j .non))&&xs.length==ys.length)
 |[],[]=>by simp[eqDs]
 |[],_::_=>by simp[eqDs]
 |_::_,[]=>by simp[eqDs]
 |a::xs,b::ys=>by
  rw[eqDs,zci xs ys,List.length_cons,List.length_cons,Nat.succ_min_succ,List.range_succ_eq_map,List.all_cons,List.all_map,Bool.and_assoc];congr 1;congr 1;simp
mutual
inductive Cmp:Nat->D->D->Prop where
 |non (k:Nat):Cmp k .non .non
 |int (k:Nat) (i j:Int):Cmp k (.int i) (.int j)
 |str (k:Nat) (x y:Str):Cmp k (.str x) (.str y)
 |tup {k:Nat} {xs ys:List D} (t:Cmps k xs ys):Cmp (k+1) (.tup xs) (.tup ys)
 |lst {k:Nat} {xs ys:List D} (t:Cmps k xs ys):Cmp (k+1) (.lst xs) (.lst ys)
inductive Cmps:Nat->List D->List D->Prop where
 |nilL (k:Nat) (ys:List D):Cmps k [] ys
 |nilR (k:Nat) (xs:List D):Cmps k xs []
 |cons {k:Nat} {a b:D} {xs ys:List D} (h:Cmp k a b) (t:Cmps k xs ys):Cmps k (a::xs) (b::ys)
end
theorem Cmps.get{k:Nat}:∀ {xs ys:List D}{i:Nat},Cmps k xs ys->i<xs.length->i<ys.length->Cmp k (xs.getD i .non) (ys.getD i .non)
 |_,_,_,.nilL _ _,h,_=>absurd h (by simp)
 |_,_,_,.nilR _ _,_,h=>absurd h (by simp)
 |_,_,0,.cons h _,_,_=>h
 |_,_,i+1,.cons _ t,h1,h2=>by
  have:=Cmps.get (i:=i) t (by simpa using h1) (by simpa using h2);simpa using this
mutual
theorem Rep.inj{z z':Addr}{H:Hp}:∀ {v:V}{d e:D},Rep z H v d->Rep z' H v e->d=e
 |_,_,_,.non,.non=>rfl
 |_,_,_,.bl _,.bl _=>rfl
 |_,_,_,.int _,.int _=>rfl
 |_,_,_,.str _ _,.str _ _=>rfl
 |_,_,_,.tup h _ r,.tup h' _ B=>by
  rw[h] at h';cases h';rw[Reps.inj r B]
 |_,_,_,.lst h _ r,.lst h' _ B=>by
  rw[h] at h';cases h';rw[Reps.inj r B]
 |_,_,_,.tup h _ _,.lst h' _ _=>by rw[h] at h';cases h'
 |_,_,_,.lst h _ _,.tup h' _ _=>by rw[h] at h';cases h'
theorem Reps.inj{z z':Addr}{H:Hp}:∀ {vs:List V}{ds es:List D},Reps z H vs ds->Reps z' H vs es->ds=es
 |_,_,_,.nil,.nil=>rfl
 |_,_,_,.cons h t,.cons h' t'=>by rw[Rep.inj h h',Reps.inj t t']
end
section
variable {X:Cx}{pins:List (Addr×Obj)}{σ:L2.St}{H:Hp}{s:Shared}{z z':Addr}
theorem zlJ(aa:Inv X pins σ H s):∀(k:Nat){d e:D},Cmp k d e->∀ {A:Around}{x y:V}{u v:Value},Room k A->Rep z H x d->Rep z' H y e->RelV x u->RelV y v->SeqAt.EqAt A s u v (eqD d e):=by
 intro k;induction k with
 |zero=>
  intro d e ad A x y u v L B F G I;cases ad with
  |non=>cases B;cases F;cases G;cases I;rw[eqD];exact SeqAt.EqAt.same _
  |int _ i j=>cases B;cases F;obtain⟨t,rfl⟩:=G;obtain⟨t',rfl⟩:=I;rw[eqD];exact SeqAt.EqAt.int_int (A:=A) (s:=s) i t j t'
  |str _ x y=>cases B;cases F;obtain⟨t,rfl⟩:=G;obtain⟨t',rfl⟩:=I;rw[eqD];exact SeqAt.EqAt.str_str (A:=A) (s:=s) x t y t'
 |succ k aj=>
  intro d e ad A x y u v L B F G I;cases ad with
  |non=>cases B;cases F;cases G;cases I;rw[eqD];exact SeqAt.EqAt.same _
  |int _ i j=>cases B;cases F;obtain⟨t,rfl⟩:=G;obtain⟨t',rfl⟩:=I;rw[eqD];exact SeqAt.EqAt.int_int (A:=A) (s:=s) i t j t'
  |str _ x y=>cases B;cases F;obtain⟨t,rfl⟩:=G;obtain⟨t',rfl⟩:=I;rw[eqD];exact SeqAt.EqAt.str_str (A:=A) (s:=s) x t y t'
  |@tup _ ds es t=>
   have ae:=B;have af:=F;cases B with
   |@tup a xs _ ag _ O=>
    cases F with
    |@tup b ys _ ah _ R=>
     cases G;cases I;by_cases M:a=b
     .subst M;rw[Rep.inj ae af,zeA];exact SeqAt.EqAt.same _
     .obtain⟨its,q1,ab,_⟩:=aa.tuple (SqT.of ag);obtain⟨ac,S,p2,_⟩:=aa.tuple (SqT.of ah);have U:=q1.length;have W:=S.length;have Y:=O.length;have Z:=R.length;have J0:=SeqAt.RcAt.tuples (e:=λj=>eqD (ds.getD j .non) (es.getD j .non)) ab p2 L.units0 λj h1 h2=>aj (t.get (i:=j) (by rw[←Y,U];simpa using h1) (by rw[←Z,W];simpa using h2)) L.in1 (O.get (i:=j) (by rw[←Y,U];simpa using h1)) (R.get (i:=j) (by rw[←Z,W];simpa using h2)) (zbm q1 h1) (zbm S h2);rw[eqD,zci];have ai:its.toArray.size=ds.length:=by simp;omega
      have ak:ac.toArray.size=es.length:=by simp;omega
      rw[ai,ak] at J0;exact SeqAt.EqAt.of_refs M J0
  |@lst _ ds es t=>
   have ae:=B;have af:=F;cases B with
   |@lst a xs _ ag _ O=>
    cases F with
    |@lst b ys _ ah _ R=>
     cases G;cases I;by_cases M:a=b
     .subst M;rw[Rep.inj ae af,zeA];exact SeqAt.EqAt.same _
     .obtain⟨its,q1,ab,_⟩:=aa.list (SqL.of ag);obtain⟨ac,S,p2,_⟩:=aa.list (SqL.of ah);have U:=q1.length;have W:=S.length;have Y:=O.length;have Z:=R.length;have ai:its.toArray.size=ds.length:=by simp;omega
      have ak:ac.toArray.size=es.length:=by simp;omega
      rw[eqD,zci];by_cases hsz:its.toArray.size=ac.toArray.size
      .have J0:=SeqAt.RcAt.lists (e:=λj=>eqD (ds.getD j .non) (es.getD j .non)) ab.isList p2.isList hsz L.units0 λj h1 h2=>aj (t.get (i:=j) (by rw[←Y,U];simpa using h1) (by rw[←Z,W];simpa using h2)) L.in1 (O.get (i:=j) (by rw[←Y,U];simpa using h1)) (R.get (i:=j) (by rw[←Z,W];simpa using h2)) (zbm q1 h1) (zbm S h2);have al:ds.length=es.length:=by omega
       rw[ai] at J0;have e:((List.range (min ds.length es.length)).all (λj=>eqD (ds.getD j .non) (es.getD j .non))&&ds.length==es.length)=(List.range ds.length).all (λj=>eqD (ds.getD j .non) (es.getD j .non)):=by
        rw[al,Nat.min_self,beq_self_eq_true,Bool.and_true]
       rw[e];exact SeqAt.EqAt.of_refs M J0
      .have J0:=SeqAt.RcAt.lists_lengths (A:=A) ab.isList p2.isList (by simpa using hsz) L.units0;have e:(ds.length==es.length)=false:=by rw[beq_eq_false_iff_ne];omega
       rw[e,Bool.and_false];exact SeqAt.EqAt.of_refs M J0
noncomputable def rEqT:R2:=λx y H Q=>∃z z' ds es,Rep z H x (.tup ds)/\Rep z' H y (.tup es)/\Cmps 4 ds es/\Q (.bl (eqDs ds es)) H
theorem zlK{X:Cx}(G:Room 5 X.A):OpR X (compareOp .Eq) rEqT:=by
 intro pins s σ H x y v u Q B R S h;obtain⟨z,z',ds,es,D,F,t,q⟩:=h;cases D with
 |@tup a xs _ U _ D=>
  cases F with
  |@tup b ys _ V _ F=>
   cases R;cases S;obtain⟨its,q1,W,_⟩:=B.tuple (SqT.of U);obtain⟨Y,I,p2,_⟩:=B.tuple (SqT.of V);have J0:=q1.length;have L:=I.length;have M:=D.length;have O:=F.length;have Z:its.toArray.size=ds.length:=by simp;omega
   have aa:Y.toArray.size=es.length:=by simp;omega
   rw[zci,←Z,←aa] at q;show wpAny _ _ (richCompare .Eq _ _) _ _ _;exact SeqAt.RcAt.tuples (e:=λj=>eqD (ds.getD j .non) (es.getD j .non)) W p2 G.units0 (λj h1 h2=>zlJ B 4 (t.get (i:=j) (by rw[←M,J0];simpa using h1) (by rw[←O,L];simpa using h2)) G.in1 (D.get (i:=j) (by rw[←M,J0];simpa using h1)) (F.get (i:=j) (by rw[←O,L];simpa using h2)) (zbm q1 h1) (zbm I h2)) _ _ _ _ ⟨.bl _,H,B,J,q⟩
end
end T1
namespace L2
open PySem PySem.Spec PyProof.Rows
section
variable {κ:Type} [DecidableEq κ]
noncomputable def valV(kvs:List (κ×V))(k:κ):Option V:=(kvs.find? λB=>decide (B.1=k)).map (·.2)
noncomputable def putK(kvs:List (κ×V))(k:κ)(v:V):List (κ×V):=
 if (kvs.any λB=>decide (B.1=k))=true then kvs.map (λB=>if B.1=k then (B.1,v) else B) else kvs++[(k,v)]
theorem zgB{k:κ}:valV ([]:List (κ×V)) k=none:=rfl
theorem zbn{p:κ×V}{r:List (κ×V)}{k:κ}(e:p.1=k):valV (p::r) k=some p.2:=by simp[valV,List.find?_cons,e]
theorem zbo{p:κ×V}{r:List (κ×V)}{k:κ}(e:¬p.1=k):valV (p::r) k=valV r k:=by simp[valV,List.find?_cons,e]
theorem zdn(k:κ):∀kvs:List (κ×V),(kvs.any λB=>decide (B.1=k))=(valV kvs k).isSome
 |[]=>rfl
 |p::r=>by
  rw[List.any_cons];by_cases e:p.1=k
  .simp only[zbn e,decide_eq_true e,Bool.true_or,Option.isSome_some]
  .rw[zbo e,decide_eq_false e,Bool.false_or];exact zdn k r
theorem zgC(k j:κ)(y:V):∀kvs:List (κ×V),valV (kvs.map λB=>if B.1=k then (B.1,y) else B) j=(valV kvs j).map λx=>if j=k then y else x
 |[]=>rfl
 |p::r=>by
  have D:=zgC k j y r;rw[List.map_cons];by_cases h:p.1=k
  .rw[if_pos h];by_cases e:p.1=j
   .rw[zbn (p:=(p.1,y)) e,zbn e,Option.map_some,if_pos (e.symm.trans h)]
   .rw[zbo (p:=(p.1,y)) e,zbo e,D]
  .rw[if_neg h];by_cases e:p.1=j
   .rw[zbn (p:=p) e,zbn e,Option.map_some,if_neg (λz=>h (e.trans z))]
   .rw[zbo (p:=p) e,zbo e,D]
theorem zfp(k j:κ)(y:V):∀kvs:List (κ×V),valV kvs k=none->valV (kvs++[(k,y)]) j=if j=k then some y else valV kvs j
 |[],_=>by
  by_cases e:k=j
  .rw[if_pos e.symm];exact zbn (p:=(k,y)) e
  .rw[if_neg (λz=>e z.symm)];exact zbo (p:=(k,y)) e
 |p::r,B=>by
  rw[List.cons_append];have D:¬p.1=k:=λz=>by rw[zbn z] at B;cases B
  rw[zbo D] at B;have F:=zfp k j y r B;by_cases e:p.1=j
  .rw[zbn e,zbn e,if_neg (λz=>D (e.trans z))]
  .rw[zbo e,zbo e,F]
theorem zdo(kvs:List (κ×V))(k j:κ)(y:V):valV (putK kvs k y) j=if j=k then some y else valV kvs j:=by
 unfold putK;by_cases a:(kvs.any λB=>decide (B.1=k))=true
 .rw[if_pos a,zgC];rw[zdn] at a;by_cases e:j=k
  .obtain⟨x,D⟩:=Option.isSome_iff_exists.mp a;rw[if_pos e,e,D,Option.map_some,if_pos rfl]
  .rw[if_neg e];cases valV kvs j with
   |none=>rfl
   |some x=>rw[Option.map_some,if_neg e]
 .rw[if_neg a];refine zfp k j y kvs ?_;rw[zdn] at a;cases q:valV kvs k with
  |none=>rfl
  |some x=>rw[q] at a;exact(a J).elim
theorem zb2(kvs:List (κ×V))(k:κ)(v:V):(putK kvs k v).length<=kvs.length+1:=by
 unfold putK;split
 .rw[List.length_map];omega
 .rw[List.length_append,List.length_cons,List.length_nil];omega
theorem RelO.isSome_eq{o:Option V}{u:Option Value}(r:RelO o u):o.isSome=u.isSome:=by
 cases o with
 |none=>cases u with
  |none=>rfl
  |some _=>exact(show False from r).elim
 |some _=>cases u with
  |none=>exact(show False from r).elim
  |some _=>rfl
theorem KV.val{kvs:List (κ×V)}{vs:List (κ×Value)}(r:KV kvs vs)(k:κ):RelO (valV kvs k) (valueAt vs k):=by
 unfold KV at r;induction r with
 |nil=>exact True.intro
 |@cons p q ps B h t F=>
  obtain⟨h1,h2⟩:=h;by_cases e:p.1=k
  .have D:q.1=k:=h1.symm.trans e;have b:valueAt (q::B) k=some q.2:=by simp[valueAt,List.find?_cons,D]
   rw[zbn e,b];exact h2
  .have D:¬q.1=k:=λz=>e (h1.trans z);have b:valueAt (q::B) k=valueAt B k:=by simp[valueAt,List.find?_cons,D]
   rw[zbo e,b];exact F
theorem KV.any{kvs:List (κ×V)}{vs:List (κ×Value)}(r:KV kvs vs)(k:κ):(kvs.any λB=>decide (B.1=k))=vs.any λB=>decide (B.1=k):=by
 unfold KV at r;induction r with
 |nil=>rfl
 |cons h t D=>rw[List.any_cons,List.any_cons,D,h.1]
theorem KV.repl{kvs:List (κ×V)}{vs:List (κ×Value)}(r:KV kvs vs)(k:κ){y:V}{u:Value}(D:RelV y u) :
  KV (kvs.map λB=>if B.1=k then (B.1,y) else B) (vs.map λB=>if B.1=k then (B.1,u) else B):=by
 unfold KV at r ⊢;induction r with
 |nil=>exact .nil
 |@cons p q ps G h t F=>
  rw[List.map_cons,List.map_cons];refine .cons ?_ F;obtain⟨h1,h2⟩:=h;by_cases e:p.1=k
  .rw[if_pos e,if_pos (h1.symm.trans e)];exact⟨h1,D⟩
  .rw[if_neg e,if_neg (λz=>e (h1.trans z))];exact⟨h1,h2⟩
theorem KV.put{kvs:List (κ×V)}{vs:List (κ×Value)}(r:KV kvs vs)(k:κ){y:V}{u:Value}(B:RelV y u):KV (putK kvs k y) (stored vs k u):=by
 unfold putK stored;rw[r.any k];by_cases e:(vs.any λD=>decide (D.1=k))=true
 .rw[if_pos e,if_pos e];exact r.repl k B
 .rw[if_neg e,if_neg e];exact Paired.snoc r ⟨J,B⟩
theorem KV.length{kvs:List (κ×V)}{vs:List (κ×Value)}(r:KV kvs vs):kvs.length=vs.length:=Paired.length r
end
theorem zh8{P:Program}{w:World}{k:Key}{u:Value}(r:RelV (kV k) u):(zaI P w).is k u=true:=by
 cases k with
 |inl i=>obtain⟨t,e⟩:=(show ∃t,u=Value.int i t from r);subst e;exact zfN P w i t
 |inr x=>obtain⟨t,e⟩:=(show ∃t,u=Value.str x t from r);subst e;exact zfO P w x t
theorem zfq{P:Program}{w:World}:∀ {ks:List Key}{us:List Value},Vals (ks.map kV) us->ItemsAre (zaI P w) ks us
 |[],_,r=>by rw[List.map_nil] at r;cases r;exact .nil
 |k::ks,_,r=>by
  rw[List.map_cons] at r;cases r with
  |cons h t=>exact .cons (zh8 h) (zfq t)
noncomputable abbrev KT(H:Hp):List (List Key×V)->List (List Key×Addr×Value)->Prop:=Paired λp q=>p.1=q.1/\H q.2.1=some (.tup (p.1.map kV))/\RelV p.2 q.2.2
theorem KT.val{H:Hp}{kvs:List (List Key×V)}{xs:List (List Key×Addr×Value)}(r:KT H kvs xs)(k:List Key):RelO (valV kvs k) ((atKey xs k).map (·.2)):=by
 induction r with
 |nil=>exact True.intro
 |@cons p q ps B h t F=>
  obtain⟨h1,_,h2⟩:=h;by_cases e:p.1=k
  .have D:q.1=k:=h1.symm.trans e;have b:atKey (q::B) k=some q.2:=by simp[atKey,List.find?_cons,D]
   rw[zbn e,b];exact h2
  .have D:¬q.1=k:=λz=>e (h1.trans z);have b:atKey (q::B) k=atKey B k:=by simp[atKey,List.find?_cons,D]
   rw[zbo e,b];exact F
theorem KT.repl{H:Hp}{kvs:List (List Key×V)}{xs:List (List Key×Addr×Value)}(r:KT H kvs xs)(k:List Key){y:V}{u:Value}(D:RelV y u) :
  KT H (kvs.map λB=>if B.1=k then (B.1,y) else B) (xs.map (putAt k u)):=by
 induction r with
 |nil=>exact .nil
 |@cons p q ps I h t F=>
  rw[List.map_cons,List.map_cons];refine .cons ?_ F;obtain⟨h1,h2,G⟩:=h;unfold putAt;by_cases e:p.1=k
  .rw[if_pos e,if_pos (h1.symm.trans e)];exact⟨h1,h2,D⟩
  .rw[if_neg e,if_neg (λz=>e (h1.trans z))];exact⟨h1,h2,G⟩
theorem KT.put{H:Hp}{kvs:List (List Key×V)}{xs:List (List Key×Addr×Value)}(r:KT H kvs xs)(k:List Key){b:Addr}{y:V}{u:Value}(D:H b=some (.tup (k.map kV)))(B:RelV y u) :
  KT H (putK kvs k y) (storedH xs k b u):=by
 have e:(kvs.any λF=>decide (F.1=k))=(atKey xs k).isSome:=by
  rw[zdn,(r.val k).isSome_eq,Option.isSome_map]
 unfold putK storedH;rw[e];by_cases q:(atKey xs k).isSome=true
 .rw[if_pos q,if_pos q];exact r.repl k B
 .rw[if_neg q,if_neg q];exact Paired.snoc r ⟨J,D,B⟩
theorem KT.keeps{H H':Hp}{kvs:List (List Key×V)}{xs:List (List Key×Addr×Value)}(r:KT H kvs xs)(B:∀b ys,H b=some (.tup ys)->H' b=some (.tup ys)):KT H' kvs xs:=
 Paired.mapP r λ_ _ z=>⟨z.1,B _ _ z.2.1,z.2.2⟩
section
variable {P:Program}{w:World}{H:Hp}{h:Heap}{a:Addr}
theorem zlL{u:HO}(B:HOk P w H h)(e:Rd H a u):ObjOk P w H h a u:=e.ok B
theorem zjC{kvs:List (Key×V)}(B:HOk P w H h)(e:Rd H a (.dK kvs)):kvs.length<=sizeLine/\(a==sysModules)=false/\∃vs,KV kvs vs/\h.DictOf (zaI P w) a vs:=
 show ObjOk P w H h a (.dK kvs) from zlL B e
theorem zl6{kvs:List (Key×V)}(B:HOk P w H h)(e:H a=some (.dK kvs)):kvs.length<=sizeLine/\(a==sysModules)=false/\∃vs,KV kvs vs/\h.DictOf (zaI P w) a vs:=zjC B (.inl e)
theorem zfr{ks:List Key}(B:HOk P w H h)(e:H a=some (.tup (ks.map kV))):(tupleKind (zaI P w)).is h ks a:=by
 obtain⟨_,its,r,o,h1,h2,n,D⟩:=(show ObjOk P w H h a (.tup (ks.map kV)) from B a _ e);exact⟨o,its.toArray,n,h1,h2,D,by simpa using zfq r⟩
theorem zjD{kvs:List (List Key×V)}(B:HOk P w H h)(e:Rd H a (.dT kvs)):kvs.length<=sizeLine/\(a==sysModules)=false /\
  ∃xs,KT H kvs xs/\h.DictOfH (tupleKind (zaI P w)) a xs:=by
 obtain⟨z,y,xs,r,o,es,F,h1,h2,G,I,J0⟩:=(show ObjOk P w H h a (.dT kvs) from zlL B e);refine⟨z,y,xs,r,o,es,F,h1,h2,G,I,λx hx=>?_,J0⟩;have L:∀ {l:List (List Key×V)} {m:List (List Key×Addr×Value)},KT H l m->∀x∈m,(tupleKind (zaI P w)).is h x.1 x.2.1:=by
  intro l m q;induction q with
  |nil=>intro x hx;exact nomatch hx
  |@cons p q ps O D t M=>
   intro x hx;rcases List.mem_cons.mp hx with e|hx
   .subst e;exact zfr B (by rw[←D.1];exact D.2.1)
   .exact M x hx
 exact L r x hx
theorem zl7{kvs:List (List Key×V)}(B:HOk P w H h)(e:H a=some (.dT kvs)):kvs.length<=sizeLine/\(a==sysModules)=false /\
  ∃xs,KT H kvs xs/\h.DictOfH (tupleKind (zaI P w)) a xs:=zjD B (.inl e)
end
noncomputable def DGet(H:Hp)(a:Addr)(y:V)(r:Option V):Prop:=
 (∃kvs k,Rd H a (.dK kvs)/\y=kV k/\r=valV kvs k)∨∃kvs k b,Rd H a (.dT kvs)/\y=.ref b/\H b=some (.tup (k.map kV))/\r=valV kvs k
noncomputable def DPut(H:Hp)(a:Addr)(y v:V)(H':Hp):Prop:=
 (∃kvs k,H a=some (.dK kvs)/\y=kV k/\kvs.length<sizeLine/\H'=upd H a (.dK (putK kvs k v))) ∨
 ∃kvs k b,H a=some (.dT kvs)/\y=.ref b/\H b=some (.tup (k.map kV))/\kvs.length<sizeLine/\H'=upd H a (.dT (putK kvs k v))
theorem DGet.k{H:Hp}{a:Addr}{kvs:List (Key×V)}{k:Key}(e:H a=some (.dK kvs)):DGet H a (kV k) (valV kvs k):=.inl ⟨kvs,k,.inl e,J,J⟩
theorem DPut.k{H:Hp}{a:Addr}{kvs:List (Key×V)}{k:Key}{v:V}(e:H a=some (.dK kvs))(B:kvs.length<sizeLine):DPut H a (kV k) v (upd H a (.dK (putK kvs k v))):=.inl ⟨kvs,k,e,J,B,J⟩
section
variable {X:Cx}{pins:List (Addr×Obj)}{σ:St}{H:Hp}{s:Shared}{a:Addr}{y v:V}{u r:Value}{o:Option V}{A:Around}{E:Value->Shared->Prop}
theorem Inv.big(B:Inv X pins σ H s):sysModules<s.heap.objs.size:=by
 have h:mainGlobals<s.heap.objs.size:=(B.mod.glob.keeps B.bk).lt;exact Nat.lt_trans (by decide) h
theorem zh9{Q:Value->Shared->Prop}(L:A.units+1<cLine)(D:Inv X pins σ H s)(g:DGet H a y (some v))(J0:RelV y u)(h:∀B s',Inv X pins σ H s'->RelV v B->Q B s') :
  wpAny (model X.prog X.w) A (getItem (.ref a) u) Q E s:=by
 rcases g with⟨kvs,k,e,F,l⟩|⟨kvs,k,b,e,F,M,l⟩
 .subst F;obtain⟨z,O,vs,G,dd⟩:=zjC D.hok e;obtain⟨B,hw,I⟩:=RelO.some_of (v:=v) (o:=valueAt vs k) (by rw[l];exact G.val k);exact wpAny_getItem_of (zh8 J0) dd.mapOf hw (h B _ (D.tok _) I)
 .subst F;cases (show u=Value.ref b from J0);obtain⟨z,O,xs,G,dd⟩:=zjD D.hok e;obtain⟨B,hw,I⟩:=RelO.some_of (v:=v) (o:=(atKey xs k).map (·.2)) (by rw[l];exact G.val k);obtain⟨p,R,S⟩:=Option.map_eq_some_iff.mp hw;refine wpAny_getItem_heap (tupleKind_room_in1 L) (zfr D.hok M) dd R ?_;rw[S];exact h B _ (D.tok _) I
theorem d_in{Q:Value->Shared->Prop}(J0:A.units+1<cLine)(B:Inv X pins σ H s)(g:DGet H a y o)(I:RelV y u)(h:∀s',Inv X pins σ H s'->Q (.bool o.isSome) s') :
  wpAny (model X.prog X.w) A (compareOp .In u (.ref a)) Q E s:=by
 rcases g with⟨kvs,k,e,D,l⟩|⟨kvs,k,b,e,D,L,l⟩
 .subst D;obtain⟨z,F,vs,G,dd⟩:=zjC B.hok e;refine wpAny_in_of (zh8 I) F dd.mapOf ?_;rw[←(G.val k).isSome_eq,←l];exact h _ (B.tok _)
 .subst D;cases (show u=Value.ref b from I);obtain⟨z,F,xs,G,dd⟩:=zjD B.hok e;refine wpAny_in_heap (tupleKind_room_in1 J0) (zfr B.hok L) F dd ?_;have q:=(G.val k).isSome_eq;rw[Option.isSome_map] at q;rw[←q,←l];exact h _ (B.tok _)
theorem zfX{h':Heap}{t':Nat}{B:HO}(D:Inv X pins σ H s)(F:Mut (H a))(G:Heap.SameBut a s.heap h')(I:∃q,h'.get? a=some q)(J0:ObjOk X.prog X.w (upd H a B) h' a B) :
  Inv X pins σ (upd H a B) { s with heap:=h',toks:=t' }:=
 D.write (x:=a) (e:=a) F (.inl J) (λb q L z=>(G.2 b L).trans z) I J0
theorem zlM{P:Program}{w:World}{H':Hp}{h':Heap}{kvs:List (Key×V)}{vs:List (Key×Value)}(z:kvs.length<=sizeLine)(B:(a==sysModules)=false)(D:KV kvs vs)(dd:h'.DictOf (zaI P w) a vs) :
  ObjOk P w H' h' a (.dK kvs):=⟨z,B,vs,D,dd⟩
theorem zia{H':Hp}{Q:Unit->Shared->Prop}(Y:A.units+1<cLine)(B:Inv X pins σ H s)(g:DPut H a y v H')(S:RelV y u)(U:RelV v r)(h:∀s',Inv X pins σ H' s'->Q () s') :
  wpAny (model X.prog X.w) A (setItem (.ref a) u r) Q E s:=by
 rcases g with⟨kvs,k,e,I,l,J0⟩|⟨kvs,k,b,e,I,V,l,J0⟩
 .subst I J0;obtain⟨z,L,vs,D,dd⟩:=zl6 B.hok e;have M:vs.length<=sizeLine:=by rw[←D.length];exact z
  have O:(putK kvs k v).length<=sizeLine:=by have:=zb2 kvs k v;omega
  refine wpAny_setItem_pairs (hsz:=M) (zh8 S) dd λh' F R=>h _ ?_;have Z:∃q,h'.get? a=some q:=let ⟨q,_,_,G,_⟩:=F;⟨q,G⟩;exact zfX B (by rw[e];exact True.intro) R Z (zlM O L (D.put k U) F)
 .subst I J0;cases (show u=Value.ref b from S);obtain⟨z,L,xs,D,dd⟩:=zl7 B.hok e;have M:xs.length<=sizeLine:=by rw[←Paired.length D];exact z
  have O:(putK kvs k v).length<=sizeLine:=by have:=zb2 kvs k v;omega
  refine wpAny_setItem_heap (hsz:=M) (tupleKind_room_in1 Y) (zfr B.hok V) dd λh' F R=>h _ ?_;obtain⟨q,es,aa,G,h2,ab,ac,_,ad⟩:=F;refine zfX B (by rw[e];exact True.intro) R ⟨q,G⟩ ⟨O,L,_,(D.put k V U).keeps λc ys W=>?_,q,es,aa,G,h2,ab,ac,ad⟩;rw[zah (zao W e (λz=>nomatch z))];exact W
end
section
variable {X:Cx}{pins:List (Addr×Obj)}{σ:St}{H:Hp}{s:Shared}{a:Addr}{kvs:List (Key×V)}{k:Key}{u:Value}{A:Around}{E:Value->Shared->Prop}
end
noncomputable def NoSl(i:Expr):Prop:=∀B D,subscripted i false B D=operate [B,D] (getItem B D)
theorem zib{prog:Program}{w:World}{A:Around}{E:Value->Shared->Prop}{s:Shared}{env:Env}{value B:Expr}{pos:Pos}{T id:String}{Q:Value->Shared->Prop}(M:typeLookup (.type T) "__getitem__"=pure (some (.builtin id)))(O:NoSl B)(h:wpAny (model prog w) A (eval value env) (λo I=>wpAny (model prog w) A (eval B env) (λi D=>D.TypeIs o T/\wpAny (model prog w) A (getItem o i) Q E D) E I) E s) :
  wpAny (model prog w) A (eval (.Subscript value B pos) env) Q E s:=by
 refine Subscript_ (wpAny_mono h (λo I R=>wpAny_mono R (λi D F=>?_) λ_ _ x=>x) λ_ _ x=>x);obtain⟨J0,F⟩:=F;unfold subscriptTail;refine wpAny_bind ?_;rw[getitemInPython_of_ne J0.not_modules];refine wpAny_bind (wpAny_specialOf J0 M ?_);have G:wpAny (model prog w) A (subscripted B false o i) (λr L=>wpAny (model prog w) A (letTemporaryGo value o r >>= λ_=>pure r) Q E L) E D:=by
  rw[O o i];exact wpAny_operating (wpAny_mono F (λr L S=>wpAny_bind (wpAny_letTemporaryGo (wpAny_pure S))) λ_ _ x=>x)
 first
  |exact wpAny_pure (wpAny_bind G)
  |exact wpAny_bind (wpAny_pure (wpAny_bind G))
  |exact wpAny_bind G
theorem zfY{X:Cx}{pins:List (Addr×Obj)}{σ:St}{H:Hp}{s:Shared}{a:Addr}{y:V}{o:Option V}(B:Inv X pins σ H s)(g:DGet H a y o):s.TypeIs (.ref a) "dict":=by
 rcases g with⟨kvs,k,e,_,_⟩|⟨kvs,k,b,e,_,_,_⟩
 .obtain⟨_,_,vs,_,dd⟩:=zjC B.hok e;exact dd.typeIs
 .obtain⟨_,_,xs,_,dd⟩:=zjD B.hok e;exact dd.typeIs
noncomputable def tDGet(td ty:TE):TE:=λσ H Q=>td σ H λx H1=>ty σ H1 λy H2=>∃a v,x=.ref a/\DGet H2 a y (some v)/\Q v H2
noncomputable def tDIn(ty td:TE):TE:=λσ H Q=>ty σ H λy H1=>td σ H1 λx H2=>∃a o,x=.ref a/\DGet H2 a y o/\Q (.bl o.isSome) H2
noncomputable def sDPut(td ty tv:TE):TS:=λD σ H=>tv σ H λv H1=>td σ H1 λx H2=>ty σ H2 λy F=>∃a B,x=.ref a/\DPut F a y v B/\D.nx σ B
section
variable {X:Cx}{o i e value:Expr}{pos pos' tpos:Pos}{td ty tv:TE}
theorem zeB(D:X.A.units+1<cLine)(F:PE X o td)(hi:PE X i ty)(G:NoSl i):PE X (.Subscript o i pos) (tDGet td ty):=by
 intro pins s σ H Q I h;refine zib PySem.F.slot_dict_getitem.lookup G (thn (F pins s σ H _ I h) λu J0 L=>?_);obtain⟨x,H1,M,O,q1⟩:=L;refine thn (hi pins J0 σ H1 _ M q1) λY Z R=>?_;obtain⟨y,H2,B,S,a,v,ex,g,U⟩:=R;subst ex;obtain rfl:u=Value.ref a:=O;exact⟨zfY B g,zh9 D B g S λaa ab V W=>⟨v,H2,V,W,U⟩⟩
theorem zic(B:X.A.units+1<cLine)(hi:PE X i ty)(D:PE X o td):PC X .In i o (tDIn ty td):=by
 intro pins s σ H Q F h;refine thn (hi pins s σ H _ F h) λW G I=>?_;obtain⟨y,H1,J0,L,q1⟩:=I;refine thn (D pins G σ H1 _ J0 q1) λu Y M=>?_;obtain⟨x,H2,O,R,a,S,ex,g,U⟩:=M;subst ex;obtain rfl:u=Value.ref a:=R;exact d_in B O g L λZ V=>⟨.bl S.isSome,H2,V,J,U⟩
theorem zfZ(B:X.A.units+1<cLine)(F:PE X o td)(hi:PE X i ty)(G:PE X value tv)(I:swapsWith value (some (.Subscript o i pos')) pos.line X.env=pure false) :
  PS X (.Assign [.Subscript o i pos'] value pos) (sDPut td ty tv):=by
 intro pins s σ H D J0 h;refine wpAny_Assign_Subscript (thn (G pins s σ H _ J0 h) λr L M=>?_) I;obtain⟨v,H1,O,R,q1⟩:=M;refine thn (F pins L σ H1 _ O q1) λu S U=>?_;obtain⟨x,H2,V,W,Y⟩:=U;refine thn (hi pins S σ H2 _ V Y) λaf ag Z=>?_;obtain⟨y,ah,aa,ab,a,ac,ex,g,ad⟩:=Z;subst ex;obtain rfl:u=Value.ref a:=W;exact zia B aa g ab R λai ae=>⟨σ,ac,ae,ad⟩
end
theorem zjE{P:Program}{w:World}{H:Hp}(h:Heap)(B:sysModules<h.objs.size):ObjOk P w H (h.push { cls:=.type "dict",data:=.dict #[] }) h.objs.size (.dK []):=
 ⟨Nat.zero_le _,beq_eq_false_iff_ne.mpr (Ne.symm (Nat.ne_of_lt B)),[],.nil,Heap.DictOf.new h⟩
noncomputable def zlN:TE:=λ_ H Q=>∀p,H p=none->Q (.ref p) (upd H p (.dK []))
section
variable {X:Cx}{pos:Pos}
theorem zgD:PE X (.Dict [] [] pos) zlN:=λpins s σ H Q B h=>
 wpAny_Dict_empty ⟨.ref s.heap.objs.size,_,B.laid (a:=s.heap.objs.size) (o:=.dK []) (t':=s.toks) (λ_ _ q=>Heap.get?_push_of_some _ q) (Nat.le_refl _) (zjE s.heap B.big),J,h _ (B.hok.fresh (Nat.le_refl _))⟩
end
section
variable {X:Cx}{pins:List (Addr×Obj)}{σ:St}{H:Hp}{s:Shared}{a:Addr}{y d:V}{u r:Value}{o:Option V}{A:Around}{E:Value->Shared->Prop}
end
section
variable {X:Cx}{o e f:Expr}{apos cpos:Pos}{td ty tx:TE}
end
section
variable {X:Cx}{pins:List (Addr×Obj)}{σ:St}{H:Hp}{s:Shared}{a:Addr}{kvs:List (Key×V)}{A:Around}{E:Value->Shared->Prop}
end
section
variable {X:Cx}{pins:List (Addr×Obj)}{σ:St}{H:Hp}{s:Shared}{a:Addr}{y:V}{u:Value}{A:Around}{E:Value->Shared->Prop}
end
section
variable {κ:Type} [DecidableEq κ]
end
section
variable {P:Program}{w:World}{A:Around}{X:Value->Shared->Prop}{s:Shared}{b:Array Keyed}
end
noncomputable def zkS(I J0 L:R2)(ta tb tc td:TE):TT:=λσ H Q=>ta σ H λx H1=>tb σ H1 λy H2=>I x y H2 λz B=>∃k,z=.bl k /\
 (if k=true then tc σ B λu M=>J0 y u M λO D=>∃F,O=.bl F/\(if F=true then td σ D λv R=>L u v R λS U=>∃G,S=.bl G/\Q G U else Q false D) else Q false B)
theorem zid{X:Cx}{a b c d:Expr}{ta tb tc td:TE}{pos:Pos}{B D F:CmpOp}{J0 L M:R2}(h1:OpR X (compareOp B) J0)(h2:OpR X (compareOp D) L)(ac:OpR X (compareOp F) M)(ad:PE X a ta)(ae:PE X b tb)(af:PE X c tc)(ag:PE X d td)(ah:lastMarks [B,D,F] [b,c,d]=false:=by with_unfolding_all rfl):PT X (.Compare a [B,D,F] [b,c,d] pos) (zkS J0 L M ta tb tc td):=by
 intro pins s σ H Q ai h;refine isTrue_chain (thn (ad pins s σ H _ ai h) λv aj ⟨x,H1,ak,al,q1⟩=>test_link (thn (ae pins aj σ H1 _ ak q1) λu am ⟨y,H2,ao,O,ap⟩=>
  thn (h1 pins am σ H2 x y v u _ ao al O ap) λ_ aq ⟨z,R,S,ar,k,as,U⟩=>?_)) ah
 subst as;cases ar;refine wpAny_truthy_bool ?_;cases k with
 |false=>exact ite_ff ⟨R,S,U⟩
 |true=>
  refine ite_tt (test_link (thn (af pins aq σ R _ S U) λV au G=>?_));obtain⟨W,av,aw,Y,ax⟩:=G;refine thn (h2 pins au σ av y W u V _ aw O Y ax) λ_ ay I=>?_;obtain⟨aO,Z,aa,az,aA,aB,ab⟩:=I;subst aB;cases az;refine wpAny_truthy_bool ?_;cases aA with
  |false=>exact ite_ff ⟨Z,aa,ab⟩
  |true=>
   refine ite_tt (test_last (thn (ag pins ay σ Z _ aa ab) λaC aD G=>?_));obtain⟨aE,aF,aG,aH,aI⟩:=G;refine thn (ac pins aD σ aF W aE V aC _ aG Y aH aI) λ_ aP I=>?_;obtain⟨aQ,aJ,aK,aL,aR,aM,aN⟩:=I;subst aM;cases aL;exact wpAny_truthy_bool ⟨aJ,aK,aN⟩
section
variable {X:Cx}
end
section
variable {X:Cx}{sc:Scope}{cl:List (Str×Addr)}{N':List Str}{s:Shared}{H:Hp}{fp:List Addr}
theorem zkT:SlR (X.blk sc cl N' s H fp) (rSlT X.K):=zki
end
theorem bd0{B:Type}{f g:List Value->B}(h:f []=g [])(us:List Value)(e:us.length=0):f us=g us:=by
 rw[List.eq_nil_of_length_eq_zero e];exact h
theorem bdS{B:Type}{n:Nat}{f g:List Value->B}(h:∀a us,us.length=n->f (a::us)=g (a::us))(us:List Value)(e:us.length=n+1):f us=g us:=by
 cases us with
 |nil=>cases e
 |cons a r=>exact h a r (Nat.succ.inj e)
theorem bd1{B:Type}{f g:List Value->B}(h:∀a,f [a]=g [a]):∀us:List Value,us.length=1->f us=g us:=bdS λa=>bd0 (f:=λr=>f (a::r)) (g:=λr=>g (a::r)) (h a)
theorem bd2{B:Type}{f g:List Value->B}(h:∀a b,f [a,b]=g [a,b]):∀us:List Value,us.length=2->f us=g us:=bdS λa=>bd1 (f:=λr=>f (a::r)) (g:=λr=>g (a::r)) (h a)
theorem bd3{B:Type}{f g:List Value->B}(h:∀a b c,f [a,b,c]=g [a,b,c]):∀us:List Value,us.length=3->f us=g us:=bdS λa=>bd2 (f:=λr=>f (a::r)) (g:=λr=>g (a::r)) (h a)
theorem bd4{B:Type}{f g:List Value->B}(h:∀a b c d,f [a,b,c,d]=g [a,b,c,d]):∀us:List Value,us.length=4->f us=g us:=bdS λa=>bd3 (f:=λr=>f (a::r)) (g:=λr=>g (a::r)) (h a)
theorem bd5{B:Type}{f g:List Value->B}(h:∀a b c d e,f [a,b,c,d,e]=g [a,b,c,d,e]):∀us:List Value,us.length=5->f us=g us:=bdS λa=>bd4 (f:=λr=>f (a::r)) (g:=λr=>g (a::r)) (h a)
noncomputable abbrev NKey:=Sum Key (List Key)
section
variable (P:Program) (w:World)
noncomputable def ItemIs(h:Heap):NKey->Value->Prop
 |.inl k,v=>(zaI P w).is k v=true
 |.inr l,v=>∃d,v=.ref d/\IsTupleKey (zaI P w) h l d
inductive NItems(h:Heap):List NKey->List Value->Prop
 |nil:NItems h [] []
 |cons {k:NKey} {v:Value} {ks:List NKey} {vs:List Value}:ItemIs P w h k v->NItems h ks vs->NItems h (k::ks) (v::vs)
noncomputable def IsNest(h:Heap)(ks:List NKey)(a:Addr):Prop:=∃o B n,h.get? a=some o/\o.cls=.type "tuple"/\o.data=.seq B n/\NItems P w h ks B.toList
noncomputable def zbu:NKey->Int
 |.inl k=>(zaI P w).hash k
 |.inr l=>tupleKeyHash (zaI P w) l
noncomputable def zbU:NKey->Nat
 |.inl _=>1
 |.inr l=>l.length+1
noncomputable def zeC(ks:List NKey):Int:=reduceHash (Builtin.Tuple.tupleHashOf (ks.map (zbu P w)))
noncomputable def zdN(ks:List NKey):Nat:=(ks.map zbU).sum+1
end
section
variable {P:Program}{w:World}{A:Around}{E:Value->Shared->Prop}{s:Shared}
theorem ItemIs.inj{h:Heap}{x y:NKey}{v:Value}(D:ItemIs P w h x v)(B:ItemIs P w h y v):x=y:=by
 cases x with
 |inl k=>
  cases y with
  |inl F=>rw[(zaI P w).inj _ _ _ D B]
  |inr l=>
   obtain⟨d,rfl,_⟩:=B;have:=(zaI P w).byValue _ _ D;simp[carriedByValue] at this
 |inr l=>
  obtain⟨d,rfl,h1⟩:=D;cases y with
  |inl k=>
   have:=(zaI P w).byValue _ _ B;simp[carriedByValue] at this
  |inr l'=>
   obtain⟨d',e,h2⟩:=B;cases e;rw[h1.inj h2]
theorem NItems.inj{h:Heap}{x y:List NKey}{vs:List Value}(D:NItems P w h x vs)(B:NItems P w h y vs):x=y:=by
 induction D generalizing y with
 |nil=>cases B;rfl
 |cons h1 _ F=>
  cases B with
  |cons h2 G=>rw[ItemIs.inj h1 h2,F G]
theorem IsNest.typeIs{ks:List NKey}{a:Addr}(x:IsNest P w s.heap ks a):s.TypeIs (.ref a) "tuple":=let ⟨o,_,_,B,D,_⟩:=x;⟨o,B,D⟩
theorem IsNest.inj{h:Heap}{a:Addr}{x y:List NKey}(D:IsNest P w h x a)(F:IsNest P w h y a):x=y:=by
 obtain⟨o,M,n,G,_,I,hi⟩:=D;obtain⟨o',O,R,J0,_,B,L⟩:=F;obtain rfl:o=o':=Option.some.inj (G.symm.trans J0);rw[I] at B;injection B with h1 _;subst h1;exact hi.inj L
theorem NItems.keeps{h h':Heap}{ks:List NKey}{vs:List Value}(x:NItems P w h ks vs)(k:∀l d,IsTupleKey (zaI P w) h l d->IsTupleKey (zaI P w) h' l d):NItems P w h' ks vs:=by
 induction x with
 |nil=>exact .nil
 |@cons B v ks vs h1 _ D=>
  refine .cons ?_ D;cases B with
  |inl _=>exact h1
  |inr l=>obtain⟨d,e,h2⟩:=h1;exact⟨d,e,k l d h2⟩
theorem IsNest.keeps{h h':Heap}{ks:List NKey}{a d:Addr}{o:Obj}{es ep}(x:IsNest P w h ks a)(D:h.get? d=some o)(F:o.data=.dict es ep)(G:Heap.SameBut d h h'):IsNest P w h' ks a:=by
 obtain⟨o',J0,n,I,L,B,hi⟩:=x;have M:a≠d:=by
  rintro rfl;obtain rfl:o'=o:=Option.some.inj (I.symm.trans D);rw[F] at B;exact nomatch B
 exact⟨o',J0,n,(G.2 a M).trans I,L,B,hi.keeps λl d' q=>q.keeps D F G⟩
theorem zc2{ks:List NKey}{a:Addr}{Q:Int->Shared->Prop}(S:A.units+4<cLine)(L:IsNest P w s.heap ks a)(h:Q (zeC P w ks) { s with toks:=s.toks+zdN ks }) :
  wpAny (model P w) A (pyHash (.ref a)) Q E s:=by
 have D:=L.typeIs;have M:A.units<cLine:=by omega
 obtain⟨o,U,n,O,_,R,hi⟩:=L;unfold pyHash
 first|unfold pyHashByItsType|skip
 first|refine wpAny_bind (wpAny_cRoomFor_or (.inr M) ?_)|skip
 refine wpAny_bind (wpAny_specialOf D F.slot_tuple_hash.lookup ?_);show wpAny _ _ (if (some (Value.builtin "tuple.__hash__")==some Value.none)=true then _ else _) Q E s;rw[if_neg (by rw[beq_builtin_none];exact Bool.false_ne_true)];refine wpAny_bind (wpAny_specialOf D F.slot_tuple_hash.lookup ?_);show wpAny _ _ (callSpecialIfBoundUnlessNone? (.ref a) "__hash__" _ >>= _) Q E s;refine wpAny_bind (wpAny_callSpecialIfBoundUnlessNone?_slot D F.slot_tuple_hash (wpAny_call_entry F.slot_tuple_hash D F.entry_tuple_hash ?_ (F.args_tuple_hash_1 _)));show wpAny _ _ (Builtin.Tuple.tupleItemsOf (.ref a) >>= _) _ _ s;refine wpAny_bind (wpAny_tupleItemsOf O R ?_);refine wpAny_bind ?_;rw[←Array.forIn_toList];refine wpAny_forIn_list _
  (λrest (b:Array Int) s'=>∃done left,ks=done++left/\NItems P w s.heap left rest/\b.toList=done.map (zbu P w)/\s'={ s with toks:=s.toks+(done.map zbU).sum })
  _ ?_ ?_ _ _ ⟨[],ks,J,hi,J,J⟩
 .rintro x rest b s' ⟨done,left,rfl,J0,B,rfl⟩;cases J0 with
  |@cons k _ ks' _ h1 G=>
   cases k with
   |inl k=>
    refine wpAny_bind ((zaI P w).pyHash h1 ?_)
    first
     |exact wpAny_pure ⟨done++[.inl k],ks',by simp,G,by simp[B,zbu],by simp[zbU,Nat.add_assoc]⟩
     |exact wpAny_bind (wpAny_pure (wpAny_pure ⟨done++[.inl k],ks',by simp,G,by simp[B,zbu],by simp[zbU,Nat.add_assoc]⟩))
   |inr l=>
    obtain⟨d,rfl,h2⟩:=h1;refine wpAny_bind (wpAny_pyHash_tuple (knd:=zaI P w) (ks:=l) ?_ h2 ?_)
    .show A.units+1<cLine;omega
    first
     |exact wpAny_pure ⟨done++[.inr l],ks',by simp,G,by simp[B,zbu],by simp[zbU,Nat.add_assoc]⟩
     |exact wpAny_bind (wpAny_pure (wpAny_pure ⟨done++[.inr l],ks',by simp,G,by simp[B,zbu],by simp[zbU,Nat.add_assoc]⟩))
 .rintro b s' ⟨done,left,rfl,J0,B,rfl⟩;cases J0;rw[List.append_nil] at h;unfold zdN at h;show wpAny _ _ (retInt (Builtin.Tuple.tupleHashOf b.toList)) _ _ _;rw[B];refine wpAny_ret_mkInt ?_;show wpAny _ _ (if (decide (-(2:Int) ^ 63<=Builtin.Tuple.tupleHashOf (done.map (zbu P w)))&&decide (Builtin.Tuple.tupleHashOf (done.map (zbu P w))<2 ^ 63))=true then _ else _) Q E _;unfold zeC reduceHash at h;by_cases I:(decide (-(2:Int) ^ 63<=Builtin.Tuple.tupleHashOf (done.map (zbu P w)))&&decide (Builtin.Tuple.tupleHashOf (done.map (zbu P w))<2 ^ 63))=true
  .rw[if_pos I];rw[if_pos I] at h;exact wpAny_pure (by simpa [Nat.add_assoc] using h)
  .rw[if_neg I];rw[if_neg I] at h;exact wpAny_bind (wpAny_rule (wpAny_pure (by simpa [Nat.add_assoc] using h)))
theorem zfs{x y:List NKey}{a b:Addr}{R:Fin->Shared->Prop}(ae:A.units<cLine)(af:IsNest P w s.heap x a)(Z:IsNest P w s.heap y b)(sh:x.map Sum.isLeft=y.map Sum.isLeft)(h:R (.done (.ret (.bool (decide (x=y))))) s) :
  wpAny (model P w) A (Builtin.«tuple.__eq__» ⟨[.ref a,.ref b],[]⟩) R E s:=by
 have ag:=Z.typeIs;obtain⟨ay,xs,az,ah,_,ai,aj⟩:=af;obtain⟨aA,ys,aB,ak,_,al,am⟩:=Z;show wpAny _ _ (isInstance (.ref b) (.type "tuple") >>= _) _ _ s;refine wpAny_bind (wpAny_isInstance ag isSubtype_tuple_tuple ?_);simp only[Bool.not_true,Bool.false_eq_true,if_false];refine wpAny_bind (wpAny_tupleItemsOf ah ai ?_);refine wpAny_bind (wpAny_tupleItemsOf ak al ?_);refine wpAny_bind ?_;refine wpAny_forIn_list _
  (λrest r s'=>r.1=none/\s'=s/\∃x' y' I J0,rest=List.zip I J0/\NItems P w s.heap x' I/\NItems P w s.heap y' J0/\x'.map Sum.isLeft=y'.map Sum.isLeft/\decide (x'=y')=decide (x=y)/\(I.length==J0.length)=(xs.size==ys.size))
  _ ?_ ?_ _ _ ⟨J,J,x,y,xs.toList,ys.toList,J,aj,am,sh,J,by simp⟩
 .rintro⟨u,v⟩ rest r s' ⟨U,rfl,x',y',I,J0,G,V,L,W,M,Y⟩;cases V with
  |nil=>simp at G
  |@cons F aC aa ao h1 ap=>
   cases L with
   |nil=>simp at G
   |@cons D aD ab aq h2 ar=>
    simp only[List.zip_cons_cons,List.cons.injEq,Prod.mk.injEq] at G;obtain⟨⟨rfl,rfl⟩,rfl⟩:=G;rw[List.map_cons,List.map_cons] at W;injection W with ac as;have step:∀Q:Bool->Shared->Prop,Q (decide (F=D)) s'->wpAny (model P w) A (eqBool u v) Q E s':=λQ q=>by
     cases F with
     |inl F=>
      cases D with
      |inl D=>
       refine(zaI P w).eqBool (a:=F) (b:=D) h1 h2 ?_;have e:decide ((Sum.inl F:NKey)=Sum.inl D)=decide (F=D):=by
        by_cases B:F=D
        .rw[B];simp
        .rw[decide_eq_false B,decide_eq_false (λz=>B (Sum.inl.inj z))]
       rw[←e];exact q
      |inr _=>simp at ac
     |inr O=>
      cases D with
      |inl _=>simp at ac
      |inr S=>
       obtain⟨aE,rfl,au⟩:=h1;obtain⟨aF,rfl,av⟩:=h2;refine wpAny_eqBool_tuple (knd:=zaI P w) (x:=O) (y:=S) ae au av ?_;have e:decide ((Sum.inr O:NKey)=Sum.inr S)=decide (O=S):=by
        by_cases B:O=S
        .rw[B];simp
        .rw[decide_eq_false B,decide_eq_false (λz=>B (Sum.inr.inj z))]
       rw[←e];exact q
    refine wpAny_bind (step _ ?_);by_cases B:F=D
    .subst B;rw[decide_eq_true rfl];simp only[Bool.not_true,Bool.false_eq_true,if_false];refine wpAny_pure ⟨J,J,aa,ab,ao,aq,J,ap,ar,as,?_,by simpa using Y⟩;rw[←M];by_cases ad:aa=ab
     .simp[ad]
     .simp[ad]
    .rw[decide_eq_false B];simp only[Bool.not_false,if_true];have aw:decide (x=y)=false:=by rw[←M];simp[B]
     rw[aw] at h;exact wpAny_bind (wpAny_pure (wpAny_pure (wpAny_pure h)))
 .rintro⟨aG,aH⟩ s' ⟨U,rfl,x',y',I,J0,G,V,L,W,M,Y⟩;simp only at U;subst U;refine wpAny_pure ?_;have ax:(xs.size==ys.size)=decide (x=y):=by
   rw[←M,←Y];cases V with
   |nil=>
    cases L with
    |nil=>simp
    |cons _ _=>simp
   |cons _ _=>
    cases L with
    |nil=>simp
    |cons _ _=>simp at G
  show R (.done (.ret (.bool (xs.size==ys.size)))) s';rw[ax];exact h
theorem zc3{x y:List NKey}{a b:Addr}{Q:Bool->Shared->Prop}(I:A.units+4<cLine)(B:IsNest P w s.heap x a)(D:IsNest P w s.heap y b)(sh:x.map Sum.isLeft=y.map Sum.isLeft)(h:Q (decide (x=y)) s) :
  wpAny (model P w) A (eqBool (.ref a) (.ref b)) Q E s:=by
 unfold eqBool
 try with_reducible refine wpAny_holding ?_
 show wpAny _ _ (if (Value.ref a==Value.ref b)=true then _ else _) Q E s;by_cases G:(Value.ref a==Value.ref b)=true
 .rw[if_pos G];have e:a=b:=by have:=eq_of_beq G;injection this
  subst e;obtain rfl:=B.inj D;exact wpAny_bind (wpAny_rule (wpAny_pure (by simpa using h)))
 .rw[if_neg G];exact wpAny_bind (wpAny_richCompare_same_room (op:=.Eq) B.typeIs D.typeIs F.slot_tuple_eq
   (wpAny_call_entry F.slot_tuple_eq B.typeIs F.entry_tuple_eq (zfs (by first|exact(show A.units+1<cLine by omega)|exact(show A.units+2<cLine by omega)|exact(show A.units<cLine by omega)) B D sh ⟨_,J,(λe=>nomatch e),wpAny_truthy_bool h⟩) (F.args_tuple_eq_2 _ _)) (by omega))
theorem zhg{ks:List Key}{a:Addr}{Q:Bool->Shared->Prop}(m:Nat)(D:IsTupleKey (zaI P w) s.heap ks a)(h:Q true s):wpAny (model P w) A (eqIsQuiet (m+1) (.ref a)) Q E s:=by
 have G:=D.typeIs;obtain⟨o,J0,n,L,_,M,hi⟩:=D;unfold eqIsQuiet;refine wpAny_bind (wpAny_specialOf G F.slot_tuple_eq.lookup ?_);show wpAny _ _ (isInstance (.ref a) (.type "tuple") >>= _) _ _ s;refine wpAny_bind (wpAny_isInstance G isSubtype_tuple_tuple ?_);simp only[Bool.not_true,Bool.false_eq_true,if_false];refine wpAny_bind (wpAny_seqItems L M ?_);refine wpAny_bind ?_;show wpAny _ _ (forIn J0 _ _) _ _ s;rw[←Array.forIn_toList];refine wpAny_forIn_list _ (λrest r s'=>r.1=none/\s'=s/\∀v∈rest,carriedByValue v=true) _ ?_ ?_ _ _ ⟨J,J,hi.byValue⟩
 .rintro v rest r s' ⟨B,rfl,I⟩;rw[eqIsQuiet_byValue _ (I v List.mem_cons_self)];refine wpAny_bind (wpAny_pure ?_);simp only[Bool.not_true,Bool.false_eq_true,if_false];exact wpAny_pure ⟨J,J,λu O=>I u (List.mem_cons_of_mem _ O)⟩
 .rintro⟨R,S⟩ s' ⟨B,rfl,_⟩;simp only at B;subst B;exact wpAny_pure h
theorem zhh{ks:List NKey}{a:Addr}{Q:Bool->Shared->Prop}(D:IsNest P w s.heap ks a)(h:Q true s):wpAny (model P w) A (eqIsQuiet 8 (.ref a)) Q E s:=by
 have G:=D.typeIs;obtain⟨o,J0,n,L,_,M,hi⟩:=D;unfold eqIsQuiet;refine wpAny_bind (wpAny_specialOf G F.slot_tuple_eq.lookup ?_);show wpAny _ _ (isInstance (.ref a) (.type "tuple") >>= _) _ _ s;refine wpAny_bind (wpAny_isInstance G isSubtype_tuple_tuple ?_);simp only[Bool.not_true,Bool.false_eq_true,if_false];refine wpAny_bind (wpAny_seqItems L M ?_);refine wpAny_bind ?_;show wpAny _ _ (forIn J0 _ _) _ _ s;rw[←Array.forIn_toList];refine wpAny_forIn_list _ (λrest r s'=>r.1=none/\s'=s/\∃left,NItems P w s.heap left rest) _ ?_ ?_ _ _ ⟨J,J,ks,hi⟩
 .rintro v rest r s' ⟨B,rfl,left,O⟩;cases O with
  |@cons k _ ks' _ h1 I=>
   cases k with
   |inl k=>
    rw[eqIsQuiet_byValue _ ((zaI P w).byValue _ _ h1)];refine wpAny_bind (wpAny_pure ?_);simp only[Bool.not_true,Bool.false_eq_true,if_false];exact wpAny_pure ⟨J,J,ks',I⟩
   |inr l=>
    obtain⟨d,rfl,h2⟩:=h1;refine wpAny_bind (zhg 6 h2 ?_);simp only[Bool.not_true,Bool.false_eq_true,if_false];exact wpAny_pure ⟨J,J,ks',I⟩
 .rintro⟨R,S⟩ s' ⟨B,rfl,_⟩;simp only at B;subst B;exact wpAny_pure h
end
noncomputable def zcL(P:Program)(w:World)(sh:List Bool):HeapKind P w (List NKey) where
 is:=λh ks a=>IsNest P w h ks a/\ks.map Sum.isLeft=sh
 hash:=zeC P w
 draws:=zdN
 room:=λA=>A.units+4<cLine
 inj:=λB D=>B.1.inj D.1
 keeps:=λx I J0 L=>⟨x.1.keeps I J0 L,x.2⟩
 pyHash:=λF G h=>zc2 F G.1 h
 eqBool:=λF B D h=>zc3 F B.1 D.1 (B.2.trans D.2.symm) h
 quiet:=λG h=>zhh G.1 h
noncomputable abbrev NEnt:=List NKey×Addr×V
noncomputable abbrev NPair(p:NEnt)(q:List NKey×Addr×Value):Prop:=p.1=q.1/\p.2.1=q.2.1/\RelV p.2.2 q.2.2
noncomputable def dN(P:Program)(w:World)(sh:List Bool)(a:Addr)(kvs:List NEnt):HO:=.ext λh=>(a==sysModules)=false/\kvs.length<=sizeLine/\∃xs,Paired NPair kvs xs /\
 ∃o es B,h.get? a=some o/\o.ExactDict/\o.data=.dict es B/\es.toList=xs.map (entryOfKey (zcL P w sh))/\(xs.map (·.1)).Nodup
noncomputable def NV(H:Hp):NKey->V->Prop
 |.inl k,v=>v=kV k
 |.inr l,v=>∃d,v=.ref d/\H d=some (.tup (l.map kV))
noncomputable def NVs(H:Hp):List NKey->List V->Prop:=Paired (NV H)
noncomputable def zdO(H:Hp)(ks:List NKey)(a:Addr):Prop:=∃vs,H a=some (.tup vs)/\NVs H ks vs
noncomputable def zft(H:Hp)(sh:List Bool)(kvs:List NEnt):Prop:=∀p∈kvs,zdO H p.1 p.2.1/\p.1.map Sum.isLeft=sh
noncomputable def nval(kvs:List NEnt)(k:List NKey):Option V:=(kvs.find? λp=>decide (p.1=k)).map (·.2.2)
section
variable {P:Program}{w:World}{H H':Hp}{h:Heap}{a:Addr}{sh:List Bool}{kvs:List NEnt}
theorem zl8{k:Key}{u:Value}(r:RelV (kV k) u):(zaI P w).is k u=true:=zh8 r
theorem zeD{ks:List NKey}(D:HOk P w H h)(e:zdO H ks a):IsNest P w h ks a:=by
 obtain⟨vs,e,r⟩:=e;obtain⟨_,its,B,o,h1,h2,n,G⟩:=(show ObjOk P w H h a (.tup vs) from D a _ e);refine⟨o,its.toArray,n,h1,h2,G,?_⟩;have I:∀ {ks:List NKey} {vs:List V} {us:List Value},NVs H ks vs->Vals vs us->NItems P w h ks us:=by
  intro ks vs us r;induction r generalizing us with
  |nil=>intro B;cases B;exact .nil
  |@cons x v xs vs h1 _ J0=>
   intro B;cases B with
   |@cons _ u _ us F B=>
    refine .cons ?_ (J0 B);cases x with
    |inl k=>
     obtain rfl:v=kV k:=h1;exact zl8 F
    |inr l=>
     obtain⟨d,rfl,h2⟩:=h1;obtain rfl:u=Value.ref d:=F;exact⟨d,J,zfr D h2⟩
 exact I r B
theorem zkU(B:HOk P w H h)(e:H a=some (dN P w sh a kvs))(G:zft H sh kvs):(a==sysModules)=false/\kvs.length<=sizeLine/\∃xs,Paired NPair kvs xs/\h.DictOfH (zcL P w sh) a xs:=by
 obtain⟨⟨h1,h2,xs,r,o,es,I,J0,L,M,O,R⟩,_,_⟩:=(show ObjOk P w H h a (dN P w sh a kvs) from B a _ e);refine⟨h1,h2,xs,r,o,es,I,J0,L,M,O,λx hx=>?_,R⟩;have S:∀ {l:List NEnt} {m:List (List NKey×Addr×Value)},Paired NPair l m->(∀p∈l,zdO H p.1 p.2.1/\p.1.map Sum.isLeft=sh)->∀x∈m,(zcL P w sh).is h x.1 x.2.1:=by
  intro l m q;induction q with
  |nil=>intro _ x hx;exact nomatch hx
  |@cons p q ps W D t U=>
   intro F x hx;rcases List.mem_cons.mp hx with e|hx
   .subst e;have:=F p List.mem_cons_self;rw[D.1,D.2.1] at this;exact⟨zeD B this.1,this.2⟩
   .exact U (λp V=>F p (List.mem_cons_of_mem _ V)) x hx
 exact S r G x hx
theorem zeE{xs:List (List NKey×Addr×Value)}(r:Paired NPair kvs xs)(k:List NKey):RelO (nval kvs k) ((atKey xs k).map (·.2)):=by
 induction r with
 |nil=>exact trivial
 |@cons p q ps B F t G=>
  obtain⟨h1,h2,I⟩:=F;by_cases e:p.1=k
  .have D:q.1=k:=h1.symm.trans e;have b:atKey (q::B) k=some q.2:=by simp[atKey,List.find?_cons,D]
   have c:nval (p::ps) k=some p.2.2:=by simp[nval,List.find?_cons,e]
   rw[c,b];exact I
  .have D:¬q.1=k:=λz=>e (h1.trans z);have b:atKey (q::B) k=atKey B k:=by simp[atKey,List.find?_cons,D]
   have c:nval (p::ps) k=nval ps k:=by simp[nval,List.find?_cons,e]
   rw[c,b];exact G
end
section
variable {X:Cx}
theorem zdP(B:X.A.units+6<cLine)(sh:List Bool):(zcL X.prog X.w sh).room X.A.in1:=by
 show X.A.units+1+4<cLine;omega
noncomputable def zie(P:Program)(w:World)(sh:List Bool):R2:=λx y H Q=>∃r a ks kvs,x=.ref r/\y=.ref a/\H a=some (dN P w sh a kvs)/\zft H sh kvs/\zdO H ks r/\ks.map Sum.isLeft=sh/\Q (.bl (!(nval kvs ks).isSome)) H
theorem zif(D:X.A.units+6<cLine)(sh:List Bool):OpR X (compareOp .NotIn) (zie X.prog X.w sh):=by
 intro pins s σ H x y v u Q B F G h;obtain⟨r,a,ks,kvs,rfl,rfl,I,J0,L,M,q⟩:=h;cases F;cases G;obtain⟨O,S,xs,R,dd⟩:=zkU B.hok I J0;refine wpAny_notIn_heap (zdP D sh) ⟨zeD B.hok L,M⟩ O dd ?_;have e:=(zeE R ks).isSome_eq;rw[Option.isSome_map] at e;rw[←e];exact⟨.bl _,H,B.tok _,J,q⟩
theorem zig{i o:Expr}{ty td:TE}(B:X.A.units+6<cLine)(sh:List Bool)(hi:PE X i ty)(D:PE X o td):PC X .NotIn i o (tOp (zie X.prog X.w sh) ty td):=by
 intro pins s σ H Q F h;refine thn (hi pins s σ H _ F h) λG I J0=>?_;obtain⟨y,H1,L,M,q1⟩:=J0;refine thn (D pins I σ H1 _ L q1) λu O R=>?_;obtain⟨x,H2,S,U,V⟩:=R;exact zif B sh pins O σ H2 y x G u Q S M U V
noncomputable def rIxN(P:Program)(w:World)(sh:List Bool):R2:=λx y H Q=>∃a r ks kvs v,x=.ref a/\y=.ref r/\H a=some (dN P w sh a kvs)/\zft H sh kvs/\zdO H ks r/\ks.map Sum.isLeft=sh/\nval kvs ks=some v/\Q v H
theorem zlO{o i:Expr}{pos:Pos}{td ty:TE}(D:X.A.units+6<cLine)(sh:List Bool)(F:PE X o td)(hi:PE X i ty)(G:NoSl i):PE X (.Subscript o i pos) (tOp (rIxN X.prog X.w sh) td ty):=by
 intro pins s σ H Q I h;refine zib PySem.F.slot_dict_getitem.lookup G (thn (F pins s σ H _ I h) λu J0 L=>?_);obtain⟨x,H1,M,O,q1⟩:=L;refine thn (hi pins J0 σ H1 _ M q1) λag ah R=>?_;obtain⟨y,H2,B,S,a,r,ks,kvs,v,ex,U,V,W,Y,Z,aa,ab⟩:=R;subst ex U;cases O;cases S;obtain⟨ai,aj,xs,ac,dd⟩:=zkU B.hok V W;refine⟨dd.typeIs,?_⟩;obtain⟨ak,hw,ad⟩:=RelO.some_of (v:=v) (o:=(atKey xs ks).map (·.2)) (by rw[←aa];exact zeE ac ks);obtain⟨p,ae,af⟩:=Option.map_eq_some_iff.mp hw;refine wpAny_getItem_heap (zdP D sh) ⟨zeD B.hok Y,Z⟩ dd ae ?_;rw[af];exact⟨v,H2,B.tok _,ad,ab⟩
noncomputable def rSetN(P:Program)(w:World)(sh:List Bool):TSet:=λo i v H Q=>∃a r ks kvs,o=.ref a/\i=.ref r/\H a=some (dN P w sh a kvs)/\zft H sh kvs/\zdO H ks r/\ks.map Sum.isLeft=sh/\nval kvs ks=none/\kvs.length<sizeLine/\Q (upd H a (dN P w sh a (kvs++[(ks,r,v)])))
theorem zl9(M:X.A.units+6<cLine)(sh:List Bool):PSet X (rSetN X.prog X.w sh):=by
 intro pins s σ H o i v ar as u Q B O R S h;obtain⟨a,r,ks,kvs,rfl,rfl,J0,U,V,W,Y,au,q⟩:=h;cases O;cases R;obtain⟨Z,aa,xs,D,dd⟩:=zkU B.hok J0 U;have ab:atKey xs ks=none:=by
  have e:=(zeE D ks).isSome_eq;rw[Option.isSome_map,Y] at e;cases g:atKey xs ks with
  |none=>rfl
  |some _=>rw[g] at e;cases e
 refine wpAny_setItem_heap (hsz:=by rw[←Paired.length D];exact aa) (zdP M sh) ⟨zeD B.hok V,W⟩ dd λh' L ac=>?_;rw[storedH_new ab] at L;obtain⟨F,es,G,I,h2,ad,ae,_,af⟩:=L;have ag:(a==sysModules)=false/\(kvs++[(ks,r,v)]).length<=sizeLine/\∃xs,Paired NPair (kvs++[(ks,r,v)]) xs/\∃o es G,h'.get? a=some o/\o.ExactDict/\o.data=.dict es G/\es.toList=xs.map (entryOfKey (zcL X.prog X.w sh))/\(xs.map (·.1)).Nodup:=
  ⟨Z,by rw[List.length_append];show _+1<=_;omega,xs++[(ks,r,u)],Paired.snoc D ⟨J,J,S⟩,F,es,G,I,h2,ad,ae,af⟩
 refine⟨upd H a (dN X.prog X.w sh a (kvs++[(ks,r,v)])),zfX B (by rw[J0];exact True.intro) ac ⟨F,I⟩ ⟨ag,⟨F,I⟩,?_⟩,q⟩;rintro av aw ⟨ah,ai,aj,ak,o',al,am,ao,ap⟩ aq;exact⟨ah,ai,aj,ak,o',al,am,aq _ ao,ap⟩
theorem zjF(sh:List Bool){pos:Pos}:PE X (.Dict [] [] pos) (λ_ H Q=>∀p,H p=none->Q (.ref p) (upd H p (dN X.prog X.w sh p []))):=λpins s σ H Q B h=>by
 refine wpAny_Dict_empty ⟨.ref s.heap.objs.size,_,B.laid (a:=s.heap.objs.size) (o:=dN X.prog X.w sh s.heap.objs.size []) (t':=s.toks) (λ_ _ q=>Heap.get?_push_of_some _ q) (Nat.le_refl _) ?_,J,h _ (B.hok.fresh (Nat.le_refl _))⟩;refine⟨⟨beq_eq_false_iff_ne.mpr (Ne.symm (Nat.ne_of_lt B.big)),Nat.zero_le _,[],.nil,_,#[],0,Heap.get?_push_size _ J,⟨J,J,J⟩,J,J,List.nodup_nil⟩,⟨_,Heap.get?_push_size _ J⟩,?_⟩;rintro S U ⟨D,F,G,I,o',J0,L,M,O⟩ R;exact⟨D,F,G,I,o',J0,L,R _ M,O⟩
end
theorem zkV{ys:List V}:∀ {its:List Value},ys.length=its.length->(∀(j:Nat) (y:V) (v:Value),ys[j]?=some y->its[j]?=some v->RelV y v)->Vals ys its:=by
 induction ys with
 |nil=>
  intro its h _;cases its with
  |nil=>exact .nil
  |cons _ _=>cases h
 |cons y r B=>
  intro its h g;cases its with
  |nil=>cases h
  |cons u t=>exact .cons (g 0 y u J J) (B (Nat.succ.inj h) λj a b h1 h2=>g (j+1) a b h1 h2)
section
variable {X:Cx}
noncomputable def tLR(ta:TA):TE:=λσ H Q=>ta σ H λvs H1=>∃i j:Int,vs=[.int i,.int j]/\(-(2 ^ 62)<=i/\i<2 ^ 62/\-(2 ^ 62)<=j/\j<2 ^ 62)/\(j-i).toNat<=100000/\∀l,H1 l=none->Q (.ref l) (upd H1 l (.lst ((List.range (j-i).toNat).map λk:Nat=>V.int (i+(k:Int)))))
theorem zfu{a b:Expr}{ta:TA}{p F pos B:Pos}(R:X.A.handled=none)(S:Gl X "list")(U:X.mg "list"=none)(W:bootBuiltins "list"=some (.type "list"))(Y:Gl X "range")(Z:X.mg "range"=none)(aa:PA X [a,b] ta)(ab:starEach [a,b] X.env=[(false,eval a X.env),(false,eval b X.env)]:=by rfl)(L:starEach [b] X.env=[(false,eval b X.env)]:=by rfl)(M:starEach [Expr.Call (.Name "range" F) [a,b] [] B] X.env=(false,eval (Expr.Call (.Name "range" F) [a,b] [] B) X.env)::starEach [] X.env:=by rfl)(ac:(backTo pos (starEach [] X.env)).any (·.1)=false:=by rfl):PE X (.Call (.Name "list" p) [.Call (.Name "range" F) [a,b] [] B] [] pos) (tLR ta):=by
 intro pins s σ H Q G h;refine wpAny_Call_Name_kw (zct G S U W ?_ (by decide) (by decide));refine PyProof.Rows.callWith_type1 ?_ M ac;rw[M];show wpAny _ _ (spliced ((false,eval _ X.env)::backTo pos (starEach [] X.env))) _ _ s;refine Calls.spliced_cons ?_;refine Call_ (zct G Y Z boot_range (PyProof.Rows.callWith_type1 (thn (aa B pins s σ H _ G h) λus D ad=>?_) (by rw[ab,L]) (by rw[L];rfl)));obtain⟨vs,H1,ae,af,q1⟩:=ad;obtain⟨i,j,e,⟨q1,ag,ah,ai⟩,aq,q⟩:=q1;subst e;cases af with
 |cons r I=>
  cases I with
  |cons aj I=>
   cases I;obtain⟨t,rfl⟩:=r;obtain⟨t',rfl⟩:=aj;refine call_range_2 ?_;refine Calls.spliced_nil ?_;have ar:(100000:Nat)<=sizeLine:=by rw[sizeLine_eq];decide
   have O:Inv X pins σ H1 { D with heap:=D.heap.push { cls:=.type "range",data:=.fields #[.int i t,.int j t',.int 1 D.toks] },toks:=D.toks+1 }:=ae.kept λb o e=>Heap.get?_push_of_some _ e;refine call_list_range (n:=(j-i).toNat) R (IsRange.new ..) (small_one q1 ag ah ai) ?_ (by omega) λh' tk ak al am e J0=>?_
   .rw[rangeSize_one];split<;>omega
   .refine⟨.ref _,_,O.laid (t':=tk) (o:=.lst ((List.range (j-i).toNat).map λk:Nat=>V.int (i+(k:Int)))) am (Nat.le_refl _) ?_,J,q _ (O.hok.fresh (Nat.le_refl _))⟩;refine⟨by rw[List.length_map,List.length_range];omega,ak.toList,al,zkV (by rw[List.length_map,List.length_range,Array.length_toList,J0.1]) (λk y v h1 h2=>?_),by simpa using e⟩;obtain⟨ao,rfl⟩:=J0.2 k v (by simpa using h2);rw[List.getElem?_map] at h1;have ap:k<(j-i).toNat:=by
     have:=(List.getElem?_eq_some_iff.mp h2).1;rw[Array.length_toList,J0.1] at this;exact this
    rw[List.getElem?_range ap] at h1;cases h1;exact⟨ao,by simp⟩
end
noncomputable def Itr3(lo st:Int)(n:Nat):It:=⟨λi _=>i<n,λi H x H'=>H'=H/\x=.int (lo+i*st),λi _=>n<=i⟩
theorem zf0{P:Program}{w:World}{K:W.Frag}{tg:Expr}(it:Addr)(lo c:Int)(n:Nat):Turn P w K tg (Itr3 lo c n) [it] it (λi h=>IsRangeIter h it (lo+(i:Nat)*c) ((n:Int)-(i:Nat)) c) where
 mem:=by simp
 obj:=λi h st b B=>by
  have e:b=it:=by simpa using B
  subst e;exact⟨_,st,λv z=>by
   have z':Data.fields _=Data.cell v:=z;cases z'⟩
 keep:=λi h h' st k=>k it (by simp) _ st
 item:=by
  intro X G hw I J0 i pins s σ H E D F st L;subst G hw I;obtain⟨M,O,Y,R,S,U⟩:=F it (by simp);have W:=Walks.range (prog:=X.prog) (w:=X.w) (D.ok.hd J0) it lo c n;refine W.item i s _ _ L st λv h' tk Z V aa=>?_;obtain⟨t,rfl⟩:=Z;have ab:Inv X pins σ H { s with heap:=h',toks:=tk }:=D.turned (λb o B e=>aa b o (by simpa using B) e) M O R S U;exact⟨_,J,zjj (s:={ s with heap:=h',toks:=tk }) (n:="range_iterator") V J J (by decide) ⟨.int (lo+i*c),H,ab,⟨t,J⟩,⟨J,J⟩,V,λb B=>(F b B).1⟩⟩
 done:=by
  intro X G hw I J0 i pins s σ H E D F st L;subst G hw I;obtain⟨M,O,Y,R,S,U⟩:=F it (by simp);exact wpAny_pyNext_range_end (D.ok.hd J0) st (by have:n<=i:=L;omega) λh' ac=>⟨J,D.turned (t':=s.toks) (λb o B e=>ac b o B e) M O R S U⟩
 self:=λ_ _ _ _ _ st h=>wpAny_pyIter_rangeiter st h
section
variable {X:Cx}{tg:Expr}
noncomputable def iRngC(lo c:Int)(n:Nat)(ta:TA)(hi:Int):TI:=λσ H R=>ta σ H λvs H1=>vs=[.int lo,.int hi,.int c]/\R (Itr3 lo c n) H1
theorem zih{a b d:Expr}{ta:TA}{p pos:Pos}{lo hi c:Int}{n:Nat}(J0:Gl X "range")(L:X.mg "range"=none)(M:PA X [a,b,d] ta)(O:c≠0)(S:Builtin.Range.rangeSize lo hi c=n)(U:Builtin.Range.small lo hi c=true)(V:Builtin.divisionGoesByPylong (hi-lo) c=false)(W:starEach [a,b,d] X.env=(false,eval a X.env)::starEach [b,d] X.env:=by rfl)(Y:(backTo pos (starEach [b,d] X.env)).any (·.1)=false:=by rfl) :
  PI X tg (.Call (.Name "range" p) [a,b,d] [] pos) (iRngC lo c n ta hi):=by
 intro pins s σ H R I h;refine Call_ (zct I J0 L boot_range (PyProof.Rows.callWith_type1 (thn (M pos pins s σ H _ I h) λus B Z=>?_) W Y));obtain⟨vs,H1,aa,ab,q1⟩:=Z;obtain⟨e,q⟩:=q1;subst e;cases ab with
 |cons r D=>
  cases D with
  |cons ac D=>
   cases D with
   |cons ad D=>
    cases D;obtain⟨t,rfl⟩:=r;obtain⟨t',rfl⟩:=ac;obtain⟨F,rfl⟩:=ad;refine call_range_3 O ?_ (Or.inl V);have G:Inv X pins σ H1 { B with heap:=B.heap.push { cls:=.type "range",data:=.fields #[.int lo t,.int hi t',.int c F] },toks:=B.toks }:=aa.kept λb o e=>Heap.get?_push_of_some _ e;refine wpAny_pyIter_range (IsRange.new ..) U ?_;refine⟨(B.heap.push { cls:=.type "range",data:=.fields #[.int lo t,.int hi t',.int c F] }).objs.size,[(B.heap.push { cls:=.type "range",data:=.fields #[.int lo t,.int hi t',.int c F] }).objs.size],_,_,H1,J,
     G.kept (t':=B.toks) λb o e=>Heap.get?_push_of_some _ e,zf0 _ lo c n,?_,λb ae=>?_,q⟩
    .have af:lo+((0:Nat):Int)*c=lo:=by simp
     have ag:((n:Nat):Int)-((0:Nat):Int)=Builtin.Range.rangeSize lo hi c:=by rw[S];simp
     show IsRangeIter _ _ (lo+((0:Nat):Int)*c) (((n:Nat):Int)-((0:Nat):Int)) c;rw[af,ag];exact Heap.get?_push_size _ rfl
    .have e:b=(B.heap.push { cls:=.type "range",data:=.fields #[.int lo t,.int hi t',.int c F] }).objs.size:=by simpa using ae
     subst e;exact G.fpOk (Nat.le_refl _) (G.hok.fresh (Nat.le_refl _))
theorem zhi{lo st:Int}{n:Nat}{g:TG}{tb:TS}{D:Ends}{σ:St}{H:Hp}(Pv:Nat->St->Hp->Prop)(I:Pv 0 σ H)(J0:∀i σ H,i<n->Pv i σ H->g (.int (lo+i*st)) σ H λB H2=>tb { D with nx:=Pv (i+1),ct:=Pv (i+1),bk:=D.nx } B H2)(L:∀σ H,Pv n σ H->D.nx σ H) :
  ∃W:Nat->Nat->St->Hp->Prop,(∃m,W 0 m σ H)/\∀i m σ H,W i m σ H ->
   ((Itr3 lo st n).stop i H/\D.nx σ H)∨((Itr3 lo st n).go i H/\∃N:St->Hp->Prop,(∀σ' H',N σ' H'->∃G,G<m/\W (i+1) G σ' H')/\∀x H',(Itr3 lo st n).yld i H x H'->g x σ H' λB H2=>tb { D with nx:=N,ct:=N,bk:=D.nx } B H2):=by
 refine⟨λi m σ H=>m=n-i/\i<=n/\Pv i σ H,⟨n,by simp,Nat.zero_le _,I⟩,?_⟩;rintro i m σ H ⟨rfl,hi,p⟩;by_cases F:i<n
 .refine .inr ⟨F,Pv (i+1),λσ' H' M=>⟨n-(i+1),by omega,J,F,M⟩,λx H' y=>?_⟩;obtain⟨e,y⟩:=y;subst e y;exact J0 i σ _ F p
 .have e:i=n:=by omega
  subst e;exact .inl ⟨Nat.le_refl _,L σ H p⟩
end
noncomputable def zlP:R2:=λx y H Q=>∃(a:Str) (n:Int),x=.str a/\y=.int n/\n<=100000/\-100000<=n/\1<=a.length/\a.length<=100/\∀b:Str,b.length=a.length*n.toNat->Q (.str b) H
theorem zcj{X:Cx}:OpR X (binaryOp .Mult) zlP:=by
 intro pins s σ H x y v u Q B D F h;obtain⟨a,n,rfl,rfl,h1,M,G,I,q⟩:=h;by_cases O:2<=n
 .obtain⟨m,rfl⟩:∃m:Nat,n=(m:Int):=⟨n.toNat,by omega⟩;refine zkQ pins s σ H _ _ v u Q B D F ⟨a,m,J,J,by omega,by omega,G,?_,λb J0=>q b (by rw[J0];simp)⟩;have:=Nat.mul_le_mul I (show m<=100000 by omega);omega
 .obtain⟨t,rfl⟩:=D;obtain⟨t',rfl⟩:=F;by_cases L:n<1
  .refine PySem.P.mul_str_none L (by omega) ⟨.str Str.empty,H,B.tok _,⟨_,J⟩,q _ ?_⟩;rw[show n.toNat=0 by omega];rfl
  .have e:n=1:=by omega
   subst e;refine PySem.P.mul_str (by decide) (λ_ h=>absurd h (by simp)) (λ_ h=>absurd h (by simp)) ?_;rw[if_neg (by decide),if_pos (by simp)];exact⟨.str a,H,B,⟨_,J⟩,q a (by simp)⟩
end L2
namespace T1
open PySem L2
variable {P:Program}{w:World}{K:W.Frag}{mg:Str->Option Value}{base:Heap}
noncomputable def zii(c:Nat):Bool:=decide (33<=c)&&decide (c<=126)&&!decide (c=37)
noncomputable def escD:D->Bool
 |.str x=>decide (x.length<=1)&&(decide (x.length=0) || zii (x.cps.getD 0 0))
 |_=>false
noncomputable def markS(x:Str):Bool:=decide (1<=x.length)&&decide (x.length<=4)&&x.cps.toList.all λc=>decide (c=10) || zii c
instance:Inhabited D:=⟨.non⟩
end T1
namespace L2
open PySem PySem.Spec PyProof.Rows
end L2
namespace T1
open PySem L2
variable {P:Program}{w:World}{K:W.Frag}{mg:Str->Option Value}{base:Heap}
noncomputable abbrev Dr:=Str×Int×Str
noncomputable abbrev Tg:=Str×List Dr
noncomputable abbrev Bk:=List Tg
noncomputable def drD(d:Dr):D:=.tup [.str d.1,.int d.2.1,.str d.2.2]
noncomputable def tgD(t:Tg):D:=.tup [.str t.1,.tup (t.2.map drD)]
noncomputable def bkD(b:Bk):D:=.tup (b.map tgD)
noncomputable def DrOk(n:Int)(d:Dr):Prop:=markS d.1=true/\(0<=d.2.1/\d.2.1<n)/\markS d.2.2=true
noncomputable def TgOk(n:Int)(t:Tg):Prop:=escD (.str t.1)=true/\t.2.length<=6/\∀d∈t.2,DrOk n d
section
variable {z:Addr}{H:Hp}
theorem zck{v:V}{d:Dr}(r:Rep z H v (drD d)):∃a,v=.ref a/\a≠z/\H a=some (.tup [.str d.1,.int d.2.1,.str d.2.2]):=by
 cases r with
 |tup h B r=>
  cases r with
  |cons D r=>
   cases r with
   |cons F r=>
    cases r with
    |cons G r=>
     cases r;cases D;cases F;cases G;exact⟨_,J,B,h⟩
theorem zij{v:V}{ds:List Dr}(r:Rep z H v (.tup (ds.map drD))):∃a xs,v=.ref a/\a≠z/\H a=some (.tup xs)/\xs.length=ds.length/\Reps z H xs (ds.map drD):=by
 cases r with
 |tup h B r=>exact⟨_,_,J,B,h,by have:=r.length;simpa using this,r⟩
theorem zbq{v:V}{t:Tg}(r:Rep z H v (tgD t)):∃a b xs,v=.ref a/\a≠z/\b≠z/\H a=some (.tup [.str t.1,.ref b])/\H b=some (.tup xs)/\xs.length=t.2.length/\Reps z H xs (t.2.map drD):=by
 cases r with
 |tup h B r=>
  cases r with
  |cons D r=>
   cases r with
   |cons F r=>
    cases r;cases D;obtain⟨b,xs,rfl,G,h2,I,J0⟩:=zij F;exact⟨_,b,xs,J,B,G,h,h2,I,J0⟩
theorem zb3{v:V}{b:Bk}(r:Rep z H v (bkD b)):∃a xs,v=.ref a/\a≠z/\H a=some (.tup xs)/\xs.length=b.length/\Reps z H xs (b.map tgD):=by
 cases r with
 |tup h B r=>exact⟨_,_,J,B,h,by have:=r.length;simpa using this,r⟩
theorem zbV{xs:List V}{ds:List Dr}{i:Nat}(r:Reps z H xs (ds.map drD))(hi:i<ds.length):Rep z H (xs.getD i .non) (drD (ds.getD i (⟨#[]⟩,0,⟨#[]⟩))):=by
 have:=r.get (i:=i) (by simpa using hi);simpa [hi] using this
theorem zbi{xs:List V}{b:Bk}{i:Nat}(r:Reps z H xs (b.map tgD))(hi:i<b.length):Rep z H (xs.getD i .non) (tgD (b.getD i (⟨#[]⟩,[]))):=by
 have:=r.get (i:=i) (by simpa using hi);simpa [hi] using this
end
noncomputable def zaJ(ds:List Dr):List Str:=ds.map (·.1)
noncomputable abbrev dr0:Dr:=(⟨#[]⟩,0,⟨#[]⟩)
noncomputable abbrev tg0:Tg:=(⟨#[]⟩,[])
noncomputable def zlQ(ds:List Dr):List Str:=ds.flatMap λd=>[d.1,d.2.2]
noncomputable def zik(b:Bk):List Str:=b.flatMap λt=>zlQ t.2
end T1
namespace L2
open PySem PySem.Spec PyProof.Rows
end L2
namespace T1
open PySem L2
variable {P:Program}{w:World}{K:W.Frag}{mg:Str->Option Value}{base:Heap}
theorem zaR{B:Type}{xs:List B}{i:Nat}(d:B)(h:i<xs.length):xs.getD i d∈xs:=by
 have:xs.getD i d=xs[i]:=by simp[h]
 rw[this];exact List.getElem_mem h
noncomputable def escIn(es:List Str)(m:Str):Bool:=m.cps.toList.any λc=>es.any λe=>e==(⟨#[c]⟩:Str)
noncomputable def escB(b:Bk):Bool:=(zik b).any (escIn (b.map (·.1)))
end T1
namespace L2
open PySem PySem.Spec PyProof.Rows
theorem zko{X:Cx}{sc:Scope}{cl:List (Str×Addr)}{N':List Str}{s:Shared}{H:Hp}{fp:List Addr}{o e:Expr}{es:List Expr}{to:TE}{t:TA}{name:Str}{apos cpos:Pos}{T id:String}{r:V->List V->Hp->VK->Prop}(B:PlainAttrs T)(slot:Slot T name id)(D:typeOf (.builtin id)=pure (.type "method_descriptor"))(F:MtR (X.blk sc cl N' s H fp) id r)(G:PE (X.blk sc cl N' s H fp) o to)(I:PA (X.blk sc cl N' s H fp) (e::es) t)(J0:attributeBase o name (X.blk sc cl N' s H fp).env (eval o (X.blk sc cl N' s H fp).env)=eval o (X.blk sc cl N' s H fp).env:=by rfl)(L:((backTo cpos (starEach (e::es) (X.blk sc cl N' s H fp).env)).all (λx=>!x.1)&&(backToKw cpos (keywordEach [] (X.blk sc cl N' s H fp).env)).all (λx=>x.1.isSome)
   && decide ((e::es).length+([]:List Keyword).length+(if ([]:List Keyword).isEmpty then 0 else 1)<30))=true:=by rfl)(M:(apos.endLine==cpos.line)=true:=by rfl)(O:starEach (e::es) (X.blk sc cl N' s H fp).env=(false,eval e (X.blk sc cl N' s H fp).env)::starEach es (X.blk sc cl N' s H fp).env:=by rfl)(R:(backTo cpos (starEach es (X.blk sc cl N' s H fp).env)).any (·.1)=false:=by rfl) :
  PE (X.blk sc cl N' s H fp) (.Call (.Attribute o name apos) (e::es) [] cpos) (tBM X.K T r to t):=zbL B slot D F G I J0 L M O R
end L2
namespace T1
open PySem L2
variable {P:Program}{w:World}{K:W.Frag}{mg:Str->Option Value}{base:Heap}
noncomputable def zkW(ds:List Dr)(t:Int):List Str:=ds.filterMap λd=>if d.2.1=t then some d.2.2 else none
noncomputable def zkX(b:Bk)(t:Int):List Str:=b.flatMap λg=>zkW g.2 t
noncomputable def zkY(b:Bk)(t:Nat):Bool:=(b.getD t tg0).2.any λd=>(zkX b t).any λc=>stAt d.1 c 0
noncomputable def bookB(b:Bk):Bool:=(b.all λt=>decide (zaJ t.2).Nodup)&&!escB b&&!((List.range b.length).any λt=>zkY b t)
theorem zhj(x:Str)(h:x.length<=1):(x=Str.ofString ""/\escD (.str x)=true)∨∃c,x=⟨#[c]⟩/\escD (.str x)=zii c:=by
 obtain⟨B⟩:=x;have h:B.size<=1:=h;by_cases D:B.size=0
 .have:B=#[]:=Array.eq_empty_of_size_eq_zero D;subst this;exact .inl ⟨by decide +kernel,by decide +kernel⟩
 .obtain⟨c,F⟩:=Array.size_eq_one_iff.mp (show B.size=1 by omega);subst F;exact .inr ⟨c,J,J⟩
noncomputable def Bag(z:Addr)(H:Hp):Prop:=∃c s:Int,H z=some (.lst [.int c,.int s])
noncomputable def Aft(z:Addr)(H H':Hp):Prop:=SameX z H H'/\Bag z H'
theorem Aft.trans{z:Addr}{H H1 H2:Hp}(a:Aft z H H1)(b:Aft z H1 H2):Aft z H H2:=⟨a.1.trans b.1,b.2⟩
theorem Aft.same{z:Addr}{H H1 H2:Hp}(a:Aft z H H1)(b:Same H1 H2):Aft z H H2:=⟨a.1.trans b.x,let ⟨c,s,h⟩:=a.2;⟨c,s,b _ _ h⟩⟩
theorem Aft.refl{z:Addr}{H:Hp}(h:Bag z H):Aft z H H:=⟨.refl,h⟩
inductive zef:List V->Hp->VK->XK->Prop where
 |mk {vs:List V} {H:Hp} {Q:VK} {E:XK} (z:_) (n:Int) (c1:vs=[.ref z,.int n]) (c2:Bag z H) (c3:0<n) (c4:n<1000000) (c5:∀(r:Nat) H',(r:Int)<n->Aft z H H'->Q (.int r) H'):zef vs H Q E
structure Txt2(mg:Str->Option Value):Prop where
 list:mg "list"=none
 set:mg "set"=none
 min:mg "min"=none
inductive spBag(K:W.Frag):List V->Hp->VK->XK->Prop where
 |mk {vs:List V} {H:Hp} {Q:VK} {E:XK} (a:_) (ns:List Int) (i:Nat) (c1:vs=[.ref a,.int i]) (c2:SqL K H a (ns.map V.int)) (c3:i<=100) (c4:∀p H',H p=none->Same H H'->Bag p H'->Q (.ref p) H'):spBag K vs H Q E
theorem zbS(x y:Str):(x++y).length=x.length+y.length:=by
 show (x.cps++y.cps).size=_;rw[Array.size_append];rfl
theorem za3:(Str.ofString "")=⟨#[]⟩:=by decide +kernel
end T1
namespace L2
open PySem PySem.Spec PyProof.Rows
end L2
namespace T1
open PySem L2
variable {P:Program}{w:World}{K:W.Frag}{mg:Str->Option Value}{base:Heap}
theorem zby{x:Str}(h:markS x=true):x.length<=4/\1<=x.length:=by
 unfold markS at h;simp only[Bool.and_eq_true,decide_eq_true_eq] at h;omega
theorem ndD:(["door"]:List Str).Nodup:=by decide +kernel
end T1
namespace L2
open PySem PySem.Spec PyProof.Rows
section
variable {X:Cx}
end
end L2
namespace HT
open PySem PySem.Spec PyProof.Rows L2
section
variable {prog:Program}{w:World}{A:Around}{E:Value->Shared->Prop}{s:Shared}
end
end HT
namespace L2
open PySem PySem.Spec PyProof.Rows
section
variable {X:Cx}
end
section
variable {X:Cx}
end
end L2
namespace T1
open PySem L2
variable {P:Program}{w:World}{K:W.Frag}{mg:Str->Option Value}{base:Heap}
theorem Reps.append{z:Addr}{H:Hp}:∀ {vs B:List V}{ds es:List D},Reps z H vs ds->Reps z H B es->Reps z H (vs++B) (ds++es)
 |_,_,_,_,.nil,h=>h
 |_,_,_,_,.cons a t,h=>.cons a (Reps.append t h)
theorem Bag.ne{z p:Addr}{H:Hp}(h:Bag z H)(B:H p=none):p≠z:=by
 obtain⟨c,s,e⟩:=h;exact(zad e B).symm
theorem Aft.new{z p:Addr}{H H':Hp}{o:HO}(a:Aft z H H')(B:H' p=none):Aft z H (upd H' p o):=a.same (Same.new B)
noncomputable def BkOk(b:Bk):Prop:=1<=b.length/\b.length<=6/\(∀t∈b,TgOk b.length t)/\bookB b=true
theorem pickH{H:Hp}{p:Addr}{l:List V}(h:H p=some (.lst l)){r:Nat}(B:r<l.length):∃x,l[r]?=some x/\x∈l:=⟨l[r],by simp[B],List.getElem_mem B⟩
theorem Bag.same{z:Addr}{H H':Hp}(h:Bag z H)(s:Same H H'):Bag z H':=let ⟨c,e,q⟩:=h;⟨c,e,s _ _ q⟩
theorem Reps.take{z:Addr}{H:Hp}:∀ {vs:List V}{ds:List D}(k:Nat),Reps z H vs ds->Reps z H (vs.take k) (ds.take k)
 |_,_,0,_=>by simpa using Reps.nil
 |_,_,k+1,.nil=>by simpa using Reps.nil
 |_,_,k+1,.cons a t=>.cons a (Reps.take k t)
theorem Reps.drop{z:Addr}{H:Hp}:∀ {vs:List V}{ds:List D}(k:Nat),Reps z H vs ds->Reps z H (vs.drop k) (ds.drop k)
 |_,_,0,h=>h
 |_,_,k+1,.nil=>by simpa using Reps.nil
 |_,_,k+1,.cons a t=>Reps.drop k t
section
variable {z:Addr}
theorem zil{xs:List V}{r:Nat}(h:r<xs.length):xs[r]?=some (xs.getD r .non):=by simp[h]
theorem zaW:(1000:Nat)<=sizeLine:=by rw[sizeLine_eq];decide
end
section
variable {X:Cx}{es:List Expr}{te:TE}{t:TA}
theorem pa_K{c:Const}{k:Nat}{pos:Pos}(h:PE X (.Constant c k pos) te)(B:PA X es t):PA X (.Constant c k pos::es) (tCons te t):=zaa h B rfl
theorem pa_T{l:List Expr}{k:Nat}{pos:Pos}(h:PE X (.Tuple l k pos) te)(B:PA X es t):PA X (.Tuple l k pos::es) (tCons te t):=zaa h B rfl
theorem pa_B{o:Operator}{a b:Expr}{pos:Pos}(h:PE X (.BinOp a o b pos) te)(B:PA X es t):PA X (.BinOp a o b pos::es) (tCons te t):=zaa h B rfl
end
noncomputable def litA(f:Expr->TE):List Expr->TA
 |[]=>tNil
 |e::es=>tCons (f e) (litA f es)
noncomputable def litT:Nat->Expr->TE
 |0,_=>λ_ _ _=>False
 |n+1,e=>match e with
  |.Constant (.int i) _ _=>tC (.int i)
  |.Constant (.str x) _ _=>tC (.str x)
  |.Constant (.bool b) _ _=>tC (.bl b)
  |.Constant .none _ _=>tC .non
  |.Tuple es _ _=>tTup (litA (litT n) es)
  |.List es _=>tLst (litA (litT n) es)
  |.UnaryOp .USub (.Constant (.int i) _ _) _=>tUn (rU λi=>.int (-i)) (tC (.int i))
  |.BinOp (.Constant (.int i) _ _) .Pow (.Constant (.int j) _ _) _=>tOp (rI CPow λi j=>.int (i ^ j.toNat)) (tC (.int i)) (tC (.int j))
  |_=>λ_ _ _=>False
theorem zkp{X:Cx}{f:Expr->TE}(B:∀e,PE X e (f e))(D:∀(e:Expr) (pos:Pos) (σ:St) (H:Hp) (Q:VK),f (.Starred e pos) σ H Q->False):∀es,PA X es (litA f es)
 |[]=>zae
 |e::es=>by
  have F:=zkp B D es;cases e
  case Starred=>exact λpos pins s σ H Q G h=>(D _ _ σ H _ h).elim
  all_goals exact zaa (B _) F rfl
theorem zkq(X:Cx):∀(n:Nat) (e:Expr),PE X e (litT n e)
 |0,e=>λ_ _ _ _ _ _ h=>h.elim
 |n+1,e=>by
  have D:=zkq X n;have B:∀es,PA X es (litA (litT n) es):=zkp D λe pos σ H Q h=>by
   cases n with
   |zero=>exact h
   |succ m=>exact h
  unfold litT;split
  .exact zaf
  .exact zaH
  .exact zfe
  .exact zgm
  .exact zaV (B _)
  .exact zaN (B _)
  .exact zbK zbd zaf
  .exact zax zhK zaf zaf
  .exact λ_ _ _ _ _ _ h=>h.elim
theorem zim{X:Cx}{es:List Expr}{pos:Pos}:PE X (.List es pos) (tLst (litA (litT 5) es)):=zkq X 6 (.List es pos)
mutual
inductive NoL:D->Prop where
 |non:NoL .non
 |bl (b:Bool):NoL (.bl b)
 |int (i:Int):NoL (.int i)
 |str (x:Str):NoL (.str x)
 |tup {ds:List D} (t:NoLs ds):NoL (.tup ds)
inductive NoLs:List D->Prop where
 |nil:NoLs []
 |cons {d:D} {ds:List D} (h:NoL d) (t:NoLs ds):NoLs (d::ds)
end
mutual
theorem Rep.updL{z p:Addr}{H:Hp}{l l':List V}(B:H p=some (.lst l)):∀ {v:V}{d:D},Rep z H v d->NoL d->Rep z (upd H p (.lst l')) v d
 |_,_,.non,_=>.non
 |_,_,.bl b,_=>.bl b
 |_,_,.int i,_=>.int i
 |_,_,.str x h,_=>.str x h
 |_,_,.tup h F r,.tup t=>.tup (by rw[zah (zao h B (by intro q;cases q))];exact h) F (Reps.updL B r t)
theorem Reps.updL{z p:Addr}{H:Hp}{l l':List V}(B:H p=some (.lst l)):∀ {vs:List V}{ds:List D},Reps z H vs ds->NoLs ds->Reps z (upd H p (.lst l')) vs ds
 |_,_,.nil,_=>.nil
 |_,_,.cons h t,.cons h' t'=>.cons (Rep.updL B h h') (Reps.updL B t t')
end
theorem NoLs.append:∀ {ds es:List D},NoLs ds->NoLs es->NoLs (ds++es)
 |_,_,.nil,h=>h
 |_,_,.cons a t,h=>.cons a (NoLs.append t h)
theorem zin:∀ds:List Dr,NoLs (ds.map drD)
 |[]=>.nil
 |d::r=>.cons (.tup (.cons (.str _) (.cons (.int _) (.cons (.str _) .nil)))) (zin r)
theorem zbe:∀b:Bk,NoLs (b.map tgD)
 |[]=>.nil
 |t::r=>.cons (.tup (.cons (.str _) (.cons (.tup (zin t.2)) .nil))) (zbe r)
noncomputable def top(i:Nat):Stmt:=PySem.Challenge.pw_tonguenest_k24_whole_long_and_deep_texts.main.body.getD i (.Pass ⟨0,0,0,0⟩)
noncomputable abbrev zf1:Stmt:=top 2
noncomputable abbrev sPoss:Stmt:=top 3
noncomputable abbrev zdp:Stmt:=top 4
noncomputable abbrev zio:Stmt:=top 5
noncomputable abbrev zf2:Stmt:=top 6
noncomputable abbrev sStep:Stmt:=top 7
noncomputable abbrev sOn:Stmt:=top 8
noncomputable abbrev sLeft:Stmt:=top 9
noncomputable abbrev ziq:Stmt:=top 10
noncomputable abbrev zir:Stmt:=top 11
noncomputable abbrev zdQ:Stmt:=top 12
noncomputable abbrev zgE:Stmt:=top 13
noncomputable abbrev zdR:Stmt:=top 20
noncomputable abbrev zc4:Stmt:=top 21
noncomputable abbrev zdS:Stmt:=top 22
noncomputable abbrev zcl:Stmt:=top 24
noncomputable abbrev sPage:Stmt:=top 27
noncomputable abbrev lBag:Stmt:=top 29
noncomputable abbrev lTake:Stmt:=top 30
noncomputable abbrev zis:Stmt:=top 34
noncomputable abbrev lText:Stmt:=top 35
noncomputable abbrev zcm:Stmt:=top 36
noncomputable abbrev lStep:Stmt:=top 37
noncomputable abbrev zit:Stmt:=top 38
noncomputable abbrev lSure:Stmt:=top 39
noncomputable abbrev zc5:Stmt:=top 40
noncomputable abbrev lAnew:Stmt:=top 41
noncomputable abbrev zdT:Stmt:=top 42
noncomputable abbrev lLaw:Stmt:=top 43
noncomputable abbrev lamLn:Nat:=41
noncomputable abbrev lamCl:Nat:=31
structure TxtB(mg:Str->Option Value):Prop where
 len:mg "len"=none
 ord:mg "ord"=none
 all_:mg "all"=none
 any_:mg "any"=none
 isinst:mg "isinstance"=none
 str:mg "str"=none
 int:mg "int"=none
 bool:mg "bool"=none
 tuple:mg "tuple"=none
 range:mg "range"=none
 sorted:mg "sorted"=none
 max:mg "max"=none
theorem scTake:zav ["bag","many","found"] ["bag","many"] (zag lTake):=⟨J,J,J,by decide +kernel,J,by decide +kernel,by decide +kernel⟩
theorem zkZ{f:Addr}{fd:FuncData}(F:Fun K "_law_take" "_law_take" lTake f fd):FnOk P w K mg base CX0 1 f fd ["bag","many"] zef:=by
 refine F.ok scTake (λvs H Q E h=>?_) (λcdv A outer s H vs Q E L h=>?_)
 .obtain⟨z,n,rfl,_⟩:=h;rfl
 .obtain⟨z,n,rfl,⟨c,e,B⟩,D,M,k⟩:=h;have J0:=scTake.nd;refine⟨_,zac (za9 (zau zhN (zay zaB (pv 0) zaf (λ_ _=>rfl)) zaf (zaz _))
    (zac (zan (i:=2) J0 J (Or.inl J) (zax zdb (zay zaB (pv 0) zaf (λ_ _=>rfl)) (pv 1)))
    (zac (zbw (zax zdF (zay zaB (pv 0) zaf (λ_ _=>rfl)) (pv 1)) (zhF (pv 0) zaf zgr))
    (zai (zaw (pv 2))))) zaC)
   (zac (zbw (zax zdb (zax zd9 (zay zaB (pv 0) zaf (λ_ _=>rfl)) zaf) zaf) (zhF (pv 0) zaf zgr))
   (zai (zaw (zax zdb (zax zdF (zax zdb (zax zd9 (zax zdF (zay zaB (pv 0) zaf (λ_ _=>rfl)) zaf) (zax zaT (zax zdb (zay zaB (pv 0) zaf (λ_ _=>rfl)) zaf) zaf)) zaf) zaf) (pv 1))))),?_⟩
  dsimp only[cxOf,Cx.nox,Cx.wish];refine⟨_,J,z,_,0,_,J,J,SqL.of B,zal (j:=0) J,_,_,J,J,_,J,?_⟩;have ex:∀x:Int,∃r:Nat,x % n=(r:Int)/\(r:Int)<n:=λx=>⟨(x % n).toNat,by have:=Int.emod_nonneg x (show n≠0 by omega);omega,by have:=Int.emod_lt_of_pos x D;have:=Int.emod_nonneg x (show n≠0 by omega);omega⟩;refine ite2 (λh1=>?_) (λh1=>?_)
  .refine⟨_,J,z,_,0,_,J,J,SqL.of B,zal (j:=0) J,_,J,_,_,J,J,D,?_⟩;refine⟨_,J,z,_,0,_,J,J,SqL.of B,zal (j:=0) J,_,J,_,_,J,J,⟨D,by omega⟩,?_⟩;refine⟨_,J,z,_,0,0,J,J,B,J,?_⟩;obtain⟨r,G,I⟩:=ex c;refine⟨_,J,?_⟩;have q:=k r (upd H z (.lst [.int (c / n),.int e])) I ⟨SameX.refl.upd,⟨_,_,zab⟩⟩;rw[←G] at q;exact q
  .refine⟨_,J,z,_,1,_,J,J,SqL.of B,zal (j:=1) J,_,_,J,J,.inr (by decide),_,_,J,J,(by show (0:Int)<_;decide),?_⟩;refine⟨_,J,z,_,1,1,J,J,B,J,?_⟩;refine⟨_,J,z,_,1,_,J,J,SqL.of zab,zal (j:=1) J,_,_,J,J,⟨by decide,by decide⟩,_,J,z,_,1,_,J,J,SqL.of zab,zal (j:=1) J,_,_,J,J,(by show (0:Int)<_;decide),_,_,J,J,_,_,J,J,?_⟩;refine⟨.inr ?_,_,_,J,J,(by show (0:Int)<_;decide),_,_,J,J,⟨by decide,by decide⟩,_,J,_,_,J,J,D,?_⟩
   .have O:=Int.emod_nonneg (e*48271 % 2147483647) (show (32749:Int)≠0 by decide);have R:=Int.emod_lt_of_pos (e*48271 % 2147483647) (show (0:Int)<32749 by decide);omega
   .obtain⟨r,G,I⟩:=ex (e*48271 % 2147483647 / 13*(e*48271 % 2147483647 % 32749+17) % 2147483629 / 32);have q:=k r (upd H z (.lst [.int c,.int (e*48271 % 2147483647)])) I ⟨SameX.refl.upd,⟨_,_,zab⟩⟩;rw[←G] at q;exact q
theorem scBag:zav ["script","k","cell","seed"] ["script","k"] (zag lBag):=⟨J,J,J,by decide +kernel,J,by decide +kernel,by decide +kernel⟩
theorem zlR{f:Addr}{fd:FuncData}(F:Fun K "_law_bag" "_law_bag" lBag f fd)(T:TxtB mg):FnOk P w K mg base CX0 1 f fd ["script","k"] (spBag K):=by
 refine F.ok scBag (λvs H Q E h=>?_) (λcdv A outer s H vs Q E M h=>?_)
 .obtain⟨z,n,i,rfl,_⟩:=h;rfl
 .obtain⟨a,G,i,rfl,I,hi,k⟩:=h;have D:=scBag.nd;refine⟨_,zac (zan (i:=2) D J (Or.inl J) zaf)
   (zac (za9 (zau zd6 (pv 1) (zar zaF (by rfl) T.len b_len (zaa (pv 0) zae)) (zaz _))
    (zai (zan (i:=2) D J (Or.inl J) (zax zdb (zay zaB (pv 0) (pv 1) (λ_ _=>rfl)) (zax zhK zaf zaf)))) zaC)
   (zac (zan (i:=3) D J (Or.inl J) (zax zaT zaf (zax zdb (zax zaT (zax zaT (zax zaT (zax zd9 (zax zdb (pv 2) zaf) zaf) (zax zd9 (zax zd9 zaf (pv 1)) (pv 1))) (zax zd9 zaf (pv 1))) zaf) zaf)))
   (zac (za9 (zau zd6 (pv 2) (zax zhK zaf zaf) (zaz _)) (zai (zaw (zaN (zaa zaf (zaa (pv 3) zae))))) zaC)
   (zai (zaw (zaN (zaa (pv 2) (zaa (pv 3) zae)))))))),?_⟩
  dsimp only[cxOf,Cx.nox,Cx.wish];have J0:(2:Nat)<=sizeLine:=by rw[sizeLine_eq];decide
  refine⟨_,J,_,J,a,_,J,.inl I,_,_,J,J,_,J,?_⟩;refine ite2 (λh1=>?g1) (λh1=>?g2)
  case' g1=>
   have L:i<G.length:=by simp at h1;omega
   refine⟨_,J,_,J,a,_,_,.int G[i],J,J,I,zal (by simp[L]),_,_,J,J,⟨by decide,by decide,by decide⟩,_,_,J,J,(by show (0:Int)<_;decide),?_⟩
  all_goals
   refine⟨_,J,_,_,J,J,(by show (0:Int)<_;decide),_,_,J,J,.inr (by decide),_,J,_,_,J,J,.inl (by decide),_,J,_,_,J,J,.inr (by omega),_,_,J,J,_,J,_,_,J,J,.inl (by decide),_,_,J,J,_,_,J,J,_,_,J,J,(by show (0:Int)<_;decide),_,_,J,J,?_⟩;refine⟨_,J,_,_,J,J,⟨by decide,by decide,by decide⟩,_,_,J,J,_,J,?_⟩;refine ite2 (λh1=>?_) (λh1=>?_)
   .exact⟨_,J,J0,λp B=>k p _ B (Same.new B) ⟨_,_,zab⟩⟩
   .exact⟨_,J,_,J,J0,λp B=>k p _ B (Same.new B) ⟨_,_,zab⟩⟩
noncomputable def Sm(m:Str):Prop:=1<=m.length/\m.length<=4
inductive zdq:List V->Hp->VK->XK->Prop where
 |mk {vs:List V} {H:Hp} {Q:VK} {E:XK} (z v b:_) (c1:vs=[v]) (c2:Rep z H v (bkD b)) (c3:BkOk b) (c4:∀p (ms:List Str) H',Same H H'->H p=none->H' p=some (.lst (ms.map V.str))->ms.length<=100->(∀m∈ms,Sm m)->Q (.ref p) H'):zdq vs H Q E
inductive zgF:List V->Hp->VK->XK->Prop where
 |mk {vs:List V} {H:Hp} {Q:VK} {E:XK} (z v b:_) (n:Nat) (c1:vs=[.ref z,v,.int n]) (c2:Bag z H) (c3:Rep z H v (bkD b)) (c4:BkOk b) (c5:0<n) (c6:n<=4000) (c7:∀x H',Aft z H H'->x.length<=4*n->Q (.str x) H'):zgF vs H Q E
theorem scLMarks:zav ["book","found","escape","doors","door"] ["book"] (zag zis):=⟨J,J,J,by decide +kernel,J,by decide +kernel,by decide +kernel⟩
theorem ziu{f:Addr}{fd:FuncData}(F:Fun K "_law_marks" "_law_marks" zis f fd):FnOk P w K mg base CX0 1 f fd ["book"] zdq:=by
 refine F.ok scLMarks (λvs H Q E h=>?_) (λcdv A outer s H vs Q E aD h=>?_)
 .obtain⟨z,v,b,rfl,_⟩:=h;rfl
 .obtain⟨z,v,b,rfl,aq,ar,k⟩:=h;obtain⟨a,xs,rfl,aE,aa,aF,R⟩:=zb3 aq;obtain⟨aG,aH,as,_⟩:=ar;have L:=scLMarks.nd;refine⟨_,zac (zan (i:=1) L J (Or.inl J) (zaN zae))
   (zac (zcF PassesOwn.never J (zd8 (pv 0)) (zbG J (zas (zaq (i:=2) L J (Or.inl J)) (zas (zaq (i:=3) L J (Or.inl J)) za2)))
    (zac (zcF PassesOwn.never J (zd8 (pv 3)) (zaq (i:=4) L J (Or.inl J)) (zai (zan (i:=1) L J (Or.inl J) (zax zcI (pv 1) (zaN (zaa (zay zaE (pv 4) zaf (λ_ _=>rfl)) (zaa (zay zaE (pv 4) zaf (λ_ _=>rfl)) zae)))))))
    (zai (za9 (zau zg4 (pv 2) zaH (zaz _)) (zai (zaP (zbL PySem.F.plainAttrs_list PySem.F.slot_list_append PySem.F.type_list_append zaK (pv 1) (zaa (pv 2) zae)))) zaC))))
   (zai (zaw (pv 1)))),?_⟩
  dsimp only[cxOf,Cx.nox,Cx.wish];have aI:=zaW;refine⟨Nat.zero_le _,λab ac=>?_⟩;have ad:Same H (upd H ab (.lst [])):=Same.new ac;refine⟨_,J,a,J,⟨_,SqT.of (ad _ _ aa)⟩,zfQ (K:=K) (a:=a) (xs:=xs) (λi σ H2=>∃p ms S U I,σ=[some (.ref a),some (.ref p),S,U,I]/\Same H H2/\H p=none/\H2 p=some (.lst (ms.map V.str))/\ms.length<=13*i/\∀m∈ms,Sm m)
   ⟨ab,[],none,none,none,J,ad,ac,by rw[zab];rfl,by simp,by simp⟩ (λi σ H2 _ ⟨_,_,_,_,_,_,s,_⟩=>SqT.of (s _ _ aa)) ?_ ?_⟩
  .rintro i y σ H2 hi ⟨p,ms,S,U,I,rfl,M,D,B,W,G⟩;have ae:i<b.length:=by have:=(List.getElem?_eq_some_iff.mp hi).1;omega
   have au:y=xs.getD i .non:=by rw[List.getD_eq_getElem?_getD,hi];rfl
   have Y:=as _ (zaR tg0 ae);obtain⟨c,d,ys,e,aJ,aK,av,af,ag,aw⟩:=zbq (zbi (b:=b) (i:=i) R ae);have ag:ys.length=(b.getD i tg0).2.length:=ag;rw[au,e];generalize aL:b.getD i tg0=tt at *;have aM:=Y.2.1;refine⟨c,_,J,SqT.of (M _ _ av),J,_,_,J,_,_,J,J,?_⟩;refine⟨_,J,d,J,⟨_,SqT.of (M _ _ af)⟩,zfQ (K:=K) (a:=d) (xs:=ys) (λj σ O=>∃p ms I,σ=[some (.ref a),some (.ref p),some (.str tt.1),some (.ref d),I]/\Same H O/\H p=none/\O p=some (.lst (ms.map V.str))/\ms.length<=13*i+2*j/\∀m∈ms,Sm m)
    ⟨p,ms,_,J,M,D,B,by omega,G⟩ (λj σ O _ ⟨_,_,_,_,s,_⟩=>SqT.of (s _ _ af)) ?_ ?_⟩
   .rintro j ax σ O ah ⟨p,ms,I,rfl,J0,D,B,W,G⟩;have ai:j<tt.2.length:=by have:=(List.getElem?_eq_some_iff.mp ah).1;omega
    have ay:ax=ys.getD j .non:=by rw[List.getD_eq_getElem?_getD,ah];rfl
    obtain⟨q,az,aN,aj⟩:=zck (zbV (ds:=tt.2) (i:=j) aw ai);have ak:=Y.2.2 _ (zaR dr0 ai);rw[ay,az];refine⟨_,J,_,J,q,_,0,_,J,J,SqT.of (J0 _ _ aj),zal (j:=0) J,_,J,q,_,2,_,J,J,SqT.of (J0 _ _ aj),zal (j:=2) J,by show (2:Nat)<=_;omega,λl aA=>?_⟩;have Z:=Same.new (o:=.lst [.str (tt.2.getD j dr0).1,.str (tt.2.getD j dr0).2.2]) aA;refine⟨p,l,ms.map V.str,_,J,J,Z _ _ B,zab,by rw[List.length_map];show _+2<=_;omega,λp2 al=>?_⟩;have aB:=Same.new (o:=.lst (ms.map V.str++[.str (tt.2.getD j dr0).1,.str (tt.2.getD j dr0).2.2])) al;refine⟨p2,ms++[(tt.2.getD j dr0).1,(tt.2.getD j dr0).2.2],_,J,(J0.trans Z).trans aB,(J0.trans Z).free al,by rw[zab];simp,by rw[List.length_append];show _+2<=_;omega,λm hm=>?_⟩;rcases List.mem_append.mp hm with hm|hm
    .exact G m hm
    .have am:=zby ak.1;have ao:=zby ak.2.2;simp only[List.mem_cons,List.not_mem_nil,or_false] at hm;rcases hm with rfl|rfl
     .exact⟨am.2,am.1⟩
     .exact⟨ao.2,ao.1⟩
   .rintro σ O ⟨p,ms,I,rfl,J0,D,B,W,G⟩;refine⟨_,J,J,_,J,?_⟩;have el:tt.1.length<=1:=by have:=Y.1;unfold escD at this;simp at this;exact this.1
    refine ite2 (λg=>?_) (λg=>?_)
    .refine⟨_,J,.inl ⟨J,_,SqL.of B⟩,_,J,p,_,_,J,J,B,by rw[List.length_map];omega,?_⟩;refine⟨p,ms++[tt.1],_,_,_,J,λaC o ap=>by rw[zah (zad ap D)];exact J0 aC o ap,D,by rw[zab];simp,by rw[List.length_append];show _+1<=_;omega,λm hm=>?_⟩;rcases List.mem_append.mp hm with hm|hm
     .exact G m hm
     .have:m=tt.1:=by simpa using hm
      subst this;refine⟨?_,by omega⟩;rcases zhj tt.1 el with⟨ex,_⟩|⟨aO,ex,_⟩
      .rw[ex] at g;simp at g
      .rw[ex];show 1<=1;exact Nat.le_refl _
    .exact⟨p,ms,_,_,_,J,J0,D,B,by omega,G⟩
  .rintro σ H2 ⟨p,ms,S,U,I,rfl,M,D,B,W,G⟩;exact⟨_,J,k p ms H2 M D B (by omega) G⟩
theorem scText:zav ["bag","book","most","some","found","turn","one"] ["bag","book","most"] (zag lText):=⟨J,J,J,by decide +kernel,J,by decide +kernel,by decide +kernel⟩
theorem zgG(z:Str)(lo hi:Option Int):(cutS z lo hi).length<=z.length:=by
 unfold cutS;show (List.toArray _).size<=_;rw[List.size_toArray,List.length_take,List.length_drop];have:z.cps.toList.length=z.length:=by simp;rfl
 omega
theorem zk0:∀m∈[Str.ofString "x",Str.ofString " ",Str.ofString "a",Str.ofString "b",Str.ofString "\n"],1<=m.length/\m.length<=4:=by decide +kernel
theorem zk1{f aa ab:Addr}{fd ai aj:FuncData}(F:Fun K "_law_text" "_law_text" lText f fd)(T:TxtB mg)(M:W.keepIn K (.ref aa)=true)(O:Binds K ai ["bag","many"] [])(S:mg "_law_take"=some (.ref aa))(U:FnOk P w K mg base CX0 1 aa ai ["bag","many"] zef)(az:W.keepIn K (.ref ab)=true)(aA:Binds K aj ["book"] [])(aB:mg "_law_marks"=some (.ref ab))(aC:FnOk P w K mg base CX0 1 ab aj ["book"] zdq):FnOk P w K mg base CX0 2 f fd ["bag","book","most"] zgF:=by
 refine F.ok scText (λvs H Q E h=>?_) (λcdv A outer s H vs Q E G h=>?_)
 .obtain⟨z,v,b,n,rfl,_⟩:=h;rfl
 .obtain⟨z,v,b,n,rfl,ak,R,aD,aS,aT,k⟩:=h;have D:=scText.nd;refine⟨_,zac (zan (i:=3) D J (Or.inl J) (zax zcI (zat aC G J aB az aA .nil pass0 (zaa (pv 1) zae)) (zaN (pa_K zaH (pa_K zaH (pa_K zaH (pa_K zaH (pa_K zaH zae))))))))
   (zac (zan (i:=4) D J (Or.inl J) zaH)
   (zac (zcF PassesOwn.never J (zdD J T.range (zaa (zat U G J S M O .nil pass0 (zaa (pv 0) (zaa (pv 2) zae))) zae)) (zaq (i:=5) D J (Or.inl J))
    (zac (zan (i:=6) D J (Or.inl J) (zay zaB (pv 3) (zat U G J S M O .nil pass0 (zaa (pv 0) (zaa (zar zaF (by rfl) T.len b_len (zaa (pv 3) zae)) zae))) (λ_ _=>rfl)))
    (zac (za9 (zau zb8 (zat U G J S M O .nil pass0 (zaa (pv 0) (zaa zaf zae))) zaf (zaz _))
     (zai (zan (i:=6) D J (Or.inl J) (zaA zbp (pv 6) zaL (zaD (zax zaT zaf (zat U G J S M O .nil pass0 (zaa (pv 0) (zaa (zar zap (by rfl) T.len b_len (zaa (pv 6) zae)) zae)))))))) zaC)
    (zai (zan (i:=4) D J (Or.inl J) (zax zaS (pv 4) (pv 6)))))))
   (zai (zaw (pv 4))))),?_⟩
  dsimp only[cxOf,Cx.nox,Cx.wish];have aU:=zaW;have aV:(100000:Nat)<=sizeLine:=by rw[sizeLine_eq];decide
  refine⟨_,J,z,v,b,J,R,aD,λaE ms H1 al aW aF aX aG=>⟨by show (5:Nat)<=_;omega,λl aH=>?_⟩⟩;have ac:=Same.new (o:=.lst ([Str.ofString "x",Str.ofString " ",Str.ofString "a",Str.ofString "b",Str.ofString "\n"].map V.str)) aH;refine⟨aE,l,ms.map V.str,[Str.ofString "x",Str.ofString " ",Str.ofString "a",Str.ofString "b",Str.ofString "\n"].map V.str,J,J,ac _ _ aF,zab,by rw[List.length_map];show _+5<=_;omega,λp2 I=>?_⟩;have I:upd H1 l (.lst ([Str.ofString "x",Str.ofString " ",Str.ofString "a",Str.ofString "b",Str.ofString "\n"].map V.str)) p2=none:=I;have am:ms.map V.str++[Str.ofString "x",Str.ofString " ",Str.ofString "a",Str.ofString "b",Str.ofString "\n"].map V.str=(ms++[Str.ofString "x",Str.ofString " ",Str.ofString "a",Str.ofString "b",Str.ofString "\n"]).map V.str:=(List.map_append ..).symm;rw[am];have aI:=zk0;show (tSeq _ _) _ _ (upd (upd H1 l (.lst ([Str.ofString "x",Str.ofString " ",Str.ofString "a",Str.ofString "b",Str.ofString "\n"].map V.str))) p2 (.lst ((ms++[Str.ofString "x",Str.ofString " ",Str.ofString "a",Str.ofString "b",Str.ofString "\n"]).map V.str)));clear am;have aY:[Str.ofString "x",Str.ofString " ",Str.ofString "a",Str.ofString "b",Str.ofString "\n"].length=5:=rfl;generalize [Str.ofString "x",Str.ofString " ",Str.ofString "a",Str.ofString "b",Str.ofString "\n"]=B at *;have aZ:=Same.new (o:=.lst ((ms++B).map V.str)) I;have aJ:=((ak.same al).same ac);have Y:=aJ.ne I;have ad:Aft z H (upd (upd H1 l (.lst (B.map V.str))) p2 (.lst ((ms++B).map V.str))):=(((Aft.refl ak).same al).same ac).new I;have ao:upd (upd H1 l (.lst (B.map V.str))) p2 (.lst ((ms++B).map V.str)) p2=some (.lst ((ms++B).map V.str)):=zab;generalize upd (upd H1 l (.lst (B.map V.str))) p2 (.lst ((ms++B).map V.str))=a0 at ad ao;have aK:∀m∈ms++B,Sm m:=λm aL=>(List.mem_append.mp aL).elim (aG m) (aI m);have a1:(ms++B).length<=105:=by rw[List.length_append];omega
  have a2:1<=(ms++B).length:=by rw[List.length_append];omega
  generalize ms++B=so at *;refine⟨_,J,_,J,z,n,J,ad.2,by omega,by omega,λr a3 a4 ap=>⟨r,J,by omega,by omega,?_⟩⟩;have aM:=ap.1 _ _ Y ao;have aN:=ad.trans ap;have aO:((r:Int)).toNat=r:=Int.toNat_natCast r;rw[aO];have a5:(so.map V.str).length=so.length:=List.length_map ..;refine zdE (λi σ J0=>∃x ae af,σ=[some (.ref z),some v,some (.int n),some (.ref p2),some (.str x),ae,af]/\Aft z H J0/\J0 p2=some (.lst (so.map V.str))/\x.length<=4*i) ⟨_,none,none,J,aN,aM,by decide +kernel⟩ ?_ ?_
  .rintro i σ J0 hi ⟨x,ae,af,rfl,Z,ag,aP⟩;refine⟨_,J,_,J,_,J,p2,_,J,.inl (SqL.of ag),z,(so.map V.str).length,J,Z.2,by omega,by omega,λL a6 a7 aq=>?_⟩;have ar:L<so.length:=by omega
   have as:=Z.trans aq;have au:=aq.1 _ _ Y ag;obtain⟨aQ,aR⟩:=aK so[L] (List.getElem_mem ar);refine⟨p2,_,L,.str so[L],J,J,SqL.of au,zal (by simp[ar]),?_⟩;generalize so[L]=m at aQ aR;refine⟨_,J,z,6,J,as.2,by decide,by decide,λa8 a9 ba av=>⟨J,_,J,?_⟩⟩;have ah:=as.trans av;have aw:=av.1 _ _ Y au;refine ite2 (λg=>?_) (λg=>?_)
   .refine⟨_,J,_,J,_,J,m,J,by omega,z,m.length,J,ah.2,by omega,by omega,λax bb bc ay=>⟨1,ax,J,J,_,J,m,J,by omega,?_⟩⟩;have bd:=zgG m none (some (1+(ax:Int)));exact⟨_,J,_,J,_,_,J,J,by omega,_,_,_,J,ah.trans ay,ay.1 _ _ Y aw,by rw[zbS];omega⟩
   .exact⟨_,J,_,J,_,_,J,J,by omega,_,_,_,J,ah,aw,by rw[zbS];omega⟩
  .rintro σ J0 ⟨x,ae,af,rfl,Z,ag,aP⟩;exact⟨_,J,k x J0 Z (by omega)⟩
noncomputable def dpMs:List (Str×Str):=[("(",")"),("/*","*/"),("a","b"),("<<",">")]
noncomputable def dpOs:List Dr:=[("\"",1,"\""),("'",1,"\n"),("#",1,"#")]
noncomputable def dpB(m:Str×Str)(o:Dr)(i:Bool):Bk:=[("",[(m.1,0,m.2),o]),("\\",if i then [(m.1,0,m.2)] else [])]
noncomputable def bkOkB(b:Bk):Bool:=decide (1<=b.length)&&decide (b.length<=6)&&(b.all λt=>escD (.str t.1)&&decide (t.2.length<=6)&&t.2.all λd=>markS d.1&&(decide (0<=d.2.1)&&decide (d.2.1<(b.length:Int)))&&markS d.2.2)&&bookB b
theorem zk2{b:Bk}(h:bkOkB b=true):BkOk b:=by
 unfold bkOkB at h;simp only[Bool.and_eq_true,decide_eq_true_eq,List.all_eq_true] at h;obtain⟨⟨⟨h1,h2⟩,B⟩,D⟩:=h;refine⟨h1,h2,λt F=>?_,D⟩;obtain⟨⟨G,I⟩,J0⟩:=B t F;refine⟨G,I,λd L=>?_⟩;obtain⟨⟨M,O⟩,R⟩:=J0 d L;exact⟨M,O,R⟩
theorem zlS:(dpMs.all λm=>dpOs.all λo=>[true,false].all λi=>bkOkB (dpB m o i))=true:=by decide +kernel
theorem zma{m:Str×Str}{o:Dr}{i:Bool}(B:m∈dpMs)(D:o∈dpOs):BkOk (dpB m o i):=by
 have h:=zlS;simp only[List.all_eq_true] at h;exact zk2 (h m B o D i (by cases i<;>simp))
theorem zkr{m:Str×Str}(B:m∈dpMs):(1<=m.1.length/\m.1.length<=2)/\1<=m.2.length/\m.2.length<=2:=by
 have h:(dpMs.all λm=>(decide (1<=m.1.length)&&decide (m.1.length<=2))&&(decide (1<=m.2.length)&&decide (m.2.length<=2)))=true:=by decide +kernel
 simp only[List.all_eq_true,Bool.and_eq_true,decide_eq_true_eq] at h;exact h m B
theorem zk3{o:Dr}(B:o∈dpOs):o.1.length<=2/\o.2.2.length<=2:=by
 have h:(dpOs.all λo=>decide (o.1.length<=2)&&decide (o.2.2.length<=2))=true:=by decide +kernel
 simp only[List.all_eq_true,Bool.and_eq_true,decide_eq_true_eq] at h;exact h o B
inductive zgH:List V->Hp->VK->XK->Prop where
 |mk {vs:List V} {H:Hp} {Q:VK} {E:XK} (z:Addr) (c1:vs=[.ref z]) (c2:Bag z H) (c3:∀v m o i H',Aft z H H'->m∈dpMs->o∈dpOs->Rep z H' v (bkD (dpB m o i))->Q v H'):zgH vs H Q E
theorem scDeep:zav ["bag","marks","other","inner"] ["bag"] (zag zdT):=⟨J,J,J,by decide +kernel,J,by decide +kernel,by decide +kernel⟩
theorem zk4{f aE:Addr}{fd a4:FuncData}(F:Fun K "_law_deep_book" "_law_deep_book" zdT f fd)(aF:W.keepIn K (.ref aE)=true)(aG:Binds K a4 ["bag","many"] [])(aH:mg "_law_take"=some (.ref aE))(aI:FnOk P w K mg base CX0 1 aE a4 ["bag","many"] zef):FnOk P w K mg base CX0 2 f fd ["bag"] zgH:=by
 refine F.ok scDeep (λvs H Q E h=>?_) (λcdv A outer s H vs Q E aJ h=>?_)
 .obtain⟨z,rfl,_⟩:=h;rfl
 .obtain⟨z,rfl,aK,k⟩:=h;have aL:=scDeep.nd;refine⟨_,@zac _ _ _ _ _ (@zan _ _ 1 _ _ _ _ aL J (Or.inl J) (@zay _ _ _ _ _ _ _ zaB zim (@zat _ _ _ _ _ _ _ _ _ _ _ _ _ _ _ _ aI aJ J aH aF aG .nil pass0 (@zaa _ _ _ _ _ (pv 0) (@pa_K _ _ _ _ _ _ _ zaf zae) (by rfl)) (by decide) (by rfl) (by rfl)) (λ_ _=>rfl)) (by rfl) (by first|exact .inl rfl|exact .inr rfl|assumption)) (@zac _ _ _ _ _ (@zan _ _ 2 _ _ _ _ aL J (Or.inl J) (@zay _ _ _ _ _ _ _ zaB zim (@zat _ _ _ _ _ _ _ _ _ _ _ _ _ _ _ _ aI aJ J aH aF aG .nil pass0 (@zaa _ _ _ _ _ (pv 0) (@pa_K _ _ _ _ _ _ _ zaf zae) (by rfl)) (by decide) (by rfl) (by rfl)) (λ_ _=>rfl)) (by rfl) (by first|exact .inl rfl|exact .inr rfl|assumption)) (@zac _ _ _ _ _ (@zan _ _ 3 _ _ _ _ aL J (Or.inl J) (@zay _ _ _ _ _ _ _ zaB (@zaN _ _ _ _ (@pa_T _ _ _ _ _ _ _ (@zaV _ _ _ _ _ zae) (@pa_T _ _ _ _ _ _ _ (@zaV _ _ _ _ _ (@pa_T _ _ _ _ _ _ _ (@zaV _ _ _ _ _ (@zaa _ _ _ _ _ (@zay _ _ _ _ _ _ _ zaE (pv 1) zaf (λ_ _=>rfl)) (@pa_K _ _ _ _ _ _ _ zaf (@zaa _ _ _ _ _ (@zay _ _ _ _ _ _ _ zaE (pv 1) zaf (λ_ _=>rfl)) zae (by rfl))) (by rfl))) zae)) zae))) (@zat _ _ _ _ _ _ _ _ _ _ _ _ _ _ _ _ aI aJ J aH aF aG .nil pass0 (@zaa _ _ _ _ _ (pv 0) (@pa_K _ _ _ _ _ _ _ zaf zae) (by rfl)) (by decide) (by rfl) (by rfl)) (λ_ _=>rfl)) (by rfl) (by first|exact .inl rfl|exact .inr rfl|assumption)) (@zai _ _ _ (@zaw _ _ _ _ (@zaV _ _ _ _ _ (@pa_T _ _ _ _ _ _ _ (@zaV _ _ _ _ _ (@pa_K _ _ _ _ _ _ _ zaH (@pa_T _ _ _ _ _ _ _ (@zaV _ _ _ _ _ (@pa_T _ _ _ _ _ _ _ (@zaV _ _ _ _ _ (@zaa _ _ _ _ _ (@zay _ _ _ _ _ _ _ zaE (pv 1) zaf (λ_ _=>rfl)) (@pa_K _ _ _ _ _ _ _ zaf (@zaa _ _ _ _ _ (@zay _ _ _ _ _ _ _ zaE (pv 1) zaf (λ_ _=>rfl)) zae (by rfl))) (by rfl))) (@zaa _ _ _ _ _ (pv 2) zae (by rfl)))) zae))) (@pa_T _ _ _ _ _ _ _ (@zaV _ _ _ _ _ (@pa_K _ _ _ _ _ _ _ zaH (@zaa _ _ _ _ _ (pv 3) zae (by rfl)))) zae))))))),?_⟩
  dsimp only[cxOf,Cx.nox,Cx.wish];have bM:(100000:Nat)<=sizeLine:=by rw[sizeLine_eq];decide
  refine zbC λbN _ bz _ _=>zaj λa5 ao=>?_;obtain⟨m1',ai⟩:∃o,o=HO.tup [V.str "(",V.str ")"]:=⟨_,J⟩;obtain⟨ab,aj⟩:∃o,o=HO.tup [V.str "/*",V.str "*/"]:=⟨_,J⟩;obtain⟨ac,ak⟩:∃o,o=HO.tup [V.str "a",V.str "b"]:=⟨_,J⟩;obtain⟨ay,aM⟩:∃o,o=HO.tup [V.str "<<",V.str ">"]:=⟨_,J⟩;refine⟨by show (2:Nat)<=_;omega,λR ap=>?_⟩;rw[←ai];have M:=Same.new (o:=m1') ap;have q1:upd H R m1' R=some m1':=zab;generalize upd H R m1'=H1 at M q1 ⊢;refine⟨by show (2:Nat)<=_;omega,λp2 aq=>?_⟩;rw[←aj];have J0:=Same.new (o:=ab) aq;have I:upd H1 p2 ab p2=some ab:=zab;generalize upd H1 p2 ab=H2 at J0 I ⊢;refine⟨by show (2:Nat)<=_;omega,λp3 ar=>?_⟩;rw[←ak];have G:=Same.new (o:=ac) ar;have S:upd H2 p3 ac p3=some ac:=zab;generalize upd H2 p3 ac=a6 at G S ⊢;refine⟨by show (2:Nat)<=_;omega,λp4 a7=>?_⟩;rw[←aM];have Y:=Same.new (o:=ay) a7;have ad:upd a6 p4 ay p4=some ay:=zab;generalize upd a6 p4 ay=a8 at Y ad ⊢;refine⟨by show (4:Nat)<=_;omega,λpl al=>?_⟩;have D:=Same.new (o:=.lst [V.ref R,V.ref p2,V.ref p3,V.ref p4]) al;have U:upd a8 pl (.lst [V.ref R,V.ref p2,V.ref p3,V.ref p4]) pl=some (.lst [V.ref R,V.ref p2,V.ref p3,V.ref p4]):=zab;generalize upd a8 pl (.lst [V.ref R,V.ref p2,V.ref p3,V.ref p4])=bA at D U ⊢;have O:=(((M.trans J0).trans G).trans Y).trans D;replace q1:=(((J0.trans G).trans Y).trans D) _ _ q1;replace I:=((G.trans Y).trans D) _ _ I;replace S:=(Y.trans D) _ _ S;replace ad:=D _ _ ad;rw[ai] at q1;rw[aj] at I;rw[ak] at S;rw[aM] at ad;have aN:=aK.same O;obtain⟨c,d,a9⟩:=id aN;have bO:∀ {a:Addr},H a=none->a≠z:=λh=>aK.ne h;refine⟨_,J,z,4,J,aN,by decide,by decide,λr az bP ag=>?_⟩;have ba:pl≠z:=aK.ne ((((M.trans J0).trans G).trans Y).free al);obtain⟨bb,bc,aO⟩:=pickH U (r:=r) (by show r<4;omega);refine⟨pl,_,(r:Int),bb,J,J,SqL.of (ag.1 _ _ ba U),zal bc,ao _ _ (zaj λa5 ao=>?_)⟩;have L:∀ {a:Addr} {xs:List V},bA a=some (.tup xs)->a≠z:=λh e=>by rw[e,a9] at h;cases h
  obtain⟨m,bd,pm,rfl,be⟩:∃m,m∈dpMs/\∃pm,bb=.ref pm/\az pm=some (.tup [.str m.1,.str m.2]):=by
   simp only[List.mem_cons,List.not_mem_nil,or_false] at aO;rcases aO with h|h|h|h
   .exact⟨("(",")"),.head _,R,h,ag.1 _ _ (L q1) q1⟩
   .exact⟨("/*","*/"),.tail _ (.head _),p2,h,ag.1 _ _ (L I) I⟩
   .exact⟨("a","b"),.tail _ (.tail _ (.head _)),p3,h,ag.1 _ _ (L S) S⟩
   .exact⟨("<<",">"),.tail _ (.tail _ (.tail _ (.head _))),p4,h,ag.1 _ _ (L ad) ad⟩
  have aA:Aft z H az:=⟨λa o ae e=>ag.1 a o ae (O a o e),ag.2⟩;clear ai aj ak aM;clear q1 I S ad U M J0 G Y D O aN a9 L ba bc aO ag ap aq ar a7 al
  -- other
  obtain⟨m1',ai⟩:∃o,o=HO.tup [V.str "\"",V.int 1,V.str "\""]:=⟨_,J⟩;obtain⟨ab,aj⟩:∃o,o=HO.tup [V.str "'",V.int 1,V.str "\n"]:=⟨_,J⟩;obtain⟨ac,ak⟩:∃o,o=HO.tup [V.str "#",V.int 1,V.str "#"]:=⟨_,J⟩;refine⟨by show (3:Nat)<=_;omega,λR ap=>?_⟩;rw[←ai];have M:=Same.new (o:=m1') ap;have q1:upd az R m1' R=some m1':=zab;generalize upd az R m1'=bf at M q1 ⊢;refine⟨by show (3:Nat)<=_;omega,λp2 aq=>?_⟩;rw[←aj];have J0:=Same.new (o:=ab) aq;have I:upd bf p2 ab p2=some ab:=zab;generalize upd bf p2 ab=bg at J0 I ⊢;refine⟨by show (3:Nat)<=_;omega,λp3 ar=>?_⟩;rw[←ak];have G:=Same.new (o:=ac) ar;have S:upd bg p3 ac p3=some ac:=zab;generalize upd bg p3 ac=bh at G S ⊢;refine⟨by show (3:Nat)<=_;omega,λpl al=>?_⟩;have D:=Same.new (o:=.lst [V.ref R,V.ref p2,V.ref p3]) al;have U:upd bh pl (.lst [V.ref R,V.ref p2,V.ref p3]) pl=some (.lst [V.ref R,V.ref p2,V.ref p3]):=zab;have bi:=((M.trans J0).trans G).free al;generalize upd bh pl (.lst [V.ref R,V.ref p2,V.ref p3])=bB at D U ⊢;have O:=((M.trans J0).trans G).trans D;replace q1:=((J0.trans G).trans D) _ _ q1;replace I:=(G.trans D) _ _ I;replace S:=D _ _ S;rw[ai] at q1;rw[aj] at I;rw[ak] at S;have aP:=aA.2.same O;obtain⟨c,d,bj⟩:=id aP;have L:∀ {a:Addr} {xs:List V},bB a=some (.tup xs)->a≠z:=λh e=>by rw[e,bj] at h;cases h
  refine⟨_,J,z,3,J,aP,by decide,by decide,λaQ as bQ ah=>?_⟩;obtain⟨bk,bl,aR⟩:=pickH U (r:=aQ) (by show aQ<3;omega);refine⟨pl,_,(aQ:Int),bk,J,J,SqL.of (ah.1 _ _ (aA.2.ne bi) U),zal bl,ao _ _ (zaj λa5 ao=>?_)⟩;obtain⟨o,bm,aB,rfl,bn⟩:∃o,o∈dpOs/\∃aB,bk=.ref aB/\as aB=some (.tup [.str o.1,.int o.2.1,.str o.2.2]):=by
   simp only[List.mem_cons,List.not_mem_nil,or_false] at aR;rcases aR with h|h|h
   .exact⟨("\"",1,"\""),.head _,R,h,ah.1 _ _ (L q1) q1⟩
   .exact⟨("'",1,"\n"),.tail _ (.head _),p2,h,ah.1 _ _ (L I) I⟩
   .exact⟨("#",1,"#"),.tail _ (.tail _ (.head _)),p3,h,ah.1 _ _ (L S) S⟩
  have aS:=O _ _ be;have aT:=ah.1 _ _ (L aS) aS;have aU:Aft z H as:=⟨λa o ae e=>ah.1 a o ae (O a o (aA.1 a o ae e)),ah.2⟩;clear ai aj ak;clear q1 I S U M J0 G D O aP bj L bl aR ah ap aq ar al bi be aS aA
  -- inner
  have aC:=zkr bd;have bo:=zk3 bm;refine⟨Nat.zero_le _,λam bp=>?_⟩;have M:=Same.new (o:=.tup []) bp;have aV:=M _ _ aT;refine⟨_,J,pm,_,0,_,J,J,SqT.of aV,zal (j:=0) J,_,J,pm,_,1,_,J,J,SqT.of aV,zal (j:=1) J,by show (3:Nat)<=_;omega,λaa au=>⟨by show (1:Nat)<=_;omega,λZ av=>⟨by show (2:Nat)<=_;omega,λel aW=>?_⟩⟩⟩;have J0:=Same.new (o:=.tup [.str m.1,.int 0,.str m.2]) au;have G:=Same.new (o:=.tup [.ref aa]) av;have D:=Same.new (o:=.lst [.ref am,.ref Z]) aW;have O:=((M.trans J0).trans G).trans D;have aw:=((J0.trans G).trans D) _ _ (zab (H:=as) (a:=am) (o:=.tup []));have q1:=(G.trans D) aa _ zab;have I:=D Z _ zab;have U:upd (upd (upd (upd as am (.tup [])) aa (.tup [.str m.1,.int 0,.str m.2])) Z (.tup [.ref aa])) el (.lst [.ref am,.ref Z]) el=some (.lst [.ref am,.ref Z]):=zab;have bq:=((M.trans J0).trans G).free aW;have aD:=O _ _ aT;have ax:=O _ _ bn;generalize upd (upd (upd (upd as am (.tup [])) aa (.tup [.str m.1,.int 0,.str m.2])) Z (.tup [.ref aa])) el (.lst [.ref am,.ref Z])=bC at O aw q1 I U aD ax;have aX:=aU.2.same O;obtain⟨c,d,br⟩:=id aX;have L:∀ {a:Addr} {xs:List V},bC a=some (.tup xs)->a≠z:=λh e=>by rw[e,br] at h;cases h
  refine⟨_,J,z,2,J,aX,by decide,by decide,λaY aZ bR af=>?_⟩;obtain⟨a0,bs,a1⟩:=pickH U (r:=aY) (by show aY<2;omega);refine⟨el,_,(aY:Int),a0,J,J,SqL.of (af.1 _ _ (aU.2.ne bq) U),zal bs,ao _ _ ?_⟩;have sm1:∀ {x:Str},x.length<=2->x.length<=1000:=λh=>by omega
  obtain⟨i,bD⟩:∃i:Bool,Rep z aZ a0 (.tup ((if i then [(m.1,0,m.2)] else []:List Dr).map drD)):=by
   simp only[List.mem_cons,List.not_mem_nil,or_false] at a1;rcases a1 with h|h
   .exact⟨false,by rw[h];exact .tup (af.1 _ _ (L aw) aw) (L aw) .nil⟩
   .exact⟨true,by rw[h];exact .tup (af.1 _ _ (L I) I) (L I) (.cons (.tup (af.1 _ _ (L q1) q1) (L q1) (.cons (.str _ (sm1 aC.1.2)) (.cons (.int _) (.cons (.str _ (sm1 aC.2.2)) .nil)))) .nil)⟩
  have bt:=af.1 _ _ (L aD) aD;have bE:=af.1 _ _ (L ax) ax;have bF:=L ax;have bu:Aft z H aZ:=⟨λa o ae e=>af.1 a o ae (O a o (aU.1 a o ae e)),af.2⟩;clear aw q1 I U M J0 G D O aX br L bs a1 af bp au av aW bq aT aV aD bn ax;refine⟨_,J,pm,_,0,_,J,J,SqT.of bt,zal (j:=0) J,_,J,pm,_,1,_,J,J,SqT.of bt,zal (j:=1) J,by show (3:Nat)<=_;omega,λaa au=>⟨_,J,by show (2:Nat)<=_;omega,λZ av=>⟨by show (2:Nat)<=_;omega,λa2 bv=>⟨_,J,by show (2:Nat)<=_;omega,λa3 bw=>⟨by show (2:Nat)<=_;omega,λbG bx=>bz _ _ ?_⟩⟩⟩⟩⟩;have B:=bu.2;have M:=Same.new (o:=.tup [.str m.1,.int 0,.str m.2]) au;have J0:=Same.new (o:=.tup [.ref aa,.ref aB]) av;have G:=Same.new (o:=.tup [.str "",.ref Z]) bv;have Y:=Same.new (o:=.tup [.str "\\",a0]) bw;have D:=Same.new (o:=.tup [.ref a2,.ref a3]) bx;have O:=(((M.trans J0).trans G).trans Y).trans D;have q1:=(((J0.trans G).trans Y).trans D) _ _ (zab (H:=aZ) (a:=aa) (o:=.tup [.str m.1,.int 0,.str m.2]));have I:=((G.trans Y).trans D) Z _ zab;have S:=(Y.trans D) a2 _ zab;have ad:=D a3 _ zab;have bH:aa≠z:=B.ne au;have bI:Z≠z:=(B.same M).ne av;have bJ:a2≠z:=(B.same (M.trans J0)).ne bv;have bK:a3≠z:=(B.same ((M.trans J0).trans G)).ne bw;have bL:bG≠z:=(B.same (((M.trans J0).trans G).trans Y)).ne bx;refine k _ m o i _ ⟨λa o' ae e=>O a o' (bu.1 a o' ae e),B.same O⟩ bd bm (.tup zab bL (.cons (.tup S bJ (.cons (.str _ (by decide +kernel)) (.cons (.tup I bI (.cons (.tup q1 bH (.cons (.str _ (sm1 aC.1.2)) (.cons (.int _) (.cons (.str _ (sm1 aC.2.2)) .nil)))) (.cons (.tup (O _ _ bE) bF (.cons (.str _ (sm1 bo.1)) (.cons (.int _) (.cons (.str _ (sm1 bo.2)) .nil)))) .nil))) .nil))) (.cons (.tup ad bK (.cons (.str _ (by decide +kernel)) (.cons (bD.mono O.x) .nil))) .nil)))
noncomputable abbrev LDr:=Int×Int×Str
noncomputable def ldD(d:LDr):D:=.tup [.int d.1,.int d.2.1,.str d.2.2]
noncomputable abbrev ld0:LDr:=(0,0,⟨#[]⟩)
theorem zbr:∀ds:List LDr,NoLs (ds.map ldD)
 |[]=>.nil
 |d::r=>.cons (.tup (.cons (.int _) (.cons (.int _) (.cons (.str _) .nil)))) (zbr r)
theorem zdU{z:Addr}{H:Hp}{v:V}{d:LDr}(r:Rep z H v (ldD d)):∃a,v=.ref a/\a≠z/\H a=some (.tup [.int d.1,.int d.2.1,.str d.2.2]):=by
 cases r with
 |tup h B r=>
  cases r with
  |cons D r=>
   cases r with
   |cons F r=>
    cases r with
    |cons G r=>
     cases r;cases D;cases F;cases G;exact⟨_,J,B,h⟩
theorem zeF{z:Addr}{H:Hp}{xs:List V}{ds:List LDr}{i:Nat}(r:Reps z H xs (ds.map ldD))(hi:i<ds.length):Rep z H (xs.getD i .non) (ldD (ds.getD i ld0)):=by
 have:=r.get (i:=i) (by simpa using hi);simpa [hi] using this
noncomputable def LdOk(b:Bk)(ds:List LDr):Prop:=∀d∈ds,(0<=d.2.1/\d.2.1<b.length)/\Sm d.2.2
noncomputable def zam(ds:List LDr):Int:=match ds.getLast? with
 |some d=>d.2.1
 |none=>0
noncomputable def lastL(ds:List LDr):List LDr:=ds.drop (ds.length-1)
noncomputable def fitAt(x:Str)(i:Nat)(m:Str):Bool:=decide (V.str (cutS x (some (i:Int)) (some ((i:Int)+m.length)))=V.str m)
noncomputable def someL(b:Bk)(ds:List LDr):List Str:=zaJ (b.getD (zam ds).toNat tg0).2++(lastL ds).map (·.2.2)
noncomputable def fitL(b:Bk)(ds:List LDr)(x:Str)(i:Nat):List Str:=(someL b ds).filter (fitAt x i)
theorem zgI(vs:List V):cutV vs (some (-1)) none=vs.drop (vs.length-1):=by
 unfold cutV;have e:HT.sIx vs.length 0 (some (-1))=vs.length-1:=by
  show (if (-1:Int)<0 then ((-1:Int)+(vs.length:Int)).toNat else min (-1:Int).toNat vs.length)=_;rw[if_pos (by decide)];omega
 rw[e,HT.sIx_none];rw[List.take_of_length_le];rw[List.length_drop];exact Nat.le_refl _
theorem zc6(so:List Str)(d:Str)(p:Str->Bool):∀n,n<=so.length->flatN (λi=>(if p (so.getD i d) then some (V.str (so.getD i d)) else none).toList) n=((so.take n).filter p).map V.str
 |0,_=>by simp[flatN]
 |n+1,h=>by
  have B:n<so.length:=h;simp only[flatN];rw[zc6 so d p n (by omega),List.take_add_one,List.filter_append,List.map_append];congr 1;have e:so.getD n d=so[n]:=by simp[B]
  rw[e,List.getElem?_eq_getElem B];cases g:p so[n]<;>simp[g]
noncomputable def LDs(z:Addr)(H:Hp)(q:Addr)(ds:List LDr):Prop:=∃vs,H q=some (.lst vs)/\Reps z H vs (ds.map ldD)
theorem LDs.same{z:Addr}{H H':Hp}{q:Addr}{ds:List LDr}(h:LDs z H q ds)(s:Same H H'):LDs z H' q ds:=let ⟨vs,a,r⟩:=h;⟨vs,s _ _ a,r.mono s.x⟩
structure Wrp(G:Prop):Prop where
 out:G
theorem zeG{c A B G:Prop} [Decidable c] (h1:c->Wrp G->A) (h2:¬c->Wrp G->B) (g:G):if c then A else B:=by
 by_cases h:c
 .rw[if_pos h];exact h1 h ⟨g⟩
 .rw[if_neg h];exact h2 h ⟨g⟩
inductive zbW:List V->Hp->VK->XK->Prop where
 |mk {vs:List V} {H:Hp} {Q:VK} {E:XK} (z v b q ds x:_) (i:Nat) (c1:vs=[v,.ref q,.str x,.int i]) (c2:Rep z H v (bkD b)) (c3:BkOk b) (c4:LDs z H q ds) (c5:LdOk b ds) (c6:x.length<=20000) (c7:∀p (ys:List Str) H',Same H H'->H p=none->H' p=some (.lst (ys.map V.str))->ys.Perm (fitL b ds x i)->ys.Pairwise (λa c=>c.length<=a.length)->Q (.ref p) H'):zbW vs H Q E
theorem scFitting:zav ["book","doors","text","place","tongue","some"] ["book","doors","text","place"] (zag zcm):=⟨J,J,J,by decide +kernel,J,by decide +kernel,by decide +kernel⟩
theorem ndMPT:(["mark","place","text"]:List Str).Nodup:=by decide +kernel
theorem zhk{f:Addr}{fd:FuncData}(F:Fun K "_law_fitting" "_law_fitting" zcm f fd)(T:TxtB mg):FnOk P w K mg base CX0 1 f fd ["book","doors","text","place"] zbW:=by
 refine F.ok scFitting (λvs H Q E h=>?_) (λcdv A outer s H vs Q E aQ h=>?_)
 .obtain⟨z,v,b,q,ds,x,i,rfl,_⟩:=h;rfl
 .obtain⟨z,v,b,q,ds,x,i,rfl,aR,aS,⟨vs,S,Z⟩,aq,bt,k⟩:=h;obtain⟨a,xs,rfl,bu,aT,bv,R⟩:=zb3 aR;obtain⟨bw,bx,aU,_⟩:=aS;have aa:=scFitting.nd;refine⟨_,zac (zan (i:=4) aa J (Or.inl J) zaf)
   (zac (za9 (zau (zcb aQ.units0) (pv 1) (zaN zae) (zaz _)) (zai (zan (i:=4) aa J (Or.inl J) (zay zaE (zay zaB (pv 1) (zbK zbd zaf) (λ_ _=>rfl)) zaf (λ_ _=>rfl)))) zaC)
   (zac (zan (i:=5) aa J (Or.inl J) (zax zcI
     (za6 (N':=["door"]) (js:=[none]) J J (zbl (zag zcm) (by decide +kernel)) trivial (zd8 (zay zaE (zay zaE (pv 0) (pv 4) (λ_ _=>rfl)) zaf (λ_ _=>rfl)))
      (λcl s H fp=>zaq (i:=0) ndD J (Or.inl J)) (λcl s H fp=>zbh) (λcl s H fp=>zay zb1 (pv 0) zaf (λ_ _=>rfl)))
     (za6 (N':=["door"]) (js:=[none]) J J (zbl (zag zcm) (by decide +kernel)) trivial (zbc (zaA zbQ (pv 1) (zaD (zbK zbd zaf)) zaL))
      (λcl s H fp=>zaq (i:=0) ndD J (Or.inl J)) (λcl s H fp=>zbh) (λcl s H fp=>zay zb1 (pv 0) zaf (λ_ _=>rfl)))))
   (zai (zaw (zkn (zey T.sorted T.len (za6 (N':=["mark","place","text"]) (js:=[none,some 3,some 2]) J J (zbl (zag zcm) (by decide +kernel)) ⟨J,Or.inr (Or.inl J),J,J,Or.inr (Or.inl J),J,trivial⟩ (zbc (pv 5))
     (λcl s H fp=>zaq (i:=0) ndMPT J (Or.inl J)) (λcl s H fp=>zet (zau zb8 (zaA zbp (pv 2) (zaD (pv 1)) (zaD (zax zaT (pv 1) (zar zap (by rfl) T.len b_len (zaa (pv 0) zae))))) (pv 0) (zaz _))) (λcl s H fp=>pv 0))) (zbK zbd zaf) (λσ H Q bz ⟨i,e,h⟩ hm=>⟨i,e,hm _ _ h⟩)))))),?_⟩
  dsimp only[cxOf,Cx.nox,Cx.wish];have bA:=zaW;have U:vs.length=ds.length:=by have:=Z.length;simpa using this
  refine⟨_,J,Nat.zero_le _,λl ar=>?_⟩;have D:=Same.new (o:=.lst []) ar;have bB:q≠l:=zad S ar;refine⟨q,l,vs,J,J,D _ _ S,zab,_,J,?_⟩;generalize upd H l (.lst [])=H1 at D;obtain⟨B,ab,as⟩:∃B:Nat,zam ds=(B:Int)/\B<b.length:=by
   unfold zam;cases g:ds.getLast? with
   |none=>exact⟨0,J,by omega⟩
   |some d=>
    have:=(aq d (List.mem_of_getLast? g)).1;exact⟨d.2.1.toNat,by show d.2.1=_;omega,by omega⟩
  refine zeG (G:=?G) (λac g=>?g1) (λac g=>?g2) ?g3
  case g1=>
   have bC:0<ds.length:=by
    cases vs with
    |nil=>simp at ac
    |cons _ _=>simp at U;omega
   have aV:ds.getLast?=some (ds.getD (ds.length-1) ld0):=by
    rw[List.getLast?_eq_getElem?];have:ds.length-1<ds.length:=by omega
    simp[this]
   have ae:(ds.getD (ds.length-1) ld0).2.1=(B:Int):=by
    rw[←ab];unfold zam;rw[aV]
   obtain⟨ad,aW,bD,aX⟩:=zdU ((zeF (ds:=ds) (i:=ds.length-1) Z (by omega)).mono D.x);have aY:atI vs (-1)=some (.ref ad):=by
    have aZ:ixN vs.length (-1)=some (vs.length-1):=by
     unfold ixN;rw[if_neg (by decide),if_pos (by omega)];congr 1;omega
    unfold atI;rw[aZ];show vs[vs.length-1]?=_;have h1:vs.length-1<vs.length:=by omega
    have h2:vs.getD (vs.length-1) .non=vs[vs.length-1]:=by simp[h1]
    rw[List.getElem?_eq_getElem h1,←h2,U,aW]
   refine⟨_,J,1,J,q,vs,-1,_,J,J,SqL.of (D _ _ S),aY,ad,_,1,_,J,J,SqT.of aX,zal (j:=1) J,?_⟩;show (tSeq _ _) _ [some (.ref a),some (.ref q),some (.str x),some (.int i),some (.int (ds.getD (ds.length-1) ld0).2.1),none] _;rw[ae];exact g.out
  case g2=>
   have a0:ds.length=0:=by
    cases vs with
    |nil=>simp at U;omega
    |cons _ _=>simp at ac
   have ae:(some (V.int 0):Option V)=some (V.int (B:Int)):=by
    rw[←ab];unfold zam;have:ds=[]:=List.eq_nil_of_length_eq_zero a0;rw[this];rfl
   show (tSeq _ _) _ [some (.ref a),some (.ref q),some (.str x),some (.int i),some (.int 0),none] _;rw[ae];exact g.out
  case g3=>
   obtain⟨c,d,ys,a1,bE,bF,a2,af,ag,a3⟩:=zbq ((zbi (b:=b) (i:=B) R as).mono D.x);have a4:xs[B]?=some (.ref c):=by
    have h1:B<xs.length:=by omega
    have h2:xs.getD B .non=xs[B]:=by simp[h1]
    rw[List.getElem?_eq_getElem h1,←h2,a1]
   have au:=aU _ (zaR tg0 as);have ag:ys.length=(b.getD B tg0).2.length:=ag;have av:b.getD (zam ds).toNat tg0=b.getD B tg0:=by rw[ab];rfl
   have aw:fitL b ds x i=(zaJ (b.getD B tg0).2++(lastL ds).map (·.2.2)).filter (fitAt x i):=by unfold fitL someL;rw[av]
   rw[aw] at k;clear aw av;generalize bG:b.getD B tg0=tt at *;have bH:=au.2.1;refine⟨_,J,_,J,a,xs,B,_,J,J,SqT.of (D _ _ aT),zal a4,c,_,1,_,J,J,SqT.of a2,zal (j:=1) J,d,J,⟨_,SqT.of af⟩,λah ax=>?_⟩;have ay:d≠ah:=zad af ax;refine zdk (λj=>.str (tt.2.getD j dr0).1) (λσ=>∃v,σ=[v]) ⟨none,J⟩ ax (by omega) (zev (xs:=ys) (by rw[zah ay];exact af) ay) (λj σ H2 C az ⟨v,I⟩ a5 J0=>?_) (λσ H2 ai a6=>?_)
   .subst I;obtain⟨aj,ak,a7,al⟩:=zck ((zbV (ds:=tt.2) (i:=j) a3 (by omega)).mono a5.x);rw[ak];exact⟨_,J,aj,_,0,_,J,J,SqT.of al,zal (j:=0) J,J0 _ H2 ⟨_,J⟩ (Same.refl _)⟩
   have a8:H2 ah=some (.lst ((zaJ tt.2).map V.str)):=by
    rw[a6,ag];unfold zaJ;rw[List.map_map];exact congrArg (λx=>some (HO.lst x)) (zcK tt.2 dr0 λd=>V.str d.1)
   have a9:=ai _ _ (D _ _ S);refine⟨_,J,1,J,-1,J,q,vs,J,SqL.of a9,λL ba=>⟨L,J,⟨_,SqL.of zab⟩,λam aA=>?_⟩⟩;have aB:=Same.new (o:=.lst (cutV vs (some (-1)) none)) ba;have aC:upd H2 L (.lst (cutV vs (some (-1)) none)) L=some (.lst (vs.drop (vs.length-1))):=by rw[zab,zgI]
   have aD:L≠am:=zad aC aA;have aE:Reps z (upd H2 L (.lst (cutV vs (some (-1)) none))) (vs.drop (vs.length-1)) ((lastL ds).map ldD):=by
    unfold lastL;rw[List.map_drop,U];exact(Z.mono ((D.trans ai).trans aB).x).drop _
   have bb:(vs.drop (vs.length-1)).length=(lastL ds).length:=by have:=aE.length;simpa using this
   have bI:(lastL ds).length<=1:=by unfold lastL;rw[List.length_drop];omega
   refine zdk (λj=>.str ((lastL ds).getD j ld0).2.2) (λσ=>∃v,σ=[v]) ⟨none,J⟩ aA (by omega) (za7 (xs:=vs.drop (vs.length-1)) (by rw[zah aD];exact aC) aD) (λj σ M C az ⟨v,I⟩ bc J0=>?_) (λσ M bd be=>?_)
   .subst I;obtain⟨aj,ak,a7,al⟩:=zdU ((zeF (ds:=lastL ds) (i:=j) aE (by omega)).mono bc.x);rw[ak];exact⟨_,J,aj,_,2,_,J,J,SqT.of al,zal (j:=2) J,J0 _ M ⟨_,J⟩ (Same.refl _)⟩
   have bf:M am=some (.lst (((lastL ds).map (·.2.2)).map V.str)):=by
    rw[be,bb,List.map_map];exact congrArg (λx=>some (HO.lst x)) (zcK (lastL ds) ld0 λd=>V.str d.2.2)
   have aF:=aB.trans bd;have bg:((zaJ tt.2).map V.str).length<=6:=by unfold zaJ;simp;omega
   have bh:(((lastL ds).map (·.2.2)).map V.str).length<=1:=by simp;omega
   refine⟨ah,am,_,_,J,J,aF _ _ a8,bf,by omega,λpS bi=>?_⟩;rw[←List.map_append];have bj:=Same.new (o:=.lst ((zaJ tt.2++(lastL ds).map (·.2.2)).map V.str)) bi;have W:upd M pS (.lst ((zaJ tt.2++(lastL ds).map (·.2.2)).map V.str)) pS=some (.lst ((zaJ tt.2++(lastL ds).map (·.2.2)).map V.str)):=zab;have ao:=((D.trans ai).trans aF).trans bj;generalize upd M pS (.lst ((zaJ tt.2++(lastL ds).map (·.2.2)).map V.str))=bJ at ao W;have aG:∀m∈zaJ tt.2++(lastL ds).map (·.2.2),Sm m:=λm hm=>by
    rcases List.mem_append.mp hm with hm|hm
    .obtain⟨dd,ap,rfl⟩:=List.mem_map.mp hm;have g:=zby (au.2.2 dd ap).1;exact⟨g.2,g.1⟩
    .obtain⟨dd,ap,rfl⟩:=List.mem_map.mp hm;exact(aq dd (List.mem_of_mem_drop ap)).2
   have bk:(zaJ tt.2++(lastL ds).map (·.2.2)).length<=7:=by simp at bg bh ⊢;omega
   generalize zaJ tt.2++(lastL ds).map (·.2.2)=so at *;have bl:(so.map V.str).length=so.length:=List.length_map ..;refine⟨_,J,pS,J,⟨_,SqL.of W⟩,λaH aI=>?_⟩;have aJ:pS≠aH:=zad W aI;refine zbE (λj=>if fitAt x i (so.getD j ⟨#[]⟩) then some (.str (so.getD j ⟨#[]⟩)) else none) (λσ=>∃v,σ=[v,some (.int i),some (.str x)]) ⟨none,J⟩ aI (by omega) (za7 (xs:=so.map V.str) (by rw[zah aJ];exact W) aJ) (λj σ aK C az ⟨v,I⟩ bK J0=>?_) (λσ aK aL aM=>?_)
   .subst I;have aN:j<so.length:=by omega
    have bm:(so.map V.str).getD j .non=.str (so.getD j ⟨#[]⟩):=by simp[aN]
    have g:=aG _ (zaR ⟨#[]⟩ aN);rw[bm];have Y:=J0 [some (.str (so.getD j ⟨#[]⟩)),some (.int i),some (.str x)] aK ⟨_,J⟩ (Same.refl _);have bn:x.length<=sizeLine:=by have:(20000:Nat)<=sizeLine:=(by rw[sizeLine_eq];decide);omega
    refine⟨_,J,_,J,i,J,_,J,_,J,_,J,by have:=g.2;omega,i,_,J,J,_,J,x,J,bn,_,J,J,_,J,?_⟩;show if fitAt x i (so.getD j ⟨#[]⟩)=true then _ else _;cases g2:fitAt x i (so.getD j ⟨#[]⟩) with
    |true=>
     rw[g2,if_pos rfl] at Y;exact iteT ⟨_,J,Y⟩
    |false=>
     rw[g2,if_neg (by simp)] at Y;exact iteF Y
   rw[bl,zc6 so ⟨#[]⟩ (fitAt x i) _ (Nat.le_refl _),List.take_length] at aM;have bL:(so.filter (fitAt x i)).length<=7:=Nat.le_trans (List.length_filter_le _ _) bk;refine⟨aH,so.filter (fitAt x i),J,SqL.of aM,by omega,λy bo=>by have:=(aG y (List.mem_filter.mp bo).1).2;omega,λpT O bp bq pw=>?_⟩;have aO:=Same.new (o:=.lst (O.map V.str)) bp;refine⟨1,J,pT,O.map V.str,J,J,SqL.of zab,λbr aP=>?_⟩;have bs:=Same.new (o:=.lst (O.map V.str).reverse) aP;refine k br O.reverse _ ((ao.trans aL).trans (aO.trans bs)) (((ao.trans aL).trans aO).free aP) (by rw[zab,List.map_reverse]) ((List.reverse_perm O).trans bq) ?_;rw[List.pairwise_reverse];exact pw.imp λh=>by simpa using h
noncomputable abbrev Stp:=Int×Int×Str×Int×Int
noncomputable def stV(s:Stp):List V:=[.int s.1,.int s.2.1,.str s.2.2.1,.int s.2.2.2.1,.int s.2.2.2.2]
noncomputable def stD(s:Stp):D:=.tup [.int s.1,.int s.2.1,.str s.2.2.1,.int s.2.2.2.1,.int s.2.2.2.2]
noncomputable def stepL(b:Bk)(ds:List LDr)(x:Str)(i:Nat)(m:Str):Stp×List LDr:=
 if (b.getD (zam ds).toNat tg0).1≠Str.ofString ""/\(⟨#[x.cps.getD i 0]⟩:Str)=(b.getD (zam ds).toNat tg0).1 then
  (if i+1=x.length then (((i:Int),1,Str.ofString "cut",zam ds,(ds.length:Int)),ds) else (((i:Int),2,Str.ofString "escape",zam ds,(ds.length:Int)),ds))
 else if m=Str.ofString "" then (((i:Int),1,Str.ofString "sign",zam ds,(ds.length:Int)),ds)
 else if ds≠[]/\m=(ds.getD (ds.length-1) ld0).2.2 then (((i:Int),(m.length:Int),Str.ofString "close",zam ds.dropLast,(ds.length:Int)-1),ds.dropLast)
 else match (b.getD (zam ds).toNat tg0).2.filter (λd=>d.1==m) with
  |d::_=>(((i:Int),(m.length:Int),Str.ofString "open",zam ds,(ds.length:Int)),ds++[((i:Int),d.2.1,d.2.2)])
  |[]=>(((i:Int),0,Str.ofString "",0,0),ds)
theorem zeH{z:Addr}{H:Hp}{q:Addr}{ds:List LDr}{vs:List V}(B:Reps z H vs (ds.map ldD))(J0:0<ds.length):∃ad,atI vs (-1)=some (.ref ad)/\H ad=some (.tup [.int (ds.getD (ds.length-1) ld0).1,.int (ds.getD (ds.length-1) ld0).2.1,.str (ds.getD (ds.length-1) ld0).2.2]):=by
 have D:vs.length=ds.length:=by have:=B.length;simpa using this
 obtain⟨ad,F,L,G⟩:=zdU (zeF (ds:=ds) (i:=ds.length-1) B (by omega));refine⟨ad,?_,G⟩;have I:ixN vs.length (-1)=some (vs.length-1):=by
  unfold ixN;rw[if_neg (by decide),if_pos (by omega)];congr 1;omega
 unfold atI;rw[I];show vs[vs.length-1]?=_;have h1:vs.length-1<vs.length:=by omega
 have h2:vs.getD (vs.length-1) .non=vs[vs.length-1]:=by simp[h1]
 rw[List.getElem?_eq_getElem h1,←h2,D,F]
theorem zcv{ds:List LDr}(h:0<ds.length):zam ds=(ds.getD (ds.length-1) ld0).2.1:=by
 have B:ds.getLast?=some (ds.getD (ds.length-1) ld0):=by
  rw[List.getLast?_eq_getElem?];have:ds.length-1<ds.length:=by omega
  simp[this]
 unfold zam;rw[B]
theorem zba{b:Bk}{ds:List LDr}(D:LdOk b ds)(F:1<=b.length):∃B:Nat,zam ds=(B:Int)/\B<b.length:=by
 unfold zam;cases g:ds.getLast? with
 |none=>exact⟨0,J,by omega⟩
 |some d=>
  have:=(D d (List.mem_of_getLast? g)).1;exact⟨d.2.1.toNat,by show d.2.1=_;omega,by omega⟩
mutual
theorem Rep.butL{z q:Addr}{H H':Hp}{l:List V}(B:H q=some (.lst l))(s:SameX q H H'):∀ {v:V}{d:D},Rep z H v d->NoL d->Rep z H' v d
 |_,_,.non,_=>.non
 |_,_,.bl b,_=>.bl b
 |_,_,.int i,_=>.int i
 |_,_,.str x h,_=>.str x h
 |_,_,.tup h F r,.tup t=>.tup (s _ _ (zao h B (by intro q;cases q)) h) F (Reps.butL B s r t)
theorem Reps.butL{z q:Addr}{H H':Hp}{l:List V}(B:H q=some (.lst l))(s:SameX q H H'):∀ {vs:List V}{ds:List D},Reps z H vs ds->NoLs ds->Reps z H' vs ds
 |_,_,.nil,_=>.nil
 |_,_,.cons h t,.cons h' t'=>.cons (Rep.butL B s h h') (Reps.butL B s t t')
end
theorem zeg{D:Type}(ds:List D)(B:D)(p:D->Bool)(g:Nat->V):∀n,n<=ds.length->((ds.take n).filter p=[]/\flatN (λi=>(if p (ds.getD i B) then some (g i) else none).toList) n=[]) ∨
  ∃d r j,(ds.take n).filter p=d::r/\j<n/\ds.getD j B=d/\(flatN (λi=>(if p (ds.getD i B) then some (g i) else none).toList) n)[0]?=some (g j)
 |0,_=>.inl ⟨by simp,J⟩
 |n+1,h=>by
  have G:n<ds.length:=h;have e:ds.getD n B=ds[n]:=by simp[G]
  have I:(ds.take (n+1)).filter p=(ds.take n).filter p++(if p ds[n] then [ds[n]] else []):=by
   rw[List.take_add_one,List.filter_append,List.getElem?_eq_getElem G];cases F:p ds[n]<;>simp[F]
  have J0:flatN (λi=>(if p (ds.getD i B) then some (g i) else none).toList) (n+1)=flatN (λi=>(if p (ds.getD i B) then some (g i) else none).toList) n++(if p ds[n] then [g n] else []):=by
   simp only[flatN];rw[e];cases F:p ds[n]<;>rfl
  rcases zeg ds B p g n (by omega) with⟨h1,h2⟩|⟨d,r,j,h1,h2,M,L⟩
  .rw[I,J0,h1,h2];cases F:p ds[n] with
   |false=>exact .inl ⟨J,J⟩
   |true=>exact .inr ⟨ds[n],[],n,J,by omega,e,J⟩
  .refine .inr ⟨d,r++(if p ds[n] then [ds[n]] else []),j,by rw[I,h1];rfl,by omega,M,?_⟩;rw[J0,List.getElem?_append_left]
   .exact L
   .exact(List.getElem?_eq_some_iff.mp L).1
theorem Reps.dropLast{z:Addr}{H:Hp}{vs:List V}{ds:List D}(r:Reps z H vs ds):Reps z H vs.dropLast ds.dropLast:=by
 rw[List.dropLast_eq_take,List.dropLast_eq_take,r.length];exact r.take _
inductive zeh:List V->Hp->VK->XK->Prop where
 |mk {vs:List V} {H:Hp} {Q:VK} {E:XK} (z v b q ds x m:_) (i:Nat) (c1:vs=[v,.ref q,.str x,.int i,.str m]) (c2:Bag z H) (c3:q≠z) (c4:Rep z H v (bkD b)) (c5:BkOk b) (c6:LDs z H q ds) (c7:LdOk b ds) (c8:i<x.length) (c9:x.length<=20000) (c10:ds.length<=20000) (c11:(m=Str.ofString ""∨m∈someL b ds)) (c12:∀p H',SameX q H H'->H p=none->H' p=some (.tup (stV (stepL b ds x i m).1))->LDs z H' q (stepL b ds x i m).2->Q (.ref p) H'):zeh vs H Q E
theorem scStepL:zav ["book","doors","text","place","mark","tongue","depth","cut","around","door"] ["book","doors","text","place","mark"] (zag lStep):=⟨J,J,J,by decide +kernel,J,by decide +kernel,by decide +kernel⟩
theorem ndOM2:(["one","mark"]:List Str).Nodup:=by decide +kernel
theorem zjG{f:Addr}{fd:FuncData}(F:Fun K "_law_step" "_law_step" lStep f fd)(T:TxtB mg):FnOk P w K mg base CX0 1 f fd ["book","doors","text","place","mark"] zeh:=by
 refine F.ok scStepL (λvs H Q E h=>?_) (λcdv A outer s H vs Q E aC h=>?_)
 .obtain⟨z,v,b,q,ds,x,m,i,rfl,_⟩:=h;rfl
 .obtain⟨z,v,b,q,ds,x,m,i,rfl,bp,bT,bq,br,⟨vs,L,S⟩,aD,hi,bU,bV,bs,k⟩:=h;obtain⟨a,xs,rfl,bW,ap,bX,R⟩:=zb3 bq;obtain⟨a0,bY,bt,_⟩:=br;have aa:=scStepL.nd;refine⟨_,zac (zan (i:=5) aa J (Or.inl J) zaf)
   (zac (za9 (zau (zcb aC.units0) (pv 1) (zaN zae) (zaz _)) (zai (zan (i:=5) aa J (Or.inl J) (zay zaE (zay zaB (pv 1) (zbK zbd zaf) (λ_ _=>rfl)) zaf (λ_ _=>rfl)))) zaC)
   (zac (zan (i:=6) aa J (Or.inl J) (zar zaF (by rfl) T.len b_len (zaa (pv 1) zae)))
   (zac (za9 (PW.pt (zcE (zau zg4 (zay zaE (zay zaE (pv 0) (pv 5) (λ_ _=>rfl)) zaf (λ_ _=>rfl)) zaH (zaz _)) (zb9 (zau zb8 (zay zkj (pv 2) (pv 3) (λ_ _=>rfl)) (zay zaE (zay zaE (pv 0) (pv 5) (λ_ _=>rfl)) zaf (λ_ _=>rfl)) (zaz _)))))
    (zac (zan (i:=7) aa J (Or.inl J) (zbx zhP (by rfl) T.int zl5 (zaa (zfS zb8 (zax zaT (pv 3) zaf) (zar zap (by rfl) T.len b_len (zaa (pv 2) zae)) (zaz _)) zae)))
    (zai (zaw (zaV (zaa (pv 3) (pa_B (zax zb7 zaf (pv 7)) (zaa (zay zaB (zaN (pa_K zaH (pa_K zaH zae))) (pv 7) (λ_ _=>rfl)) (zaa (pv 5) (zaa (pv 6) zae))))))))) zaC)
   (zac (za9 (zau zb8 (pv 4) zaH (zaz _)) (zai (zaw (zaV (zaa (pv 3) (pa_K zaf (pa_K zaH (zaa (pv 5) (zaa (pv 6) zae)))))))) zaC)
   (zac (za9 (PW.pt (zcE (zau (zcb aC.units0) (pv 1) (zaN zae) (zaz _)) (zb9 (zau zb8 (pv 4) (zay zaE (zay zaB (pv 1) (zbK zbd zaf) (λ_ _=>rfl)) zaf (λ_ _=>rfl)) (zaz _)))))
    (zac (zaP (zgs PySem.F.plainAttrs_list PySem.F.slot_list_pop PySem.F.type_list_pop zhX (pv 1)))
    (zac (zan (i:=8) aa J (Or.inl J) zaf)
    (zac (za9 (zau (zcb aC.units0) (pv 1) (zaN zae) (zaz _)) (zai (zan (i:=8) aa J (Or.inl J) (zay zaE (zay zaB (pv 1) (zbK zbd zaf) (λ_ _=>rfl)) zaf (λ_ _=>rfl)))) zaC)
    (zai (zaw (zaV (zaa (pv 3) (zaa (zar zap (by rfl) T.len b_len (zaa (pv 4) zae)) (pa_K zaH (zaa (pv 8) (pa_B (zax zb7 (pv 6) zaf) zae)))))))))))  zaC)
   (zac (zan (i:=9) aa J (Or.inl J) (zay zaB (za6 (N':=["one","mark"]) (js:=[none,some 4]) J J (zbl (zag lStep) (by decide +kernel)) ⟨J,Or.inr (Or.inl J),J,trivial⟩ (zd8 (zay zaE (zay zaE (pv 0) (pv 5) (λ_ _=>rfl)) zaf (λ_ _=>rfl)))
     (λcl s H fp=>zaq (i:=0) ndOM2 J (Or.inl J)) (λcl s H fp=>zet (zau zb8 (zay zb1 (pv 0) zaf (λ_ _=>rfl)) (pv 1) (zaz _))) (λcl s H fp=>pv 0)) zaf (λ_ _=>rfl)))
   (zac (zaP (zbL PySem.F.plainAttrs_list PySem.F.slot_list_append PySem.F.type_list_append zaK (pv 1) (pa_T (zaV (zaa (pv 3) (zaa (zay zaE (pv 9) zaf (λ_ _=>rfl)) (zaa (zay zaE (pv 9) zaf (λ_ _=>rfl)) zae)))) zae)))
   (zai (zaw (zaV (zaa (pv 3) (zaa (zar zap (by rfl) T.len b_len (zaa (pv 4) zae)) (pa_K zaH (zaa (pv 5) (zaa (pv 6) zae))))))))))))))),?_⟩
  dsimp only[cxOf,Cx.nox,Cx.wish];have bZ:=zaW;have b0:(100000:Nat)<=sizeLine:=by rw[sizeLine_eq];decide
  have U:vs.length=ds.length:=by have:=S.length;simpa using this
  obtain⟨I,aq,a1⟩:=zba aD a0;refine⟨_,J,Nat.zero_le _,λl bu=>?_⟩;have B:=Same.new (o:=.lst []) bu;refine⟨q,l,vs,J,J,B _ _ L,zab,_,J,?_⟩;generalize upd H l (.lst [])=H1 at B;have a2:(zam ds).toNat=I:=by rw[aq];rfl
  have aE:=bt _ (zaR tg0 a1);obtain⟨c,d,ys,bv,b1,b2,ar,ag,aF,a3⟩:=zbq ((zbi (b:=b) (i:=I) R a1).mono B.x);have as:xs[I]?=some (.ref c):=by
   have h1:I<xs.length:=by omega
   have h2:xs.getD I .non=xs[I]:=by simp[h1]
   rw[List.getElem?_eq_getElem h1,←h2,bv]
  have aF:ys.length=(b.getD I tg0).2.length:=aF;have a4:m=Str.ofString ""∨m∈zaJ (b.getD I tg0).2∨m∈(lastL ds).map (·.2.2):=by
   rcases bs with h|h
   .exact .inl h
   .unfold someL at h;rw[a2] at h;exact .inr (List.mem_append.mp h)
  unfold stepL at k;rw[a2,aq] at k;generalize b3:b.getD I tg0=tt at *;have b4:=aE.2.1;have a5:x.cps.toList[i]?=some (x.cps.getD i 0):=by
   have:i<x.cps.size:=hi;simp[Array.getD,this]
  have b5:m.length<=1000:=by
   rcases a4 with rfl|h|h
   .decide +kernel
   .obtain⟨dd,O,rfl⟩:=List.mem_map.mp h;have:=(zby (aE.2.2 dd O).1).1;omega
   .obtain⟨dd,O,rfl⟩:=List.mem_map.mp h;have:=(aD dd (List.mem_of_mem_drop O)).2.2;omega
  refine zeG (G:=?G) (λaG g=>?g1) (λaG g=>?g2) ?g3
  case g1=>
   have W:0<ds.length:=by
    cases vs with
    |nil=>simp at aG
    |cons _ _=>simp at U;omega
   obtain⟨ad,ah,ai⟩:=zeH (q:=q) (S.mono B.x) W;refine⟨_,J,1,J,q,vs,-1,_,J,J,SqL.of (B _ _ L),ah,ad,_,1,_,J,J,SqT.of ai,zal (j:=1) J,?_⟩;have aH:=zcv W;show (tSeq _ _) _ [some (.ref a),some (.ref q),some (.str x),some (.int i),some (.str m),some (.int (ds.getD (ds.length-1) ld0).2.1),none,none,none,none] _;rw[←aH,aq];exact g.out
  case g2=>
   have bw:ds.length=0:=by
    cases vs with
    |nil=>simp at U;omega
    |cons _ _=>simp at aG
   have aH:(some (V.int 0):Option V)=some (V.int (I:Int)):=by
    rw[←aq];unfold zam;have:ds=[]:=List.eq_nil_of_length_eq_zero bw;rw[this];rfl
   show (tSeq _ _) _ [some (.ref a),some (.ref q),some (.str x),some (.int i),some (.str m),some (.int 0),none,none,none,none] _;rw[aH];exact g.out
  case g3=>
   refine⟨_,J,q,vs,J,.inl (SqL.of (B _ _ L)),?_⟩;refine⟨_,J,_,J,a,xs,I,_,J,J,SqT.of (B _ _ ap),zal as,c,_,0,_,J,J,SqT.of ar,zal (j:=0) J,J,_,J,?_⟩;by_cases aj:tt.1≠Str.ofString ""/\(⟨#[x.cps.getD i 0]⟩:Str)=tt.1
   .rw[if_pos aj] at k;have bx:(!decide (V.str tt.1=V.str (Str.ofString "")))=true:=by
     have:¬(V.str tt.1=V.str (Str.ofString "")):=λq=>aj.1 (by injection q);rw[decide_eq_false this];rfl
    rw[bx];refine iteT ⟨_,J,_,J,x,i,_,J,J,by omega,zal a5,_,J,_,J,a,xs,I,_,J,J,SqT.of (B _ _ ap),zal as,c,_,0,_,J,J,SqT.of ar,zal (j:=0) J,J,_,J,?_⟩;rw[aj.2,decide_eq_true rfl];refine iteT ⟨_,J,(i:Int),1,J,J,_,J,x,J,by omega,J,.inr ⟨_,J,?_⟩⟩;by_cases aI:i+1=x.length
    .rw[if_pos aI] at k;have aJ:decide (V.int ((i:Int)+1)=V.int (x.length:Int))=true:=by
      have:((i:Int)+1)=(x.length:Int):=by omega
      rw[this];simp
     rw[aJ];refine⟨_,J,_,J,2,1,J,J,by show (2:Nat)<=_;omega,λab ac=>⟨_,J,ab,_,1,_,J,J,SqL.of zab,zal (j:=1) J,_,J,_,J,by show (5:Nat)<=_;omega,λp J0=>?_⟩⟩;have D:=(Same.new (o:=.lst [.str (Str.ofString "escape"),.str (Str.ofString "cut")]) ac);have M:=D.trans (Same.new (o:=.tup [.int i,.int (2-1),.str (Str.ofString "cut"),.int I,.int vs.length]) J0);refine k p _ (B.trans M).x ((B.trans D).free J0) ?_ ⟨vs,(B.trans M) _ _ L,S.mono (B.trans M).x⟩;rw[zab,U];rfl
    .rw[if_neg aI] at k;have aJ:decide (V.int ((i:Int)+1)=V.int (x.length:Int))=false:=by
      have:¬(V.int ((i:Int)+1)=V.int (x.length:Int)):=λq=>aI (by injection q with q;omega);exact decide_eq_false this
     rw[aJ];refine⟨_,J,_,J,2,0,J,J,by show (2:Nat)<=_;omega,λab ac=>⟨_,J,ab,_,0,_,J,J,SqL.of zab,zal (j:=0) J,_,J,_,J,by show (5:Nat)<=_;omega,λp J0=>?_⟩⟩;have D:=(Same.new (o:=.lst [.str (Str.ofString "escape"),.str (Str.ofString "cut")]) ac);have M:=D.trans (Same.new (o:=.tup [.int i,.int (2-0),.str (Str.ofString "escape"),.int I,.int vs.length]) J0);refine k p _ (B.trans M).x ((B.trans D).free J0) ?_ ⟨vs,(B.trans M) _ _ L,S.mono (B.trans M).x⟩;rw[zab,U];rfl
   .rw[if_neg aj] at k;refine zgz (λa6 g=>?_) ?_
    .refine⟨_,J,_,J,x,i,_,J,J,by omega,zal a5,_,J,_,J,a,xs,I,_,J,J,SqT.of (B _ _ ap),zal as,c,_,0,_,J,J,SqT.of ar,zal (j:=0) J,J,_,J,?_⟩;have au:decide (V.str (⟨#[x.cps.getD i 0]⟩:Str)=V.str tt.1)=false:=by
      have:¬(V.str (⟨#[x.cps.getD i 0]⟩:Str)=V.str tt.1):=λq=>aj ⟨λbz=>by rw[bz] at a6;simp at a6,by injection q⟩;exact decide_eq_false this
     rw[au];exact g.out
    .refine iteF ⟨_,J,J,_,J,?_⟩;by_cases ak:m=Str.ofString ""
     .rw[if_pos ak] at k;rw[ak,decide_eq_true rfl];refine iteT ⟨_,J,_,J,_,J,by show (5:Nat)<=_;omega,λp J0=>?_⟩;have M:=Same.new (o:=.tup [.int i,.int 1,.str (Str.ofString "sign"),.int I,.int vs.length]) J0;refine k p _ (B.trans M).x (B.free J0) ?_ ⟨vs,(B.trans M) _ _ L,S.mono (B.trans M).x⟩;rw[zab,U];rfl
     rw[if_neg ak] at k;have bA:decide (V.str m=V.str (Str.ofString ""))=false:=by
      have:¬(V.str m=V.str (Str.ofString "")):=λq=>ak (by injection q);exact decide_eq_false this
     rw[bA];refine iteF ⟨_,J,Nat.zero_le _,λab ac=>?_⟩;have D:=B.trans (Same.new (o:=.lst []) ac);have Z:=Same.new (o:=.lst []) ac;refine⟨q,ab,vs,J,J,D _ _ L,zab,_,J,?_⟩;have bB:∀av o,H1 av=some o->upd H1 ab (.lst []) av=some o:=λav o e=>Z av o e;generalize upd H1 ab (.lst [])=H2 at D Z bB;by_cases ae:ds≠[]/\m=(ds.getD (ds.length-1) ld0).2.2
     .rw[if_pos ae] at k;have W:0<ds.length:=List.length_pos_iff.mpr ae.1;have bC:(!vs.isEmpty)=true:=by
       cases vs with
       |nil=>simp at U;omega
       |cons _ _=>rfl
      rw[bC];obtain⟨ad,ah,ai⟩:=zeH (q:=q) (S.mono D.x) W;refine iteT ⟨_,J,_,J,1,J,q,vs,-1,_,J,J,SqL.of (D _ _ L),ah,ad,_,2,_,J,J,SqT.of ai,zal (j:=2) J,J,_,J,?_⟩;rw[←ae.2,decide_eq_true rfl];refine iteT ⟨_,J,.inl ⟨J,_,SqL.of (D _ _ L)⟩,q,vs,_,J,J,D _ _ L,zil (by omega),?_⟩;have al:upd H2 q (.lst vs.dropLast) q=some (.lst vs.dropLast):=zab;have a7:Reps z (upd H2 q (.lst vs.dropLast)) vs.dropLast (ds.dropLast.map ldD):=by
       rw[List.map_dropLast];exact Reps.updL (D _ _ L) (S.mono D.x).dropLast (by rw[←List.map_dropLast];exact zbr _)
      have a8:SameX q H (upd H2 q (.lst vs.dropLast)):=D.x.upd;generalize upd H2 q (.lst vs.dropLast)=a9 at al a7 a8;refine⟨_,J,Nat.zero_le _,λaK bD=>?_⟩;have aw:=Same.new (o:=.lst []) bD;refine⟨q,aK,vs.dropLast,J,J,aw _ _ al,zab,_,J,?_⟩;have ax:=aw _ _ al;have aL:=a7.mono aw.x (z:=z);have aM:SameX q H (upd a9 aK (.lst [])):=a8.trans aw.x;generalize upd a9 aK (.lst [])=b6 at ax aL aM;obtain⟨ba,aN,_⟩:=zba (b:=b) (ds:=ds.dropLast) (λd ag=>aD d (List.dropLast_subset _ ag)) a0;rw[aN] at k;have bb:vs.dropLast.length=ds.dropLast.length:=by simp;omega
      have bE:(!vs.dropLast.isEmpty)=true->0<ds.dropLast.length:=λY=>by
       rw[←bb];cases hv2:vs.dropLast with
       |nil=>rw[hv2] at Y;simp at Y
       |cons _ _=>simp
      have bF:¬(!vs.dropLast.isEmpty)=true->ds.dropLast.length=0:=λY=>by
       rw[←bb];cases hv2:vs.dropLast with
       |nil=>rfl
       |cons _ _=>rw[hv2] at Y;simp at Y
      refine zeG (G:=?G2) (λY g=>?h1) (λY g=>?h2) ?h3
      case h1=>
       have bc:=bE Y;obtain⟨bG,bH,bI⟩:=zeH (q:=q) aL bc;refine⟨_,J,1,J,q,_,-1,_,J,J,SqL.of ax,bH,bG,_,1,_,J,J,SqT.of bI,zal (j:=1) J,?_⟩;have aO:=zcv bc;rw[←aO,aN];exact g.out
      case h2=>
       have bJ:=bF Y;have aO:(some (V.int 0):Option V)=some (V.int (ba:Int)):=by
        rw[←aN];unfold zam;have:ds.dropLast=[]:=List.eq_nil_of_length_eq_zero bJ;rw[this];rfl
       rw[aO];exact g.out
      case h3=>
       refine⟨_,J,_,J,m,J,by omega,_,J,_,J,_,_,J,J,by show (5:Nat)<=_;omega,λp J0=>?_⟩;have aP:H p=none:=by
        cases e:H p with
        |none=>rfl
        |some o=>
         have aQ:p≠q:=(zad ax J0).symm;rw[aM p o aQ e] at J0;cases J0
       have aR:=Same.new (o:=.tup [.int i,.int m.length,.str (Str.ofString "close"),.int ba,.int ((vs.length:Int)-1)]) J0;refine k p _ (aM.trans aR.x) aP ?_ ⟨_,aR _ _ ax,aL.mono aR.x⟩;rw[zab,U];rfl
     .rw[if_neg ae] at k;refine zgz (λaS g=>?_) ?_
      .have W:0<ds.length:=by
        cases vs with
        |nil=>simp at aS
        |cons _ _=>simp at U;omega
       obtain⟨ad,ah,ai⟩:=zeH (q:=q) (S.mono D.x) W;refine⟨_,J,_,J,1,J,q,vs,-1,_,J,J,SqL.of (D _ _ L),ah,ad,_,2,_,J,J,SqT.of ai,zal (j:=2) J,J,_,J,?_⟩;have bK:decide (V.str m=V.str (ds.getD (ds.length-1) ld0).2.2)=false:=by
        have:¬(V.str m=V.str (ds.getD (ds.length-1) ld0).2.2):=λq=>ae ⟨List.length_pos_iff.mp W,by injection q⟩;exact decide_eq_false this
       rw[bK];exact g.out
      .have bL:m∈zaJ tt.2:=by
        rcases a4 with h|h|h
        .exact absurd h ak
        .exact h
        .exfalso;obtain⟨dd,O,ay⟩:=List.mem_map.mp h;unfold lastL at O;have W:0<ds.length:=by
          cases ds with
          |nil=>simp at O
          |cons _ _=>simp
         have:ds.drop (ds.length-1)=[ds.getD (ds.length-1) ld0]:=by
          have bd:ds.length-1<ds.length:=by omega
          rw[List.drop_eq_getElem_cons bd];have:ds.length-1+1=ds.length:=by omega
          rw[this,List.drop_length];simp[bd]
         rw[this] at O;have:dd=ds.getD (ds.length-1) ld0:=by simpa using O
         rw[this] at ay;exact ae ⟨List.length_pos_iff.mp W,ay.symm⟩
       refine iteF ?_;refine⟨_,J,_,J,a,xs,I,_,J,J,SqT.of (D _ _ ap),zal as,c,_,1,_,J,J,SqT.of (Z _ _ ar),zal (j:=1) J,d,J,⟨_,SqT.of (Z _ _ ag)⟩,λbe bf=>?_⟩;have bg:d≠be:=zad (Z _ _ ag) bf;refine zbE (λj=>if (tt.2.getD j dr0).1==m then some (ys.getD j .non) else none) (λσ=>∃v,σ=[v,some (.str m)]) ⟨none,J⟩ bf (by omega) (zev (xs:=ys) (by rw[zah bg];exact Z _ _ ag) bg) (λj σ am C b7 ⟨v,aS⟩ bM bN=>?_) (λσ am bh bi=>?_)
       .subst aS;obtain⟨bj,au,b8,al⟩:=zck ((zbV (ds:=tt.2) (i:=j) a3 (by omega)).mono (Z.trans bM).x);have az:=bN [some (.ref bj),some (.str m)] am ⟨_,J⟩ (Same.refl _);rw[au];refine⟨_,J,bj,_,0,_,J,J,SqT.of al,zal (j:=0) J,_,J,J,_,J,?_⟩;rw[zfR];show if ((tt.2.getD j dr0).1==m)=true then _ else _;cases g:(tt.2.getD j dr0).1==m with
        |true=>
         rw[g,if_pos J,au] at az;exact iteT ⟨_,J,az⟩
        |false=>
         rw[g,if_neg (by simp)] at az;exact iteF az
       rw[aF] at bi;rcases zeg tt.2 dr0 (λd=>d.1==m) (λj=>ys.getD j .non) tt.2.length (Nat.le_refl _) with⟨h1,h2⟩|⟨d',b9,af,h1,h2,h3,aA⟩
       .exfalso;rw[List.take_length] at h1;obtain⟨dd,O,ay⟩:=List.mem_map.mp bL;have:dd∈tt.2.filter (λd=>d.1==m):=List.mem_filter.mpr ⟨O,by simpa using ay⟩;rw[h1] at this;cases this
       rw[List.take_length] at h1;rw[h1] at k;dsimp only at k;have aT:=D.trans bh;have bO:=Z.trans bh;obtain⟨aU,bP,ca,ao⟩:=zck ((zbV (ds:=tt.2) (i:=af) a3 h2).mono bO.x);have h3:tt.2.getD af dr0=d':=h3;have ao:am aU=some (.tup [.str (tt.2.getD af dr0).1,.int (tt.2.getD af dr0).2.1,.str (tt.2.getD af dr0).2.2]):=ao;rw[h3] at ao;have aA:(flatN (λi=>(if (tt.2.getD i dr0).1==m then some (ys.getD i .non) else none).toList) tt.2.length)[0]?=some (ys.getD af .non):=aA;rw[bP] at aA;refine⟨be,_,0,_,J,J,SqL.of bi,zal (j:=0) aA,?_⟩;have bk:=aT _ _ L;refine⟨_,J,.inl ⟨J,_,SqL.of bk⟩,_,J,_,J,aU,_,1,_,J,J,SqT.of ao,zal (j:=1) J,_,J,aU,_,2,_,J,J,SqT.of ao,zal (j:=2) J,by show (3:Nat)<=_;omega,λpt bl=>?_⟩;have bm:=Same.new (o:=.tup [.int i,.int d'.2.1,.str d'.2.2]) bl;have bn:upd am pt (.tup [.int i,.int d'.2.1,.str d'.2.2]) pt=some (.tup [.int i,.int d'.2.1,.str d'.2.2]):=zab;have aV:=bm _ _ bk;have aW:=aT.trans bm;have bQ:pt≠z:=(bp.same aT).ne bl;generalize upd am pt (.tup [.int i,.int d'.2.1,.str d'.2.2])=aB at bn aV aW;refine⟨q,vs,_,J,J,aV,by omega,?_⟩;have bR:d'.2.2.length<=1000:=by
        have bS:d'∈tt.2:=(List.mem_filter.mp (by rw[h1];exact List.mem_cons_self)).1;have:=(zby (aE.2.2 d' bS).2.2).1;omega
       have bo:Reps z (upd aB q (.lst (vs++[.ref pt]))) (vs++[.ref pt]) ((ds++[((i:Int),d'.2.1,d'.2.2)]).map ldD):=by
        refine Reps.updL aV ?_ (zbr _);rw[List.map_append];exact(S.mono aW.x).append (.cons (.tup bn bQ (.cons (.int _) (.cons (.int _) (.cons (.str _ bR) .nil)))) .nil)
       have aX:upd aB q (.lst (vs++[.ref pt])) q=some (.lst (vs++[.ref pt])):=zab;have aY:SameX q H (upd aB q (.lst (vs++[.ref pt]))):=aW.x.upd;generalize upd aB q (.lst (vs++[.ref pt]))=cb at bo aX aY;refine⟨_,J,_,J,m,J,by omega,_,J,_,J,by show (5:Nat)<=_;omega,λp J0=>?_⟩;have aP:H p=none:=by
        cases e:H p with
        |none=>rfl
        |some o=>
         have aQ:p≠q:=(zad aX J0).symm;rw[aY p o aQ e] at J0;cases J0
       have aZ:=Same.new (o:=.tup [.int i,.int m.length,.str (Str.ofString "open"),.int I,.int vs.length]) J0;refine k p _ (aY.trans aZ.x) aP ?_ ⟨_,aZ _ _ aX,bo.mono aZ.x⟩;rw[zab,U];rfl
noncomputable abbrev eS:Str:=⟨#[]⟩
noncomputable def zdV(l:List Str):Str:=l.foldl (λB m=>if B.length<m.length then m else B) eS
theorem zfv:∀(l:List Str) (B:Str),let r:=l.foldl (λB m=>if B.length<m.length then m else B) B
  (r=B∨r∈l)/\B.length<=r.length/\∀m∈l,m.length<=r.length
 |[],B=>⟨.inl J,Nat.le_refl _,λm hm=>nomatch hm⟩
 |a::l,B=>by
  have F:=zfv l (if B.length<a.length then a else B);obtain⟨h1,h2,D⟩:=F;simp only[List.foldl_cons];by_cases h:B.length<a.length
  .rw[if_pos h] at h1 h2 D ⊢;refine⟨?_,by omega,λm hm=>?_⟩
   .rcases h1 with h1|h1
    .exact .inr (by rw[h1];exact List.mem_cons_self)
    .exact .inr (List.mem_cons_of_mem _ h1)
   .rcases List.mem_cons.mp hm with rfl|hm
    .exact h2
    .exact D m hm
  .rw[if_neg h] at h1 h2 D ⊢;refine⟨?_,h2,λm hm=>?_⟩
   .rcases h1 with h1|h1
    .exact .inl h1
    .exact .inr (List.mem_cons_of_mem _ h1)
   .rcases List.mem_cons.mp hm with rfl|hm
    .omega
    .exact D m hm
theorem zbs{l:List Str}(D:∀m∈l,Sm m):(l=[]/\zdV l=eS)∨(zdV l∈l/\∀m∈l,m.length<=(zdV l).length):=by
 obtain⟨h1,h2,B⟩:=zfv l eS;cases l with
 |nil=>exact .inl ⟨J,J⟩
 |cons a r=>
  refine .inr ⟨?_,B⟩;rcases h1 with h1|h1
  .exfalso;have:=B a List.mem_cons_self;have g:=(D a List.mem_cons_self).1;rw[h1] at this;have:a.length<=0:=this;omega
  .exact h1
theorem zks{x:Str}{i:Nat}{m B:Str}(h:fitAt x i m=true)(h':fitAt x i B=true)(D:m.length=B.length):m=B:=by
 have a:=of_decide_eq_true h;have c:=of_decide_eq_true h';rw[D] at a;have:V.str m=V.str B:=a.symm.trans c;injection this
theorem zdW{x:Str}{i:Nat}{l ys:List Str}(G:∀m∈l,Sm m)(D:∀m∈l,fitAt x i m=true)(B:ys.Perm l)(hw:ys.Pairwise (λa c=>c.length<=a.length)):ys.headD eS=zdV l:=by
 rcases zbs G with⟨h1,h2⟩|⟨h1,h2⟩
 .subst h1;have:ys=[]:=List.Perm.eq_nil B;subst this;rfl
 .cases ys with
  |nil=>
   have:l=[]:=List.Perm.eq_nil B.symm;rw[this] at h1;cases h1
  |cons a r=>
   show a=_;have F:a∈l:=B.mem_iff.mp List.mem_cons_self;have hb:zdV l∈a::r:=B.mem_iff.mpr h1;have I:=h2 a F;have J0:(zdV l).length<=a.length:=by
    rcases List.mem_cons.mp hb with e|hb
    .rw[e];exact Nat.le_refl _
    .exact(List.pairwise_cons.mp hw).1 _ hb
   exact zks (D a F) (D _ h1) (by omega)
noncomputable def bestL(b:Bk)(ds:List LDr)(x:Str)(i:Nat):Str:=zdV (fitL b ds x i)
structure RunSt where
 at_:Nat
 ds:List LDr
 ss:List Stp
noncomputable def zaQ(b:Bk)(x:Str)(r:RunSt):RunSt:=
 if r.at_<x.length then ⟨r.at_+((stepL b r.ds x r.at_ (bestL b r.ds x r.at_)).1.2.1).toNat,(stepL b r.ds x r.at_ (bestL b r.ds x r.at_)).2,r.ss++[(stepL b r.ds x r.at_ (bestL b r.ds x r.at_)).1]⟩ else r
noncomputable def runF(b:Bk)(x:Str):Nat->RunSt
 |0=>⟨0,[],[]⟩
 |n+1=>zaQ b x (runF b x n)
noncomputable def LdBk(b:Bk)(ds:List LDr):Prop:=∀d∈ds,∃t∈b,∃B∈t.2,d.2.1=B.2.1/\d.2.2=B.2.2
theorem LdBk.ok{b:Bk}{ds:List LDr}(h:LdBk b ds)(B:∀t∈b,TgOk b.length t):LdOk b ds:=λd D=>by
 obtain⟨t,F,G,I,J0,L⟩:=h d D;obtain⟨R,M,O⟩:=(B t F).2.2 G I;have g:=zby O;rw[J0,L];exact⟨M,g.2,g.1⟩
theorem zb4{b:Bk}{ds:List LDr}{x:Str}{i:Nat}(F:∀t∈b,TgOk b.length t)(G:LdOk b ds):∀m∈someL b ds,Sm m:=λm hm=>by
 unfold someL at hm;rcases List.mem_append.mp hm with hm|hm
 .obtain⟨dd,B,rfl⟩:=List.mem_map.mp hm;by_cases D:(zam ds).toNat<b.length
  .have g:=zby ((F _ (zaR tg0 D)).2.2 dd B).1;exact⟨g.2,g.1⟩
  .have e:b.getD (zam ds).toNat tg0=tg0:=by simp[D]
   rw[e] at B;cases B
 .obtain⟨dd,B,rfl⟩:=List.mem_map.mp hm;exact(G dd (List.mem_of_mem_drop B)).2
theorem zei{ds:List LDr}{m:Str}(h:m∈(lastL ds).map (·.2.2)):ds≠[]/\m=(ds.getD (ds.length-1) ld0).2.2:=by
 obtain⟨dd,B,D⟩:=List.mem_map.mp h;unfold lastL at B;have G:0<ds.length:=by
  cases ds with
  |nil=>simp at B
  |cons _ _=>simp
 have:ds.drop (ds.length-1)=[ds.getD (ds.length-1) ld0]:=by
  have F:ds.length-1<ds.length:=by omega
  rw[List.drop_eq_getElem_cons F];have:ds.length-1+1=ds.length:=by omega
  rw[this,List.drop_length];simp[F]
 rw[this] at B;have:dd=ds.getD (ds.length-1) ld0:=by simpa using B
 rw[this] at D;exact⟨List.length_pos_iff.mp G,D.symm⟩
theorem zf3{x m:Str}{i:Nat}(h:fitAt x i m=true)(hi:i<=x.length):i+m.length<=x.length:=by
 have a:=of_decide_eq_true h;have a:cutS x (some (i:Int)) (some ((i:Int)+m.length))=m:=by injection a
 have B:(cutS x (some (i:Int)) (some ((i:Int)+m.length))).length=m.length:=by rw[a]
 have e:((i:Int)+(m.length:Int))=((i+m.length:Nat):Int):=by omega
 rw[e] at B;unfold cutS at B;have B:(List.toArray ((x.cps.toList.drop (HT.sIx x.length 0 (some (i:Int)))).take (HT.sIx x.length x.length (some ((i+m.length:Nat):Int))-HT.sIx x.length 0 (some (i:Int))))).size=m.length:=B;rw[List.size_toArray,List.length_take,List.length_drop,HT.sIx_nat,HT.sIx_nat] at B;have:x.cps.toList.length=x.length:=by simp;rfl
 omega
theorem zaM{b:Bk}{ds:List LDr}{x:Str}{i:Nat}(J0:∀t∈b,TgOk b.length t)(B:LdBk b ds)(S:1<=b.length)(hi:i<x.length) :
  let r:=stepL b ds x i (bestL b ds x i)
  1<=r.1.2.1/\r.1.2.1<=4/\(i:Int)+r.1.2.1<=x.length/\LdBk b r.2/\r.2.length<=ds.length+1/\r.1.2.2.1.length<=10:=by
 have L:=B.ok J0;obtain⟨F,U,V⟩:=zba L S;have M:(zam ds).toNat=F:=by rw[U];rfl
 have O:=zb4 (x:=x) (i:=i) J0 L;have W:=zbs (l:=fitL b ds x i) λm G=>O m (List.mem_filter.mp G).1;have Y:∀m,m≠Str.ofString ""->m=bestL b ds x i->m∈someL b ds/\fitAt x i m=true:=λm Z e=>by
  rcases W with⟨_,h2⟩|⟨h1,_⟩
  .exfalso;apply Z;rw[e];unfold bestL;rw[h2,za3]
  .rw[e];exact List.mem_filter.mp h1
 intro r;show 1<=r.1.2.1/\_;have R:r=stepL b ds x i (bestL b ds x i):=rfl;generalize G:bestL b ds x i=m at R;rw[R];unfold stepL;rw[M];have aa:=zaR tg0 V;split
 .split
  .exact⟨by show (1:Int)<=1;decide,by show (1:Int)<=4;decide,by show (i:Int)+1<=_;omega,B,by show ds.length<=_;omega,by show (Str.ofString "cut").length<=10;decide +kernel⟩
  .exact⟨by show (1:Int)<=2;decide,by show (2:Int)<=4;decide,by show (i:Int)+2<=_;omega,B,by show ds.length<=_;omega,by show (Str.ofString "escape").length<=10;decide +kernel⟩
 .split
  .exact⟨by show (1:Int)<=1;decide,by show (1:Int)<=4;decide,by show (i:Int)+1<=_;omega,B,by show ds.length<=_;omega,by show (Str.ofString "sign").length<=10;decide +kernel⟩
  .rename_i ab;obtain⟨D,ac⟩:=Y m ab G.symm;obtain⟨ag,ah⟩:=O m D;have ai:=zf3 ac (by omega);split
   .refine⟨by show (1:Int)<=m.length;omega,by show (m.length:Int)<=4;omega,by show (i:Int)+m.length<=_;omega,λd hdd=>B d (List.dropLast_subset _ hdd),by show ds.dropLast.length<=_;simp;omega,by show (Str.ofString "close").length<=10;decide +kernel⟩
   .rename_i ad;split
    .rename_i d aj I;have ae:d∈(b.getD F tg0).2:=(List.mem_filter.mp (by rw[I];exact List.mem_cons_self)).1;refine⟨by show (1:Int)<=m.length;omega,by show (m.length:Int)<=4;omega,by show (i:Int)+m.length<=_;omega,λd' hdd=>?_,by show (ds++[_]).length<=_;simp,by show (Str.ofString "open").length<=10;decide +kernel⟩;rcases List.mem_append.mp hdd with hdd|hdd
     .exact B d' hdd
     .have:d'=((i:Int),d.2.1,d.2.2):=by simpa using hdd
      subst this;exact⟨_,aa,d,ae,J,J⟩
    .rename_i I;exfalso;unfold someL at D;rw[M] at D;rcases List.mem_append.mp D with h|h
     .obtain⟨dd,hdd,af⟩:=List.mem_map.mp h;have:dd∈(b.getD F tg0).2.filter (λd=>d.1==m):=List.mem_filter.mpr ⟨hdd,by simpa using af⟩;rw[I] at this;cases this
     .exact ad (zei h)
theorem zaO:∀B:List Stp,NoLs (B.map stD)
 |[]=>.nil
 |d::r=>.cons (.tup (.cons (.int _) (.cons (.int _) (.cons (.str _) (.cons (.int _) (.cons (.int _) .nil)))))) (zaO r)
theorem zeI(ys:List Str):cutV (ys.map V.str) none (some (1:Int))=(ys.take 1).map V.str:=by
 unfold cutV;have e:HT.sIx (ys.map V.str).length (ys.map V.str).length (some (1:Int))=min 1 (ys.map V.str).length:=HT.sIx_nat _ _ 1;rw[e,HT.sIx_none,List.drop_zero,List.map_take];cases ys<;>simp
structure RunOk(b:Bk)(x:Str)(r:RunSt):Prop where
 le:r.at_<=x.length
 bk:LdBk b r.ds
 dl:r.ds.length<=r.at_
 sl:r.ss.length<=r.at_
theorem zaX{b:Bk}{x:Str}(D:∀t∈b,TgOk b.length t)(F:1<=b.length):∀n,RunOk b x (runF b x n)
 |0=>⟨Nat.zero_le _,(λd G=>nomatch G),Nat.zero_le _,Nat.zero_le _⟩
 |n+1=>by
  have B:=zaX D F (x:=x) n;show RunOk b x (zaQ b x (runF b x n));unfold zaQ;split
  .rename_i h;obtain⟨h1,h2,J0,I,L,M⟩:=zaM (x:=x) D B.bk F h;have O:=B.dl;have R:=B.sl;refine⟨?_,I,?_,?_⟩
   .show (runF b x n).at_+_<=_;omega
   .show (stepL b (runF b x n).ds x (runF b x n).at_ (bestL b (runF b x n).ds x (runF b x n).at_)).2.length<=(runF b x n).at_+_;omega
   .show ((runF b x n).ss++[_]).length<=(runF b x n).at_+_;rw[List.length_append];show _+1<=_;omega
  .exact B
theorem zdf{b:Bk}{x:Str}{n:Nat}(h:(runF b x n).at_<x.length):runF b x (n+1)=⟨(runF b x n).at_+((stepL b (runF b x n).ds x (runF b x n).at_ (bestL b (runF b x n).ds x (runF b x n).at_)).1.2.1).toNat,(stepL b (runF b x n).ds x (runF b x n).at_ (bestL b (runF b x n).ds x (runF b x n).at_)).2,(runF b x n).ss++[(stepL b (runF b x n).ds x (runF b x n).at_ (bestL b (runF b x n).ds x (runF b x n).at_)).1]⟩:=by
 show zaQ b x (runF b x n)=_;unfold zaQ;rw[if_pos h]
theorem zbX{b:Bk}{x:Str}{n:Nat}(h:(runF b x n).at_<x.length):(runF b x (n+1)).ds=(stepL b (runF b x n).ds x (runF b x n).at_ (bestL b (runF b x n).ds x (runF b x n).at_)).2:=by rw[zdf h]
theorem zbz{b:Bk}{x:Str}{n:Nat}(h:(runF b x n).at_<x.length):(runF b x (n+1)).ss=(runF b x n).ss++[(stepL b (runF b x n).ds x (runF b x n).at_ (bestL b (runF b x n).ds x (runF b x n).at_)).1]:=by rw[zdf h]
inductive zeJ:List V->Hp->VK->XK->Prop where
 |mk {vs:List V} {H:Hp} {Q:VK} {E:XK} (z v b x:_) (c1:vs=[v,.str x]) (c2:Bag z H) (c3:Rep z H v (bkD b)) (c4:BkOk b) (c5:x.length<=20000) (c6:∀p pf pd n H',Same H H'->H' p=some (.lst [.ref pf,.ref pd])->(runF b x n).at_=x.length->Rep z H' (.ref pf) (.lst ((runF b x n).ss.map stD))->LDs z H' pd (runF b x n).ds->Q (.ref p) H'):zeJ vs H Q E
theorem scSteps:zav ["book","text","doors","found","place","marks"] ["book","text"] (zag zit):=⟨J,J,J,by decide +kernel,J,by decide +kernel,by decide +kernel⟩
theorem ziv{f ac ad:Addr}{fd ay az:FuncData}(F:Fun K "_law_steps" "_law_steps" zit f fd)(T:TxtB mg)(aV:W.keepIn K (.ref ac)=true)(ae:Binds K ay ["book","doors","text","place"] [])(aW:mg "_law_fitting"=some (.ref ac))(aX:FnOk P w K mg base CX0 1 ac ay ["book","doors","text","place"] zbW)(aY:W.keepIn K (.ref ad)=true)(aZ:Binds K az ["book","doors","text","place","mark"] [])(a0:mg "_law_step"=some (.ref ad))(a1:FnOk P w K mg base CX0 1 ad az ["book","doors","text","place","mark"] zeh):FnOk P w K mg base CX0 2 f fd ["book","text"] zeJ:=by
 refine F.ok scSteps (λvs H Q E h=>?_) (λcdv A outer s H vs Q E aA h=>?_)
 .obtain⟨z,v,b,x,rfl,_⟩:=h;rfl
 .obtain⟨z,v,b,x,rfl,af,R,ag,aB,k⟩:=h;have a2:=ag;obtain⟨aC,bD,Y,_⟩:=a2;have O:=scSteps.nd;refine⟨_,zac (zan (i:=2) O J (Or.inl J) (zaN zae))
   (zac (zan (i:=3) O J (Or.inl J) (zaN zae))
   (zac (zan (i:=4) O J (Or.inl J) zaf)
   (zac (zbM PassesOwn.never (zau zd6 (pv 4) (zar zap (by rfl) T.len b_len (zaa (pv 1) zae)) (zaz _))
    (zac (zan (i:=5) O J (Or.inl J) (zat aX aA J aW aV ae .nil pass0 (zaa (pv 0) (zaa (pv 2) (zaa (pv 1) (zaa (pv 4) zae))))))
    (zac (zaP (zbL PySem.F.plainAttrs_list PySem.F.slot_list_append PySem.F.type_list_append zaK (pv 3) (zaa (zat a1 aA J a0 aY aZ .nil pass0 (zaa (pv 0) (zaa (pv 2) (zaa (pv 1) (zaa (pv 4) (zaa (zbL PySem.F.plainAttrs_str PySem.F.slot_str_join PySem.F.type_str_join zdm zaH (zaa (zaA zbQ (pv 5) zaL (zaD zaf)) zae)) zae)))))) zae)))
    (zai (zan (i:=4) O J (Or.inl J) (zax zaT (pv 4) (zay zaE (zay zaB (pv 3) (zbK zbd zaf) (λ_ _=>rfl)) zaf (λ_ _=>rfl))))))))
   (zai (zaw (zaN (zaa (pv 3) (zaa (pv 2) zae)))))))),?_⟩
  dsimp only[cxOf,Cx.nox,Cx.wish];have bE:=zaW;have bF:(100000:Nat)<=sizeLine:=by rw[sizeLine_eq];decide
  refine⟨Nat.zero_le _,λpd ah=>⟨Nat.zero_le _,λB Z=>?_⟩⟩;have ai:=Same.new (o:=.lst []) ah;have aD:=Same.new (o:=.lst []) Z;have aE:=ai.trans aD;have a3:H B=none:=ai.free Z;have aF:pd≠B:=zad (zab (H:=H) (a:=pd) (o:=.lst [])) Z;have a4:pd≠z:=af.ne ah;have a5:B≠z:=(af.same ai).ne Z;refine zbN (λσ I=>∃n u,σ=[some v,some (.str x),some (.ref pd),some (.ref B),some (.int (runF b x n).at_),u]/\Same H I/\Rep z I v (bkD b)/\LDs z I pd (runF b x n).ds/\∃D,I B=some (.lst D)/\Reps z I D ((runF b x n).ss.map stD))
   (λσ I=>match σ[4]? with|some (some (V.int i))=>x.length-i.toNat|_=>0) ⟨0,none,J,aE,R.mono aE.x,⟨[],aD _ _ zab,.nil⟩,[],zab,.nil⟩ ?_ ?_
  .rintro σ I ⟨n,u,rfl,aj,aG,ak,D,al,am⟩;have S:=zaX (x:=x) Y aC n;have bG:=S.le;refine⟨_,J,_,J,x,J,by omega,_,_,J,J,_,J,?_⟩;refine ite2 (λG=>?_) (λG=>?_)
   .have G:(runF b x n).at_<x.length:=by have:=of_decide_eq_true G;omega
    have bH:=S.dl;have bI:=S.sl;have ao:=S.bk.ok Y;have a6:=af.same aj;refine⟨_,J,_,J,_,J,_,J,z,v,b,pd,(runF b x n).ds,x,(runF b x n).at_,J,aG,ag,ak,ao,aB,λpm ys a7 L bJ a8 aH pw=>?_⟩;have ap:∀m∈fitL b (runF b x n).ds x (runF b x n).at_,Sm m:=λm aq=>zb4 (x:=x) (i:=(runF b x n).at_) Y ao m (List.mem_filter.mp aq).1;have a9:=zdW ap (λm aq=>(List.mem_filter.mp aq).2) aH pw;have ba:=L _ _ al;refine⟨_,J,.inl ⟨J,_,SqL.of ba⟩,_,J,_,J,_,J,_,J,J,_,J,1,J,pm,_,J,SqL.of a8,λl bb=>?_⟩;have aI:=Same.new (o:=.lst (cutV (ys.map V.str) none (some (1:Int)))) bb;have bc:∀y∈ys.take 1,y.length<=1000:=λy bd=>by have:=(ap y (aH.mem_iff.mp (List.mem_of_mem_take bd))).2;omega
    refine⟨_,l,ys.take 1,J,J,SqL.of (by rw[zab,zeI]),by rw[List.length_take];omega,by decide +kernel,bc,?_⟩;have be:zgy (ys.take 1)=bestL b (runF b x n).ds x (runF b x n).at_:=by
     unfold bestL;rw[←a9];cases ys<;>rfl
    rw[be];have M:=L.trans aI;have ar:=aG.mono M.x (z:=z);have as:=ak.same M;have aJ:=M _ _ al;have aK:=am.mono M.x (z:=z);have au:=a6.same M;have aL:=aj.trans M;generalize upd a7 l (.lst (cutV (ys.map V.str) none (some (1:Int))))=bK at M ar as aJ aK au aL aI;have bf:bestL b (runF b x n).ds x (runF b x n).at_=Str.ofString ""∨bestL b (runF b x n).ds x (runF b x n).at_∈someL b (runF b x n).ds:=by
     rcases zbs ap with⟨_,h2⟩|⟨h1,_⟩
     .exact .inl (by unfold bestL;rw[h2,za3])
     .exact .inr (List.mem_filter.mp h1).1
    obtain⟨bL,p2,p3,p4,p5,bM⟩:=zaM (x:=x) Y S.bk aC G;refine⟨z,v,b,pd,(runF b x n).ds,x,_,(runF b x n).at_,J,au,a4,ar,ag,as,ao,G,aB,by omega,bf,λp J0 aa av aw aM=>?_⟩;rw[←zbX G] at aM;have bg:p≠z:=au.ne av;obtain⟨bN,aN,_⟩:=as;have bh:=Rep.butL aN aa ar (.tup (zbe b));have bi:=Reps.butL aN aa aK (zaO _);have U:=aa _ _ aF.symm aJ;have bj:Same H J0:=λab o e=>aa ab o (zad e ah) (aL ab o e);have bO:D.length=(runF b x n).ss.length:=by have:=am.length;simpa using this
    refine⟨B,D,_,J,J,U,by omega,?_⟩;have ax:upd J0 B (.lst (D++[.ref p])) B=some (.lst (D++[.ref p])):=zab;have bk:Rep z J0 (.ref p) (stD (stepL b (runF b x n).ds x (runF b x n).at_ (bestL b (runF b x n).ds x (runF b x n).at_)).1):=.tup aw bg (.cons (.int _) (.cons (.int _) (.cons (.str _ (by omega)) (.cons (.int _) (.cons (.int _) .nil)))));have aO:Reps z (upd J0 B (.lst (D++[.ref p]))) (D++[.ref p]) ((runF b x (n+1)).ss.map stD):=by
     rw[zbz G,List.map_append];exact Reps.updL U (bi.append (.cons bk .nil)) ((zaO _).append (zaO [_]))
    have aP:=Rep.updL (l':=D++[.ref p]) U bh (.tup (zbe b));obtain⟨aQ,bl,bm⟩:=aM;have aR:upd J0 B (.lst (D++[.ref p])) pd=some (.lst aQ):=by rw[zah aF];exact bl
    have aS:=Reps.updL (l':=D++[.ref p]) U bm (zbr _);have aT:upd J0 B (.lst (D++[.ref p])) p=some (.tup (stV (stepL b (runF b x n).ds x (runF b x n).at_ (bestL b (runF b x n).ds x (runF b x n).at_)).1)):=by
     rw[zah (zao aw U (by intro q;cases q))];exact aw
    have aU:Same H (upd J0 B (.lst (D++[.ref p]))):=λab o e=>by rw[zah (zad e a3)];exact bj ab o e
    generalize upd J0 B (.lst (D++[.ref p]))=bP at ax aO aP aR aS aT aU;refine⟨_,J,_,J,1,J,B,_,-1,_,J,J,SqL.of ax,zjq D (.ref p),p,_,1,_,J,J,SqT.of aT,zal (j:=1) J,_,_,J,J,?_⟩;have bn:((runF b x n).at_:Int)+(stepL b (runF b x n).ds x (runF b x n).at_ (bestL b (runF b x n).ds x (runF b x n).at_)).1.2.1=((runF b x (n+1)).at_:Int):=by
     rw[zdf G];show _=((_+_:Nat):Int);omega
    refine⟨⟨n+1,some (.ref pm),?_,aU,aP,⟨aQ,aR,aS⟩,_,ax,aO⟩,?_⟩
    .show [some v,some (.str x),some (.ref pd),some (.ref B),some (V.int (((runF b x n).at_:Int)+(stepL b (runF b x n).ds x (runF b x n).at_ (bestL b (runF b x n).ds x (runF b x n).at_)).1.2.1)),some (.ref pm)]=_;rw[bn]
    .show x.length-(((runF b x n).at_:Int)+(stepL b (runF b x n).ds x (runF b x n).at_ (bestL b (runF b x n).ds x (runF b x n).at_)).1.2.1).toNat<x.length-((runF b x n).at_:Int).toNat;omega
   .have bo:(runF b x n).at_=x.length:=by
     have:¬(((runF b x n).at_:Int)<(x.length:Int)):=λq=>G (decide_eq_true q);omega
    refine⟨_,J,_,J,by show (2:Nat)<=_;omega,λp av=>?_⟩;have L:=Same.new (o:=.lst [.ref B,.ref pd]) av;exact k p B pd n _ (aj.trans L) zab bo (.lst (L _ _ al) a5 (am.mono L.x)) (ak.same L)
  .rintro σ I bQ bR bp ⟨bq,br,bs,bt,bu,bv,bw,bx,bz,bA,bB,ae,bC,h⟩;exact⟨bq,br,bs,bt,bu,bv,bw,bx,bz,bA,bB,ae,bC,bp _ _ h⟩
noncomputable def pdD(d:LDr):D:=.tup [.int d.2.1,.str d.2.2]
theorem zcw:∀ds:List LDr,NoLs (ds.map pdD)
 |[]=>.nil
 |d::r=>.cons (.tup (.cons (.int _) (.cons (.str _) .nil))) (zcw r)
noncomputable def PDs(z:Addr)(H:Hp)(q:Addr)(ds:List LDr):Prop:=∃vs,H q=some (.lst vs)/\Reps z H vs (ds.map pdD)
theorem PDs.same{z:Addr}{H H':Hp}{q:Addr}{ds:List LDr}(h:PDs z H q ds)(s:Same H H'):PDs z H' q ds:=let ⟨vs,a,r⟩:=h;⟨vs,s _ _ a,r.mono s.x⟩
theorem ziw{z:Addr}{H:Hp}{v:V}{d:LDr}(r:Rep z H v (pdD d)):∃a,v=.ref a/\a≠z/\H a=some (.tup [.int d.2.1,.str d.2.2]):=by
 cases r with
 |tup h B r=>
  cases r with
  |cons D r=>
   cases r with
   |cons F r=>
    cases r;cases D;cases F;exact⟨_,J,B,h⟩
theorem zix{z:Addr}{H:Hp}{xs:List V}{ds:List LDr}{i:Nat}(r:Reps z H xs (ds.map pdD))(hi:i<ds.length):Rep z H (xs.getD i .non) (pdD (ds.getD i ld0)):=by
 have:=r.get (i:=i) (by simpa using hi);simpa [hi] using this
theorem ziy{z:Addr}{H:Hp}{ds:List LDr}{vs:List V}(B:Reps z H vs (ds.map pdD))(J0:0<ds.length):∃ad,atI vs (-1)=some (.ref ad)/\H ad=some (.tup [.int (ds.getD (ds.length-1) ld0).2.1,.str (ds.getD (ds.length-1) ld0).2.2]):=by
 have D:vs.length=ds.length:=by have:=B.length;simpa using this
 obtain⟨ad,F,L,G⟩:=ziw (zix (ds:=ds) (i:=ds.length-1) B (by omega));refine⟨ad,?_,G⟩;have I:ixN vs.length (-1)=some (vs.length-1):=by
  unfold ixN;rw[if_neg (by decide),if_pos (by omega)];congr 1;omega
 unfold atI;rw[I];show vs[vs.length-1]?=_;have h1:vs.length-1<vs.length:=by omega
 have h2:vs.getD (vs.length-1) .non=vs[vs.length-1]:=by simp[h1]
 rw[List.getElem?_eq_getElem h1,←h2,D,F]
inductive zb5:List V->Hp->VK->XK->Prop where
 |mk {vs:List V} {H:Hp} {Q:VK} {E:XK} (z q ds:_) (c1:vs=[.ref q]) (c2:PDs z H q ds) (c3:Q (.int (zam ds)) H):zb5 vs H Q E
theorem scWithin:zav ["doors","inner","close"] ["doors"] (zag zf1):=⟨J,J,J,by decide +kernel,J,by decide +kernel,by decide +kernel⟩
theorem ziz{f:Addr}{fd:FuncData}(F:Fun K "tongue_within" "tongue_within" zf1 f fd):FnOk P w K mg base CX0 1 f fd ["doors"] zb5:=by
 refine F.ok scWithin (λvs H Q E h=>?_) (λcdv A outer s H vs Q E R h=>?_)
 .obtain⟨z,q,ds,rfl,_⟩:=h;rfl
 .obtain⟨z,q,ds,rfl,⟨vs,D,G⟩,k⟩:=h;have I:=scWithin.nd;have J0:vs.length=ds.length:=by have:=G.length;simpa using this
  refine⟨_,zac (za9 (zgn (zdj (pv 0) (λ_=>rfl))) (zai (zaw zaf)) zaC)
   (zac (zbw (zay zaB (pv 0) (zbK zbd zaf) (λ_ _=>rfl)) (zbG J (zas (zaq (i:=1) I J (Or.inl J)) (zas (zaq (i:=2) I J (Or.inl J)) za2))))
   (zai (zaw (pv 1)))),?_⟩
  dsimp only[cxOf,Cx.nox,Cx.wish];refine⟨_,J,_,.inl ⟨vs,SqL.of D,J⟩,?_⟩;by_cases L:0<ds.length
  .have B:(!vs.isEmpty)=true:=by
    cases vs with
    |nil=>simp at J0;omega
    |cons _ _=>rfl
   rw[B];obtain⟨ad,M,O⟩:=ziy G L;refine iteF ?_;refine⟨_,J,1,J,q,vs,-1,_,J,J,SqL.of D,M,ad,_,J,SqT.of O,J,_,_,J,_,_,J,J,_,J,?_⟩;rw[zcv L] at k;exact k
  .have B:(!vs.isEmpty)=false:=by
    cases vs with
    |nil=>rfl
    |cons _ _=>simp at J0;omega
   rw[B];refine iteT ?_;have:ds=[]:=List.eq_nil_of_length_eq_zero (by omega);subst this;exact k
noncomputable abbrev Mk:=Str×Option Dr
noncomputable def mkOD:Option Dr->D
 |none=>.non
 |some d=>drD d
noncomputable def mkD(m:Mk):D:=.tup [.str m.1,mkOD m.2]
noncomputable def possL(b:Bk)(ds:List LDr):List Mk:=(lastL ds).map (λd=>(d.2.2,none))++(b.getD (zam ds).toNat tg0).2.map λd=>(d.1,some d)
theorem zkt(d:Dr):NoL (drD d):=.tup (.cons (.str _) (.cons (.int _) (.cons (.str _) .nil)))
theorem zku(m:Mk):NoL (mkD m):=by
 obtain⟨x,o⟩:=m;cases o with
 |none=>exact .tup (.cons (.str _) (.cons .non .nil))
 |some d=>exact .tup (.cons (.str _) (.cons (zkt d) .nil))
theorem zf4:∀ms:List Mk,NoLs (ms.map mkD)
 |[]=>.nil
 |d::r=>.cons (zku d) (zf4 r)
inductive zfw:List V->Hp->VK->XK->Prop where
 |mk {vs:List V} {H:Hp} {Q:VK} {E:XK} (z v b q ds:_) (c1:vs=[v,.ref q]) (c2:Bag z H) (c3:Rep z H v (bkD b)) (c4:BkOk b) (c5:PDs z H q ds) (c6:LdOk b ds) (c7:∀p ws H',Same H H'->H p=none->H' p=some (.lst ws)->Reps z H' ws ((possL b ds).map mkD)->Q (.ref p) H'):zfw vs H Q E
theorem zfx{ds:List LDr}(h:0<ds.length):lastL ds=[ds.getD (ds.length-1) ld0]:=by
 have B:ds.length-1<ds.length:=by omega
 unfold lastL;rw[List.drop_eq_getElem_cons B];have:ds.length-1+1=ds.length:=by omega
 rw[this,List.drop_length];simp[B]
theorem ziA{B:Type}{xs:List B}{i:Nat}(d:B)(h:i<xs.length):xs.getD i d=xs[i]:=by simp[h]
theorem scPoss:zav ["book","doors","marks","inner","close","escape","ways","door"] ["book","doors"] (zag sPoss):=⟨J,J,J,by decide +kernel,J,by decide +kernel,by decide +kernel⟩
theorem zk5{f aj:Addr}{fd ay:FuncData}(F:Fun K "possible_marks" "possible_marks" sPoss f fd)(aP:W.keepIn K (.ref aj)=true)(aQ:Binds K ay ["doors"] [])(aR:mg "tongue_within"=some (.ref aj))(aS:FnOk P w K mg base CX0 1 aj ay ["doors"] zb5):FnOk P w K mg base CX0 2 f fd ["book","doors"] zfw:=by
 refine F.ok scPoss (λvs H Q E h=>?_) (λcdv A outer s H vs Q E aT h=>?_)
 .obtain⟨z,v,b,q,ds,rfl,_⟩:=h;rfl
 .obtain⟨z,v,b,q,ds,rfl,ak,aU,aV,⟨vs,ae,al⟩,az,k⟩:=h;obtain⟨a,xs,rfl,bc,aW,bd,R⟩:=zb3 aU;obtain⟨aX,be,aY,_⟩:=aV;have L:=scPoss.nd;have bf:=zaW;have aA:vs.length=ds.length:=by have:=al.length;simpa using this
  refine⟨_,zac (zan (i:=2) L J (Or.inl J) (zaN zae))
   (zac (za9 (zdj (pv 1) (λ_=>rfl)) (zac (zbw (zay zaB (pv 1) (zbK zbd zaf) (λ_ _=>rfl)) (zbG J (zas (zaq (i:=3) L J (Or.inl J)) (zas (zaq (i:=4) L J (Or.inl J)) za2))))
    (zai (zaP (zbL PySem.F.plainAttrs_list PySem.F.slot_list_append PySem.F.type_list_append zaK (pv 2) (zaa (zaV (zaa (pv 4) (zaa zgm zae))) zae))))) zaC)
   (zac (zbw (zay zaE (pv 0) (zat aS aT J aR aP aQ .nil pass0 (zaa (pv 1) zae)) (λ_ _=>rfl)) (zbG J (zas (zaq (i:=5) L J (Or.inl J)) (zas (zaq (i:=6) L J (Or.inl J)) za2))))
   (zac (zcF PassesOwn.never J (zd8 (pv 6)) (zaq (i:=7) L J (Or.inl J))
    (zai (zaP (zbL PySem.F.plainAttrs_list PySem.F.slot_list_append PySem.F.type_list_append zaK (pv 2) (zaa (zaV (zaa (zay zaE (pv 7) zaf (λ_ _=>rfl)) (zaa (pv 7) zae))) zae)))))
   (zai (zaw (pv 2)))))),?_⟩
  dsimp only[cxOf,Cx.nox,Cx.wish];refine⟨Nat.zero_le _,λpm M=>?_⟩;have O:=Same.new (o:=.lst []) M;have bg:q≠pm:=zad ae M;have bh:pm≠z:=ak.ne M;dsimp only;refine zez (J0:=λσ' H2=>∃(S U:Option V),σ'=[some (.ref a),some (.ref q),some (.ref pm),S,U,none,none,none]/\Same H H2/\∃B,H2 pm=some (.lst B)/\Reps z H2 B (((lastL ds).map λd=>((d.2.2,none):Mk)).map mkD)) (λbi J0=>?g1) ?g2
  case g1=>
   refine⟨_,J,_,.inl ⟨vs,SqL.of (O _ _ ae),J⟩,?_⟩;refine ite2 (λam=>?_) (λam=>?_)
   case refine_1=>
    have aB:0<ds.length:=by
     cases vs with
     |nil=>simp at am
     |cons _ _=>simp at aA;omega
    obtain⟨ad,aZ,a0⟩:=ziy (al.mono O.x) aB;refine⟨_,J,1,J,q,vs,-1,_,J,J,SqL.of (O _ _ ae),aZ,ad,_,J,SqT.of a0,J,_,_,J,_,_,J,J,_,J,.inl ⟨J,_,SqL.of zab⟩,_,J,by show (2:Nat)<=_;omega,λpt Y=>?_⟩;have aC:=Same.new (o:=.tup [.str (ds.getD (ds.length-1) ld0).2.2,.non]) Y;have Z:upd (upd H pm (.lst [])) pt (.tup [.str (ds.getD (ds.length-1) ld0).2.2,.non]) pt=some (.tup [.str (ds.getD (ds.length-1) ld0).2.2,.non]):=zab;have ao:pt≠z:=(ak.same O).ne Y;have ap:=aC pm _ zab;have aD:=O.trans aC;generalize upd (upd H pm (.lst [])) pt (.tup [.str (ds.getD (ds.length-1) ld0).2.2,.non])=H1 at Z ap aD;refine⟨pm,[],_,J,J,ap,by show (0:Nat)<_;omega,?_⟩;have G:Same H (upd H1 pm (.lst ([]++[.ref pt]))):=λaq o e=>by rw[zah (zad e M)];exact aD aq o e
    have ar:∃B,upd H1 pm (.lst ([]++[.ref pt])) pm=some (.lst B)/\Reps z (upd H1 pm (.lst ([]++[.ref pt]))) B (((lastL ds).map λd=>((d.2.2,none):Mk)).map mkD):=by
     refine⟨_,zab,Reps.updL ap ?_ (zf4 _)⟩;rw[zfx aB];have a1:=(az _ (zaR ld0 (i:=ds.length-1) (by omega))).2;exact .cons (.tup Z ao (.cons (.str _ (by have:=a1.2;omega)) (.cons .non .nil))) .nil
    exact J0 _ _ ⟨_,_,J,G,ar⟩
   case refine_2=>
    have a2:ds.length=0:=by
     cases vs with
     |nil=>simp at aA;omega
     |cons _ _=>simp at am
    have G:=O;have ar:∃B,upd H pm (.lst []) pm=some (.lst B)/\Reps z (upd H pm (.lst [])) B (((lastL ds).map λd=>((d.2.2,none):Mk)).map mkD):=by
     refine⟨[],zab,?_⟩;have:ds=[]:=List.eq_nil_of_length_eq_zero a2;rw[this];exact .nil
    exact J0 _ _ ⟨_,_,J,G,ar⟩
  case g2=>
   rintro σ' H2 ⟨S,U,rfl,G,B,hw,a3⟩;obtain⟨I,aE,aF⟩:=zba az aX;obtain⟨c,d,ys,a4,bj,bk,a5,as,au,a6⟩:=zbq ((zbi (b:=b) (i:=I) R aF).mono G.x);have a7:xs[I]?=some (.ref c):=by
    have h1:I<xs.length:=by omega
    have h2:xs.getD I .non=xs[I]:=by simp[h1]
    rw[List.getElem?_eq_getElem h1,←h2,a4]
   have aG:b.getD (zam ds).toNat tg0=b.getD I tg0:=by rw[aE];rfl
   have aH:=aY _ (zaR tg0 aF);have au:ys.length=(b.getD I tg0).2.length:=au;have aI:possL b ds=(lastL ds).map (λd=>((d.2.2,none):Mk))++(b.getD I tg0).2.map λd=>(d.1,some d):=by unfold possL;rw[aG]
   rw[aI] at k;clear aI aG;generalize bl:b.getD I tg0=tt at *;have bm:=aH.2.1;have bn:(lastL ds).length<=1:=by unfold lastL;rw[List.length_drop];omega
   refine⟨_,J,_,J,z,q,ds,J,⟨vs,G _ _ ae,al.mono G.x⟩,a,xs,zam ds,_,J,J,SqT.of (G _ _ aW),by rw[aE];exact zal a7,c,_,J,SqT.of a5,J,_,_,J,_,_,J,J,?_⟩;refine⟨_,J,d,J,⟨_,SqT.of as⟩,zfQ (K:=K) (a:=d) (xs:=ys) (λi σ D=>∃S U u,σ=[some (.ref a),some (.ref q),some (.ref pm),S,U,some (.str tt.1),some (.ref d),u]/\Same H D/\SameX pm H2 D/\∃B,D pm=some (.lst B)/\Reps z D B (((lastL ds).map (λd=>((d.2.2,none):Mk))++(tt.2.take i).map λd=>(d.1,some d)).map mkD))
    ⟨_,_,none,J,G,.refl,B,hw,by simpa using a3⟩ (λj σ D _ ⟨_,_,_,_,_,s,_⟩=>SqT.of (s _ _ (zao as hw (by intro q;cases q)) as)) ?_ ?_⟩
   .rintro j y σ D aJ ⟨S,U,u,rfl,af,av,ag,ah,aa⟩;have ai:j<tt.2.length:=by have:=(List.getElem?_eq_some_iff.mp aJ).1;omega
    have a8:y=ys.getD j .non:=by rw[List.getD_eq_getElem?_getD,aJ];rfl
    have aw:Rep z D (ys.getD j .non) (drD (tt.2.getD j dr0)):=Rep.butL hw av (zbV (ds:=tt.2) (i:=j) a6 ai) (zkt _);obtain⟨ab,aK,bo,a9⟩:=zck aw;have ba:=aH.2.2 _ (zaR dr0 ai);rw[aK] at aw;rw[a8,aK];have bp:ag.length<=10:=by
     have:=aa.length;simp at this;omega
    refine⟨_,J,.inl ⟨J,_,SqL.of ah⟩,_,J,ab,_,0,_,J,J,SqT.of a9,zal (j:=0) J,_,J,by show (2:Nat)<=_;omega,λpt Y=>?_⟩;have ac:=Same.new (o:=.tup [.str (tt.2.getD j dr0).1,.ref ab]) Y;have Z:upd D pt (.tup [.str (tt.2.getD j dr0).1,.ref ab]) pt=some (.tup [.str (tt.2.getD j dr0).1,.ref ab]):=zab;have ao:pt≠z:=(ak.same af).ne Y;have ax:=ac _ _ ah;have aL:=aa.mono ac.x (z:=z);have aM:=aw.mono ac.x (z:=z);have aN:=af.trans ac;have aO:=av.trans ac.x;generalize upd D pt (.tup [.str (tt.2.getD j dr0).1,.ref ab])=bq at Z ax aL aM aN aO;refine⟨pm,ag,_,J,J,ax,by omega,?_⟩;have g1:=zby ba.1;refine⟨_,_,_,J,λaq o e=>by rw[zah (zad e M)];exact aN aq o e,aO.upd,_,zab,?_⟩;refine Reps.updL ax ?_ (zf4 _);have bb:(tt.2.take (j+1)).map (λd=>((d.1,some d):Mk))=(tt.2.take j).map (λd=>((d.1,some d):Mk))++[((tt.2.getD j dr0).1,some (tt.2.getD j dr0))]:=by
     rw[List.take_add_one,List.getElem?_eq_getElem ai,ziA dr0 ai,List.map_append];rfl
    rw[bb,←List.append_assoc,List.map_append];exact aL.append (.cons (.tup Z ao (.cons (.str _ (by omega)) (.cons aM .nil))) .nil)
   .rintro σ D ⟨S,U,u,rfl,af,av,ag,ah,aa⟩;rw[au,List.take_length] at aa;exact⟨_,J,k pm ag D af M ah aa⟩
theorem zbF{z:Addr}{J0:It}{g:TG}{tt:TT}{te:TE}{Qe:St->Hp->Prop}{Z:St}{H0:Hp}{p:Addr}{n:Nat}{item:Nat->V}(keep:Nat->Bool)(G:Nat->D)(I:St->Prop)(ah:I Z)(aa:H0 p=none)(aq:n<=100000)(S:ItOk J0 n item (upd H0 p (.lst [])) p)(ai:∀i,NoL (G i))(aj:∀i σ H (ab:V->St->Hp->Prop) (ac:St->Hp->Prop),i<n->I σ->Same H0 H->(keep i=true->∀F v B,I F->Same H B->Rep z B v (G i)->ab v F B)->(keep i=false->∀F B,I F->Same H B->ac F B) ->
   g (item i) σ H λF H2=>tt F H2 λb ad=>if b=true then te F ad λv B=>ab v F B else ac F ad)(ak:∀σ H vs,Same H0 H->H p=some (.lst vs)->Reps z H vs (((List.range n).filter keep).map G)->Qe σ H):tLoop J0 g tt (tApp p te) Qe Z (upd H0 p (.lst [])):=by
 have al:Same H0 (upd H0 p (.lst [])):=Same.new aa;have ae:∀ {H},SameX p (upd H0 p (.lst [])) H->Same H0 H:=λ{H} h b o e=>h b o (zad e aa) (al b o e);have am:∀l:List Nat,NoLs (l.map G):=λl=>by
  induction l with
  |nil=>exact .nil
  |cons a r ao=>exact .cons (ai a) ao
 refine⟨λi m σ H=>m=n-i/\i<=n/\I σ/\SameX p (upd H0 p (.lst [])) H/\∃vs,H p=some (.lst vs)/\vs.length<=i/\Reps z H vs (((List.range i).filter keep).map G),⟨n,J,Nat.zero_le _,ah,.refl,[],zab,Nat.le_refl _,.nil⟩,?_⟩;rintro i m σ H ⟨rfl,hi,ap,L,vs,U,ar,R⟩;by_cases O:i<n
 .refine .inr ⟨S.go i H O L,λσ' H'=>I σ'/\SameX p (upd H0 p (.lst [])) H'/\∃vs,H' p=some (.lst vs)/\vs.length<=i+1/\Reps z H' vs (((List.range (i+1)).filter keep).map G),λσ' H' ⟨a,b,c⟩=>⟨n-(i+1),by omega,J,O,a,b,c⟩,λx H' y=>?_⟩;obtain⟨rfl,rfl⟩:=S.yld i H x H' O L y;have af:((List.range (i+1)).filter keep).map G=((List.range i).filter keep).map G++(if keep i then [G i] else []):=by
   rw[List.range_succ,List.filter_append,List.map_append];cases g:keep i<;>simp[g]
  refine aj i σ H' (λv F B=>∃ys,B p=some (.lst ys)/\ys.length<sizeLine/\(I F/\SameX p (upd H0 p (.lst [])) (upd B p (.lst (ys++[v])))/\∃vs,upd B p (.lst (ys++[v])) p=some (.lst vs)/\vs.length<=i+1/\Reps z (upd B p (.lst (ys++[v]))) vs (((List.range (i+1)).filter keep).map G))) _ O ap (ae L) (λW F v B Y M R2=>?_) λW F B Y M=>?_
  .have ag:=M _ _ U;have as:(100000:Nat)<sizeLine:=by rw[sizeLine_eq];decide
   refine⟨vs,ag,by omega,Y,(L.trans M.x).upd,vs++[v],zab,by simp;omega,?_⟩;refine Reps.updL ag ?_ (am _);rw[af,W];exact(R.mono M.x).append (.cons R2 .nil)
  .refine⟨Y,L.trans M.x,vs,M _ _ U,by omega,?_⟩;rw[af,W];simpa using R.mono M.x
 .have e:i=n:=by omega
  subst e;exact .inl ⟨S.stop H L,ak σ H vs (ae L) U R⟩
theorem zfy{B D:Type}(xs:List B)(d:B)(p:B->Bool)(f:B->D):((List.range xs.length).filter λi=>p (xs.getD i d)).map (λi=>f (xs.getD i d))=(xs.filter p).map f:=by
 have e:(List.range xs.length).map (λi=>xs.getD i d)=xs:=by
  refine List.ext_getElem (by simp) λi h1 h2=>?_;simp at h1;simp[h1]
 have:(xs.filter p).map f=(((List.range xs.length).map (λi=>xs.getD i d)).filter p).map f:=by rw[e]
 rw[this,List.filter_map,List.map_map];rfl
noncomputable def fitsP(b:Bk)(ds:List LDr)(x:Str)(i:Nat):List Mk:=(possL b ds).filter λm=>stAt x m.1 i
noncomputable abbrev mk0:Mk:=(⟨#[]⟩,none)
theorem zgJ{z:Addr}{H:Hp}{v:V}{m:Mk}(r:Rep z H v (mkD m)):∃a u,v=.ref a/\a≠z/\H a=some (.tup [.str m.1,u])/\m.1.length<=1000/\Rep z H u (mkOD m.2):=by
 cases r with
 |tup h B r=>
  cases r with
  |cons D r=>
   cases r with
   |cons F r=>
    cases r;cases D with
    |str _ h1=>exact⟨_,_,J,B,h,h1,F⟩
theorem zeK{z:Addr}{H:Hp}{xs:List V}{ms:List Mk}{i:Nat}(r:Reps z H xs (ms.map mkD))(hi:i<ms.length):Rep z H (xs.getD i .non) (mkD (ms.getD i mk0)):=by
 have:=r.get (i:=i) (by simpa using hi);simpa [hi] using this
inductive zgK:List V->Hp->VK->XK->Prop where
 |mk {vs:List V} {H:Hp} {Q:VK} {E:XK} (z v b q ds x:_) (i:Nat) (c1:vs=[v,.str x,.int i,.ref q]) (c2:Bag z H) (c3:Rep z H v (bkD b)) (c4:BkOk b) (c5:PDs z H q ds) (c6:LdOk b ds) (c7:∀p ws H',Same H H'->H p=none->H' p=some (.lst ws)->Reps z H' ws ((fitsP b ds x i).map mkD)->Q (.ref p) H'):zgK vs H Q E
theorem zlT:zav ["book","text","place","doors"] ["book","text","place","doors"] (zag zdp):=⟨J,J,J,by decide +kernel,J,by decide +kernel,by decide +kernel⟩
theorem zkv:(["mark","door","place","text"]:List Str).Nodup:=by decide +kernel
theorem ziB{b:Bk}{ds:List LDr}(B:∀t∈b,TgOk b.length t):(possL b ds).length<=10:=by
 unfold possL;have h1:(lastL ds).length<=1:=by unfold lastL;rw[List.length_drop];omega
 have h2:(b.getD (zam ds).toNat tg0).2.length<=6:=by
  by_cases h:(zam ds).toNat<b.length
  .exact(B _ (zaR tg0 h)).2.1
  .have:b.getD (zam ds).toNat tg0=tg0:=by simp[h]
   rw[this];exact Nat.zero_le _
 rw[List.length_append,List.length_map,List.length_map];omega
theorem zk6{f B:Addr}{fd J0:FuncData}(F:Fun K "fitting_marks" "fitting_marks" zdp f fd)(Z:W.keepIn K (.ref B)=true)(aa:Binds K J0 ["book","doors"] [])(ab:mg "possible_marks"=some (.ref B))(ac:FnOk P w K mg base CX0 2 B J0 ["book","doors"] zfw):FnOk P w K mg base CX0 3 f fd ["book","text","place","doors"] zgK:=by
 refine F.ok zlT (λvs H Q E h=>?_) (λcdv A outer s H vs Q E ad h=>?_)
 .obtain⟨z,v,b,q,ds,x,i,rfl,_⟩:=h;rfl
 .obtain⟨z,v,b,q,ds,x,i,rfl,L,ae,M,af,ag,k⟩:=h;refine⟨_,zai (zaw (za6 (N':=["mark","door","place","text"]) (js:=[none,none,some 2,some 1]) J J (zbl (zag zdp) (by decide +kernel)) ⟨J,Or.inr (Or.inl J),J,J,Or.inr (Or.inl J),J,trivial⟩ (zbc (zat ac ad J ab Z aa .nil pass0 (zaa (pv 0) (zaa (pv 3) zae))))
    (λcl s H fp=>zex 2 rfl (zas (zaq (i:=0) zkv J (Or.inl J) (Or.inr J)) (zas (zaq (i:=1) zkv J (Or.inl J) (Or.inr J)) za2)))
    (λcl s H fp=>zet (zhD (zko PySem.F.plainAttrs_str PySem.F.slot_str_startswith PySem.F.type_str_startswith zcJ (pv 3) (zaa (pv 0) (zaa (pv 2) zae)))))
    (λcl s H fp=>zaV (zaa (pv 0) (zaa (pv 1) zae))))),?_⟩
  dsimp only[cxOf,Cx.nox,Cx.wish];have as:=zaW;refine⟨_,J,_,J,z,v,b,q,ds,J,L,ae,M,af,ag,λl O H1 D au G R=>?_⟩;have av:=ziB (ds:=ds) M.2.2.1;have ah:O.length=(possL b ds).length:=by have:=R.length;simpa using this
  refine⟨l,J,⟨_,SqL.of G⟩,λp I=>?_⟩;have S:l≠p:=zad G I;refine zbF (z:=z) (λj=>stAt x ((possL b ds).getD j mk0).1 i) (λj=>mkD ((possL b ds).getD j mk0)) (λσ=>∃u v,σ=[u,v,some (.int i),some (.str x)]) ⟨none,none,J⟩ I (by omega) (za7 (xs:=O) (by rw[zah S];exact G) S) (λj=>zku _) (λj σ H2 aw ax ay ⟨u,v,ai⟩ U aj ak=>?_) (λσ H2 vs al am R2=>?_)
  .subst ai;have ao:=(zeK (ms:=possL b ds) (i:=j) R (by omega)).mono U.x (z:=z);obtain⟨a,u,e,az,ap,aq,ar⟩:=zgJ ao;rw[e];refine⟨a,_,J,SqT.of ap,J,_,_,J,_,_,J,J,?_⟩;refine⟨_,J,J,_,J,_,J,_,_,i,J,J,_,J,?_⟩;refine ite2 (λh=>?_) (λh=>?_)
   .refine⟨_,J,_,J,by show (2:Nat)<=_;omega,λpt V=>?_⟩;have Y:=Same.new (o:=.tup [.str ((possL b ds).getD j mk0).1,u]) V;refine aj h _ _ _ ⟨_,_,J⟩ Y (.tup zab (((L.same D).same U).ne V) (.cons (.str _ aq) (.cons (ar.mono Y.x) .nil)))
   .exact ak (by simpa using h) _ _ ⟨_,_,J⟩ (Same.refl _)
  .rw[ah,zfy (possL b ds) mk0 (λm=>stAt x m.1 i) mkD] at R2;exact k p vs H2 (D.trans al) (D.free I) am R2
noncomputable def takeL(ds:List LDr)(i:Nat)(m:Str):Option Dr->Stp×List LDr
 |none=>(((i:Int),(m.length:Int),Str.ofString "close",zam ds.dropLast,(ds.length:Int)-1),ds.dropLast)
 |some d=>(((i:Int),(m.length:Int),Str.ofString "open",zam ds,(ds.length:Int)),ds++[((i:Int),d.2.1,d.2.2)])
theorem ziC{z:Addr}{H:Hp}{v:V}{d:Dr}(r:Rep z H v (drD d)):∃a,v=.ref a/\a≠z/\H a=some (.tup [.str d.1,.int d.2.1,.str d.2.2])/\d.2.2.length<=1000:=by
 cases r with
 |tup h B r=>
  cases r with
  |cons D r=>
   cases r with
   |cons F r=>
    cases r with
    |cons G r=>
     cases r;cases D;cases F;cases G with
     |str _ I=>exact⟨_,J,B,h,I⟩
inductive zeL:List V->Hp->VK->XK->Prop where
 |mk {vs:List V} {H:Hp} {Q:VK} {E:XK} (z m u o:_) (i:Nat) (q ds:_) (c1:vs=[.str m,u,.int i,.ref q]) (c2:Bag z H) (c3:q≠z) (c4:Rep z H u (mkOD o)) (c5:m.length<=1000) (c6:PDs z H q ds) (c7:ds.length<=20000) (c8:(o=none->0<ds.length)) (c9:∀p H',SameX q H H'->H p=none->H' p=some (.tup (stV (takeL ds i m o).1))->PDs z H' q (takeL ds i m o).2->Q (.ref p) H'):zeL vs H Q E
noncomputable def zgL(b:Bk)(ds:List LDr)(x:Str)(i:Nat):Stp:=
 if (⟨#[x.cps.getD i 0]⟩:Str)=(b.getD (zam ds).toNat tg0).1 then
  (if i+1<x.length then ((i:Int),2,Str.ofString "escape",zam ds,(ds.length:Int)) else ((i:Int),1,Str.ofString "cut",zam ds,(ds.length:Int)))
 else ((i:Int),1,Str.ofString "sign",zam ds,(ds.length:Int))
inductive zdr:List V->Hp->VK->XK->Prop where
 |mk {vs:List V} {H:Hp} {Q:VK} {E:XK} (z v b q ds x:_) (i:Nat) (c1:vs=[v,.str x,.int i,.ref q]) (c2:Rep z H v (bkD b)) (c3:BkOk b) (c4:PDs z H q ds) (c5:LdOk b ds) (c6:i<x.length) (c7:x.length<=20000) (c8:∀p H',Same H H'->H p=none->H' p=some (.tup (stV (zgL b ds x i)))->Q (.ref p) H'):zdr vs H Q E
theorem scTakeM:zav ["mark","door","place","doors","step","opening","inner","close"] ["mark","door","place","doors"] (zag zio):=⟨J,J,J,by decide +kernel,J,by decide +kernel,by decide +kernel⟩
theorem zjH{f R:Addr}{fd Z:FuncData}(F:Fun K "take_mark" "take_mark" zio f fd)(T:TxtB mg)(aa:W.keepIn K (.ref R)=true)(ab:Binds K Z ["doors"] [])(ac:mg "tongue_within"=some (.ref R))(ad:FnOk P w K mg base CX0 1 R Z ["doors"] zb5):FnOk P w K mg base CX0 2 f fd ["mark","door","place","doors"] zeL:=by
 refine F.ok scTakeM (λvs H Q E h=>?_) (λcdv A outer s H vs Q E ae h=>?_)
 .obtain⟨z,m,u,o,i,q,ds,rfl,_⟩:=h;rfl
 .obtain⟨z,m,u,o,i,q,ds,rfl,aj,as,af,au,⟨vs,B,L⟩,av,ak,k⟩:=h;have M:=scTakeM.nd;have aw:=zaW;have ax:(100000:Nat)<=sizeLine:=by rw[sizeLine_eq];decide
  have al:vs.length=ds.length:=by have:=L.length;simpa using this
  refine⟨_,zac (za9 (zau zlz (pv 1) zgm (zaz _))
    (zac (zaP (zgs PySem.F.plainAttrs_list PySem.F.slot_list_pop PySem.F.type_list_pop zhX (pv 3)))
    (zai (zaw (zaV (zaa (pv 2) (zaa (zar zap (by rfl) T.len b_len (zaa (pv 0) zae)) (zaa zaH (zaa (zat ad ae J ac aa ab .nil pass0 (zaa (pv 3) zae)) (zaa (zar zaF (by rfl) T.len b_len (zaa (pv 3) zae)) zae))))))))) zaC)
   (zac (zan (i:=4) M J (Or.inl J) (zaV (zaa (pv 2) (zaa (zar zap (by rfl) T.len b_len (zaa (pv 0) zae)) (zaa zaH (zaa (zat ad ae J ac aa ab .nil pass0 (zaa (pv 3) zae)) (zaa (zar zaF (by rfl) T.len b_len (zaa (pv 3) zae)) zae)))))))
   (zac (zbw (pv 1) (zbG J (zas (zaq (i:=5) M J (Or.inl J)) (zas (zaq (i:=6) M J (Or.inl J)) (zas (zaq (i:=7) M J (Or.inl J)) za2)))))
   (zac (zaP (zbL PySem.F.plainAttrs_list PySem.F.slot_list_append PySem.F.type_list_append zaK (pv 3) (zaa (zaV (zaa (pv 6) (zaa (pv 7) zae))) zae)))
   (zai (zaw (pv 4)))))),?_⟩
  dsimp only[cxOf,Cx.nox,Cx.wish];cases o with
  |none=>
   cases af;have ay:=ak rfl;refine⟨_,J,J,_,J,?_⟩;refine iteT ?_;refine⟨_,J,.inl ⟨J,_,SqL.of B⟩,q,vs,_,J,J,B,zil (by omega),?_⟩;have I:upd H q (.lst vs.dropLast) q=some (.lst vs.dropLast):=zab;have S:Reps z (upd H q (.lst vs.dropLast)) vs.dropLast (ds.dropLast.map pdD):=by
    rw[List.map_dropLast];exact Reps.updL B L.dropLast (by rw[←List.map_dropLast];exact zcw _)
   have U:SameX q H (upd H q (.lst vs.dropLast)):=SameX.refl.upd;generalize upd H q (.lst vs.dropLast)=H1 at I S U;refine⟨_,J,_,J,m,J,by omega,_,J,z,q,ds.dropLast,J,⟨_,I,S⟩,_,J,q,_,J,.inl (SqL.of I),by show (5:Nat)<=_;omega,λp D=>?_⟩;have am:H p=none:=by
    cases e:H p with
    |none=>rfl
    |some o=>
     have ao:p≠q:=(zad I D).symm;rw[U p o ao e] at D;cases D
   have G:=Same.new (o:=.tup [.int i,.int m.length,.str (Str.ofString "close"),.int (zam ds.dropLast),.int vs.dropLast.length]) D;refine k p _ (U.trans G.x) am ?_ ⟨_,G _ _ I,S.mono G.x⟩;rw[zab];have:((vs.dropLast.length:Nat):Int)=(ds.length:Int)-1:=by simp;omega
   rw[this];rfl
  |some d=>
   obtain⟨a,rfl,az,ap,aq⟩:=ziC af;refine⟨_,J,J,_,J,?_⟩;refine iteF ?_;refine⟨_,J,_,J,m,J,by omega,_,J,z,q,ds,J,⟨_,B,L⟩,_,J,q,_,J,.inl (SqL.of B),by show (5:Nat)<=_;omega,λp D=>?_⟩;have J0:=Same.new (o:=.tup [.int i,.int m.length,.str (Str.ofString "open"),.int (zam ds),.int vs.length]) D;have ag:upd H p (.tup [.int i,.int m.length,.str (Str.ofString "open"),.int (zam ds),.int vs.length]) p=some (.tup (stV (takeL ds i m (some d)).1)):=by
    rw[zab,al];rfl
   generalize upd H p (.tup [.int i,.int m.length,.str (Str.ofString "open"),.int (zam ds),.int vs.length])=H1 at J0 ag;refine⟨_,J,a,_,J,SqT.of (J0 _ _ ap),J,_,_,J,_,_,J,_,_,J,J,?_⟩;refine⟨_,J,.inl ⟨J,_,SqL.of (J0 _ _ B)⟩,_,J,_,J,by show (2:Nat)<=_;omega,λpt ah=>?_⟩;have G:=Same.new (o:=.tup [.int d.2.1,.str d.2.2]) ah;have ai:upd H1 pt (.tup [.int d.2.1,.str d.2.2]) pt=some (.tup [.int d.2.1,.str d.2.2]):=zab;have ar:pt≠z:=(aj.same J0).ne ah;have O:=J0.trans G;have V:=G _ _ ag;generalize upd H1 pt (.tup [.int d.2.1,.str d.2.2])=H2 at ai O V;have Y:=O _ _ B;refine⟨q,vs,_,J,J,Y,by omega,?_⟩;refine⟨_,J,?_⟩;refine k p _ (O.x.upd) D ?_ ⟨_,zab,?_⟩
   .rw[zah (zao V Y (by intro q;cases q))];exact V
   .refine Reps.updL Y ?_ (zcw _);show Reps z H2 _ ((ds++[((i:Int),d.2.1,d.2.2)]).map pdD);rw[List.map_append];exact(L.mono O.x).append (.cons (.tup ai ar (.cons (.int _) (.cons (.str _ aq) .nil))) .nil)
theorem scPlainR:zav ["book","text","place","doors","tongue","escape","ways"] ["book","text","place","doors"] (zag zf2):=⟨J,J,J,by decide +kernel,J,by decide +kernel,by decide +kernel⟩
theorem ziD{f I:Addr}{fd S:FuncData}(F:Fun K "read_plain" "read_plain" zf2 f fd)(T:TxtB mg)(Y:W.keepIn K (.ref I)=true)(Z:Binds K S ["doors"] [])(aa:mg "tongue_within"=some (.ref I))(ab:FnOk P w K mg base CX0 1 I S ["doors"] zb5):FnOk P w K mg base CX0 2 f fd ["book","text","place","doors"] zdr:=by
 refine F.ok scPlainR (λvs H Q E h=>?_) (λcdv A outer s H vs Q E ac h=>?_)
 .obtain⟨z,v,b,q,ds,x,i,rfl,_⟩:=h;rfl
 .obtain⟨z,v,b,q,ds,x,i,rfl,ad,ae,⟨vs,G,U⟩,af,hi,ap,k⟩:=h;obtain⟨a,xs,rfl,aq,ag,ar,R⟩:=zb3 ad;obtain⟨ah,as,au,_⟩:=ae;have J0:=scPlainR.nd;have av:=zaW;have aw:(100000:Nat)<=sizeLine:=by rw[sizeLine_eq];decide
  have L:vs.length=ds.length:=by have:=U.length;simpa using this
  refine⟨_,zac (zan (i:=4) J0 J (Or.inl J) (zat ab ac J aa Y Z .nil pass0 (zaa (pv 3) zae)))
   (zac (zbw (zay zaE (pv 0) (pv 4) (λ_ _=>rfl)) (zbG J (zas (zaq (i:=5) J0 J (Or.inl J)) (zas (zaq (i:=6) J0 J (Or.inl J)) za2))))
   (zac (za9 (zau zg4 (zay zkj (pv 1) (pv 2) (λ_ _=>rfl)) (pv 5) (zaz _)) (zai (zaw (zaV (zaa (pv 2) (zaa zaf (zaa zaH (zaa (pv 4) (zaa (zar zaF (by rfl) T.len b_len (zaa (pv 3) zae)) zae)))))))) zaC)
   (zac (za9 (zau zd6 (zax zaT (pv 2) zaf) (zar zap (by rfl) T.len b_len (zaa (pv 1) zae)) (zaz _)) (zai (zaw (zaV (zaa (pv 2) (zaa zaf (zaa zaH (zaa (pv 4) (zaa (zar zaF (by rfl) T.len b_len (zaa (pv 3) zae)) zae)))))))) zaC)
   (zai (zaw (zaV (zaa (pv 2) (zaa zaf (zaa zaH (zaa (pv 4) (zaa (zar zaF (by rfl) T.len b_len (zaa (pv 3) zae)) zae))))))))))),?_⟩
  dsimp only[cxOf,Cx.nox,Cx.wish];have ai:x.cps.toList[i]?=some (x.cps.getD i 0):=by
   have:i<x.cps.size:=hi;simp[Array.getD,this]
  obtain⟨B,V,aj⟩:=zba af ah;obtain⟨c,d,ys,ak,ax,ay,al,az,aA,aB⟩:=zbq (zbi (b:=b) (i:=B) R aj);have am:xs[B]?=some (.ref c):=by
   have h1:B<xs.length:=by omega
   have h2:xs.getD B .non=xs[B]:=by simp[h1]
   rw[List.getElem?_eq_getElem h1,←h2,ak]
  have ao:b.getD (zam ds).toNat tg0=b.getD B tg0:=by rw[V];rfl
  unfold zgL at k;rw[ao] at k;refine⟨_,J,z,q,ds,J,⟨_,G,U⟩,?_⟩;refine⟨_,J,_,J,a,xs,zam ds,_,J,J,SqT.of ag,by rw[V];exact zal am,c,_,J,SqT.of al,J,_,_,J,_,_,J,J,?_⟩;refine⟨_,J,_,J,x,i,_,J,J,by omega,zal ai,_,J,J,_,J,?_⟩;refine ite2 (λg=>?_) (λg=>?_)
  .have M:¬(⟨#[x.cps.getD i 0]⟩:Str)=(b.getD B tg0).1:=λe=>by rw[e] at g;simp at g
   rw[if_neg M] at k;refine⟨_,J,_,J,_,J,q,_,J,.inl (SqL.of G),by show (5:Nat)<=_;omega,λp D=>?_⟩;refine k p _ (Same.new D) D ?_;rw[zab,L];rfl
  .have M:(⟨#[x.cps.getD i 0]⟩:Str)=(b.getD B tg0).1:=by simpa using g
   rw[if_pos M] at k;refine⟨_,J,_,_,J,J,_,J,x,J,by omega,_,_,J,J,_,J,?_⟩;refine ite2 (λO=>?_) (λO=>?_)
   .have h2:i+1<x.length:=by have:=of_decide_eq_true O;omega
    rw[if_pos h2] at k;refine⟨_,J,_,J,_,J,q,_,J,.inl (SqL.of G),by show (5:Nat)<=_;omega,λp D=>?_⟩;refine k p _ (Same.new D) D ?_;rw[zab,L];rfl
   .have h2:¬i+1<x.length:=λh=>O (decide_eq_true (by omega));rw[if_neg h2] at k;refine⟨_,J,_,J,_,J,q,_,J,.inl (SqL.of G),by show (5:Nat)<=_;omega,λp D=>?_⟩;refine k p _ (Same.new D) D ?_;rw[zab,L];rfl
theorem zcx{x:Str}{i k:Nat}(h:i+k<=x.length):cutS x (some (i:Int)) (some ((i:Int)+(k:Int)))=⟨x.cps.extract i (i+k)⟩:=by
 have e:((i:Int)+(k:Int))=((i+k:Nat):Int):=by omega
 rw[e];unfold cutS;rw[HT.sIx_nat,HT.sIx_nat,Nat.min_eq_left h,Nat.min_eq_left (by omega)];congr 1;apply Array.ext';simp[Array.toList_extract,List.extract_eq_drop_take]
theorem zcn{x m:Str}{i:Nat}(hi:i<=x.length):stAt x m i=fitAt x i m:=by
 cases g:fitAt x i m with
 |true=>
  have B:=zf3 g hi;have a:=of_decide_eq_true g;have a:cutS x (some (i:Int)) (some ((i:Int)+m.length))=m:=by injection a
  rw[zcx B] at a;have D:x.cps.extract i (i+m.length)=m.cps:=congrArg Str.cps a;unfold stAt Builtin.Str.subAt;rw[decide_eq_true B,D];simp
 |false=>
  cases g2:stAt x m i with
  |false=>rfl
  |true=>
   exfalso;unfold stAt Builtin.Str.subAt at g2;rw[Bool.and_eq_true] at g2;have B:=of_decide_eq_true g2.1;have D:x.cps.extract i (i+m.length)=m.cps:=by simpa using g2.2
   have:fitAt x i m=true:=by
    unfold fitAt;rw[zcx B,D];simp
   rw[g] at this;cases this
theorem ziE{x m:Str}{i:Nat}(hi:i<=x.length)(h:fitAt x i m=true)(G:1<=m.length):x.cps.getD i 0∈m.cps.toList:=by
 have D:=zf3 h hi;have a:=of_decide_eq_true h;have a:cutS x (some (i:Int)) (some ((i:Int)+m.length))=m:=by injection a
 rw[zcx D] at a;have F:x.cps.extract i (i+m.length)=m.cps:=congrArg Str.cps a;rw[←F];have I:i+m.length<=x.cps.size:=D;have B:i<x.cps.size:=by omega
 rw[Array.toList_extract,List.extract_eq_drop_take];have e:x.cps.getD i 0=x.cps.toList[i]'(by simpa using B):=by simp[Array.getD,B]
 rw[e,List.drop_eq_getElem_cons (by simpa using B)];have:i+m.length-i=(m.length-1)+1:=by omega
 rw[this,List.take_succ_cons];exact List.mem_cons_self
theorem zgM{b:Bk}(B:BkOk b){t:Tg}(D:t∈b){m:Str}(F:m∈zik b){c:Nat}(G:c∈m.cps.toList):(⟨#[c]⟩:Str)≠t.1:=λe=>by
 have h:=B.2.2.2;unfold bookB at h;simp only[Bool.and_eq_true,Bool.not_eq_true'] at h;have h2:=h.1.2;unfold escB at h2;rw[List.any_eq_false] at h2;have I:=h2 m F;apply I;unfold escIn;rw[List.any_eq_true];refine⟨c,G,?_⟩;rw[List.any_eq_true];exact⟨t.1,List.mem_map_of_mem D,by rw[e];exact beq_self_eq_true _⟩
theorem zej{b:Bk}{ds:List LDr}(F:LdBk b ds){m:Str}(hm:m∈someL b ds):m∈zik b:=by
 unfold someL at hm;rcases List.mem_append.mp hm with hm|hm
 .obtain⟨dd,B,rfl⟩:=List.mem_map.mp hm;by_cases D:(zam ds).toNat<b.length
  .exact List.mem_flatMap.mpr ⟨_,zaR tg0 D,List.mem_flatMap.mpr ⟨dd,B,List.mem_cons_self⟩⟩
  .have e:b.getD (zam ds).toNat tg0=tg0:=by simp[D]
   rw[e] at B;cases B
 .obtain⟨dd,B,rfl⟩:=List.mem_map.mp hm;obtain⟨t,G,I,J0,M,L⟩:=F dd (List.mem_of_mem_drop B);rw[L];exact List.mem_flatMap.mpr ⟨t,G,List.mem_flatMap.mpr ⟨I,J0,List.mem_cons_of_mem _ List.mem_cons_self⟩⟩
theorem zcc{b:Bk}{ds:List LDr}{y:Mk}(h:y∈possL b ds):y.1∈someL b ds:=by
 unfold possL at h;unfold someL;rcases List.mem_append.mp h with h|h
 .obtain⟨d,B,rfl⟩:=List.mem_map.mp h;exact List.mem_append_right _ (List.mem_map_of_mem B)
 .obtain⟨d,B,rfl⟩:=List.mem_map.mp h;exact List.mem_append_left _ (List.mem_map_of_mem B)
theorem zcM{b:Bk}{ds:List LDr}{m:Str}(h:m∈someL b ds):∃y∈possL b ds,y.1=m:=by
 unfold someL at h;unfold possL;rcases List.mem_append.mp h with h|h
 .obtain⟨d,B,rfl⟩:=List.mem_map.mp h;exact⟨_,List.mem_append_right _ (List.mem_map_of_mem B),J⟩
 .obtain⟨d,B,rfl⟩:=List.mem_map.mp h;exact⟨_,List.mem_append_left _ (List.mem_map_of_mem B),J⟩
theorem ziF{b:Bk}{ds:List LDr}{x:Str}{i:Nat}{m:Str}{o:Option Dr}{r:List Mk}(F:m≠Str.ofString "")(G:(⟨#[x.cps.getD i 0]⟩:Str)≠(b.getD (zam ds).toNat tg0).1)(h:(possL b ds).filter (λy=>y.1==m)=(m,o)::r):stepL b ds x i m=takeL ds i m o:=by
 unfold stepL;rw[if_neg (λq=>G q.2),if_neg F];unfold possL at h;rw[List.filter_append,List.filter_map,List.filter_map] at h;by_cases B:ds≠[]/\m=(ds.getD (ds.length-1) ld0).2.2
 .rw[if_pos B];have I:0<ds.length:=List.length_pos_iff.mpr B.1;rw[zfx I] at h;have:((ds.getD (ds.length-1) ld0).2.2==m)=true:=by rw[←B.2];exact beq_self_eq_true _
  have D:[ds.getD (ds.length-1) ld0].filter ((λy:Mk=>y.1==m)∘λd:LDr=>((d.2.2,none):Mk))=[ds.getD (ds.length-1) ld0]:=by
   rw[List.filter_cons_of_pos]
   .rfl
   .exact this
  rw[D] at h;have h':(((ds.getD (ds.length-1) ld0).2.2,none):Mk)=(m,o):=(List.cons.inj h).1;have:o=none:=by injection h' with _ q;exact q.symm
  subst this;rfl
 .rw[if_neg B];have D:(lastL ds).filter ((λy:Mk=>y.1==m)∘λd:LDr=>((d.2.2,none):Mk))=[]:=by
   rw[List.filter_eq_nil_iff];intro d J0 q;have q:(d.2.2==m)=true:=q;have q:=eq_of_beq q;exact B (zei (List.mem_map.mpr ⟨d,J0,q⟩))
  rw[D] at h;have L:((λy:Mk=>y.1==m)∘λd:Dr=>((d.1,some d):Mk))=λd:Dr=>d.1==m:=rfl;rw[L] at h;cases g:(b.getD (zam ds).toNat tg0).2.filter (λd=>d.1==m) with
  |nil=>
   rw[g] at h;cases h
  |cons d M=>
   rw[g] at h;have h':((d.1,some d):Mk)=(m,o):=(List.cons.inj h).1;have:o=some d:=by injection h' with _ q;exact q.symm
   subst this;rfl
theorem zhl{b:Bk}{ds:List LDr}{x:Str}{i:Nat}(hi:i<x.length)(h:fitsP b ds x i=[]):stepL b ds x i (bestL b ds x i)=(zgL b ds x i,ds):=by
 have D:fitL b ds x i=[]:=by
  unfold fitL;rw[List.filter_eq_nil_iff];intro m F q;obtain⟨y,G,rfl⟩:=zcM F;unfold fitsP at h;rw[List.filter_eq_nil_iff] at h;apply h y G;rw[zcn (by omega)];exact q
 have I:bestL b ds x i=Str.ofString "":=by unfold bestL;rw[D,za3];rfl
 rw[I];unfold stepL zgL;by_cases B:(⟨#[x.cps.getD i 0]⟩:Str)=(b.getD (zam ds).toNat tg0).1
 .have J0:(b.getD (zam ds).toNat tg0).1≠Str.ofString "":=λe=>by
   rw[e,za3] at B;have:(#[x.cps.getD i 0]:Array Nat)=#[]:=congrArg Str.cps B;simp at this
  rw[if_pos ⟨J0,B⟩,if_pos B];by_cases h1:i+1=x.length
  .rw[if_pos h1,if_neg (by omega)]
  .rw[if_neg h1,if_pos (by omega)]
 .rw[if_neg (λq=>B q.2),if_pos J,if_neg B]
theorem zfz{l:List Mk}{j:Nat}{y:Mk}(D:l[j]?=some y)(F:∀B,B<j->∀y',l[B]?=some y'->y'.1.length<y.1.length):∃r,l.filter (λz=>z.1==y.1)=y::r:=by
 induction l generalizing j with
 |nil=>simp at D
 |cons a l G=>
  cases j with
  |zero=>
   have:a=y:=by simpa using D
   subst this;exact⟨_,List.filter_cons_of_pos (p:=λz:Mk=>z.1==a.1) (beq_self_eq_true a.1)⟩
  |succ j=>
   have I:=F 0 (by omega) a rfl;have J0:¬(a.1==y.1)=true:=λq=>by
    have:=eq_of_beq q;rw[this] at I;omega
   rw[List.filter_cons_of_neg (p:=λz:Mk=>z.1==y.1) J0];exact G (by simpa using D) λB M y' L=>F (B+1) (by omega) y' (by simpa using L)
theorem zfA{b:Bk}{ds:List LDr}{x:Str}{i:Nat}(M:BkOk b)(O:LdBk b ds)(hi:i<x.length){j:Nat}{y:Mk}(R:(fitsP b ds x i)[j]?=some y)(S:∀B y',(fitsP b ds x i)[B]?=some y'->y'.1.length<=y.1.length/\(B<j->y'.1.length<y.1.length)):stepL b ds x i (bestL b ds x i)=takeL ds i y.1 y.2:=by
 have U:=M.2.2.1;have V:=List.mem_of_getElem? R;have D:y∈possL b ds:=(List.mem_filter.mp V).1;have W:stAt x y.1 i=true:=(List.mem_filter.mp V).2;have F:fitAt x i y.1=true:=by rw[←zcn (by omega)];exact W
 have Y:=zb4 (x:=x) (i:=i) U (O.ok U);have G:y.1∈fitL b ds x i:=List.mem_filter.mpr ⟨zcc D,F⟩;have ab:bestL b ds x i=y.1:=by
  unfold bestL;rcases zbs (l:=fitL b ds x i) λm ac=>Y m (List.mem_filter.mp ac).1 with⟨h1,_⟩|⟨h1,h2⟩
  .rw[h1] at G;cases G
  .have I:=List.mem_filter.mp h1;obtain⟨y',J0,e⟩:=zcM I.1;have:y'∈fitsP b ds x i:=List.mem_filter.mpr ⟨J0,by rw[e,zcn (by omega)];exact I.2⟩;obtain⟨B,L⟩:=List.getElem?_of_mem this;have ad:=(S B y' L).1;rw[e] at ad;have ah:=h2 y.1 G;exact zks I.2 F (by omega)
 rw[ab];have Z:=Y y.1 (zcc D);obtain⟨r,ae⟩:=zfz R λB L y' J0=>(S B y' J0).2 L;have af:(possL b ds).filter (λz=>z.1==y.1)=(y.1,y.2)::r:=by
  rw[←ae];unfold fitsP;rw[List.filter_filter];refine List.filter_congr λz _=>?_;cases g:z.1==y.1 with
  |false=>rfl
  |true=>
   rw[eq_of_beq g,W];rfl
 refine ziF (λe=>?_) (λe=>?_) af
 .have:=Z.1;rw[e,za3] at this;exact absurd this (by decide)
 .by_cases aa:(zam ds).toNat<b.length
  .exact zgM M (zaR tg0 aa) (zej O (zcc D)) (ziE (by omega) F Z.1) e
  .have ag:b.getD (zam ds).toNat tg0=tg0:=by simp[aa]
   rw[ag] at e;have:(#[x.cps.getD i 0]:Array Nat)=#[]:=congrArg Str.cps e;simp at this
end T1
namespace L2
open PySem PySem.Spec PyProof.Rows
section
variable {P:Program}{w:World}{K:W.Frag}{mg:Str->Option Value}{base:Heap}
theorem Fun.okC{x B:Str}{st:Stmt}{f c:Addr}{fd:FuncData}{N ps:List Str}{k:Nat}{sp:Sp}(F:Fun K x B st f fd)(D:fd.code=.ref c)(S:zav N ps (zag st))(G:∀vs H Q E,sp vs H Q E->vs.length=ps.length)(I:∀(A:Around) (outer:List Env) (s:Shared) (H:Hp) (vs:List V) (Q:VK) (E:XK),Room k (A.deeper (envOfC B (zag st) s.heap.objs.size f (.ref c)))->sp vs H Q E ->
   ∃t,PSs (cxOf CX0 P w K mg base N B (zag st) f (.ref c) A outer s H E).nox (zbA st) t/\t { nx:=λ_ H'=>Q .non H',rt:=Q } (start N vs) H):FnOk P w K mg base CX0 (k+1) f fd ps sp:=by
 obtain⟨oc,od,kV,doc,pm,an,cdv,ct,osl,rfl,J0,L⟩:=F.ex;have D:cdv=.ref c:=D;subst D;refine zlC J0 L S G λA outer s H vs Q E M O=>?_;obtain⟨t,h,q⟩:=I A outer s H vs Q E M O;exact⟨t,h.nox,q⟩
end
end L2
namespace T1
open PySem L2
variable {P:Program}{w:World}{K:W.Frag}{mg:Str->Option Value}{base:Heap}
noncomputable abbrev lamQ:Str:=(Str.ofString "read_step"++Str.ofString ".<locals>.")++Str.ofString "<lambda>"
noncomputable abbrev LamTb(tb:Addr)(H:Hp):Prop:=LamT tb lamLn lamCl lamQ H
theorem _root_.L2.LamT.same{P:Addr}{B cl:Nat}{q:Str}{H H':Hp}(h:LamT P B cl q H)(s:Same H H'):LamT P B cl q H':=by
 rcases h with h|⟨D,h1,h2⟩
 .exact .inl (s _ _ h)
 .exact .inr ⟨D,s _ _ h1,s _ _ h2⟩
theorem _root_.L2.LamT.sameX{P p:Addr}{D cl:Nat}{q:Str}{H H':Hp}{l:List V}(h:LamT P D cl q H)(B:H p=some (.lst l))(s:SameX p H H'):LamT P D cl q H':=by
 rcases h with h|⟨F,h1,h2⟩
 .exact .inl (s _ _ (zao h B (by intro q;cases q)) h)
 .exact .inr ⟨F,s _ _ (zao h1 B (by intro q;cases q)) h1,s _ _ (zao h2 B (by intro q;cases q)) h2⟩
mutual
theorem Rep.butT{z P:Addr}{H H':Hp}{ps:Array Value}(B:H P=some (.tbl ps))(s:ButX P H H'):∀ {v:V}{d:D},Rep z H v d->Rep z H' v d
 |_,_,.non=>.non
 |_,_,.bl b=>.bl b
 |_,_,.int i=>.int i
 |_,_,.str x h=>.str x h
 |_,_,.tup h F r=>.tup (s _ _ (zao h B (by intro q;cases q)) h) F (Reps.butT B s r)
 |_,_,.lst h F r=>.lst (s _ _ (zao h B (by intro q;cases q)) h) F (Reps.butT B s r)
theorem Reps.butT{z P:Addr}{H H':Hp}{ps:Array Value}(B:H P=some (.tbl ps))(s:ButX P H H'):∀ {vs:List V}{ds:List D},Reps z H vs ds->Reps z H' vs ds
 |_,_,.nil=>.nil
 |_,_,.cons h t=>.cons (Rep.butT B s h) (Reps.butT B s t)
end
noncomputable def But2(q t:Addr)(H H':Hp):Prop:=∀b o,b≠q->b≠t->H b=some o->H' b=some o
inductive zc7(tb:Addr):List V->Hp->VK->XK->Prop where
 |mk {vs:List V} {H:Hp} {Q:VK} {E:XK} (z v b q ds x:_) (i:Nat) (c1:vs=[v,.str x,.int i,.ref q]) (c2:Bag z H) (c3:q≠z) (c4:Rep z H v (bkD b)) (c5:BkOk b) (c6:PDs z H q ds) (c7:LdBk b ds) (c8:i<x.length) (c9:x.length<=20000) (c10:ds.length<=20000) (c11:LamTb tb H) (c12:∀p H',But2 q tb H H'->H p=none->H' p=some (.tup (stV (stepL b ds x i (bestL b ds x i)).1))->PDs z H' q (stepL b ds x i (bestL b ds x i)).2->LamTb tb H'->Q (.ref p) H'):zc7 tb vs H Q E
theorem scStepP:zav ["book","text","place","doors","fits","mark","door"] ["book","text","place","doors"] (zag sStep):=⟨J,J,J,by decide +kernel,J,by decide +kernel,by decide +kernel⟩
theorem zjI{f c tb U V Y:Addr}{fd aj ak al:FuncData}(F:Fun K "read_step" "read_step" sStep f fd)(aF:fd.code=.ref c)(aG:W.codeHdIn K c tb=true)(aH:base.BuiltinsAt mg tb)(T:TxtB mg)(aI:mg "max"=none)(aJ:W.keepIn K (.ref U)=true)(aK:Binds K aj ["book","text","place","doors"] [])(aL:mg "fitting_marks"=some (.ref U))(aM:FnOk P w K mg base CX0 3 U aj ["book","text","place","doors"] zgK)(aN:W.keepIn K (.ref V)=true)(aO:Binds K ak ["book","text","place","doors"] [])(aP:mg "read_plain"=some (.ref V))(aQ:FnOk P w K mg base CX0 2 V ak ["book","text","place","doors"] zdr)(aR:W.keepIn K (.ref Y)=true)(aS:Binds K al ["mark","door","place","doors"] [])(aT:mg "take_mark"=some (.ref Y))(aU:FnOk P w K mg base CX0 2 Y al ["mark","door","place","doors"] zeL):FnOk P w K mg base CX0 4 f fd ["book","text","place","doors"] (zc7 tb):=by
 refine F.okC aF scStepP (λvs H Q E h=>?_) (λA outer s H vs Q E M h=>?_)
 .obtain⟨z,v,b,q,ds,x,i,rfl,_⟩:=h;rfl
 .obtain⟨z,v,b,q,ds,x,i,rfl,am,aV,ao,O,R,ap,hi,aW,aX,aq,k⟩:=h;have Z:=scStepP.nd;have aY:=O.2.2.1;have ar:=ap.ok aY;refine⟨_,zac (zan (i:=4) Z J (Or.inl J) (zat aM M J aL aJ aK .nil pass0 (zaa (pv 0) (zaa (pv 1) (zaa (pv 2) (zaa (pv 3) zae))))))
   (zac (za9 (zgn (zdj (pv 4) (λ_=>rfl))) (zai (zaw (zat (aQ.mono (by omega)) M J aP aN aO .nil pass0 (zaa (pv 0) (zaa (pv 1) (zaa (pv 2) (zaa (pv 3) zae))))))) zaC)
   (zac (zbw (zhf (P:=tb) (c:=c) J M.in1.depth aI T.len J aG aH (pv 4) (λ_ _ _ _=>rfl)) (zbG J (zas (zaq (i:=5) Z J (Or.inl J)) (zas (zaq (i:=6) Z J (Or.inl J)) za2))))
   (zai (zaw (zat (aU.mono (by omega)) M J aT aR aS .nil pass0 (zaa (pv 5) (zaa (pv 6) (zaa (pv 2) (zaa (pv 3) zae))))))))),?_⟩
  dsimp only[cxOf,Cx.nox,Cx.wish];have bk:=zaW;refine⟨_,J,_,J,_,J,_,J,z,v,b,q,ds,x,i,J,am,ao,O,R,ar,λaZ D H1 B bl as aa=>?_⟩;have a0:D.length=(fitsP b ds x i).length:=by have:=aa.length;simpa using this
  refine⟨_,J,_,.inl ⟨D,SqL.of as,J⟩,?_⟩;refine ite2 (λg=>?_) (λg=>?_)
  .have a1:fitsP b ds x i=[]:=by
    refine List.eq_nil_of_length_eq_zero ?_;cases D with
    |nil=>simp at a0;omega
    |cons _ _=>simp at g
   have ab:=zhl (b:=b) (ds:=ds) hi a1;rw[ab] at k;refine⟨_,J,_,J,_,J,_,J,z,v,b,q,ds,x,i,J,ao.mono B.x,O,R.same B,ar,hi,aW,λp H2 ac G ad=>?_⟩;exact k p H2 (λJ0 o _ _ e=>(B.trans ac) J0 o e) (B.free G) ad (R.same (B.trans ac)) (aq.same (B.trans ac))
  .have a2:0<D.length:=by
    cases D with
    |nil=>simp at g
    |cons _ _=>simp
   have au:=aq.same B;refine⟨_,J,aZ,D,(λj=>((fitsP b ds x i).getD j mk0).1),J,as,a2,(λj L=>?_),au,λH2 j y I av L a3=>?_⟩
   .obtain⟨a,u,e,a4,ae,af,aw⟩:=zgJ (zeK (ms:=fitsP b ds x i) (i:=j) aa (by omega));refine⟨a,[u],?_,ae,af⟩;have h2:D.getD j .non=D[j]:=by simp[L]
    rw[List.getElem?_eq_getElem L,←h2,e]
   .obtain⟨ps,S⟩:=au.tbl;have bm:j<D.length:=(List.getElem?_eq_some_iff.mp L).1;have a5:y=D.getD j .non:=by rw[List.getD_eq_getElem?_getD,L];rfl
    have a6:=Rep.butT S I (zeK (ms:=fitsP b ds x i) (i:=j) aa (by omega));obtain⟨a,u,e,a4,ae,af,aw⟩:=zgJ a6;have ax:(fitsP b ds x i)[j]?=some ((fitsP b ds x i).getD j mk0):=by
     have h1:j<(fitsP b ds x i).length:=by omega
     simp[h1]
    have ab:=zfA O ap hi ax (λag y' ay=>by
     have h1:ag<(fitsP b ds x i).length:=(List.getElem?_eq_some_iff.mp ay).1;have:=a3 ag (by omega);have a7:(fitsP b ds x i).getD ag mk0=y':=by rw[List.getD_eq_getElem?_getD,ay];rfl
     dsimp only at this;rw[a7] at this;exact this)
    rw[ab] at k;generalize bn:(fitsP b ds x i).getD j mk0=ah at *;have az:ah∈possL b ds:=(List.mem_filter.mp (List.mem_of_getElem? ax)).1;obtain⟨vs,a8,a9⟩:=R;have aA:=B _ _ a8;have aB:=I _ _ (zao aA S (by intro q;cases q)) aA;have ba:=Reps.butT S I (a9.mono B.x);have bb:Bag z H2:=by
     obtain⟨bc,bd,aC⟩:=am.same B;exact⟨bc,bd,I _ _ (zao aC S (by intro q;cases q)) aC⟩
    rw[a5,e];refine⟨a,_,J,SqT.of ae,J,_,_,J,_,_,J,J,?_⟩;refine⟨_,J,_,J,_,J,_,J,z,ah.1,u,ah.2,i,q,ds,J,bb,aV,aw,af,⟨vs,aB,ba⟩,aX,λaD=>?_,λp be aE G ad bf=>?_⟩
    .have bg:0<ds.length:=by
      unfold possL at az;rcases List.mem_append.mp az with h|h
      .obtain⟨d,ai,_⟩:=List.mem_map.mp h;exact List.length_pos_iff.mpr (λq=>by rw[q] at ai;cases ai)
      .obtain⟨d,ai,bh⟩:=List.mem_map.mp h;rw[←bh] at aD;cases aD
     exact bg
    .refine k p be (λJ0 o n1 n2 bi=>aE J0 o n1 (I J0 o n2 (B J0 o bi))) ?_ ad bf (av.sameX aB aE);cases e4:H p with
     |none=>rfl
     |some o=>
      have:H2 p=some o:=by
       refine I p o (λz=>?_) (B p o e4);subst z;obtain⟨bo,bj⟩:=av.tbl;rw[bj] at G;cases G
      rw[this] at G;cases G
mutual
theorem Rep.but2{z q t:Addr}{H H':Hp}{l:List V}{ps:Array Value}(B:H q=some (.lst l))(F:H t=some (.tbl ps))(s:But2 q t H H'):∀ {v:V}{d:D},Rep z H v d->NoL d->Rep z H' v d
 |_,_,.non,_=>.non
 |_,_,.bl b,_=>.bl b
 |_,_,.int i,_=>.int i
 |_,_,.str x h,_=>.str x h
 |_,_,.tup h G r,.tup k=>.tup (s _ _ (zao h B (by intro q;cases q)) (zao h F (by intro q;cases q)) h) G (Reps.but2 B F s r k)
theorem Reps.but2{z q t:Addr}{H H':Hp}{l:List V}{ps:Array Value}(B:H q=some (.lst l))(F:H t=some (.tbl ps))(s:But2 q t H H'):∀ {vs:List V}{ds:List D},Reps z H vs ds->NoLs ds->Reps z H' vs ds
 |_,_,.nil,_=>.nil
 |_,_,.cons h k,.cons h' I=>.cons (Rep.but2 B F s h h') (Reps.but2 B F s k I)
end
noncomputable def runIt(b:Bk)(x:Str)(r:RunSt):Nat->RunSt
 |0=>r
 |n+1=>zaQ b x (runIt b x r n)
theorem zcN(b:Bk)(x:Str)(n:Nat):∀k,runF b x (n+k)=runIt b x (runF b x n) k
 |0=>rfl
 |k+1=>by
  show zaQ b x (runF b x (n+k))=zaQ b x (runIt b x (runF b x n) k);rw[zcN b x n k]
theorem zcy(b:Bk)(x:Str):∀n,runF b x n=runIt b x ⟨0,[],[]⟩ n
 |0=>rfl
 |n+1=>by
  show zaQ b x (runF b x n)=zaQ b x _;rw[zcy b x n]
theorem ziG{b:Bk}{x:Str}{r:RunSt}{n:Nat}(h:(runIt b x r n).at_<x.length):runIt b x r (n+1)=⟨(runIt b x r n).at_+((stepL b (runIt b x r n).ds x (runIt b x r n).at_ (bestL b (runIt b x r n).ds x (runIt b x r n).at_)).1.2.1).toNat,(stepL b (runIt b x r n).ds x (runIt b x r n).at_ (bestL b (runIt b x r n).ds x (runIt b x r n).at_)).2,(runIt b x r n).ss++[(stepL b (runIt b x r n).ds x (runIt b x r n).at_ (bestL b (runIt b x r n).ds x (runIt b x r n).at_)).1]⟩:=by
 show zaQ b x (runIt b x r n)=_;unfold zaQ;rw[if_pos h]
theorem zlU{b:Bk}{x:Str}{r:RunSt}{n:Nat}(h:¬(runIt b x r n).at_<x.length):runIt b x r (n+1)=runIt b x r n:=by
 show zaQ b x (runIt b x r n)=_;unfold zaQ;rw[if_neg h]
structure ItOk2(b:Bk)(x:Str)(ds0:List LDr)(r:RunSt):Prop where
 le:r.at_<=x.length
 bk:LdBk b r.ds
 dl:r.ds.length<=ds0.length+r.at_
 sl:r.ss.length<=r.at_
 sum:(r.ss.map (·.2.1)).sum=(r.at_:Int)
theorem zeM{b:Bk}{x:Str}{ds0:List LDr}(D:∀t∈b,TgOk b.length t)(F:1<=b.length)(G:LdBk b ds0):∀n,ItOk2 b x ds0 (runIt b x ⟨0,ds0,[]⟩ n)
 |0=>⟨Nat.zero_le _,G,Nat.le_refl _,Nat.zero_le _,J⟩
 |n+1=>by
  have B:=zeM (x:=x) D F G n;by_cases h:(runIt b x ⟨0,ds0,[]⟩ n).at_<x.length
  .rw[ziG h];have P:=zaM (x:=x) D B.bk F h;obtain⟨J0,L,M,O,I⟩:=B;generalize runIt b x ⟨0,ds0,[]⟩ n=r at *;revert P;generalize stepL b r.ds x r.at_ (bestL b r.ds x r.at_)=st;intro P;have h1:1<=st.1.2.1:=P.1;have R:(r.at_:Int)+st.1.2.1<=x.length:=P.2.2.1;have S:st.2.length<=r.ds.length+1:=P.2.2.2.2.1;refine⟨?_,P.2.2.2.1,?_,?_,?_⟩
   .show r.at_+st.1.2.1.toNat<=x.length;omega
   .show st.2.length<=ds0.length+(r.at_+st.1.2.1.toNat);omega
   .show (r.ss++[st.1]).length<=r.at_+st.1.2.1.toNat;rw[List.length_append];show r.ss.length+1<=_;omega
   .show ((r.ss++[st.1]).map (·.2.1)).sum=((r.at_+st.1.2.1.toNat:Nat):Int);rw[List.map_append,List.sum_append,I];show (r.at_:Int)+(st.1.2.1+0)=_;omega
  .rw[zlU h];exact B
noncomputable def SamePd(ds B:List LDr):Prop:=ds.map (·.2)=B.map (·.2)
theorem SamePd.len{ds B:List LDr}(h:SamePd ds B):ds.length=B.length:=by have:=congrArg List.length h;simpa using this
theorem SamePd.nil{ds B:List LDr}(h:SamePd ds B):ds=[]↔B=[]:=by
 have:=h.len;rw[←List.length_eq_zero_iff,←List.length_eq_zero_iff,this]
theorem SamePd.get{ds B:List LDr}(h:SamePd ds B)(i:Nat):(ds.getD i ld0).2=(B.getD i ld0).2:=by
 have e:=h.len;by_cases hi:i<ds.length
 .have h1:(ds.map (·.2))[i]?=(B.map (·.2))[i]?:=by rw[h]
  rw[List.getElem?_map,List.getElem?_map,List.getElem?_eq_getElem hi,List.getElem?_eq_getElem (by omega)] at h1;rw[List.getD_eq_getElem?_getD,List.getD_eq_getElem?_getD,List.getElem?_eq_getElem hi,List.getElem?_eq_getElem (by omega)];exact Option.some.inj h1
 .rw[List.getD_eq_getElem?_getD,List.getD_eq_getElem?_getD,List.getElem?_eq_none (by omega),List.getElem?_eq_none (by omega)]
theorem zfB(ds:List LDr):zam ds=match (ds.map (·.2)).getLast? with|some d=>d.1|none=>0:=by
 unfold zam;rw[List.getLast?_map];cases ds.getLast?<;>rfl
theorem SamePd.tongue{ds B:List LDr}(h:SamePd ds B):zam ds=zam B:=by rw[zfB,zfB,h]
theorem SamePd.drop{ds B:List LDr}(h:SamePd ds B):SamePd ds.dropLast B.dropLast:=by
 unfold SamePd;rw[List.map_dropLast,List.map_dropLast,h]
theorem SamePd.some{b:Bk}{ds B:List LDr}(h:SamePd ds B):someL b ds=someL b B:=by
 unfold someL lastL;have e:∀l:List LDr,(l.drop (l.length-1)).map (·.2.2)=((l.map (·.2)).drop (l.length-1)).map (·.2):=λl=>by
  rw[←List.map_drop,List.map_map];rfl
 rw[h.tongue,e ds,e B,h,h.len]
theorem ziH{B:Type}(l:List B)(i k:Nat):(l.drop (min i l.length)).take (min (i+k) l.length-min i l.length)=(l.drop i).take k:=by
 by_cases h:i<=l.length
 .rw[Nat.min_eq_left h];by_cases h2:i+k<=l.length
  .rw[Nat.min_eq_left h2,Nat.add_sub_cancel_left]
  .rw[Nat.min_eq_right (by omega),List.take_of_length_le (by simp),List.take_of_length_le (by simp;omega)]
 .rw[Nat.min_eq_right (by omega),Nat.min_eq_right (by omega),List.drop_eq_nil_of_le (Nat.le_refl _),List.drop_eq_nil_of_le (by omega)];simp
theorem zcd{a c:Str}(h:a.cps.toList=c.cps.toList):a=c:=by
 obtain⟨⟨a⟩⟩:=a;obtain⟨⟨c⟩⟩:=c;have h:a=c:=h;rw[h]
theorem zak(x:Str):x.cps.toList.length=x.length:=by simp;rfl
theorem zco(x:Str)(i k:Nat):(cutS x (some (i:Int)) (some ((i:Int)+(k:Int)))).cps.toList=(x.cps.toList.drop i).take k:=by
 unfold cutS;have e:((i:Int)+(k:Int))=((i+k:Nat):Int):=by omega
 rw[e,HT.sIx_nat,HT.sIx_nat];show ((x.cps.toList.drop (min i x.length)).take (min (i+k) x.length-min i x.length))=_;rw[←zak];exact ziH _ _ _
theorem zbO(x:Str){i:Nat}(h:i<=x.length):(cutS x (some (i:Int)) none).cps.toList=x.cps.toList.drop i:=by
 unfold cutS;rw[HT.sIx_nat,HT.sIx_none];show ((x.cps.toList.drop (min i x.length)).take (x.length-min i x.length))=_;rw[Nat.min_eq_left h,List.take_of_length_le];rw[List.length_drop,zak];exact Nat.le_refl _
theorem zdX{x m:Str}{i:Nat}:fitAt x i m=true↔m.cps.toList <+: x.cps.toList.drop i:=by
 unfold fitAt;rw[decide_eq_true_iff,List.prefix_iff_eq_take,zak];constructor
 .intro h;have h:cutS x (some (i:Int)) (some ((i:Int)+m.length))=m:=by injection h
  rw[←zco,h]
 .intro h;congr 1;exact zcd (by rw[zco,←h])
theorem zjJ{a c:Bool}(h:a=true↔c=true):a=c:=Bool.eq_iff_iff.mpr h
theorem zcO{x:Str}{i:Nat}(h:i<x.length):x.cps.toList.drop i=x.cps.getD i 0::x.cps.toList.drop (i+1):=by
 have h1:i<x.cps.toList.length:=by rw[zak];exact h
 rw[List.drop_eq_getElem_cons h1];congr 1;have:i<x.cps.size:=h;simp[Array.getD,this]
noncomputable def restS(y:Str)(j:Nat):Str:=cutS y (some (j:Int)) none
noncomputable def sureB(b:Bk)(ds:List LDr)(y:Str)(j:Nat):Bool:=!(decide (restS y j=(b.getD (zam ds).toNat tg0).1))&&!((possL b ds).any λm=>decide ((restS y j).length<m.1.length)&&stAt m.1 (restS y j) 0)
structure Fits(b:Bk)(ds:List LDr)(x y:Str)(off j:Nat):Prop where
 sign:x.cps.getD (off+j) 0=y.cps.getD j 0
 esc:(⟨#[y.cps.getD j 0]⟩:Str)=(b.getD (zam ds).toNat tg0).1->(off+j+1=x.length↔j+1=y.length)
 fit:∀m∈someL b ds,fitAt x (off+j) m=fitAt y j m
theorem zhm{x y:Str}{pre more:List Nat}{off j:Nat}(B:x.cps.toList=pre++y.cps.toList++more)(D:pre.length=off)(F:j<=y.length):x.cps.toList.drop (off+j)=y.cps.toList.drop j++more:=by
 rw[B,List.append_assoc,←List.drop_drop,←D,List.drop_left,List.drop_append_of_le_length (by rw[zak];exact F)]
theorem zk7{b:Bk}{ds:List LDr}{x y:Str}{pre more:List Nat}{off j:Nat}(I:x.cps.toList=pre++y.cps.toList++more)(J0:pre.length=off)(B:j<y.length)(L:more=[]∨sureB b ds y j=true):Fits b ds x y off j:=by
 have D:x.length=off+y.length+more.length:=by rw[←zak,I,List.length_append,List.length_append,J0,zak]
 have F:=zhm I J0 (Nat.le_of_lt B);have O:x.cps.getD (off+j) 0=y.cps.getD j 0:=by
  rw[zcO (by omega),zcO B] at F;injection F
 have G:(restS y j).cps.toList=y.cps.toList.drop j:=zbO y (Nat.le_of_lt B);refine⟨O,λR=>?_,λm S=>?_⟩
 .rcases L with h|h
  .rw[h] at D;have D:x.length=off+y.length+0:=D;omega
  .unfold sureB at h;simp only[Bool.and_eq_true,Bool.not_eq_true',decide_eq_false_iff_not] at h;have U:=h.1;have Z:j+1<y.length:=by
    by_cases V:j+1<y.length
    .exact V
    .exfalso;apply U;rw[←R];refine zcd ?_;rw[G,zcO B,List.drop_eq_nil_of_le (by rw[zak];omega)]
   omega
 .refine zjJ ?_;rw[zdX,zdX,F];constructor
  .intro h;by_cases W:m.cps.toList.length<=(y.cps.toList.drop j).length
   .exact List.prefix_of_prefix_length_le h (List.prefix_append _ _) W
   .rcases L with e|e
    .rw[e,List.append_nil] at h;exact h
    .exfalso;unfold sureB at e;simp only[Bool.and_eq_true,Bool.not_eq_true',decide_eq_false_iff_not] at e;have M:=e.2;rw[List.any_eq_false] at M;obtain⟨p,Y,rfl⟩:=zcM S;apply M p Y;rw[Bool.and_eq_true];refine⟨decide_eq_true ?_,?_⟩
     .rw[←zak,←zak,G];omega
     .rw[zcn (Nat.zero_le _),zdX,G,List.drop_zero];exact List.prefix_of_prefix_length_le (List.prefix_append _ _) h (by omega)
  .intro h;exact h.trans (List.prefix_append _ _)
noncomputable def mvS(d:Int)(s:Stp):Stp:=(s.1+d,s.2)
theorem zk8{b:Bk}{ds D:List LDr}{x y:Str}{off j:Nat}{m:Str}(B:SamePd ds D)(F:Fits b D x y off j):(stepL b ds x (off+j) m).1=mvS off (stepL b D y j m).1/\SamePd (stepL b ds x (off+j) m).2 (stepL b D y j m).2:=by
 have M:=B.tongue;have O:=B.len;have G:((off+j:Nat):Int)=(j:Int)+(off:Int):=by omega
 unfold stepL;rw[M,F.sign,O];split
 .rename_i h;have J0:=F.esc h.2;by_cases h1:j+1=y.length
  .rw[if_pos h1,if_pos (J0.mpr h1)];exact⟨by unfold mvS;rw[G],B⟩
  .rw[if_neg h1,if_neg (λq=>h1 (J0.mp q))];exact⟨by unfold mvS;rw[G],B⟩
 .split
  .exact⟨by unfold mvS;rw[G],B⟩
  .have L:(ds≠[]/\m=(ds.getD (D.length-1) ld0).2.2)↔(D≠[]/\m=(D.getD (D.length-1) ld0).2.2):=by
    rw[B.get];exact⟨λq=>⟨λe=>q.1 (B.nil.mpr e),q.2⟩,λq=>⟨λe=>q.1 (B.nil.mp e),q.2⟩⟩
   by_cases I:D≠[]/\m=(D.getD (D.length-1) ld0).2.2
   .rw[if_pos I,if_pos (L.mpr I),B.drop.tongue];exact⟨by unfold mvS;rw[G],B.drop⟩
   .rw[if_neg I,if_neg (λq=>I (L.mp q))];split
    .refine⟨by unfold mvS;rw[G],?_⟩;unfold SamePd;rw[List.map_append,List.map_append,B];rfl
    .exact⟨by unfold mvS;rw[G],B⟩
theorem zk9{b:Bk}{ds B:List LDr}{x y:Str}{off j:Nat}(D:SamePd ds B)(F:Fits b B x y off j):bestL b ds x (off+j)=bestL b B y j:=by
 unfold bestL fitL;rw[D.some];congr 1;exact List.filter_congr λm G=>F.fit m G
structure Rel(off:Nat)(S0:List Stp)(R r:RunSt):Prop where
 at_:R.at_=off+r.at_
 pd:SamePd R.ds r.ds
 ss:R.ss=S0++r.ss.map (mvS off)
theorem zjK{b:Bk}{x y:Str}{pre more:List Nat}{off:Nat}{S0:List Stp}{R r:RunSt}(B:x.cps.toList=pre++y.cps.toList++more)(D:pre.length=off)(G:r.at_<y.length)(J0:more=[]∨sureB b r.ds y r.at_=true)(h:Rel off S0 R r):Rel off S0 (zaQ b x R) (zaQ b y r):=by
 have O:x.length=off+y.length+more.length:=by rw[←zak,B,List.length_append,List.length_append,D,zak]
 have F:=zk7 (b:=b) (ds:=r.ds) B D G J0;have L:=zk9 h.pd F;obtain⟨I,M⟩:=zk8 (m:=bestL b r.ds y r.at_) h.pd F;unfold zaQ;rw[if_pos G,if_pos (by rw[h.at_];omega),h.at_,L];refine⟨?_,M,?_⟩
 .show off+r.at_+_=off+(r.at_+_);rw[I];show off+r.at_+(stepL b r.ds y r.at_ (bestL b r.ds y r.at_)).1.2.1.toNat=_;omega
 .show R.ss++[_]=_;rw[I,h.ss,List.map_append,List.append_assoc];rfl
theorem zcz{b:Bk}{x y:Str}{pre more:List Nat}{off:Nat}{S0:List Stp}{R r:RunSt}(D:x.cps.toList=pre++y.cps.toList++more)(F:pre.length=off)(h:Rel off S0 R r):∀k,(∀j,j<k->(runIt b y r j).at_<y.length/\(more=[]∨sureB b (runIt b y r j).ds y (runIt b y r j).at_=true))->Rel off S0 (runIt b x R k) (runIt b y r k)
 |0,_=>h
 |k+1,B=>zjK D F (B k (Nat.lt_succ_self _)).1 (B k (Nat.lt_succ_self _)).2 (zcz D F h k λj G=>B j (Nat.lt_succ_of_lt G))
inductive zdY:List V->Hp->VK->XK->Prop where
 |mk {vs:List V} {H:Hp} {Q:VK} {E:XK} (p d st:_) (c1:vs=[.ref p,.int d]) (c2:H p=some (.tup (stV st))) (c3:∀q H',Same H H'->H q=none->H' q=some (.tup (stV (mvS d st)))->Q (.ref q) H'):zdY vs H Q E
inductive zgN:List V->Hp->VK->XK->Prop where
 |mk {vs:List V} {H:Hp} {Q:VK} {E:XK} (z v b q ds x:_) (j:Nat) (c1:vs=[v,.str x,.int j,.ref q]) (c2:Bag z H) (c3:Rep z H v (bkD b)) (c4:BkOk b) (c5:PDs z H q ds) (c6:LdOk b ds) (c7:j<=x.length) (c8:x.length<=20000) (c9:∀H',Same H H'->Q (.bl (sureB b ds x j)) H'):zgN vs H Q E
theorem ziI(ms:List Mk):(List.range ms.length).map (λj=>V.str (ms.getD j mk0).1)=(ms.map (·.1)).map V.str:=by
 refine List.ext_getElem (by simp) λi h1 h2=>?_;have B:i<ms.length:=by simpa using h2
 simp[B]
theorem zhn{B:Type}(ms:List B)(d:B)(g:B->Bool):((List.range ms.length).map λj=>g (ms.getD j d)).any id=ms.any g:=by
 have e:(List.range ms.length).map (λj=>g (ms.getD j d))=ms.map g:=by
  refine List.ext_getElem (by simp) λi h1 h2=>?_;have D:i<ms.length:=by simpa using h2
  simp[D]
 rw[e,List.any_map];rfl
theorem scMoved:zav ["step","by","place","many","word","tongue","depth"] ["step","by"] (zag ziq):=⟨J,J,J,by decide +kernel,J,by decide +kernel,by decide +kernel⟩
theorem zjL{f:Addr}{fd:FuncData}(F:Fun K "moved" "moved" ziq f fd):FnOk P w K mg base CX0 1 f fd ["step","by"] zdY:=by
 refine F.ok scMoved (λvs H Q E h=>?_) (λcdv A outer s H vs Q E I h=>?_)
 .obtain⟨p,d,st,rfl,_⟩:=h;rfl
 .obtain⟨p,d,st,rfl,G,k⟩:=h;have B:=scMoved.nd;refine⟨_,zac (zbw (pv 0) (zbG J (zas (zaq (i:=2) B J (Or.inl J)) (zas (zaq (i:=3) B J (Or.inl J)) (zas (zaq (i:=4) B J (Or.inl J)) (zas (zaq (i:=5) B J (Or.inl J)) (zas (zaq (i:=6) B J (Or.inl J)) za2)))))))
   (zai (zaw (zaV (zaa (zax zaT (pv 2) (pv 1)) (zaa (pv 3) (zaa (pv 4) (zaa (pv 5) (zaa (pv 6) zae)))))))),?_⟩
  dsimp only[cxOf,Cx.nox,Cx.wish];have J0:=zaW;refine⟨_,J,p,_,J,SqT.of G,J,_,_,J,_,_,J,_,_,J,_,_,J,_,_,J,J,?_⟩;refine⟨_,J,_,J,_,_,J,J,_,J,_,J,_,J,_,J,by show (5:Nat)<=_;omega,λq D=>?_⟩;exact k q _ (Same.new D) D zab
theorem scSure:zav ["book","part","place","doors","rest","escape","ways","marks"] ["book","part","place","doors"] (zag zdR):=⟨J,J,J,by decide +kernel,J,by decide +kernel,by decide +kernel⟩
theorem ndMD:(["mark","door"]:List Str).Nodup:=by decide +kernel
theorem ndMR:(["mark","rest"]:List Str).Nodup:=by decide +kernel
theorem zla{f M O:Addr}{fd af ag:FuncData}(F:Fun K "is_sure" "is_sure" zdR f fd)(T:TxtB mg)(aA:W.keepIn K (.ref M)=true)(aB:Binds K af ["doors"] [])(aC:mg "tongue_within"=some (.ref M))(aD:FnOk P w K mg base CX0 1 M af ["doors"] zb5)(aE:W.keepIn K (.ref O)=true)(aF:Binds K ag ["book","doors"] [])(aG:mg "possible_marks"=some (.ref O))(aH:FnOk P w K mg base CX0 2 O ag ["book","doors"] zfw):FnOk P w K mg base CX0 3 f fd ["book","part","place","doors"] zgN:=by
 refine F.ok scSure (λvs H Q E h=>?_) (λcdv A outer s H vs Q E ah h=>?_)
 .obtain⟨z,v,b,q,ds,x,j,rfl,_⟩:=h;rfl
 .obtain⟨z,v,b,q,ds,x,j,rfl,aI,ai,aj,ak,S,D,a1,k⟩:=h;have G:=scSure.nd;have aJ:Room 1 _:=ah.mono (by decide);obtain⟨a,xs,rfl,a2,aK,a3,R⟩:=zb3 ai;obtain⟨aL,a4,al,_⟩:=id aj;refine⟨_,zac (zan (i:=4) G J (Or.inr J) (zaA zbp (pv 1) (zaD (pv 2)) zaL))
   (zac (zbw (zay zaE (pv 0) (zat aD aJ J aC aA aB .nil pass0 (zaa (pv 3) zae)) (λ_ _=>rfl)) (zbG J (zas (zaq (i:=5) G J (Or.inl J)) (zas (zaq (i:=6) G J (Or.inl J)) za2))))
   (zac (za9 (zau zb8 (pv 4) (pv 5) (zaz _)) (zai (zaw zfe)) zaC)
   (zac (zb0 (N':=["mark","door"]) (js:=[none,none]) (i:=7) J J G J (Or.inl J) (zbl (zag zdR) (by decide +kernel)) trivial
     (zbc (zat aH ah J aG aE aF .nil pass0 (zaa (pv 0) (zaa (pv 3) zae))))
     (λcl s H fp=>zex 2 rfl (zas (zaq (i:=0) ndMD J (Or.inl J) (Or.inr J)) (zas (zaq (i:=1) ndMD J (Or.inl J) (Or.inr J)) za2))) (λcl s H fp=>zbh) (λcl s H fp=>pv 0))
   (zai (zaw (zlx (zar (zjv J) (by rfl) T.any_ zl4 (zaa (za6 (N':=["mark","rest"]) (js:=[none,some 4]) J J (zbl (zag zdR) (by decide +kernel)) ⟨J,Or.inr (Or.inl J),J,trivial⟩ (zbc (pv 7)) (λcl s H fp=>zaq (i:=0) ndMR J (Or.inl J)) (λcl s H fp=>zbh)
     (λcl s H fp=>zkf (zfS zhN (zar zap (by rfl) T.len b_len (zaa (pv 0) zae)) (zar zap (by rfl) T.len b_len (zaa (pv 1) zae)) (zaz _)) (zke (zko PySem.F.plainAttrs_str PySem.F.slot_str_startswith PySem.F.type_str_startswith zeu (pv 0) (zaa (pv 1) zae))))) zae)))))))),?_⟩
  dsimp only[cxOf,Cx.nox,Cx.wish];have a5:=zaW;have a6:(100000:Nat)<=sizeLine:=by rw[sizeLine_eq];decide
  obtain⟨B,am,ao⟩:=zba S aL;have ap:(zam ds).toNat=B:=by rw[am];rfl
  obtain⟨c,d,a7,aM,a8,a9,aN,ba,bb,bc⟩:=zbq (zbi (b:=b) (i:=B) R ao);have aO:xs[B]?=some (.ref c):=by
   have h1:B<xs.length:=by omega
   have h2:xs.getD B .non=xs[B]:=by simp[h1]
   rw[List.getElem?_eq_getElem h1,←h2,aM]
  have aP:atI xs (zam ds)=some (.ref c):=by rw[am];exact zal (j:=B) aO
  refine⟨_,J,_,J,_,J,x,J,by omega,?_⟩;refine⟨_,J,_,J,z,q,ds,J,ak,a,_,_,_,J,J,SqT.of aK,aP,c,_,J,SqT.of aN,J,_,_,J,_,_,J,J,?_⟩;unfold sureB at k;rw[ap] at k;have aQ:cutS x (some (j:Int)) none=restS x j:=rfl;rw[aQ];have bd:(restS x j).length<=20000:=by
   have:=zak (restS x j);rw[show (restS x j).cps.toList=_ from zbO x D,List.length_drop,zak] at this;omega
  generalize restS x j=rs at *;refine⟨_,J,_,J,J,_,J,?_⟩;refine ite2 (λg=>?_) (λg=>?_)
  .have g':rs=(b.getD B tg0).1:=by have:=of_decide_eq_true g;injection this
   have:=k H (Same.refl _);rw[decide_eq_true g'] at this;exact this
  .have g':rs≠(b.getD B tg0).1:=λe=>g (decide_eq_true (by rw[e]));rw[decide_eq_false g'] at k;refine⟨_,J,_,J,z,.ref a,b,q,ds,J,aI,ai,aj,ak,S,λpw vs be aR bf U aq=>?_⟩;have aS:vs.length=(possL b ds).length:=by have:=aq.length;simpa using this
   have bg:(possL b ds).length<=7:=by
    have bh:=(al _ (zaR tg0 ao)).2.1;unfold possL lastL;rw[ap,List.length_append,List.length_map,List.length_map,List.length_drop];omega
   have aT:∀m∈possL b ds,m.1.length<=4:=λm aU=>(zb4 (x:=x) (i:=j) al S m.1 (zcc aU)).2;refine⟨pw,J,⟨_,SqL.of U⟩,λY ar=>?_⟩;have as:pw≠Y:=zad U ar;refine zbE (λj=>some (V.str ((possL b ds).getD j mk0).1)) (λσ=>∃Z au,σ=[Z,au]) ⟨none,none,J⟩ ar (by omega) (za7 (xs:=vs) (by rw[zah as];exact U) as) (λj σ aV C D ⟨aW,bi,hw⟩ aa ab=>?_) (λσ aV aa I=>?_)
   .subst hw;obtain⟨aX,au,e,bj,aY,bk,bl⟩:=zgJ ((zeK (ms:=possL b ds) (i:=j) aq (by omega)).mono aa.x);rw[e];refine⟨aX,_,J,SqT.of aY,J,_,_,J,_,_,J,J,?_⟩;dsimp only[tYes];rw[if_pos rfl];exact⟨_,J,ab _ _ ⟨_,_,J⟩ (Same.refl _)⟩
   .rw[zbH,aS,ziI] at I;refine⟨_,J,Y,J,⟨_,SqL.of I⟩,λav aw=>?_⟩;have ax:Y≠av:=zad I aw;refine zbE (λj=>some (V.bl (decide (rs.length<((possL b ds).getD j mk0).1.length)&&stAt ((possL b ds).getD j mk0).1 rs 0))) (λσ=>∃Z,σ=[Z,some (.str rs)]) ⟨none,J⟩ aw (by simp;omega) (za7 (xs:=((possL b ds).map (·.1)).map V.str) (by rw[zah ax];exact I) ax) (λj σ ac C D ⟨aW,hw⟩ ay ab=>?_) (λσ ac ay az=>?_)
    .subst hw;have ad:j<(possL b ds).length:=by simpa using D
     have e:(((possL b ds).map (·.1)).map V.str).getD j .non=V.str ((possL b ds).getD j mk0).1:=by simp[ad]
     have bm:=aT ((possL b ds).getD j mk0) (by rw[List.getD_eq_getElem?_getD,List.getElem?_eq_getElem ad];exact List.getElem_mem ad);rw[e];have J0:=ab [some (.str ((possL b ds).getD j mk0).1),some (.str rs)] ac ⟨_,J⟩ (Same.refl _);generalize ((possL b ds).getD j mk0).1=L at *;dsimp only[tYes,gName];rw[if_pos rfl];refine⟨_,J,L,J,by omega,_,J,rs,J,by omega,_,_,J,J,_,J,?_⟩;refine ite2 (λae=>?_) (λae=>?_)
     .have h2:rs.length<L.length:=by have:=of_decide_eq_true ae;omega
      rw[decide_eq_true h2,Bool.true_and] at J0;exact⟨_,J,J,_,J,L,rs,J,J,J0⟩
     .have h2:¬rs.length<L.length:=λh=>ae (decide_eq_true (by omega));rw[decide_eq_false h2,Bool.false_and] at J0;exact J0
    .have aZ:flatN (λj=>(some (V.bl (decide (rs.length<((possL b ds).getD j mk0).1.length)&&stAt ((possL b ds).getD j mk0).1 rs 0))).toList) (((possL b ds).map (·.1)).map V.str).length=((List.range (possL b ds).length).map λj=>decide (rs.length<((possL b ds).getD j mk0).1.length)&&stAt ((possL b ds).getD j mk0).1 rs 0).map V.bl:=by
      rw[zbH,List.length_map,List.length_map,List.map_map];rfl
     rw[aZ] at az;refine⟨av,_,J,SqL.of az,_,J,?_⟩;have a0:=zhn (possL b ds) mk0 (λm=>decide (rs.length<m.1.length)&&stAt m.1 rs 0);rw[a0];have:=k ac ((aR.trans aa).trans ay);rw[Bool.not_false,Bool.true_and] at this;exact this
noncomputable abbrev it0(b:Bk)(x:Str)(ds:List LDr)(n:Nat):RunSt:=runIt b x ⟨0,ds,[]⟩ n
inductive zbI(tb:Addr):List V->Hp->VK->XK->Prop where
 |mk {vs:List V} {H:Hp} {Q:VK} {E:XK} (z v b q ds x:_) (c1:vs=[v,.str x,.ref q]) (c2:Bag z H) (c3:q≠z) (c4:Rep z H v (bkD b)) (c5:BkOk b) (c6:PDs z H q ds) (c7:LdBk b ds) (c8:ds.length+x.length<=20000) (c9:LamTb tb H) (c10:∀p fv n H',But2 q tb H H'->H p=none->H' p=some (.lst fv)->(∀j,j<n->(it0 b x ds j).at_<x.length/\sureB b (it0 b x ds j).ds x (it0 b x ds j).at_=true)->¬((it0 b x ds n).at_<x.length/\sureB b (it0 b x ds n).ds x (it0 b x ds n).at_=true)->Reps z H' fv ((it0 b x ds n).ss.map stD)->PDs z H' q (it0 b x ds n).ds->Bag z H'->LamTb tb H'->Q (.ref p) H'):zbI tb vs H Q E
inductive spOnG(tb:Addr):List V->Hp->VK->XK->Prop where
 |mk {vs:List V} {H:Hp} {Q:VK} {E:XK} (z v b q ds x:_) (c1:vs=[v,.str x,.ref q]) (c2:Bag z H) (c3:q≠z) (c4:Rep z H v (bkD b)) (c5:BkOk b) (c6:PDs z H q ds) (c7:LdBk b ds) (c8:ds.length+x.length<=20000) (c9:LamTb tb H) (c10:∀p fv n H',But2 q tb H H'->H p=none->H' p=some (.lst fv)->(∀j,j<n->(it0 b x ds j).at_<x.length)->(it0 b x ds n).at_=x.length->Reps z H' fv ((it0 b x ds n).ss.map stD)->PDs z H' q (it0 b x ds n).ds->Bag z H'->LamTb tb H'->Q (.ref p) H'):spOnG tb vs H Q E
structure zfC(tb:Addr)(z:Addr)(H:Hp)(b:Bk)(x:Str)(ds:List LDr)(v:V)(q pf:Addr)(n:Nat)(H3:Hp):Prop where
 bx:But2 q tb H H3
 bag:Bag z H3
 rep:Rep z H3 v (bkD b)
 pds:PDs z H3 q (it0 b x ds n).ds
 lam:LamTb tb H3
 fv:∃fv,H3 pf=some (.lst fv)/\Reps z H3 fv ((it0 b x ds n).ss.map stD)
theorem ziJ{tb z:Addr}{H:Hp}{b:Bk}{x:Str}{ds:List LDr}{v:V}{q B:Addr}{n:Nat}{G D:Hp}{I:List V}{p:Addr}(U:∀t∈b,TgOk b.length t)(Y:1<=b.length)(af:LdBk b ds)(M:(it0 b x ds n).at_<x.length)(ag:q≠z)(ah:B≠z)(Z:q≠B)(ai:H B=none)(W:zfC tb z H b x ds v q B n G)(aa:G B=some (.lst I))(aj:Reps z G I ((it0 b x ds n).ss.map stD))(J0:But2 q tb G D)(ak:G p=none)(O:D p=some (.tup (stV (stepL b (it0 b x ds n).ds x (it0 b x ds n).at_ (bestL b (it0 b x ds n).ds x (it0 b x ds n).at_)).1)))(ab:PDs z D q (stepL b (it0 b x ds n).ds x (it0 b x ds n).at_ (bestL b (it0 b x ds n).ds x (it0 b x ds n).at_)).2)(al:LamTb tb D) :
  D B=some (.lst I)/\zfC tb z H b x ds v q B (n+1) (upd D B (.lst (I++[.ref p])))/\upd D B (.lst (I++[.ref p])) p=some (.tup (stV (stepL b (it0 b x ds n).ds x (it0 b x ds n).at_ (bestL b (it0 b x ds n).ds x (it0 b x ds n).at_)).1)):=by
 obtain⟨am,ac,ao,ap,aq,_⟩:=W;have ar:ItOk2 b x ds (it0 b x ds n):=zeM (x:=x) U Y af n;obtain⟨aD,p2,p3,p4,p5,aE⟩:=zaM (ds:=(it0 b x ds n).ds) (x:=x) U ar.bk Y M;obtain⟨aF,ad,_⟩:=ap;obtain⟨ps,L⟩:=aq.tbl;have as:=Rep.but2 ad L J0 ao (.tup (zbe b));have au:=Reps.but2 ad L J0 aj (zaO _);have F:=J0 _ _ Z.symm (zao aa L (by intro q;cases q)) aa;have av:Bag z D:=by
  obtain⟨R,S,e⟩:=ac;exact⟨R,S,J0 _ _ ag.symm (zao e L (by intro q;cases q)) e⟩
 have aw:p≠z:=ac.ne ak;have ax:(it0 b x ds (n+1)).ss=(it0 b x ds n).ss++[(stepL b (it0 b x ds n).ds x (it0 b x ds n).at_ (bestL b (it0 b x ds n).ds x (it0 b x ds n).at_)).1]:=by show (runIt b x _ (n+1)).ss=_;rw[ziG M]
 have ay:(it0 b x ds (n+1)).ds=(stepL b (it0 b x ds n).ds x (it0 b x ds n).at_ (bestL b (it0 b x ds n).ds x (it0 b x ds n).at_)).2:=by show (runIt b x _ (n+1)).ds=_;rw[ziG M]
 rw[←ay] at ab;have az:Rep z D (.ref p) (stD (stepL b (it0 b x ds n).ds x (it0 b x ds n).at_ (bestL b (it0 b x ds n).ds x (it0 b x ds n).at_)).1):=.tup O aw (.cons (.int _) (.cons (.int _) (.cons (.str _ (by omega)) (.cons (.int _) (.cons (.int _) .nil)))));refine⟨F,⟨λae o h1 h2 e=>?_,?_,?_,?_,?_,_,zab,?_⟩,?_⟩
 .rw[zah (zad e ai)];exact J0 ae o h1 h2 (am ae o h1 h2 e)
 .obtain⟨R,S,e⟩:=av;exact⟨R,S,by rw[zah ah.symm];exact e⟩
 .exact Rep.updL F as (.tup (zbe b))
 .obtain⟨aA,aB,aC⟩:=ab;exact⟨aA,by rw[zah Z];exact aB,Reps.updL F aC (zcw _)⟩
 .exact al.sameX F SameX.refl.upd
 .rw[ax,List.map_append];exact Reps.updL F (au.append (.cons az .nil)) ((zaO _).append (zaO [_]))
 .rw[zah (zao O F (by intro q;cases q))];exact O
theorem scOnG:zav ["book","text","doors","told","place","step"] ["book","text","doors"] (zag sOn):=⟨J,J,J,by decide +kernel,J,by decide +kernel,by decide +kernel⟩
theorem zlV{f tb S:Addr}{fd af:FuncData}(F:Fun K "read_on" "read_on" sOn f fd)(T:TxtB mg)(as:W.keepIn K (.ref S)=true)(U:Binds K af ["book","text","place","doors"] [])(au:mg "read_step"=some (.ref S))(av:FnOk P w K mg base CX0 4 S af ["book","text","place","doors"] (zc7 tb)):FnOk P w K mg base CX0 5 f fd ["book","text","doors"] (spOnG tb):=by
 refine F.ok scOnG (λvs H Q E h=>?_) (λcdv A outer s H vs Q E aw h=>?_)
 .obtain⟨z,v,b,q,ds,x,rfl,_⟩:=h;rfl
 .obtain⟨z,v,b,q,ds,x,rfl,ag,ah,ax,ai,aj,ak,aX,ay,k⟩:=h;have O:=scOnG.nd;obtain⟨Y,aY,Z,_⟩:=id ai;refine⟨_,zac (zan (i:=3) O J (Or.inl J) (zaN zae))
   (zac (zan (i:=4) O J (Or.inl J) zaf)
   (zac (zbM PassesOwn.never (zau zd6 (pv 4) (zar zap (by rfl) T.len b_len (zaa (pv 1) zae)) (zaz _))
    (zac (zan (i:=5) O J (Or.inl J) (zat av aw J au as U .nil pass0 (zaa (pv 0) (zaa (pv 1) (zaa (pv 4) (zaa (pv 2) zae))))))
    (zac (zaP (zbL PySem.F.plainAttrs_list PySem.F.slot_list_append PySem.F.type_list_append zaK (pv 3) (zaa (pv 5) zae)))
    (zai (zhG (i:=4) O J (Or.inl J) (zay zaE (pv 5) zaf (λ_ _=>rfl)) zhH)))))
   (zai (zaw (pv 3))))),?_⟩
  dsimp only[cxOf,Cx.nox,Cx.wish];have aZ:=zaW;have a0:(100000:Nat)<=sizeLine:=by rw[sizeLine_eq];decide
  refine⟨Nat.zero_le _,λD G=>?_⟩;have I:=Same.new (o:=.lst []) G;have az:D≠z:=ag.ne G;have aA:q≠D:=zad aj.choose_spec.1 G;refine zbN (λσ J0=>∃n u,σ=[some v,some (.str x),some (.ref q),some (.ref D),some (.int (it0 b x ds n).at_),u]/\(∀j,j<n->(it0 b x ds j).at_<x.length)/\zfC tb z H b x ds v q D n J0)
   (λσ J0=>match σ[4]? with|some (some (V.int i))=>x.length-i.toNat|_=>0) ⟨0,none,J,λj h=>absurd h (Nat.not_lt_zero _),λaB o _ _ e=>I aB o e,ag.same I,ax.mono I.x,aj.same I,ay.same I,[],zab,.nil⟩ ?_ ?_
  .rintro σ J0 ⟨n,u,rfl,al,W⟩;have L:ItOk2 b x ds (it0 b x ds n):=zeM (x:=x) Z Y ak n;have a1:=L.le;refine⟨_,J,_,J,x,J,by omega,_,_,J,J,_,J,?_⟩;refine ite2 (λB=>?_) (λB=>?_)
   .have B:(it0 b x ds n).at_<x.length:=by have:=of_decide_eq_true B;omega
    have a2:=L.dl;have a3:=L.sl;obtain⟨am,aa,ao,ab,ac,M,ad,R⟩:=id W;refine⟨_,J,_,J,_,J,_,J,z,v,b,q,(it0 b x ds n).ds,x,(it0 b x ds n).at_,J,aa,ah,ao,ai,ab,L.bk,B,by omega,by omega,ac,λp aC aD aE aF aG aH=>?_⟩;obtain⟨ap,aq,ar⟩:=ziJ Z Y ak B ah az aA G W ad R aD aE aF aG aH;have a4:M.length=(it0 b x ds n).ss.length:=by have:=R.length;simpa using this
    refine⟨_,J,.inl ⟨J,_,SqL.of ap⟩,_,J,D,M,_,J,J,ap,by omega,?_⟩;generalize upd aC D (.lst (M++[.ref p]))=a5 at aq ar;refine⟨_,J,_,J,p,_,1,_,J,J,SqT.of ar,zal (j:=1) J,_,_,J,J,?_⟩;obtain⟨a6,p2,p3,p4,p5,a7⟩:=zaM (ds:=(it0 b x ds n).ds) (x:=x) Z L.bk Y B;have aI:((it0 b x ds n).at_:Int)+(stepL b (it0 b x ds n).ds x (it0 b x ds n).at_ (bestL b (it0 b x ds n).ds x (it0 b x ds n).at_)).1.2.1=((it0 b x ds (n+1)).at_:Int):=by
     have ae:(it0 b x ds (n+1)).at_=(it0 b x ds n).at_+(stepL b (it0 b x ds n).ds x (it0 b x ds n).at_ (bestL b (it0 b x ds n).ds x (it0 b x ds n).at_)).1.2.1.toNat:=by
      show (runIt b x _ (n+1)).at_=_;rw[ziG B]
     rw[ae];omega
    refine⟨⟨n+1,some (.ref p),?_,λj aJ=>?_,aq⟩,?_⟩
    .show [some v,some (.str x),some (.ref q),some (.ref D),some (V.int (((it0 b x ds n).at_:Int)+(stepL b (it0 b x ds n).ds x (it0 b x ds n).at_ (bestL b (it0 b x ds n).ds x (it0 b x ds n).at_)).1.2.1)),some (.ref p)]=_;rw[aI]
    .rcases Nat.lt_succ_iff_lt_or_eq.mp aJ with h|h
     .exact al j h
     .rw[h];exact B
    .show x.length-(((it0 b x ds n).at_:Int)+(stepL b (it0 b x ds n).ds x (it0 b x ds n).at_ (bestL b (it0 b x ds n).ds x (it0 b x ds n).at_)).1.2.1).toNat<x.length-((it0 b x ds n).at_:Int).toNat;omega
   .have aK:(it0 b x ds n).at_=x.length:=by
     have:¬(((it0 b x ds n).at_:Int)<(x.length:Int)):=λq=>B (decide_eq_true q);omega
    obtain⟨am,aa,ao,ab,ac,M,ad,R⟩:=W;exact⟨_,J,k D M n J0 am G ad al aK R ab aa ac⟩
  .rintro σ J0 a8 a9 aL ⟨aM,ae,aN,aO,aP,aQ,aR,aS,aT,aU,aV,U,aW,h⟩;exact⟨aM,ae,aN,aO,aP,aQ,aR,aS,aT,aU,aV,U,aW,aL _ _ h⟩
theorem scSureSteps:zav ["book","part","doors","told","place","step"] ["book","part","doors"] (zag zc4):=⟨J,J,J,by decide +kernel,J,by decide +kernel,by decide +kernel⟩
theorem zfD{f tb af ag:Addr}{fd am ao:FuncData}(F:Fun K "sure_steps" "sure_steps" zc4 f fd)(T:TxtB mg)(aD:W.keepIn K (.ref af)=true)(ab:Binds K am ["book","text","place","doors"] [])(aE:mg "read_step"=some (.ref af))(aF:FnOk P w K mg base CX0 4 af am ["book","text","place","doors"] (zc7 tb))(aG:W.keepIn K (.ref ag)=true)(aH:Binds K ao ["book","part","place","doors"] [])(aI:mg "is_sure"=some (.ref ag))(aJ:FnOk P w K mg base CX0 3 ag ao ["book","part","place","doors"] zgN):FnOk P w K mg base CX0 5 f fd ["book","part","doors"] (zbI tb):=by
 refine F.ok scSureSteps (λvs H Q E h=>?_) (λcdv A outer s H vs Q E ap h=>?_)
 .obtain⟨z,v,b,q,ds,x,rfl,_⟩:=h;rfl
 .obtain⟨z,v,b,q,ds,x,rfl,aq,ar,aK,ah,as,au,bC,aL,k⟩:=h;have ac:=scSureSteps.nd;have aM:Room 3 _:=ap.mono (by decide);obtain⟨ai,bD,ad,_⟩:=id ah;refine⟨_,zac (zan (i:=3) ac J (Or.inl J) (zaN zae))
   (zac (zan (i:=4) ac J (Or.inl J) zaf)
   (zac (zbM PassesOwn.never (PW.pt (zcE (zau zd6 (pv 4) (zar zap (by rfl) T.len b_len (zaa (pv 1) zae)) (zaz _)) (zb9 (zhD (zat aJ aM J aI aG aH .nil pass0 (zaa (pv 0) (zaa (pv 1) (zaa (pv 4) (zaa (pv 2) zae)))))))))
    (zac (zan (i:=5) ac J (Or.inl J) (zat aF ap J aE aD ab .nil pass0 (zaa (pv 0) (zaa (pv 1) (zaa (pv 4) (zaa (pv 2) zae))))))
    (zac (zaP (zbL PySem.F.plainAttrs_list PySem.F.slot_list_append PySem.F.type_list_append zaK (pv 3) (zaa (pv 5) zae)))
    (zai (zhG (i:=4) ac J (Or.inl J) (zay zaE (pv 5) zaf (λ_ _=>rfl)) zhH)))))
   (zai (zaw (pv 3))))),?_⟩
  dsimp only[cxOf,Cx.nox,Cx.wish];have bE:=zaW;have bF:(100000:Nat)<=sizeLine:=by rw[sizeLine_eq];decide
  refine⟨Nat.zero_le _,λB J0=>?_⟩;have S:=Same.new (o:=.lst []) J0;have aN:B≠z:=aq.ne J0;have aO:q≠B:=zad as.choose_spec.1 J0;refine zbN (λσ L=>∃n u,σ=[some v,some (.str x),some (.ref q),some (.ref B),some (.int (it0 b x ds n).at_),u]/\(∀j,j<n->(it0 b x ds j).at_<x.length/\sureB b (it0 b x ds j).ds x (it0 b x ds j).at_=true)/\zfC tb z H b x ds v q B n L)
   (λσ L=>match σ[4]? with|some (some (V.int i))=>x.length-i.toNat|_=>0) ⟨0,none,J,λj h=>absurd h (Nat.not_lt_zero _),λM o _ _ e=>S M o e,aq.same S,aK.mono S.x,as.same S,aL.same S,[],zab,.nil⟩ ?_ ?_
  .rintro σ aP ⟨n,u,rfl,aj,av⟩;have O:ItOk2 b x ds (it0 b x ds n):=zeM (x:=x) ad ai au n;have bG:=O.le;refine⟨_,J,_,J,x,J,by omega,_,_,J,J,_,J,?_⟩;refine ite2 (λD=>?_) (λD=>?_)
   .have D:(it0 b x ds n).at_<x.length:=by have:=of_decide_eq_true D;omega
    have bH:=O.dl;have bI:=O.sl;obtain⟨aQ,aw,ax,ay,aR,aS,aT,aU⟩:=id av;refine⟨_,J,_,J,_,J,_,J,z,v,b,q,(it0 b x ds n).ds,x,(it0 b x ds n).at_,J,aw,ax,ah,ay,O.bk.ok ad,by omega,by omega,λL G=>?_⟩;have W:zfC tb z H b x ds v q B n L:=⟨λM o h1 h2 e=>G M o (aQ M o h1 h2 e),aw.same G,ax.mono G.x,ay.same G,aR.same G,aS,G _ _ aT,aU.mono G.x⟩;refine⟨_,J,?_⟩;cases hsu:sureB b (it0 b x ds n).ds x (it0 b x ds n).at_ with
    |false=>
     refine iteF ?_;obtain⟨ae,U,ak,Y,Z,I,aa,R⟩:=W;exact⟨_,J,k B I n L ae J0 aa aj (λq=>by rw[hsu] at q;exact absurd q.2 (by decide)) R Y U Z⟩
    |true=>
     refine iteT ?_;obtain⟨ae,U,ak,Y,Z,I,aa,R⟩:=id W;refine⟨_,J,_,J,_,J,_,J,z,v,b,q,(it0 b x ds n).ds,x,(it0 b x ds n).at_,J,U,ar,ak,ah,Y,O.bk,D,by omega,by omega,Z,λp aV aW aX aY aZ a0=>?_⟩;obtain⟨az,aA,aB⟩:=ziJ ad ai au D ar aN aO J0 W aa R aW aX aY aZ a0;have bJ:I.length=(it0 b x ds n).ss.length:=by have:=R.length;simpa using this
     refine⟨_,J,.inl ⟨J,_,SqL.of az⟩,_,J,B,I,_,J,J,az,by omega,?_⟩;generalize upd aV B (.lst (I++[.ref p]))=bK at aA aB;refine⟨_,J,_,J,p,_,1,_,J,J,SqT.of aB,zal (j:=1) J,_,_,J,J,?_⟩;obtain⟨bL,p2,p3,p4,p5,bM⟩:=zaM (ds:=(it0 b x ds n).ds) (x:=x) ad O.bk ai D;have a1:((it0 b x ds n).at_:Int)+(stepL b (it0 b x ds n).ds x (it0 b x ds n).at_ (bestL b (it0 b x ds n).ds x (it0 b x ds n).at_)).1.2.1=((it0 b x ds (n+1)).at_:Int):=by
      have al:(it0 b x ds (n+1)).at_=(it0 b x ds n).at_+(stepL b (it0 b x ds n).ds x (it0 b x ds n).at_ (bestL b (it0 b x ds n).ds x (it0 b x ds n).at_)).1.2.1.toNat:=by
       show (runIt b x _ (n+1)).at_=_;rw[ziG D]
      rw[al];omega
     refine⟨⟨n+1,some (.ref p),?_,λj a2=>?_,aA⟩,?_⟩
     .show [some v,some (.str x),some (.ref q),some (.ref B),some (V.int (((it0 b x ds n).at_:Int)+(stepL b (it0 b x ds n).ds x (it0 b x ds n).at_ (bestL b (it0 b x ds n).ds x (it0 b x ds n).at_)).1.2.1)),some (.ref p)]=_;rw[a1]
     .rcases Nat.lt_succ_iff_lt_or_eq.mp a2 with h|h
      .exact aj j h
      .rw[h];exact⟨D,hsu⟩
     .show x.length-(((it0 b x ds n).at_:Int)+(stepL b (it0 b x ds n).ds x (it0 b x ds n).at_ (bestL b (it0 b x ds n).ds x (it0 b x ds n).at_)).1.2.1).toNat<x.length-((it0 b x ds n).at_:Int).toNat;omega
   .have a3:¬(it0 b x ds n).at_<x.length:=λq=>D (decide_eq_true (by omega));refine iteF ?_;obtain⟨ae,U,ak,Y,Z,I,aa,R⟩:=av;exact⟨_,J,k B I n aP ae J0 aa aj (λq=>a3 q.1) R Y U Z⟩
  .rintro σ L bN bO aC ⟨a4,al,a5,a6,a7,a8,a9,ba,bb,bc,bd,ab,be,h⟩;refine⟨a4,al,a5,a6,a7,a8,a9,ba,bb,bc,bd,ab,be,?_⟩;cases ab with
   |false=>exact aC _ _ h
   |true=>
    obtain⟨bf,bg,bh,bi,bj,bk,bl,bm,z',bn,M,q',bo,x',bp,bq,br,bs,bt,bu,bv,bw,bx,bz⟩:=h;refine⟨bf,bg,bh,bi,bj,bk,bl,bm,z',bn,M,q',bo,x',bp,bq,br,bs,bt,bu,bv,bw,bx,λH' bA=>?_⟩;obtain⟨c,bB,h⟩:=bz H' bA;exact⟨c,bB,aC _ _ h⟩
noncomputable def zcP(b:Bk)(ds:List LDr)(x:Str)(i:Nat)(st:Stp)(B:List LDr):Prop:=
 ((⟨#[x.cps.getD i 0]⟩:Str)=(b.getD (zam ds).toNat tg0).1/\B=ds/\((i+1=x.length/\st=((i:Int),1,Str.ofString "cut",zam ds,(ds.length:Int)))∨(i+1<x.length/\st=((i:Int),2,Str.ofString "escape",zam ds,(ds.length:Int))))) ∨
 ((⟨#[x.cps.getD i 0]⟩:Str)≠(b.getD (zam ds).toNat tg0).1/\fitL b ds x i=[]/\B=ds/\st=((i:Int),1,Str.ofString "sign",zam ds,(ds.length:Int))) ∨
 ((⟨#[x.cps.getD i 0]⟩:Str)≠(b.getD (zam ds).toNat tg0).1/\fitL b ds x i≠[]/\ds≠[]/\bestL b ds x i=(ds.getD (ds.length-1) ld0).2.2/\B=ds.dropLast/\st=((i:Int),((bestL b ds x i).length:Int),Str.ofString "close",zam ds.dropLast,(ds.length:Int)-1)) ∨
 ((⟨#[x.cps.getD i 0]⟩:Str)≠(b.getD (zam ds).toNat tg0).1/\fitL b ds x i≠[]/\∃d,(b.getD (zam ds).toNat tg0).2.filter (λd=>d.1==bestL b ds x i)=[d]/\B=ds++[((i:Int),d.2.1,d.2.2)]/\st=((i:Int),((bestL b ds x i).length:Int),Str.ofString "open",zam ds,(ds.length:Int)))
theorem zek{m:Str}:∀ {ds:List Dr},(zaJ ds).Nodup->m∈zaJ ds->∃d,ds.filter (λd=>d.1==m)=[d]
 |[],_,h=>nomatch h
 |d::r,F,h=>by
  have D:=List.nodup_cons.mp (show (d.1::zaJ r).Nodup from F);by_cases e:d.1=m
  .refine⟨d,?_⟩;rw[List.filter_cons_of_pos (by rw[e];exact beq_self_eq_true _)];congr 1;rw[List.filter_eq_nil_iff];intro c B q;have:c.1=m:=by simpa using q
   apply D.1;rw[e,←this];exact List.mem_map_of_mem B
  .have G:m∈zaJ r:=by
    rcases List.mem_cons.mp (show m∈d.1::zaJ r from h) with h|h
    .exact absurd h.symm e
    .exact h
   obtain⟨c,B⟩:=zek D.2 G;exact⟨c,by rw[List.filter_cons_of_neg (by simpa using e)];exact B⟩
theorem zfE{b:Bk}{ds:List LDr}{x:Str}{i:Nat}(W:BkOk b)(Y:LdBk b ds)(hi:i<x.length):zcP b ds x i (stepL b ds x i (bestL b ds x i)).1 (stepL b ds x i (bestL b ds x i)).2:=by
 obtain⟨Z,ag,M,I⟩:=id W;have O:=Y.ok M;obtain⟨D,aa,ab⟩:=zba O Z;have J0:(zam ds).toNat=D:=by rw[aa];rfl
 have R:=zb4 (x:=x) (i:=i) M O;have ac:(zaJ (b.getD D tg0).2).Nodup:=by
  unfold bookB at I;simp only[Bool.and_eq_true,Bool.not_eq_true'] at I;exact of_decide_eq_true (List.all_eq_true.mp I.1.1 _ (zaR tg0 ab))
 unfold zcP;rw[J0];unfold stepL;rw[J0];by_cases B:(⟨#[x.cps.getD i 0]⟩:Str)=(b.getD D tg0).1
 .have L:(b.getD D tg0).1≠Str.ofString "":=by
   rw[←B,za3];intro q;have:=congrArg Str.length q;have:(1:Nat)=0:=this;omega
  rw[if_pos ⟨L,B⟩];refine .inl ⟨B,?_,?_⟩
  .split<;>rfl
  .by_cases h1:i+1=x.length
   .rw[if_pos h1];exact .inl ⟨h1,J⟩
   .rw[if_neg h1];exact .inr ⟨by omega,J⟩
 .rw[if_neg (λq=>B q.2)];refine .inr ?_;rcases zbs (l:=fitL b ds x i) (λm ad=>R m (List.mem_filter.mp ad).1) with⟨h1,h2⟩|⟨h1,h2⟩
  .have e:bestL b ds x i=Str.ofString "":=by rw[za3];exact h2
   rw[if_pos e];exact .inl ⟨B,h1,J,J⟩
  .have S:fitL b ds x i≠[]:=λq=>by rw[q] at h1;cases h1
   have hm1:bestL b ds x i∈someL b ds:=(List.mem_filter.mp h1).1;have U:=(R _ hm1).1;have L:bestL b ds x i≠Str.ofString "":=λe=>by
    rw[e,za3] at U;have:(1:Nat)<=0:=U;omega
   rw[if_neg L];by_cases F:ds≠[]/\bestL b ds x i=(ds.getD (ds.length-1) ld0).2.2
   .rw[if_pos F];exact .inr (.inl ⟨B,S,F.1,F.2,J,J⟩)
   .rw[if_neg F];have ae:bestL b ds x i∈zaJ (b.getD D tg0).2:=by
     unfold someL at hm1;rw[J0] at hm1;rcases List.mem_append.mp hm1 with hm1|hm1
     .exact hm1
     .exfalso;obtain⟨d,G,e⟩:=List.mem_map.mp hm1;apply F;have V:ds≠[]:=λq=>by
       rw[q] at G;cases G
      refine⟨V,?_⟩;have ah:0<ds.length:=List.length_pos_iff.mpr V;have:lastL ds=[ds.getD (ds.length-1) ld0]:=by
       unfold lastL;rw[List.drop_eq_getElem_cons (by omega),List.drop_eq_nil_of_le (by omega),List.getD_eq_getElem?_getD,List.getElem?_eq_getElem (by omega)];rfl
      rw[this] at G;rw[←e,List.mem_singleton.mp G]
    obtain⟨d,af⟩:=zek ac ae;rw[af];exact .inr (.inr ⟨B,S,d,J,J,J⟩)
theorem zcp{B:Type}(f:LDr->B)(ds:List LDr):(List.range ds.length).map (λi=>f (ds.getD i ld0))=ds.map f:=by
 refine List.ext_getElem (by simp) λi h1 h2=>?_;have D:i<ds.length:=by simpa using h2
 simp[D]
theorem zeN{B:List V}{m:Nat}{a:V}(h:B.length=m+1)(e:B.getD m .non=a):atI B (-1)=some a:=by
 have D:ixN B.length (-1)=some (B.length-1):=by
  unfold ixN;rw[if_neg (by decide),if_pos (by omega)];congr 1;omega
 unfold atI;rw[D];show B[B.length-1]?=_;have F:B.length-1=m:=by omega
 rw[F,←e,List.getD_eq_getElem?_getD];have:m<B.length:=by omega
 rw[List.getElem?_eq_getElem this];rfl
theorem zcQ(a c:Str):(a++c).cps.toList=a.cps.toList++c.cps.toList:=by
 show (a.cps++c.cps).toList=_;simp
theorem zeO(a c:Str):(a++c).length=a.length+c.length:=by rw[←zak,zcQ,List.length_append,zak,zak]
theorem SamePd.pd{ds B:List LDr}(h:SamePd ds B):ds.map pdD=B.map pdD:=by
 have e:∀l:List LDr,l.map pdD=(l.map (·.2)).map (λd=>D.tup [.int d.1,.str d.2]):=λl=>by rw[List.map_map];rfl
 rw[e ds,e B,h]
theorem SamePd.poss{b:Bk}{ds B:List LDr}(h:SamePd ds B):possL b ds=possL b B:=by
 unfold possL lastL;have e:∀l:List LDr,((l.drop (l.length-1)).map (λd=>((d.2.2,none):Mk)))=((l.map (·.2)).drop (l.length-1)).map (λd=>(d.2,none)):=λl=>by
  rw[←List.map_drop,List.map_map];rfl
 rw[h.tongue,e ds,e B,h,h.len]
theorem SamePd.sure{b:Bk}{ds B:List LDr}(h:SamePd ds B)(y:Str)(j:Nat):sureB b ds y j=sureB b B y j:=by
 unfold sureB;rw[h.tongue,h.poss]
theorem zbY{y:Str}{j:Nat}(h:j<=y.length):(restS y j).cps.toList=y.cps.toList.drop j:=zbO y h
theorem zgO{b:Bk}{ds:List LDr}{y:Str}{j:Nat}(h:j<=y.length):sureB b ds y j=true↔(y.cps.toList.drop j≠(b.getD (zam ds).toNat tg0).1.cps.toList/\∀m∈someL b ds,¬((y.cps.toList.drop j).length<m.length/\y.cps.toList.drop j <+: m.cps.toList)):=by
 have B:=zbY h;unfold sureB;simp only[Bool.and_eq_true,Bool.not_eq_true',decide_eq_false_iff_not];rw[List.any_eq_false];constructor
 .rintro⟨h1,h2⟩;refine⟨λe=>h1 (zcd (by rw[B];exact e)),λm F q=>?_⟩;obtain⟨p,D,rfl⟩:=zcM F;apply h2 p D;rw[Bool.and_eq_true];refine⟨decide_eq_true (by rw[←zak,B];exact q.1),?_⟩;rw[zcn (Nat.zero_le _),zdX,B,List.drop_zero];exact q.2
 .rintro⟨h1,h2⟩;refine⟨λe=>h1 (by rw[←B,e]),λp D q=>?_⟩;rw[Bool.and_eq_true] at q;refine h2 p.1 (zcc D) ⟨?_,?_⟩
  .have:=of_decide_eq_true q.1
   rwa [←zak,B] at this
  .have:=q.2;rw[zcn (Nat.zero_le _),zdX,B,List.drop_zero] at this;exact this
theorem ziK{b:Bk}(D:∀t∈b,TgOk b.length t){B:Nat}(h:B<b.length):(b.getD B tg0).1.length<=1:=by
 have F:=D _ (zaR tg0 h);have:=F.1;unfold escD at this;simp at this;exact this.1
theorem zel{b:Bk}{ds:List LDr}{y rs:Str}{pre:List Nat}{off j:Nat}(B:y.cps.toList=pre++rs.cps.toList)(D:pre.length=off)(F:j<=rs.length):sureB b ds y (off+j)=sureB b ds rs j:=by
 have G:y.length=off+rs.length:=by rw[←zak,B,List.length_append,D,zak]
 have e:restS y (off+j)=restS rs j:=zcd (by rw[zbY (by omega),zbY F,B,←List.drop_drop,←D,List.drop_left]);unfold sureB;rw[e]
structure SureN(b:Bk)(x:Str)(n:Nat):Prop where
 all:∀j,j<n->(runF b x j).at_<x.length/\sureB b (runF b x j).ds x (runF b x j).at_=true
 stop:¬((runF b x n).at_<x.length/\sureB b (runF b x n).ds x (runF b x n).at_=true)
theorem SureN.uniq{b:Bk}{x:Str}{n m:Nat}(h:SureN b x n)(h':SureN b x m):n=m:=by
 rcases Nat.lt_trichotomy n m with g|g|g
 .exact absurd (h'.all n g) h.stop
 .exact g
 .exact absurd (h.all m g) h'.stop
theorem mv0(s:Stp):mvS ((0:Nat):Int) s=s:=by
 unfold mvS;have:s.1+((0:Nat):Int)=s.1:=by omega
 rw[this]
theorem mv0s(B:List Stp):B.map (mvS ((0:Nat):Int))=B:=by
 have:(mvS ((0:Nat):Int))=id:=funext mv0;rw[this,List.map_id]
theorem zbJ{b:Bk}{y y':Str}{more:List Nat}{n:Nat}(B:y'.cps.toList=y.cps.toList++more)(h:∀j,j<n->(runF b y j).at_<y.length/\sureB b (runF b y j).ds y (runF b y j).at_=true):∀j,j<=n->(runF b y' j).at_=(runF b y j).at_/\SamePd (runF b y' j).ds (runF b y j).ds/\(runF b y' j).ss=(runF b y j).ss:=λj D=>by
 have R:=zcz (b:=b) (x:=y') (y:=y) (pre:=[]) (more:=more) (off:=0) (S0:=[]) (R:=⟨0,[],[]⟩) (r:=⟨0,[],[]⟩) (by rw[B];rfl) rfl ⟨J,J,J⟩ j (λi hi=>by rw[←zcy];exact⟨(h i (by omega)).1,.inr (h i (by omega)).2⟩);rw[←zcy,←zcy] at R;exact⟨by rw[R.at_,Nat.zero_add],R.pd,by rw[R.ss,mv0s];rfl⟩
noncomputable abbrev st0:Stp:=(0,0,⟨#[]⟩,0,0)
theorem zcA{z:Addr}{H:Hp}{v:V}{d:Stp}(r:Rep z H v (stD d)):∃a,v=.ref a/\a≠z/\H a=some (.tup (stV d))/\d.2.2.1.length<=1000:=by
 cases r with
 |tup h B r=>
  cases r with
  |cons D r=>
   cases r with
   |cons F r=>
    cases r with
    |cons G r=>
     cases r with
     |cons I r=>
      cases r with
      |cons J0 r=>
       cases r;cases D;cases F;cases I;cases J0;cases G with
       |str _ L=>exact⟨_,J,B,h,L⟩
theorem zcB{z:Addr}{H:Hp}{D:List V}{B:List Stp}{t:Nat}(R:Reps z H D (B.map stD))(h:t<B.length):Rep z H (D.getD t .non) (stD (B.getD t st0)):=by
 have:=R.get (i:=t) (by simp;omega);simpa [h] using this
theorem zkw(s:Stp):NoL (stD s):=.tup (.cons (.int _) (.cons (.int _) (.cons (.str _) (.cons (.int _) (.cons (.int _) .nil)))))
theorem zeP{z p:Addr}{H:Hp}{d:Stp}(h:H p=some (.tup (stV d)))(B:p≠z)(D:d.2.2.1.length<=1000):Rep z H (.ref p) (stD d):=.tup h B (.cons (.int _) (.cons (.int _) (.cons (.str _ D) (.cons (.int _) (.cons (.int _) .nil)))))
theorem zds{D:Type}(f:Stp->D)(B:List Stp):(List.range B.length).map (λi=>f (B.getD i st0))=B.map f:=by
 refine List.ext_getElem (by simp) λi h1 h2=>?_;have F:i<B.length:=by simpa using h2
 simp[F]
noncomputable def longL(b:Bk)(ds:List LDr)(x:Str)(i:Nat)(B:Int):List Str:=(someL b ds).filter λm=>decide ((m.length:Int)>(if ((restS x i).length:Int)>B then ((restS x i).length:Int) else B))&&decide (V.str (cutS m none (some ((restS x i).length:Int)))=V.str (restS x i))
theorem ziL(y:Str)(k:Nat):(cutS y none (some (k:Int))).cps.toList=y.cps.toList.take k:=by
 unfold cutS;rw[HT.sIx_nat,HT.sIx_none,List.drop_zero,Nat.sub_zero];show y.cps.toList.take (min k y.length)=_;rw[←zak,←List.take_take,List.take_length]
theorem ziM:Str.ofString "escape"≠Str.ofString "cut":=by decide +kernel
theorem zho:Str.ofString "sign"≠Str.ofString "cut":=by decide +kernel
theorem zf5:Str.ofString "close"≠Str.ofString "cut":=by decide +kernel
theorem zhp:Str.ofString "open"≠Str.ofString "cut":=by decide +kernel
theorem zhq:Str.ofString "sign"≠Str.ofString "escape":=by decide +kernel
theorem zf6:Str.ofString "close"≠Str.ofString "escape":=by decide +kernel
theorem zhr:Str.ofString "open"≠Str.ofString "escape":=by decide +kernel
theorem zjM{b:Bk}{ds:List LDr}{x:Str}{i:Nat}{B:Int}(hi:i<x.length)(J0:(i:Int)+B<=x.length):longL b ds x i B≠[]↔∃m∈someL b ds,(x.cps.toList.drop i).length<m.length/\x.cps.toList.drop i <+: m.cps.toList:=by
 have D:=zbY (Nat.le_of_lt hi);have L:(restS x i).length=x.length-i:=by rw[←zak,D,List.length_drop,zak]
 have G:(if ((restS x i).length:Int)>B then ((restS x i).length:Int) else B)=((restS x i).length:Int):=by
  split
  .rfl
  .omega
 have F:∀m:Str,(decide ((m.length:Int)>(if ((restS x i).length:Int)>B then ((restS x i).length:Int) else B))&&decide (V.str (cutS m none (some ((restS x i).length:Int)))=V.str (restS x i)))=true↔((x.cps.toList.drop i).length<m.length/\x.cps.toList.drop i <+: m.cps.toList):=λm=>by
  rw[G,Bool.and_eq_true,decide_eq_true_iff,decide_eq_true_iff,←D,zak];constructor
  .rintro⟨h1,h2⟩;refine⟨by omega,?_⟩;have h2:cutS m none (some ((restS x i).length:Int))=restS x i:=by injection h2
   rw[List.prefix_iff_eq_take,zak,←ziL,h2]
  .rintro⟨h1,h2⟩;refine⟨by omega,?_⟩;congr 1;refine zcd ?_;rw[List.prefix_iff_eq_take,zak] at h2;rw[ziL];exact h2.symm
 constructor
 .intro h;obtain⟨m,I⟩:=List.exists_mem_of_ne_nil _ h;obtain⟨h1,h2⟩:=List.mem_filter.mp I;exact⟨m,h1,(F m).mp h2⟩
 .rintro⟨m,h1,h2⟩;exact List.ne_nil_of_mem (List.mem_filter.mpr ⟨h1,(F m).mpr h2⟩)
theorem zjN{b:Bk}{ds:List LDr}{x:Str}{i:Nat}(J0:BkOk b)(G:LdBk b ds)(hi:i<x.length){st:Stp}(S:(stepL b ds x i (bestL b ds x i)).1=st):(st.2.2.1=Str.ofString "cut"∨(st.2.2.1≠Str.ofString "escape"/\longL b ds x i st.2.1≠[]))↔¬sureB b ds x i=true:=by
 obtain⟨U,ad,L,ae⟩:=id J0;obtain⟨D,Y,V⟩:=zba (G.ok L) U;have W:(zam ds).toNat=D:=by rw[Y];rfl
 have af:=ziK L V;obtain⟨_,_,p3,_⟩:=zaM (x:=x) L G U hi;rw[S] at p3;have Z:=zjM (b:=b) (ds:=ds) hi p3;have I:=zfE J0 G hi;rw[S] at I;unfold zcP at I;rw[W] at I;rw[zgO (Nat.le_of_lt hi),W,Z];have M:=zcO hi;have plain:(⟨#[x.cps.getD i 0]⟩:Str)≠(b.getD D tg0).1->x.cps.toList.drop i≠(b.getD D tg0).1.cps.toList:=λaa e=>by
  apply aa;refine zcd ?_;have O:=congrArg List.length e;rw[zak,List.length_drop,zak] at O;rw[←e,M,List.drop_eq_nil_of_le (by rw[zak];omega)]
 have R:(⟨#[x.cps.getD i 0]⟩:Str)≠(b.getD D tg0).1->st.2.2.1≠Str.ofString "cut"->st.2.2.1≠Str.ofString "escape"->((st.2.2.1=Str.ofString "cut"∨(st.2.2.1≠Str.ofString "escape"/\∃m∈someL b ds,(x.cps.toList.drop i).length<m.length/\x.cps.toList.drop i <+: m.cps.toList))↔¬(x.cps.toList.drop i≠(b.getD D tg0).1.cps.toList/\∀m∈someL b ds,¬((x.cps.toList.drop i).length<m.length/\x.cps.toList.drop i <+: m.cps.toList))):=λh1 h2 ab=>by
  constructor
  .rintro(q|⟨_,m,F,q⟩) r
   .exact h2 q
   .exact r.2 m F q
  .intro q;refine .inr ⟨ab,?_⟩;by_cases g:∃m∈someL b ds,(x.cps.toList.drop i).length<m.length/\x.cps.toList.drop i <+: m.cps.toList
   .exact g
   .exact absurd ⟨plain h1,λm F r=>g ⟨m,F,r⟩⟩ q
 rcases I with⟨B,_,⟨h1,e⟩|⟨h1,e⟩⟩|⟨B,_,_,e⟩|⟨B,_,_,_,_,e⟩|⟨B,_,_,_,_,e⟩
 .constructor
  .intro _ r;apply r.1;rw[M,List.drop_eq_nil_of_le (by rw[zak];omega),←B]
  .intro _;exact .inl (by rw[e])
 .constructor
  .rintro(q|⟨q,_⟩)
   .rw[e] at q;exact absurd q ziM
   .rw[e] at q;exact absurd rfl q
  .intro q;exfalso;apply q;refine⟨λr=>?_,λm F r=>?_⟩
   .have O:=congrArg List.length r;rw[zak,List.length_drop,zak] at O;omega
   .have ac:x.cps.getD i 0∈m.cps.toList:=r.2.subset (by rw[M];exact List.mem_cons_self);exact zgM J0 (zaR tg0 V) (zej G F) ac B
 .exact R B (by rw[e];exact zho) (by rw[e];exact zhq)
 .exact R B (by rw[e];exact zf5) (by rw[e];exact zf6)
 .exact R B (by rw[e];exact zhp) (by rw[e];exact zhr)
end T1
namespace L2
open PySem PySem.Spec PyProof.Rows
theorem zjO{X:Cx}{sc:Scope}{cl:List (Str×Addr)}{N':List Str}{s:Shared}{H:Hp}{fp:List Addr}:SlR (X.blk sc cl N' s H fp) rSlS:=zbp
end L2
namespace T1
open PySem L2
variable {P:Program}{w:World}{K:W.Frag}{mg:Str->Option Value}{base:Heap}
theorem zlW:bootBuiltins "max"=some (.builtin "max"):=by decide +kernel
theorem zjP(ds:List LDr):atI ([V.int 0]++ds.map (λd=>V.int d.2.1)) (-1)=some (.int (zam ds)):=by
 refine zeN (m:=ds.length) (by simp) ?_;rcases List.eq_nil_or_concat ds with rfl|⟨l,d,rfl⟩
 .rfl
 .unfold zam;rw[List.concat_eq_append,List.getLast?_concat];simp
theorem zgP{z:Addr}{H:Hp}{B:List V}{ds:List LDr}{j:Nat}(R:Reps z H B (ds.map ldD))(h:j<ds.length):Rep z H (B.getD j .non) (ldD (ds.getD j ld0)):=by
 have:=R.get (i:=j) (by simp;omega);simpa [h] using this
noncomputable def lgP(rs:Str)(B:Int)(m:Str):Bool:=decide ((m.length:Int)>(if (rs.length:Int)>B then (rs.length:Int) else B))&&decide (V.str (cutS m none (some (rs.length:Int)))=V.str rs)
inductive zeQ:List V->Hp->VK->XK->Prop where
 |mk {vs:List V} {H:Hp} {Q:VK} {E:XK} (z v b x:_) (c1:vs=[v,.str x]) (c2:Bag z H) (c3:Rep z H v (bkD b)) (c4:BkOk b) (c5:x.length<=20000) (c6:∀p fv n H',Same H H'->H p=none->H' p=some (.lst fv)->SureN b x n->Reps z H' fv ((runF b x n).ss.map stD)->Q (.ref p) H'):zeQ vs H Q E
theorem scLSure:zav ["book","text","doors","found","place","tongue","marks","step","rest","some","longer"] ["book","text"] (zag lSure):=⟨J,J,J,by decide +kernel,J,by decide +kernel,by decide +kernel⟩
theorem ndMRS:(["mark","rest","step"]:List Str).Nodup:=by decide +kernel
theorem zjQ{f aP aQ:Addr}{fd bB bC:FuncData}(F:Fun K "_law_sure" "_law_sure" lSure f fd)(T:TxtB mg)(cV:Txt2 mg)(cW:W.keepIn K (.ref aP)=true)(aR:Binds K bB ["book","doors","text","place"] [])(cX:mg "_law_fitting"=some (.ref aP))(cY:FnOk P w K mg base CX0 1 aP bB ["book","doors","text","place"] zbW)(bD:W.keepIn K (.ref aQ)=true)(bE:Binds K bC ["book","doors","text","place","mark"] [])(bF:mg "_law_step"=some (.ref aQ))(bG:FnOk P w K mg base CX0 1 aQ bC ["book","doors","text","place","mark"] zeh):FnOk P w K mg base CX0 2 f fd ["book","text"] zeQ:=by
 refine F.ok scLSure (λvs H Q E h=>?_) (λcdv A outer s H vs Q E aG h=>?_)
 .obtain⟨z,v,b,x,rfl,_⟩:=h;rfl
 .obtain⟨z,v,b,x,rfl,aS,aT,au,aU,k⟩:=h;have O:=scLSure.nd;obtain⟨a,xs,rfl,en,cZ,eo,R⟩:=zb3 aT;obtain⟨aV,ep,al,_⟩:=id au;refine⟨_,zac (zan (i:=2) O J (Or.inl J) (zaN zae))
   (zac (zan (i:=3) O J (Or.inl J) (zaN zae))
   (zac (zan (i:=4) O J (Or.inl J) zaf)
   (zac (zbM PassesOwn.never (zau zd6 (pv 4) (zar zap (by rfl) T.len b_len (zaa (pv 1) zae)) (zaz _))
    (zac (zan (i:=5) O J (Or.inl J) (zay zaB (zax zcI (zaN (pa_K zaf zae)) (za6 (N':=["door"]) (js:=[none]) J J (zbl (zag lSure) (by decide +kernel)) trivial (zbc (pv 2)) (λcl s H fp=>zaq (i:=0) ndD J (Or.inl J)) (λcl s H fp=>zbh) (λcl s H fp=>zay zb1 (pv 0) zaf (λ_ _=>rfl)))) (zbK zbd zaf) (λ_ _=>rfl)))
    (zac (zan (i:=6) O J (Or.inl J) (zat cY aG J cX cW aR .nil pass0 (zaa (pv 0) (zaa (pv 2) (zaa (pv 1) (zaa (pv 4) zae))))))
    (zac (zan (i:=7) O J (Or.inr J) (zat bG aG J bF bD bE .nil pass0 (zaa (pv 0) (zaa (zbx zca (by rfl) cV.list zgu (zaa (pv 2) zae)) (zaa (pv 1) (zaa (pv 4) (zaa (zbL PySem.F.plainAttrs_str PySem.F.slot_str_join PySem.F.type_str_join zdm zaH (zaa (zaA zbQ (pv 6) zaL (zaD zaf)) zae)) zae)))))))
    (zac (zan (i:=8) O J (Or.inr J) (zaA zbp (pv 1) (zaD (pv 4)) zaL))
    (zac (zan (i:=9) O J (Or.inl J) (zax zcI
     (za6 (N':=["door"]) (js:=[none]) J J (zbl (zag lSure) (by decide +kernel)) trivial (zd8 (zay zaE (zay zaE (pv 0) (pv 5) (λ_ _=>rfl)) zaf (λ_ _=>rfl)))
      (λcl s H fp=>zaq (i:=0) ndD J (Or.inl J)) (λcl s H fp=>zbh) (λcl s H fp=>zay zb1 (pv 0) zaf (λ_ _=>rfl)))
     (za6 (N':=["door"]) (js:=[none]) J J (zbl (zag lSure) (by decide +kernel)) trivial (zbc (zaA zbQ (pv 2) (zaD (zbK zbd zaf)) zaL))
      (λcl s H fp=>zaq (i:=0) ndD J (Or.inl J)) (λcl s H fp=>zbh) (λcl s H fp=>zay zb1 (pv 0) zaf (λ_ _=>rfl)))))
    (zac (zb0 (N':=["mark","rest","step"]) (js:=[none,some 8,some 7]) (i:=10) J J O J (Or.inl J) (zbl (zag lSure) (by decide +kernel)) ⟨J,Or.inr (Or.inl J),J,J,Or.inr (Or.inl J),J,trivial⟩ (zbc (pv 9))
      (λcl s H fp=>zaq (i:=0) ndMRS J (Or.inl J))
      (λcl s H fp=>zet (PW.pt (zcE (zau zhN (zar zap (by rfl) T.len b_len (zaa (pv 0) zae)) (zar (zhO J) (by rfl) T.max zlW (zaa (zay zb1 (pv 2) zaf (λ_ _=>rfl)) (zaa (zar zap (by rfl) T.len b_len (zaa (pv 1) zae)) zae))) (zaz _))
       (zb9 (zau zb8 (zaA zjO (pv 0) zaL (zaD (zar zap (by rfl) T.len b_len (zaa (pv 1) zae)))) (pv 1) (zaz _))))))
      (λcl s H fp=>pv 0))
    (zac (za9 (PW.pt (zkD (zau zb8 (zay zaE (pv 7) zaf (λ_ _=>rfl)) zaH (zaz _)) (zhE (PW.pt (zcE (zau zg4 (zay zaE (pv 7) zaf (λ_ _=>rfl)) zaH (zaz _)) (zb9 (zau (zcb aG.units0) (pv 10) (zaN zae) (zaz _)))))))) (zai (zaw (pv 3))) zaC)
    (zac (zaP (zbL PySem.F.plainAttrs_list PySem.F.slot_list_append PySem.F.type_list_append zaK (pv 3) (zaa (zat bG aG J bF bD bE .nil pass0 (zaa (pv 0) (zaa (pv 2) (zaa (pv 1) (zaa (pv 4) (zaa (zbL PySem.F.plainAttrs_str PySem.F.slot_str_join PySem.F.type_str_join zdm zaH (zaa (zaA zbQ (pv 6) zaL (zaD zaf)) zae)) zae)))))) zae)))
    (zai (zan (i:=4) O J (Or.inl J) (zax zaT (pv 4) (zay zaE (pv 7) zaf (λ_ _=>rfl))))))))))))))
   (zai (zaw (pv 3)))))),?_⟩
  dsimp only[cxOf,Cx.nox,Cx.wish];have eq:=zaW;have er:(100000:Nat)<=sizeLine:=by rw[sizeLine_eq];decide
  refine⟨Nat.zero_le _,λpd aW=>⟨Nat.zero_le _,λD aH=>?_⟩⟩;have aX:=Same.new (o:=.lst []) aW;have bH:=Same.new (o:=.lst []) aH;have U:=aX.trans bH;have aY:H D=none:=aX.free aH;have bI:pd≠D:=zad (zab (H:=H) (a:=pd) (o:=.lst [])) aH;have c0:pd≠z:=aS.ne aW;have et:D≠z:=(aS.same aX).ne aH;refine zbN (λσ ac=>∃n bJ bK bL bM bN bO,σ=[some (.ref a),some (.str x),some (.ref pd),some (.ref D),some (.int (runF b x n).at_),bJ,bK,bL,bM,bN,bO]/\Same H ac/\LDs z ac pd (runF b x n).ds/\(∀j,j<n->(runF b x j).at_<x.length/\sureB b (runF b x j).ds x (runF b x j).at_=true)/\∃G,ac D=some (.lst G)/\Reps z ac G ((runF b x n).ss.map stD))
   (λσ ac=>match σ[4]? with|some (some (V.int i))=>x.length-i.toNat|_=>0) ⟨0,none,none,none,none,none,none,J,U,⟨[],bH _ _ zab,.nil⟩,λj h=>absurd h (Nat.not_lt_zero _),[],zab,.nil⟩ ?_ ?_
  .rintro σ ac ⟨n,bJ,bK,bL,bM,bN,bO,rfl,af,bP,aZ,G,a0,a1⟩;have am:=zaX (x:=x) al aV n;have c1:=am.le;refine⟨_,J,_,J,x,J,by omega,_,_,J,J,_,J,?_⟩;refine ite2 (λM=>?_) (λM=>?_)
   .have M:(runF b x n).at_<x.length:=by have:=of_decide_eq_true M;omega
    have eu:=am.dl;have ev:=am.sl;have ao:=am.bk.ok al;have bQ:=aS.same af;have av:=zjN au am.bk M rfl;obtain⟨B,aw,aI⟩:=id bP;have bR:B.length=(runF b x n).ds.length:=by have:=aI.length;simpa using this
    -- tongue
    refine zbC λew c2 bS _ _=>?_;refine zaj λag L=>?_;refine⟨by show (1:Nat)<=_;omega,λbT c3=>?_⟩;have g1:=Same.new (o:=.lst [.int 0]) c3;refine⟨_,J,pd,J,⟨_,SqL.of (g1 _ _ aw)⟩,λbU bV=>?_⟩;have bW:pd≠bU:=zad (g1 _ _ aw) bV;refine zbE (λj=>some (V.int ((runF b x n).ds.getD j ld0).2.1)) (λσ=>∃v,σ=[v]) ⟨none,J⟩ bV (by omega) (za7 (xs:=B) (by rw[zah bW];exact g1 _ _ aw) bW) (λj σ a2 C ax ⟨a3,hw⟩ g2 ah=>?_) (λσ a2 g2 a4=>?_)
    .subst hw;obtain⟨ad,c4,_,c5⟩:=zdU ((zgP (j:=j) aI (by omega)).mono (g1.trans g2).x);rw[c4];dsimp only[tYes,gName];rw[if_pos rfl];exact⟨_,J,ad,_,1,_,J,J,SqT.of c5,zal (j:=1) J,ah _ _ ⟨_,J⟩ (Same.refl _)⟩
    rw[zbH,bR,zcp (λd=>V.int d.2.1) (runF b x n).ds] at a4;have bX:a2 bT=some (.lst [.int 0]):=g2 _ _ zab;refine⟨bT,bU,[.int 0],_,J,J,bX,a4,by rw[List.length_map];show 1+_<=_;omega,λp5 c6=>?_⟩;have Y:=Same.new (o:=.lst ([V.int 0]++(runF b x n).ds.map (λd=>V.int d.2.1))) c6;refine⟨1,J,p5,_,-1,_,J,J,SqL.of zab,zjP (runF b x n).ds,L _ _ (zaj λag L=>?_)⟩;have aJ:=(g1.trans g2).trans Y;generalize upd a2 p5 (.lst ([V.int 0]++(runF b x n).ds.map (λd=>V.int d.2.1)))=ey at Y aJ;clear a4 bX g1 g2 Y;have c7:=(aT.mono af.x (z:=z)).mono aJ.x (z:=z)
    -- marks
    refine⟨_,J,_,J,_,J,_,J,z,.ref a,b,pd,(runF b x n).ds,x,(runF b x n).at_,J,c7,au,bP.same aJ,ao,aU,λpm ys bY c8 ez a5 bZ pw=>L _ _ (zaj λag L=>?_)⟩;have a6:∀m∈fitL b (runF b x n).ds x (runF b x n).at_,Sm m:=λm ay=>zb4 (x:=x) (i:=(runF b x n).at_) al ao m (List.mem_filter.mp ay).1;have c9:=zdW a6 (λm ay=>(List.mem_filter.mp ay).2) bZ pw;have b0:∀y∈ys.take 1,y.length<=1000:=λy da=>by have:=(a6 y (bZ.mem_iff.mp (List.mem_of_mem_take da))).2;omega
    have b1:zgy (ys.take 1)=bestL b (runF b x n).ds x (runF b x n).at_:=by
     unfold bestL;rw[←c9];cases ys<;>rfl
    have b2:bestL b (runF b x n).ds x (runF b x n).at_=Str.ofString ""∨bestL b (runF b x n).ds x (runF b x n).at_∈someL b (runF b x n).ds:=by
     rcases zbs a6 with⟨_,h2⟩|⟨h1,_⟩
     .exact .inl (by unfold bestL;rw[h2,za3])
     .exact .inr (List.mem_filter.mp h1).1
    have ap:=aJ.trans c8;have b3:=ap _ _ aw;have eA:=aI.mono ap.x (z:=z)
    -- step,on a copy of the doors
    refine⟨_,J,_,J,pd,B,J,.inl (SqL.of b3),λZ aq=>?_⟩;have b4:=Same.new (o:=.lst B) aq;have db:upd bY Z (.lst B) Z=some (.lst B):=zab;refine⟨_,J,_,J,J,_,J,1,J,pm,_,J,SqL.of (b4 _ _ a5),λl dc=>?_⟩;have a7:=Same.new (o:=.lst (cutV (ys.map V.str) none (some (1:Int)))) dc;refine⟨_,l,ys.take 1,J,J,SqL.of (by rw[zab,zeI]),by rw[List.length_take];omega,by decide +kernel,b0,?_⟩;rw[b1];have a8:=b4.trans a7;have aa:=ap.trans a8;have ar:=a7 _ _ db;have b5:Z≠z:=(bQ.same ap).ne aq;have dd:Z≠pd:=(zad b3 aq).symm;have de:Z≠D:=(zad (ap _ _ a0) aq).symm;have df:Z≠pm:=(zad a5 aq).symm;have b6:=a8 _ _ a5;have a9:=bQ.same aa;have b7:=aa _ _ aw;have ba:=aI.mono aa.x (z:=z);have bb:=(aT.mono af.x (z:=z)).mono aa.x (z:=z);have b8:=aa _ _ a0;have b9:=a1.mono aa.x (z:=z);have bc:=aa _ _ (af _ _ cZ);have ca:=af.trans aa;generalize upd (upd bY Z (.lst B)) l (.lst (cutV (ys.map V.str) none (some (1:Int))))=eB at a8 aa ar b6 a9 b7 ba bb b8 b9 bc ca a7;obtain⟨eC,p2,p3,p4,eD,eE⟩:=zaM (x:=x) al am.bk aV M;refine⟨z,.ref a,b,Z,(runF b x n).ds,x,_,(runF b x n).at_,J,a9,b5,bb,au,⟨B,ar,ba⟩,ao,M,aU,by omega,b2,λps cb ab eF dg _=>L _ _ (zaj λag L=>?_)⟩;have cc:=ab _ _ dd.symm b7;have cd:=Reps.butL ar ab ba (zbr _);have dh:=Rep.butL ar ab bb (.tup (zbe b));have di:=ab _ _ de.symm b8;have dj:=Reps.butL ar ab b9 (zaO _);have dk:=ab _ _ df.symm b6;have dl:=ab _ _ (zao bc ar (by intro q;cases q)) bc;have dm:H Z=none:=(af.trans ap).free aq;have ce:Same H cb:=λai o e=>ab ai o (zad e dm) (ca ai o e);have dn:Bag z cb:=by
     obtain⟨bd,be,e⟩:=a9;exact⟨bd,be,ab _ _ b5.symm e⟩
    have eG:(stepL b (runF b x n).ds x (runF b x n).at_ (bestL b (runF b x n).ds x (runF b x n).at_)).1=(stepL b (runF b x n).ds x (runF b x n).at_ (bestL b (runF b x n).ds x (runF b x n).at_)).1:=rfl
    -- rest
    refine⟨_,J,_,J,_,J,x,J,by omega,L _ _ (zaj λag L=>?_)⟩;have dp:cutS x (some ((runF b x n).at_:Int)) none=restS x (runF b x n).at_:=rfl;rw[dp];have eH:(restS x (runF b x n).at_).length<=20000:=by
     rw[←zak,zbY c1,List.length_drop,zak];omega
    -- some
    obtain⟨I,cf,cg⟩:=zba ao aV;have dq:(zam (runF b x n).ds).toNat=I:=by rw[cf];rfl
    obtain⟨c,d,ch,dr,eI,eJ,dt,bf,bg,du⟩:=zbq ((zbi (b:=b) (i:=I) R cg).mono ce.x);have dv:xs[I]?=some (.ref c):=by
     have h1:I<xs.length:=by omega
     have h2:xs.getD I .non=xs[I]:=by simp[h1]
     rw[List.getElem?_eq_getElem h1,←h2,dr]
    have dw:atI xs (zam (runF b x n).ds)=some (.ref c):=by rw[cf];exact zal (j:=I) dv
    have bg:ch.length=(b.getD I tg0).2.length:=bg;have dy:=(al _ (zaR tg0 cg)).2.1;have ci:someL b (runF b x n).ds=zaJ (b.getD I tg0).2++(lastL (runF b x n).ds).map (·.2.2):=by unfold someL;rw[dq]
    refine⟨_,J,_,J,a,xs,_,_,J,J,SqT.of dl,dw,c,_,1,_,J,J,SqT.of dt,zal (j:=1) J,d,J,⟨_,SqT.of bf⟩,λbh cj=>?_⟩;have ck:d≠bh:=zad bf cj;refine zdk (λj=>.str ((b.getD I tg0).2.getD j dr0).1) (λσ=>∃v,σ=[v]) ⟨none,J⟩ cj (by omega) (zev (xs:=ch) (by rw[zah ck];exact bf) ck) (λj σ az C ax ⟨a3,hw⟩ dz ah=>?_) (λσ az bi cm=>?_)
    .subst hw;obtain⟨bj,aA,dA,bk⟩:=zck ((zbV (ds:=(b.getD I tg0).2) (i:=j) du (by omega)).mono dz.x);rw[aA];exact⟨_,J,bj,_,0,_,J,J,SqT.of bk,zal (j:=0) J,ah _ az ⟨_,J⟩ (Same.refl _)⟩
    have cn:az bh=some (.lst ((zaJ (b.getD I tg0).2).map V.str)):=by
     rw[cm,bg];unfold zaJ;rw[List.map_map];exact congrArg (λx=>some (HO.lst x)) (zcK (b.getD I tg0).2 dr0 λd=>V.str d.1)
    have dB:=bi _ _ cc;refine⟨_,J,1,J,-1,J,pd,B,J,SqL.of dB,λaB dC=>⟨aB,J,⟨_,SqL.of zab⟩,λbl co=>?_⟩⟩;have bm:=Same.new (o:=.lst (cutV B (some (-1)) none)) dC;have bn:upd az aB (.lst (cutV B (some (-1)) none)) aB=some (.lst (B.drop (B.length-1))):=by rw[zab,zgI]
    have cp:aB≠bl:=zad bn co;have bo:Reps z (upd az aB (.lst (cutV B (some (-1)) none))) (B.drop (B.length-1)) ((lastL (runF b x n).ds).map ldD):=by
     unfold lastL;rw[List.map_drop,bR];exact(cd.mono (bi.trans bm).x).drop _
    have dD:(B.drop (B.length-1)).length=(lastL (runF b x n).ds).length:=by have:=bo.length;simpa using this
    have eK:(lastL (runF b x n).ds).length<=1:=by unfold lastL;rw[List.length_drop];omega
    refine zdk (λj=>.str ((lastL (runF b x n).ds).getD j ld0).2.2) (λσ=>∃v,σ=[v]) ⟨none,J⟩ co (by omega) (za7 (xs:=B.drop (B.length-1)) (by rw[zah cp];exact bn) cp) (λj σ aC C ax ⟨a3,hw⟩ dE ah=>?_) (λσ aC cq cr=>?_)
    .subst hw;obtain⟨bj,aA,dA,bk⟩:=zdU ((zeF (ds:=lastL (runF b x n).ds) (i:=j) bo (by omega)).mono dE.x);rw[aA];exact⟨_,J,bj,_,2,_,J,J,SqT.of bk,zal (j:=2) J,ah _ aC ⟨_,J⟩ (Same.refl _)⟩
    have cs:aC bl=some (.lst (((lastL (runF b x n).ds).map (·.2.2)).map V.str)):=by
     rw[cr,dD,List.map_map];exact congrArg (λx=>some (HO.lst x)) (zcK (lastL (runF b x n).ds) ld0 λd=>V.str d.2.2)
    have cu:((zaJ (b.getD I tg0).2).map V.str).length<=6:=by unfold zaJ;rw[List.length_map,List.length_map];exact dy
    have cv:(((lastL (runF b x n).ds).map (·.2.2)).map V.str).length<=1:=by simp;omega
    refine⟨bh,bl,_,_,J,J,(bm.trans cq) _ _ cn,cs,by omega,λpS dF=>L _ _ (zaj λag L=>?_)⟩;rw[←List.map_append,←ci];have cw:=Same.new (o:=.lst ((someL b (runF b x n).ds).map V.str)) dF;have aK:upd aC pS (.lst ((someL b (runF b x n).ds).map V.str)) pS=some (.lst ((someL b (runF b x n).ds).map V.str)):=zab;have S:=(bi.trans (bm.trans cq)).trans cw;generalize upd aC pS (.lst ((someL b (runF b x n).ds).map V.str))=cx at S aK cw;have eL:(someL b (runF b x n).ds).length<=7:=by
     have h1:(zaJ (b.getD I tg0).2).length<=6:=by rw[List.length_map] at cu;exact cu
     have h2:((lastL (runF b x n).ds).map (·.2.2)).length<=1:=by rw[List.length_map] at cv;exact cv
     rw[ci,List.length_append];omega
    have dG:∀m∈someL b (runF b x n).ds,m.length<=4:=λm ay=>(zb4 (x:=x) (i:=(runF b x n).at_) al ao m ay).2;have bp:=S _ _ dg;clear cs cr cn cm bo bn;have cy:longL b (runF b x n).ds x (runF b x n).at_ (stepL b (runF b x n).ds x (runF b x n).at_ (bestL b (runF b x n).ds x (runF b x n).at_)).1.2.1=(someL b (runF b x n).ds).filter (lgP (restS x (runF b x n).at_) (stepL b (runF b x n).ds x (runF b x n).at_ (bestL b (runF b x n).ds x (runF b x n).at_)).1.2.1):=rfl;have dH:((runF b x n).at_:Int)+(stepL b (runF b x n).ds x (runF b x n).at_ (bestL b (runF b x n).ds x (runF b x n).at_)).1.2.1=((runF b x (n+1)).at_:Int):=by
     rw[zdf M];show _=((_+_:Nat):Int);omega
    have dI:=zbz M;have dJ:=zbX M;rw[cy] at av;clear cy;have dK:(stepL b (runF b x n).ds x (runF b x n).at_ (bestL b (runF b x n).ds x (runF b x n).at_)).1.2.2.1.length<=1000:=by omega
    have dL:∀ {ps':Addr} {aj:Hp},aj ps'=some (.tup (stV (stepL b (runF b x n).ds x (runF b x n).at_ (bestL b (runF b x n).ds x (runF b x n).at_)).1))->ps'≠z->Rep z aj (.ref ps') (stD (stepL b (runF b x n).ds x (runF b x n).at_ (bestL b (runF b x n).ds x (runF b x n).at_)).1):=λh dM=>zeP h dM dK;have dN:x.length-(((runF b x n).at_:Int)+(stepL b (runF b x n).ds x (runF b x n).at_ (bestL b (runF b x n).ds x (runF b x n).at_)).1.2.1).toNat<x.length-((runF b x n).at_:Int).toNat:=by omega
    generalize dO:(stepL b (runF b x n).ds x (runF b x n).at_ (bestL b (runF b x n).ds x (runF b x n).at_)).1=st at *;generalize eM:restS x (runF b x n).at_=rs at *;have dP:=S _ _ cc;have dQ:=cd.mono S.x (z:=z);have dR:=dh.mono S.x (z:=z);have bq:=S _ _ di;have cz:=dj.mono S.x (z:=z);have dS:=S _ _ dk;have dT:=dn.same S;have cA:=ce.trans S
    -- longer
    refine⟨_,J,pS,J,⟨_,SqL.of aK⟩,λaD cB=>?_⟩;have cC:pS≠aD:=zad aK cB;have dU:((someL b (runF b x n).ds).map V.str).length=(someL b (runF b x n).ds).length:=List.length_map ..;refine zbE (λj=>if lgP rs st.2.1 ((someL b (runF b x n).ds).getD j ⟨#[]⟩) then some (.str ((someL b (runF b x n).ds).getD j ⟨#[]⟩)) else none) (λσ=>∃v,σ=[v,some (.str rs),some (.ref ps)]) ⟨none,J⟩ cB (by omega) (za7 (xs:=(someL b (runF b x n).ds).map V.str) (by rw[zah cC];exact aK) cC) (λj σ br C ax ⟨a3,hw⟩ U ah=>?_) (λσ br U cD=>?_)
    .subst hw;have cE:j<(someL b (runF b x n).ds).length:=by omega
     have dV:((someL b (runF b x n).ds).map V.str).getD j .non=.str ((someL b (runF b x n).ds).getD j ⟨#[]⟩):=by simp[cE]
     have eN:=dG _ (zaR ⟨#[]⟩ cE);rw[dV];have as:=ah [some (.str ((someL b (runF b x n).ds).getD j ⟨#[]⟩)),some (.str rs),some (.ref ps)] br ⟨_,J⟩ (Same.refl _);generalize (someL b (runF b x n).ds).getD j ⟨#[]⟩=m at *;refine⟨_,J,m,J,by omega,_,J,ps,_,1,_,J,J,SqT.of (U _ _ bp),zal (j:=1) J,_,J,rs,J,by omega,_,_,J,_,_,J,J,_,J,?_⟩;refine ite2 (λg1=>?_) (λg1=>?_)
     .refine⟨_,J,_,J,rs,J,by omega,_,J,m,J,by omega,_,J,J,_,J,?_⟩;refine ite2 (λg2=>?_) (λg2=>?_)
      .have aE:lgP rs st.2.1 m=true:=by
        unfold lgP;rw[Bool.and_eq_true];exact⟨g1,g2⟩
       rw[aE,if_pos rfl] at as;exact⟨_,J,as⟩
      .have aE:lgP rs st.2.1 m=false:=by
        unfold lgP;rw[Bool.and_eq_false_iff];exact .inr (Bool.eq_false_iff.mpr g2)
       rw[aE,if_neg (by decide)] at as;exact as
     .have aE:lgP rs st.2.1 m=false:=by
       unfold lgP;rw[Bool.and_eq_false_iff];exact .inl (Bool.eq_false_iff.mpr g1)
      rw[aE,if_neg (by decide)] at as;exact iteF as
    rw[dU,zc6 (someL b (runF b x n).ds) ⟨#[]⟩ (lgP rs st.2.1) _ (Nat.le_refl _),List.take_length] at cD;generalize (someL b (runF b x n).ds).filter (lgP rs st.2.1)=bs at *;have cF:=U _ _ bp;have cG:∀aj,Same cx aj->¬sureB b (runF b x n).ds x (runF b x n).at_=true->Q (.ref D) aj:=λaj bt dW=>k D G n aj (cA.trans bt) aY (bt _ _ bq) ⟨aZ,λq=>dW q.2⟩ (cz.mono bt.x);refine L _ _ ?_;refine zez (J0:=λσ' aL=>σ'=[some (.ref a),some (.str x),some (.ref pd),some (.ref D),some (.int (runF b x n).at_),some (.int (zam (runF b x n).ds)),some (.ref pm),some (.ref ps),some (.str rs),some (.ref pS),some (.ref aD)]/\Same cx aL/\sureB b (runF b x n).ds x (runF b x n).at_=true) (λag J0=>?g1) ?g2
    case g1=>
     refine⟨_,J,ps,_,2,_,J,J,SqT.of cF,zal (j:=2) J,J,_,J,?_⟩;refine ite2 (λg=>?_) (λg=>?_)
     .have g':st.2.2.1=Str.ofString "cut":=by simpa using g
      exact⟨_,J,bS _ _ (cG br U (av.mp (.inl g')))⟩
     have cH:st.2.2.1≠Str.ofString "cut":=by simpa using g
     refine⟨_,J,ps,_,2,_,J,J,SqT.of cF,zal (j:=2) J,J,_,J,?_⟩;refine ite2 (λg2=>?_) (λg2=>?_)
     .have dX:st.2.2.1≠Str.ofString "escape":=by simpa using g2
      refine⟨_,J,Nat.zero_le _,λdY dZ=>?_⟩;have bu:=Same.new (o:=.lst []) dZ;refine⟨aD,dY,_,J,J,bu _ _ cD,zab,_,J,?_⟩;refine ite2 (λY=>?_) (λY=>?_)
      .have d0:bs≠[]:=λe=>by rw[e] at Y;simp at Y
       exact⟨_,J,bS _ _ (cG _ (U.trans bu) (av.mp (.inr ⟨dX,d0⟩)))⟩
      .have d1:bs=[]:=by
        cases bv:bs with
        |nil=>rfl
        |cons _ _=>rw[bv] at Y;simp at Y
       have aF:sureB b (runF b x n).ds x (runF b x n).at_=true:=by
        by_cases q:sureB b (runF b x n).ds x (runF b x n).at_=true
        .exact q
        .rcases av.mpr q with r|r
         .exact absurd r cH
         .exact absurd d1 r.2
       exact J0 _ _ ⟨J,U.trans bu,aF⟩
     .have d2:st.2.2.1=Str.ofString "escape":=by simpa using g2
      have aF:sureB b (runF b x n).ds x (runF b x n).at_=true:=by
       by_cases q:sureB b (runF b x n).ds x (runF b x n).at_=true
       .exact q
       .rcases av.mpr q with r|r
        .exact absurd r cH
        .exact absurd d2 r.1
      refine iteF ?_;exact J0 _ _ ⟨J,U,aF⟩
    case g2=>
     rintro σ' aL ⟨rfl,bw,aF⟩;have d3:=bw _ _ bq;have d4:=bw _ _ dS;have eO:G.length=(runF b x n).ss.length:=by have:=a1.length;simpa using this
     refine zaj λag L=>?_;refine⟨_,J,.inl ⟨J,_,SqL.of d3⟩,_,J,_,J,_,J,_,J,J,_,J,1,J,pm,_,J,SqL.of d4,λbx d5=>?_⟩;have d6:=Same.new (o:=.lst (cutV (ys.map V.str) none (some (1:Int)))) d5;refine⟨_,bx,ys.take 1,J,J,SqL.of (by rw[zab,zeI]),by rw[List.length_take];omega,by decide +kernel,b0,?_⟩;rw[b1];have ae:=bw.trans d6;have aM:=ae _ _ dP;have cI:=ae _ _ bq;have cJ:=cz.mono ae.x (z:=z);have bz:=dT.same ae;have bA:=ae _ _ bp;have cK:=cA.trans ae;have cL:LDs z (upd aL bx (.lst (cutV (ys.map V.str) none (some (1:Int))))) pd (runF b x n).ds:=⟨B,aM,dQ.mono ae.x⟩;have cM:=dR.mono ae.x (z:=z);generalize upd aL bx (.lst (cutV (ys.map V.str) none (some (1:Int))))=eP at aM cI cJ bz bA cK cL cM;refine⟨z,.ref a,b,pd,(runF b x n).ds,x,_,(runF b x n).at_,J,bz,c0,cM,au,cL,ao,M,aU,by omega,b2,λp2 ak aN d7 cN cO=>?_⟩;rw[dO] at cN;rw[←dJ] at cO;have aO:=aN _ _ bI.symm cI;have d8:=Reps.butL aM aN cJ (zaO _);have cP:=aN _ _ (zao bA aM (by intro q;cases q)) bA;have d9:Same H ak:=λai o e=>aN ai o (zad e aW) (cK ai o e);have ea:p2≠z:=bz.ne d7;refine⟨D,G,_,J,J,aO,by omega,L _ _ ?_⟩;have cQ:upd ak D (.lst (G++[.ref p2])) D=some (.lst (G++[.ref p2])):=zab;have cR:Reps z (upd ak D (.lst (G++[.ref p2]))) (G++[.ref p2]) ((runF b x (n+1)).ss.map stD):=by
      rw[dI,List.map_append];exact Reps.updL aO (d8.append (.cons (dL cN ea) .nil)) ((zaO _).append (zaO [_]))
     have cS:LDs z (upd ak D (.lst (G++[.ref p2]))) pd (runF b x (n+1)).ds:=by
      obtain⟨eb,h1,h2⟩:=cO;exact⟨eb,by rw[zah bI];exact h1,Reps.updL aO h2 (zbr _)⟩
     have cT:upd ak D (.lst (G++[.ref p2])) ps=some (.tup (stV st)):=by rw[zah (zao cP aO (by intro q;cases q))];exact cP
     have cU:Same H (upd ak D (.lst (G++[.ref p2]))):=λai o e=>by rw[zah (zad e aY)];exact d9 ai o e
     generalize upd ak D (.lst (G++[.ref p2]))=eQ at cQ cR cS cT cU;refine⟨_,J,_,J,ps,_,1,_,J,J,SqT.of cT,zal (j:=1) J,_,_,J,J,?_⟩;refine c2 _ _ ⟨⟨n+1,some (.int (zam (runF b x n).ds)),some (.ref pm),some (.ref ps),some (.str rs),some (.ref pS),some (.ref aD),?_,cU,cS,λj ax=>?_,_,cQ,cR⟩,dN⟩
     .show [some (V.ref a),some (V.str x),some (V.ref pd),some (V.ref D),some (V.int (((runF b x n).at_:Int)+st.2.1)),some (V.int (zam (runF b x n).ds)),some (V.ref pm),some (V.ref ps),some (V.str rs),some (V.ref pS),some (V.ref aD)]=_;rw[dH]
     .rcases Nat.lt_succ_iff_lt_or_eq.mp ax with h|h
      .exact aZ j h
      .rw[h];exact⟨M,aF⟩
   .have ec:¬(runF b x n).at_<x.length:=λq=>M (decide_eq_true (by omega));exact⟨_,J,k D G n ac af aY a0 ⟨aZ,λq=>ec q.1⟩ a1⟩
  .rintro σ ac eR eS bv ⟨ed,bd,ee,be,ef,aA,eg,eh,ei,ej,ek,aR,em,h⟩;exact⟨ed,bd,ee,be,ef,aA,eg,eh,ei,ej,ek,aR,em,bv _ _ h⟩
theorem zjR{K:W.Frag}{H H':Hp}{a t:Addr}{xs:List V}{ps:Array Value}(B:H t=some (.tbl ps))(e:ButX t H H')(h:SqL K H a xs):SqL K H' a xs:=by
 rcases h with(h|⟨o,h⟩)|h
 .exact .inl (.inl (e _ _ (zao h B (by intro q;cases q)) h))
 .exact .inl (.inr ⟨o,e _ _ (zao h B (by intro q;cases q)) h⟩)
 .exact .inr h
theorem zeR{b:Bk}{x:Str}{n:Nat}(h:(runF b x n).at_=x.length):∀k,runF b x (n+k)=runF b x n
 |0=>rfl
 |k+1=>by
  have B:=zeR h k;show zaQ b x (runF b x (n+k))=_;rw[B];unfold zaQ;rw[if_neg (by omega)]
theorem ziN{b:Bk}{x:Str}{n m:Nat}(h:(runF b x n).at_=x.length)(h':(runF b x m).at_=x.length):runF b x n=runF b x m:=by
 have a:=zeR h m;have c:=zeR h' n;rw[←a,←c,Nat.add_comm]
theorem zeS(k:Nat):∀B:List Stp,Deps (k+1) (B.map stD)
 |[]=>.nil _
 |s::r=>.cons (.tup (.cons (.int _ _) (.cons (.int _ _) (.cons (.str _ _) (.cons (.int _ _) (.cons (.int _ _) (.nil _))))))) (zeS k r)
theorem zlb(z:Str)(k:Nat):(cutS z none (some (k:Int))).length<=k:=by
 unfold cutS;show (List.toArray _).size<=k;rw[HT.sIx_nat,HT.sIx_none,List.size_toArray,List.length_take];omega
theorem zlX{m:Nat}(l:Nat):∃n:Nat,(if (m:Int)<(l:Int) then (m:Int) else (l:Int))=(n:Int)/\n<=m:=by
 by_cases h:(m:Int)<(l:Int)
 .exact⟨m,by rw[if_pos h],Nat.le_refl _⟩
 .exact⟨l,by rw[if_neg h],by omega⟩
noncomputable def KeepE(S:Addr->Prop)(H H':Hp):Prop:=∀b o,¬S b->H b=some o->H' b=some o
noncomputable def NoTup(S:Addr->Prop)(H:Hp):Prop:=∀b xs,S b->H b≠some (.tup xs)
mutual
theorem Rep.keep{z:Addr}{S:Addr->Prop}{H H':Hp}(k:KeepE S H H')(n:NoTup S H):∀ {v:V}{d:D},Rep z H v d->NoL d->Rep z H' v d
 |_,_,.non,_=>.non
 |_,_,.bl b,_=>.bl b
 |_,_,.int i,_=>.int i
 |_,_,.str x h,_=>.str x h
 |_,_,.tup h B r,.tup t=>.tup (k _ _ (λs=>n _ _ s h) h) B (Reps.keep k n r t)
theorem Reps.keep{z:Addr}{S:Addr->Prop}{H H':Hp}(k:KeepE S H H')(n:NoTup S H):∀ {vs:List V}{ds:List D},Reps z H vs ds->NoLs ds->Reps z H' vs ds
 |_,_,.nil,_=>.nil
 |_,_,.cons h t,.cons h' t'=>.cons (Rep.keep k n h h') (Reps.keep k n t t')
end
noncomputable abbrev ziO:Stmt:=za0 zcl 0
noncomputable abbrev zeT:Stmt:=za0 zcl 1
noncomputable abbrev zf7:Stmt:=za0 zcl 2
noncomputable abbrev zeU:Stmt:=za0 zcl 3
noncomputable abbrev Rws:=Nat×Int×Str
inductive Stands(tab:List Rws):Nat->List (Int×Str)->Prop where
 |zero:Stands tab 0 []
 |suc {k:Nat} {r:Rws} {ds:List (Int×Str)} (h:tab[k]?=some r) (hk:r.1<=k) (t:Stands tab r.1 ds):Stands tab (k+1) (ds++[r.2])
theorem Stands.mono{tab:List Rws}{k:Nat}{ds:List (Int×Str)}(h:Stands tab k ds)(more:List Rws):Stands (tab++more) k ds:=by
 induction h with
 |zero=>exact .zero
 |suc h B _ D=>exact .suc (by rw[List.getElem?_append_left (List.getElem?_eq_some_iff.mp h).1];exact h) B D
theorem Stands.inj{tab:List Rws}{k:Nat}{ds es:List (Int×Str)}(h:Stands tab k ds)(g:Stands tab k es):ds=es:=by
 induction h generalizing es with
 |zero=>cases g;rfl
 |suc h D _ B=>
  cases g with
  |suc h' _ t'=>
   rw[h] at h';cases h';rw[B t']
theorem Stands.le{tab:List Rws}{k:Nat}{ds:List (Int×Str)}(h:Stands tab k ds):k<=tab.length:=by
 cases h with
 |zero=>exact Nat.zero_le _
 |suc h _ _=>exact(List.getElem?_eq_some_iff.mp h).1
theorem Stands.nil{tab:List Rws}{k:Nat}(h:Stands tab k []):k=0:=by
 generalize e:([]:List (Int×Str))=ds at h;cases h with
 |zero=>rfl
 |suc _ _ _=>simp at e
theorem Stands.uniq{tab:List Rws}(F:tab.Nodup){k:Nat}{ds:List (Int×Str)}(h:Stands tab k ds):∀ {B:Nat},Stands tab B ds->k=B:=by
 induction h with
 |zero=>exact λg=>g.nil.symm
 |suc h M _ G=>
  intro B g;generalize e:_++[_]=es at g;cases g with
  |zero=>simp at e
  |suc h' O t'=>
   obtain⟨I,D⟩:=List.append_inj' e rfl;rw[←I] at t';have J0:=G t';injection D with D;have L:=Prod.ext J0 D;rw[←L] at h';have:=(List.getElem?_inj (List.getElem?_eq_some_iff.mp h).1 F).mp (h.trans h'.symm);omega
noncomputable def pdP(d:Int×Str):D:=.tup [.int d.1,.str d.2]
noncomputable def rowD(r:Rws):D:=.tup [.int r.1,pdP r.2]
theorem zf8(d:Int×Str):NoL (pdP d):=.tup (.cons (.int _) (.cons (.str _) .nil))
theorem zeV:∀tab:List Rws,NoLs (tab.map rowD)
 |[]=>.nil
 |r::t=>.cons (.tup (.cons (.int _) (.cons (zf8 _) .nil))) (zeV t)
theorem zdt:∀ds:List (Int×Str),NoLs (ds.map pdP)
 |[]=>.nil
 |r::t=>.cons (zf8 r) (zdt t)
noncomputable def skey(r:Rws):List NKey:=[.inl (.inl r.1),.inr [.inl r.2.1,.inr r.2.2]]
theorem zjS{r s:Rws}(h:skey r=skey s):r=s:=by
 obtain⟨a,b,c⟩:=r;obtain⟨B,F,G⟩:=s;unfold skey at h;simp only[List.cons.injEq,Sum.inl.injEq,Sum.inr.injEq,and_true] at h;obtain⟨h1,h2,D⟩:=h;have h1:a=B:=by omega
 subst h1;subst h2;subst D;rfl
noncomputable abbrev shS:List Bool:=[true,false]
noncomputable def kvsN:Nat->List Rws->List Addr->List NEnt
 |n,r::tab,a::B=>(skey r,a,.int ((n+1:Nat):Int))::kvsN (n+1) tab B
 |_,[],_=>[]
 |_,_::_,[]=>[]
theorem zeW(r:Rws)(a:Addr):∀(n:Nat) (tab:List Rws) (B:List Addr),tab.length=B.length->kvsN n (tab++[r]) (B++[a])=kvsN n tab B++[(skey r,a,.int ((n+tab.length+1:Nat):Int))]
 |n,[],[],_=>rfl
 |n,s::tab,b::B,h=>by
  show _::kvsN (n+1) (tab++[r]) (B++[a])=_::(kvsN (n+1) tab B++_);rw[zeW r a (n+1) tab B (by simpa using h)];have e:n+1+tab.length+1=n+(s::tab).length+1:=by rw[List.length_cons];omega
  rw[e]
 |n,[],_::_,h=>by simp at h
 |n,_::_,[],h=>by simp at h
theorem ziP:∀(n:Nat) (tab:List Rws) (B:List Addr),(kvsN n tab B).length<=tab.length
 |n,[],_=>Nat.le_refl _
 |n,_::_,[]=>Nat.zero_le _
 |n,r::tab,a::B=>by
  have:=ziP (n+1) tab B;show (kvsN (n+1) tab B).length+1<=tab.length+1;omega
theorem zce(p:NEnt)(l:List NEnt)(k:List NKey):nval (p::l) k=if p.1=k then some p.2.2 else nval l k:=by
 unfold nval;by_cases e:p.1=k
 .rw[if_pos e,List.find?_cons_of_pos (by simpa using e)];rfl
 .rw[if_neg e,List.find?_cons_of_neg (by simpa using e)]
theorem zfF{r:Rws}{v:V}:∀(n:Nat) (tab:List Rws) (B:List Addr),nval (kvsN n tab B) (skey r)=some v->∃j:Nat,tab[j]?=some r/\v=.int ((n+j+1:Nat):Int)
 |n,[],_,h=>by simp[kvsN,nval] at h
 |n,_::_,[],h=>by simp[kvsN,nval] at h
 |n,s::tab,a::B,h=>by
  have h:nval ((skey s,a,.int ((n+1:Nat):Int))::kvsN (n+1) tab B) (skey r)=some v:=h;rw[zce] at h;by_cases e:skey s=skey r
  .rw[if_pos e] at h;exact⟨0,by rw[zjS e];rfl,(Option.some.inj h).symm⟩
  .rw[if_neg e] at h;obtain⟨j,h1,h2⟩:=zfF (n+1) tab B h;exact⟨j+1,h1,by rw[h2];congr 2;omega⟩
theorem zfG{r:Rws}:∀(n:Nat) (tab:List Rws) (B:List Addr),tab.length=B.length->nval (kvsN n tab B) (skey r)=none->¬r∈tab
 |n,[],_,_,_=>by simp
 |n,_::_,[],h,_=>by simp at h
 |n,s::tab,a::B,D,h=>by
  have h:nval ((skey s,a,.int ((n+1:Nat):Int))::kvsN (n+1) tab B) (skey r)=none:=h;rw[zce] at h;by_cases e:skey s=skey r
  .rw[if_pos e] at h;cases h
  .rw[if_neg e] at h;have:=zfG (n+1) tab B (by simpa using D) h;intro q;rcases List.mem_cons.mp q with q|q
   .exact e (by rw[q])
   .exact this q
theorem zjT{k:List NKey}{p:NEnt}(l:List NEnt)(h:nval l k=none)(e:p.1=k):nval (l++[p]) k=some p.2.2:=by
 induction l with
 |nil=>rw[List.nil_append,zce,if_pos e]
 |cons q l B=>
  rw[zce] at h;by_cases g:q.1=k
  .rw[if_pos g] at h;cases h
  .rw[if_neg g] at h;rw[List.cons_append,zce,if_neg g];exact B h
theorem zf9{z:Addr}{H:Hp}{v:V}{r:Rws}(h:Rep z H v (rowD r)):∃a d,v=.ref a/\a≠z/\d≠z/\H a=some (.tup [.int r.1,.ref d])/\H d=some (.tup [.int r.2.1,.str r.2.2])/\r.2.2.length<=1000:=by
 have h:Rep z H v (.tup [.int r.1,.tup [.int r.2.1,.str r.2.2]]):=h;cases h with
 |tup h I B=>
  cases B with
  |cons B D=>
   cases D with
   |cons D J0=>
    cases J0;cases B;cases D with
    |tup h2 L F=>
     cases F with
     |cons F G=>
      cases G with
      |cons G M=>
       cases M;cases F;cases G with
       |str _ O=>exact⟨_,_,J,I,L,h,h2,O⟩
theorem zga{z a:Addr}{H:Hp}{r:Rws}(h:Rep z H (.ref a) (rowD r)):zdO H (skey r) a:=by
 obtain⟨B,d,e,_,_,h1,h2,_⟩:=zf9 h;cases e;exact⟨_,h1,.cons J (.cons ⟨d,J,h2⟩ .nil)⟩
theorem zdZ{z:Addr}{H:Hp}:∀(n:Nat) (tab:List Rws) (B:List Addr),Reps z H (B.map V.ref) (tab.map rowD)->zft H shS (kvsN n tab B)
 |n,[],_,_=>λp hp=>nomatch hp
 |n,_::_,[],_=>λp hp=>nomatch hp
 |n,r::tab,a::B,h=>λp hp=>by
  cases h with
  |cons h1 h2=>
   rcases List.mem_cons.mp (show p∈(skey r,a,V.int ((n+1:Nat):Int))::kvsN (n+1) tab B from hp) with e|hp
   .rw[e];exact⟨zga h1,J⟩
   .exact zdZ (n+1) tab B h2 p hp
theorem zbt(f g:Str)(v:V)(r:List (Str×V)):((g,v)::r).lookup f=if f=g then some v else r.lookup f:=by
 rw[List.lookup_cons];by_cases h:f=g
 .have B:(f==g)=true:=beq_iff_eq.mpr h;rw[B,if_pos h]
 .have B:(f==g)=false:=beq_eq_false_iff_ne.mpr h;rw[B,if_neg h]
noncomputable def stF(pr pn:Addr):List (Str×V):=[("rows",.ref pr),("numbers",.ref pn)]
theorem q1:¬(("rows":Str)="numbers"):=by decide +kernel
theorem zeX(pr pn:Addr):(stF pr pn).lookup ("rows":Str)=some (.ref pr):=by unfold stF;rw[zbt,if_pos rfl]
theorem zeY(pr pn:Addr):(stF pr pn).lookup ("numbers":Str)=some (.ref pn):=by unfold stF;rw[zbt,if_neg (Ne.symm q1),zbt,if_pos rfl]
structure StdS(P:Program)(w:World)(z CS:Addr)(H:Hp)(so dxs pr pn:Addr)(tab:List Rws):Prop where
 ins:H so=some (.ins CS dxs (stF pr pn))
 ex:∃as:List Addr,H pr=some (.lst (.non::as.map V.ref))/\Reps z H (as.map V.ref) (tab.map rowD)/\H pn=some (dN P w shS pn (kvsN 0 tab as))
 prz:pr≠z
 wf:∀(j:Nat) (r:Rws),tab[j]?=some r->r.1<=j
 nod:tab.Nodup
theorem zmb{P:Program}{w:World}{H:Hp}{a b:Addr}{l:List V}{kvs:List NEnt}(h:H a=some (.lst l))(g:H b=some (dN P w shS b kvs)):a≠b:=zao h g (by intro q;cases q)
theorem StdS.keep{P:Program}{w:World}{z CS:Addr}{H H':Hp}{so dxs pr pn:Addr}{tab:List Rws}(h:StdS P w z CS H so dxs pr pn tab){S:Addr->Prop}(k:KeepE S H H')(n:NoTup S H)(h1:¬S so)(h2:¬S pr)(B:¬S pn):StdS P w z CS H' so dxs pr pn tab:=by
 obtain⟨D,F,G,I⟩:=h.ex;exact⟨k _ _ h1 h.ins,⟨D,k _ _ h2 F,Reps.keep k n G (zeV _),k _ _ B I⟩,h.prz,h.wf,h.nod⟩
theorem StdS.same{P:Program}{w:World}{z CS:Addr}{H H':Hp}{so dxs pr pn:Addr}{tab:List Rws}(h:StdS P w z CS H so dxs pr pn tab)(s:Same H H'):StdS P w z CS H' so dxs pr pn tab:=
 h.keep (S:=λ_=>False) (λb o _ e=>s b o e) (λ_ _ q=>q.elim) id id id
structure TxtS(K:W.Frag)(mg:Str->Option Value)(C:Addr):Prop where
 cl:Cls K C
 nR:NoAttr K C "rows"
 nN:NoAttr K C "numbers"
theorem sm1:∀m∈([("__init__":Str),"within","around","doors_by"]:List Str),¬m="rows"/\¬m="numbers":=by decide +kernel
theorem zeZ{pr pn:Addr}{m:Str}(h:m∈([("__init__":Str),"within","around","doors_by"]:List Str)):(stF pr pn).lookup m=none:=by
 obtain⟨h1,h2⟩:=sm1 m h;unfold stF;rw[zbt,if_neg h1,zbt,if_neg h2];rfl
inductive ze0(P:Program)(w:World)(CS:Addr):List V->Hp->VK->XK->Prop where
 |mk {vs:List V} {H:Hp} {Q:VK} {E:XK} (r dx:Addr) (c1:vs=[.ref r]) (c2:H r=some (.ins CS dx [])) (c3:∀pr pn H',H pr=none->H pn=none->pr≠pn->SameX r H H'->H' r=some (.ins CS dx (stF pr pn))->H' pr=some (.lst [.non])->H' pn=some (dN P w shS pn [])->Q .non H'):ze0 P w CS vs H Q E
inductive zcR(P:Program)(w:World)(CS:Addr):List V->Hp->VK->XK->Prop where
 |mk {vs:List V} {H:Hp} {Q:VK} {E:XK} (z so dxs pr pn dd:Addr) (tab:List Rws) (o:Nat) (d:Int×Str) (c1:vs=[.ref so,.int o,.ref dd]) (c2:Bag z H) (c3:StdS P w z CS H so dxs pr pn tab) (c4:dd≠z) (c5:H dd=some (.tup [.int d.1,.str d.2])) (c6:d.2.length<=1000) (c7:o<=tab.length) (c8:tab.length<1000000)
   (c9:∀k tab' H',(tab'=tab∨tab'=tab++[(o,d)])->tab'[k]?=some (o,d)->o<=k->KeepE (λb=>b=pr∨b=pn) H H'->StdS P w z CS H' so dxs pr pn tab'->Q (.int ((k+1:Nat):Int)) H'):zcR P w CS vs H Q E
inductive zdu(P:Program)(w:World)(CS:Addr):List V->Hp->VK->XK->Prop where
 |mk {vs:List V} {H:Hp} {Q:VK} {E:XK} (z so dxs pr pn:Addr) (tab:List Rws) (k:Nat) (r:Rws) (c1:vs=[.ref so,.int ((k+1:Nat):Int)]) (c2:StdS P w z CS H so dxs pr pn tab) (c3:tab[k]?=some r) (c4:Q (.int r.1) H):zdu P w CS vs H Q E
inductive zcf(P:Program)(w:World)(CS:Addr):List V->Hp->VK->XK->Prop where
 |mk {vs:List V} {H:Hp} {Q:VK} {E:XK} (z so dxs pr pn:Addr) (tab:List Rws) (k:Nat) (ds:List (Int×Str)) (c1:vs=[.ref so,.int k]) (c2:Bag z H) (c3:StdS P w z CS H so dxs pr pn tab) (c4:Stands tab k ds) (c5:ds.length<=20000)
   (c6:∀p dv H',Same H H'->H p=none->H' p=some (.lst dv)->Reps z H' dv (ds.map pdP)->Q (.ref p) H'):zcf P w CS vs H Q E
theorem zkx{B:List Addr}{j:Nat}{a:Addr}(h:B[j]?=some a):(V.non::B.map V.ref)[j+1]?=some (.ref a):=by
 rw[List.getElem?_cons_succ,List.getElem?_map,h];rfl
theorem ze1{z:Addr}{H:Hp}{B:List Addr}{tab:List Rws}{j:Nat}{r:Rws}(R:Reps z H (B.map V.ref) (tab.map rowD))(h:tab[j]?=some r):∃a,B[j]?=some a/\Rep z H (.ref a) (rowD r):=by
 have F:=(List.getElem?_eq_some_iff.mp h).1;have G:=R.length;rw[List.length_map,List.length_map] at G;have g:=R.get (i:=j) (by simpa using F);have D:j<B.length:=by omega
 refine⟨B[j],List.getElem?_eq_getElem D,?_⟩;have I:(B.map V.ref).getD j .non=.ref B[j]:=by simp[D]
 have J0:(tab.map rowD).getD j .non=rowD r:=by
  rw[List.getD_eq_getElem?_getD,List.getElem?_map,h];rfl
 rw[I,J0] at g;exact g
theorem zlc:zav ["self"] ["self"] (zag ziO):=⟨J,J,J,by decide +kernel,J,by decide +kernel,by decide +kernel⟩
theorem zjU{f C:Addr}{fd:FuncData}(F:Fun K "__init__" "Standings.__init__" ziO f fd)(D:TxtS K mg C):FnOk P w K mg base CX0 1 f fd ["self"] (ze0 P w C):=by
 refine F.ok zlc (λvs H Q E h=>?_) (λcdv A outer s H vs Q E U h=>?_)
 .obtain⟨r,dx,rfl,_⟩:=h;rfl
 .obtain⟨r,dx,rfl,I,k⟩:=h;refine⟨_,zac (zbB (pv 0) (zaN (pa_K zgm zae)) J) (zai (zbB (pv 0) (zjF shS) J)),?_⟩;dsimp only[cxOf,Cx.nox,Cx.wish];have W:=zaW;refine⟨by show (1:Nat)<=_;omega,λpr J0=>?_⟩;have G:r≠pr:=zad I J0;refine⟨_,J,r,C,dx,_,J,by rw[zah G];exact I,D.cl,D.nR,by show (0:Nat)<1000;decide,?_⟩;intro pn L;have B:upd H pr (.lst [.non]) pn=none:=by
   by_cases q:pn=r
   .rw[q,zab] at L;cases L
   .rwa [zah q] at L
  have O:pn≠r:=λq=>by rw[q,zah G,I] at B;cases B
  have M:pn≠pr:=λq=>by rw[q,zab] at B;cases B
  have R:H pn=none:=by rwa [zah M] at B
  refine⟨_,J,r,C,dx,_,J,by rw[zah O.symm,zab],D.cl,D.nN,by show (1:Nat)<1000;decide,?_⟩;refine k pr pn _ J0 R M.symm (λb o S e=>?_) ?_ ?_ ?_
  .rw[zah S,zah (zad e R),zah S,zah (zad e J0)];exact e
  .rw[zab];show some (HO.ins C dx (if ("rows":Str)="numbers" then _ else _::[(("numbers":Str),V.ref pn)]))=_;rw[if_neg q1];rfl
  .rw[zah G.symm,zah M.symm,zah G.symm,zab]
  .rw[zah O,zab]
theorem scWithinS:zav ["self","number","door","row"] ["self","number","door"] (zag zeT):=⟨J,J,J,by decide +kernel,J,by decide +kernel,by decide +kernel⟩
theorem zhs{f C:Addr}{fd:FuncData}(F:Fun K "within" "Standings.within" zeT f fd)(T:TxtB mg)(D:TxtS K mg C):FnOk P w K mg base CX0 1 f fd ["self","number","door"] (zcR P w C):=by
 refine F.ok scWithinS (λvs H Q E h=>?_) (λcdv A outer s H vs Q E am h=>?_)
 .obtain⟨z,so,dxs,pr,pn,dd,tab,o,d,rfl,_⟩:=h;rfl
 .obtain⟨z,so,dxs,pr,pn,dd,tab,o,d,rfl,ao,L,ap,aq,ar,as,aF,k⟩:=h;have au:=scWithinS.nd;have M:(A.deeper (PyProof.Rows.envOfC "Standings.within" (zag zeT) s.heap.objs.size f cdv)).units+6<cLine:=by have:=am.un;omega
  refine⟨_,zac (zan (i:=3) au J (Or.inl J) (zaV (zaa (pv 1) (zaa (pv 2) zae))))
   (zac (za9 (zhC (zig M shS (pv 3) (zaG (pv 0) J)))
    (zac (zbw (zar zaF (by rfl) T.len b_len (zaa (zaG (pv 0) J) zae)) (zhF (zaG (pv 0) J) (pv 3) (zl9 M shS)))
    (zai (zaP (zbL PySem.F.plainAttrs_list PySem.F.slot_list_append PySem.F.type_list_append zaK (zaG (pv 0) J) (zaa (pv 3) zae))))) zaC)
   (zai (zaw (zlO M shS (zaG (pv 0) J) (pv 3) (λ_ _=>rfl))))),?_⟩
  dsimp only[cxOf,Cx.nox,Cx.wish];have aG:=zaW;have aH:(1000002:Nat)<=sizeLine:=by rw[sizeLine_eq];decide
  refine⟨_,J,_,J,by show (2:Nat)<=_;omega,λpt ad=>?_⟩;have O:=Same.new (o:=.tup [.int o,.ref dd]) ad;have ae:upd H pt (.tup [.int o,.ref dd]) pt=some (.tup [.int o,.ref dd]):=zab;have av:pt≠z:=ao.ne ad;have G:=L.same O;have af:=O _ _ aq;generalize upd H pt (.tup [.int o,.ref dd])=H1 at O ae G af;obtain⟨B,I,RR,J0⟩:=G.ex;have R:B.length=tab.length:=by have:=RR.length;simpa using this
  have W:=zdZ 0 tab B RR;have ag:Rep z H1 (.ref pt) (rowD (o,d)):=.tup ae av (.cons (.int _) (.cons (.tup af ap (.cons (.int _) (.cons (.str _ ar) .nil))) .nil));have Y:=zga ag;refine⟨_,J,_,J,so,C,dxs,_,_,J,G.ins,D.cl,D.nN,zeY pr pn,pt,pn,skey (o,d),_,J,J,J0,W,Y,J,_,J,?_⟩;cases hv:nval (kvsN 0 tab B) (skey (o,d)) with
  |some v=>
   refine iteF ?_;obtain⟨j,h1,h2⟩:=zfF 0 tab B hv;refine⟨_,J,so,C,dxs,_,_,J,G.ins,D.cl,D.nN,zeY pr pn,_,J,pn,pt,skey (o,d),_,v,J,J,J0,W,Y,J,hv,?_⟩;rw[h2,Nat.zero_add];exact k j tab H1 (.inl J) h1 (L.wf _ _ h1) (λb o _ e=>O b o e) G
  |none=>
   refine iteT ?_;refine⟨_,J,so,C,dxs,_,_,J,G.ins,D.cl,D.nR,zeX pr pn,pr,_,J,.inl (SqL.of I),_,J,so,C,dxs,_,_,J,G.ins,D.cl,D.nN,zeY pr pn,_,J,pn,pt,skey (o,d),_,J,J,J0,W,Y,J,hv,?_,?_⟩
   .have:=ziP 0 tab B;omega
   have Z:pr≠pn:=zmb I J0;have ah:so≠pn:=zao G.ins J0 (by intro q;cases q);have aw:so≠pr:=zao G.ins I (by intro q;cases q);have ax:((V.non::B.map V.ref).length:Int)=((0+tab.length+1:Nat):Int):=by rw[List.length_cons,List.length_map,R];omega
   rw[ax,←zeW (o,d) pt 0 tab B R.symm];refine⟨_,J,so,C,dxs,_,_,J,by rw[zah ah];exact G.ins,D.cl,D.nR,zeX pr pn,.inl ⟨J,_,SqL.of (by rw[zah Z];exact I)⟩,_,J,pr,_,_,J,J,by rw[zah Z];exact I,by rw[List.length_cons,List.length_map];omega,?_⟩;have S:KeepE (λb=>b=pr∨b=pn) H1 (upd (upd H1 pn (dN P w shS pn (kvsN 0 (tab++[(o,d)]) (B++[pt])))) pr (.lst ((V.non::B.map V.ref)++[.ref pt]))):=λb u n e=>by
    rw[zah (λq=>n (.inl q)),zah (λq=>n (.inr q))];exact e
   have ai:NoTup (λb=>b=pr∨b=pn) H1:=λb xs q e=>by
    rcases q with q|q
    .rw[q,I] at e;cases e
    .rw[q,J0] at e;cases e
   have aa:=S so _ (λq=>q.elim aw ah) G.ins;have U:Reps z (upd (upd H1 pn (dN P w shS pn (kvsN 0 (tab++[(o,d)]) (B++[pt])))) pr (.lst ((V.non::B.map V.ref)++[.ref pt]))) ((B++[pt]).map V.ref) ((tab++[(o,d)]).map rowD):=by
    rw[List.map_append,List.map_append];exact(Reps.keep S ai RR (zeV _)).append (.cons (Rep.keep S ai ag (.tup (.cons (.int _) (.cons (zf8 _) .nil)))) .nil)
   have aj:upd (upd H1 pn (dN P w shS pn (kvsN 0 (tab++[(o,d)]) (B++[pt])))) pr (.lst ((V.non::B.map V.ref)++[.ref pt])) pr=some (.lst (.non::(B++[pt]).map V.ref)):=by
    rw[zab,List.map_append];rfl
   have ab:upd (upd H1 pn (dN P w shS pn (kvsN 0 (tab++[(o,d)]) (B++[pt])))) pr (.lst ((V.non::B.map V.ref)++[.ref pt])) pn=some (dN P w shS pn (kvsN 0 (tab++[(o,d)]) (B++[pt]))):=by rw[zah Z.symm,zab]
   generalize upd (upd H1 pn (dN P w shS pn (kvsN 0 (tab++[(o,d)]) (B++[pt])))) pr (.lst ((V.non::B.map V.ref)++[.ref pt]))=H2 at S aa U aj ab;have ay:nval (kvsN 0 (tab++[(o,d)]) (B++[pt])) (skey (o,d))=some (.int ((0+tab.length+1:Nat):Int)):=by
    rw[zeW (o,d) pt 0 tab B R.symm];exact zjT _ hv rfl
   have ak:(tab++[(o,d)])[tab.length]?=some (o,d):=by rw[List.getElem?_append_right (Nat.le_refl _),Nat.sub_self];rfl
   obtain⟨ac,al,az⟩:=ze1 U ak;have aA:ac=pt:=by
    rw[←R,List.getElem?_append_right (Nat.le_refl _),Nat.sub_self] at al;exact(Option.some.inj al).symm
   subst aA;refine⟨_,J,so,C,dxs,_,_,J,aa,D.cl,D.nN,zeY pr pn,_,J,pn,ac,skey (o,d),_,_,J,J,ab,zdZ 0 _ _ U,zga az,J,ay,?_⟩;have aB:0+tab.length+1=tab.length+1:=by omega
   rw[aB];exact k tab.length (tab++[(o,d)]) H2 (.inr J) ak as (λb u n e=>S b u n (O b u e)) ⟨aa,⟨B++[ac],aj,U,ab⟩,L.prz,λj r h=>by
    by_cases aC:j<tab.length
    .rw[List.getElem?_append_left aC] at h;exact L.wf j r h
    .rw[List.getElem?_append_right (by omega)] at h;have aD:j-tab.length=0:=by
      have:=(List.getElem?_eq_some_iff.mp h).1;simp at this;omega
     rw[aD] at h;have:r=(o,d):=(Option.some.inj h).symm;rw[this];show o<=j;omega,List.nodup_append.mpr ⟨L.nod,by simp,λu M aI aE e=>zfG 0 tab B R.symm hv (by rw[List.mem_singleton.mp aE] at e;rw[←e];exact M)⟩⟩
theorem Reps.reverse{z:Addr}{H:Hp}:∀ {vs:List V}{ds:List D},Reps z H vs ds->Reps z H vs.reverse ds.reverse
 |_,_,.nil=>.nil
 |_,_,.cons h t=>by
  rw[List.reverse_cons,List.reverse_cons];exact(Reps.reverse t).append (.cons h .nil)
theorem scAround:zav ["self","number","outer","door"] ["self","number"] (zag zf7):=⟨J,J,J,by decide +kernel,J,by decide +kernel,by decide +kernel⟩
theorem ziQ{f C:Addr}{fd:FuncData}(F:Fun K "around" "Standings.around" zf7 f fd)(B:TxtS K mg C):FnOk P w K mg base CX0 1 f fd ["self","number"] (zdu P w C):=by
 refine F.ok scAround (λvs H Q E h=>?_) (λcdv A outer s H vs Q E R h=>?_)
 .obtain⟨z,so,dxs,pr,pn,tab,k,r,rfl,_⟩:=h;rfl
 .obtain⟨z,so,dxs,pr,pn,tab,k,r,rfl,D,I,q⟩:=h;have G:=scAround.nd;refine⟨_,zac (zbw (zay zaB (zaG (pv 0) J) (pv 1) (λ_ _=>rfl)) (zbG J (zas (zaq (i:=2) G J (Or.inl J)) (zas (zaq (i:=3) G J (Or.inl J)) za2)))) (zai (zaw (pv 2))),?_⟩;dsimp only[cxOf,Cx.nox,Cx.wish];obtain⟨S,h1,RR,U⟩:=D.ex;obtain⟨a,J0,L⟩:=ze1 RR I;obtain⟨V,d,M,_,_,O,W,_⟩:=zf9 L;cases M;exact⟨_,J,so,C,dxs,_,_,J,D.ins,B.cl,B.nR,zeX pr pn,_,J,pr,_,_,_,J,J,SqL.of h1,zal (zkx J0),a,_,J,SqT.of O,J,_,_,J,_,_,J,J,_,J,q⟩
theorem scDoorsBy:zav ["self","number","doors","door"] ["self","number"] (zag zeU):=⟨J,J,J,by decide +kernel,J,by decide +kernel,by decide +kernel⟩
theorem zht{f C:Addr}{fd:FuncData}(F:Fun K "doors_by" "Standings.doors_by" zeU f fd)(S:TxtS K mg C):FnOk P w K mg base CX0 1 f fd ["self","number"] (zcf P w C):=by
 refine F.ok scDoorsBy (λvs H Q E h=>?_) (λcdv A outer s H vs Q E au h=>?_)
 .obtain⟨z,so,dxs,pr,pn,tab,k,ds,rfl,_⟩:=h;rfl
 .obtain⟨z,so,dxs,pr,pn,tab,k,ds,rfl,Z,aa,ab,av,q⟩:=h;have I:=scDoorsBy.nd;refine⟨_,zac (zan (i:=2) I J (Or.inl J) (zaN zae))
   (zac (zbM PassesOwn.never (zau zg4 (pv 1) zaf (zaz _))
    (zac (zbw (zay zaB (zaG (pv 0) J) (pv 1) (λ_ _=>rfl)) (zbG J (zas (zaq (i:=1) I J (Or.inl J)) (zas (zaq (i:=3) I J (Or.inl J)) za2))))
    (zai (zaP (zbL PySem.F.plainAttrs_list PySem.F.slot_list_append PySem.F.type_list_append zaK (pv 2) (zaa (pv 3) zae))))))
   (zac (zaP (zgs PySem.F.plainAttrs_list PySem.F.slot_list_reverse PySem.F.type_list_reverse zhd (pv 2)))
   (zai (zaw (pv 2))))),?_⟩
  dsimp only[cxOf,Cx.nox,Cx.wish];have aw:(100000:Nat)<=sizeLine:=by rw[sizeLine_eq];decide
  refine⟨Nat.zero_le _,λp G=>?_⟩;have ac:=Same.new (o:=.lst []) G;have ax:p≠z:=Z.ne G;dsimp only;refine zaj λay ad=>?_;refine zbN (λσ H2=>∃(J0:Nat) (L es:List (Int×Str)) (B:List V) (U:Option V),σ=[some (.ref so),some (.int J0),some (.ref p),U]/\Same H H2/\Stands tab J0 L/\ds=L++es.reverse/\H2 p=some (.lst B)/\Reps z H2 B (es.map pdP))
   (λσ _=>match σ[1]? with|some (some (V.int i))=>i.toNat|_=>0) ⟨k,ds,[],[],none,J,ac,ab,by simp,zab,.nil⟩ ?_ ?_
  .rintro σ H2 ⟨J0,L,es,B,U,rfl,M,ae,O,D,R⟩;refine⟨_,J,J,_,J,?_⟩;have W:=aa.same M;cases ae with
   |zero=>
    refine iteF (ad _ _ ?_);refine⟨_,J,.inl ⟨J,_,SqL.of D⟩,p,B,J,J,D,_,J,?_⟩;have af:Reps z (upd H2 p (.lst B.reverse)) B.reverse (ds.map pdP):=by
     rw[O,List.nil_append,List.map_reverse];exact Reps.updL D (Reps.reverse R) (by rw[←List.map_reverse];exact zdt _)
    exact q p B.reverse _ (λb o e=>by rw[zah (zad e G)];exact M b o e) G zab af
   |@suc Y r ds0 h az t=>
    refine ite2 (λ_=>?_) (λg=>absurd g ?_)
    .obtain⟨aA,h1,RR,aB⟩:=W.ex;obtain⟨a,ag,ah⟩:=ze1 RR h;obtain⟨aC,d,ai,_,aj,ak,al,am⟩:=zf9 ah;cases ai;have aD:es.length<=ds.length:=by rw[O];simp;omega
     have aE:B.length=es.length:=by have:=R.length;simpa using this
     refine⟨_,J,so,C,dxs,_,_,J,W.ins,S.cl,S.nR,zeX pr pn,_,J,pr,_,_,_,J,J,SqL.of h1,zal (zkx ag),a,_,J,SqT.of ak,J,_,_,J,_,_,J,J,?_⟩;refine⟨_,J,.inl ⟨J,_,SqL.of D⟩,_,J,p,B,_,J,J,D,by omega,⟨r.1,ds0,es++[r.2],B++[.ref d],_,J,λb o e=>by rw[zah (zad e G)];exact M b o e,t,?_,zab,?_⟩,?_⟩
     .rw[O,List.reverse_append,List.append_assoc];rfl
     .rw[List.map_append];exact Reps.updL D (R.append (.cons (.tup al aj (.cons (.int _) (.cons (.str _ am) .nil))) .nil)) ((zdt _).append (zdt [_]))
     .show ((r.1:Int)).toNat<(((Y+1:Nat):Int)).toNat;omega
    .have:¬(V.int ((Y+1:Nat):Int)=V.int 0):=λe=>by injection e with e;omega
     rw[decide_eq_false this];simp
  .rintro σ aF aG aH ao ⟨ap,aq,h2,ar,as,h⟩;exact⟨ap,aq,h2,ar,as,ao _ _ h⟩
noncomputable abbrev ziR:Stmt:=za0 sPage 0
noncomputable abbrev zgb:Stmt:=za0 sPage 1
noncomputable abbrev ziS:Stmt:=za0 sPage 3
noncomputable abbrev zgc:Stmt:=za0 sPage 4
noncomputable abbrev mPut:Stmt:=za0 sPage 6
noncomputable abbrev mAnew:Stmt:=za0 sPage 7
noncomputable abbrev ze2:Stmt:=za0 sPage 8
noncomputable abbrev zgd:Stmt:=za0 sPage 9
noncomputable abbrev zc8:Stmt:=za0 sPage 10
noncomputable abbrev zdv:Stmt:=za0 sPage 11
noncomputable abbrev zc9:Stmt:=za0 sPage 12
noncomputable abbrev zcC:Stmt:=za0 sPage 13
noncomputable def pgF(v:V)(x:Str)(pt ps so pw:Addr):List (Str×V):=[("book",v),("signs",.str x),("told",.ref pt),("stands",.ref ps),("standings",.ref so),("ways_back",.ref pw)]
theorem zbg{f g:Str}{v:V}{r:List (Str×V)}(h:¬f=g):((g,v)::r).lookup f=r.lookup f:=by rw[zbt,if_neg h]
theorem zem{f:Str}{v:V}{r:List (Str×V)}:((f,v)::r).lookup f=some v:=by rw[zbt,if_pos rfl]
theorem zbT{f g:Str}{v x:V}{r:List (Str×V)}(h:¬g=f):putF f v ((g,x)::r)=(g,x)::putF f v r:=if_neg h
theorem zld{f:Str}{v x:V}{r:List (Str×V)}:putF f v ((f,x)::r)=(f,v)::r:=if_pos rfl
section
variable (v:V) (x x':Str) (pt ps so pw pt' ps':Addr)
theorem ziT:(pgF v x pt ps so pw).lookup ("book":Str)=some v:=zem
theorem zbv:(pgF v x pt ps so pw).lookup ("signs":Str)=some (.str x):=(zbg (by decide +kernel)).trans zem
theorem zcD:(pgF v x pt ps so pw).lookup ("told":Str)=some (.ref pt):=(zbg (by decide +kernel)).trans ((zbg (by decide +kernel)).trans zem)
theorem zcS:(pgF v x pt ps so pw).lookup ("stands":Str)=some (.ref ps):=(zbg (by decide +kernel)).trans ((zbg (by decide +kernel)).trans ((zbg (by decide +kernel)).trans zem))
theorem zbP:(pgF v x pt ps so pw).lookup ("standings":Str)=some (.ref so):=(zbg (by decide +kernel)).trans ((zbg (by decide +kernel)).trans ((zbg (by decide +kernel)).trans ((zbg (by decide +kernel)).trans zem)))
theorem zle:(pgF v x pt ps so pw).lookup ("ways_back":Str)=some (.ref pw):=(zbg (by decide +kernel)).trans ((zbg (by decide +kernel)).trans ((zbg (by decide +kernel)).trans ((zbg (by decide +kernel)).trans ((zbg (by decide +kernel)).trans zem))))
theorem zjV:putF "signs" (.str x') (pgF v x pt ps so pw)=pgF v x' pt ps so pw:=(zbT (by decide +kernel)).trans (congrArg _ zld)
theorem zlf:putF "told" (.ref pt') (pgF v x pt ps so pw)=pgF v x pt' ps so pw:=(zbT (by decide +kernel)).trans (congrArg _ ((zbT (by decide +kernel)).trans (congrArg _ zld)))
theorem ziU:putF "stands" (.ref ps') (pgF v x pt ps so pw)=pgF v x pt ps' so pw:=(zbT (by decide +kernel)).trans (congrArg _ ((zbT (by decide +kernel)).trans (congrArg _ ((zbT (by decide +kernel)).trans (congrArg _ zld)))))
end
theorem pm1:∀m∈([("__init__":Str),"change","text","steps","put","read_anew","goes_on","stand_behind","beginning","numbers_by_beginnings","count_sure","count_ended"]:List Str),¬m="book"/\¬m="signs"/\¬m="told"/\¬m="stands"/\¬m="standings"/\¬m="ways_back":=by decide +kernel
theorem zbf{v:V}{x:Str}{pt ps so pw:Addr}{m:Str}(h:m∈([("__init__":Str),"change","text","steps","put","read_anew","goes_on","stand_behind","beginning","numbers_by_beginnings","count_sure","count_ended"]:List Str)):(pgF v x pt ps so pw).lookup m=none:=by
 obtain⟨h1,h2,B,D,F,G⟩:=pm1 m h;unfold pgF;rw[zbg h1,zbg h2,zbg B,zbg D,zbg F,zbg G];rfl
structure TxtP(K:W.Frag)(mg:Str->Option Value)(C:Addr):Prop where
 cl:Cls K C
 nB:NoAttr K C "book"
 nX:NoAttr K C "signs"
 nT:NoAttr K C "told"
 nS:NoAttr K C "stands"
 nG:NoAttr K C "standings"
 nW:NoAttr K C "ways_back"
theorem zge(b:Bk)(ds:List LDr)(x:Str)(i:Nat)(m:Str):(stepL b ds x i m).1.1=(i:Int):=by
 unfold stepL;split
 .split<;>rfl
 .split
  .rfl
  .split
   .rfl
   .split<;>rfl
noncomputable abbrev zbj(b:Bk)(x:Str)(j:Nat):Stp:=(stepL b (runF b x j).ds x (runF b x j).at_ (bestL b (runF b x j).ds x (runF b x j).at_)).1
theorem zjW{b:Bk}{x:Str}{n:Nat}(h:¬(runF b x n).at_<x.length):runF b x (n+1)=runF b x n:=by
 show zaQ b x (runF b x n)=_;unfold zaQ;rw[if_neg h]
theorem zgQ(b:Bk)(x:Str):∀n,(runF b x n).at_<x.length->(runF b x n).ss.length=n
 |0,_=>rfl
 |n+1,h=>by
  by_cases B:(runF b x n).at_<x.length
  .rw[zbz B,List.length_append,zgQ b x n B];rfl
  .rw[zjW B] at h;exact absurd h B
structure RunN(b:Bk)(x:Str)(N:Nat):Prop where
 at_:(runF b x N).at_=x.length
 lt:∀j,j<N->(runF b x j).at_<x.length
theorem RunN.len{b:Bk}{x:Str}{N:Nat}(h:RunN b x N):∀j,j<=N->(runF b x j).ss.length=j
 |0,_=>rfl
 |j+1,B=>by
  have h1:=h.lt j (by omega);rw[zbz h1,List.length_append,h.len j (by omega)];rfl
theorem RunN.get{b:Bk}{x:Str}{N:Nat}(h:RunN b x N):∀n,n<=N->∀j,j<n->(runF b x n).ss[j]?=some (zbj b x j)
 |0,_,j,B=>absurd B (Nat.not_lt_zero _)
 |n+1,F,j,B=>by
  have h1:=h.lt n (by omega);have D:=h.len n (by omega);rw[zbz h1];by_cases q:j<n
  .rw[List.getElem?_append_left (by omega)];exact h.get n (by omega) j q
  .have e:j=n:=by omega
   subst e;rw[List.getElem?_append_right (by omega),D,Nat.sub_self];rfl
theorem RunN.take{b:Bk}{x:Str}{N:Nat}(h:RunN b x N){n:Nat}(B:n<=N):(runF b x n).ss=(runF b x N).ss.take n:=by
 refine List.ext_getElem? λj=>?_;by_cases q:j<n
 .rw[h.get n B j q,List.getElem?_take_of_lt q,h.get N (Nat.le_refl _) j (by omega)]
 .rw[List.getElem?_eq_none (by rw[h.len n B];omega),List.getElem?_eq_none (by rw[List.length_take];omega)]
theorem RunN.next{b:Bk}{x:Str}{N:Nat}(h:RunN b x N)(G:BkOk b){j:Nat}(I:j<N):((runF b x (j+1)).at_:Int)=((runF b x j).at_:Int)+(zbj b x j).2.1/\1<=(zbj b x j).2.1/\(zbj b x j).2.1<=4/\(zbj b x j).1=((runF b x j).at_:Int):=by
 obtain⟨B,L,D,_⟩:=id G;have h1:=h.lt j I;have J0:=zaX (x:=x) D B j;obtain⟨F,p2,p3,p4,p5,M⟩:=zaM (x:=x) D J0.bk B h1;refine⟨?_,F,p2,zge _ _ _ _ _⟩;rw[zdf h1];have e:∀(a:Nat) (k:Int),1<=k->((a+k.toNat:Nat):Int)=(a:Int)+k:=λa k O=>by omega
 exact e _ _ F
theorem RunN.mono{b:Bk}{x:Str}{N:Nat}(h:RunN b x N)(B:BkOk b){i:Nat}:∀ {j:Nat},i<j->j<=N->(runF b x i).at_<(runF b x j).at_
 |0,hi,_=>absurd hi (Nat.not_lt_zero _)
 |j+1,hi,D=>by
  obtain⟨h1,h2,_⟩:=h.next B (j:=j) (by omega);by_cases q:i=j
  .subst q;omega
  .have:=h.mono B (i:=i) (j:=j) (by omega) (by omega);omega
structure PgS(P:Program)(w:World)(z CP CS:Addr)(H:Hp)(r dx:Addr)(v:V)(b:Bk)(x:Str)(pt ps so dxs pr pn pw:Addr)(tab:List Rws)(N:Nat)(ks:List Nat):Prop where
 ins:H r=some (.ins CP dx (pgF v x pt ps so pw))
 rb:Rep z H v (bkD b)
 ok:BkOk b
 run:RunN b x N
 told:∃tv,H pt=some (.lst tv)/\Reps z H tv ((runF b x N).ss.map stD)
 stands:H ps=some (.lst (ks.map λk:Nat=>V.int (k:Int)))
 kl:ks.length=N+1
 st:∀j,j<=N->∃k,ks[j]?=some k/\Stands tab k ((runF b x j).ds.map (·.2))
 sd:StdS P w z CS H so dxs pr pn tab
 xl:x.length<=2000
 nes:(pt≠pr/\ps≠pr/\pw≠pr)/\(pt≠z/\ps≠z/\pw≠z)/\(pw≠pt/\pw≠ps)
inductive zb6(P:Program)(w:World)(CP CS:Addr):List V->Hp->VK->XK->Prop where
 |mk {vs:List V} {H:Hp} {Q:VK} {E:XK} (z r dx:Addr) (v:V) (b:Bk) (x:Str) (pt ps so dxs pr pn pw:Addr) (tab:List Rws) (N:Nat) (ks:List Nat) (n:Nat) (c1:vs=[.ref r,.int n]) (c2:PgS P w z CP CS H r dx v b x pt ps so dxs pr pn pw tab N ks) (c3:n<=N) (c4:Q (.int (runF b x n).at_) H):zb6 P w CP CS vs H Q E
theorem zjX:zav ["self","number"] ["self","number"] (zag zc8):=⟨J,J,J,by decide +kernel,J,by decide +kernel,by decide +kernel⟩
theorem ziV{f CP CS:Addr}{fd:FuncData}(F:Fun K "beginning" "Page.beginning" zc8 f fd)(T:TxtB mg)(D:TxtP K mg CP):FnOk P w K mg base CX0 1 f fd ["self","number"] (zb6 P w CP CS):=by
 refine F.ok zjX (λvs H Q E h=>?_) (λcdv A outer s H vs Q E ac h=>?_)
 .obtain⟨z,r,dx,v,b,x,pt,ps,so,dxs,pr,pn,pw,tab,N,ks,n,rfl,_⟩:=h;rfl
 .obtain⟨z,r,dx,v,b,x,pt,ps,so,dxs,pr,pn,pw,tab,N,ks,n,rfl,B,ad,k⟩:=h;refine⟨_,zac (za9 (zau zb8 (pv 1) (zar zaF (by rfl) T.len b_len (zaa (zaG (pv 0) J) zae)) (zaz _)) (zai (zaw (zar zap (by rfl) T.len b_len (zaa (zaG (pv 0) J) zae)))) zaC)
   (zai (zaw (zay zaE (zay zaB (zaG (pv 0) J) (pv 1) (λ_ _=>rfl)) zaf (λ_ _=>rfl)))),?_⟩
  dsimp only[cxOf,Cx.nox,Cx.wish];have ae:(100000:Nat)<=sizeLine:=by rw[sizeLine_eq];decide
  obtain⟨tv,O,R⟩:=B.told;have af:=B.xl;have S:tv.length=N:=by
   have:=R.length;rw[List.length_map,B.run.len N (Nat.le_refl _)] at this;exact this
  refine⟨_,J,_,J,r,CP,dx,_,_,J,B.ins,D.cl,D.nT,zcD v x pt ps so pw,pt,tv,J,.inl (SqL.of O),J,_,J,?_⟩;by_cases e:n=N
  .subst e;have J0:decide (V.int (n:Int)=V.int (tv.length:Int))=true:=by rw[S];simp
   rw[J0];refine iteT ⟨_,J,r,CP,dx,_,_,J,B.ins,D.cl,D.nX,zbv v x pt ps so pw,x,J,by omega,?_⟩;rw[←B.run.at_];exact k
  .have J0:decide (V.int (n:Int)=V.int (tv.length:Int))=false:=decide_eq_false λq=>by injection q with q;omega
   rw[J0];have L:n<N:=by omega
   have U:=B.run.get N (Nat.le_refl _) n L;obtain⟨_,_,_,W⟩:=B.run.next B.ok L;have I:Rep z H (tv.getD n .non) (stD (zbj b x n)):=by
    have:=R.get (i:=n) (by rw[List.length_map,B.run.len N (Nat.le_refl _)];exact L);have Y:((runF b x N).ss.map stD).getD n .non=stD (zbj b x n):=by
     rw[List.getD_eq_getElem?_getD,List.getElem?_map,U];rfl
    rw[Y] at this;exact this
   obtain⟨G,xs,Z,aa⟩:∃G xs,tv.getD n .non=.ref G/\H G=some (.tup (.int (zbj b x n).1::xs)):=by
    have I:Rep z H (tv.getD n .non) (.tup [.int (zbj b x n).1,.int (zbj b x n).2.1,.str (zbj b x n).2.2.1,.int (zbj b x n).2.2.2.1,.int (zbj b x n).2.2.2.2]):=I;generalize tv.getD n .non=ag at I;cases I with
    |tup h _ M=>
     cases M with
     |cons M ah=>
      cases M;exact⟨_,_,J,h⟩
   have ab:tv[n]?=some (.ref G):=by
    have h1:n<tv.length:=by omega
    have h2:tv.getD n .non=tv[n]:=by simp[h1]
    rw[List.getElem?_eq_getElem h1,←h2,Z]
   refine iteF ⟨_,J,r,CP,dx,_,_,J,B.ins,D.cl,D.nT,zcD v x pt ps so pw,_,J,pt,tv,n,_,J,J,SqL.of O,zal ab,G,_,0,_,J,J,SqT.of aa,zal (j:=0) J,?_⟩;rw[W];exact k
theorem ziW{b:Bk}{ds:List LDr}{y:Str}{j:Nat}(G:BkOk b)(D:LdBk b ds)(S:j+4<=y.length):sureB b ds y j=true:=by
 obtain⟨I,U,B,_⟩:=id G;obtain⟨J0,L,M⟩:=zba (D.ok B) I;have O:(zam ds).toNat=J0:=by rw[L];rfl
 have V:=ziK B M;have F:(y.cps.toList.drop j).length=y.length-j:=by rw[List.length_drop,zak]
 rw[zgO (by omega),O];refine⟨λe=>?_,λm R q=>?_⟩
 .have:=congrArg List.length e;rw[F,zak] at this;omega
 .have h1:=zb4 (x:=y) (i:=j) B (D.ok B) m R;have h2:=q.1;have W:=h1.2;rw[F] at h2;omega
theorem ze3{b:Bk}{x y:Str}{more:List Nat}{N B:Nat}(D:BkOk b)(F:x.cps.toList=y.cps.toList++more)(run:RunN b x N)(G:B<=N)(h:B=0∨(runF b x B).at_+4<=y.length) :
  ∀n,n<=B->∀j,j<n->(runF b y j).at_<y.length/\sureB b (runF b y j).ds y (runF b y j).at_=true
 |0,_,j,I=>absurd I (Nat.not_lt_zero _)
 |n+1,O,j,I=>by
  have J0:=ze3 D F run G h n (by omega);by_cases q:j<n
  .exact J0 j q
  .have e:j=n:=by omega
   subst e;obtain⟨L,R,M,_⟩:=id D;obtain⟨S,_,_⟩:=zbJ F J0 j (Nat.le_refl _);have h1:=run.mono D (i:=j) (j:=B) (by omega) G;have h2:(runF b x B).at_+4<=y.length:=by
    rcases h with h|h
    .omega
    .exact h
   exact⟨by omega,ziW D (zaX (x:=y) M L j).bk (by omega)⟩
theorem ziX{b:Bk}{x y near:Str}{more pre:List Nat}{N B n:Nat}(L:BkOk b)(I:x.cps.toList=y.cps.toList++more)(run:RunN b x N)(M:B<=N)(h:B=0∨(runF b x B).at_+4<=y.length)(D:y.cps.toList=pre++near.cps.toList)(G:pre.length=(runF b x B).at_)(J0:∀j,j<n->(it0 b near (runF b x B).ds j).at_<near.length/\sureB b (it0 b near (runF b x B).ds j).ds near (it0 b near (runF b x B).ds j).at_=true) :
  ∀j,j<B+n->(runF b y j).at_<y.length/\sureB b (runF b y j).ds y (runF b y j).at_=true:=λj Y=>by
 have F:=ze3 L I run M h B (Nat.le_refl _);by_cases q:j<B
 .exact F j q
 .obtain⟨i,rfl⟩:∃i,j=B+i:=⟨j-B,by omega⟩;obtain⟨O,S,Z⟩:=zbJ I F B (Nat.le_refl _);have R:=zcz (b:=b) (x:=y) (y:=near) (pre:=pre) (more:=[]) (off:=(runF b x B).at_) (S0:=(runF b y B).ss) (R:=runF b y B) (r:=⟨0,(runF b x B).ds,[]⟩) (by rw[D,List.append_nil]) G ⟨by rw[O];rfl,S.symm,by show _=_++[];rw[List.append_nil]⟩ i (λl aa=>⟨(J0 l (by omega)).1,.inl J⟩);rw[←zcN] at R;have ab:y.length=(runF b x B).at_+near.length:=by rw[←zak,D,List.length_append,G,zak]
  obtain⟨ac,U⟩:=J0 i (by omega);have V:(runF b y (B+i)).at_=(runF b x B).at_+(it0 b near (runF b x B).ds i).at_:=R.at_;have W:SamePd (runF b y (B+i)).ds (it0 b near (runF b x B).ds i).ds:=R.pd;refine⟨by omega,?_⟩;rw[V,W.sure,zel D G (by omega)];exact U
theorem ziY{b:Bk}{x y near:Str}{more pre:List Nat}{N B n:Nat}(L:BkOk b)(I:x.cps.toList=y.cps.toList++more)(run:RunN b x N)(M:B<=N)(h:B=0∨(runF b x B).at_+4<=y.length)(D:y.cps.toList=pre++near.cps.toList)(G:pre.length=(runF b x B).at_)(O:∀j,j<n->(it0 b near (runF b x B).ds j).at_<near.length/\sureB b (it0 b near (runF b x B).ds j).ds near (it0 b near (runF b x B).ds j).at_=true)(S:¬((it0 b near (runF b x B).ds n).at_<near.length/\sureB b (it0 b near (runF b x B).ds n).ds near (it0 b near (runF b x B).ds n).at_=true)) :
  ¬((runF b y (B+n)).at_<y.length/\sureB b (runF b y (B+n)).ds y (runF b y (B+n)).at_=true):=λq=>by
 have F:=ze3 L I run M h B (Nat.le_refl _);obtain⟨U,V,Z⟩:=zbJ I F B (Nat.le_refl _);have R:=zcz (b:=b) (x:=y) (y:=near) (pre:=pre) (more:=[]) (off:=(runF b x B).at_) (S0:=(runF b y B).ss) (R:=runF b y B) (r:=⟨0,(runF b x B).ds,[]⟩) (by rw[D,List.append_nil]) G ⟨by rw[U];rfl,V.symm,by show _=_++[];rw[List.append_nil]⟩ n (λl aa=>⟨(O l (by omega)).1,.inl J⟩);rw[←zcN] at R;have ab:y.length=(runF b x B).at_+near.length:=by rw[←zak,D,List.length_append,G,zak]
 have W:(runF b y (B+n)).at_=(runF b x B).at_+(it0 b near (runF b x B).ds n).at_:=R.at_;have Y:SamePd (runF b y (B+n)).ds (it0 b near (runF b x B).ds n).ds:=R.pd;obtain⟨q1,J0⟩:=q;rw[W,Y.sure,zel D G (by omega)] at J0;exact S ⟨by omega,J0⟩
theorem ziZ{b:Bk}{x x' y:Str}{more more':List Nat}{K:Nat}(D:x.cps.toList=y.cps.toList++more)(F:x'.cps.toList=y.cps.toList++more')(h:∀j,j<K->(runF b y j).at_<y.length/\sureB b (runF b y j).ds y (runF b y j).at_=true) :
  ∀j,j<=K->(runF b x' j).at_=(runF b x j).at_/\SamePd (runF b x' j).ds (runF b x j).ds/\(runF b x' j).ss=(runF b x j).ss:=λj B=>by
 obtain⟨G,I,J0⟩:=zbJ D h j B;obtain⟨L,M,O⟩:=zbJ F h j B;exact⟨L.trans G.symm,Eq.trans M I.symm,O.trans J0.symm⟩
theorem zmc{d e f:Int}(h:f=d+e)(B:List Stp):(B.map (mvS d)).map (mvS e)=B.map (mvS f):=by
 rw[List.map_map];refine List.map_congr_left λs _=>?_;show ((s.1+d)+e,s.2)=(s.1+f,s.2);rw[h,Int.add_assoc]
theorem zjY{b:Bk}{x x':Str}{N n B:Nat}(run:RunN b x N)(aa:n<=N)(U:x'.cps.toList.drop (runF b x' B).at_=x.cps.toList.drop (runF b x n).at_)(ab:SamePd (runF b x' B).ds (runF b x n).ds)(I:(runF b x' B).at_<=x'.length)(ac:(runF b x n).at_<=x.length)(lt':∀j,j<B->(runF b x' j).at_<x'.length) :
  RunN b x' (B+(N-n))/\(∀k,k<=N-n->(runF b x' (B+k)).at_+(runF b x n).at_=(runF b x (n+k)).at_+(runF b x' B).at_/\SamePd (runF b x' (B+k)).ds (runF b x (n+k)).ds) /\
   (runF b x' (B+(N-n))).ss=(runF b x' B).ss++((runF b x N).ss.drop n).map (mvS (((runF b x' B).at_:Int)-((runF b x n).at_:Int))):=by
 have J0:=zbY (y:=x) ac;have ad:(restS x (runF b x n).at_).length=x.length-(runF b x n).at_:=by rw[←zak,J0,List.length_drop,zak]
 have V:x.cps.toList=x.cps.toList.take (runF b x n).at_++(restS x (runF b x n).at_).cps.toList++[]:=by rw[J0,List.append_nil,List.take_append_drop]
 have W:x'.cps.toList=x'.cps.toList.take (runF b x' B).at_++(restS x (runF b x n).at_).cps.toList++[]:=by rw[J0,←U,List.append_nil,List.take_append_drop]
 have ae:(x.cps.toList.take (runF b x n).at_).length=(runF b x n).at_:=by rw[List.length_take,zak];omega
 have af:(x'.cps.toList.take (runF b x' B).at_).length=(runF b x' B).at_:=by rw[List.length_take,zak];omega
 generalize restS x (runF b x n).at_=y at J0 ad V W;have L:=λk (D:∀j,j<k->(it0 b y (runF b x n).ds j).at_<y.length)=>zcz (b:=b) (x:=x) (y:=y) V ae (S0:=(runF b x n).ss) (R:=runF b x n) (r:=⟨0,(runF b x n).ds,[]⟩) ⟨J,J,by show _=_++[];rw[List.append_nil]⟩ k (λl I=>⟨D l I,.inl J⟩);have R2:=λk (D:∀j,j<k->(it0 b y (runF b x n).ds j).at_<y.length)=>zcz (b:=b) (x:=x') (y:=y) W af (S0:=(runF b x' B).ss) (R:=runF b x' B) (r:=⟨0,(runF b x n).ds,[]⟩) ⟨J,ab,by show _=_++[];rw[List.append_nil]⟩ k (λl I=>⟨D l I,.inl J⟩);simp only[←zcN] at L R2;have M:∀k,k<=N-n->∀j,j<k->(it0 b y (runF b x n).ds j).at_<y.length:=λk=>by
  induction k with
  |zero=>intro _ j Y;omega
  |succ k Z=>
   intro D j Y;by_cases q:j<k
   .exact Z (by omega) j q
   .have e:j=k:=by omega
    subst e;have F:(runF b x (n+j)).at_=(runF b x n).at_+(it0 b y (runF b x n).ds j).at_:=(L j (Z (by omega))).at_;have S:=run.lt (n+j) (by omega);omega
 have P:∀k,k<=N-n->(runF b x' (B+k)).at_+(runF b x n).at_=(runF b x (n+k)).at_+(runF b x' B).at_/\SamePd (runF b x' (B+k)).ds (runF b x (n+k)).ds:=λk D=>by
  have G:=L k (M k D);have O:=R2 k (M k D);have F:=G.at_;have S:=O.at_;exact⟨by omega,Eq.trans O.pd G.pd.symm⟩
 have ah:x'.length+(runF b x n).at_=x.length+(runF b x' B).at_:=by
  have e:=congrArg List.length U;rw[List.length_drop,List.length_drop,zak,zak] at e;omega
 refine⟨⟨?_,λj Y=>?_⟩,P,?_⟩
 .have F:=(P (N-n) (Nat.le_refl _)).1;rw[show n+(N-n)=N by omega] at F;have S:=run.at_;omega
 .by_cases q:j<B
  .exact lt' j q
  .have F:=(P (j-B) (by omega)).1;rw[show B+(j-B)=j by omega] at F;have S:=run.lt (n+(j-B)) (by omega);omega
 .have G:=L (N-n) (M _ (Nat.le_refl _));have O:=R2 (N-n) (M _ (Nat.le_refl _));rw[show n+(N-n)=N by omega] at G;have ag:=G.ss;rw[O.ss,ag,List.drop_left' (run.len n aa),zmc (f:=((runF b x' B).at_:Int)) (by omega)]
inductive ze4(P:Program)(w:World)(CP CS:Addr):List V->Hp->VK->XK->Prop where
 |mk {vs:List V} {H:Hp} {Q:VK} {E:XK} (z r dx:Addr) (v:V) (b:Bk) (x:Str) (pt ps so dxs pr pn pw:Addr) (tab:List Rws) (N:Nat) (ks:List Nat) (i:Int) (c1:vs=[.ref r,.int i]) (c2:PgS P w z CP CS H r dx v b x pt ps so dxs pr pn pw tab N ks)
  (c3:∀n:Nat,n<=N->(n=0∨((runF b x n).at_:Int)<=i)->(∀j,n<j->j<=N->i<((runF b x j).at_:Int))->Q (.int n) H):ze4 P w CP CS vs H Q E
inductive zdw(CP:Addr):List V->Hp->VK->XK->Prop where
 |mk {vs:List V} {H:Hp} {Q:VK} {E:XK} (r dx:Addr) (v:V) (x:Str) (pt ps so pw el:Addr) (ks:List Nat) (kvs:List (Key×V)) (i:Nat) (k:Nat) (c1:vs=[.ref r,.int i,.ref el,.int k]) (c2:H r=some (.ins CP dx (pgF v x pt ps so pw)))
  (c3:H ps=some (.lst (ks.map λk:Nat=>V.int (k:Int)))) (c4:H el=some (.dK kvs)) (c5:∀u,valV kvs (.inl (i:Int))=some u->∃n kn:Nat,u=.int n/\ks[n]?=some kn)
  (c6:∀g:Bool,(g=true↔∃n:Nat,valV kvs (.inl (i:Int))=some (.int n)/\ks[n]?=some k)->Q (.bl g) H):zdw CP vs H Q E
structure EldK(b:Bk)(x:Str)(e d:Int)(M:Nat)(kvs:List (Key×V)):Prop where
 has:∀n:Nat,n<M->e<=((runF b x n).at_:Int)->valV kvs (.inl (((runF b x n).at_:Int)+d))=some (.int n)
 all:∀(k:Key) (u:V),valV kvs k=some u->∃n:Nat,n<M/\e<=((runF b x n).at_:Int)/\u=.int n/\k=.inl (((runF b x n).at_:Int)+d)
inductive zcT(P:Program)(w:World)(CP CS:Addr):List V->Hp->VK->XK->Prop where
 |mk {vs:List V} {H:Hp} {Q:VK} {E:XK} (z r dx:Addr) (v:V) (b:Bk) (x:Str) (pt ps so dxs pr pn pw:Addr) (tab:List Rws) (N:Nat) (ks:List Nat) (e d:Int) (c1:vs=[.ref r,.int e,.int d]) (c2:PgS P w z CP CS H r dx v b x pt ps so dxs pr pn pw tab N ks)
  (c3:∀p kvs H',Same H H'->H p=none->H' p=some (.dK kvs)->EldK b x e d (N+1) kvs->Q (.ref p) H'):zcT P w CP CS vs H Q E
theorem PgS.toldN{P:Program}{w:World}{z CP CS:Addr}{H:Hp}{r dx:Addr}{v:V}{b:Bk}{x:Str}{pt ps so dxs pr pn pw:Addr}{tab:List Rws}{N:Nat}{ks:List Nat}(h:PgS P w z CP CS H r dx v b x pt ps so dxs pr pn pw tab N ks):∃tv,H pt=some (.lst tv)/\Reps z H tv ((runF b x N).ss.map stD)/\tv.length=N:=by
 obtain⟨tv,D,B⟩:=h.told;refine⟨tv,D,B,?_⟩;have:=B.length;rw[List.length_map,h.run.len N (Nat.le_refl _)] at this;exact this
theorem PgS.nle{P:Program}{w:World}{z CP CS:Addr}{H:Hp}{r dx:Addr}{v:V}{b:Bk}{x:Str}{pt ps so dxs pr pn pw:Addr}{tab:List Rws}{N:Nat}{ks:List Nat}(h:PgS P w z CP CS H r dx v b x pt ps so dxs pr pn pw tab N ks):N<=2000:=by
 obtain⟨B,F,D,_⟩:=id h.ok;have h1:=(zaX (x:=x) D B N).sl;have h2:=h.run.len N (Nat.le_refl _);have G:=h.run.at_;have I:=h.xl;omega
theorem PgS.same{P:Program}{w:World}{z CP CS:Addr}{H H':Hp}{r dx:Addr}{v:V}{b:Bk}{x:Str}{pt ps so dxs pr pn pw:Addr}{tab:List Rws}{N:Nat}{ks:List Nat}(h:PgS P w z CP CS H r dx v b x pt ps so dxs pr pn pw tab N ks)(s:Same H H'):PgS P w z CP CS H' r dx v b x pt ps so dxs pr pn pw tab N ks:=by
 obtain⟨tv,h1,h2⟩:=h.told;exact⟨s _ _ h.ins,h.rb.mono s.x,h.ok,h.run,⟨tv,s _ _ h1,h2.mono s.x⟩,s _ _ h.stands,h.kl,h.st,h.sd.same s,h.xl,h.nes⟩
theorem EldK.nil{b:Bk}{x:Str}{e d:Int}:EldK b x e d 0 []:=⟨λn B=>absurd B (Nat.not_lt_zero _),λk u h=>by rw[zgB] at h;cases h⟩
theorem EldK.skip{b:Bk}{x:Str}{e d:Int}{B:Nat}{kvs:List (Key×V)}(h:EldK b x e d B kvs)(g:¬e<=((runF b x B).at_:Int)):EldK b x e d (B+1) kvs:=
 ⟨λn G D=>by
  by_cases q:n=B
  .rw[q] at D;exact absurd D g
  .exact h.has n (by omega) D,λk u F=>by
  obtain⟨n,h1,h2⟩:=h.all k u F;exact⟨n,by omega,h2⟩⟩
theorem EldK.put{b:Bk}{x:Str}{e d:Int}{B N:Nat}{kvs:List (Key×V)}(run:RunN b x N)(F:BkOk b)(G:B<=N)(h:EldK b x e d B kvs)(g:e<=((runF b x B).at_:Int)):EldK b x e d (B+1) (putK kvs (.inl (((runF b x B).at_:Int)+d)) (.int B)):=
 ⟨λn J0 I=>by
  rw[zdo];by_cases q:n=B
  .rw[q,if_pos rfl]
  .have:=run.mono F (i:=n) (j:=B) (by omega) G;rw[if_neg (by intro c;injection c with c;omega)];exact h.has n (by omega) I,λk u D=>by
  rw[zdo] at D;by_cases q:k=.inl (((runF b x B).at_:Int)+d)
  .rw[if_pos q] at D;injection D with D;exact⟨B,by omega,g,D.symm,q⟩
  .rw[if_neg q] at D;obtain⟨n,h1,h2⟩:=h.all k u D;exact⟨n,by omega,h2⟩⟩
theorem scEnded:zav ["self","place","least","most","middle"] ["self","place"] (zag zcC):=⟨J,J,J,by decide +kernel,J,by decide +kernel,by decide +kernel⟩
theorem zjZ:zav ["self","place","elder","stand"] ["self","place","elder","stand"] (zag ze2):=⟨J,J,J,by decide +kernel,J,by decide +kernel,by decide +kernel⟩
theorem scNumbers:zav ["self","end","longer","numbers","number"] ["self","end","longer"] (zag zdv):=⟨J,J,J,by decide +kernel,J,by decide +kernel,by decide +kernel⟩
theorem zj0{f L CP CS:Addr}{fd M:FuncData}(F:Fun K "count_ended" "Page.count_ended" zcC f fd)(T:TxtB mg)(I:TxtP K mg CP)(n1:Meth K CP "beginning" L)(J0:Binds K M ["self","number"] [])(Y:FnOk P w K mg base CX0 1 L M ["self","number"] (zb6 P w CP CS)):FnOk P w K mg base CX0 2 f fd ["self","place"] (ze4 P w CP CS):=by
 refine F.ok scEnded (λvs H Q E h=>?_) (λcdv A outer s H vs Q E Z h=>?_)
 .obtain⟨z,r,dx,v,b,x,pt,ps,so,dxs,pr,pn,pw,tab,N,ks,i,rfl,_⟩:=h;rfl
 .obtain⟨z,r,dx,v,b,x,pt,ps,so,dxs,pr,pn,pw,tab,N,ks,i,rfl,B,k⟩:=h;have D:=scEnded.nd;have aa:Room 1 _:=Z.mono (by decide);refine⟨_,zac (zan (i:=2) D J (Or.inl J) zaf)
   (zac (zan (i:=3) D J (Or.inl J) (zar zaF (by rfl) T.len b_len (zaa (zaG (pv 0) J) zae)))
   (zac (zbM PassesOwn.never (zau zd6 (pv 2) (pv 3) (zaz _))
    (zac (zan (i:=4) D J (Or.inl J) (zax zdF (zax zaT (zax zaT (pv 2) (pv 3)) zaf) zaf))
    (zai (za9 (zau zjl (zaZ (pv 0) I.cl n1 Y aa J0 .nil pass0 (zaa (pv 4) zae)) (pv 1) (zaz _))
     (zai (zan (i:=2) D J (Or.inl J) (pv 4)))
     (zai (zan (i:=3) D J (Or.inl J) (zax zb7 (pv 4) zaf)))))))
   (zai (zaw (pv 2))))),?_⟩
  dsimp only[cxOf,Cx.nox,Cx.wish];have as:(100000:Nat)<=sizeLine:=by rw[sizeLine_eq];decide
  obtain⟨tv,ab,au,ac⟩:=B.toldN;have av:=B.nle;refine⟨_,J,r,CP,dx,_,_,J,B.ins,I.cl,I.nT,zcD v x pt ps so pw,pt,tv,J,.inl (SqL.of ab),?_⟩;rw[ac];dsimp only;refine zaj λaw ad=>?_;refine zbN (λσ H2=>∃(l m:Nat) (O:Option V),σ=[some (.ref r),some (.int i),some (.int l),some (.int m),O]/\H2=H/\l<=m/\m<=N/\(l=0∨((runF b x l).at_:Int)<=i)/\(∀j,m<j->j<=N->i<((runF b x j).at_:Int)))
   (λσ _=>match σ[2]?,σ[3]? with|some (some (V.int l)),some (some (V.int m))=>(m-l).toNat|_,_=>0) ⟨0,N,none,J,J,Nat.zero_le _,Nat.le_refl _,.inl J,λj h1 h2=>by omega⟩ ?_ ?_
  .rintro σ H2 ⟨l,m,O,rfl,rfl,ax,R,S,U⟩;refine⟨_,J,_,J,_,_,J,J,_,J,?_⟩;refine ite2 (λG=>?_) (λG=>?_)
   .have G:l<m:=by have:=of_decide_eq_true G;omega
    obtain⟨c,ae,ay,af⟩:∃c:Nat,((l:Int)+(m:Int)+1) / 2=(c:Int)/\l<c/\c<=m:=⟨(l+m+1) / 2,by omega,by omega,by omega⟩;show (tSeq _ _) _ _ _;refine zbC λaz W _ _ _=>zaj λaA ag=>?_;refine⟨_,J,_,J,_,_,J,J,_,_,J,J,_,_,J,J,⟨by decide,by decide⟩,?_⟩;dsimp only;rw[ae];refine ag _ _ ?_;refine⟨_,J,r,dx,_,J,B.ins,zbf (by simp),_,J,z,r,dx,v,b,x,pt,ps,so,dxs,pr,pn,pw,tab,N,ks,c,J,B,by omega,?_⟩;refine⟨_,J,_,_,J,J,_,J,?_⟩;refine ite2 (λg=>?_) (λg=>?_)
    .have g:=of_decide_eq_true g;refine⟨_,J,W _ _ ⟨⟨c,m,_,J,J,af,R,.inr g,U⟩,?_⟩⟩;show ((m:Int)-(c:Int)).toNat<((m:Int)-(l:Int)).toNat;omega
    .have g:i<((runF b x c).at_:Int):=by
      have:¬((runF b x c).at_:Int)<=i:=λq=>g (decide_eq_true q);omega
     refine⟨_,J,_,_,J,J,?_⟩;dsimp only;rw[show ((c:Int)-1)=((c-1:Nat):Int) by omega];refine W _ _ ⟨⟨l,c-1,_,J,J,by omega,by omega,S,λj h1 h2=>?_⟩,?_⟩
     .by_cases q:j=c
      .rw[q];exact g
      .have:=B.run.mono B.ok (i:=c) (j:=j) (by omega) h2;omega
     .show (((c-1:Nat):Int)-(l:Int)).toNat<((m:Int)-(l:Int)).toNat;omega
   .have G:¬l<m:=λq=>G (decide_eq_true (by omega));have e:l=m:=by omega
    subst e;exact ad _ _ ⟨_,J,k l R S U⟩
  .rintro σ aB aC aD ah ⟨ai,aj,ak,al,am,ao,ap,aq,J0,ar,h⟩;exact⟨ai,aj,ak,al,am,ao,ap,aq,J0,ar,ah _ _ h⟩
theorem zi0{f CP:Addr}{fd:FuncData}(F:Fun K "goes_on" "Page.goes_on" ze2 f fd)(D:TxtP K mg CP):FnOk P w K mg base CX0 1 f fd ["self","place","elder","stand"] (zdw CP):=by
 refine F.ok zjZ (λvs H Q E h=>?_) (λcdv A outer s H vs Q E J0 h=>?_)
 .obtain⟨r,dx,v,x,pt,ps,so,pw,el,ks,kvs,i,k,rfl,_⟩:=h;rfl
 .obtain⟨r,dx,v,x,pt,ps,so,pw,el,ks,kvs,i,k,rfl,hi,L,G,M,q⟩:=h;have I:(A.deeper (PyProof.Rows.envOfC (Str.ofString "Page.goes_on") (zag ze2) s.heap.objs.size f cdv)).units+1<cLine:=by have:=J0.un;omega
  refine⟨_,zai (zaw (zkf (zlw (zic I (pv 1) (pv 2))) (zke (zfS zb8 (zay zaB (zaG (pv 0) J) (zeB I (pv 2) (pv 1) (λ_ _=>rfl)) (λ_ _=>rfl)) (pv 3) (zaz _))))),?_⟩;dsimp only[cxOf,Cx.nox,Cx.wish];refine⟨_,J,_,J,el,_,J,DGet.k (k:=.inl (i:Int)) G,?_⟩;refine⟨_,J,?_⟩;cases hv':valV kvs (.inl (i:Int)) with
  |none=>exact q false ⟨λh=>(by cases h),λ⟨n,h,_⟩=>by rw[hv'] at h;cases h⟩
  |some u=>
   obtain⟨n,S,rfl,B⟩:=M u hv';have O:DGet H el (.int (i:Int)) (some (.int (n:Int))):=by rw[←hv'];exact DGet.k (k:=.inl (i:Int)) G
   refine⟨_,J,r,CP,dx,_,_,J,hi,D.cl,D.nS,zcS v x pt ps so pw,_,J,_,J,el,_,J,O,ps,_,n,_,J,J,SqL.of L,zal (by rw[List.getElem?_map,B];rfl),_,J,J,q _ ?_⟩;constructor
   .intro h;have h:=of_decide_eq_true h;injection h with h;exact⟨n,hv',by rw[B];congr 1;omega⟩
   .rintro⟨R,e,h⟩;rw[hv'] at e;injection e with e;injection e with e;have e:n=R:=by omega
    subst e;rw[B] at h;injection h with h;rw[h];exact decide_eq_true rfl
theorem zhu{f U CP CS:Addr}{fd W:FuncData}(F:Fun K "numbers_by_beginnings" "Page.numbers_by_beginnings" zdv f fd)(T:TxtB mg)(I:TxtP K mg CP)(n1:Meth K CP "beginning" U)(Y:Binds K W ["self","number"] [])(Z:FnOk P w K mg base CX0 1 U W ["self","number"] (zb6 P w CP CS)):FnOk P w K mg base CX0 2 f fd ["self","end","longer"] (zcT P w CP CS):=by
 refine F.ok scNumbers (λvs H Q E h=>?_) (λcdv A outer s H vs Q E aa h=>?_)
 .obtain⟨z,r,dx,v,b,x,pt,ps,so,dxs,pr,pn,pw,tab,N,ks,e,d,rfl,_⟩:=h;rfl
 .obtain⟨z,r,dx,v,b,x,pt,ps,so,dxs,pr,pn,pw,tab,N,ks,e,d,rfl,B,k⟩:=h;have ab:=scNumbers.nd;have ac:Room 1 _:=aa.mono (by decide);have ah:(A.deeper (PyProof.Rows.envOfC (Str.ofString "Page.numbers_by_beginnings") (zag zdv) s.heap.objs.size f cdv)).units+1<cLine:=by have:=aa.un;omega
  refine⟨_,zac (zan (i:=3) ab J (Or.inl J) zgD)
   (zac (zcF PassesOwn.never J (zdD J T.range (pa_B (zax zaT (zar zaF (by rfl) T.len b_len (zaa (zaG (pv 0) J) zae)) zaf) zae)) (zaq (i:=4) ab J (Or.inl J))
    (zai (za9 (zau zl3 (zaZ (pv 0) I.cl n1 Z ac Y .nil pass0 (zaa (pv 4) zae)) (pv 1) (zaz _))
     (zai (zfZ ah (pv 3) (zax zaT (zaZ (pv 0) I.cl n1 Z ac Y .nil pass0 (zaa (pv 4) zae)) (pv 2)) (pv 4) J)) zaC)))
   (zai (zaw (pv 3)))),?_⟩
  dsimp only[cxOf,Cx.nox,Cx.wish];have ap:(100000:Nat)<=sizeLine:=by rw[sizeLine_eq];decide
  have aq:=B.nle;refine λp O=>?_;have ad:=Same.new (o:=.dK []) O;have ae:=B.same ad;obtain⟨tv,ai,ar,aj⟩:=ae.toldN;dsimp only;refine zaj λas ak=>?_;refine⟨_,J,r,CP,dx,_,_,J,ae.ins,I.cl,I.nT,zcD v x pt ps so pw,pt,tv,J,.inl (SqL.of ai),_,_,J,J,((N:Int)+1),?_,by omega,by omega,?_⟩
  .rw[aj]
  refine zdE (λt σ J0=>∃(kvs:List (Key×V)) (R:Option V),σ=[some (.ref r),some (.int e),some (.int d),some (.ref p),R]/\Same H J0/\J0 p=some (.dK kvs)/\EldK b x e d t kvs/\kvs.length<=t)
   ⟨[],none,J,ad,zab,.nil,Nat.le_refl _⟩ ?_ ?_
  .rintro t σ J0 au ⟨kvs,R,rfl,D,L,G,al⟩;have S:t<=N:=by omega
   have M:=B.same D;show (tIfS _ _ _) _ _ _;refine zbC λav af _ _ _=>?_;refine⟨_,J,r,dx,_,J,M.ins,zbf (by simp),_,J,z,r,dx,v,b,x,pt,ps,so,dxs,pr,pn,pw,tab,N,ks,t,by simp,M,S,?_⟩;refine⟨_,J,_,_,J,J,_,J,?_⟩;refine ite2 (λg=>?_) (λg=>?_)
   .have g:e<=((runF b x t).at_:Int):=of_decide_eq_true g;refine⟨_,J,_,J,_,J,r,dx,_,J,M.ins,zbf (by simp),_,J,z,r,dx,v,b,x,pt,ps,so,dxs,pr,pn,pw,tab,N,ks,t,by simp,M,S,?_⟩;refine⟨_,J,_,_,J,J,p,_,J,DPut.k (k:=.inl (((runF b x t).at_:Int)+d)) L (by omega),af _ _ ⟨_,_,J,λam o ag=>by rw[zah (zad ag O)];exact D am o ag,zab,?_,?_⟩⟩
    .have:=G.put B.run B.ok S g;simpa using this
    .have:=zb2 kvs (.inl (((runF b x t).at_:Int)+d)) (.int t);simp at this ⊢;omega
   .have g:¬e<=((runF b x t).at_:Int):=λq=>g (decide_eq_true q);exact af _ _ ⟨kvs,_,J,D,L,G.skip g,by omega⟩
  .rintro σ J0 ⟨kvs,R,rfl,D,L,G,al⟩;refine ak _ _ ⟨_,J,k p kvs _ D O L ?_⟩;have ao:((N:Int)+1).toNat=N+1:=by omega
   rw[ao] at G;exact G
end T1
namespace L2
open PySem PySem.Spec PyProof.Rows
theorem zgR{X:Cx}{sc:Scope}{cl:List (Str×Addr)}{N':List Str}{s:Shared}{H:Hp}{fp:List Addr}:SlR (X.blk sc cl N' s H fp) (rSlT X.K):=zki
end L2
namespace T1
open PySem L2
variable {P:Program}{w:World}{K:W.Frag}{mg:Str->Option Value}{base:Heap}
theorem zgf(d:LDr):NoL (pdD d):=.tup (.cons (.int _) (.cons (.str _) .nil))
theorem zgS:∀ds:List LDr,NoLs (ds.map pdD)
 |[]=>.nil
 |d::r=>.cons (zgf d) (zgS r)
structure StdK(z:Addr)(H:Hp)(b:Bk)(x:Str)(M:Nat)(kvs:List (Key×V)):Prop where
 has:∀n:Nat,n<M->∃q,valV kvs (.inl ((runF b x n).at_:Int))=some (.ref q)/\Rep z H (.ref q) (.tup ((runF b x n).ds.map pdD))
 all:∀(k:Key) (u:V),valV kvs k=some u->∃n:Nat,n<M/\k=.inl ((runF b x n).at_:Int)
theorem StdK.nil{z:Addr}{H:Hp}{b:Bk}{x:Str}:StdK z H b x 0 []:=⟨λn B=>absurd B (Nat.not_lt_zero _),λk u h=>by rw[zgB] at h;cases h⟩
theorem StdK.keep{z:Addr}{H H':Hp}{b:Bk}{x:Str}{B:Nat}{kvs:List (Key×V)}{S:Addr->Prop}(h:StdK z H b x B kvs)(k:KeepE S H H')(n:NoTup S H):StdK z H' b x B kvs:=⟨λj D=>by
 obtain⟨q,e,r⟩:=h.has j D;exact⟨q,e,Rep.keep k n r (.tup (zgS _))⟩,h.all⟩
theorem StdK.same{z:Addr}{H H':Hp}{b:Bk}{x:Str}{B:Nat}{kvs:List (Key×V)}(h:StdK z H b x B kvs)(s:Same H H'):StdK z H' b x B kvs:=h.keep (S:=λ_=>False) (λa o _ e=>s a o e) (λ_ _ q=>q.elim)
theorem StdK.put{z:Addr}{H:Hp}{b:Bk}{x:Str}{B:Nat}{kvs:List (Key×V)}{q:Addr}(J0:BkOk b)(L:∀j,j<B->(runF b x j).at_<x.length)(h:StdK z H b x B kvs)(r:Rep z H (.ref q) (.tup ((runF b x B).ds.map pdD))) :
  StdK z H b x (B+1) (putK kvs (.inl ((runF b x B).at_:Int)) (.ref q)):=by
 obtain⟨F,R,G,_⟩:=id J0;have M:∀j m,j<=m->m<=B->(runF b x j).at_<=(runF b x m).at_/\(j<m->(runF b x j).at_<(runF b x m).at_):=λj m=>by
  induction m with
  |zero=>
   intro h1 _;have:j=0:=by omega
   subst this;exact⟨Nat.le_refl _,λh=>absurd h (Nat.lt_irrefl _)⟩
  |succ m O=>
   intro h1 h2;by_cases e:j=m+1
   .subst e;exact⟨Nat.le_refl _,λh=>absurd h (Nat.lt_irrefl _)⟩
   .have S:=(O (by omega) (by omega)).1;have I:=L m (by omega);obtain⟨U,_⟩:=zaM (x:=x) G (zaX (x:=x) G F m).bk F I;rw[zdf I];constructor
    .show _<=_+_;omega
    .intro _;show _<_+_;omega
 refine⟨λn W=>?_,λk u D=>?_⟩
 .rw[zdo];by_cases e:n=B
  .rw[e,if_pos rfl];exact⟨q,J,r⟩
  .have:=(M n B (by omega) (Nat.le_refl _)).2 (by omega);rw[if_neg (by intro c;injection c with c;omega)];exact h.has n (by omega)
 .rw[zdo] at D;by_cases e:k=.inl ((runF b x B).at_:Int)
  .exact⟨B,by omega,e⟩
  .rw[if_neg e] at D;obtain⟨n,h1,h2⟩:=h.all k u D;exact⟨n,by omega,h2⟩
inductive zcU:List V->Hp->VK->XK->Prop where
 |mk {vs:List V} {H:Hp} {Q:VK} {E:XK} (z:Addr) (v:V) (b:Bk) (x:Str) (c1:vs=[v,.str x]) (c2:Bag z H) (c3:Rep z H v (bkD b)) (c4:BkOk b) (c5:x.length<=20000)
  (c6:∀p kvs N H',Same H H'->H p=none->H' p=some (.dK kvs)->RunN b x N->StdK z H' b x (N+1) kvs->Q (.ref p) H'):zcU vs H Q E
theorem scLStands:zav ["book","text","found","doors","place","marks"] ["book","text"] (zag zc5):=⟨J,J,J,by decide +kernel,J,by decide +kernel,by decide +kernel⟩
theorem zen{z pd:Addr}{H:Hp}{ds:List LDr}{D:List V}{j:Nat}(R:Reps z H D (ds.map ldD))(h:j<ds.length):∃ad,D.getD j .non=.ref ad/\H ad=some (.tup [.int (ds.getD j ld0).1,.int (ds.getD j ld0).2.1,.str (ds.getD j ld0).2.2])/\(ds.getD j ld0).2.2.length<=1000:=by
 have B:=zgP (j:=j) R h;obtain⟨ad,F,L,G⟩:=zdU B;refine⟨ad,F,G,?_⟩;rw[F] at B;cases B with
 |tup _ _ r=>
  cases r with
  |cons _ r=>
   cases r with
   |cons _ r=>
    cases r with
    |cons I _=>
     cases I with
     |str _ J0=>exact J0
theorem zhv{f aJ aK:Addr}{fd a4 a5:FuncData}(F:Fun K "_law_stands" "_law_stands" zc5 f fd)(T:TxtB mg)(bq:W.keepIn K (.ref aJ)=true)(aL:Binds K a4 ["book","doors","text","place"] [])(br:mg "_law_fitting"=some (.ref aJ))(bs:FnOk P w K mg base CX0 1 aJ a4 ["book","doors","text","place"] zbW)(bt:W.keepIn K (.ref aK)=true)(bu:Binds K a5 ["book","doors","text","place","mark"] [])(bv:mg "_law_step"=some (.ref aK))(bw:FnOk P w K mg base CX0 1 aK a5 ["book","doors","text","place","mark"] zeh):FnOk P w K mg base CX0 2 f fd ["book","text"] zcU:=by
 refine F.ok scLStands (λvs H Q E h=>?_) (λcdv A outer s H vs Q E aM h=>?_)
 .obtain⟨z,v,b,x,rfl,_⟩:=h;rfl
 .obtain⟨z,v,b,x,rfl,ai,R,aj,a6,k⟩:=h;have ak:=scLStands.nd;obtain⟨aN,cf,al,_⟩:=id aj;have a7:(A.deeper (PyProof.Rows.envOfC (Str.ofString "_law_stands") (zag zc5) s.heap.objs.size f cdv)).units+1<cLine:=by have:=aM.un;omega
  refine⟨_,zac (zan (i:=2) ak J (Or.inl J) zgD)
   (zac (zan (i:=3) ak J (Or.inl J) (zaN zae))
   (zac (zan (i:=4) ak J (Or.inl J) zaf)
   (zac (zbM PassesOwn.never (zau zd6 (pv 4) (zar zap (by rfl) T.len b_len (zaa (pv 1) zae)) (zaz _))
    (zac (zfZ a7 (pv 2) (pv 4) (zbx zbD (by rfl) T.tuple zew (zaa (za6 (N':=["door"]) (js:=[none]) J J (zbl (zag zc5) (by decide +kernel)) trivial (zbc (pv 3)) (λcl s H fp=>zaq (i:=0) ndD J (Or.inl J)) (λcl s H fp=>zbh) (λcl s H fp=>zaA zgR (pv 0) (zaD zaf) zaL)) zae)) J)
    (zac (zan (i:=5) ak J (Or.inl J) (zat bs aM J br bq aL .nil pass0 (zaa (pv 0) (zaa (pv 3) (zaa (pv 1) (zaa (pv 4) zae))))))
    (zai (zan (i:=4) ak J (Or.inl J) (zax zaT (pv 4) (zay zaE (zat bw aM J bv bt bu .nil pass0 (zaa (pv 0) (zaa (pv 3) (zaa (pv 1) (zaa (pv 4) (zaa (zbL PySem.F.plainAttrs_str PySem.F.slot_str_join PySem.F.type_str_join zdm zaH (zaa (zaA zbQ (pv 5) zaL (zaD zaf)) zae)) zae)))))) zaf (λ_ _=>rfl))))))))
   (zac (zfZ a7 (pv 2) (zar zap (by rfl) T.len b_len (zaa (pv 1) zae)) (zbx zbD (by rfl) T.tuple zew (zaa (za6 (N':=["door"]) (js:=[none]) J J (zbl (zag zc5) (by decide +kernel)) trivial (zbc (pv 3)) (λcl s H fp=>zaq (i:=0) ndD J (Or.inl J)) (λcl s H fp=>zbh) (λcl s H fp=>zaA zgR (pv 0) (zaD zaf) zaL)) zae)) J)
   (zai (zaw (pv 2))))))),?_⟩
  dsimp only[cxOf,Cx.nox,Cx.wish];have cg:=zaW;have ch:(100000:Nat)<=sizeLine:=by rw[sizeLine_eq];decide
  refine zbC λci _ bx _ _=>?_;refine λp am=>?_;refine⟨Nat.zero_le _,λpd aC=>?_⟩;have aO:=Same.new (o:=.dK []) am;have a8:=Same.new (o:=.lst []) aC;have bz:=aO.trans a8;have bA:H pd=none:=aO.free aC;have a9:p≠pd:=zad (zab (H:=H) (a:=p) (o:=.dK [])) aC;have cj:p≠z:=ai.ne am;have bB:pd≠z:=(ai.same aO).ne aC;refine zaj λbC aP=>aP _ _ (zaj λbC aP=>aP _ _ ?_);refine zez (J0:=λσ B=>∃n u,σ=[some v,some (.str x),some (.ref p),some (.ref pd),some (.int (runF b x n).at_),u]/\Same H B/\LDs z B pd (runF b x n).ds/\(∀j,j<n->(runF b x j).at_<x.length)/\(runF b x n).at_=x.length/\∃kvs,B p=some (.dK kvs)/\kvs.length<=n/\StdK z B b x n kvs) (λck bD=>?g1) ?g2
  case g1=>
   refine zbN (λσ B=>∃n u,σ=[some v,some (.str x),some (.ref p),some (.ref pd),some (.int (runF b x n).at_),u]/\Same H B/\LDs z B pd (runF b x n).ds/\(∀j,j<n->(runF b x j).at_<x.length)/\∃kvs,B p=some (.dK kvs)/\kvs.length<=n/\StdK z B b x n kvs)
    (λσ B=>match σ[4]? with|some (some (V.int i))=>x.length-i.toNat|_=>0) ⟨0,none,J,bz,⟨[],zab,.nil⟩,λj aD=>absurd aD (Nat.not_lt_zero _),[],a8 _ _ zab,Nat.le_refl _,.nil⟩ ?_ ?_
   .rintro σ B ⟨n,u,rfl,ac,aE,U,kvs,aF,ba,aG⟩;have O:=zaX (x:=x) al aN n;have cm:=O.le;have cn:=O.sl;refine⟨_,J,_,J,x,J,by omega,_,_,J,J,_,J,?_⟩;refine ite2 (λL=>?_) (λL=>?_)
    .have L:(runF b x n).at_<x.length:=by have:=of_decide_eq_true L;omega
     have bE:n<=x.length:=by
      have h1:=zgQ b x n L;omega
     have bF:=O.dl;have aQ:=O.bk.ok al;have ao:=ai.same ac;obtain⟨ae,S,af⟩:=id aE;have aR:ae.length=(runF b x n).ds.length:=by have:=af.length;simpa using this
     refine zbC λco bG _ _ _=>zaj λbb ap=>?_;refine⟨_,J,pd,J,⟨_,SqL.of S⟩,λaq ar=>?_⟩;have as:pd≠aq:=zad S ar;refine zbF (z:=z) (λ_=>true) (λj=>pdD ((runF b x n).ds.getD j ld0)) (λσ=>∃v,σ=[v]) ⟨none,J⟩ ar (by omega) (za7 (xs:=ae) (by rw[zah as];exact S) as) (λj=>zgf _) (λj σ Y bH bI aD ⟨bJ,hw⟩ G aS _=>?_) (λσ Y vs G aT au=>?_)
     .subst hw;obtain⟨ad,aU,aV,aW⟩:=zen (pd:=pd) (af.mono G.x (z:=z)) (j:=j) (by omega);rw[aU];dsimp only[tYes,gName];rw[if_pos rfl];refine⟨_,J,1,J,ad,_,J,SqT.of aV,(show ¬(HT.sIx 3 0 (some 1)=0/\HT.sIx 3 3 none=3) by decide),λpn av=>?_⟩;have aX:=Same.new (o:=.tup [.int ((runF b x n).ds.getD j ld0).2.1,.str ((runF b x n).ds.getD j ld0).2.2]) av;exact aS rfl _ (.ref pn) _ ⟨_,J⟩ aX (.tup zab ((ao.same G).ne av) (.cons (.int _) (.cons (.str _ aW) .nil)))
     rw[List.filter_eq_self.mpr (λ_ _=>rfl),aR,zcp pdD (runF b x n).ds] at au;refine⟨aq,vs,J,.inl ⟨SqL.of aT,λl aw=>?_⟩⟩;have ax:=Same.new (o:=.tup vs) aw;have I:=G.trans ax;have aY:l≠z:=(ao.same G).ne aw;have ay:Rep z (upd Y l (.tup vs)) (.ref l) (.tup ((runF b x n).ds.map pdD)):=.tup zab aY (au.mono ax.x);have Z:=I _ _ aF;have ag:=(aG.same I).put aj U ay;have bc:=I _ _ S;have bd:=af.mono I.x (z:=z);have az:=ac.trans I;generalize upd Y l (.tup vs)=D at I Z ag bc bd az ay;refine⟨_,J,_,J,p,_,J,DPut.k (k:=.inl ((runF b x n).at_:Int)) Z (by omega),ap _ _ (zaj λbb ap=>?_)⟩;have M:KeepE (λa=>a=p) D (upd D p (.dK (putK kvs (.inl ((runF b x n).at_:Int)) (.ref l)))):=(λaa o aZ e=>by rw[zah aZ];exact e);have aH:NoTup (λa=>a=p) D:=λaa xs e g=>by rw[show aa=p from e,Z] at g;cases g
     have aA:upd D p (.dK (putK kvs (.inl ((runF b x n).at_:Int)) (.ref l))) p=some (.dK (putK kvs (.inl ((runF b x n).at_:Int)) (.ref l))):=zab;have a0:=ag.keep M aH;have aI:LDs z (upd D p (.dK (putK kvs (.inl ((runF b x n).at_:Int)) (.ref l)))) pd (runF b x n).ds:=⟨ae,M _ _ a9.symm bc,Reps.keep M aH bd (zbr _)⟩;have ah:Same H (upd D p (.dK (putK kvs (.inl ((runF b x n).at_:Int)) (.ref l)))):=λa o e=>M a o (zad e am) (az a o e);have bK:=zb2 kvs (.inl ((runF b x n).at_:Int)) (V.ref l);generalize putK kvs (.inl ((runF b x n).at_:Int)) (V.ref l)=be at M aA ag a0 aI ah bK;generalize upd D p (.dK be)=cp at M aA a0 aI ah;refine⟨_,J,_,J,_,J,_,J,z,v,b,pd,(runF b x n).ds,x,(runF b x n).at_,J,R.mono ah.x,aj,aI,aQ,a6,λpm ys bL bM cq bN bf pw=>ap _ _ ?_⟩;have a1:∀m∈fitL b (runF b x n).ds x (runF b x n).at_,Sm m:=λm a2=>zb4 (x:=x) (i:=(runF b x n).at_) al aQ m (List.mem_filter.mp a2).1;have bO:=zdW a1 (λm a2=>(List.mem_filter.mp a2).2) bf pw;refine⟨_,J,_,J,_,J,_,J,_,J,J,_,J,1,J,pm,_,J,SqL.of bN,λbg bP=>?_⟩;have bQ:=Same.new (o:=.lst (cutV (ys.map V.str) none (some (1:Int)))) bP;have bR:∀y∈ys.take 1,y.length<=1000:=λy bS=>by have:=(a1 y (bf.mem_iff.mp (List.mem_of_mem_take bS))).2;omega
     refine⟨_,bg,ys.take 1,J,J,SqL.of (by rw[zab,zeI]),by rw[List.length_take];omega,by decide +kernel,bR,?_⟩;have bT:zgy (ys.take 1)=bestL b (runF b x n).ds x (runF b x n).at_:=by
      unfold bestL;rw[←bO];cases ys<;>rfl
     rw[bT];have ab:=bM.trans bQ;have bh:=R.mono (ah.trans ab).x (z:=z);have a3:=aI.same ab;have bi:=ab _ _ aA;have bj:=a0.same ab;have bk:=ai.same (ah.trans ab);have bl:=ah.trans ab;generalize upd bL bg (.lst (cutV (ys.map V.str) none (some (1:Int))))=bm at ab bh a3 bi bj bk bl;have bU:bestL b (runF b x n).ds x (runF b x n).at_=Str.ofString ""∨bestL b (runF b x n).ds x (runF b x n).at_∈someL b (runF b x n).ds:=by
      rcases zbs a1 with⟨_,h2⟩|⟨h1,_⟩
      .exact .inl (by unfold bestL;rw[h2,za3])
      .exact .inr (List.mem_filter.mp h1).1
     obtain⟨cr,p2,p3,p4,p5,cs⟩:=zaM (x:=x) al O.bk aN L;refine⟨z,v,b,pd,(runF b x n).ds,x,_,(runF b x n).at_,J,bk,bB,bh,aj,a3,aQ,L,a6,by omega,bU,λbV bW bn cu bX bo=>?_⟩;rw[←zbX L] at bo;obtain⟨cv,bY,_⟩:=id a3;have bp:KeepE (λa=>a=pd) bm bW:=λa o bZ e=>bn a o bZ e;have b0:NoTup (λa=>a=pd) bm:=λaa xs e g=>by rw[show aa=pd from e,bY] at g;cases g
     refine⟨bV,_,1,_,J,J,SqT.of bX,zal (j:=1) J,_,_,J,J,?_⟩;have b1:((runF b x n).at_:Int)+(stepL b (runF b x n).ds x (runF b x n).at_ (bestL b (runF b x n).ds x (runF b x n).at_)).1.2.1=((runF b x (n+1)).at_:Int):=by
      rw[zdf L];show _=((_+_:Nat):Int);omega
     refine bG _ _ ⟨⟨n+1,some (.ref pm),?_,λa o e=>bn a o (zad e bA) (bl a o e),bo,λj aD=>?_,be,bp _ _ a9 bi,by omega,bj.keep bp b0⟩,?_⟩
     .show [some v,some (.str x),some (.ref p),some (.ref pd),some (V.int (((runF b x n).at_:Int)+(stepL b (runF b x n).ds x (runF b x n).at_ (bestL b (runF b x n).ds x (runF b x n).at_)).1.2.1)),some (.ref pm)]=_;rw[b1]
     .by_cases e:j=n
      .rw[e];exact L
      .exact U j (by omega)
     .show x.length-(((runF b x n).at_:Int)+(stepL b (runF b x n).ds x (runF b x n).at_ (bestL b (runF b x n).ds x (runF b x n).at_)).1.2.1).toNat<x.length-((runF b x n).at_:Int).toNat;omega
    .have aB:(runF b x n).at_=x.length:=by
      have:¬(((runF b x n).at_:Int)<(x.length:Int)):=λq=>L (decide_eq_true q);omega
     exact bD _ _ ⟨n,u,J,ac,aE,U,aB,kvs,aF,ba,aG⟩
   .rintro σ B cw cx b2 ⟨b3,b4,b5,b6,b7,b8,b9,ca,cb,cc,cd,aL,ce,h⟩;exact⟨b3,b4,b5,b6,b7,b8,b9,ca,cb,cc,cd,aL,ce,b2 _ _ h⟩
  case g2=>
   rintro σ B ⟨n,u,rfl,ac,aE,U,aB,kvs,aF,ba,aG⟩;have O:=zaX (x:=x) al aN n;have bF:=O.dl;have ao:=ai.same ac;have bE:n<=x.length:=by
    have h1:=O.sl;have h2:RunN b x n:=⟨aB,U⟩;have cy:=h2.len n (Nat.le_refl _);omega
   obtain⟨ae,S,af⟩:=id aE;have aR:ae.length=(runF b x n).ds.length:=by have:=af.length;simpa using this
   refine zaj λbb ap=>?_;refine⟨_,J,pd,J,⟨_,SqL.of S⟩,λaq ar=>?_⟩;have as:pd≠aq:=zad S ar;refine zbF (z:=z) (λ_=>true) (λj=>pdD ((runF b x n).ds.getD j ld0)) (λσ=>∃v,σ=[v]) ⟨none,J⟩ ar (by omega) (za7 (xs:=ae) (by rw[zah as];exact S) as) (λj=>zgf _) (λj σ Y bH bI aD ⟨bJ,hw⟩ G aS _=>?_) (λσ Y vs G aT au=>?_)
   .subst hw;obtain⟨ad,aU,aV,aW⟩:=zen (pd:=pd) (af.mono G.x (z:=z)) (j:=j) (by omega);rw[aU];dsimp only[tYes,gName];rw[if_pos rfl];refine⟨_,J,1,J,ad,_,J,SqT.of aV,(show ¬(HT.sIx 3 0 (some 1)=0/\HT.sIx 3 3 none=3) by decide),λpn av=>?_⟩;have aX:=Same.new (o:=.tup [.int ((runF b x n).ds.getD j ld0).2.1,.str ((runF b x n).ds.getD j ld0).2.2]) av;exact aS rfl _ (.ref pn) _ ⟨_,J⟩ aX (.tup zab ((ao.same G).ne av) (.cons (.int _) (.cons (.str _ aW) .nil)))
   rw[List.filter_eq_self.mpr (λ_ _=>rfl),aR,zcp pdD (runF b x n).ds] at au;refine⟨aq,vs,J,.inl ⟨SqL.of aT,λl aw=>?_⟩⟩;have ax:=Same.new (o:=.tup vs) aw;have I:=G.trans ax;have aY:l≠z:=(ao.same G).ne aw;have ay:Rep z (upd Y l (.tup vs)) (.ref l) (.tup ((runF b x n).ds.map pdD)):=.tup zab aY (au.mono ax.x);have Z:=I _ _ aF;have ag:=(aG.same I).put aj U ay;have az:=ac.trans I;generalize upd Y l (.tup vs)=D at I Z ag az ay;refine⟨_,J,_,J,x,J,by omega,p,_,J,DPut.k (k:=.inl (x.length:Int)) Z (by omega),ap _ _ ?_⟩;have M:KeepE (λa=>a=p) D (upd D p (.dK (putK kvs (.inl ((runF b x n).at_:Int)) (.ref l)))):=(λaa o aZ e=>by rw[zah aZ];exact e);have aH:NoTup (λa=>a=p) D:=λaa xs e g=>by rw[show aa=p from e,Z] at g;cases g
   have aA:upd D p (.dK (putK kvs (.inl ((runF b x n).at_:Int)) (.ref l))) p=some (.dK (putK kvs (.inl ((runF b x n).at_:Int)) (.ref l))):=zab;rw[←aB];exact⟨_,J,bx _ _ (k p _ n _ (λa o e=>M a o (zad e am) (az a o e)) am aA ⟨aB,U⟩ (ag.keep M aH))⟩
inductive zdx(P:Program)(w:World)(CP CS:Addr):List V->Hp->VK->XK->Prop where
 |mk {vs:List V} {H:Hp} {Q:VK} {E:XK} (z r dx:Addr) (v:V) (b:Bk) (x y:Str) (pt ps so dxs pr pn pw p q:Addr) (tab:List Rws) (i k:Nat) (ds ds':List LDr) (st:Stp) (c1:vs=[.ref r,.int k,.ref p,.ref q]) (c2:H r=some (.ins CP dx (pgF v x pt ps so pw)))
  (c3:H p=some (.tup (stV st))) (c4:PDs z H q ds') (c5:Bag z H) (c6:StdS P w z CS H so dxs pr pn tab) (c7:Stands tab k (ds.map (·.2))) (c8:zcP b ds y i st ds') (c9:ds'.length<=2000) (c10:tab.length<1000000)
  (c11:∀k' tab' H',(tab'=tab∨∃r,tab'=tab++[r])->Stands tab' k' (ds'.map (·.2))->KeepE (λb=>b=pr∨b=pn) H H'->StdS P w z CS H' so dxs pr pn tab'->Q (.int (k':Nat)) H'):zdx P w CP CS vs H Q E
theorem nOpen:∀s∈([("cut":Str),"escape","sign","close"]:List Str),¬V.str s=V.str "open":=by
 intro s B e;injection e with e;subst e;revert B;decide +kernel
theorem zlY:∀s∈([("cut":Str),"escape","sign","open"]:List Str),¬V.str s=V.str "close":=by
 intro s B e;injection e with e;subst e;revert B;decide +kernel
theorem zlg{z:Addr}{H:Hp}{v:V}{d:LDr}(r:Rep z H v (pdD d)):d.2.2.length<=1000:=by
 have r:Rep z H v (.tup [.int d.2.1,.str d.2.2]):=r;cases r with
 |tup h F r=>
  cases r with
  |cons G B=>
   cases B with
   |cons D I=>
    cases D;assumption
theorem zj1{z:Addr}{H:Hp}{ds:List LDr}{d:LDr}{vs:List V}(D:Reps z H vs ((ds++[d]).map pdD)):∃ad,atI vs (-1)=some (.ref ad)/\ad≠z/\H ad=some (.tup [.int d.2.1,.str d.2.2])/\d.2.2.length<=1000:=by
 have F:vs.length=ds.length+1:=by have:=D.length;simpa using this
 have B:=zix (ds:=ds++[d]) (i:=ds.length) D (by simp);have G:(ds++[d]).getD ds.length ld0=d:=by simp
 rw[G] at B;obtain⟨ad,I,J0,L⟩:=ziw B;exact⟨ad,zeN F I,J0,L,zlg B⟩
theorem scStandB:zav ["self","stand","step","doors"] ["self","stand","step","doors"] (zag zgd):=⟨J,J,J,by decide +kernel,J,by decide +kernel,by decide +kernel⟩
theorem zi1{f R S CP CS:Addr}{fd U V:FuncData}(F:Fun K "stand_behind" "Page.stand_behind" zgd f fd)(J0:TxtP K mg CP)(W:TxtS K mg CS)(n1:Meth K CS "within" R)(ah:Binds K U ["self","number","door"] [])(ai:FnOk P w K mg base CX0 1 R U ["self","number","door"] (zcR P w CS))(n2:Meth K CS "around" S)(aj:Binds K V ["self","number"] [])(ak:FnOk P w K mg base CX0 1 S V ["self","number"] (zdu P w CS)):FnOk P w K mg base CX0 2 f fd ["self","stand","step","doors"] (zdx P w CP CS):=by
 refine F.ok scStandB (λvs H Q E h=>?_) (λcdv A outer s H vs Q E al h=>?_)
 .obtain⟨z,r,dx,v,b,x,y,pt,ps,so,dxs,pr,pn,pw,p,q,tab,i,k,ds,Y,st,rfl,_⟩:=h;rfl
 .obtain⟨z,r,dx,v,b,x,y,pt,ps,so,dxs,pr,pn,pw,p,q,tab,i,k,ds,Y,st,rfl,hi,L,am,ao,G,I,Z,aF,ap,g⟩:=h;have aG:=scStandB.nd;have aa:Room 1 _:=al.mono (by decide);refine⟨_,zac (za9 (zau zb8 (zay zaE (pv 2) zaf (λ_ _=>rfl)) zaH (zaz _))
    (zai (zaw (zaZ (zaG (pv 0) J) W.cl n1 ai aa ah .nil pass0 (zaa (pv 1) (zaa (zay zaB (pv 3) (zbK zbd zaf) (λ_ _=>rfl)) zae))))) zaC)
   (zac (za9 (zau zb8 (zay zaE (pv 2) zaf (λ_ _=>rfl)) zaH (zaz _))
    (zai (zaw (zaZ (zaG (pv 0) J) W.cl n2 ak aa aj .nil pass0 (zaa (pv 1) zae)))) zaC)
   (zai (zaw (pv 1)))),?_⟩
  dsimp only[cxOf,Cx.nox,Cx.wish];refine zbC λaH _ M _ _=>zaj λaq ab=>?_;refine⟨_,J,p,_,2,_,J,J,SqT.of L,zal (j:=2) J,J,_,J,?_⟩;unfold zcP at Z;have plain:st.2.2.1∈([("cut":Str),"escape","sign"]:List Str)->Y=ds->aq [some (.ref r),some (.int k),some (.ref p),some (.ref q)] H:=λhw B=>by
   refine ab _ _ (zaj λar ac=>?_);refine⟨_,J,p,_,2,_,J,J,SqT.of L,zal (j:=2) J,J,_,J,?_⟩;refine ite2 (λe=>absurd (of_decide_eq_true e) (zlY _ (List.mem_append_left [("open":Str)] hw))) (λ_=>ac _ _ ⟨_,J,M _ _ (g k tab H (.inl J) (by rw[B];exact I) (λ_ _ _ e=>e) G)⟩)
  rcases Z with⟨_,B,⟨_,D⟩|⟨_,D⟩⟩|⟨_,_,B,D⟩|⟨_,_,as,_,B,D⟩|⟨_,_,d,_,B,D⟩
  .have hw:st.2.2.1="cut":=by rw[D]
   exact ite2 (λe=>absurd (of_decide_eq_true e) (nOpen _ (by rw[hw];simp))) (λ_=>plain (by rw[hw];simp) B)
  .have hw:st.2.2.1="escape":=by rw[D]
   exact ite2 (λe=>absurd (of_decide_eq_true e) (nOpen _ (by rw[hw];simp))) (λ_=>plain (by rw[hw];simp) B)
  .have hw:st.2.2.1="sign":=by rw[D]
   exact ite2 (λe=>absurd (of_decide_eq_true e) (nOpen _ (by rw[hw];simp))) (λ_=>plain (by rw[hw];simp) B)
  .have hw:st.2.2.1="close":=by rw[D]
   refine ite2 (λe=>absurd (of_decide_eq_true e) (nOpen _ (by rw[hw];simp))) (λ_=>ab _ _ (zaj λar ac=>?_));refine⟨_,J,p,_,2,_,J,J,SqT.of L,zal (j:=2) J,J,_,J,?_⟩;refine ite2 (λ_=>?_) (λe=>absurd (decide_eq_true (by rw[hw])) e);generalize el:ds.map (·.2)=l at I;cases I with
   |zero=>
    exfalso;have:=congrArg List.length el;rw[List.length_map] at this;exact as (List.eq_nil_of_length_eq_zero this)
   |@suc au ae aI h1 h2 O=>
    refine⟨_,J,r,CP,dx,_,_,J,hi,J0.cl,J0.nG,zbP v x pt ps so pw,so,dxs,_,J,G.ins,zeZ (by simp),_,J,z,so,dxs,pr,pn,tab,au,ae,J,G,h1,M _ _ (g ae.1 tab H (.inl J) ?_ (λ_ _ _ e=>e) G)⟩;rw[B,List.map_dropLast,el,List.dropLast_concat];exact O
  .have hw:st.2.2.1="open":=by rw[D]
   refine ite2 (λ_=>?_) (λe=>absurd (decide_eq_true (by rw[hw])) e);obtain⟨av,aw,af⟩:=am;rw[B] at af;obtain⟨ad,ax,ay,az,aA⟩:=zj1 af;have aB:=I.le;refine⟨_,J,r,CP,dx,_,_,J,hi,J0.cl,J0.nG,zbP v x pt ps so pw,so,dxs,_,J,G.ins,zeZ (by simp),_,J,_,J,1,J,q,av,-1,_,J,J,SqL.of aw,ax,z,so,dxs,pr,pn,ad,tab,k,(d.2.1,d.2.2),J,ao,G,ay,az,aA,aB,ap,λaC aD H' ag h1 h2 O aE=>M _ _ (g (aC+1) aD H' ?_ ?_ O aE)⟩
   .rcases ag with e|e
    .exact .inl e
    .exact .inr ⟨_,e⟩
   .rw[B,List.map_append];refine .suc h1 h2 ?_;rcases ag with e|e
    .rw[e];exact I
    .rw[e];exact I.mono _
theorem PgS.keep{P:Program}{w:World}{z CP CS:Addr}{H H':Hp}{r dx:Addr}{v:V}{b:Bk}{x:Str}{pt ps so dxs pr pn pw:Addr}{tab:List Rws}{N:Nat}{ks:List Nat}(h:PgS P w z CP CS H r dx v b x pt ps so dxs pr pn pw tab N ks){S:Addr->Prop}(k:KeepE S H H')(n:NoTup S H)(h1:¬S r)(h2:¬S pt)(B:¬S ps)(D:¬S so)(F:¬S pr)(G:¬S pn):PgS P w z CP CS H' r dx v b x pt ps so dxs pr pn pw tab N ks:=by
 obtain⟨tv,I,J0⟩:=h.told;exact⟨k _ _ h1 h.ins,Rep.keep k n h.rb (.tup (zbe _)),h.ok,h.run,⟨tv,k _ _ h2 I,Reps.keep k n J0 (zaO _)⟩,k _ _ B h.stands,h.kl,h.st,h.sd.keep k n D F G,h.xl,h.nes⟩
theorem PgS.butX{P:Program}{w:World}{z CP CS tb:Addr}{H H':Hp}{r dx:Addr}{v:V}{b:Bk}{x:Str}{pt ps so dxs pr pn pw:Addr}{tab:List Rws}{N:Nat}{ks:List Nat}(h:PgS P w z CP CS H r dx v b x pt ps so dxs pr pn pw tab N ks)(k:ButX tb H H')(F:LamTb tb H):PgS P w z CP CS H' r dx v b x pt ps so dxs pr pn pw tab N ks:=by
 obtain⟨L,B⟩:=F.tbl;obtain⟨tv,G,M⟩:=h.told;obtain⟨O,I,R,J0⟩:=h.sd.ex;exact h.keep (S:=λa=>a=tb) (λb o D e=>k b o D e) (λb xs D e=>by rw[show b=tb from D,B] at e;cases e) (zao h.ins B (by intro q;cases q)) (zao G B (by intro q;cases q)) (zao h.stands B (by intro q;cases q))
  (zao h.sd.ins B (by intro q;cases q)) (zao I B (by intro q;cases q)) (zao J0 B (by intro q;cases q))
theorem zky{z:Addr}{H:Hp}{p:Addr}{B:List V}{ds:List LDr}(h:H p=some (.lst B))(R:Reps z H B ((ds.map (·.2)).map pdP)):PDs z H p ds:=by
 rw[List.map_map] at R;exact⟨B,h,R⟩
theorem zkz{b:Bk}{y:Str}{ds:List LDr}:∀ {n:Nat},(∀j,j<n->(it0 b y ds j).at_<y.length)->(it0 b y ds n).ss.length=n
 |0,_=>rfl
 |n+1,h=>by
  have B:=zkz (n:=n) λj D=>h j (by omega);show (zaQ b y (it0 b y ds n)).ss.length=_;unfold zaQ;rw[if_pos (h n (by omega))];show ((it0 b y ds n).ss++[_]).length=_;rw[List.length_append,B];rfl
noncomputable def KeptS(b:Bk)(x:Str)(i K:Nat):Prop:=∀y:Str,y.cps.toList=x.cps.toList.take i->SureN b y K
inductive zdy(P:Program)(w:World)(tb CP CS:Addr):List V->Hp->VK->XK->Prop where
 |mk {vs:List V} {H:Hp} {Q:VK} {E:XK} (z r dx:Addr) (v:V) (b:Bk) (x:Str) (pt ps so dxs pr pn pw:Addr) (tab:List Rws) (N:Nat) (ks:List Nat) (i:Nat) (c1:vs=[.ref r,.int i]) (c2:PgS P w z CP CS H r dx v b x pt ps so dxs pr pn pw tab N ks) (c3:Bag z H) (c4:LamTb tb H) (c5:i<=x.length)
  (c6:∀K H',K<=N->(runF b x K).at_<=i->KeptS b x i K->ButX tb H H'->Bag z H'->LamTb tb H'->Q (.int (K:Nat)) H'):zdy P w tb CP CS vs H Q E
theorem scCountS:zav ["self","begin","far","near"] ["self","begin"] (zag zc9):=⟨J,J,J,by decide +kernel,J,by decide +kernel,by decide +kernel⟩
theorem zi2{f ae af ag U tb CP CS:Addr}{fd ah ai aj ak:FuncData}{al:Value}(F:Fun K "count_sure" "Page.count_sure" zc9 f fd)(T:TxtB mg)(G:TxtP K mg CP)(az:TxtS K mg CS)(aA:mg "LONGEST_MARK"=some al)(aB:RelV (.int 4) al)(n1:Meth K CP "count_ended" ae)(aC:Binds K ah ["self","place"] [])(aD:FnOk P w K mg base CX0 2 ae ah ["self","place"] (ze4 P w CP CS))(n2:Meth K CP "beginning" af)(V:Binds K ai ["self","number"] [])(aE:FnOk P w K mg base CX0 1 af ai ["self","number"] (zb6 P w CP CS))(aF:W.keepIn K (.ref U)=true)(aG:Binds K ak ["book","part","doors"] [])(aH:mg "sure_steps"=some (.ref U))(aI:FnOk P w K mg base CX0 5 U ak ["book","part","doors"] (zbI tb))(n4:Meth K CS "doors_by" ag)(aJ:Binds K aj ["self","number"] [])(aK:FnOk P w K mg base CX0 1 ag aj ["self","number"] (zcf P w CS)):FnOk P w K mg base CX0 6 f fd ["self","begin"] (zdy P w tb CP CS):=by
 refine F.ok scCountS (λvs H Q E h=>?_) (λcdv A outer s H vs Q E Y h=>?_)
 .obtain⟨z,r,dx,v,b,x,pt,ps,so,dxs,pr,pn,pw,tab,N,ks,i,rfl,_⟩:=h;rfl
 .obtain⟨z,r,dx,v,b,x,pt,ps,so,dxs,pr,pn,pw,tab,N,ks,i,rfl,D,Z,aL,hi,k⟩:=h;have am:=scCountS.nd;have ao:Room 1 _:=Y.mono (by decide);have aM:Room 2 _:=Y.mono (by decide);refine⟨_,zac (zan (i:=2) am J (Or.inl J) (zaZ (pv 0) G.cl n1 aD aM aC .nil pass0 (zaa (zax zb7 (pv 1) (zfP J aA aB)) zae)))
   (zac (zan (i:=3) am J (Or.inl J) (zaA zbp (zaG (pv 0) J) (zaD (zaZ (pv 0) G.cl n2 aE ao V .nil pass0 (zaa (pv 2) zae))) (zaD (pv 1))))
   (zai (zaw (zax zaT (pv 2) (zar zaF (by rfl) T.len b_len (zaa (zat aI Y J aH aF aG .nil pass0 (zaa (zaG (pv 0) J) (zaa (pv 3) (zaa (zaZ (zaG (pv 0) J) az.cl n4 aK ao aJ .nil pass0 (zaa (zay zaB (zaG (pv 0) J) (pv 2) (λ_ _=>rfl)) zae)) zae)))) zae)))))),?_⟩
  dsimp only[cxOf,Cx.nox,Cx.wish];have a4:(100000:Nat)<=sizeLine:=by rw[sizeLine_eq];decide
  have a5:=D.nle;have a6:=D.xl;obtain⟨ap,a7,aq,_⟩:=id D.ok;refine zbC λa8 _ aN _ _=>zaj λaO aa=>?_;refine⟨_,J,r,dx,_,J,D.ins,zbf (by simp),_,J,_,_,J,J,z,r,dx,v,b,x,pt,ps,so,dxs,pr,pn,pw,tab,N,ks,(i:Int)-4,J,D,λB J0 aP a9=>aa _ _ (zaj λaO aa=>?_)⟩;have ab:B=0∨(runF b x B).at_+4<=i:=by
   rcases aP with h|h
   .exact .inl h
   .exact .inr (by omega)
  have ba:(runF b x B).at_<=i:=by
   rcases ab with h|h
   .rw[h];exact Nat.zero_le _
   .omega
  refine⟨_,J,r,CP,dx,_,_,J,D.ins,G.cl,G.nX,zbv v x pt ps so pw,_,J,r,dx,_,J,D.ins,zbf (by simp),_,J,z,r,dx,v,b,x,pt,ps,so,dxs,pr,pn,pw,tab,N,ks,B,J,D,J0,_,J,_,J,_,J,x,J,by omega,?_⟩;have ar:cutS x (some ((runF b x B).at_:Int)) (some (i:Int))=cutS x (some ((runF b x B).at_:Int)) (some (((runF b x B).at_:Int)+((i-(runF b x B).at_:Nat):Int))):=by
   congr 2;omega
  have L:=zco x (runF b x B).at_ (i-(runF b x B).at_);rw[←ar] at L;clear ar;generalize cutS x (some ((runF b x B).at_:Int)) (some (i:Int))=near at L;refine aa _ _ ?_;have bb:near.length=i-(runF b x B).at_:=by rw[←zak,L,List.length_take,List.length_drop,zak];omega
  obtain⟨aQ,aR,M⟩:=D.st B J0;have as:=zaX (x:=x) aq ap B;have bc:=as.dl;refine⟨_,J,_,J,r,CP,dx,_,_,J,D.ins,G.cl,G.nB,ziT v x pt ps so pw,_,J,_,J,r,CP,dx,_,_,J,D.ins,G.cl,G.nG,zbP v x pt ps so pw,so,dxs,_,J,D.sd.ins,zeZ (by simp),?_⟩;refine⟨_,J,r,CP,dx,_,_,J,D.ins,G.cl,G.nS,zcS v x pt ps so pw,_,J,ps,_,B,_,J,J,SqL.of D.stands,zal (by rw[List.getElem?_map,aR];rfl),z,so,dxs,pr,pn,tab,aQ,(runF b x B).ds.map (·.2),J,Z,D.sd,M,by rw[List.length_map];omega,λp bd H1 O au aS aT=>?_⟩;have aU:p≠z:=Z.ne au;refine⟨z,v,b,p,(runF b x B).ds,near,J,Z.same O,aU,D.rb.mono O.x,D.ok,zky aS aT,as.bk,by omega,aL.same O,λaV R n H2 V be aW ac aX aY bf aZ L2=>?_⟩;have bg:R.length=n:=by
   have:=aY.length;rw[List.length_map,zkz (λj a0=>(ac j a0).1)] at this;exact this
  refine⟨aV,R,J,.inl (SqL.of aW),_,_,J,J,aN _ _ ?_⟩;have ad:KeptS b x i (B+n):=λy I=>by
   have S:y.length=i:=by rw[←zak,I,List.length_take,zak];omega
   have av:y.cps.toList=x.cps.toList.take (runF b x B).at_++near.cps.toList:=by
    rw[I,L,←List.take_add];congr 1;omega
   have aw:(x.cps.toList.take (runF b x B).at_).length=(runF b x B).at_:=by
    rw[List.length_take,zak];omega
   exact⟨ziX D.ok (x:=x) (y:=y) (near:=near) (more:=x.cps.toList.drop i) (pre:=x.cps.toList.take (runF b x B).at_) (by rw[I,List.take_append_drop]) D.run J0 (by rw[S];exact ab) av aw ac,
    ziY D.ok (x:=x) (y:=y) (near:=near) (more:=x.cps.toList.drop i) (pre:=x.cps.toList.take (runF b x B).at_) (by rw[I,List.take_append_drop]) D.run J0 (by rw[S];exact ab) av aw ac aX⟩
  obtain⟨y,I⟩:∃y:Str,y.cps.toList=x.cps.toList.take i:=⟨⟨(x.cps.toList.take i).toArray⟩,by simp⟩;have S:y.length=i:=by rw[←zak,I,List.length_take,zak];omega
  have M:=zbJ (b:=b) (y:=y) (y':=x) (more:=x.cps.toList.drop i) (n:=B+n) (by rw[I,List.take_append_drop]) (ad y I).all;have a1:B+n<=N:=by
   by_cases q:B+n<=N
   .exact q
   .exfalso;have h1:=(M N (by omega)).1;have h2:=((ad y I).all N (by omega)).1;have bh:=D.run.at_;omega
  have a2:(runF b x (B+n)).at_<=i:=by
   rw[(M _ (Nat.le_refl _)).1,←S];exact(zaX (x:=y) aq ap (B+n)).le
  have e:(B:Int)+(R.length:Int)=((B+n:Nat):Int):=by omega
  show Q (.int ((B:Int)+(R.length:Int))) H2;rw[e];exact k (B+n) H2 a1 a2 ad (λax o a3 ay=>V ax o (zad ay au) a3 (O ax o ay)) aZ L2
end T1
namespace L2
open PySem PySem.Spec PyProof.Rows
theorem zlh{P:Program}{w:World}{sh:List Bool}{a c:Addr}{kvs:List NEnt}{q:Str}:¬dN P w sh a kvs=cdO c q:=by
 intro e;unfold dN cdO at e;injection e with e;obtain⟨o,D⟩:∃o:Obj,o={ cls:=.type "dict",data:=.fields #[.none,.str q 0] }:=⟨_,J⟩;have I:(⟨Array.replicate (c+1) o,{}⟩:Heap).get? c=some o:=by
  unfold Heap.get?;rw[show (⟨Array.replicate (c+1) o,{}⟩:Heap).objs=Array.replicate (c+1) o from rfl,Array.getElem?_replicate,if_pos (Nat.lt_succ_self c),D]
 have g:(⟨Array.replicate (c+1) o,{}⟩:Heap).CodeRec (.ref c) q:=⟨c,o,#[.none,.str q 0],_,J,I,by rw[D],J⟩;have e:=congrFun e (⟨Array.replicate (c+1) o,{}⟩:Heap);rw[←e] at g;obtain⟨_,_,xs,_,J0,es,L,B,_,F,_⟩:=g;have h2:J0=o:=by
  unfold Heap.get? at B;rw[show (⟨Array.replicate (c+1) o,{}⟩:Heap).objs=Array.replicate (c+1) o from rfl,Array.getElem?_replicate] at B;by_cases G:a<c+1
  .rw[if_pos G,D] at B;rw[D];injection B with B;exact B.symm
  .rw[if_neg G] at B;cases B
 rw[h2,D] at F;cases F
end L2
namespace T1
open PySem L2
variable {P:Program}{w:World}{K:W.Frag}{mg:Str->Option Value}{base:Heap}
structure PgM(P:Program)(w:World)(z CP CS:Addr)(H:Hp)(r dx:Addr)(v:V)(b:Bk)(x x':Str)(pt ps so dxs pr pn pw:Addr)(tab:List Rws)(N:Nat)(ks:List Nat):Prop where
 ins:H r=some (.ins CP dx (pgF v x' pt ps so pw))
 rb:Rep z H v (bkD b)
 ok:BkOk b
 run:RunN b x N
 told:∃tv,H pt=some (.lst tv)/\Reps z H tv ((runF b x N).ss.map stD)
 stands:H ps=some (.lst (ks.map λk:Nat=>V.int (k:Int)))
 kl:ks.length=N+1
 st:∀j,j<=N->∃k,ks[j]?=some k/\Stands tab k ((runF b x j).ds.map (·.2))
 sd:StdS P w z CS H so dxs pr pn tab
 xl:x.length<=2000
 xl':x'.length<=2000
 nes:(pt≠pr/\ps≠pr/\pw≠pr)/\(pt≠z/\ps≠z/\pw≠z)/\(pw≠pt/\pw≠ps)
structure RaC(z CP:Addr)(H:Hp)(r dx:Addr)(v:V)(b:Bk)(x x':Str)(pt ps so pw el:Addr)(N:Nat)(ks:List Nat)(kvs:List (Key×V)):Prop where
 ins:H r=some (.ins CP dx (pgF v x' pt ps so pw))
 rb:Rep z H v (bkD b)
 told:∃tv,H pt=some (.lst tv)/\Reps z H tv ((runF b x N).ss.map stD)
 stands:H ps=some (.lst (ks.map λk:Nat=>V.int (k:Int)))
 eld:H el=some (.dK kvs)
theorem RaC.keep{z CP:Addr}{H H':Hp}{r dx:Addr}{v:V}{b:Bk}{x x':Str}{pt ps so pw el:Addr}{N:Nat}{ks:List Nat}{kvs:List (Key×V)}(h:RaC z CP H r dx v b x x' pt ps so pw el N ks kvs){S:Addr->Prop}(k:KeepE S H H')(n:NoTup S H)(h1:¬S r)(h2:¬S pt)(B:¬S ps)(D:¬S el):RaC z CP H' r dx v b x x' pt ps so pw el N ks kvs:=by
 obtain⟨tv,F,G⟩:=h.told;exact⟨k _ _ h1 h.ins,Rep.keep k n h.rb (.tup (zbe _)),⟨tv,k _ _ h2 F,Reps.keep k n G (zaO _)⟩,k _ _ B h.stands,k _ _ D h.eld⟩
structure NewS(b:Bk)(x':Str)(tab:List Rws)(j:Nat)(ks:List Nat):Prop where
 len:ks.length=j+1
 st:∀l,l<=j->∃k,ks[l]?=some k/\Stands tab k ((runF b x' l).ds.map (·.2))
theorem NewS.mono{b:Bk}{x':Str}{tab:List Rws}{j:Nat}{ks:List Nat}(h:NewS b x' tab j ks)(more:List Rws):NewS b x' (tab++more) j ks:=⟨h.len,λl B=>by
 obtain⟨k,e,s⟩:=h.st l B;exact⟨k,e,s.mono more⟩⟩
theorem NewS.snoc{b:Bk}{x':Str}{tab:List Rws}{j k:Nat}{ks:List Nat}(h:NewS b x' tab j ks)(s:Stands tab k ((runF b x' (j+1)).ds.map (·.2))):NewS b x' tab (j+1) (ks++[k]):=⟨by rw[List.length_append,h.len];rfl,λl D=>by
 by_cases q:l<=j
 .obtain⟨B,e,s'⟩:=h.st l q;exact⟨B,by rw[List.getElem?_append_left (by rw[h.len];omega)];exact e,s'⟩
 .have e:l=j+1:=by omega
  subst e;exact⟨k,by rw[List.getElem?_append_right (by rw[h.len];omega),h.len,Nat.sub_self];rfl,s⟩⟩
structure RaS(P:Program)(w:World)(tb z CP CS:Addr)(H0 H:Hp)(r dx:Addr)(v:V)(b:Bk)(x x':Str)(pt ps so dxs pr pn pw el:Addr)(tab0 tab:List Rws)(N:Nat)(ks:List Nat)(kvs:List (Key×V))(pT pS q:Addr)(K j i:Nat)(ks':List Nat):Prop where
 core:RaC z CP H r dx v b x x' pt ps so pw el N ks kvs
 bag:Bag z H
 lam:LamTb tb H
 keep:KeepE (λa=>a=pr∨a=pn∨a=tb) H0 H
 sd:StdS P w z CS H so dxs pr pn tab
 ext:∃more,tab=tab0++more/\more.length<=i-K
 new:∃fv,H pT=some (.lst fv)/\Reps z H fv ((runF b x' j).ss.map stD)
 hS:H pS=some (.lst (ks'.map λk:Nat=>V.int (k:Int)))
 ns:NewS b x' tab i ks'
 ds:PDs z H q (runF b x' j).ds
 jK:K<=i
structure Fresh3(H0:Hp)(pT pS q:Addr):Prop where
 t:H0 pT=none
 s:H0 pS=none
 u:H0 q=none
 ts:pT≠pS
 tq:pT≠q
 sq:pS≠q
theorem zcq{tb:Addr}{H H':Hp}{S:Addr->Prop}(h:LamTb tb H)(k:KeepE S H H')(h1:¬S tb)(h2:∀a,S a->∀c q,H a≠some (cdO c q)):LamTb tb H':=by
 rcases h with h|⟨B,h,g⟩
 .exact .inl (k _ _ h1 h)
 .exact .inr ⟨B,k _ _ h1 h,k _ _ (λe=>h2 B e _ _ g) g⟩
theorem zgg{tb a:Addr}{H:Hp}{l l':List V}(h:LamTb tb H)(D:H a=some (.lst l)):LamTb tb (upd H a (.lst l')):=by
 obtain⟨ps,F⟩:=h.tbl;refine zcq h (S:=λb=>b=a) (λb o B e=>by rw[zah B];exact e) (λe=>(zao F D (by intro q;cases q)) e) (λb B c q e=>?_);rw[show b=a from B,D] at e;cases e
theorem za1{H:Hp}{a:Addr}{o:HO}(h:H a=some o)(n:∀xs,o≠.tup xs):NoTup (λb=>b=a) H:=λb xs e g=>by
 rw[show b=a from e,h] at g;injection g with g;exact n xs g
theorem zcr{H:Hp}{S T:Addr->Prop}(h:NoTup S H)(g:NoTup T H):NoTup (λb=>S b∨T b) H:=λb xs e=>e.elim (h b xs) (g b xs)
theorem zbb{H:Hp}{a:Addr}{o:HO}:KeepE (λb=>b=a) H (upd H a o):=λb o' B e=>by rw[zah B];exact e
theorem Fresh3.ne{H0:Hp}{pT pS q a:Addr}{o:HO}(F:Fresh3 H0 pT pS q)(h:H0 a=some o):a≠pT/\a≠pS/\a≠q:=⟨zad h F.t,zad h F.s,zad h F.u⟩
structure At0(P:Program)(w:World)(tb z CP CS:Addr)(H0:Hp)(r dx:Addr)(v:V)(b:Bk)(x x':Str)(pt ps so dxs pr pn pw el:Addr)(tab0:List Rws)(N:Nat)(ks:List Nat)(kvs:List (Key×V))(pT pS q:Addr):Prop where
 core:RaC z CP H0 r dx v b x x' pt ps so pw el N ks kvs
 bag:Bag z H0
 lam:LamTb tb H0
 sd:StdS P w z CS H0 so dxs pr pn tab0
 ok:BkOk b
 fr:Fresh3 H0 pT pS q
 npr:pt≠pr/\ps≠pr
section
variable {P:Program}{w:World}{tb z CP CS:Addr}{H0 H:Hp}{r dx:Addr}{v:V}{b:Bk}{x x':Str}{pt ps so dxs pr pn pw el:Addr}{tab0 tab:List Rws}{N:Nat}{ks:List Nat}{kvs:List (Key×V)}{pT pS q:Addr}{K j i:Nat}{ks':List Nat}
theorem At0.nes(A:At0 P w tb z CP CS H0 r dx v b x x' pt ps so dxs pr pn pw el tab0 N ks kvs pT pS q):(r≠pT/\r≠pS/\r≠q)/\(pt≠pT/\pt≠pS/\pt≠q)/\(ps≠pT/\ps≠pS/\ps≠q)/\(el≠pT/\el≠pS/\el≠q)/\(so≠pT/\so≠pS/\so≠q)/\(pr≠pT/\pr≠pS/\pr≠q)/\(pn≠pT/\pn≠pS/\pn≠q)/\(tb≠pT/\tb≠pS/\tb≠q)/\(z≠pT/\z≠pS/\z≠q):=by
 obtain⟨tv,B,_⟩:=A.core.told;obtain⟨J0,D,_,F⟩:=A.sd.ex;obtain⟨L,G⟩:=A.lam.tbl;obtain⟨c,d,I⟩:=A.bag;exact⟨A.fr.ne A.core.ins,A.fr.ne B,A.fr.ne A.core.stands,A.fr.ne A.core.eld,A.fr.ne A.sd.ins,A.fr.ne D,A.fr.ne F,A.fr.ne G,A.fr.ne I⟩
theorem RaS.read(A:At0 P w tb z CP CS H0 r dx v b x x' pt ps so dxs pr pn pw el tab0 N ks kvs pT pS q)(W:RaS P w tb z CP CS H0 H r dx v b x x' pt ps so dxs pr pn pw el tab0 tab N ks kvs pT pS q K j i ks')(L:(runF b x' j).at_<x'.length){p:Addr}{B:Hp}(I:But2 q tb H B)(O:H p=none)(R:B p=some (.tup (stV (zbj b x' j))))(ad:PDs z B q (stepL b (runF b x' j).ds x' (runF b x' j).at_ (bestL b (runF b x' j).ds x' (runF b x' j).at_)).2)(ae:LamTb tb B){F:List V}(S:H pT=some (.lst F))(af:Reps z H F ((runF b x' j).ss.map stD)) :
  B pT=some (.lst F)/\RaS P w tb z CP CS H0 (upd B pT (.lst (F++[.ref p]))) r dx v b x x' pt ps so dxs pr pn pw el tab0 tab N ks kvs pT pS q K (j+1) i ks'/\upd B pT (.lst (F++[.ref p])) p=some (.tup (stV (zbj b x' j))):=by
 obtain⟨⟨ag,aK,ah⟩,⟨ai,aL,aj⟩,⟨ak,aM,al⟩,⟨am,aN,ao⟩,⟨ap,aO,aq⟩,⟨ar,p2,p3⟩,⟨n1,n2,n3⟩,⟨as,au,aP⟩,av,aQ,aw⟩:=A.nes;obtain⟨aR,D⟩:=W.lam.tbl;obtain⟨tv,ax,_⟩:=W.core.told;obtain⟨aS,ay,_,az⟩:=W.sd.ex;obtain⟨aT,aA,_⟩:=id W.ds;obtain⟨U,aU,Y,_⟩:=id A.ok;have M:KeepE (λa=>a=q∨a=tb) H B:=λb o Z e=>I b o (λc=>Z (.inl c)) (λc=>Z (.inr c)) e;have n4:NoTup (λa=>a=q∨a=tb) H:=zcr (za1 aA (by intro xs c;cases c)) (za1 D (by intro xs c;cases c));have G:∀ {a:Addr},a≠q->a≠tb->¬(a=q∨a=tb):=λh g c=>c.elim h g;have J0:B pT=some (.lst F):=I _ _ A.fr.tq as.symm S;have aB:=W.core.keep M n4 (G ah (zao W.core.ins D (by intro c;cases c))) (G aj (zao ax D (by intro c;cases c))) (G al (zao W.core.stands D (by intro c;cases c))) (G ao (zao W.core.eld D (by intro c;cases c)));have aC:=W.sd.keep M n4 (G aq (zao W.sd.ins D (by intro c;cases c))) (G p3 (zao ay D (by intro c;cases c))) (G n3 (zao az D (by intro c;cases c)));have aa:=za1 J0 (by intro xs c;cases c);have aD:=Reps.keep M n4 af (zaO _);have aE:p≠z:=W.bag.ne O;have aF:p≠pT:=(zad S O).symm;obtain⟨q1,aV,aW,aX,aY,aZ⟩:=zaM (x:=x') Y (zaX (x:=x') Y U j).bk U L;have aG:upd B pT (.lst (F++[.ref p])) p=some (.tup (stV (zbj b x' j))):=by rw[zah aF];exact R
 refine⟨J0,⟨aB.keep zbb aa ag ai ak am,?_,?_,?_,aC.keep zbb aa ap ar n1,W.ext,⟨_,zab,?_⟩,?_,W.ns,?_,W.jK⟩,aG⟩
 .obtain⟨c,d,ab⟩:=W.bag;exact⟨c,d,by rw[zah av];exact I _ _ aw (zao ab D (by intro c;cases c)) ab⟩
 .exact zgg ae J0
 .intro a o ac e;have h1:=W.keep a o ac e;obtain⟨aH,a0,aI⟩:=A.fr.ne e;rw[zah aH];exact I a o aI (λc=>ac (.inr (.inr c))) h1
 .rw[zbz L,List.map_append];refine Reps.updL J0 (aD.append (.cons ?_ .nil)) ((zaO _).append (zaO [_]));exact zeP R aE (by omega)
 .rw[zah A.fr.ts.symm];exact I _ _ A.fr.sq au.symm W.hS
 .rw[zbX L];obtain⟨aJ,h1,h2⟩:=ad;exact⟨aJ,by rw[zah A.fr.tq.symm];exact h1,Reps.updL J0 h2 (zcw _)⟩
theorem RaS.behind(A:At0 P w tb z CP CS H0 r dx v b x x' pt ps so dxs pr pn pw el tab0 N ks kvs pT pS q)(W:RaS P w tb z CP CS H0 H r dx v b x x' pt ps so dxs pr pn pw el tab0 tab N ks kvs pT pS q K (j+1) j ks'){M:Nat}{I:List Rws}{G:Hp}(R:I=tab∨∃r,I=tab++[r])(s:Stands I M ((runF b x' (j+1)).ds.map (·.2)))(B:KeepE (λa=>a=pr∨a=pn) H G)(aa:StdS P w z CS G so dxs pr pn I) :
  G pS=some (.lst (ks'.map λk:Nat=>V.int (k:Int)))/\RaS P w tb z CP CS H0 (upd G pS (.lst ((ks'++[M]).map λk:Nat=>V.int (k:Int)))) r dx v b x x' pt ps so dxs pr pn pw el tab0 I N ks kvs pT pS q K (j+1) (j+1) (ks'++[M]):=by
 obtain⟨⟨au,ab,av⟩,⟨aw,ac,ax⟩,⟨ay,ad,az⟩,⟨aA,ae,aB⟩,⟨aC,af,aD⟩,⟨ag,p2,p3⟩,⟨n1,n2,n3⟩,⟨aE,aF,aG⟩,aH,ah,aI⟩:=A.nes;obtain⟨aJ,S⟩:=W.lam.tbl;obtain⟨tv,ai,_⟩:=W.core.told;obtain⟨aK,J0,_,F⟩:=W.sd.ex;obtain⟨aj,ak,al⟩:=W.new;obtain⟨am,ao,ap⟩:=W.ds;obtain⟨more,U,aL⟩:=W.ext;have n6:NoTup (λa=>a=pr∨a=pn) H:=zcr (za1 J0 (by intro xs c;cases c)) (za1 F (by intro xs c;cases c));have D:∀ {a:Addr},a≠pr->a≠pn->¬(a=pr∨a=pn):=λh g c=>c.elim h g;have aq:=W.core.keep B n6 (D (zao W.core.ins J0 (by intro c;cases c)) (zao W.core.ins F (by intro c;cases c))) (D A.npr.1 (zao ai F (by intro c;cases c))) (D A.npr.2 (zao W.core.stands F (by intro c;cases c))) (D (zao W.core.eld J0 (by intro c;cases c)) (zao W.core.eld F (by intro c;cases c)));have L:G pS=some (.lst (ks'.map λk:Nat=>V.int (k:Int))):=B _ _ (D p2.symm n2.symm) W.hS;have Y:=za1 L (by intro xs c;cases c);obtain⟨c,d,Z⟩:=W.bag;have ar:LamTb tb G:=zcq W.lam B (D (zao S J0 (by intro c;cases c)) (zao S F (by intro c;cases c))) (λa ha c q e=>by
  rcases ha with ha|ha
  .rw[ha,J0] at e;cases e
  .rw[ha,F] at e;injection e with e;exact zlh e)
 refine⟨L,aq.keep zbb Y ab ac ad ae,⟨c,d,by rw[zah ah];exact B _ _ (D W.sd.prz.symm (zao Z F (by intro c;cases c))) Z⟩,zgg ar L,λa o ha e=>?_,aa.keep zbb Y af p2 n2,?_,⟨aj,?_,?_⟩,zab,?_,⟨am,?_,?_⟩,Nat.le_succ_of_le W.jK⟩
 .obtain⟨aM,as,aN⟩:=A.fr.ne e;rw[zah as];exact B a o (λc=>ha (c.elim .inl λc=>.inr (.inl c))) (W.keep a o ha e)
 .have aO:=W.jK;rcases R with e|⟨O,e⟩
  .exact⟨more,by rw[e,U],by omega⟩
  .exact⟨more++[O],by rw[e,U,List.append_assoc],by rw[List.length_append];show more.length+1<=_;omega⟩
 .rw[zah A.fr.ts];exact B _ _ (D ag.symm n1.symm) ak
 .exact Reps.updL L (Reps.keep B n6 al (zaO _)) (zaO _)
 .rcases R with e|⟨O,e⟩
  .rw[e] at s ⊢;exact W.ns.snoc s
  .rw[e] at s ⊢;exact(W.ns.mono [O]).snoc s
 .rw[zah A.fr.sq.symm];exact B _ _ (D p3.symm n3.symm) ao
 .exact Reps.updL L (Reps.keep B n6 ap (zcw _)) (zcw _)
end
theorem zgT(xs:List V){k:Nat}(h:k<=xs.length):cutV xs none (some (k:Int))=xs.take k:=by
 unfold cutV;rw[HT.sIx_nat,HT.sIx_none,List.drop_zero,Nat.min_eq_left h,Nat.sub_zero]
theorem zgU(xs:List V){k:Nat}(h:k<=xs.length):cutV xs (some (k:Int)) none=xs.drop k:=by
 unfold cutV;rw[HT.sIx_nat,HT.sIx_none,Nat.min_eq_left h];exact List.take_of_length_le (by rw[List.length_drop];exact Nat.le_refl _)
theorem zd0{b:Bk}{x:Str}:∀ {j:Nat},(∀l,l<j->(runF b x l).at_<x.length)->(runF b x j).ss.length=j
 |0,_=>rfl
 |j+1,h=>by
  rw[zbz (h j (by omega)),List.length_append,zd0 (j:=j) λl B=>h l (by omega)];rfl
theorem zj2{b:Bk}{x x':Str}{N n j:Nat}{d:Int}(G:BkOk b)(run:RunN b x N)(I:n<=N)(B:∀l,l<j->(runF b x' l).at_<x'.length)(U:((runF b x' j).at_:Int)=(runF b x n).at_+d)(J0:x'.cps.toList.drop (runF b x' j).at_=x.cps.toList.drop (runF b x n).at_)(L:n=N∨SamePd (runF b x' j).ds (runF b x n).ds)(V:(x'.length:Int)=x.length+d):RunN b x' (j+(N-n))/\(runF b x' (j+(N-n))).ss=(runF b x' j).ss++((runF b x N).ss.drop n).map (mvS d)/\∀k,1<=k->k<=N-n->SamePd (runF b x' (j+k)).ds (runF b x (n+k)).ds:=by
 obtain⟨D,W,F,_⟩:=id G;rcases L with h|h
 .subst h;have h1:=run.at_;have Y:=run.len n (Nat.le_refl _);rw[Nat.sub_self,Nat.add_zero,List.drop_eq_nil_of_le (by omega)];exact⟨⟨by omega,B⟩,by simp,λk h1 h2=>by omega⟩
 .obtain⟨M,O,R⟩:=zjY run I J0 h (zaX (x:=x') F D j).le (zaX (x:=x) F D n).le B;refine⟨M,?_,λk _ S=>(O k S).2⟩;rw[R];congr 3;omega
theorem zli{CS dxs CP dx pr pn:Addr}{v:V}{x:Str}{pt ps so pw:Addr}:¬HO.ins CS dxs (stF pr pn)=HO.ins CP dx (pgF v x pt ps so pw):=λq=>by
 injection q with _ _ q;have:(2:Nat)=6:=congrArg List.length q;omega
noncomputable def GoAt(b:Bk)(x x':Str)(N:Nat)(e d:Int)(l:Nat):Prop:=∃n:Nat,n<=N/\e<=((runF b x n).at_:Int)/\((runF b x' l).at_:Int)=(runF b x n).at_+d/\SamePd (runF b x' l).ds (runF b x n).ds
inductive zgV(P:Program)(w:World)(tb CP CS:Addr):List V->Hp->VK->XK->Prop where
 |mk {vs:List V} {H:Hp} {Q:VK} {E:XK} (z r dx:Addr) (v:V) (b:Bk) (x x':Str) (pt ps so dxs pr pn pw el:Addr) (tab:List Rws) (N:Nat) (ks:List Nat) (kvs:List (Key×V)) (K:Nat) (e d:Int)
  (c1:vs=[.ref r,.int K,.int (runF b x K).at_,.ref el,.int d]) (c2:PgM P w z CP CS H r dx v b x x' pt ps so dxs pr pn pw tab N ks) (c3:Bag z H) (c4:LamTb tb H) (c5:H el=some (.dK kvs)) (c6:EldK b x e d (N+1) kvs) (c7:K<=N)
  (c8:∀j,j<=K->(runF b x' j).at_=(runF b x j).at_/\SamePd (runF b x' j).ds (runF b x j).ds/\(runF b x' j).ss=(runF b x j).ss)
  (c9:(x'.length:Int)=x.length+d) (c10:∀a a':Nat,e<=(a:Int)->(a':Int)=a+d->x'.cps.toList.drop a'=x.cps.toList.drop a) (c11:e<=(x.length:Int)) (c12:tab.length+2000<1000000) (c13:∃wl,H pw=some (.lst wl))
  (c14:∀M n pt' ps' ks' tab' H',K<=M->n<=N->((runF b x' M).at_:Int)=(runF b x n).at_+d->e<=((runF b x n).at_:Int)->(n=N∨SamePd (runF b x' M).ds (runF b x n).ds)->(∀l,K<=l->l<M->¬GoAt b x x' N e d l)->(runF b x' (M+(N-n))).ss=(runF b x' M).ss++((runF b x N).ss.drop n).map (mvS d) ->
   PgS P w z CP CS H' r dx v b x' pt' ps' so dxs pr pn pw tab' (M+(N-n)) ks'->tab'.length<=tab.length+2000->KeepE (λa=>a=r∨a=pr∨a=pn∨a=tb) H H'->Bag z H'->LamTb tb H'->H pt'=none->H ps'=none->Q (.int (runF b x' M).at_) H'):zgV P w tb CP CS vs H Q E
theorem scAnew:zav ["self","kept","first","elder","longer","told","stands","doors","place","step","number"] ["self","kept","first","elder","longer"] (zag mAnew):=⟨J,J,J,by decide +kernel,J,by decide +kernel,by decide +kernel⟩
theorem ndSL:(["step","longer"]:List Str).Nodup:=by decide +kernel
theorem zlj{f ah aT aU az bf tb CP CS:Addr}{fd bS bT bU bV bW:FuncData}(F:Fun K "read_anew" "Page.read_anew" mAnew f fd)(T:TxtB mg)(G:TxtP K mg CP)(cO:TxtS K mg CS)(cP:W.keepIn K (.ref az)=true)(aV:Binds K bV ["book","text","place","doors"] [])(cQ:mg "read_step"=some (.ref az))(cR:FnOk P w K mg base CX0 4 az bV ["book","text","place","doors"] (zc7 tb))(n4:Meth K CS "doors_by" ah)(cS:Binds K bS ["self","number"] [])(cT:FnOk P w K mg base CX0 1 ah bS ["self","number"] (zcf P w CS))(n5:Meth K CP "goes_on" aT)(cU:Binds K bT ["self","place","elder","stand"] [])(cV:FnOk P w K mg base CX0 1 aT bT ["self","place","elder","stand"] (zdw CP))(n6:Meth K CP "stand_behind" aU)(cW:Binds K bU ["self","stand","step","doors"] [])(cX:FnOk P w K mg base CX0 2 aU bU ["self","stand","step","doors"] (zdx P w CP CS))(aW:W.keepIn K (.ref bf)=true)(cY:Binds K bW ["step","by"] [])(cZ:mg "moved"=some (.ref bf))(c0:FnOk P w K mg base CX0 1 bf bW ["step","by"] zdY) :
  FnOk P w K mg base CX0 5 f fd ["self","kept","first","elder","longer"] (zgV P w tb CP CS):=by
 refine F.ok scAnew (λvs H Q E h=>?_) (λcdv A outer s H vs Q E aX h=>?_)
 .obtain⟨z,r,dx,v,b,x,x',pt,ps,so,dxs,pr,pn,pw,el,tab,N,ks,kvs,eM,e,d,rfl,_⟩:=h;rfl
 .obtain⟨z,r,dx,v,b,x,x',pt,ps,so,dxs,pr,pn,pw,el,tab,N,ks,kvs,D,e,d,rfl,B,bg,bh,bX,aY,bi,aZ,c1,c2,eN,eO,⟨bY,am⟩,k⟩:=h;have ao:=scAnew.nd;have bj:Room 1 _:=aX.mono (by decide);have c3:Room 2 _:=aX.mono (by decide);have c4:Room 4 _:=aX.mono (by decide);have c5:(A.deeper (PyProof.Rows.envOfC (Str.ofString "Page.read_anew") (zag mAnew) s.heap.objs.size f cdv)).units+1<cLine:=by have:=aX.un;omega
  refine⟨_,zac (zan (i:=5) ao J (Or.inl J) (zaA zbQ (zaG (pv 0) J) zaL (zaD (pv 1))))
   (zac (zan (i:=6) ao J (Or.inl J) (zaA zbQ (zaG (pv 0) J) zaL (zaD (zax zaT (pv 1) zaf))))
   (zac (zan (i:=7) ao J (Or.inl J) (zaZ (zaG (pv 0) J) cO.cl n4 cT bj cS .nil pass0 (zaa (zay zaB (pv 6) (pv 1) (λ_ _=>rfl)) zae)))
   (zac (zan (i:=8) ao J (Or.inl J) (pv 2))
   (zac (zbM PassesOwn.never (PW.pt (zcE (zau zd6 (pv 8) (zar zap (by rfl) T.len b_len (zaa (zaG (pv 0) J) zae)) (zaz _)) (zb9 (zgn (zhD (zaZ (pv 0) G.cl n5 cV bj cU .nil pass0 (zaa (pv 8) (zaa (pv 3) (zaa (zay zaB (pv 6) (zbK zbd zaf) (λ_ _=>rfl)) zae)))))))))
    (zac (zan (i:=9) ao J (Or.inl J) (zat cR c4 J cQ cP aV .nil pass0 (zaa (zaG (pv 0) J) (zaa (zaG (pv 0) J) (zaa (pv 8) (zaa (pv 7) zae))))))
    (zac (zaP (zbL PySem.F.plainAttrs_list PySem.F.slot_list_append PySem.F.type_list_append zaK (pv 5) (zaa (pv 9) zae)))
    (zac (zaP (zbL PySem.F.plainAttrs_list PySem.F.slot_list_append PySem.F.type_list_append zaK (pv 6) (zaa (zaZ (pv 0) G.cl n6 cX c3 cW .nil pass0 (zaa (zay zaB (pv 6) (zbK zbd zaf) (λ_ _=>rfl)) (zaa (pv 9) (zaa (pv 7) zae)))) zae)))
    (zai (zhG (i:=8) ao J (Or.inl J) (zay zaE (pv 9) zaf (λ_ _=>rfl)) zhH))))))
   (zac (zan (i:=10) ao J (Or.inl J) (zeB c5 (pv 3) (pv 8) (λ_ _=>rfl)))
   (zac (zbB (pv 0) (zax zcI (pv 5) (za6 (N':=["step","longer"]) (js:=[none,some 4]) J J (zbl (zag mAnew) (by decide +kernel)) ⟨J,Or.inr (Or.inl J),J,trivial⟩ (zbc (zaA zbQ (zaG (pv 0) J) (zaD (pv 10)) zaL)) (λcl s H fp=>zaq (i:=0) ndSL J (Or.inl J)) (λcl s H fp=>zbh) (λcl s H fp=>zat c0 bj J cZ aW cY .nil pass0 (zaa (pv 0) (zaa (pv 1) zae))))) J)
   (zac (zbB (pv 0) (zax zcI (pv 6) (zaA zbQ (zaG (pv 0) J) (zaD (zax zaT (pv 10) zaf)) zaL)) J)
   (zai (zaw (pv 8)))))))))),?_⟩
  dsimp only[cxOf,Cx.nox,Cx.wish];have eP:(100000:Nat)<=sizeLine:=by rw[sizeLine_eq];decide
  obtain⟨tv,bZ,bk⟩:=B.told;refine zbC λeQ _ c6 _ _=>zaj λap L=>?_;obtain⟨ai,eR,aj,_⟩:=id B.ok;have eS:=B.xl;have eT:=B.xl';have bl:(runF b x N).ss.length=N:=B.run.len N (Nat.le_refl _);have eU:tv.length=N:=by have:=bk.length;rw[List.length_map,bl] at this;exact this
  have eV:=B.kl;have eW:N<=2000:=by
   have h1:=(zaX (x:=x) aj ai N).sl;have h2:=B.run.at_;omega
  refine⟨_,J,r,CP,dx,_,_,J,B.ins,G.cl,G.nT,zcD v x' pt ps so pw,_,J,_,J,pt,tv,J,SqL.of bZ,λpT b0=>L _ _ (zaj λap L=>?_)⟩;rw[zgT tv (by omega:D<=tv.length)] at *;have aw:=Same.new (o:=.lst (tv.take D)) b0;have aA:upd H pT (.lst (tv.take D)) pT=some (.lst (tv.take D)):=zab;generalize upd H pT (.lst (tv.take D))=H1 at aw aA;refine⟨_,J,r,CP,dx,_,_,J,aw _ _ B.ins,G.cl,G.nS,zcS v x' pt ps so pw,_,J,_,_,J,J,_,J,ps,_,J,SqL.of (aw _ _ B.stands),λpS a0=>L _ _ (zaj λap L=>?_)⟩;have b1:cutV (ks.map λk:Nat=>V.int (k:Int)) none (some ((D:Int)+1))=(ks.take (D+1)).map λk:Nat=>V.int (k:Int):=by
   have:=zgT (ks.map λk:Nat=>V.int (k:Int)) (k:=D+1) (by rw[List.length_map];omega);rw[List.map_take];exact this
  rw[b1];have aB:=Same.new (o:=.lst ((ks.take (D+1)).map λk:Nat=>V.int (k:Int))) a0;have aC:upd H1 pS (.lst ((ks.take (D+1)).map λk:Nat=>V.int (k:Int))) pS=some (.lst ((ks.take (D+1)).map λk:Nat=>V.int (k:Int))):=zab;generalize upd H1 pS (.lst ((ks.take (D+1)).map λk:Nat=>V.int (k:Int)))=H2 at aB aC;have aq:=aw.trans aB;obtain⟨b2,b3,b4⟩:=B.st D bi;have b5:=zaX (x:=x) aj ai D;have eX:=b5.dl;have eY:=b5.le;refine⟨_,J,r,CP,dx,_,_,J,aq _ _ B.ins,G.cl,G.nG,zbP v x' pt ps so pw,so,dxs,_,J,aq _ _ B.sd.ins,zeZ (by simp),?_⟩;have b6:((ks.take (D+1)).map λk:Nat=>V.int (k:Int))[D]?=some (.int b2):=by
   rw[List.getElem?_map,List.getElem?_take_of_lt (Nat.lt_succ_self _),b3];rfl
  refine⟨_,J,_,J,pS,_,D,_,J,J,SqL.of aC,zal b6,z,so,dxs,pr,pn,tab,b2,(runF b x D).ds.map (·.2),J,bg.same aq,B.sd.same aq,b4,by rw[List.length_map];omega,λq eZ b7 a1 a2 aD bm=>L _ _ (zaj λap L=>?_)⟩;have Y:=aq.trans a1;refine⟨_,J,L _ _ ?_⟩;have c7:H q=none:=aq.free a2;have c8:H pS=none:=aw.free a0;have bn:At0 P w tb z CP CS H r dx v b x x' pt ps so dxs pr pn pw el tab N ks kvs pT pS q:=⟨⟨B.ins,B.rb,B.told,B.stands,bX⟩,bg,bh,B.sd,B.ok,⟨b0,c8,c7,zad aA a0,zad (aB _ _ aA) a2,zad aC a2⟩,B.nes.1.1,B.nes.1.2.1⟩;obtain⟨c9,da,db⟩:=aZ D (Nat.le_refl _);have dc:RaS P w tb z CP CS H b7 r dx v b x x' pt ps so dxs pr pn pw el tab tab N ks kvs pT pS q D D D (ks.take (D+1)):=by
   refine⟨⟨Y _ _ B.ins,B.rb.mono Y.x,⟨tv,Y _ _ bZ,bk.mono Y.x⟩,Y _ _ B.stands,Y _ _ bX⟩,bg.same Y,bh.same Y,λa o _ e=>Y a o e,B.sd.same Y,⟨[],by simp,Nat.zero_le _⟩,⟨tv.take D,a1 _ _ (aB _ _ aA),?_⟩,a1 _ _ aC,⟨?_,λl aE=>?_⟩,?_,Nat.le_refl _⟩
   .rw[db,B.run.take bi,List.map_take];exact(bk.mono Y.x).take D
   .rw[List.length_take];omega
   .obtain⟨aF,h1,h2⟩:=B.st l (by omega);exact⟨aF,by rw[List.getElem?_take_of_lt (by omega)];exact h1,by rw[show (runF b x' l).ds.map (·.2)=(runF b x l).ds.map (·.2) from (aZ l aE).2.1];exact h2⟩
   .rw[←show (runF b x' D).ds.map (·.2)=(runF b x D).ds.map (·.2) from da] at bm;exact zky aD bm
  have dd:∀l,l<D->(runF b x' l).at_<x'.length:=λl aE=>by
   have h1:=(aZ l (by omega)).1;have aG:=B.run.mono B.ok (i:=l) (j:=D) aE bi;have bo:=(zaX (x:=x') aj ai D).le;omega
  have de:=(bn.nes).2.2.2.2.2.2.2.2.2.2.symm;clear aZ b6 b1 bm aD a1 aB aw aq aA aC a2 a0 b4 b3;refine zez (J0:=λσ' H'=>∃(j n:Nat) (ab:List Rws) (ks':List Nat) (ar:Option V),σ'=[some (.ref r),some (.int D),some (.int (runF b x D).at_),some (.ref el),some (.int d),some (.ref pT),some (.ref pS),some (.ref q),some (.int (runF b x' j).at_),ar,none] /\
   RaS P w tb z CP CS H H' r dx v b x x' pt ps so dxs pr pn pw el tab ab N ks kvs pT pS q D j j ks'/\(∀l,l<j->(runF b x' l).at_<x'.length)/\n<=N/\e<=((runF b x n).at_:Int)/\((runF b x' j).at_:Int)=(runF b x n).at_+d/\valV kvs (.inl ((runF b x' j).at_:Int))=some (.int n)/\(n=N∨SamePd (runF b x' j).ds (runF b x n).ds)/\(∀l,D<=l->l<j->¬GoAt b x x' N e d l)) (λap L=>?g1) ?g2
  case g1=>
   refine zbN (λσ' H'=>∃(j:Nat) (ab:List Rws) (ks':List Nat) (ar:Option V),σ'=[some (.ref r),some (.int D),some (.int (runF b x D).at_),some (.ref el),some (.int d),some (.ref pT),some (.ref pS),some (.ref q),some (.int (runF b x' j).at_),ar,none] /\
    RaS P w tb z CP CS H H' r dx v b x x' pt ps so dxs pr pn pw el tab ab N ks kvs pT pS q D j j ks'/\(∀l,l<j->(runF b x' l).at_<x'.length)/\(∀l,D<=l->l<j->¬GoAt b x x' N e d l))
    (λσ _=>match σ[8]? with|some (some (V.int i))=>x'.length-i.toNat|_=>0) ⟨D,tab,ks.take (D+1),none,by rw[c9];rfl,dc,dd,λl h1 h2=>by omega⟩ ?_ ?_
   .rintro σ' aH ⟨j,ab,ks',ar,rfl,W,as,aI⟩;have af:=zaX (x:=x') aj ai j;have df:=af.le;have b8:=af.dl;have dg:=af.sl;have b9:=zd0 as;refine⟨_,J,_,J,r,CP,dx,_,_,J,W.core.ins,G.cl,G.nX,zbv v x' pt ps so pw,x',J,by omega,_,_,J,J,_,J,?_⟩;refine ite2 (λg=>?_) (λg=>?_)
    .have g:(runF b x' j).at_<x'.length:=by have:=of_decide_eq_true g;omega
     obtain⟨a3,dh,aJ⟩:=W.ns.st j (Nat.le_refl _);have ca:atI (ks'.map λk:Nat=>V.int (k:Int)) (-1)=some (.int (a3:Int)):=zeN (m:=j) (by rw[List.length_map,W.ns.len]) (by rw[List.getD_eq_getElem?_getD,List.getElem?_map,dh];rfl);refine⟨_,J,r,dx,_,J,W.core.ins,zbf (by simp),_,J,_,J,_,J,1,J,pS,_,-1,_,J,J,SqL.of W.hS,ca,r,dx,v,x',pt,ps,so,pw,el,ks,kvs,(runF b x' j).at_,a3,J,W.core.ins,W.core.stands,W.core.eld,λu di=>?_,λbp cb=>?_⟩
     .obtain⟨n,h1,h2,aG,bo⟩:=aY.all _ _ di;exact⟨n,ks[n],aG,by rw[List.getElem?_eq_getElem (by omega)]⟩
     .refine⟨_,J,?_⟩;cases bp with
      |true=>
       refine iteF (L _ _ ?_);obtain⟨n,h1,h2⟩:=cb.mp rfl;obtain⟨dj,g1,g2,a4,ah⟩:=aY.all _ _ h1;injection a4 with a4;have ak:n=dj:=by omega
       subst ak;injection ah with ah;refine⟨j,n,ab,ks',ar,J,W,as,by omega,g2,ah,h1,.inr ?_,aI⟩;obtain⟨cc,ax,bq⟩:=B.st n (by omega);rw[h2] at ax;injection ax with ax;subst ax;obtain⟨more,al,_⟩:=W.ext;rw[al] at aJ;exact aJ.inj (bq.mono more)
      |false=>
       have dk:¬GoAt b x x' N e d j:=λ⟨n,q1,au,dl,br⟩=>by
        have a5:=aY.has n (by omega) au;rw[←dl] at a5;obtain⟨cc,ax,bq⟩:=B.st n q1;obtain⟨more,al,_⟩:=W.ext;have br:(runF b x' j).ds.map (·.2)=(runF b x n).ds.map (·.2):=br;rw[br] at aJ;have ak:a3=cc:=Stands.uniq W.sd.nod aJ (by rw[al];exact bq.mono more);exact absurd (cb.mpr ⟨n,a5,by rw[ax,ak]⟩) (by decide)
       refine iteT ?_;show (tSeq _ _) _ _ _;refine zbC λe0 dm _ _ _=>zaj λcd aK=>?_;refine⟨_,J,r,CP,dx,_,_,J,W.core.ins,G.cl,G.nB,ziT v x' pt ps so pw,_,J,r,CP,dx,_,_,J,W.core.ins,G.cl,G.nX,zbv v x' pt ps so pw,_,J,_,J,?_⟩;refine⟨z,v,b,q,(runF b x' j).ds,x',(runF b x' j).at_,J,W.bag,de,W.core.rb,B.ok,W.ds,af.bk,g,by omega,by omega,W.lam,λp bs av ce cf cg ch=>aK _ _ (zaj λcd aK=>?_)⟩;obtain⟨M,a6,ay⟩:=W.new;obtain⟨bt,U,aL⟩:=W.read bn g av ce cf cg ch a6 ay;have dn:M.length=(runF b x' j).ss.length:=by have:=ay.length;simpa using this
       refine⟨_,J,.inl ⟨J,_,SqL.of bt⟩,_,J,pT,M,_,J,J,bt,by omega,aK _ _ (zaj λcd aK=>?_)⟩;generalize upd bs pT (.lst (M++[.ref p]))=aM at U aL;clear cg ch cf av ce a6 bt ay W;have ci:=zfE B.ok af.bk g;rw[←zbX g] at ci;obtain⟨more,al,dp⟩:=U.ext;have e1:=(zaX (x:=x') aj ai (j+1)).dl;have e2:=(zaX (x:=x') aj ai (j+1)).le;have dq:ab.length<1000000:=by rw[al,List.length_append];omega
       refine⟨_,J,.inl ⟨J,_,SqL.of U.hS⟩,?_⟩;refine⟨_,J,r,dx,_,J,U.core.ins,zbf (by simp),_,J,1,J,pS,_,-1,_,J,J,SqL.of U.hS,ca,_,J,_,J,?_⟩;refine⟨z,r,dx,v,b,x',x',pt,ps,so,dxs,pr,pn,pw,p,q,ab,(runF b x' j).at_,a3,(runF b x' j).ds,(runF b x' (j+1)).ds,zbj b x' j,J,U.core.ins,aL,U.ds,U.bag,U.sd,aJ,ci,by omega,dq,λaN dr I dt du aW O=>?_⟩;obtain⟨aO,cj⟩:=U.behind bn dt du aW O;obtain⟨dv,aP,_,bu⟩:=U.sd.ex;have ck:=aW _ _ (λc=>c.elim (zao aL aP (by intro c;cases c)) (zao aL bu (by intro c;cases c))) aL;have cm:upd I pS (.lst ((ks'++[aN]).map λk:Nat=>V.int (k:Int))) p=some (.tup (stV (zbj b x' j))):=by rw[zah (zao ck aO (by intro c;cases c))];exact ck
       have cn:=U.ns.len;have dw:(ks'.map λk:Nat=>V.int (k:Int))++[V.int (aN:Int)]=(ks'++[aN]).map λk:Nat=>V.int (k:Int):=by rw[List.map_append];rfl
       refine⟨pS,_,_,J,J,aO,by rw[List.length_map];omega,?_⟩;rw[dw];refine aK _ _ ?_;generalize upd I pS (.lst ((ks'++[aN]).map λk:Nat=>V.int (k:Int)))=a7 at cj cm;obtain⟨co,p2,p3,p4,p5,e3⟩:=zaM (x:=x') aj af.bk ai g;have dy:((runF b x' j).at_:Int)+(zbj b x' j).2.1=((runF b x' (j+1)).at_:Int):=by
        have dz:∀(a:Nat) (k:Int),1<=k->((a+k.toNat:Nat):Int)=(a:Int)+k:=λa k e4=>by omega
        rw[zdf g];exact(dz _ _ co).symm
       refine⟨_,J,_,J,p,_,1,_,J,J,SqT.of cm,zal (j:=1) J,_,_,J,J,?_⟩;dsimp only;rw[dy];refine dm _ _ ⟨⟨j+1,dr,ks'++[aN],_,J,cj,λl aE=>?_,λl h1 h2=>?_⟩,?_⟩
       .by_cases au:l=j
        .rw[au];exact g
        .exact as l (by omega)
       .by_cases au:l=j
        .rw[au];exact dk
        .exact aI l h1 (by omega)
       .show x'.length-((runF b x' (j+1)).at_:Int).toNat<x'.length-((runF b x' j).at_:Int).toNat;have ak:1<=(zbj b x' j).2.1:=co;omega
    .have e5:(runF b x' j).at_=x'.length:=by
      have:¬(runF b x' j).at_<x'.length:=λq=>g (decide_eq_true (by omega));omega
     have e6:=B.run.at_;have dA:=aY.has N (by omega) (by omega);refine iteF (L _ _ ⟨j,N,ab,ks',ar,J,W,as,Nat.le_refl _,by omega,by omega,?_,.inl J,aI⟩);rw[show ((runF b x' j).at_:Int)=((runF b x N).at_:Int)+d by omega];exact dA
   .rintro σ b7 e7 e8 aD ⟨a5,ak,dB,dC,aP,dD,bv,dE,dF,az,dG,dH,dI,dJ,dK,dL,bo,dM,dN,dO,dP,aV,dQ,h⟩;refine⟨a5,ak,dB,dC,aP,dD,bv,dE,dF,az,dG,dH,dI,dJ,dK,dL,bo,dM,dN,dO,dP,aV,dQ,?_⟩;cases aV with
    |false=>exact aD _ _ h
    |true=>
     obtain⟨bw,g1,cp,aQ,cq,g2,a4,ah,cr,aT,bx,aU,cs,dR,cu,dS,dT,dU,dV,dW,dX,dY,dZ,d0,d1,d2,d3,d4,d5,d6,d7,d8,d9,ea,eb,ec,ed,a8,ee,bz,ef,eg,eh⟩:=h;refine⟨bw,g1,cp,aQ,cq,g2,a4,ah,cr,aT,bx,aU,cs,dR,cu,dS,dT,dU,dV,dW,dX,dY,dZ,d0,d1,d2,d3,d4,d5,d6,d7,d8,d9,ea,eb,ec,ed,a8,ee,bz,ef,eg,λbp bA=>?_⟩;obtain⟨c,ei,h⟩:=eh bp bA;exact⟨c,ei,aD _ _ h⟩
  case g2=>
   rintro σ' aH ⟨j,n,ab,ks',ar,rfl,W,as,cv,cw,bB,ej,cx,aI⟩;have af:=zaX (x:=x') aj ai j;have df:=af.le;have dg:=af.sl;have b9:=zd0 as;obtain⟨ek,cy,em⟩:=zj2 B.ok B.run cv as bB (c2 _ _ cw bB) cx c1;have bA:DGet aH el (.int ((runF b x' j).at_:Int)) (some (.int (n:Int))):=by rw[←ej];exact DGet.k (k:=.inl ((runF b x' j).at_:Int)) W.core.eld
   refine zaj λap L=>?_;refine⟨_,J,_,J,el,_,J,bA,L _ _ (zaj λap L=>?_)⟩;obtain⟨Z,en,cz⟩:=W.core.told;have e9:Z.length=N:=by have:=cz.length;rw[List.length_map,bl] at this;exact this
   obtain⟨M,a6,ay⟩:=W.new;have dn:M.length=j:=by have:=ay.length;rw[List.length_map,b9] at this;exact this
   refine⟨_,J,_,J,r,CP,dx,_,_,J,W.core.ins,G.cl,G.nT,zcD v x' pt ps so pw,_,J,_,J,pt,Z,J,SqL.of en,λpl eo=>?_⟩;rw[zgU Z (by omega:n<=Z.length)];have av:=Same.new (o:=.lst (Z.drop n)) eo;have a9:upd aH pl (.lst (Z.drop n)) pl=some (.lst (Z.drop n)):=zab;generalize upd aH pl (.lst (Z.drop n))=bs at av a9;have cA:Reps z bs (Z.drop n) (((runF b x N).ss.drop n).map stD):=by
    rw[List.map_drop];exact(cz.mono av.x).drop n
   refine⟨pl,J,⟨_,SqL.of a9⟩,λcB cC=>?_⟩;have cD:pl≠cB:=zad a9 cC;have b8:(Z.drop n).length=((runF b x N).ss.drop n).length:=by have:=cA.length;simpa using this
   refine zbF (z:=z) (λ_=>true) (λi=>stD (mvS d (((runF b x N).ss.drop n).getD i st0))) (λσ=>∃u,σ=[u,some (.int d)]) ⟨none,J⟩ cC (by rw[List.length_drop];omega) (za7 (xs:=Z.drop n) (by rw[zah cD];exact a9) cD) (λi=>zkw _) (λi σ aM fa fb hi ⟨bw,hw⟩ ba ep _=>?_) (λσ aM vs ba eq bC=>?_)
   .subst hw;obtain⟨er,ak,fc,et,eu⟩:=zcA ((zcB (t:=i) cA (by omega)).mono ba.x);rw[ak];dsimp only[tYes,gName];rw[if_pos rfl];refine⟨_,J,_,J,er,d,((runF b x N).ss.drop n).getD i st0,J,et,λpm I aR nm ev=>?_⟩;exact ep rfl _ (.ref pm) I ⟨_,J⟩ aR (zeP ev (((W.bag.same av).same ba).ne nm) eu)
   .rw[List.filter_eq_self.mpr (λ_ _=>rfl),b8,zds (λs=>stD (mvS d s)) ((runF b x N).ss.drop n)] at bC;have bD:=av.trans ba;have fe:vs.length=N-n:=by
     have:=bC.length;rw[List.length_map,List.length_drop,bl] at this;exact this
    refine⟨pT,cB,M,vs,J,J,bD _ _ a6,eq,by omega,λp2 cE=>?_⟩;have aR:=Same.new (o:=.lst (M++vs)) cE;have O:=bD.trans aR;have bE:upd aM p2 (.lst (M++vs)) p2=some (.lst (M++vs)):=zab;have cF:Reps z (upd aM p2 (.lst (M++vs))) (M++vs) ((runF b x' (j+(N-n))).ss.map stD):=by
     rw[cy,List.map_append];refine Reps.append (ay.mono O.x) ?_;rw[List.map_map];exact bC.mono aR.x
    have aa:=bD.free cE;generalize upd aM p2 (.lst (M++vs))=I at aR O bE cF;refine⟨_,J,r,CP,dx,_,J,O _ _ W.core.ins,G.cl,G.nT,by show (6:Nat)<1000;decide,?_⟩;rw[zlf];have ac:=O _ _ W.core.ins;have bb:KeepE (λa=>a=r) I (upd I r (.ins CP dx (pgF v x' p2 ps so pw))):=zbb;have bF:NoTup (λa=>a=r) I:=za1 ac (by intro xs c;cases c);have ew:upd I r (.ins CP dx (pgF v x' p2 ps so pw)) p2=some (.lst (M++vs)):=by rw[zah (zao bE ac (by intro c;cases c))];exact bE
    have ey:=Reps.keep bb bF cF (zaO _);have bG:RaC z CP I r dx v b x x' pt ps so pw el N ks kvs:=W.core.keep (S:=λ_=>False) (λa o _ e=>O a o e) (λ_ _ h=>h.elim) id id id id;have ez:upd I r (.ins CP dx (pgF v x' p2 ps so pw)) ps=some (.lst (ks.map λk:Nat=>V.int (k:Int))):=by rw[zah (zao bG.stands ac (by intro c;cases c))];exact bG.stands
    have aO:=O _ _ W.hS;have eA:upd I r (.ins CP dx (pgF v x' p2 ps so pw)) pS=some (.lst (ks'.map λk:Nat=>V.int (k:Int))):=by rw[zah (zao aO ac (by intro c;cases c))];exact aO
    have eB:=Rep.keep bb bF bG.rb (.tup (zbe _));have bH:=W.sd.same O;obtain⟨dv,aP,_,bu⟩:=id bH.ex;have cG:=bH.keep bb bF (zao bH.ins ac zli) (zao aP ac (by intro c;cases c)) (zao bu ac (by intro c;cases c));have bI:KeepE (λa=>a=r∨a=pr∨a=pn∨a=tb) H (upd I r (.ins CP dx (pgF v x' p2 ps so pw))):=λa o ag e=>by
     rw[zah (λc=>ag (.inl c))];exact O a o (W.keep a o (λc=>ag (.inr c)) e)
    have cH:Bag z (upd I r (.ins CP dx (pgF v x' p2 ps so pw))):=by
     obtain⟨c,d',aS⟩:=W.bag.same O;exact⟨c,d',by rw[zah (zao aS ac (by intro c;cases c))];exact aS⟩
    have bJ:LamTb tb (upd I r (.ins CP dx (pgF v x' p2 ps so pw))):=by
     obtain⟨eC,bK⟩:=(W.lam.same O).tbl;refine zcq (W.lam.same O) bb (zao bK ac (by intro c;cases c)) (λa ag c q' e=>?_);rw[show a=r from ag,ac] at e;cases e
    have bL:upd I r (.ins CP dx (pgF v x' p2 ps so pw)) r=some (.ins CP dx (pgF v x' p2 ps so pw)):=zab;refine L _ _ (zaj λap L=>?_);generalize upd I r (.ins CP dx (pgF v x' p2 ps so pw))=a7 at *;refine⟨_,J,_,J,r,CP,dx,_,_,J,bL,G.cl,G.nS,zcS v x' p2 ps so pw,_,J,_,_,J,J,_,J,ps,_,J,SqL.of ez,λbc eD=>?_⟩;have eE:cutV (ks.map λk:Nat=>V.int (k:Int)) (some ((n:Int)+1)) none=(ks.drop (n+1)).map λk:Nat=>V.int (k:Int):=by
     have:=zgU (ks.map λk:Nat=>V.int (k:Int)) (k:=n+1) (by rw[List.length_map];omega);rw[List.map_drop];exact this
    rw[eE];have bd:=Same.new (o:=.lst ((ks.drop (n+1)).map λk:Nat=>V.int (k:Int))) eD;have cI:upd a7 bc (.lst ((ks.drop (n+1)).map λk:Nat=>V.int (k:Int))) bc=some (.lst ((ks.drop (n+1)).map λk:Nat=>V.int (k:Int))):=zab;generalize upd a7 bc (.lst ((ks.drop (n+1)).map λk:Nat=>V.int (k:Int)))=cJ at bd cI;have cn:=W.ns.len;refine⟨pS,bc,_,_,J,J,bd _ _ eA,cI,by rw[List.length_map,List.length_map,List.length_drop];omega,λp3 cK=>?_⟩;have eF:(ks'.map λk:Nat=>V.int (k:Int))++((ks.drop (n+1)).map λk:Nat=>V.int (k:Int))=(ks'++ks.drop (n+1)).map λk:Nat=>V.int (k:Int):=by rw[List.map_append]
    rw[eF];have ad:=bd.trans (Same.new (o:=.lst ((ks'++ks.drop (n+1)).map λk:Nat=>V.int (k:Int))) cK);have bM:upd cJ p3 (.lst ((ks'++ks.drop (n+1)).map λk:Nat=>V.int (k:Int))) p3=some (.lst ((ks'++ks.drop (n+1)).map λk:Nat=>V.int (k:Int))):=zab;have R:=bd.free cK;generalize upd cJ p3 (.lst ((ks'++ks.drop (n+1)).map λk:Nat=>V.int (k:Int)))=bN at ad bM;have ae:=ad _ _ bL;refine⟨_,J,r,CP,dx,_,J,ae,G.cl,G.nS,by show (6:Nat)<1000;decide,?_⟩;rw[ziU];have be:KeepE (λa=>a=r) bN (upd bN r (.ins CP dx (pgF v x' p2 p3 so pw))):=zbb;have bO:NoTup (λa=>a=r) bN:=za1 ae (by intro xs c;cases c);have cL:=ad _ _ ew;have bP:=cG.same ad;obtain⟨ff,a8,_,bz⟩:=id cG.ex;obtain⟨fg,bv,_,eG⟩:=id bP.ex;obtain⟨⟨bw,cp,aQ⟩,⟨cq,cr,bx⟩,cs,cu⟩:=B.nes;obtain⟨fh,h1,_,aG⟩:=id B.sd.ex;obtain⟨eC,cM⟩:=bh.tbl;have eH:aH pw=some (.lst bY):=W.keep _ _ (λc=>c.elim aQ λc=>c.elim (zao am aG (by intro c;cases c)) (zao am cM (by intro c;cases c))) am;have eI:a7 pw=some (.lst bY):=bI _ _ (λc=>c.elim (zao am B.ins (by intro c;cases c)) λc=>c.elim aQ λc=>c.elim (zao am aG (by intro c;cases c)) (zao am cM (by intro c;cases c))) am;obtain⟨fi,cN,_,eJ⟩:=id W.sd.ex;obtain⟨more,al,dp⟩:=W.ext;have eK:=W.jK;refine L _ _ ⟨_,J,c6 _ _ (k j n p2 p3 (ks'++ks.drop (n+1)) ab _ eK cv bB cw cx aI cy ⟨zab,Rep.keep be bO (eB.mono ad.x) (.tup (zbe _)),B.ok,ek,⟨M++vs,by rw[zah (zao cL ae (by intro c;cases c))];exact cL,Reps.keep be bO (ey.mono ad.x) (zaO _)⟩,by rw[zah (zao bM ae (by intro c;cases c))];exact bM,by rw[List.length_append,List.length_drop];omega,λl aE=>?_,bP.keep be bO (zao bP.ins ae zli) (zao bv ae (by intro c;cases c)) (zao eG ae (by intro c;cases c)),B.xl',⟨⟨(zad cN aa).symm,(zad a8 R).symm,aQ⟩,⟨W.bag.ne aa,cH.ne R,bx⟩,zad eH aa,zad eI R⟩⟩ ?_ (λa o ag e=>?_) ?_ ?_ ?_ ?_)⟩
    .by_cases au:l<=j
     .obtain⟨aF,g1,g2⟩:=W.ns.st l au;exact⟨aF,by rw[List.getElem?_append_left (by omega)];exact g1,g2⟩
     .obtain⟨m,rfl⟩:∃m,l=j+m:=⟨l-j,by omega⟩;obtain⟨aF,g1,g2⟩:=B.st (n+m) (by omega);refine⟨aF,?_,?_⟩
      .rw[List.getElem?_append_right (by omega),List.getElem?_drop,cn];rw[show n+1+(j+m-(j+1))=n+m by omega];exact g1
      .rw[al,show (runF b x' (j+m)).ds.map (·.2)=(runF b x (n+m)).ds.map (·.2) from em m (by omega) (by omega)];exact g2.mono more
    .rw[al,List.length_append];omega
    .rw[zah (λc=>ag (.inl c))];exact ad a o (bI a o ag e)
    .obtain⟨c,d',aS⟩:=cH.same ad;exact⟨c,d',by rw[zah (zao aS ae (by intro c;cases c))];exact aS⟩
    .obtain⟨fj,bK⟩:=(bJ.same ad).tbl;refine zcq (bJ.same ad) be (zao bK ae (by intro c;cases c)) (λa ag c q' e=>?_);rw[show a=r from ag,ae] at e;cases e
    .cases q':H p2 with
     |none=>rfl
     |some o=>
      exfalso;have bQ:=W.keep p2 o (λc=>?_) q'
      .rw[bQ] at aa;cases aa
      .rcases c with c|c|c
       .rw[c,cN] at aa;cases aa
       .rw[c,eJ] at aa;cases aa
       .obtain⟨eL,bR⟩:=W.lam.tbl;rw[c,bR] at aa;cases aa
    .cases q':H p3 with
     |none=>rfl
     |some o=>
      exfalso;have bQ:=bI p3 o (λc=>?_) q'
      .rw[bQ] at R;cases R
      .rcases c with c|c|c|c
       .rw[c,bL] at R;cases R
       .rw[c,a8] at R;cases R
       .rw[c,bz] at R;cases R
       .obtain⟨eL,bR⟩:=bJ.tbl;rw[c,bR] at R;cases R
theorem zd1(y:Str){k:Nat}(h:k<=y.length):(cutS y none (some (k:Int))).cps.toList=y.cps.toList.take k:=by
 have:=zco y 0 k;rw[List.drop_zero] at this;rw[←this];unfold cutS;rw[HT.sIx_none];have B:HT.sIx y.length 0 (some ((0:Nat):Int))=0:=by rw[HT.sIx_nat];omega
 have D:((0:Nat):Int)+(k:Int)=(k:Int):=by omega
 rw[B,D]
structure PutR(b:Bk)(x x':Str)(bg en:Nat)(t:Str)(N K M n:Nat)(d:Int):Prop where
 tx:x'.cps.toList=x.cps.toList.take bg++t.cps.toList++x.cps.toList.drop en
 dd:d=(t.length:Int)-((en:Int)-(bg:Int))
 kN:K<=N
 at_:(runF b x K).at_<=bg
 ak:(runF b x' K).at_=(runF b x K).at_
 sk:(runF b x' K).ss=(runF b x K).ss
 kM:K<=M
 nN:n<=N
 am:((runF b x' M).at_:Int)=(runF b x n).at_+d
 enn:(en:Int)<=((runF b x n).at_:Int)
 ss:(runF b x' (M+(N-n))).ss=(runF b x' M).ss++((runF b x N).ss.drop n).map (mvS d)
 sure:KeptS b x bg K
 hor:n=N∨SamePd (runF b x' M).ds (runF b x n).ds
 no:∀l,K<=l->l<M->¬GoAt b x x' N en d l
inductive spPut(P:Program)(w:World)(tb CP CS:Addr):List V->Hp->VK->XK->Prop where
 |mk {vs:List V} {H:Hp} {Q:VK} {E:XK} (z r dx:Addr) (v:V) (b:Bk) (x:Str) (pt ps so dxs pr pn pw:Addr) (tab:List Rws) (N:Nat) (ks:List Nat) (bg en:Nat) (t:Str)
  (c1:vs=[.ref r,.int bg,.int en,.str t]) (c2:PgS P w z CP CS H r dx v b x pt ps so dxs pr pn pw tab N ks) (c3:Bag z H) (c4:LamTb tb H) (c5:bg<=en) (c6:en<=x.length) (c7:x.length-(en-bg)+t.length<=2000) (c8:tab.length+2000<1000000) (c9:∃wl,H pw=some (.lst wl))
  (c10:∀p x' K M n d pt' ps' ks' tab' H',PutR b x x' bg en t N K M n d->PgS P w z CP CS H' r dx v b x' pt' ps' so dxs pr pn pw tab' (M+(N-n)) ks'->tab'.length<=tab.length+2000->KeepE (λa=>a=r∨a=pr∨a=pn∨a=tb) H H'->Bag z H'->LamTb tb H'->H p=none->H' p=some (.tup [.int (runF b x K).at_,.int (runF b x' M).at_])->H pt'=none->H ps'=none->Q (.ref p) H'):spPut P w tb CP CS vs H Q E
theorem scPut:zav ["self","begin","end","text","kept","first","longer","elder","last"] ["self","begin","end","text"] (zag mPut):=⟨J,J,J,by decide +kernel,J,by decide +kernel,by decide +kernel⟩
theorem zlZ{f aj ak al am tb CP CS:Addr}{fd ao ap aq ar:FuncData}(F:Fun K "put" "Page.put" mPut f fd)(T:TxtB mg)(L:TxtP K mg CP)(n1:Meth K CP "count_sure" aj)(aH:Binds K ao ["self","begin"] [])(aI:FnOk P w K mg base CX0 6 aj ao ["self","begin"] (zdy P w tb CP CS))(n2:Meth K CP "beginning" ak)(aJ:Binds K ap ["self","number"] [])(aK:FnOk P w K mg base CX0 1 ak ap ["self","number"] (zb6 P w CP CS))(n4:Meth K CP "numbers_by_beginnings" al)(aL:Binds K aq ["self","end","longer"] [])(aM:FnOk P w K mg base CX0 2 al aq ["self","end","longer"] (zcT P w CP CS))(n5:Meth K CP "read_anew" am)(aN:Binds K ar ["self","kept","first","elder","longer"] [])(aO:FnOk P w K mg base CX0 5 am ar ["self","kept","first","elder","longer"] (zgV P w tb CP CS)):FnOk P w K mg base CX0 7 f fd ["self","begin","end","text"] (spPut P w tb CP CS):=by
 refine F.ok scPut (λvs H Q E h=>?_) (λcdv A outer s H vs Q E Y h=>?_)
 .obtain⟨z,r,dx,v,b,x,pt,ps,so,dxs,pr,pn,pw,tab,N,ks,D,I,t,rfl,_⟩:=h;rfl
 .obtain⟨z,r,dx,v,b,x,pt,ps,so,dxs,pr,pn,pw,tab,N,ks,D,I,t,rfl,Z,aP,ab,bz,as,bA,aQ,⟨aR,au⟩,k⟩:=h;have U:=scPut.nd;have aS:Room 1 _:=Y.mono (by decide);have aT:Room 2 _:=Y.mono (by decide);have aU:Room 5 _:=Y.mono (by decide);refine⟨_,zac (zan (i:=4) U J (Or.inl J) (zaZ (pv 0) L.cl n1 aI Y aH .nil pass0 (zaa (pv 1) zae)))
   (zac (zan (i:=5) U J (Or.inl J) (zaZ (pv 0) L.cl n2 aK aS aJ .nil pass0 (zaa (pv 4) zae)))
   (zac (zan (i:=6) U J (Or.inl J) (zax zb7 (zar zap (by rfl) T.len b_len (zaa (pv 3) zae)) (zax zb7 (pv 2) (pv 1))))
   (zac (zan (i:=7) U J (Or.inl J) (zaZ (pv 0) L.cl n4 aM aT aL .nil pass0 (zaa (pv 2) (zaa (pv 6) zae))))
   (zac (zbB (pv 0) (zax zaS (zax zaS (zaA zbp (zaG (pv 0) J) zaL (zaD (pv 1))) (pv 3)) (zaA zbp (zaG (pv 0) J) (zaD (pv 2)) zaL)) J)
   (zac (zan (i:=8) U J (Or.inl J) (zaZ (pv 0) L.cl n5 aO aU aN .nil pass0 (zaa (pv 4) (zaa (pv 5) (zaa (pv 7) (zaa (pv 6) zae))))))
   (zai (zaw (zaV (zaa (pv 5) (zaa (pv 8) zae)))))))))),?_⟩
  dsimp only[cxOf,Cx.nox,Cx.wish];have bB:(100000:Nat)<=sizeLine:=by rw[sizeLine_eq];decide
  have aV:=Z.xl;refine zbC λbC _ aW _ _=>zaj λV J0=>?_;refine⟨_,J,r,dx,_,J,Z.ins,zbf (by simp),_,J,z,r,dx,v,b,x,pt,ps,so,dxs,pr,pn,pw,tab,N,ks,D,J,Z,aP,ab,by omega,λR H1 ac aX av aa aY aZ=>J0 _ _ (zaj λV J0=>?_)⟩;have W:=Z.butX aa ab;refine⟨_,J,r,dx,_,J,W.ins,zbf (by simp),_,J,z,r,dx,v,b,x,pt,ps,so,dxs,pr,pn,pw,tab,N,ks,R,J,W,ac,J0 _ _ (zaj λV J0=>?_)⟩;refine⟨_,J,t,J,by omega,_,J,_,J,_,_,J,J,_,_,J,J,J0 _ _ (zaj λV J0=>?_)⟩;refine⟨_,J,r,dx,_,J,W.ins,zbf (by simp),_,J,_,J,z,r,dx,v,b,x,pt,ps,so,dxs,pr,pn,pw,tab,N,ks,I,(t.length:Int)-((I:Int)-(D:Int)),J,W,λel kvs H2 S bD aw a0=>J0 _ _ (zaj λV J0=>?_)⟩;have B:=W.same S;have a1:=aY.same S;have ad:=aZ.same S;have a2:(cutS x none (some (D:Int))).length=D:=by rw[←zak,zd1 x (by omega),List.length_take,zak];omega
  have a3:(cutS x (some (I:Int)) none).length=x.length-I:=by rw[←zak,zbO x as,List.length_drop,zak]
  have a4:(cutS x none (some (D:Int))++t).length=D+t.length:=by rw[zeO,a2]
  refine⟨_,J,r,CP,dx,_,_,J,B.ins,L.cl,L.nX,zbv v x pt ps so pw,_,J,_,J,x,J,by omega,_,J,_,_,J,J,by omega,_,J,r,CP,dx,_,_,J,B.ins,L.cl,L.nX,zbv v x pt ps so pw,_,J,_,J,x,J,by omega,_,_,J,J,by omega,_,J,r,CP,dx,_,J,B.ins,L.cl,L.nX,by show (6:Nat)<1000;decide,?_⟩;rw[zjV];obtain⟨x',ex'⟩:∃x',x'=cutS x none (some (D:Int))++t++cutS x (some (I:Int)) none:=⟨_,J⟩;rw[←ex'];have ae:x'.cps.toList=x.cps.toList.take D++t.cps.toList++x.cps.toList.drop I:=by rw[ex',zcQ,zcQ,zd1 x (by omega),zbO x as]
  have bE:x'.length=D+t.length+(x.length-I):=by rw[ex',zeO,a4,a3]
  have a5:(x.cps.toList.take D).length=D:=by rw[List.length_take,zak];omega
  have M:KeepE (λa=>a=r) H2 (upd H2 r (.ins CP dx (pgF v x' pt ps so pw))):=zbb;have af:NoTup (λa=>a=r) H2:=za1 B.ins (by intro xs c;cases c);obtain⟨tv,ax,a6⟩:=B.told;obtain⟨bF,a7,_,a8⟩:=id B.sd.ex;have ay:PgM P w z CP CS (upd H2 r (.ins CP dx (pgF v x' pt ps so pw))) r dx v b x x' pt ps so dxs pr pn pw tab N ks:=⟨zab,Rep.keep M af B.rb (.tup (zbe _)),B.ok,B.run,⟨tv,M _ _ (zao ax B.ins (by intro c;cases c)) ax,Reps.keep M af a6 (zaO _)⟩,M _ _ (zao B.stands B.ins (by intro c;cases c)) B.stands,B.kl,B.st,B.sd.keep M af (zao B.sd.ins B.ins zli) (zao a7 B.ins (by intro c;cases c)) (zao a8 B.ins (by intro c;cases c)),aV,by omega,B.nes⟩;have a9:Bag z (upd H2 r (.ins CP dx (pgF v x' pt ps so pw))):=by
   obtain⟨c,d',az⟩:=a1;exact⟨c,d',M _ _ (zao az B.ins (by intro c;cases c)) az⟩
  have ba:LamTb tb (upd H2 r (.ins CP dx (pgF v x' pt ps so pw))):=by
   obtain⟨bb,bc⟩:=ad.tbl;refine zcq ad M (zao bc B.ins (by intro c;cases c)) (λa O c q' e=>?_);rw[show a=r from O,B.ins] at e;cases e
  have bd:=M _ _ (zao aw B.ins (by intro c;cases c)) aw;obtain⟨bb,be⟩:=ab.tbl;have aA:=S _ _ (aa _ _ (zao au be (by intro c;cases c)) au);have bf:=M _ _ (zao aA B.ins (by intro c;cases c)) aA;have aB:KeepE (λa=>a=r∨a=pr∨a=pn∨a=tb) H (upd H2 r (.ins CP dx (pgF v x' pt ps so pw))):=λa o O e=>by
   rw[zah (λc=>O (.inl c))];exact S a o (aa a o (λc=>O (.inr (.inr (.inr c)))) e)
  have bg:upd H2 r (.ins CP dx (pgF v x' pt ps so pw)) r=some (.ins CP dx (pgF v x' pt ps so pw)):=zab;have aC:∀ {a:Addr},upd H2 r (.ins CP dx (pgF v x' pt ps so pw)) a=none->H a=none:=λ{a} n=>by
   cases q:H a with
   |none=>rfl
   |some o=>
    exfalso;by_cases c:a=r
    .rw[c,bg] at n;cases n
    .rw[zah c] at n;by_cases aD:a=tb
     .obtain⟨bG,bh⟩:=ad.tbl;rw[aD,bh] at n;cases n
     .rw[S a o (aa a o aD q)] at n;cases n
  obtain⟨y,ag⟩:∃y:Str,y.cps.toList=x.cps.toList.take D:=⟨⟨(x.cps.toList.take D).toArray⟩,by simp⟩;have ah:=ziZ (b:=b) (x:=x) (x':=x') (y:=y) (more:=x.cps.toList.drop D) (more':=t.cps.toList++x.cps.toList.drop I) (K:=R) (by rw[ag,List.take_append_drop]) (by rw[ag,ae,List.append_assoc]) (av y ag).all;refine J0 _ _ (zaj λV J0=>?_);generalize upd H2 r (.ins CP dx (pgF v x' pt ps so pw))=bH at *;refine⟨_,J,r,dx,_,J,ay.ins,zbf (by simp),_,J,_,J,_,J,_,J,z,r,dx,v,b,x,x',pt,ps,so,dxs,pr,pn,pw,el,tab,N,ks,kvs,R,I,(t.length:Int)-((I:Int)-(D:Int)),J,ay,a9,ba,bd,a0,ac,ah,by omega,λa bI h1 h2=>?_,by omega,aQ,⟨aR,bf⟩,λbi n pt' ps' ks' bj bJ bk bl bm bn bo bp bq ai br aE bs aF bt bu=>J0 _ _ ?_⟩
  .have aG:(x.cps.toList.take D++t.cps.toList).length=D+t.length:=by rw[List.length_append,a5,zak]
   rw[ae,List.drop_append,aG,List.drop_eq_nil_of_le (by rw[aG];omega),List.nil_append,List.drop_drop];congr 1;omega
  .refine⟨_,J,_,J,by show (2:Nat)<=_;omega,λp G=>aW _ _ (k p x' R bi n _ pt' ps' ks' bj _ ⟨ae,J,ac,aX,(ah R (Nat.le_refl _)).1,(ah R (Nat.le_refl _)).2.2,bk,bl,bm,bn,bq,av,bo,bp⟩ (ai.same (Same.new G)) br (λa o O e=>Same.new G _ _ (aE a o O (aB a o O e))) (bs.same (Same.new G)) (aF.same (Same.new G)) ?_ zab ?_ ?_)⟩
   rotate_left
   .exact aC bt
   .exact aC bu
   cases q:H p with
   |none=>rfl
   |some o=>
    exfalso;obtain⟨bK,bv,_,bw⟩:=id ai.sd.ex;obtain⟨bL,bx⟩:=aF.tbl;have h1:=aE p o (λc=>?_) (aB p o (λc=>?_) q)
    .rw[h1] at G;cases G
    all_goals
     rcases c with c|c|c|c
     .rw[c,ai.ins] at G;cases G
     .rw[c,bv] at G;cases G
     .rw[c,bw] at G;cases G
     .rw[c,bx] at G;cases G
theorem zl0:bootBuiltins "sum"=some (.builtin "sum"):=by decide +kernel
theorem ndStp:(["step"]:List Str).Nodup:=by decide +kernel
theorem zi3(k:Nat):∀S T:List LDr,Cmps (k+1) (S.map pdD) (T.map pdD)
 |[],_=>.nilL _ _
 |_::_,[]=>.nilR _ _
 |a::s,b::t=>.cons (.tup (.cons (.int _ _ _) (.cons (.str _ _ _) (.nilL _ _)))) (zi3 k s t)
theorem zkA:∀ {S T:List LDr},S.map pdD=T.map pdD->SamePd S T
 |[],[],_=>rfl
 |[],_::_,h=>by simp at h
 |_::_,[],h=>by simp at h
 |a::s,b::t,h=>by
  rw[List.map_cons,List.map_cons] at h;injection h with h1 h2;have i:=zkA h2;unfold SamePd at i ⊢;rw[List.map_cons,List.map_cons,i];unfold pdD at h1;injection h1 with h1;injection h1 with h1 B;injection h1 with h1;injection B with B _;injection B with B;rw[Prod.ext h1 B]
theorem eq_pds{S T:List LDr}:eqDs (S.map pdD) (T.map pdD)=true↔SamePd S T:=⟨λh=>zkA (eqDs_eq h),λh=>by rw[SamePd.pd h];exact eqDs_refl _⟩
noncomputable def AtL(b:Bk)(x x':Str)(N N':Nat)(d:Int)(m:Int):Prop:=∃n B:Nat,n<=N/\B<=N'/\((runF b x' B).at_:Int)=m/\((runF b x n).at_:Int)+d=m/\SamePd (runF b x' B).ds (runF b x n).ds
structure AnewR(b:Bk)(x x':Str)(bg en:Nat)(t:Str)(N N':Nat)(K l:Nat)(d:Int):Prop where
 tx:x'.cps.toList=x.cps.toList.take bg++t.cps.toList++x.cps.toList.drop en
 dd:d=(t.length:Int)-((en:Int)-(bg:Int))
 run:RunN b x N
 run':RunN b x' N'
 le:l<=x'.length
 ge:bg+t.length<=l
 at_:l=x'.length∨AtL b x x' N N' d l
 no:∀m:Nat,bg+t.length<=m->m<l->¬AtL b x x' N N' d m
inductive ze5:List V->Hp->VK->XK->Prop where
 |mk {vs:List V} {H:Hp} {Q:VK} {E:XK} (z:Addr) (v:V) (b:Bk) (x:Str) (bg en:Nat) (t:Str) (c1:vs=[v,.str x,.int bg,.int en,.str t]) (c2:Bag z H) (c3:Rep z H v (bkD b)) (c4:BkOk b) (c5:x.length+t.length<=20000) (c6:bg<=en) (c7:en<=x.length)
  (c8:∀p q x' y N N' K l d H',Same H H'->H p=none->H q=none->H' p=some (.lst [.str x',.ref q])->y.cps.toList=x.cps.toList.take bg->SureN b y K->H' q=some (.tup [.int (runF b y K).at_,.int (l:Nat)])->AnewR b x x' bg en t N N' K l d->Q (.ref p) H'):ze5 vs H Q E
theorem scLAnew:zav ["book","old","begin","end","put","text","first","elder","stands","more","last","place"] ["book","old","begin","end","put"] (zag lAnew):=⟨J,J,J,by decide +kernel,J,by decide +kernel,by decide +kernel⟩
theorem zj3{f ap aq:Addr}{fd aQ aR:FuncData}(F:Fun K "_law_anew" "_law_anew" lAnew f fd)(T:TxtB mg)(bi:Txt2 mg)(bj:mg "sum"=none)(bk:W.keepIn K (.ref ap)=true)(bl:Binds K aQ ["book","text"] [])(bm:mg "_law_sure"=some (.ref ap))(bn:FnOk P w K mg base CX0 2 ap aQ ["book","text"] zeQ)(aS:W.keepIn K (.ref aq)=true)(aT:Binds K aR ["book","text"] [])(aU:mg "_law_stands"=some (.ref aq))(aV:FnOk P w K mg base CX0 2 aq aR ["book","text"] zcU):FnOk P w K mg base CX0 6 f fd ["book","old","begin","end","put"] ze5:=by
 refine F.ok scLAnew (λvs H Q E h=>?_) (λcdv A outer s H vs Q E ae h=>?_)
 .obtain⟨z,v,b,x,B,O,t,rfl,_⟩:=h;rfl
 .obtain⟨z,v,b,x,B,O,t,rfl,ar,R,S,bX,bY,aW,k⟩:=h;have U:=scLAnew.nd;obtain⟨as,bZ,au,_⟩:=id S;have av:Room 2 _:=ae.mono (by decide);have af:(A.deeper (PyProof.Rows.envOfC (Str.ofString "_law_anew") (zag lAnew) s.heap.objs.size f cdv)).units+1<cLine:=by have:=ae.un;omega
  refine⟨_,zac (zan (i:=5) U J (Or.inl J) (zax zaS (zax zaS (zaA zbp (pv 1) zaL (zaD (pv 2))) (pv 4)) (zaA zbp (pv 1) (zaD (pv 3)) zaL)))
   (zac (zan (i:=6) U J (Or.inl J) (zar (zgA J) (by rfl) bj zl0 (zaa (za6 (N':=["step"]) (js:=[none]) J J (zbl (zag lAnew) (by decide +kernel)) trivial (zbc (zat bn av J bm bk bl .nil pass0 (zaa (pv 0) (zaa (zaA zbp (pv 1) zaL (zaD (pv 2))) zae)))) (λcl s H fp=>zaq (i:=0) ndStp J (Or.inl J)) (λcl s H fp=>zbh) (λcl s H fp=>zay zb1 (pv 0) zaf (λ_ _=>rfl))) zae)))
   (zac (zan (i:=7) U J (Or.inl J) (zat aV av J aU aS aT .nil pass0 (zaa (pv 0) (zaa (pv 1) zae))))
   (zac (zan (i:=8) U J (Or.inl J) (zat aV av J aU aS aT .nil pass0 (zaa (pv 0) (zaa (pv 5) zae))))
   (zac (zan (i:=9) U J (Or.inl J) (zax zb7 (zar zap (by rfl) T.len b_len (zaa (pv 4) zae)) (zax zb7 (pv 3) (pv 2))))
   (zac (zan (i:=10) U J (Or.inl J) (zar zap (by rfl) T.len b_len (zaa (pv 5) zae)))
   (zac (zcF PassesOwn.never J (zbc (zkn (zfu ae.hd (by rfl) bi.list zgu (by rfl) T.range (zaa (zax zaT (pv 2) (zar zap (by rfl) T.len b_len (zaa (pv 4) zae))) (zaa (zax zaT (zar zap (by rfl) T.len b_len (zaa (pv 5) zae)) zaf) zae))) (zbK zbd zaf) (λσ H Q b0 h bo=>by obtain⟨i,e,h⟩:=h;exact⟨i,e,bo _ _ h⟩))) (zaq (i:=11) U J (Or.inl J))
    (zai (za9 (PW.pt (zcE (zhC (zic af (pv 11) (pv 8))) (zcE (zhC (zic af (zax zb7 (pv 11) (pv 9)) (pv 7))) (zb9 (zau (zlK ae) (zeB af (pv 8) (pv 11) (λ_ _=>rfl)) (zeB af (pv 7) (zax zb7 (pv 11) (pv 9)) (λ_ _=>rfl)) (zaz _)))))) (zai (zan (i:=10) U J (Or.inl J) (pv 11))) zaC)))
   (zai (zaw (zaN (zaa (pv 5) (zaa (zaV (zaa (pv 6) (zaa (pv 10) zae))) zae))))))))))),?_⟩
  dsimp only[cxOf,Cx.nox,Cx.wish];have b1:=zaW;have b2:(100000:Nat)<=sizeLine:=by rw[sizeLine_eq];decide
  refine zbC λb3 _ bp _ _=>zaj λY J0=>?_;have aX:(cutS x none (some (B:Int))).length=B:=by rw[←zak,zd1 x (by omega),List.length_take,zak];omega
  have bq:(cutS x (some (O:Int)) none).length=x.length-O:=by rw[←zak,zbO x aW,List.length_drop,zak]
  have br:(cutS x none (some (B:Int))++t).length=B+t.length:=by rw[zeO,aX]
  refine⟨_,J,_,J,_,J,x,J,by omega,_,J,_,_,J,J,by omega,_,J,_,J,_,J,x,J,by omega,_,_,J,J,by omega,J0 _ _ (zaj λY J0=>?_)⟩;obtain⟨x',ex'⟩:∃x',x'=cutS x none (some (B:Int))++t++cutS x (some (O:Int)) none:=⟨_,J⟩;rw[←ex'];have bs:x'.cps.toList=x.cps.toList.take B++t.cps.toList++x.cps.toList.drop O:=by rw[ex',zcQ,zcQ,zd1 x (by omega),zbO x aW]
  have b4:x'.length=B+t.length+(x.length-O):=by rw[ex',zeO,br,bq]
  -- first
  have aY:=zd1 x (k:=B) (by omega);refine⟨_,J,_,J,_,J,_,J,x,J,by omega,z,v,b,cutS x none (some (B:Int)),J,ar,R,S,by omega,λaZ a0 D H1 bt b5 ag a1 ah=>?_⟩;generalize cutS x none (some (B:Int))=y at aY a1 ah aX;have a2:a0.length=(runF b y D).ss.length:=by have:=ah.length;simpa using this
  have b6:=(zaX (x:=y) au as D).sl;have b7:=(zaX (x:=y) au as D).le;refine⟨aZ,J,⟨_,SqL.of ag⟩,λpS a3=>?_⟩;have a4:aZ≠pS:=zad ag a3;refine zbE (λj=>some (V.int ((runF b y D).ss.getD j st0).2.1)) (λσ=>∃u,σ=[u]) ⟨none,J⟩ a3 (by omega) (za7 (xs:=a0) (by rw[zah a4];exact ag) a4) (λj σ bu b8 b9 ⟨bv,hw⟩ aw bw=>?_) (λσ H2 bx ai=>?_)
  .subst hw;obtain⟨bz,e,ca,bA,cb⟩:=zcA ((zcB (t:=j) ah (by omega)).mono aw.x);rw[e];dsimp only[tYes,gName];rw[if_pos rfl];exact⟨_,J,bz,_,1,_,J,J,SqT.of bA,zal (j:=1) J,bw _ _ ⟨_,J⟩ (Same.refl _)⟩
  rw[zbH,a2,zds (λs=>V.int s.2.1) (runF b y D).ss] at ai;have a5:(runF b y D).ss.map (λs=>V.int s.2.1)=((runF b y D).ss.map (·.2.1)).map V.int:=by rw[List.map_map];rfl
  rw[a5] at ai;have bB:((runF b y D).ss.map (·.2.1)).sum=((runF b y D).at_:Int):=by
   rw[zcy];exact(zeM (x:=y) (ds0:=[]) au as (λd bC=>nomatch bC) D).sum
  refine⟨pS,_,J,SqL.of ai,?_⟩;rw[bB];refine J0 _ _ (zaj λY J0=>?_);have ax:=bt.trans bx;have bD:=ar.same ax;have R2:=R.mono ax.x (z:=z);clear ai a5 ah ag a2
  -- elder,stands
  refine⟨_,J,_,J,z,v,b,x,J,bD,R2,S,by omega,λaj a6 N bu aw cc bE ay bF=>J0 _ _ (zaj λY J0=>?_)⟩;have az:=ax.trans aw;refine⟨_,J,_,J,z,v,b,x',J,ar.same az,R.mono az.x,S,by omega,λpt a7 N' ak aA cd bG aB KT=>J0 _ _ (zaj λY J0=>?_)⟩;have bH:=az.trans aA;have bI:=aA _ _ bE;have aC:=bF.same aA;refine⟨_,J,t,J,by omega,_,J,_,J,_,_,J,J,_,_,J,J,J0 _ _ (zaj λY J0=>?_)⟩;dsimp only;obtain⟨d,a8⟩:∃d:Int,d=(t.length:Int)-((O:Int)-(B:Int)):=⟨_,J⟩;rw[←a8];refine⟨_,J,x',J,by omega,J0 _ _ (zaj λY J0=>?_)⟩
  -- last
  have a9:∀m:Int,AtL b x x' N N' d m↔∃q q',valV a7 (.inl m)=some (.ref q)/\valV a6 (.inl (m-d))=some (.ref q')/\∃n I:Nat,n<=N/\I<=N'/\((runF b x' I).at_:Int)=m/\((runF b x n).at_:Int)+d=m/\Rep z ak (.ref q) (.tup ((runF b x' I).ds.map pdD))/\Rep z ak (.ref q') (.tup ((runF b x n).ds.map pdD))/\SamePd (runF b x' I).ds (runF b x n).ds:=λm=>by
   constructor
   .rintro⟨n,I,h1,h2,ab,al,ac⟩;obtain⟨q,L,aD⟩:=KT.has I (by omega);obtain⟨q',M,aE⟩:=aC.has n (by omega);rw[ab] at L;rw[show ((runF b x n).at_:Int)=m-d by omega] at M;exact⟨q,q',L,M,n,I,h1,h2,ab,al,aD,aE,ac⟩
   .rintro⟨q,q',_,_,n,I,h1,h2,ab,al,_,_,ac⟩;exact⟨n,I,h1,h2,ab,al,ac⟩
  refine⟨_,J,_,J,t,J,by omega,_,_,J,J,_,J,x',J,by omega,_,_,J,J,?_⟩;refine⟨((B+t.length:Nat):Int),((x'.length+1:Nat):Int),?_,⟨by omega,by omega,by omega,by omega⟩,by omega,λaF bJ=>?_⟩
  .congr 1
  obtain⟨G,bK⟩:∃G:Nat,G=(((x'.length+1:Nat):Int)-((B+t.length:Nat):Int)).toNat:=⟨_,J⟩;rw[←bK];have ce:B+t.length+G=x'.length+1:=by omega
  have bL:=Same.new (o:=.lst ((List.range G).map λk:Nat=>V.int (((B+t.length:Nat):Int)+(k:Int)))) bJ;refine⟨1,J,aF,_,J,J,SqL.of zab,λad bM=>?_⟩;have bN:=Same.new (o:=.lst ((List.range G).map λk:Nat=>V.int (((B+t.length:Nat):Int)+(k:Int))).reverse) bM;have Z:=bL.trans bN;have am:upd (upd ak aF (.lst ((List.range G).map λk:Nat=>V.int (((B+t.length:Nat):Int)+(k:Int))))) ad (.lst ((List.range G).map λk:Nat=>V.int (((B+t.length:Nat):Int)+(k:Int))).reverse) ad=some (.lst ((List.range G).map λk:Nat=>V.int (((B+t.length:Nat):Int)+(k:Int))).reverse):=zab;generalize upd (upd ak aF (.lst ((List.range G).map λk:Nat=>V.int (((B+t.length:Nat):Int)+(k:Int))))) ad (.lst ((List.range G).map λk:Nat=>V.int (((B+t.length:Nat):Int)+(k:Int))).reverse)=bO at Z am;have ba:=Z _ _ bG;have bb:=Z _ _ bI;have bc:∀(i:Nat) (u:V),((List.range G).map λk:Nat=>V.int (((B+t.length:Nat):Int)+(k:Int))).reverse[i]?=some u->i<G/\u=.int ((x'.length-i:Nat):Int):=λi u h=>by
   have hi:=(List.getElem?_eq_some_iff.mp h).1;rw[List.length_reverse,List.length_map,List.length_range] at hi;rw[List.getElem?_reverse (by rw[List.length_map,List.length_range];exact hi),List.getElem?_map,List.length_map,List.length_range,List.getElem?_range (by omega)] at h;injection h with h;refine⟨hi,?_⟩;rw[←h];show V.int (((B+t.length:Nat):Int)+((G-1-i:Nat):Int))=_;congr 1;omega
  have aG:(((List.range G).map λk:Nat=>V.int (((B+t.length:Nat):Int)+(k:Int))).reverse).length=G:=by rw[List.length_reverse,List.length_map,List.length_range]
  generalize ((List.range G).map λk:Nat=>V.int (((B+t.length:Nat):Int)+(k:Int))).reverse=xs at am bc aG;refine⟨ad,J,⟨_,SqL.of am⟩,zgo (K:=K) (a:=ad) (xs:=xs) (λi σ aa=>∃(l:Nat) (aH:Option V),σ=[some v,some (.str x),some (.int B),some (.int O),some (.str t),some (.str x'),some (.int (runF b y D).at_),some (.ref aj),some (.ref pt),some (.int d),some (.int (l:Nat)),aH]/\aa=bO/\l<=x'.length/\(l=x'.length∨(AtL b x x' N N' d l/\x'.length+1<=l+i))/\(∀m:Nat,x'.length+1<=m+i->m<l->¬AtL b x x' N N' d m))
   ⟨x'.length,none,J,J,Nat.le_refl _,.inl J,λm h1 h2=>by omega⟩ (λi σ aa _ ⟨_,_,_,e,_⟩=>by rw[e];exact SqL.of am) ?_ ?_⟩
  .rintro i u σ aa hi ⟨l,aH,rfl,rfl,aI,ao,aJ⟩;obtain⟨cf,rfl⟩:=bc i u hi;show (tIfS _ _ _) _ _ _;refine zbC λbP bd _ _ _=>?_;have aK:¬AtL b x x' N N' d ((x'.length-i:Nat):Int)->bP.nx [some v,some (.str x),some (.int B),some (.int O),some (.str t),some (.str x'),some (.int (runF b y D).at_),some (.ref aj),some (.ref pt),some (.int d),some (.int (l:Nat)),some (.int ((x'.length-i:Nat):Int))] aa:=λaL=>bd _ _ ⟨l,_,J,J,aI,ao.imp id (λh=>⟨h.1,by omega⟩),λm h1 h2=>by
    by_cases e:m=x'.length-i
    .rw[e];exact aL
    .exact aJ m (by omega) h2⟩
   refine⟨_,J,_,J,pt,_,J,DGet.k (k:=.inl ((x'.length-i:Nat):Int)) ba,?_⟩;cases hv1:valV a7 (.inl ((x'.length-i:Nat):Int)) with
   |none=>
    refine⟨_,J,iteF (iteF (aK λh=>?_))⟩;obtain⟨q,q',L,_⟩:=(a9 _).mp h;rw[hv1] at L;cases L
   |some bv=>
    refine⟨_,J,iteT ?_⟩;refine⟨_,J,_,J,_,_,J,J,_,J,aj,_,J,DGet.k (k:=.inl (((x'.length-i:Nat):Int)-d)) bb,?_⟩;cases hv2:valV a6 (.inl (((x'.length-i:Nat):Int)-d)) with
    |none=>
     refine⟨_,J,iteF (iteF (aK λh=>?_))⟩;obtain⟨q,q',_,M,_⟩:=(a9 _).mp h;rw[hv2] at M;cases M
    |some cg=>
     refine⟨_,J,iteT ?_⟩;obtain⟨I,bQ,aM⟩:=KT.all _ _ hv1;obtain⟨n,aL,aN⟩:=aC.all _ _ hv2;injection aM with aM;injection aN with aN;obtain⟨q,L,aD⟩:=KT.has I bQ;obtain⟨q',M,aE⟩:=aC.has n aL;rw[←aM,hv1] at L;rw[←aN,hv2] at M;injection L with L;injection M with M;subst L;subst M;refine⟨_,J,_,J,pt,_,J,by have:=DGet.k (k:=.inl ((x'.length-i:Nat):Int)) ba;rw[hv1] at this;exact this,?_⟩;refine⟨_,J,_,J,_,J,_,_,J,J,aj,_,J,by have:=DGet.k (k:=.inl (((x'.length-i:Nat):Int)-d)) bb;rw[hv2] at this;exact this,?_⟩;refine⟨z,z,_,_,aD.mono Z.x,aE.mono Z.x,zi3 3 _ _,_,J,?_⟩;refine ite2 (λg=>?_) (λg=>?_)
     .have g:SamePd (runF b x' I).ds (runF b x n).ds:=eq_pds.mp g;exact⟨_,J,bd _ _ ⟨x'.length-i,_,J,J,by omega,.inr ⟨⟨n,I,by omega,by omega,by omega,by omega,g⟩,by omega⟩,λm h1 h2=>by omega⟩⟩
     .refine aK λh=>g (eq_pds.mpr ?_);obtain⟨be,bf,h1,h2,ab,al,ac⟩:=h;have bR:bf=I:=by
       rcases Nat.lt_trichotomy bf I with c|c|c
       .have:=aB.mono S c (by omega);omega
       .exact c
       .have:=aB.mono S c h2;omega
      have bS:be=n:=by
       rcases Nat.lt_trichotomy be n with c|c|c
       .have:=ay.mono S c (by omega);omega
       .exact c
       .have:=ay.mono S c h1;omega
      rw[←bR,←bS];exact ac
  .rintro σ aa ⟨l,aH,rfl,rfl,aI,ao,aJ⟩;refine J0 _ _ ⟨_,J,_,J,_,J,by show (2:Nat)<=_;omega,λq bg=>⟨by show (2:Nat)<=_;omega,λp aO=>bp _ _ ?_⟩⟩;have aP:=bH.trans Z;have bh:=Same.new (o:=.tup [V.int (runF b y D).at_,V.int (l:Nat)]) bg;have bT:=aP.free bg;have bU:=(aP.trans bh).free aO;have bV:upd aa q (.tup [V.int (runF b y D).at_,V.int (l:Nat)]) q=some (.tup [V.int (runF b y D).at_,V.int (l:Nat)]):=zab;have bW:B+t.length<=l:=by
    rcases ao with h|⟨_,h⟩
    .omega
    .rw[aG] at h;omega
   exact k p q x' y N N' D l d _ ((aP.trans bh).trans (Same.new aO)) bU bT zab aY a1 (Same.new aO _ _ bV) ⟨bs,a8,ay,aB,aI,bW,ao.imp id And.left,λm h1 h2=>aJ m (by rw[aG];omega) h2⟩
inductive ze6(P:Program)(w:World)(CP CS:Addr):List V->Hp->VK->XK->Prop where
 |mk {vs:List V} {H:Hp} {Q:VK} {E:XK} (z r dx:Addr) (v:V) (b:Bk) (x:Str) (pt ps so dxs pr pn pw:Addr) (tab:List Rws) (N:Nat) (ks:List Nat) (c1:vs=[.ref r]) (c2:PgS P w z CP CS H r dx v b x pt ps so dxs pr pn pw tab N ks) (c3:Q (.str x) H):ze6 P w CP CS vs H Q E
inductive zdz(P:Program)(w:World)(tb CP CS:Addr):List V->Hp->VK->XK->Prop where
 |mk {vs:List V} {H:Hp} {Q:VK} {E:XK} (z r dx:Addr) (v:V) (b:Bk) (x:Str) (pt ps so dxs pr pn pw:Addr) (tab:List Rws) (N:Nat) (ks:List Nat) (bg en:Nat) (t:Str) (wl:List V)
  (c1:vs=[.ref r,.int bg,.int en,.str t]) (c2:PgS P w z CP CS H r dx v b x pt ps so dxs pr pn pw tab N ks) (c3:Bag z H) (c4:LamTb tb H) (c5:bg<=en) (c6:en<=x.length) (c7:x.length-(en-bg)+t.length<=2000) (c8:tab.length+2000<1000000) (c9:H pw=some (.lst wl)) (c9':wl.length<=1000)
  (c10:∀p wv x' K M n d pt' ps' ks' tab' H',PutR b x x' bg en t N K M n d->PgS P w z CP CS H' r dx v b x' pt' ps' so dxs pr pn pw tab' (M+(N-n)) ks'->tab'.length<=tab.length+2000->KeepE (λa=>a=pw∨a=r∨a=pr∨a=pn∨a=tb) H H'->Bag z H'->LamTb tb H'->H' pw=some (.lst (wl++[wv]))->(∃pq,wv=.ref pq/\pq≠z/\H' pq=some (.tup [.int bg,.int ((bg:Int)+(t.length:Int)),.str (cutS x (some (bg:Int)) (some (en:Int)))]))->H p=none->H' p=some (.tup [.int (runF b x K).at_,.int (runF b x' M).at_])->H pt'=none->H ps'=none->Q (.ref p) H'):zdz P w tb CP CS vs H Q E
theorem zlk:zav ["self"] ["self"] (zag ziS):=⟨J,J,J,by decide +kernel,J,by decide +kernel,by decide +kernel⟩
theorem scChange:zav ["self","begin","end","text"] ["self","begin","end","text"] (zag zgb):=⟨J,J,J,by decide +kernel,J,by decide +kernel,by decide +kernel⟩
theorem zj4{f CP CS:Addr}{fd:FuncData}(F:Fun K "text" "Page.text" ziS f fd)(B:TxtP K mg CP):FnOk P w K mg base CX0 1 f fd ["self"] (ze6 P w CP CS):=by
 refine F.ok zlk (λvs H Q E h=>?_) (λcdv A outer s H vs Q E G h=>?_)
 .obtain⟨z,r,dx,v,b,x,pt,ps,so,dxs,pr,pn,pw,tab,N,ks,rfl,_⟩:=h;rfl
 .obtain⟨z,r,dx,v,b,x,pt,ps,so,dxs,pr,pn,pw,tab,N,ks,rfl,D,k⟩:=h;refine⟨_,zai (zaw (zaG (pv 0) J)),?_⟩;dsimp only[cxOf,Cx.nox,Cx.wish];exact⟨_,J,r,CP,dx,_,_,J,D.ins,B.cl,B.nX,zbv v x pt ps so pw,k⟩
theorem zi4{f ae tb CP CS:Addr}{fd af:FuncData}{ag:Value}(F:Fun K "change" "Page.change" zgb f fd)(T:TxtB mg)(L:TxtP K mg CP)(ar:mg "MOST_SIGNS"=some ag)(as:RelV (.int 2000) ag)(n1:Meth K CP "put" ae)(au:Binds K af ["self","begin","end","text"] [])(av:FnOk P w K mg base CX0 7 ae af ["self","begin","end","text"] (spPut P w tb CP CS)):FnOk P w K mg base CX0 8 f fd ["self","begin","end","text"] (zdz P w tb CP CS):=by
 refine F.ok scChange (λvs H Q E h=>?_) (λcdv A outer s H vs Q E aw h=>?_)
 .obtain⟨z,r,dx,v,b,x,pt,ps,so,dxs,pr,pn,pw,tab,N,ks,B,I,t,G,rfl,_⟩:=h;rfl
 .obtain⟨z,r,dx,v,b,x,pt,ps,so,dxs,pr,pn,pw,tab,N,ks,B,I,t,G,rfl,U,ah,ax,ay,az,aA,aB,ai,a4,k⟩:=h;have a5:=scChange.nd;refine⟨_,zac (za9 (zgn (zid zjl zjl zjl zaf (pv 1) (pv 2) (zar zap (by rfl) T.len b_len (zaa (zaG (pv 0) J) zae)))) zdC zaC)
   (zac (za9 (zau zhN (zax zaT (zax zb7 (zar zap (by rfl) T.len b_len (zaa (zaG (pv 0) J) zae)) (zax zb7 (pv 2) (pv 1))) (zar zap (by rfl) T.len b_len (zaa (pv 3) zae))) (zfP J ar as) (zaz _)) zdC zaC)
   (zac (zaP (zbL PySem.F.plainAttrs_list PySem.F.slot_list_append PySem.F.type_list_append zaK (zaG (pv 0) J) (zaa (zaV (zaa (pv 1) (zaa (zax zaT (pv 1) (zar zap (by rfl) T.len b_len (zaa (pv 3) zae))) (zaa (zaA zbp (zaG (pv 0) J) (zaD (pv 1)) (zaD (pv 2))) zae)))) zae)))
   (zai (zaw (zaZ (pv 0) L.cl n1 av aw au .nil pass0 (zaa (pv 1) (zaa (pv 2) (zaa (pv 3) zae)))))))),?_⟩
  dsimp only[cxOf,Cx.nox,Cx.wish];have a6:(100000:Nat)<=sizeLine:=by rw[sizeLine_eq];decide
  have a7:=U.xl;refine zbC λa8 _ aC _ _=>zaj λaj R=>?_;have W:=U.ins;have aD:decide ((0:Int)<=(B:Int))=true:=decide_eq_true (by omega);have aE:decide ((B:Int)<=(I:Int))=true:=decide_eq_true (by omega);have aF:decide ((I:Int)<=(x.length:Int))=true:=decide_eq_true (by omega);have aG:decide ((2000:Int)<((x.length:Int)-((I:Int)-(B:Int)))+(t.length:Int))=false:=decide_eq_false (by omega);refine⟨_,J,_,_,J,J,_,J,ite2 (λ_=>?_) (λg=>absurd aD g)⟩;refine⟨_,J,_,_,J,J,_,J,ite2 (λ_=>?_) (λg=>absurd aE g)⟩;refine⟨_,J,r,CP,dx,_,_,J,W,L.cl,L.nX,zbv v x pt ps so pw,x,J,by omega,_,_,J,J,_,J,?_⟩;refine ite2 (λg=>absurd g (by rw[aF];decide)) (λ_=>R _ _ (zaj λaj R=>?_));refine⟨_,J,r,CP,dx,_,_,J,W,L.cl,L.nX,zbv v x pt ps so pw,x,J,by omega,_,J,_,J,_,_,J,J,_,_,J,J,_,J,t,J,by omega,_,_,J,J,_,_,J,J,_,J,?_⟩;refine ite2 (λg=>absurd g (by rw[aG];decide)) (λ_=>R _ _ (zaj λaj R=>?_));refine⟨_,J,r,CP,dx,_,_,J,W,L.cl,L.nW,zle v x pt ps so pw,.inl ⟨J,_,SqL.of ai⟩,?_⟩;refine⟨_,J,_,J,_,J,t,J,by omega,_,_,J,J,_,J,r,CP,dx,_,_,J,W,L.cl,L.nX,zbv v x pt ps so pw,_,J,_,J,_,J,_,J,x,J,by omega,by show (3:Nat)<=_;omega,λD ak=>?_⟩;have S:=Same.new (o:=.tup [V.int B,V.int ((B:Int)+(t.length:Int)),V.str (cutS x (some (B:Int)) (some (I:Int)))]) ak;have J0:=S _ _ ai;have M:=U.same S;have aH:=ah.same S;have al:=ax.same S;refine⟨pw,G,_,J,J,J0,by omega,R _ _ ?_⟩;have O:upd H D (.tup [V.int B,(λi j=>V.int (i+j)) (B:Int) (t.length:Int),V.str (cutS x (some (B:Int)) (some (I:Int)))]) D=some (.tup [.int B,.int ((B:Int)+(t.length:Int)),.str (cutS x (some (B:Int)) (some (I:Int)))]):=zab;have aI:=ah.ne ak;generalize upd H D (.tup [V.int B,(λi j=>V.int (i+j)) (B:Int) (t.length:Int),V.str (cutS x (some (B:Int)) (some (I:Int)))])=H1 at *;have Y:KeepE (λa=>a=pw) H1 (upd H1 pw (.lst (G++[.ref D]))):=zbb;have aJ:NoTup (λa=>a=pw) H1:=za1 J0 (by intro xs c;cases c);obtain⟨⟨a9,ba,am⟩,⟨bb,bc,aK⟩,aL,aM⟩:=U.nes;obtain⟨bd,aN,_,aa⟩:=id M.sd.ex;obtain⟨be,ao⟩:=al.tbl;have ap:=M.keep Y aJ (zao M.ins J0 (by intro c;cases c)) aL.symm aM.symm (zao M.sd.ins J0 (by intro c;cases c)) am.symm (zao aa J0 (by intro c;cases c));have aO:Bag z (upd H1 pw (.lst (G++[.ref D]))):=by
   obtain⟨c,d',aP⟩:=aH;exact⟨c,d',Y _ _ aK.symm aP⟩
  have L2:=zgg (l':=G++[.ref D]) al J0;have ab:upd H1 pw (.lst (G++[.ref D])) pw=some (.lst (G++[.ref D])):=zab;have aQ:upd H1 pw (.lst (G++[.ref D])) D=some (.tup [.int B,.int ((B:Int)+(t.length:Int)),.str (cutS x (some (B:Int)) (some (I:Int)))]):=Y _ _ (zao O J0 (by intro c;cases c)) O;have aq:KeepE (λa=>a=pw) H (upd H1 pw (.lst (G++[.ref D]))):=λa o Z e=>Y a o Z (S a o e);have ac:∀ {a:Addr},upd H1 pw (.lst (G++[.ref D])) a=none->H a=none:=λ{a} n=>by
   cases q:H a with
   |none=>rfl
   |some o=>
    exfalso;by_cases c:a=pw
    .rw[c,ab] at n;cases n
    .rw[aq a o c q] at n;cases n
  generalize upd H1 pw (.lst (G++[.ref D]))=H2 at *;refine⟨_,J,r,dx,_,J,ap.ins,zbf (by simp),_,J,_,J,_,J,z,r,dx,v,b,x,pt,ps,so,dxs,pr,pn,pw,tab,N,ks,B,I,t,J,ap,aO,L2,ay,az,aA,aB,⟨_,ab⟩,λp x' aR aS n d pt' ps' ks' aT aU aV aW aX ad aY aZ a0 a1 a2 a3=>aC _ _ (k p (.ref D) x' aR aS n d pt' ps' ks' aT aU aV aW aX (λa o Z e=>ad a o (λc=>Z (.inr c)) (aq a o (λc=>Z (.inl c)) e)) aY aZ ?_ ⟨D,J,aI,?_⟩ (ac a0) a1 (ac a2) (ac a3))⟩
  .exact ad _ _ (λc=>c.elim (zao J0 M.ins (by intro c;cases c)) λc=>c.elim am λc=>c.elim (zao J0 aa (by intro c;cases c)) (zao J0 ao (by intro c;cases c))) ab
  .exact ad _ _ (λc=>c.elim (zao O M.ins (by intro c;cases c)) λc=>c.elim (zao O aN (by intro c;cases c)) λc=>c.elim (zao O aa (by intro c;cases c)) (zao O ao (by intro c;cases c))) aQ
inductive zcV(P:Program)(w:World)(CP CS:Addr):List V->Hp->VK->XK->Prop where
 |mk {vs:List V} {H:Hp} {Q:VK} {E:XK} (z r dx:Addr) (v:V) (b:Bk) (x:Str) (pt ps so dxs pr pn pw:Addr) (tab:List Rws) (N:Nat) (ks:List Nat) (c1:vs=[.ref r]) (c2:PgS P w z CP CS H r dx v b x pt ps so dxs pr pn pw tab N ks)
  (c3:∀p tv H',Same H H'->H p=none->H' p=some (.lst tv)->Reps z H' tv ((runF b x N).ss.map stD)->Q (.ref p) H'):zcV P w CP CS vs H Q E
inductive ze7(P:Program)(w:World)(tb CP CS:Addr):List V->Hp->VK->XK->Prop where
 |mk {vs:List V} {H:Hp} {Q:VK} {E:XK} (z r dx:Addr) (v:V) (b:Bk) (t:Str) (c1:vs=[.ref r,v,.str t]) (c2:H r=some (.ins CP dx [])) (c3:Bag z H) (c4:LamTb tb H) (c5:Rep z H v (bkD b)) (c6:BkOk b) (c7:t.length<=2000)
  (c8:∀pt ps so dxs pr pn pw tab N ks H',PgS P w z CP CS H' r dx v b t pt ps so dxs pr pn pw tab N ks->tab.length<=2000->KeepE (λa=>a=r∨a=tb) H H'->Bag z H'->LamTb tb H'->H' pw=some (.lst [])->H pr=none->H pn=none->H pw=none->H pt=none->H ps=none->Q .non H'):ze7 P w tb CP CS vs H Q E
theorem zbZ(f:Str)(v:V):∀fs:List (Str×V),(putF f v fs).length<=fs.length+1
 |[]=>Nat.le_refl _
 |(g,x)::r=>by
  show (if g=f then (g,v)::r else (g,x)::putF f v r).length<=_;split
  .show r.length+1<=r.length+1+1;omega
  .have:=zbZ f v r;show (putF f v r).length+1<=r.length+1+1;omega
theorem zj5(v:V)(x:Str)(pt ps so pw:Addr):putF "ways_back" (.ref pw) (putF "standings" (.ref so) (putF "stands" (.ref ps) (putF "told" (.ref pt) (putF "signs" (.str x) (putF "book" v [])))))=pgF v x pt ps so pw:=by
 have B:putF "signs" (.str x) (putF "book" v [])=[(("book":Str),v),("signs",.str x)]:=zbT (by decide +kernel);rw[B];have D:putF "told" (.ref pt) [(("book":Str),v),("signs",.str x)]=[(("book":Str),v),("signs",.str x),("told",.ref pt)]:=(zbT (by decide +kernel)).trans (congrArg _ (zbT (by decide +kernel)));rw[D];have F:putF "stands" (.ref ps) [(("book":Str),v),("signs",.str x),("told",.ref pt)]=[(("book":Str),v),("signs",.str x),("told",.ref pt),("stands",.ref ps)]:=(zbT (by decide +kernel)).trans (congrArg _ ((zbT (by decide +kernel)).trans (congrArg _ (zbT (by decide +kernel)))));rw[F];have G:putF "standings" (.ref so) [(("book":Str),v),("signs",.str x),("told",.ref pt),("stands",.ref ps)]=[(("book":Str),v),("signs",.str x),("told",.ref pt),("stands",.ref ps),("standings",.ref so)]:=(zbT (by decide +kernel)).trans (congrArg _ ((zbT (by decide +kernel)).trans (congrArg _ ((zbT (by decide +kernel)).trans (congrArg _ (zbT (by decide +kernel)))))));rw[G];exact(zbT (by decide +kernel)).trans (congrArg _ ((zbT (by decide +kernel)).trans (congrArg _ ((zbT (by decide +kernel)).trans (congrArg _ ((zbT (by decide +kernel)).trans (congrArg _ (zbT (by decide +kernel)))))))))
theorem zi5:zav ["self"] ["self"] (zag zgc):=⟨J,J,J,by decide +kernel,J,by decide +kernel,by decide +kernel⟩
theorem scPInit:zav ["self","book","text"] ["self","book","text"] (zag ziR):=⟨J,J,J,by decide +kernel,J,by decide +kernel,by decide +kernel⟩
theorem zhw{f CP CS:Addr}{fd:FuncData}(F:Fun K "steps" "Page.steps" zgc f fd)(I:Txt2 mg)(D:TxtP K mg CP):FnOk P w K mg base CX0 1 f fd ["self"] (zcV P w CP CS):=by
 refine F.ok zi5 (λvs H Q E h=>?_) (λcdv A outer s H vs Q E M h=>?_)
 .obtain⟨z,r,dx,v,b,x,pt,ps,so,dxs,pr,pn,pw,tab,N,ks,rfl,_⟩:=h;rfl
 .obtain⟨z,r,dx,v,b,x,pt,ps,so,dxs,pr,pn,pw,tab,N,ks,rfl,G,k⟩:=h;refine⟨_,zai (zaw (zbx zca (by rfl) I.list zgu (zaa (zaG (pv 0) J) zae))),?_⟩;dsimp only[cxOf,Cx.nox,Cx.wish];obtain⟨tv,J0,L⟩:=G.told;exact⟨_,J,r,CP,dx,_,_,J,G.ins,D.cl,D.nT,zcD v x pt ps so pw,pt,tv,J,.inl (SqL.of J0),λl B=>k l tv _ (Same.new B) B zab (L.mono (Same.new B).x)⟩
theorem zj6{f aQ aR tb CP CS:Addr}{fd aS aT:FuncData}{aU:Value}(F:Fun K "__init__" "Page.__init__" ziR f fd)(T:TxtB mg)(D:TxtP K mg CP)(bi:mg "MOST_SIGNS"=some aU)(bj:RelV (.int 2000) aU)(n1:Meth K CP "put" aQ)(bk:Binds K aS ["self","begin","end","text"] [])(bl:FnOk P w K mg base CX0 7 aQ aS ["self","begin","end","text"] (spPut P w tb CP CS))(M2:L2.Mk K CS aR)(bm:mg "Standings"=some (.ref CS))(bn:Binds K aT ["self"] [])(bo:FnOk P w K mg base CX0 1 aR aT ["self"] (ze0 P w CS)):FnOk P w K mg base CX0 8 f fd ["self","book","text"] (ze7 P w tb CP CS):=by
 refine F.ok scPInit (λvs H Q E h=>?_) (λcdv A outer s H vs Q E au h=>?_)
 .obtain⟨z,r,dx,v,b,t,rfl,_⟩:=h;rfl
 .obtain⟨z,r,dx,v,b,t,rfl,ae,bp,aV,bq,br,b5,k⟩:=h;have b6:=scPInit.nd;have af:Room 2 _:=au.mono (by decide);refine⟨_,zac (za9 (zau zhN (zar zap (by rfl) T.len b_len (zaa (pv 2) zae)) (zfP J bi bj) (zaz _)) zdC zaC)
   (zac (zbB (pv 0) (pv 1) J)
   (zac (zbB (pv 0) zaH J)
   (zac (zbB (pv 0) (zaN zae) J)
   (zac (zbB (pv 0) (zaN (zaa zaf zae)) J)
   (zac (zbB (pv 0) (zjo M2 bo af J bm bn .nil pass0) J)
   (zac (zbB (pv 0) (zaN zae) J)
   (zai (zaP (zaZ (pv 0) D.cl n1 bl au bk .nil pass0 (zaa zaf (zaa zaf (zaa (pv 2) zae)))))))))))),?_⟩
  dsimp only[cxOf,Cx.nox,Cx.wish];have b7:(100000:Nat)<=sizeLine:=by rw[sizeLine_eq];decide
  have bs:decide ((2000:Int)<(t.length:Int))=false:=decide_eq_false (by omega);refine zbC λb8 bt _ _ _=>zaj λV I=>?_;refine⟨_,J,t,J,by omega,_,_,J,J,_,J,ite2 (λg=>absurd g (by rw[bs];decide)) (λ_=>I _ _ (zaj λV I=>?_))⟩;refine⟨_,J,_,J,r,CP,dx,_,J,ae,D.cl,D.nB,by show (0:Nat)<1000;decide,?_⟩;have bu:NoTup (λa=>a=r) H:=za1 ae (by intro xs c;cases c);have aW:upd H r (.ins CP dx (putF "book" v [])) r=some (.ins CP dx (putF "book" v [])):=zab;have aX:KeepE (λa=>a=r) H (upd H r (.ins CP dx (putF "book" v []))):=zbb;refine I _ _ (zaj λV I=>?_);generalize upd H r (.ins CP dx (putF "book" v []))=H1 at aW aX;refine⟨_,J,r,CP,dx,_,J,aW,D.cl,D.nX,by show (1:Nat)<1000;decide,I _ _ (zaj λV I=>?_)⟩;have af:upd H1 r (.ins CP dx (putF "signs" (.str (Str.ofString "")) (putF "book" v []))) r=some (.ins CP dx (putF "signs" (.str (Str.ofString "")) (putF "book" v []))):=zab;have aF:KeepE (λa=>a=r) H (upd H1 r (.ins CP dx (putF "signs" (.str (Str.ofString "")) (putF "book" v [])))):=λa o B e=>zbb a o B (aX a o B e);generalize upd H1 r (.ins CP dx (putF "signs" (.str (Str.ofString "")) (putF "book" v [])))=H2 at af aF;refine⟨Nat.zero_le _,λpt aY=>?_⟩;have av:=Same.new (o:=.lst []) aY;have aG:upd H2 pt (.lst []) pt=some (.lst []):=zab;generalize upd H2 pt (.lst [])=ag at av aG;have bv:(putF "signs" (.str (Str.ofString "")) (putF "book" v [])).length<=2:=Nat.le_trans (zbZ _ _ _) (Nat.succ_le_succ (zbZ _ _ _));refine⟨_,J,r,CP,dx,_,J,av _ _ af,D.cl,D.nT,by omega,I _ _ (zaj λV I=>?_)⟩;have bw:=av _ _ af;have bx:=Nat.le_trans (zbZ "told" (.ref pt) (putF "signs" (.str (Str.ofString "")) (putF "book" v []))) (Nat.succ_le_succ bv);generalize bz:putF "told" (.ref pt) (putF "signs" (.str (Str.ofString "")) (putF "book" v []))=O at *;have aZ:upd ag r (.ins CP dx O) r=some (.ins CP dx O):=zab;have a0:KeepE (λa=>a=r) ag (upd ag r (.ins CP dx O)):=zbb;have aH:=a0 _ _ (zao aG bw (by intro c;cases c)) aG;have aI:KeepE (λa=>a=r) H (upd ag r (.ins CP dx O)):=λa o B e=>a0 a o B (av a o (aF a o B e));generalize upd ag r (.ins CP dx O)=a1 at aZ aH aI;refine⟨by show (1:Nat)<=_;omega,λps a2=>?_⟩;have ah:=Same.new (o:=.lst [.int 0]) a2;have aJ:upd a1 ps (.lst [.int 0]) ps=some (.lst [.int 0]):=zab;have aw:=ah _ _ aZ;refine⟨_,J,r,CP,dx,_,J,aw,D.cl,D.nS,by omega,I _ _ (zaj λV I=>?_)⟩;generalize upd a1 ps (.lst [.int 0])=ai at ah aJ aw;have bA:=Nat.le_trans (zbZ "stands" (.ref ps) O) (Nat.succ_le_succ bx);generalize bB:putF "stands" (.ref ps) O=R at *;have aj:upd ai r (.ins CP dx R) r=some (.ins CP dx R):=zab;have aK:KeepE (λa=>a=r) ai (upd ai r (.ins CP dx R)):=zbb;have ax:=aK _ _ (zao aJ aw (by intro c;cases c)) aJ;have ay:=aK _ _ (zao (ah _ _ aH) aw (by intro c;cases c)) (ah _ _ aH);have W:KeepE (λa=>a=r) H (upd ai r (.ins CP dx R)):=λa o B e=>aK a o B (ah a o (aI a o B e));generalize upd ai r (.ins CP dx R)=Y at aj ax ay W;intro so dxs aL bC bD;have bE:Same Y (upd Y dxs (.own so)):=Same.new bC;have bF:upd Y dxs (.own so) so=none:=by rw[zah bD.symm];exact aL
  have aM:=bE.trans (Same.new (o:=.ins CS dxs []) bF);refine⟨so,dxs,J,zab,λpr pn Z bG bH b9 bI bJ a3 a4=>⟨J,?_⟩⟩;have aa:∀a o,Y a=some o->Z a=some o:=λa o e=>bI a o (zad e aL) (aM a o e);have ak:Y pr=none:=aM.free bG;have a5:Y pn=none:=aM.free bH;have al:=aa _ _ aj;refine⟨_,J,r,CP,dx,_,J,al,D.cl,D.nG,by omega,I _ _ (zaj λV I=>?_)⟩;have ca:=Nat.le_trans (zbZ "standings" (.ref so) R) (Nat.succ_le_succ bA);generalize bK:putF "standings" (.ref so) R=ab at *;have a6:r≠so:=zad aj aL;have ac:KeepE (λa=>a=r) Z (upd Z r (.ins CP dx ab)):=zbb;have aN:upd Z r (.ins CP dx ab) r=some (.ins CP dx ab):=zab;have az:=ac _ _ (zao (aa _ _ ax) al (by intro c;cases c)) (aa _ _ ax);have aA:=ac _ _ (zao (aa _ _ ay) al (by intro c;cases c)) (aa _ _ ay);have a7:=ac _ _ a6.symm bJ;have am:=ac _ _ (zao a3 al (by intro c;cases c)) a3;have aB:=ac _ _ (zao a4 al (by intro c;cases c)) a4;have ao:KeepE (λa=>a=r) H (upd Z r (.ins CP dx ab)):=λa o B e=>ac a o B (aa a o (W a o B e));generalize upd Z r (.ins CP dx ab)=a8 at aN az aA a7 am aB ao;refine⟨Nat.zero_le _,λpw L=>?_⟩;have J0:=Same.new (o:=.lst []) L;have aC:upd a8 pw (.lst []) pw=some (.lst []):=zab;have M:=J0 _ _ aN;refine⟨_,J,r,CP,dx,_,J,M,D.cl,D.nW,by omega,I _ _ ?_⟩;generalize upd a8 pw (.lst [])=ap at J0 aC M;have bL:putF "ways_back" (.ref pw) ab=pgF v (Str.ofString "") pt ps so pw:=by rw[←bK,←bB,←bz,zj5]
  rw[bL];have S:KeepE (λa=>a=r) ap (upd ap r (.ins CP dx (pgF v (Str.ofString "") pt ps so pw))):=zbb;have aq:upd ap r (.ins CP dx (pgF v (Str.ofString "") pt ps so pw)) r=some (.ins CP dx (pgF v (Str.ofString "") pt ps so pw)):=zab;have a9:=S _ _ (zao (J0 _ _ az) M (by intro c;cases c)) (J0 _ _ az);have ba:=S _ _ (zao (J0 _ _ aA) M (by intro c;cases c)) (J0 _ _ aA);have bb:=S _ _ a6.symm (J0 _ _ a7);have bc:=S _ _ (zao (J0 _ _ am) M (by intro c;cases c)) (J0 _ _ am);have bd:=S _ _ (zao (J0 _ _ aB) M (by intro c;cases c)) (J0 _ _ aB);have aO:=S _ _ (zao aC M (by intro c;cases c)) aC;have U:KeepE (λa=>a=r) H (upd ap r (.ins CP dx (pgF v (Str.ofString "") pt ps so pw))):=λa o B e=>S a o B (J0 a o (ao a o B e));generalize upd ap r (.ins CP dx (pgF v (Str.ofString "") pt ps so pw))=aP at aq a9 ba bb bc bd aO U;obtain⟨c,d,ad⟩:=bp;obtain⟨cb,be⟩:=aV.tbl;have ar:z≠r:=zao ad ae (by intro c;cases c);have bM:=W _ _ ar ad;have bN:=ao _ _ ar ad;have bO:Bag z aP:=⟨c,d,U _ _ ar ad⟩;have bf:tb≠r:=zao be ae (by intro c;cases c);have bP:LamTb tb aP:=zcq aV U bf (λa B c q e=>by rw[show a=r from B,ae] at e;cases e);have bQ:(Str.ofString "").length=0:=by rw[za3];rfl
  have bR:=aF _ _ ar ad;have bS:=aI _ _ ar ad;have bT:PgS P w z CP CS aP r dx v b (Str.ofString "") pt ps so dxs pr pn pw [] 0 [0]:=by
   refine⟨aq,Rep.keep U bu bq (.tup (zbe _)),br,⟨by rw[bQ];rfl,λj bg=>absurd bg (Nat.not_lt_zero _)⟩,⟨[],ba,.nil⟩,a9,J,λj bg=>?_,⟨bb,⟨[],bc,.nil,bd⟩,(zad bM ak).symm,λj cc h=>by simp at h,List.nodup_nil⟩,by omega,⟨⟨zad ay ak,zad ax ak,(zad am L).symm⟩,⟨(zad bR aY).symm,(zad bS a2).symm,(zad bN L).symm⟩,(zad aA L).symm,(zad az L).symm⟩⟩;have bU:j=0:=by omega
   subst bU;exact⟨0,J,.zero⟩
  refine⟨_,J,r,dx,_,J,aq,zbf (by simp),_,J,z,r,dx,v,b,Str.ofString "",pt,ps,so,dxs,pr,pn,pw,[],0,[0],0,0,t,J,bT,bO,bP,Nat.le_refl _,Nat.zero_le _,by omega,by show 0+2000<1000000;decide,⟨_,aO⟩,λp x' cd ce n d' pt' ps' ks' bV bW bX bY bZ bh b0 b1 cf cg b2 b3=>bt _ _ ?_⟩;have ex:x'=t:=zcd (by rw[bX.tx,List.take_zero,List.nil_append,List.drop_zero,za3];exact List.append_nil _);subst ex;have as:∀ {G:Hp} {o':HO} {a:Addr},KeepE (λa=>a=r) H G->G r=some o'->G a=none->H a=none:=λ{G o' a} b4 au aD=>by
   cases q:H a with
   |none=>rfl
   |some o=>
    exfalso;by_cases c:a=r
    .rw[c,au] at aD;cases aD
    .rw[b4 a o c q] at aD;cases aD
  refine k pt' ps' so dxs pr pn pw bV _ ks' bW bY (by simpa using bZ) (λa o B e=>?_) b0 b1 ?_ (as W aj ak) (as W aj a5) (as ao aN L) (as U aq b2) (as U aq b3)
  .have aE:=W a o (λc=>B (.inl c)) e;refine bh a o (λc=>?_) (U a o (λc=>B (.inl c)) e);rcases c with c|c|c|c
   .exact B (.inl c)
   .rw[c,ak] at aE;cases aE
   .rw[c,a5] at aE;cases aE
   .exact B (.inr c)
  .refine bh _ _ (λc=>?_) aO;rcases c with c|c|c|c
   .exact zao aC M (by intro c;cases c) c
   .exact(zad am L).symm c
   .exact(zad aB L).symm c
   .exact(zad (ao _ _ bf be) L).symm c
theorem zda{z tb:Addr}{H H':Hp}(D:LamTb tb H)(B:Bag z H)(A:Aft z H H'):LamTb tb H':=by
 obtain⟨c,d,F⟩:=B;exact D.sameX F A.1
theorem RunN.uniq{b:Bk}{x:Str}{N B:Nat}(h:RunN b x N)(g:RunN b x B):N=B:=by
 rcases Nat.lt_trichotomy N B with c|c|c
 .have h1:=g.lt N c;have h2:=h.at_;omega
 .exact c
 .have h1:=h.lt B c;have h2:=g.at_;omega
theorem RunN.inj_at{b:Bk}{x:Str}{N i j:Nat}(h:RunN b x N)(B:BkOk b)(hi:i<=N)(D:j<=N)(e:(runF b x i).at_<(runF b x j).at_):i<j:=by
 rcases Nat.lt_trichotomy i j with c|c|c
 .exact c
 .subst c;omega
 .have:=h.mono B c hi;omega
theorem zj7{b:Bk}{x J0 B y t:Str}{G L N M N' K F D n l:Nat}{d O:Int}(U:BkOk b)(ao:G<=L)(ap:L<=x.length)(R:PutR b x J0 G L t N K D n d)(V:RunN b J0 (D+(N-n)))(A:AnewR b x B G L t M N' F l O)(run:RunN b x N)(W:y.cps.toList=x.cps.toList.take G)(S:SureN b y F) :
  B=J0/\(runF b x K).at_=(runF b y F).at_/\(runF b J0 D).at_=l:=by
 obtain⟨aa,aq,ab,_⟩:=id U;have ex:B=J0:=zcd (by rw[R.tx,A.tx]);subst ex;have ac:M=N:=A.run.uniq run;subst ac;have ad:=A.run'.uniq V;subst ad;have ae:F=K:=S.uniq (R.sure y W);subst ae;have af:O=d:=by rw[A.dd,R.dd]
 subst af;refine⟨J,?_,?_⟩
 .exact(zbJ (b:=b) (y:=y) (y':=x) (more:=x.cps.toList.drop G) (by rw[W,List.take_append_drop]) S.all F (Nat.le_refl _)).1
 .have ag:=R.am;have ar:=R.enn;have as:=R.dd;have ah:=R.nN;have au:=(zaX (x:=B) ab aa D).le;have av:(B.length:Int)=x.length+O:=by
   have h1:=congrArg List.length R.tx;rw[List.length_append,List.length_append,List.length_take,List.length_drop,zak,zak,zak] at h1;have h2:=R.dd;have Y:=R.at_;have Z:min G x.length=G:=by omega
   rw[Z] at h1;omega
  have ai:(runF b B D).at_=B.length∨AtL b x B M (D+(M-n)) O ((runF b B D).at_:Int):=by
   rcases R.hor with h|h
   .left
    have:=run.at_;rw[h] at ag;omega
   .exact .inr ⟨n,D,ah,by omega,J,by omega,h⟩
  have h1:¬(runF b B D).at_<l:=λc=>by
   rcases ai with h|h
   .have:=A.le;omega
   .exact A.no _ (by omega) c h
  have h2:¬l<(runF b B D).at_:=λc=>by
   rcases A.at_ with h|⟨n1,I,aj,ak,aw,ax,al⟩
   .omega
   .have ay:(runF b B I).at_=l:=by omega
    have Y:I<D:=V.inj_at U ak (by omega) (by omega);have am:F<=I:=by
     by_cases q:F<=I
     .exact q
     .exfalso;have az:=V.mono U (i:=I) (j:=F) (by omega) (by have:=R.kM;omega);have Z:=R.ak;have aA:=R.at_;have aB:=A.ge;omega
    exact R.no I am Y ⟨n1,aj,by have:=A.ge;omega,by omega,al⟩
  omega
noncomputable abbrev mInit:Stmt:=za0 zdS 0
noncomputable abbrev zi6:Stmt:=za0 zdS 1
noncomputable abbrev mFeed:Stmt:=za0 zdS 2
noncomputable abbrev zgh:Stmt:=za0 zdS 3
noncomputable abbrev mHand:Stmt:=za0 zdS 4
noncomputable def rdF(v:V)(rs:Str)(pl:Int)(q:Addr):List (Str×V):=[("book",v),("rest",.str rs),("place",.int pl),("doors",.ref q)]
theorem n1:¬(("book":Str)="rest"):=by decide +kernel
theorem n2:¬(("book":Str)="place"):=by decide +kernel
theorem n3:¬(("book":Str)="doors"):=by decide +kernel
theorem n4:¬(("rest":Str)="place"):=by decide +kernel
theorem n5:¬(("rest":Str)="doors"):=by decide +kernel
theorem n6:¬(("place":Str)="doors"):=by decide +kernel
theorem zaY(f g:Str)(v:V)(r:List (Str×V)):((g,v)::r).lookup f=if f=g then some v else r.lookup f:=by
 rw[List.lookup_cons];by_cases h:f=g
 .have B:(f==g)=true:=beq_iff_eq.mpr h;rw[B,if_pos h]
 .have B:(f==g)=false:=beq_eq_false_iff_ne.mpr h;rw[B,if_neg h]
section
variable (v:V) (rs rs':Str) (pl pl':Int) (q q':Addr)
theorem zi7:(rdF v rs pl q).lookup ("book":Str)=some v:=by unfold rdF;rw[zaY,if_pos rfl]
theorem ze8:(rdF v rs pl q).lookup ("rest":Str)=some (.str rs):=by unfold rdF;rw[zaY,if_neg (Ne.symm n1),zaY,if_pos rfl]
theorem zgW:(rdF v rs pl q).lookup ("place":Str)=some (.int pl):=by unfold rdF;rw[zaY,if_neg (Ne.symm n2),zaY,if_neg (Ne.symm n4),zaY,if_pos rfl]
theorem zgX:(rdF v rs pl q).lookup ("doors":Str)=some (.ref q):=by unfold rdF;rw[zaY,if_neg (Ne.symm n3),zaY,if_neg (Ne.symm n5),zaY,if_neg (Ne.symm n6),zaY,if_pos rfl]
theorem zmd{m:Str}(h1:¬m="book")(h2:¬m="rest")(B:¬m="place")(D:¬m="doors"):(rdF v rs pl q).lookup m=none:=by unfold rdF;rw[zaY,if_neg h1,zaY,if_neg h2,zaY,if_neg B,zaY,if_neg D];rfl
theorem ze9:putF "rest" (.str rs') (rdF v rs pl q)=rdF v rs' pl q:=by
 unfold rdF;show (if ("book":Str)="rest" then _ else _::(if ("rest":Str)="rest" then _ else _))=_;rw[if_neg n1,if_pos rfl]
theorem zfH:putF "place" (.int pl') (rdF v rs pl q)=rdF v rs pl' q:=by
 unfold rdF;show (if ("book":Str)="place" then _ else _::(if ("rest":Str)="place" then _ else _::(if ("place":Str)="place" then _ else _)))=_;rw[if_neg n2,if_neg n4,if_pos rfl]
theorem zi8:putF "doors" (.ref q') (rdF v rs pl q)=rdF v rs pl q':=by
 unfold rdF;show (if ("book":Str)="doors" then _ else _::(if ("rest":Str)="doors" then _ else _::(if ("place":Str)="doors" then _ else _::(if ("doors":Str)="doors" then _ else _))))=_;rw[if_neg n3,if_neg n5,if_neg n6,if_pos rfl]
theorem zi9:putF "doors" (.ref q) (putF "place" (.int pl) (putF "rest" (.str rs) (putF "book" v [])))=rdF v rs pl q:=by
 show putF "doors" (.ref q) (putF "place" (.int pl) (if ("book":Str)="rest" then _ else _::[(("rest":Str),V.str rs)]))=_;rw[if_neg n1];show putF "doors" (.ref q) (if ("book":Str)="place" then _ else _::(if ("rest":Str)="place" then _ else _::[(("place":Str),V.int pl)]))=_;rw[if_neg n2,if_neg n4];show (if ("book":Str)="doors" then _ else _::(if ("rest":Str)="doors" then _ else _::(if ("place":Str)="doors" then _ else _::[(("doors":Str),V.ref q)])))=_;rw[if_neg n3,if_neg n5,if_neg n6];rfl
end
theorem m1':∀m∈([("__init__":Str),"begin_anew","feed","finish","hand_out","standing","held"]:List Str),¬m="book"/\¬m="rest"/\¬m="place"/\¬m="doors":=by decide +kernel
theorem zd2{v:V}{rs:Str}{pl:Int}{q:Addr}{m:Str}(h:m∈([("__init__":Str),"begin_anew","feed","finish","hand_out","standing","held"]:List Str)):(rdF v rs pl q).lookup m=none:=by
 obtain⟨h1,h2,B,D⟩:=m1' m h;exact zmd v rs pl q h1 h2 B D
structure Txt3(K:W.Frag)(mg:Str->Option Value)(C:Addr):Prop where
 cl:Cls K C
 nB:NoAttr K C "book"
 nR:NoAttr K C "rest"
 nP:NoAttr K C "place"
 nD:NoAttr K C "doors"
 sum:mg "sum"=none
noncomputable def But3(r q t:Addr)(H H':Hp):Prop:=∀b o,b≠r->b≠q->b≠t->H b=some o->H' b=some o
mutual
theorem Rep.but3{z r q t C dx:Addr}{H H':Hp}{l:List V}{fs:List (Str×V)}{ps:Array Value}(B:H r=some (.ins C dx fs))(F:H q=some (.lst l))(G:H t=some (.tbl ps))(s:But3 r q t H H'):∀ {v:V}{d:D},Rep z H v d->NoL d->Rep z H' v d
 |_,_,.non,_=>.non
 |_,_,.bl b,_=>.bl b
 |_,_,.int i,_=>.int i
 |_,_,.str x h,_=>.str x h
 |_,_,.tup h I J0,.tup k=>.tup (s _ _ (zao h B (by intro q;cases q)) (zao h F (by intro q;cases q)) (zao h G (by intro q;cases q)) h) I (Reps.but3 B F G s J0 k)
theorem Reps.but3{z r q t C dx:Addr}{H H':Hp}{l:List V}{fs:List (Str×V)}{ps:Array Value}(B:H r=some (.ins C dx fs))(F:H q=some (.lst l))(G:H t=some (.tbl ps))(s:But3 r q t H H'):∀ {vs:List V}{ds:List D},Reps z H vs ds->NoLs ds->Reps z H' vs ds
 |_,_,.nil,_=>.nil
 |_,_,.cons h k,.cons h' L=>.cons (Rep.but3 B F G s h h') (Reps.but3 B F G s k L)
end
mutual
theorem Rep.insU{z r C dx F:Addr}{H:Hp}{fs fs':List (Str×V)}(B:H r=some (.ins C dx fs)):∀ {v:V}{d:D},Rep z H v d->Rep z (upd H r (.ins C F fs')) v d
 |_,_,.non=>.non
 |_,_,.bl b=>.bl b
 |_,_,.int i=>.int i
 |_,_,.str x h=>.str x h
 |_,_,.tup h G I=>.tup (by rw[zah (zao h B (by intro q;cases q))];exact h) G (Reps.insU B I)
 |_,_,.lst h G I=>.lst (by rw[zah (zao h B (by intro q;cases q))];exact h) G (Reps.insU B I)
theorem Reps.insU{z r C dx F:Addr}{H:Hp}{fs fs':List (Str×V)}(B:H r=some (.ins C dx fs)):∀ {vs:List V}{ds:List D},Reps z H vs ds->Reps z (upd H r (.ins C F fs')) vs ds
 |_,_,.nil=>.nil
 |_,_,.cons h k=>.cons (Rep.insU B h) (Reps.insU B k)
end
inductive spOn(tb:Addr):List V->Hp->VK->XK->Prop where
 |mk {vs:List V} {H:Hp} {Q:VK} {E:XK} (z v b q x:_) (c1:vs=[v,.str x,.ref q]) (c2:Bag z H) (c3:q≠z) (c4:Rep z H v (bkD b)) (c5:BkOk b) (c6:H q=some (.lst [])) (c7:x.length<=20000) (c8:LamTb tb H) (c9:∀p fv n H',But2 q tb H H'->H p=none->H' p=some (.lst fv)->(runF b x n).at_=x.length->Reps z H' fv ((runF b x n).ss.map stD)->PDs z H' q (runF b x n).ds->Bag z H'->LamTb tb H'->Q (.ref p) H'):spOn tb vs H Q E
inductive zdA(tb:Addr):List V->Hp->VK->XK->Prop where
 |mk {vs:List V} {H:Hp} {Q:VK} {E:XK} (z v b x:_) (c1:vs=[v,.str x]) (c2:Bag z H) (c3:Rep z H v (bkD b)) (c4:BkOk b) (c5:x.length<=20000) (c6:LamTb tb H) (c7:∀p fv n H',ButX tb H H'->H p=none->H' p=some (.lst fv)->(runF b x n).at_=x.length->Reps z H' fv ((runF b x n).ss.map stD)->Bag z H'->LamTb tb H'->Q (.ref p) H'):zdA tb vs H Q E
theorem zgi{tb:Addr}(vs:List V)(H:Hp)(Q:VK)(E:XK)(h:spOn tb vs H Q E):spOnG tb vs H Q E:=by
 obtain⟨z,v,b,q,x,G,I,J0,L,M,O,ab,R,S⟩:=h;refine⟨z,v,b,q,[],x,G,I,J0,L,M,⟨[],O,.nil⟩,(λd U=>nomatch U),by show 0+x.length<=20000;omega,R,λp W n H' h1 h2 Y _ B D F Z aa=>?_⟩;have e:=zcy b x n;unfold it0 at B D F;rw[←e] at B D F;exact S p W n H' h1 h2 Y B D F Z aa
theorem zj8:zav ["book","text"] ["book","text"] (zag zir):=⟨J,J,J,by decide +kernel,J,by decide +kernel,by decide +kernel⟩
theorem zja{f tb D:Addr}{fd I:FuncData}(F:Fun K "steps" "steps" zir f fd)(M:W.keepIn K (.ref D)=true)(O:Binds K I ["book","text","doors"] [])(R:mg "read_on"=some (.ref D))(S:FnOk P w K mg base CX0 5 D I ["book","text","doors"] (spOn tb)):FnOk P w K mg base CX0 6 f fd ["book","text"] (zdA tb):=by
 refine F.ok zj8 (λvs H Q E h=>?_) (λcdv A outer s H vs Q E U h=>?_)
 .obtain⟨z,v,b,x,rfl,_⟩:=h;rfl
 .obtain⟨z,v,b,x,rfl,J0,V,Y,Z,aa,k⟩:=h;refine⟨_,zai (zaw (zat S U J R M O .nil pass0 (zaa (pv 0) (zaa (pv 1) (zaa (zaN zae) zae))))),?_⟩;refine⟨_,J,_,J,Nat.zero_le _,λq G=>?_⟩;have B:=Same.new (o:=.lst []) G;refine⟨z,v,b,q,x,J,J0.same B,J0.ne G,V.mono B.x,Y,zab,Z,aa.same B,λp ab n H2 ac ad ae af ag aj ah ai=>?_⟩;exact k p ab n H2 (λL o h e=>ac L o (zad e G) h (B L o e)) (B.free ad) ae af ag ah ai
theorem zjb{B:List Stp}{t:Nat}(h:t<B.length):B.take (t+1)=B.take t++[B.getD t st0]:=by
 rw[List.take_succ,List.getD_eq_getElem?_getD,List.getElem?_eq_getElem h];rfl
noncomputable def za8(l:List Int)(s:Stp):List Int:=if s.2.2.1=Str.ofString "open" then l++[s.1] else if s.2.2.1=Str.ofString "close" then l.dropLast else l
noncomputable def leftL(B:List Stp):List Int:=B.foldl za8 []
theorem zeo(B:List Stp)(s:Stp):leftL (B++[s])=za8 (leftL B) s:=by
 unfold leftL;rw[List.foldl_append];rfl
noncomputable def zkB(B:List Stp):Prop:=∀t,t<B.length->(B.getD t st0).2.2.1=Str.ofString "close"->leftL (B.take t)≠[]
theorem zhx:Str.ofString "cut"≠Str.ofString "open":=by decide +kernel
theorem zd3:Str.ofString "cut"≠Str.ofString "close":=by decide +kernel
theorem zhy:Str.ofString "escape"≠Str.ofString "open":=by decide +kernel
theorem zd4:Str.ofString "escape"≠Str.ofString "close":=by decide +kernel
theorem zgj:Str.ofString "sign"≠Str.ofString "open":=by decide +kernel
theorem zdg:Str.ofString "sign"≠Str.ofString "close":=by decide +kernel
theorem zfI:Str.ofString "close"≠Str.ofString "open":=by decide +kernel
theorem zfJ:Str.ofString "open"≠Str.ofString "close":=by decide +kernel
theorem zjc:Str.ofString ""≠Str.ofString "open":=by decide +kernel
theorem zep:Str.ofString ""≠Str.ofString "close":=by decide +kernel
theorem zjd(b:Bk)(ds:List LDr)(x:Str)(i:Nat)(m:Str):za8 (ds.map (·.1)) (stepL b ds x i m).1=(stepL b ds x i m).2.map (·.1)/\((stepL b ds x i m).1.2.2.1=Str.ofString "close"->ds≠[]):=by
 unfold stepL;split
 .split
  .exact⟨by unfold za8;rw[if_neg zhx,if_neg zd3],λe=>absurd e zd3⟩
  .exact⟨by unfold za8;rw[if_neg zhy,if_neg zd4],λe=>absurd e zd4⟩
 .split
  .exact⟨by unfold za8;rw[if_neg zgj,if_neg zdg],λe=>absurd e zdg⟩
  .split
   .rename_i h;exact⟨by unfold za8;rw[if_neg zfI,if_pos J,List.map_dropLast],λ_=>h.1⟩
   .split
    .exact⟨by unfold za8;rw[if_pos J,List.map_append];rfl,λe=>absurd e zfJ⟩
    .exact⟨by unfold za8;rw[if_neg zjc,if_neg zep],λe=>absurd e zep⟩
theorem zgY(b:Bk)(x:Str):∀n,leftL (runF b x n).ss=(runF b x n).ds.map (·.1)/\zkB (runF b x n).ss
 |0=>⟨J,λt h=>nomatch h⟩
 |n+1=>by
  obtain⟨D,G⟩:=zgY b x n;by_cases F:(runF b x n).at_<x.length
  .obtain⟨J0,L⟩:=zjd b (runF b x n).ds x (runF b x n).at_ (bestL b (runF b x n).ds x (runF b x n).at_);rw[zbz F,zbX F];refine⟨by rw[zeo,D];exact J0,λt I B=>?_⟩;rw[List.length_append] at I;by_cases h:t<(runF b x n).ss.length
   .rw[List.take_append_of_le_length (by omega)];refine G t h ?_;rw[List.getD_eq_getElem?_getD,List.getElem?_append_left h,←List.getD_eq_getElem?_getD] at B;exact B
   .have e:t=(runF b x n).ss.length:=by
     have:t<(runF b x n).ss.length+1:=I;omega
    subst e;rw[List.take_left,D];have M:(stepL b (runF b x n).ds x (runF b x n).at_ (bestL b (runF b x n).ds x (runF b x n).at_)).1.2.2.1=Str.ofString "close":=by
     rw[List.getD_eq_getElem?_getD,List.getElem?_append_right (Nat.le_refl _)] at B;simpa using B
    have:=L M;intro q;exact this (List.map_eq_nil_iff.mp q)
  .have e:runF b x (n+1)=runF b x n:=by
    show zaQ b x (runF b x n)=_;unfold zaQ;rw[if_neg F]
   rw[e];exact⟨D,G⟩
noncomputable def cutL(B:List Stp):List LDr:=if B≠[]/\(B.getD (B.length-1) st0).2.2.1=Str.ofString "cut" then [((B.getD (B.length-1) st0).1,(B.getD (B.length-1) st0).2.2.2.1,Str.ofString "")] else []
theorem zje(k:Nat):∀ds:List LDr,Deps (k+1) (ds.map ldD)
 |[]=>.nil _
 |d::r=>.cons (.tup (.cons (.int _ _) (.cons (.int _ _) (.cons (.str _ _) (.nil _))))) (zje k r)
theorem zjf(k:Nat):∀ds:List LDr,Deps (k+1) (ds.map pdD)
 |[]=>.nil _
 |d::r=>.cons (.tup (.cons (.int _ _) (.cons (.str _ _) (.nil _)))) (zjf k r)
inductive zgZ:List V->Hp->VK->XK->Prop where
 |mk {vs:List V} {H:Hp} {Q:VK} {E:XK} (z q fv ss:_) (c1:vs=[.ref q]) (c2:H q=some (.lst fv)) (c3:Reps z H fv (ss.map stD)) (c4:zkB ss) (c5:ss.length<=20000) (c6:∀p H',Same H H'->H p=none->H' p=some (.lst ((leftL ss).map V.int))->Q (.ref p) H'):zgZ vs H Q E
theorem scLeft:zav ["told","places","place","many","word","tongue","depth"] ["told"] (zag sLeft):=⟨J,J,J,by decide +kernel,J,by decide +kernel,by decide +kernel⟩
theorem zll{f:Addr}{fd:FuncData}(F:Fun K "places_left_open" "places_left_open" sLeft f fd):FnOk P w K mg base CX0 1 f fd ["told"] zgZ:=by
 refine F.ok scLeft (λvs H Q E h=>?_) (λcdv A outer s H vs Q E ao h=>?_)
 .obtain⟨z,q,L,B,rfl,_⟩:=h;rfl
 .obtain⟨z,q,L,B,rfl,ad,R,ag,ap,k⟩:=h;have G:=scLeft.nd;refine⟨_,zac (zan (i:=1) G J (Or.inl J) (zaN zae))
   (zac (zcF PassesOwn.never J (zbc (pv 0)) (zbG J (zas (zaq (i:=2) G J (Or.inl J)) (zas (zaq (i:=3) G J (Or.inl J)) (zas (zaq (i:=4) G J (Or.inl J)) (zas (zaq (i:=5) G J (Or.inl J)) (zas (zaq (i:=6) G J (Or.inl J)) za2))))))
    (zai (za9 (zau zb8 (pv 4) zaH (zaz _)) (zai (zaP (zbL PySem.F.plainAttrs_list PySem.F.slot_list_append PySem.F.type_list_append zaK (pv 1) (zaa (pv 2) zae))))
     (zai (za9 (zau zb8 (pv 4) zaH (zaz _)) (zai (zaP (zgs PySem.F.plainAttrs_list PySem.F.slot_list_pop PySem.F.type_list_pop zhX (pv 1)))) zaC)))))
   (zai (zaw (pv 1)))),?_⟩
  dsimp only[cxOf,Cx.nox,Cx.wish];have aq:=zaW;have ar:(100000:Nat)<=sizeLine:=by rw[sizeLine_eq];decide
  have ah:L.length=B.length:=by have:=R.length;simpa using this
  refine⟨Nat.zero_le _,λp O=>?_⟩;have ae:Same H (upd H p (.lst [])):=Same.new O;refine⟨_,J,q,J,⟨_,SqL.of (ae _ _ ad)⟩,zgo (K:=K) (a:=q) (xs:=L) (λt σ H2=>∃S U W Y Z,σ=[some (.ref q),some (.ref p),S,U,W,Y,Z]/\Same H H2/\H2 p=some (.lst ((leftL (B.take t)).map V.int))/\(leftL (B.take t)).length<=t)
   ⟨none,none,none,none,none,J,ae,by rw[zab];rfl,Nat.le_refl _⟩ (λt σ H2 _ ⟨_,_,_,_,_,_,s,_⟩=>SqL.of (s _ _ ad)) ?_ ?_⟩
  .rintro t y σ H2 af ⟨S,U,W,Y,Z,rfl,I,D,ai⟩;have aa:t<B.length:=by have:=(List.getElem?_eq_some_iff.mp af).1;omega
   have aj:y=L.getD t .non:=by rw[List.getD_eq_getElem?_getD,af];rfl
   obtain⟨a,e,as,ak,_⟩:=zcA (zcB (t:=t) R aa);have al:=ag t aa;rw[aj,e];rw[zjb aa,zeo];generalize au:B.getD t st0=st at *;generalize av:leftL (B.take t)=l at *;refine⟨a,_,J,SqT.of (I _ _ ak),J,_,_,J,_,_,J,_,_,J,_,_,J,_,_,J,J,?_⟩;refine⟨_,J,J,_,J,?_⟩;refine ite2 (λg=>?_) (λg=>?_)
   .have g':st.2.2.1=Str.ofString "open":=by simpa using g
    refine⟨_,J,.inl ⟨J,_,SqL.of D⟩,_,J,p,_,_,J,J,D,by rw[List.length_map];omega,?_⟩;refine⟨_,_,_,_,_,J,λab o M=>by rw[zah (zad M O)];exact I ab o M,?_,?_⟩
    .rw[zab];unfold za8;rw[if_pos g',List.map_append];rfl
    .unfold za8;rw[if_pos g',List.length_append];show _+1<=_;omega
   .have g':st.2.2.1≠Str.ofString "open":=by simpa using g
    refine⟨_,J,J,_,J,?_⟩;refine ite2 (λac=>?_) (λac=>?_)
    .have J0:st.2.2.1=Str.ofString "close":=by simpa using ac
     have am:=al J0;have aw:0<l.length:=List.length_pos_iff.mpr am;refine⟨_,J,.inl ⟨J,_,SqL.of D⟩,p,l.map V.int,_,J,J,D,zil (by rw[List.length_map];omega),?_⟩;refine⟨_,_,_,_,_,J,λab o M=>by rw[zah (zad M O)];exact I ab o M,?_,?_⟩
     .rw[zab];unfold za8;rw[if_neg g',if_pos J0,List.map_dropLast]
     .unfold za8;rw[if_neg g',if_pos J0,List.length_dropLast];omega
    .have J0:st.2.2.1≠Str.ofString "close":=by simpa using ac
     refine⟨_,_,_,_,_,J,I,?_,?_⟩
     .unfold za8;rw[if_neg g',if_neg J0];exact D
     .unfold za8;rw[if_neg g',if_neg J0];omega
  .rintro σ H2 ⟨S,U,W,Y,Z,rfl,I,D,ai⟩;have e:B.take L.length=B:=by rw[ah];exact List.take_length
   rw[e] at D;exact⟨_,J,k p H2 I O D⟩
end T1
namespace L2
open PySem PySem.Spec PyProof.Rows
theorem zlm{X:Cx}{sc:Scope}{cl:List (Str×Addr)}{N':List Str}{s:Shared}{H:Hp}{fp:List Addr}{e:Expr}{f:Str}{pos:Pos}{ta:TE}(B:PE (X.blk sc cl N' s H fp) e ta)(D:attributeBase e f (X.blk sc cl N' s H fp).env (eval e (X.blk sc cl N' s H fp).env)=eval e (X.blk sc cl N' s H fp).env:=by rfl):PE (X.blk sc cl N' s H fp) (.Attribute e f pos) (tFld X.K ta f):=zaG B D
end L2
namespace T1
open PySem L2
variable {P:Program}{w:World}{K:W.Frag}{mg:Str->Option Value}{base:Heap}
theorem zfa(f:Str)(v:V):∀fs:List (Str×V),(putF f v fs).length<=fs.length+1
 |[]=>Nat.le_refl _
 |(g,x)::r=>by
  show (if g=f then (g,v)::r else (g,x)::putF f v r).length<=_;split
  .show r.length+1<=r.length+1+1;omega
  .have:=zfa f v r;show (putF f v r).length+1<=r.length+1+1;omega
inductive zd5(C:Addr):List V->Hp->VK->XK->Prop where
 |mk {vs:List V} {H:Hp} {Q:VK} {E:XK} (r dx fs:_) (c1:vs=[.ref r]) (c2:H r=some (.ins C dx fs)) (c3:fs.length<900) (c4:∀q H',H q=none->SameX r H H'->H' q=some (.lst [])->H' r=some (.ins C dx (putF "doors" (.ref q) (putF "place" (.int 0) (putF "rest" (.str (Str.ofString "")) fs))))->Q .non H'):zd5 C vs H Q E
inductive zg0(C:Addr):List V->Hp->VK->XK->Prop where
 |mk {vs:List V} {H:Hp} {Q:VK} {E:XK} (r v dx:_) (c1:vs=[.ref r,v]) (c2:H r=some (.ins C dx [])) (c3:∀q H',H q=none->SameX r H H'->H' q=some (.lst [])->H' r=some (.ins C dx (rdF v (Str.ofString "") 0 q))->Q .non H'):zg0 C vs H Q E
inductive zfK(C:Addr):List V->Hp->VK->XK->Prop where
 |mk {vs:List V} {H:Hp} {Q:VK} {E:XK} (z r dx v rs q p fv:_) (ss:List Stp) (pl n:Nat) (c1:vs=[.ref r,.ref p]) (c2:Bag z H) (c3:H r=some (.ins C dx (rdF v rs pl q))) (c4:H p=some (.lst fv)) (c5:Reps z H fv (ss.map stD)) (c6:(ss.map (·.2.1)).sum=(n:Int)) (c7:n<=rs.length) (c8:rs.length<=20000) (c9:ss.length<=20000) (c10:∀pn fn H',SameX r H H'->H pn=none->H' pn=some (.lst fn)->Reps z H' fn ((ss.map (mvS pl)).map stD)->H' r=some (.ins C dx (rdF v (restS rs n) ((pl+n:Nat):Int) q))->Q (.ref pn) H'):zfK C vs H Q E
theorem zln:zav ["self"] ["self"] (zag zi6):=⟨J,J,J,by decide +kernel,J,by decide +kernel,by decide +kernel⟩
theorem zj9{f C:Addr}{fd:FuncData}(F:Fun K "begin_anew" "Reader.begin_anew" zi6 f fd)(B:Txt3 K mg C):FnOk P w K mg base CX0 1 f fd ["self"] (zd5 C):=by
 refine F.ok zln (λvs H Q E h=>?_) (λcdv A outer s H vs Q E L h=>?_)
 .obtain⟨r,dx,fs,rfl,_⟩:=h;rfl
 .obtain⟨r,dx,fs,rfl,J0,M,k⟩:=h;refine⟨_,zac (zbB (pv 0) zaH J) (zac (zbB (pv 0) zaf J) (zai (zbB (pv 0) (zaN zae) J))),?_⟩;dsimp only[cxOf,Cx.nox,Cx.wish];have O:=zfa "rest" (.str (Str.ofString "")) fs;have R:=zfa "place" (.int 0) (putF "rest" (.str (Str.ofString "")) fs);refine⟨_,J,r,C,dx,fs,J,J0,B.cl,B.nR,by omega,_,J,r,C,dx,_,J,zab,B.cl,B.nP,by omega,Nat.zero_le _,λq D=>?_⟩;have G:r≠q:=zad (zab (H:=upd H r (.ins C dx (putF "rest" (.str (Str.ofString "")) fs))) (a:=r)) D;refine⟨_,J,r,C,dx,_,J,by rw[zah G];exact zab,B.cl,B.nD,by omega,?_⟩;rw[zah G.symm,zah G.symm] at D;refine k q _ D (λb o I e=>?_) ?_ zab
  .rw[zah I,zah (zad e D),zah I,zah I];exact e
  .rw[zah G.symm];exact zab
theorem zl1:zav ["self","book"] ["self","book"] (zag mInit):=⟨J,J,J,by decide +kernel,J,by decide +kernel,by decide +kernel⟩
theorem zlo{f C G:Addr}{fd I:FuncData}(F:Fun K "__init__" "Reader.__init__" mInit f fd)(B:Txt3 K mg C)(M:Meth K C "begin_anew" G)(O:Binds K I ["self"] [])(R:FnOk P w K mg base CX0 1 G I ["self"] (zd5 C)):FnOk P w K mg base CX0 2 f fd ["self","book"] (zg0 C):=by
 refine F.ok zl1 (λvs H Q E h=>?_) (λcdv A outer s H vs Q E S h=>?_)
 .obtain⟨r,v,dx,rfl,_⟩:=h;rfl
 .obtain⟨r,v,dx,rfl,U,k⟩:=h;refine⟨_,zac (zbB (pv 0) (pv 1) J) (zai (zaP (zcH (pv 0) B.cl M R S O .nil pass0))),?_⟩;dsimp only[cxOf,Cx.nox,Cx.wish];refine⟨_,J,_,J,r,C,dx,[],J,U,B.cl,B.nB,by decide,?_⟩;refine⟨_,J,r,dx,_,J,zab,(by rw[zcu,if_neg (by decide +kernel)];rfl),r,dx,_,J,zab,by show (1:Nat)<900;decide,λq H' D V W J0=>?_⟩;rw[zi9] at J0;have Y:H q=none:=by
   by_cases e:q=r
   .rw[e,zab] at D;cases D
   .rwa [zah e] at D
  exact k q H' Y (λb o L e=>V b o L (by rw[zah L];exact e)) W J0
theorem scHand:zav ["self","found","told","many"] ["self","found"] (zag mHand):=⟨J,J,J,by decide +kernel,J,by decide +kernel,by decide +kernel⟩
theorem ndSS:(["step","self"]:List Str).Nodup:=by decide +kernel
theorem ndS1:(["step"]:List Str).Nodup:=by decide +kernel
theorem zme:bootBuiltins "sum"=some (.builtin "sum"):=by decide +kernel
theorem zlp{f C O:Addr}{fd ad:FuncData}(F:Fun K "hand_out" "Reader.hand_out" mHand f fd)(T:TxtB mg)(D:Txt3 K mg C)(ao:W.keepIn K (.ref O)=true)(ap:Binds K ad ["step","by"] [])(aq:mg "moved"=some (.ref O))(ar:FnOk P w K mg base CX0 1 O ad ["step","by"] zdY):FnOk P w K mg base CX0 2 f fd ["self","found"] (zfK C):=by
 refine F.ok scHand (λvs H Q E h=>?_) (λcdv A outer s H vs Q E as h=>?_)
 .obtain⟨z,r,dx,v,rs,q,p,J0,B,pl,n,rfl,_⟩:=h;rfl
 .obtain⟨z,r,dx,v,rs,q,p,J0,B,pl,n,rfl,au,R,L,S,av,aJ,aK,aL,k⟩:=h;have ae:=scHand.nd;refine⟨_,zac (zb0 (N':=["step","self"]) (js:=[none,some 0]) (i:=2) J J ae J (Or.inl J) (zbl (zag mHand) (by decide +kernel)) ⟨J,Or.inr (Or.inl J),J,trivial⟩
     (zbc (pv 1)) (λcl s H fp=>zaq (i:=0) ndSS J (Or.inl J)) (λcl s H fp=>zbh) (λcl s H fp=>zat ar as J aq ao ap .nil pass0 (zaa (pv 0) (zaa (zlm (pv 1)) zae))))
   (zac (zan (i:=3) ae J (Or.inl J) (zar (zgA J) (by rfl) D.sum zme (zaa (za6 (N':=["step"]) (js:=[none]) J J (zbl (zag mHand) (by decide +kernel)) trivial (zbc (pv 1)) (λcl s H fp=>zaq (i:=0) ndS1 J (Or.inl J)) (λcl s H fp=>zbh) (λcl s H fp=>zay zb1 (pv 0) zaf (λ_ _=>rfl))) zae)))
   (zac (zbB (pv 0) (zaA zbp (zaG (pv 0) J) (zaD (pv 3)) zaL) J)
   (zac (zfg (pv 0) (pv 3) zlB)
   (zai (zaw (pv 2)))))),?_⟩
  dsimp only[cxOf,Cx.nox,Cx.wish];have aM:=zaW;have aN:(100000:Nat)<=sizeLine:=by rw[sizeLine_eq];decide
  have af:J0.length=B.length:=by have:=S.length;simpa using this
  refine⟨_,J,p,J,⟨_,SqL.of L⟩,λpn M=>?_⟩;have ag:p≠pn:=zad L M;refine zbF (z:=z) (λ_=>true) (λj=>stD (mvS pl (B.getD j st0))) (λσ=>∃u,σ=[u,some (.ref r)]) ⟨none,J⟩ M (by omega) (za7 (xs:=J0) (by rw[zah ag];exact L) ag) (λj=>zkw _) (λj σ H2 aO aP aw ⟨ax,hw⟩ G ay _=>?_) (λσ H2 fn G az ah=>?_)
  .subst hw;obtain⟨U,e,aA,Y,ai⟩:=zcA ((zcB (t:=j) S (by omega)).mono G.x);rw[e];dsimp only[tYes,gName];rw[if_pos rfl];refine⟨_,J,_,J,r,C,dx,_,_,J,G _ _ R,D.cl,D.nP,zgW v rs pl q,U,(pl:Int),B.getD j st0,J,Y,λpm Z I nm aB=>?_⟩;exact ay rfl _ (.ref pm) Z ⟨_,J⟩ I (zeP aB ((au.same G).ne nm) ai)
  .rw[List.filter_eq_self.mpr (λ_ _=>rfl),af,zds (λs=>stD (mvS pl s)) B] at ah;have aa:=G _ _ L;have aC:=G _ _ R;have aD:=S.mono G.x (z:=z);refine⟨_,J,p,J,⟨_,SqL.of aa⟩,λpS aj=>?_⟩;have ak:p≠pS:=zad aa aj;refine zbE (λj=>some (V.int (B.getD j st0).2.1)) (λσ=>∃u,σ=[u]) ⟨none,J⟩ aj (by omega) (za7 (xs:=J0) (by rw[zah ak];exact aa) ak) (λj σ Z aQ aw ⟨ax,hw⟩ I aE=>?_) (λσ Z I ab=>?_)
   .subst hw;obtain⟨U,e,aA,Y,ai⟩:=zcA ((zcB (t:=j) aD (by omega)).mono I.x);rw[e];dsimp only[tYes,gName];rw[if_pos rfl];exact⟨_,J,U,_,1,_,J,J,SqT.of Y,zal (j:=1) J,aE _ _ ⟨_,J⟩ (Same.refl _)⟩
   .rw[zbH,af,zds (λs=>V.int s.2.1) B] at ab;have aF:B.map (λs=>V.int s.2.1)=(B.map (·.2.1)).map V.int:=by rw[List.map_map];rfl
    rw[aF] at ab;refine⟨pS,_,J,SqL.of ab,?_⟩;rw[av];have ac:=I _ _ aC;refine⟨_,J,r,C,dx,_,_,J,ac,D.cl,D.nR,ze8 v rs pl q,_,J,_,J,rs,J,by omega,_,J,r,C,dx,_,J,ac,D.cl,D.nR,by show (4:Nat)<1000;decide,?_⟩;rw[ze9];refine⟨_,J,r,C,dx,_,_,J,zab,D.cl,D.nP,zgW v _ pl q,_,J,_,_,J,J,dx,_,zab,by show (4:Nat)<1000;decide,?_⟩;rw[zfH];have aG:=G.trans I;have al:pn≠r:=(zad R M).symm;refine⟨_,J,k pn fn _ (λb o am e=>?_) M ?_ ?_ ?_⟩
    .rw[zah am,zah am];exact aG b o e
    .rw[zah al,zah al];exact I _ _ az
    .have aH:(B.map (mvS pl)).map stD=B.map (λs=>stD (mvS pl s)):=by rw[List.map_map];rfl
     rw[aH];exact Reps.insU zab (Reps.insU ac (ah.mono I.x))
    .rw[zab];have aI:((pl:Int)+(n:Int))=((pl+n:Nat):Int):=by omega
     rw[aI];rfl
inductive zg1(tb C:Addr):List V->Hp->VK->XK->Prop where
 |mk {vs:List V} {H:Hp} {Q:VK} {E:XK} (z r dx v b rs q ds pc:_) (pl:Nat) (c1:vs=[.ref r,.str pc]) (c2:Bag z H) (c3:H r=some (.ins C dx (rdF v rs pl q))) (c4:q≠z) (c5:Rep z H v (bkD b)) (c6:BkOk b) (c7:PDs z H q ds) (c8:LdBk b ds) (c9:ds.length+(rs.length+pc.length)<=20000) (c10:LamTb tb H) (c11:∀p fv n H',But3 r q tb H H'->H p=none->H' p=some (.lst fv)->(∀j,j<n->(it0 b (rs++pc) ds j).at_<(rs++pc).length/\sureB b (it0 b (rs++pc) ds j).ds (rs++pc) (it0 b (rs++pc) ds j).at_=true)->¬((it0 b (rs++pc) ds n).at_<(rs++pc).length/\sureB b (it0 b (rs++pc) ds n).ds (rs++pc) (it0 b (rs++pc) ds n).at_=true)->Reps z H' fv (((it0 b (rs++pc) ds n).ss.map (mvS pl)).map stD)->H' r=some (.ins C dx (rdF v (restS (rs++pc) (it0 b (rs++pc) ds n).at_) ((pl+(it0 b (rs++pc) ds n).at_:Nat):Int) q))->PDs z H' q (it0 b (rs++pc) ds n).ds->Bag z H'->LamTb tb H'->Q (.ref p) H'):zg1 tb C vs H Q E
inductive zdB(tb C:Addr):List V->Hp->VK->XK->Prop where
 |mk {vs:List V} {H:Hp} {Q:VK} {E:XK} (z r dx v b rs q ds:_) (pl:Nat) (c1:vs=[.ref r]) (c2:Bag z H) (c3:H r=some (.ins C dx (rdF v rs pl q))) (c4:q≠z) (c5:Rep z H v (bkD b)) (c6:BkOk b) (c7:PDs z H q ds) (c8:LdBk b ds) (c9:ds.length+rs.length<=20000) (c10:LamTb tb H) (c11:∀p fv n q' H',But3 r q tb H H'->H p=none->H q'=none->q'≠p->H' p=some (.lst fv)->(∀j,j<n->(it0 b rs ds j).at_<rs.length)->(it0 b rs ds n).at_=rs.length->Reps z H' fv (((it0 b rs ds n).ss.map (mvS pl)).map stD)->H' r=some (.ins C dx (rdF v (Str.ofString "") 0 q'))->H' q'=some (.lst [])->Bag z H'->LamTb tb H'->Q (.ref p) H'):zdB tb C vs H Q E
theorem zcW{tb r C dx:Addr}{H H':Hp}{fs:List (Str×V)}(B:H r=some (.ins C dx fs))(s:SameX r H H')(h:LamTb tb H):LamTb tb H':=by
 rcases h with h|⟨D,h1,h2⟩
 .exact .inl (s _ _ (zao h B (by intro q;cases q)) h)
 .exact .inr ⟨D,s _ _ (zao h1 B (by intro q;cases q)) h1,s _ _ (zao h2 B (by intro q;cases q)) h2⟩
mutual
theorem Rep.sameR{z r C dx:Addr}{H H':Hp}{fs:List (Str×V)}(B:H r=some (.ins C dx fs))(s:SameX r H H'):∀ {v:V}{d:D},Rep z H v d->Rep z H' v d
 |_,_,.non=>.non
 |_,_,.bl b=>.bl b
 |_,_,.int i=>.int i
 |_,_,.str x h=>.str x h
 |_,_,.tup h F G=>.tup (s _ _ (zao h B (by intro q;cases q)) h) F (Reps.sameR B s G)
 |_,_,.lst h F G=>.lst (s _ _ (zao h B (by intro q;cases q)) h) F (Reps.sameR B s G)
theorem Reps.sameR{z r C dx:Addr}{H H':Hp}{fs:List (Str×V)}(B:H r=some (.ins C dx fs))(s:SameX r H H'):∀ {vs:List V}{ds:List D},Reps z H vs ds->Reps z H' vs ds
 |_,_,.nil=>.nil
 |_,_,.cons h k=>.cons (Rep.sameR B s h) (Reps.sameR B s k)
end
theorem zcX{z r C dx:Addr}{H H':Hp}{fs:List (Str×V)}(B:H r=some (.ins C dx fs))(s:SameX r H H')(h:Bag z H):Bag z H':=by
 obtain⟨D,F,e⟩:=h;exact⟨D,F,s _ _ (zao e B (by intro q;cases q)) e⟩
theorem zfL{z r q C dx:Addr}{H H':Hp}{fs:List (Str×V)}{ds:List LDr}(B:H r=some (.ins C dx fs))(s:SameX r H H')(h:PDs z H q ds):PDs z H' q ds:=by
 obtain⟨F,D,R⟩:=h;exact⟨F,s _ _ (zao D B (by intro q;cases q)) D,Reps.sameR B s R⟩
theorem zl2:zav ["self","piece"] ["self","piece"] (zag mFeed):=⟨J,J,J,by decide +kernel,J,by decide +kernel,by decide +kernel⟩
theorem zlq{f C tb R Z:Addr}{fd aa ab:FuncData}(F:Fun K "feed" "Reader.feed" mFeed f fd)(B:Txt3 K mg C)(al:W.keepIn K (.ref R)=true)(am:Binds K aa ["book","part","doors"] [])(ao:mg "sure_steps"=some (.ref R))(ap:FnOk P w K mg base CX0 5 R aa ["book","part","doors"] (zbI tb))(aq:Meth K C "hand_out" Z)(ar:Binds K ab ["self","found"] [])(as:FnOk P w K mg base CX0 2 Z ab ["self","found"] (zfK C)):FnOk P w K mg base CX0 6 f fd ["self","piece"] (zg1 tb C):=by
 refine F.ok zl2 (λvs H Q E h=>?_) (λcdv A outer s H vs Q E ac h=>?_)
 .obtain⟨z,r,dx,v,b,rs,q,ds,G,pl,rfl,_⟩:=h;rfl
 .obtain⟨z,r,dx,v,b,rs,q,ds,G,pl,rfl,au,I,av,aw,ad,ax,ae,aS,ay,k⟩:=h;have az:Room 2 _:=ac.mono (by decide);obtain⟨aA,aT,aB,_⟩:=id ad;refine⟨_,zac (zfg (pv 0) (pv 1) zkR)
   (zai (zaw (zaZ (pv 0) B.cl aq as az ar .nil pass0 (zaa (zat ap ac J ao al am .nil pass0 (zaa (zaG (pv 0) J) (zaa (zaG (pv 0) J) (zaa (zaG (pv 0) J) zae)))) zae)))),?_⟩
  dsimp only[cxOf,Cx.nox,Cx.wish];have aU:(100000:Nat)<=sizeLine:=by rw[sizeLine_eq];decide
  refine⟨_,J,r,C,dx,_,_,J,I,B.cl,B.nR,ze8 v rs pl q,_,J,rs,G,J,J,by omega,dx,_,I,by show (4:Nat)<1000;decide,?_⟩;rw[ze9];have aV:(rs++G).length=rs.length+G.length:=zbS rs G;generalize aW:rs++G=y at *;have J0:SameX r H (upd H r (.ins C dx (rdF v y pl q))):=SameX.refl.upd;have D:upd H r (.ins C dx (rdF v y pl q)) r=some (.ins C dx (rdF v y pl q)):=zab;have af:=Rep.sameR I J0 aw;have ag:=zcX I J0 au;have S:=zfL I J0 ax;have T1:=zcW I J0 ay;have ah:∀ {a:Addr},upd H r (.ins C dx (rdF v y pl q)) a=none->H a=none:=λ{a} e=>by
   by_cases h:a=r
   .rw[h,zab] at e;cases e
   .rwa [zah h] at e
  generalize upd H r (.ins C dx (rdF v y pl q))=H1 at J0 D af ag S T1 ah;refine⟨_,J,r,dx,_,J,D,zd2 (by simp),?_⟩;refine⟨_,J,r,C,dx,_,_,J,D,B.cl,B.nB,zi7 v y pl q,_,J,r,C,dx,_,_,J,D,B.cl,B.nR,ze8 v y pl q,_,J,r,C,dx,_,_,J,D,B.cl,B.nD,zgX v y pl q,?_⟩;refine⟨z,v,b,q,ds,y,J,ag,av,af,ad,S,ae,by omega,T1,λp aC n H2 U aX aD aE aF aG ai aj ak=>?_⟩;obtain⟨aY,aH,_⟩:=id S;obtain⟨aZ,aI⟩:=T1.tbl;have M:=U _ _ (zao D aH (by intro q;cases q)) (zao D aI (by intro q;cases q)) D;have V:ItOk2 b y ds (it0 b y ds n):=zeM (x:=y) aB aA ae n;have a0:=V.sl;have aJ:=V.le;refine⟨z,r,dx,v,y,q,p,aC,(it0 b y ds n).ss,pl,(it0 b y ds n).at_,J,aj,M,aD,aG,V.sum,aJ,by omega,by omega,λpn fn aK O L aL aM aN=>?_⟩;have aO:H1 pn=none:=by
   cases e:H1 pn with
   |none=>rfl
   |some o=>
    exfalso;by_cases h1:pn=q
    .obtain⟨a1,aP,_⟩:=ai;rw[h1,aP] at L;cases L
    .by_cases h2:pn=tb
     .obtain⟨a2,aQ⟩:=ak.tbl;rw[h2,aQ] at L;cases L
     .rw[U pn o h1 h2 e] at L;cases L
  refine k pn fn n aK (λY o h1 h2 aR e=>O Y o h1 (U Y o h2 aR (J0 Y o h1 e))) (ah aO) aL aE aF aM aN (zfL M O ai) (zcX M O aj) (zcW M O ak)
theorem scFinish:zav ["self","told"] ["self"] (zag zgh):=⟨J,J,J,by decide +kernel,J,by decide +kernel,by decide +kernel⟩
theorem zjg{f C tb O aa ab:Addr}{fd ac ad ae:FuncData}(F:Fun K "finish" "Reader.finish" zgh f fd)(B:Txt3 K mg C)(ao:W.keepIn K (.ref O)=true)(ap:Binds K ac ["book","text","doors"] [])(aq:mg "read_on"=some (.ref O))(ar:FnOk P w K mg base CX0 5 O ac ["book","text","doors"] (spOnG tb))(as:Meth K C "hand_out" aa)(au:Binds K ad ["self","found"] [])(av:FnOk P w K mg base CX0 2 aa ad ["self","found"] (zfK C))(aw:Meth K C "begin_anew" ab)(ax:Binds K ae ["self"] [])(ay:FnOk P w K mg base CX0 1 ab ae ["self"] (zd5 C)):FnOk P w K mg base CX0 6 f fd ["self"] (zdB tb C):=by
 refine F.ok scFinish (λvs H Q E h=>?_) (λcdv A outer s H vs Q E R h=>?_)
 .obtain⟨z,r,dx,v,b,rs,q,ds,pl,rfl,_⟩:=h;rfl
 .obtain⟨z,r,dx,v,b,rs,q,ds,pl,rfl,az,D,aA,aB,af,ag,ah,aZ,ai,k⟩:=h;have aC:=scFinish.nd;have aD:Room 2 _:=R.mono (by decide);have aE:Room 1 _:=R.mono (by decide);obtain⟨aF,a0,aG,_⟩:=id af;refine⟨_,zac (zan (i:=1) aC J (Or.inl J) (zaZ (pv 0) B.cl as av aD au .nil pass0 (zaa (zat ar R J aq ao ap .nil pass0 (zaa (zaG (pv 0) J) (zaa (zaG (pv 0) J) (zaa (zaG (pv 0) J) zae)))) zae)))
   (zac (zaP (zcH (pv 0) B.cl aw ay aE ax .nil pass0))
   (zai (zaw (pv 1)))),?_⟩
  dsimp only[cxOf,Cx.nox,Cx.wish];have a1:(100000:Nat)<=sizeLine:=by rw[sizeLine_eq];decide
  refine⟨_,J,r,dx,_,J,D,zd2 (by simp),?_⟩;refine⟨_,J,r,C,dx,_,_,J,D,B.cl,B.nB,zi7 v rs pl q,_,J,r,C,dx,_,_,J,D,B.cl,B.nR,ze8 v rs pl q,_,J,r,C,dx,_,_,J,D,B.cl,B.nD,zgX v rs pl q,?_⟩;refine⟨z,v,b,q,ds,rs,J,az,aA,aB,af,ag,ah,by omega,ai,λp aH n H2 S a2 aI aJ aK aL aM aj ak=>?_⟩;obtain⟨a3,aN,_⟩:=id ag;obtain⟨a4,aO⟩:=ai.tbl;have U:=S _ _ (zao D aN (by intro q;cases q)) (zao D aO (by intro q;cases q)) D;have V:ItOk2 b rs ds (it0 b rs ds n):=zeM (x:=rs) aG aF ah n;have a5:=V.sl;have aP:=V.le;refine⟨z,r,dx,v,rs,q,p,aH,(it0 b rs ds n).ss,pl,(it0 b rs ds n).at_,J,aj,U,aI,aL,V.sum,aP,by omega,by omega,λpn fn a6 M aQ Y aR G=>?_⟩;have al:∀ {a:Addr},H2 a=none->H a=none:=λ{a} I=>by
   cases e:H a with
   |none=>rfl
   |some o=>
    exfalso;by_cases h1:a=q
    .obtain⟨a7,aS,_⟩:=aM;rw[h1,aS] at I;cases I
    .by_cases h2:a=tb
     .obtain⟨a8,aT⟩:=ak.tbl;rw[h2,aT] at I;cases I
     .rw[S a o h1 h2 e] at I;cases I
  refine⟨_,J,r,dx,_,J,G,zd2 (by simp),r,dx,_,J,G,by show (4:Nat)<900;decide,λq' aU J0 L aV am=>?_⟩;rw[ze9,zfH,zi8] at am;have aW:=L _ _ (zao Y G (by intro q;cases q)) Y;have aX:H2 q'=none:=by
   cases e:H2 q' with
   |none=>rfl
   |some o=>
    exfalso;by_cases h1:q'=r
    .rw[h1,G] at J0;cases J0
    .rw[M q' o h1 e] at J0;cases J0
  refine⟨_,J,k pn fn n q' aU (λZ o h1 h2 aY e=>L Z o h1 (M Z o h1 (S Z o h2 aY e))) (al aQ) (al aX) (zad Y J0).symm aW aJ aK (Reps.sameR G L aR) am aV (zcX G L (zcX U M aj)) (zcW G L (zcW U M ak))⟩
inductive zcs(tb:Addr):List V->Hp->VK->XK->Prop where
 |mk {vs:List V} {H:Hp} {Q:VK} {E:XK} (z v b x:_) (c1:vs=[v,.str x]) (c2:Bag z H) (c3:Rep z H v (bkD b)) (c4:BkOk b) (c5:x.length<=20000) (c6:LamTb tb H) (c7:∀p n H',ButX tb H H'->H p=none->(runF b x n).at_=x.length->Rep z H' (.ref p) (.tup ((runF b x n).ds.map pdD))->Bag z H'->LamTb tb H'->Q (.ref p) H'):zcs tb vs H Q E
theorem scStanding:zav ["book","text","doors"] ["book","text"] (zag zdQ):=⟨J,J,J,by decide +kernel,J,by decide +kernel,by decide +kernel⟩
theorem zgk{f tb J0:Addr}{fd M:FuncData}(F:Fun K "standing" "standing" zdQ f fd)(T:TxtB mg)(aa:W.keepIn K (.ref J0)=true)(ab:Binds K M ["book","text","doors"] [])(ac:mg "read_on"=some (.ref J0))(ad:FnOk P w K mg base CX0 5 J0 M ["book","text","doors"] (spOn tb)):FnOk P w K mg base CX0 6 f fd ["book","text"] (zcs tb):=by
 refine F.ok scStanding (λvs H Q E h=>?_) (λcdv A outer s H vs Q E ae h=>?_)
 .obtain⟨z,v,b,x,rfl,_⟩:=h;rfl
 .obtain⟨z,v,b,x,rfl,O,af,ag,ah,R,k⟩:=h;have ai:=scStanding.nd;refine⟨_,zac (zan (i:=2) ai J (Or.inl J) (zaN zae))
   (zac (zaP (zat ad ae J ac aa ab .nil pass0 (zaa (pv 0) (zaa (pv 1) (zaa (pv 2) zae)))))
   (zai (zaw (zbx zbD (by rfl) T.tuple zew (zaa (pv 2) zae))))),?_⟩
  dsimp only[cxOf,Cx.nox,Cx.wish];refine⟨Nat.zero_le _,λq G=>?_⟩;have D:=Same.new (o:=.lst []) G;refine⟨_,J,_,J,_,J,z,v,b,q,x,J,O.same D,O.ne G,af.mono D.x,ag,zab,ah,R.same D,λp aq n H2 S ar as aj au ak U V=>?_⟩;obtain⟨Y,al,am⟩:=ak;refine⟨_,J,q,Y,J,.inl ⟨SqL.of al,λl B=>?_⟩⟩;have I:=Same.new (o:=.tup Y) B;have ao:=U.same I;refine k l n _ (λL o h e=>I L o (S L o (zad e G) h (D L o e))) ?_ aj (.tup zab (U.ne B) (am.mono I.x)) ao (V.same I);cases e:H l with
  |none=>rfl
  |some o=>
   exfalso;obtain⟨ps,av⟩:=R.tbl;by_cases Z:l=tb
   .obtain⟨aw,ap⟩:=V.tbl;rw[Z,ap] at B;cases B
   .have:=S l o (zad e G) Z (D l o e);rw[this] at B;cases B
inductive zfb(tb:Addr):List V->Hp->VK->XK->Prop where
 |mk {vs:List V} {H:Hp} {Q:VK} {E:XK} (z v b x:_) (c1:vs=[v,.str x]) (c2:Bag z H) (c3:Rep z H v (bkD b)) (c4:BkOk b) (c5:x.length<=20000) (c6:LamTb tb H) (c7:∀p fv n H',ButX tb H H'->H p=none->H' p=some (.lst fv)->(runF b x n).at_=x.length->Reps z H' fv (((runF b x n).ds++cutL (runF b x n).ss).map ldD)->Bag z H'->LamTb tb H'->Q (.ref p) H'):zfb tb vs H Q E
theorem LamT.free{tb l:Addr}{H H':Hp}(F:LamTb tb H')(G:ButX tb H H')(B:H' l=none):H l=none:=by
 cases e:H l with
 |none=>rfl
 |some o=>
  exfalso;by_cases D:l=tb
  .obtain⟨J0,I⟩:=F.tbl;rw[D,I] at B;cases B
  .rw[G l o D e] at B;cases B
theorem scUnfin:zav ["book","text","doors","told","ends","place","many","word","tongue","depth"] ["book","text"] (zag zgE):=⟨J,J,J,by decide +kernel,J,by decide +kernel,by decide +kernel⟩
theorem ndPIC:(["place","inner","close"]:List Str).Nodup:=by decide +kernel
theorem zka{f tb ak al:Addr}{fd aA aB:FuncData}(F:Fun K "unfinished" "unfinished" zgE f fd)(a2:mg "zip"=none)(a3:W.keepIn K (.ref ak)=true)(a4:Binds K aA ["book","text","doors"] [])(a5:mg "read_on"=some (.ref ak))(a6:FnOk P w K mg base CX0 5 ak aA ["book","text","doors"] (spOn tb))(a7:W.keepIn K (.ref al)=true)(a8:Binds K aB ["told"] [])(a9:mg "places_left_open"=some (.ref al))(ba:FnOk P w K mg base CX0 1 al aB ["told"] zgZ):FnOk P w K mg base CX0 6 f fd ["book","text"] (zfb tb):=by
 refine F.ok scUnfin (λvs H Q E h=>?_) (λcdv A outer s H vs Q E aC h=>?_)
 .obtain⟨z,v,b,x,rfl,_⟩:=h;rfl
 .obtain⟨z,v,b,x,rfl,aD,bb,aE,bc,bd,k⟩:=h;have R:=scUnfin.nd;have be:Room 1 _:=aC.mono (by decide);obtain⟨bf,bY,bg,_⟩:=id aE;refine⟨_,zac (zan (i:=2) R J (Or.inl J) (zaN zae))
   (zac (zan (i:=3) R J (Or.inl J) (zat a6 aC J a5 a3 a4 .nil pass0 (zaa (pv 0) (zaa (pv 1) (zaa (pv 2) zae)))))
   (zac (zb0 (N':=["place","inner","close"]) (js:=[none,none,none]) (i:=4) J J R J (Or.inl J) (zbl (zag zgE) (by decide +kernel)) trivial
    (zlG J a2 (zaa (zat ba be J a9 a7 a8 .nil pass0 (zaa (pv 3) zae)) (zaa (pv 2) zae)))
    (λcl s H fp=>zex 2 rfl (zas (zaq (i:=0) ndPIC J (Or.inl J) (Or.inr J)) (zas (zex 2 rfl (zas (zaq (i:=1) ndPIC J (Or.inl J) (Or.inr J)) (zas (zaq (i:=2) ndPIC J (Or.inl J) (Or.inr J)) za2))) za2)))
    (λcl s H fp=>zbh) (λcl s H fp=>zaV (zaa (pv 0) (zaa (pv 1) (zaa (pv 2) zae)))))
   (zac (za9 (PW.pt (zcE (zdj (pv 3) (λ_=>rfl)) (zb9 (zau zb8 (zay zaE (zay zaB (pv 3) (zbK zbd zaf) (λ_ _=>rfl)) zaf (λ_ _=>rfl)) zaH (zaz _)))))
    (zac (zbw (zay zaB (pv 3) (zbK zbd zaf) (λ_ _=>rfl)) (zbG J (zas (zaq (i:=5) R J (Or.inl J)) (zas (zaq (i:=6) R J (Or.inl J)) (zas (zaq (i:=7) R J (Or.inl J)) (zas (zaq (i:=8) R J (Or.inl J)) (zas (zaq (i:=9) R J (Or.inl J)) za2)))))))
    (zai (zaP (zbL PySem.F.plainAttrs_list PySem.F.slot_list_append PySem.F.type_list_append zaK (pv 4) (zaa (zaV (zaa (pv 5) (zaa (pv 8) (zaa zaH zae)))) zae))))) zaC)
   (zai (zaw (pv 4)))))),?_⟩
  dsimp only[cxOf,Cx.nox,Cx.wish];have bZ:=zaW;have b0:(100000:Nat)<=sizeLine:=by rw[sizeLine_eq];decide
  refine⟨Nat.zero_le _,λq am=>?_⟩;have ab:=Same.new (o:=.lst []) am;refine⟨_,J,_,J,_,J,z,v,b,q,x,J,aD.same ab,aD.ne am,bb.mono ab.x,aE,zab,bc,bd.same ab,λp D n H2 bh b1 aF aG ao bi bj aH=>?_⟩;have aI:ButX tb H H2:=λB o h e=>bh B o (zad e am) h (ab B o e);obtain⟨ac,aJ,aK⟩:=bi;obtain⟨bk,bl⟩:=zgY b x n;have aL:=zaX (x:=x) bg bf n;have bm:=aL.sl;have bn:=aL.dl;rw[aG] at bm bn;generalize bo:(runF b x n).ss=L at *;generalize bp:(runF b x n).ds=ds at *;have b2:D.length=L.length:=by have:=ao.length;simpa using this
  have bq:ac.length=ds.length:=by have:=aK.length;simpa using this
  refine⟨_,J,z,p,D,L,J,aF,ao,bl,by omega,λpl ap O br ad=>?_⟩;rw[bk] at ad;have aq:=O _ _ aJ;have b3:pl≠q:=(zad aJ br).symm;refine⟨_,J,pl,q,J,⟨_,SqL.of ad⟩,⟨_,SqL.of aq⟩,λM Z=>?_⟩;have bs:=Same.new (o:=.lst []) Z;have ar:=bj.same O;have bt:M≠z:=ar.ne Z;have bu:q≠M:=zad aq Z;have bv:pl≠M:=zad ad Z;refine zjB (K:=K) (a:=pl) (b:=q) (xs:=(ds.map (·.1)).map V.int) (ys:=ac) (λt σ G=>(∃aM aN aO,σ=[aM,aN,aO])/\SameX M ap G/\∃I,G M=some (.lst I)/\Reps z G I ((ds.take t).map ldD)) ⟨⟨none,none,none,J⟩,bs.x,[],zab,.nil⟩ (by simp[bq]) (λt σ G hw=>⟨SqL.of (hw.2.1 _ _ bv ad),SqL.of (hw.2.1 _ _ bu aq)⟩) ?_ ?_
  .rintro σ G ⟨_,ae,I,aa,S⟩;have e:ds.take ((ds.map (·.1)).map V.int).length=ds:=by rw[List.length_map,List.length_map];exact List.take_length
   rw[e] at S;have U:Same ap G:=λB o e=>ae B o (zad e Z) e;have as:=U _ _ (O _ _ aF);have bw:=(ao.mono O.x (z:=z)).mono U.x (z:=z);have af:=ar.same U;have au:ButX tb H G:=λB o h e=>U B o (O B o (aI B o h e));have av:=(aH.same O).same U;have aP:H M=none:=LamT.free (aH.same O) (λB o h e=>O B o (aI B o h e)) Z;have bx:I.length=ds.length:=by have:=S.length;simpa using this
   have aw:∀(Y:Hp) (ag:List V) (es:List LDr),ButX tb H Y->Y M=some (.lst ag)->Reps z Y ag ((ds++es).map ldD)->es=cutL L->Bag z Y->LamTb tb Y->Q (.ref M) Y:=λY ag es bz bA bB bC bD bE=>k M ag n Y bz aP bA aG (by rw[bp,bo,←bC];exact bB) bD bE;refine⟨_,J,_,.inl ⟨D,SqL.of as,J⟩,?_⟩;cases hss:L.length with
   |zero=>
    have bF:L=[]:=List.eq_nil_of_length_eq_zero hss;have bG:D=[]:=List.eq_nil_of_length_eq_zero (by omega);subst bF;subst bG;refine iteF ?_;refine iteF ?_;refine⟨_,J,aw G I [] au aa (by rw[List.append_nil];exact S) ?_ af av⟩;unfold cutL;rw[if_neg (by simp)]
   |succ m=>
    have bH:D.length=m+1:=by omega
    obtain⟨a,ah,bI,ai,b4⟩:=zcA (zcB (t:=m) bw (by omega));have aQ:atI D (-1)=some (.ref a):=by
     have bJ:ixN D.length (-1)=some (D.length-1):=by
      unfold ixN;rw[if_neg (by decide),if_pos (by omega)];congr 1;omega
     unfold atI;rw[bJ];show D[D.length-1]?=_;have bK:D.length-1=m:=by omega
     rw[bK,←ah,List.getD_eq_getElem?_getD];have:m<D.length:=by omega
     rw[List.getElem?_eq_getElem this];rfl
    have aR:L.getD (L.length-1) st0=L.getD m st0:=by rw[hss];rfl
    have bL:L≠[]:=λq=>by rw[q] at hss;cases hss
    refine ite2 (λ_=>?_) (λbM=>?_)
    case' refine_2=>
     exfalso;cases D with
     |nil=>simp at bH
     |cons _ _=>simp at bM
    refine⟨_,J,1,J,p,D,-1,_,J,J,SqL.of as,aQ,a,_,2,_,J,J,SqT.of ai,zal (j:=2) J,J,_,J,?_⟩;generalize b5:L.getD m st0=st at *;refine ite2 (λg=>?_) (λg=>?_)
    .have g':st.2.2.1=Str.ofString "cut":=by simpa using g
     refine⟨_,J,1,J,p,D,-1,_,J,J,SqL.of as,aQ,a,_,J,SqT.of ai,J,_,_,J,_,_,J,_,_,J,_,_,J,_,_,J,J,?_⟩;refine⟨_,J,.inl ⟨J,_,SqL.of aa⟩,_,J,_,J,by show (3:Nat)<=_;omega,λpt aS=>?_⟩;have J0:=Same.new (o:=.tup [.int st.1,.int st.2.2.2.1,.str (Str.ofString "")]) aS;have ax:=J0 _ _ aa;refine⟨M,I,_,J,J,ax,by omega,?_⟩;have bN:pt≠z:=af.ne aS;have ay:Rep z (upd G pt (.tup [.int st.1,.int st.2.2.2.1,.str (Str.ofString "")])) (.ref pt) (ldD (st.1,st.2.2.2.1,Str.ofString "")):=.tup zab bN (.cons (.int _) (.cons (.int _) (.cons (.str _ (by decide +kernel)) .nil)));refine⟨_,J,aw _ (I++[.ref pt]) [(st.1,st.2.2.2.1,Str.ofString "")] ?_ zab ?_ ?_ ?_ ?_⟩
     .exact λB o h e=>by rw[zah (zad e aP)];exact J0 B o (au B o h e)
     .rw[List.map_append];exact Reps.updL ax ((S.mono J0.x).append (.cons ay .nil)) ((zbr _).append (zbr [_]))
     .unfold cutL;rw[aR,if_pos ⟨bL,g'⟩]
     .obtain⟨bO,bP,bQ⟩:=af.same J0;exact⟨bO,bP,by rw[zah bt.symm];exact bQ⟩
     .exact(av.same J0).sameX ax SameX.refl.upd
    .have g':st.2.2.1≠Str.ofString "cut":=by simpa using g
     refine⟨_,J,aw G I [] au aa (by rw[List.append_nil];exact S) ?_ af av⟩;unfold cutL;rw[aR,if_neg (λq=>g' q.2)]
  .rintro t σ G aT aU aV ⟨⟨aM,aN,aO,rfl⟩,ae,I,aa,S⟩ aW aX bR;have aj:t<ds.length:=by have:=(List.getElem?_eq_some_iff.mp aX).1;omega
   have bS:aU=.int (ds.getD t ld0).1:=by
    rw[List.getElem?_map,List.getElem?_map,List.getElem?_eq_getElem aj] at aW;rw[List.getD_eq_getElem?_getD,List.getElem?_eq_getElem aj];exact(Option.some.inj aW).symm
   have bT:aV=ac.getD t .non:=by rw[List.getD_eq_getElem?_getD,aX];rfl
   have U:Same ap G:=λB o e=>ae B o (zad e Z) e;have aY:Rep z G (ac.getD t .non) (pdD (ds.getD t ld0)):=by
    have:=((aK.mono O.x (z:=z)).mono U.x (z:=z)).get (i:=t) (by simp;omega);simpa [aj] using this
   obtain⟨a,ah,bI,ai⟩:=ziw aY;have J0:=Same.new (o:=.tup [aU,aV]) bR;rw[bS,bT,ah] at J0 ⊢;refine⟨aT,_,J,SqT.of zab,J,_,_,J,_,_,J,⟨a,_,J,SqT.of (J0 _ _ ai),J,_,_,J,_,_,J,J,?_⟩⟩;refine⟨J,?_⟩;dsimp only[tYes];rw[if_pos rfl];refine⟨_,J,_,J,_,J,by show (3:Nat)<=_;omega,λpn aZ=>?_⟩;have az:=Same.new (o:=.tup [.int (ds.getD t ld0).1,.int (ds.getD t ld0).2.1,.str (ds.getD t ld0).2.2]) aZ;have a0:=az _ _ (J0 _ _ aa);have bx:I.length<=ds.length:=by
    have:=S.length;rw[List.length_map,List.length_take] at this;omega
   have bU:pn≠z:=(((ar.same U)).same J0).ne aZ;have bV:(ds.getD t ld0).2.2.length<=1000:=by
    have a1:=aY;rw[ah] at a1;cases a1 with
    |tup h b6 r=>
     cases r with
     |cons _ r=>
      cases r with
      |cons bW _=>
       cases bW with
       |str _ bX=>exact bX
   refine⟨I,a0,by omega,⟨_,_,_,J⟩,((ae.trans J0.x).trans az.x).upd,I++[.ref pn],zab,?_⟩;have ay:Rep z (upd (upd G aT (.tup [.int (ds.getD t ld0).1,.ref a])) pn (.tup [.int (ds.getD t ld0).1,.int (ds.getD t ld0).2.1,.str (ds.getD t ld0).2.2])) (.ref pn) (ldD (ds.getD t ld0)):=.tup zab bU (.cons (.int _) (.cons (.int _) (.cons (.str _ bV) .nil)));have e:ds.take (t+1)=ds.take t++[ds.getD t ld0]:=by
    rw[List.take_succ,List.getD_eq_getElem?_getD,List.getElem?_eq_getElem aj];rfl
   rw[e,List.map_append];exact Reps.updL a0 (((S.mono J0.x).mono az.x).append (.cons ay .nil)) ((zbr _).append (zbr [_]))
theorem zkb{z:Addr}{H:Hp}{v:V}{m:Str×Str}{o:Dr}{i:Bool}(h:Rep z H v (bkD (dpB m o i))):∃a t d e G I,v=.ref a/\H a=some (.tup [.ref t,G])/\H t=some (.tup [.str (Str.ofString ""),.ref d])/\H d=some (.tup [.ref e,I])/\H e=some (.tup [.str m.1,.int 0,.str m.2]):=by
 cases h with
 |tup J0 _ r=>
  cases r with
  |cons B r=>
   cases r with
   |cons _ r=>
    cases r;cases B with
    |tup L _ B=>
     cases B with
     |cons M B=>
      cases M;cases B with
      |cons O B=>
       cases B;cases O with
       |tup R _ F=>
        cases F with
        |cons S F=>
         cases F with
         |cons _ F=>
          cases F;cases S with
          |tup U _ D=>
           cases D with
           |cons q1 D=>
            cases q1;cases D with
            |cons W D=>
             cases W;cases D with
             |cons Y D=>
              cases Y;cases D;exact⟨_,_,_,_,_,_,J,J0,L,R,U⟩
theorem SamePd.pdD{ds B:List LDr}(h:SamePd ds B):ds.map T1.pdD=B.map T1.pdD:=by
 have e:∀l:List LDr,l.map T1.pdD=(l.map (·.2)).map (λd=>D.tup [.int d.1,.str d.2]):=λl=>by rw[List.map_map];rfl
 rw[e ds,e B,h]
theorem zjh{b:Bk}{x y:Str}{n k:Nat}{more:List Nat}(B:x.cps.toList=x.cps.toList.take (runF b x n).at_++y.cps.toList++more)(F:(runF b x n).at_<=x.length)(D:∀j,j<k->(it0 b y (runF b x n).ds j).at_<y.length/\(more=[]∨sureB b (it0 b y (runF b x n).ds j).ds y (it0 b y (runF b x n).ds j).at_=true)) :
  (runF b x (n+k)).at_=(runF b x n).at_+(it0 b y (runF b x n).ds k).at_/\(runF b x (n+k)).ds.map T1.pdD=(it0 b y (runF b x n).ds k).ds.map T1.pdD/\(runF b x (n+k)).ss=(runF b x n).ss++(it0 b y (runF b x n).ds k).ss.map (mvS (runF b x n).at_):=by
 have R:=zcz (b:=b) B (off:=(runF b x n).at_) (by rw[List.length_take,zak];omega) (S0:=(runF b x n).ss) (R:=runF b x n) (r:=⟨0,(runF b x n).ds,[]⟩) ⟨J,J,by show _=_++[];rw[List.append_nil]⟩ k D;rw[←zcN] at R;exact⟨R.at_,R.pd.pdD,R.ss⟩
theorem zfM(x:Str){k:Nat}(h:k<=x.length):(cutS x none (some (k:Int))).length=k:=by
 have e:=zco x 0 k;have B:cutS x (some ((0:Nat):Int)) (some (((0:Nat):Int)+(k:Int)))=cutS x none (some (k:Int)):=by
  rw[show (((0:Nat):Int)+(k:Int))=(k:Int) by omega];rfl
 rw[B] at e;rw[←zak,e,List.length_take,List.drop_zero,zak];omega
theorem zkc{b:Bk}{x:Str}(B:∀t∈b,TgOk b.length t)(D:1<=b.length){n:Nat}(h:(runF b x n).at_≠0):∃m,(runF b x n).ss.length=m+1:=by
 have e:=(zeM (x:=x) (ds0:=[]) B D (by intro d F;cases F) n).sum;rw[←zcy] at e;cases q:(runF b x n).ss with
 |nil=>rw[q] at e;exact absurd (show ((runF b x n).at_:Int)=0 from e.symm) (by omega)
 |cons a r=>exact⟨r.length,J⟩
noncomputable def zfc(K:W.Frag)(tb:Addr):Sp:=λvs H Q _=>∃a,∃B:List Int,vs=[.ref a]/\SqL K H a (B.map V.int)/\LamTb tb H/\∀H',Q (.bl true) H'
theorem scLaw24:zav ["script","k","bag","book","mark","inner","close","many","shut","text","told","doors","ends","reader","found","at","begin","new","due","page"] ["script"] (zag lLaw):=⟨J,J,J,by decide +kernel,J,by decide +kernel,by decide +kernel⟩
theorem ndDo:(["door"]:List Str).Nodup:=by decide +kernel
theorem zkd{f tb C CP CS cM cN cO cP cQ cR cS cT cU eC eD eE eF eG eH eI:Addr}{fd eJ eK eL eM eN eO eP eQ eR eS eT eU eV eW eX eY:FuncData}(F:Fun K "law" "law" lLaw f fd)(T:TxtB mg)(bP:Txt2 mg)(eZ:Txt3 K mg C)(TP:TxtP K mg CP)(g5:mg "Reader"=some (.ref C))(g6:L2.Mk K C eC)(g7:mg "Page"=some (.ref CP))(g8:L2.Mk K CP eF)(g9:W.keepIn K (.ref cM)=true)(ha:Binds K eJ ["script","k"] [])(hb:mg "_law_bag"=some (.ref cM))(hc:FnOk P w K mg base CX0 1 cM eJ ["script","k"] (spBag K))(hd:W.keepIn K (.ref cN)=true)(he:Binds K eK ["bag"] [])(hf:mg "_law_deep_book"=some (.ref cN))(hg:FnOk P w K mg base CX0 2 cN eK ["bag"] zgH)(bQ:W.keepIn K (.ref cO)=true)(bR:Binds K eL ["bag","many"] [])(bS:mg "_law_take"=some (.ref cO))(bT:FnOk P w K mg base CX0 1 cO eL ["bag","many"] zef)(hh:W.keepIn K (.ref cP)=true)(hj:Binds K eM ["bag","book","most"] [])(hk:mg "_law_text"=some (.ref cP))(hl:FnOk P w K mg base CX0 2 cP eM ["bag","book","most"] zgF)(aY:W.keepIn K (.ref cQ)=true)(e0:Binds K eN ["book","text"] [])(e1:mg "_law_steps"=some (.ref cQ))(e2:FnOk P w K mg base CX0 2 cQ eN ["book","text"] zeJ)(hm:W.keepIn K (.ref cR)=true)(hn:Binds K eO ["book","text"] [])(ho:mg "steps"=some (.ref cR))(hp:FnOk P w K mg base CX0 6 cR eO ["book","text"] (zdA tb))(hq:W.keepIn K (.ref cS)=true)(hr:Binds K eP ["book","text"] [])(hs:mg "standing"=some (.ref cS))(ht:FnOk P w K mg base CX0 6 cS eP ["book","text"] (zcs tb))(hu:W.keepIn K (.ref cT)=true)(hv:Binds K eQ ["book","text"] [])(hx:mg "unfinished"=some (.ref cT))(hy:FnOk P w K mg base CX0 6 cT eQ ["book","text"] (zfb tb))(hz:W.keepIn K (.ref cU)=true)(hA:Binds K eR ["book","old","begin","end","put"] [])(hB:mg "_law_anew"=some (.ref cU))(hC:FnOk P w K mg base CX0 6 cU eR ["book","old","begin","end","put"] ze5)(hD:Binds K eS ["self","book"] [])(hE:FnOk P w K mg base CX0 2 eC eS ["self","book"] (zg0 C))(n2:Meth K C "feed" eD)(hF:Binds K eT ["self","piece"] [])(hG:FnOk P w K mg base CX0 6 eD eT ["self","piece"] (zg1 tb C))(n3:Meth K C "finish" eE)(hH:Binds K eU ["self"] [])(hI:FnOk P w K mg base CX0 6 eE eU ["self"] (zdB tb C))(hJ:Binds K eV ["self","book","text"] [])(hK:FnOk P w K mg base CX0 8 eF eV ["self","book","text"] (ze7 P w tb CP CS))(hL:Meth K CP "steps" eG)(e3:Binds K eW ["self"] [])(hM:FnOk P w K mg base CX0 1 eG eW ["self"] (zcV P w CP CS))(hN:Meth K CP "text" eH)(hO:Binds K eX ["self"] [])(hP:FnOk P w K mg base CX0 1 eH eX ["self"] (ze6 P w CP CS))(hQ:Meth K CP "change" eI)(hR:Binds K eY ["self","begin","end","text"] [])(hS:FnOk P w K mg base CX0 8 eI eY ["self","begin","end","text"] (zdz P w tb CP CS)):FnOk P w K mg base CX0 10 f fd ["script"] (zfc K tb):=by
 refine F.ok scLaw24 (λvs H Q E h=>?_) (λcdv A outer s H vs Q E aD h=>?_)
 .obtain⟨a,cV,rfl,_⟩:=h;rfl
 .obtain⟨a,cV,rfl,e4,e5,k⟩:=h;have I:=scLaw24.nd;have aE:Room 1 _:=aD.mono (by decide);have bU:Room 2 _:=aD.mono (by decide);have hT:Room 3 _:=aD.mono (by decide);have aZ:Room 5 _:=aD.mono (by decide);have a0:Room 6 _:=aD.mono (by decide);have hU:Room 8 _:=aD.mono (by decide);refine⟨_,zac (zcF PassesOwn.never J (zdD J T.range (pa_B (zax zaT (zar (zdG J) (by rfl) bP.min zkO (zaa (zar zaF (by rfl) T.len b_len (zaa (pv 0) zae)) (pa_K zaf zae))) zaf) zae)) (zaq (i:=1) I J (Or.inl J))
    (zac (zan (i:=2) I J (Or.inl J) (zat hc aE J hb g9 ha .nil pass0 (zaa (pv 0) (zaa (pv 1) zae))))
    (zac (zan (i:=3) I J (Or.inl J) (zat hg bU J hf hd he .nil pass0 (zaa (pv 2) zae)))
    (zac (zbw (zay zaE (zay zaE (zay zaE (pv 3) zaf (λ_ _=>rfl)) zaf (λ_ _=>rfl)) zaf (λ_ _=>rfl)) (zbG J (zas (zaq (i:=4) I J (Or.inl J)) (zas (zaq (i:=5) I J (Or.inl J)) (zas (zaq (i:=6) I J (Or.inl J)) za2)))))
    (zac (zan (i:=7) I J (Or.inl J) (zax zaT zaf (zat bT aE J bS bQ bR .nil pass0 (zaa (pv 2) (pa_B (zax zdF zaf (zar zap (by rfl) T.len b_len (zaa (pv 4) zae))) zae)))))
    (zac (zan (i:=8) I J (Or.inl J) (zay zaB (zaN (zaa (pv 7) (pa_K zaf (zaa (zat bT aE J bS bQ bR .nil pass0 (zaa (pv 2) (pa_B (zax zaT (pv 7) zaf) zae))) zae)))) (zat bT aE J bS bQ bR .nil pass0 (zaa (pv 2) (pa_K zaf zae))) (λ_ _=>rfl)))
    (zac (zan (i:=9) I J (Or.inl J) (zaA zbp (zax zaS (zax zcj (pv 4) (pv 7)) (zax zcj (pv 6) (pv 8))) zaL (zaD zaf)))
    (zac (zan (i:=9) I J (Or.inl J) (zax zaS (pv 9) (zat hl bU J hk hh hj .nil pass0 (zaa (pv 2) (zaa (pv 3) (pa_K zaf zae))))))
    (zac (zan (i:=9) I J (Or.inl J) (zaA zbp (zax zaS (pv 9) (zax zcj zaH zaf)) zaL (zaD zaf)))
    (zac (zbw (zat e2 bU J e1 aY e0 .nil pass0 (zaa (pv 3) (zaa (pv 9) zae))) (zh7 J (zas (zaq (i:=10) I J (Or.inl J)) (zas (zaq (i:=11) I J (Or.inl J)) za2))))
    (zac (za9 (PW.pt (zkD (zau (zch aZ) (zat hp a0 J ho hm hn .nil pass0 (zaa (pv 3) (zaa (pv 9) zae))) (pv 10) (zaz _)) (zhE (zau (zdM aZ) (zat ht a0 J hs hq hr .nil pass0 (zaa (pv 3) (zaa (pv 9) zae))) (zbx zbD (by rfl) T.tuple zew (zaa (za6 (N':=["door"]) (js:=[none]) J J (zbl (zag lLaw) (by decide +kernel)) trivial (zbc (pv 11)) (λcl s H fp=>zaq (i:=0) ndDo J (Or.inl J)) (λcl s H fp=>zbh) (λcl s H fp=>zaA zkT (pv 0) (zaD zaf) zaL)) zae)) (zaz _))))) (zai (zaw zfe)) zaC)
    (zac (zan (i:=12) I J (Or.inl J) (zbx zca (by rfl) bP.list zgu (zaa (pv 11) zae)))
    (zac (za9 (zau zb8 (zay zaE (zay zaB (pv 10) (zbK zbd zaf) (λ_ _=>rfl)) zaf (λ_ _=>rfl)) zaH (zaz _)) (zai (zaP (zbL PySem.F.plainAttrs_list PySem.F.slot_list_append PySem.F.type_list_append zaK (pv 12) (zaa (zaV (zaa (zay zaE (zay zaB (pv 10) (zbK zbd zaf) (λ_ _=>rfl)) zaf (λ_ _=>rfl)) (zaa (zay zaE (zay zaB (pv 10) (zbK zbd zaf) (λ_ _=>rfl)) zaf (λ_ _=>rfl)) (zaa zaH zae)))) zae)))) zaC)
    (zac (za9 (zau (zch aZ) (zat hy a0 J hx hu hv .nil pass0 (zaa (pv 3) (zaa (pv 9) zae))) (pv 12) (zaz _)) (zai (zaw zfe)) zaC)
    (zac (zan (i:=13) I J (Or.inl J) (zhT g6 hE hT J g5 hD .nil pass0 (zaa (pv 3) zae)))
    (zac (zan (i:=14) I J (Or.inl J) (zaN zae))
    (zac (zcF PassesOwn.never J (zih (lo:=0) (hi:=2000) (c:=50) (n:=40) J T.range (pa_K zaf (pa_K zaf (pa_K zaf zae))) (by decide) (by decide +kernel) (by decide +kernel) (by decide +kernel)) (zaq (i:=15) I J (Or.inl J)) (zai (zan (i:=14) I J (Or.inl J) (zax zcI (pv 14) (zaZ (pv 13) eZ.cl n2 hG a0 hF .nil pass0 (zaa (zaA zbp (pv 9) (zaD (pv 15)) (zaD (zax zaT (pv 15) zaf))) zae))))))
    (zac (za9 (zau (zch aZ) (zax zcI (pv 14) (zcH (pv 13) eZ.cl n3 hI a0 hH .nil pass0)) (pv 10) (zaz _)) (zai (zaw zfe)) zaC)
    (zac (zan (i:=9) I J (Or.inl J) (zaA zbp (zax zaS (zax zaS (zax zaS (zax zcj (pv 4) (zar (zdG J) (by rfl) bP.min zkO (zaa (pv 7) (pa_K zaf zae)))) (zax zcj (pv 6) (zar (zdG J) (by rfl) bP.min zkO (zaa (pv 8) (pa_K zaf zae))))) (zaA zbp (pv 9) (zaD (zbK zbd zaf)) zaL)) (zax zcj zaH zaf)) zaL (zaD zaf)))
    (zac (zan (i:=16) I J (Or.inl J) (zax zaT zaf (zat bT aE J bS bQ bR .nil pass0 (zaa (pv 2) (pa_K zaf zae)))))
    (zac (zbw (zat hC a0 J hB hz hA .nil pass0 (zaa (pv 3) (zaa (pv 9) (zaa (pv 16) (pa_B (zax zaT (pv 16) zaf) (pa_B (zax zaS zaH (pv 6)) zae)))))) (zh7 J (zas (zaq (i:=17) I J (Or.inl J)) (zas (zaq (i:=18) I J (Or.inl J)) za2))))
    (zac (zan (i:=19) I J (Or.inl J) (zhT g8 hK aD J g7 hJ .nil pass0 (zaa (pv 3) (zaa (pv 9) zae))))
    (zac (za9 (PW.pt (zkD (zau (zdM aZ) (zaZ (pv 19) TP.cl hQ hS hU hR .nil pass0 (zaa (pv 16) (pa_B (zax zaT (pv 16) zaf) (pa_B (zax zaS zaH (pv 6)) zae)))) (pv 18) (zaz _)) (zhE (zau zg4 (zcH (pv 19) TP.cl hN hP aE hO .nil pass0) (pv 17) (zaz _))))) (zai (zaw zfe)) zaC)
    (zai (za9 (zau (zch aZ) (zcH (pv 19) TP.cl hL hM aE e3 .nil pass0) (zay zaB (zat e2 bU J e1 aY e0 .nil pass0 (zaa (pv 3) (zaa (pv 17) zae))) zaf (λ_ _=>rfl)) (zaz _)) (zai (zaw zfe)) zaC)))))))))))))))))))))))))
   (zai (zaw zfe)),?_⟩
  dsimp only[cxOf,Cx.nox,Cx.wish];have jp:(100000:Nat)<=sizeLine:=by rw[sizeLine_eq];decide
  obtain⟨n,hV,jq⟩:=zlX (m:=1) (cV.map V.int).length;obtain⟨jr,hW⟩:=e5.tbl;refine⟨_,J,a,_,J,.inl e4,_,_,J,_,_,J,J,(n:Int)+1,?_,by omega,by omega,?_⟩
  .rw[←hV];rfl
  refine zdE (λi σ H2=>∃cW cX cY cZ c0 c1 c2 c3 c4 c5 c6 c7 bV bW bX bm bn bo bp,σ=[some (.ref a),cW,cX,cY,cZ,c0,c1,c2,c3,c4,c5,c6,c7,bV,bW,bX,bm,bn,bo,bp]/\ButX tb H H2/\LamTb tb H2) ⟨none,none,none,none,none,none,none,none,none,none,none,none,none,none,none,none,none,none,none,J,λb o _ e=>e,e5⟩ ?_ ?_
  .rintro i σ H0 hi ⟨cW,cX,cY,cZ,c0,c1,c2,c3,c4,c5,c6,c7,bV,bW,bX,bm,bn,bo,bp,rfl,e6,hX⟩;have jt:i<n+1:=by omega
   show (tSeq _ _) _ _ _;refine zbC λju hY jv _ _=>zaj λJ0 D=>?_;refine⟨_,J,_,J,a,cV,i,by simp,zjR hW e6 e4,by omega,λz H1 e7 c8 c9=>D _ _ (zaj λJ0 D=>?_)⟩;have e8:=hX.same c8;refine⟨_,J,z,J,c9,λv m o e9 H2 bq da fa bY=>D _ _ (zaj λJ0 D=>?_)⟩;have fb:=zda e8 c9 bq;have ab:BkOk (dpB m o e9):=zma da fa;have db:=zkr da;obtain⟨bZ,hZ,ad,h0,jw,jx,rfl,fc,fe,b0,ff⟩:=zkb bY;generalize dpB m o e9=b at bY ab;refine⟨_,J,bZ,_,0,_,J,J,SqT.of fc,zal (j:=0) J,hZ,_,1,_,J,J,SqT.of fe,zal (j:=1) J,ad,_,0,_,J,J,SqT.of b0,zal (j:=0) J,h0,_,J,SqT.of ff,J,_,_,J,_,_,J,_,_,J,J,D _ _ (zaj λJ0 D=>?_)⟩;clear fc fe b0 ff da fa;obtain⟨Y,ac⟩:=m;have db:(1<=Y.length/\Y.length<=2)/\1<=ac.length/\ac.length<=2:=db;obtain⟨⟨fg,dc⟩,fh,dd⟩:=db;have h3:(0:Int)<900 / (Y.length:Int)/\900 / (Y.length:Int)<=900:=by
    rcases(by omega:Y.length=1∨Y.length=2) with e|e<;>rw[e]<;>decide
   -- many
   refine⟨_,J,_,J,Y,J,by show Y.length<=_;omega,900,(Y.length:Int),J,J,⟨by omega,by omega⟩,z,900 / (Y.length:Int),J,bq.2,h3.1,by omega,λbr jy jz b1=>⟨1,br,J,J,D _ _ (zaj λJ0 D=>?_)⟩⟩;have h4:1+br<=900:=by omega
   have b2:=bq.trans b1;have fi:=zda fb bq.2 b1;have fj:=bY.mono b1.1;dsimp only;rw[show (1:Int)+(br:Int)=((1+br:Nat):Int) by omega];generalize 1+br=L at h4
   -- shut
   refine⟨_,J,_,J,_,J,L,1,J,J,z,(L:Int)+1,J,b2.2,by omega,by omega,λaF fk jA b3=>⟨by show (3:Nat)<=_;omega,λbs b4=>?_⟩⟩;have de:=b2.trans b3;have fl:=zda fi b2.2 b3;have fm:=fj.mono b3.1;have b5:=Same.new (o:=.lst [.int L,.int 0,.int aF]) b4;have df:upd fk bs (.lst [.int L,.int 0,.int aF]) bs=some (.lst [.int L,.int 0,.int aF]):=zab;have fn:bs≠z:=de.2.ne b4;have bt:=de.new (o:=.lst [.int L,.int 0,.int aF]) b4;have dg:=fl.same b5;have dh:=fm.mono b5.x;generalize upd fk bs (.lst [.int L,.int 0,.int aF])=jB at b5 df bt dg dh;refine⟨_,J,z,3,J,bt.2,by decide,by decide,λaG jC jD bu=>?_⟩;have b6:=bt.trans bu;have fo:=zda dg bt.2 bu;have di:=dh.mono bu.1;obtain⟨sh,fq,fr⟩:∃sh:Nat,([.int L,.int 0,.int aF]:List V)[aG]?=some (.int (sh:Int))/\sh<=1000:=by
    rcases(by omega:aG=0∨aG=1∨aG=2) with rfl|rfl|rfl
    .exact⟨L,J,by omega⟩
    .exact⟨0,J,by omega⟩
    .exact⟨aF,J,by omega⟩
   refine⟨bs,_,aG,_,J,J,SqL.of (bu.1 _ _ fn df),zal fq,D _ _ (zaj λJ0 D=>?_)⟩;clear fq df fn b4 b5 b3 bu bt de b2 b1 dg fl fi fb e8 dh fm fj bY
   -- dj h5
   have a1:∀ {q c:Nat},q<=2->c<=1000->q*c<=2000:=λh1 h2=>Nat.mul_le_mul h1 h2;refine⟨_,J,_,J,Y,L,J,J,by omega,by omega,fg,by omega,λO a2=>⟨_,J,_,J,ac,sh,J,J,by omega,by omega,fh,by omega,λR a3=>⟨O,R,J,J,?_,?_⟩⟩⟩
   .rw[a2,a3,Int.toNat_natCast,Int.toNat_natCast];have:=a1 dc (show L<=1000 by omega);have:=a1 dd fr;omega
   have ft:(O++R).length<=4000:=by
    rw[show (O++R).length=O.length+R.length from Array.size_append,a2,a3,Int.toNat_natCast,Int.toNat_natCast];have:=a1 dc (show L<=1000 by omega);have:=a1 dd fr;omega
   generalize O++R=ak at ft;clear a2 a3;refine⟨1980,J,ak,J,by omega,D _ _ (zaj λJ0 D=>?_)⟩;have fu:=zlb ak 1980;generalize cutS ak none (some ((1980:Nat):Int))=bv at fu ⊢;refine⟨_,J,_,J,_,J,z,_,b,12,J,b6.2,di,ab,by decide,by decide,λbw h6 b7 h7=>⟨bv,bw,J,J,by omega,D _ _ (zaj λJ0 D=>?_)⟩⟩;have dk:=b6.trans b7;have fv:=zda fo b6.2 b7;have dl:=di.mono b7.1;have fw:(bv++bw).length<=3000:=by
    rw[show (bv++bw).length=bv.length+bw.length from Array.size_append];omega
   generalize bv++bw=aH at fw;have dm:=dk.2;have fx:ButX tb H0 h6:=λB o' _ e=>dk.1 B o' (zad e e7) (c8 B o' e);clear dk b6 b7 bq fo di h7 fu ft c8 c9;refine⟨_,J,_,2000,J,J,by omega,by omega,by decide +kernel,by decide +kernel,λZ aI=>⟨aH,Z,J,J,?_,?_⟩⟩
   .rw[aI];show aH.length+1*2000<=_;omega
   have aJ:2000<=(aH++Z).length/\(aH++Z).length<=6000:=by
    rw[show (aH++Z).length=aH.length+Z.length from Array.size_append,aI];show 2000<=_+1*2000/\_+1*2000<=_;omega
   generalize aH++Z=aq at aJ;refine⟨2000,J,aq,J,by omega,D _ _ (zaj λJ0 D=>?_)⟩;have dn:(cutS aq none (some (2000:Int))).length=2000:=zfM aq (k:=2000) aJ.1;generalize cutS aq none (some (2000:Int))=x at dn ⊢;clear aJ aI Z fw;have b8:x.length<=20000:=by omega
   obtain⟨a4,jE,a5,_⟩:=id ab;refine⟨_,J,_,J,z,_,b,x,J,dm,dl,ab,b8,λpl ar pd n1 dp bx fy b9 h8 h9=>?_⟩;refine⟨pl,_,J,SqL.of fy,J,_,_,J,_,_,J,J,D _ _ (zaj λJ0 D=>?_)⟩;obtain⟨al,dq,dr⟩:=h9;obtain⟨av,dt,fz,du⟩:∃av,dp ar=some (.lst av)/\ar≠z/\Reps z dp av ((runF b x n1).ss.map stD):=by
    cases h8 with
    |lst h ia r=>exact⟨_,h,ia,r⟩
   have dv:=fv.same bx;have dw:=dm.same bx;have dy:=dl.mono bx.x (z:=z);have fA:ButX tb H0 dp:=λB o' h e=>bx B o' (fx B o' h e);clear fx fv dm dl bx fy;have ae:=zaX (x:=x) a5 a4 n1;have ib:=ae.sl;have ic:=ae.dl;rw[b9,dn] at ib ic;obtain⟨m1',dz⟩:=zkc (x:=x) a5 a4 (n:=n1) (by rw[b9,dn];decide);have dA:∀q,(runF b x q).at_=x.length->(runF b x q).ss=(runF b x n1).ss:=λq dB=>by rw[ziN dB b9]
   have fB:∀q,(runF b x q).at_=x.length->(runF b x q).ds=(runF b x n1).ds:=λq dB=>by rw[ziN dB b9]
   clear ae;generalize (runF b x n1).ss=U at *;generalize (runF b x n1).ds=ds at *;have jF:av.length=U.length:=by have:=du.length;simpa using this
   have ie:al.length=ds.length:=by have:=dr.length;simpa using this
   obtain⟨jG,a6⟩:=dv.tbl
   -- steps,standing
   refine⟨_,J,_,J,z,_,b,x,J,dw,dy,ab,b8,dv,λp2 jH ig ih aK fC fD ii dC fE dD=>?_⟩;rw[dA ig ii] at dC;have ca:=aK _ _ (zao dt a6 (by intro q;cases q)) dt;have dE:=aK _ _ (zao dq a6 (by intro q;cases q)) dq;have dF:=Reps.butT a6 aK du;have fF:=Reps.butT a6 aK dr;have dG:=Rep.butT a6 aK dy;refine⟨_,J,z,z,_,.lst fD (dw.ne fC) dC,.lst ca fz dF,zeS 3 _,_,J,iteF ?_⟩;clear dC fD fC;have fG:ButX tb H0 ih:=λB o' h e=>aK B o' h (fA B o' h e);clear fA dw dv du dr dy dt dq aK a6;obtain⟨jI,a7⟩:=dD.tbl;refine⟨_,J,_,J,z,_,b,x,J,fE,dG,ab,b8,dD,λp3 ij ik aL jJ il dH cb fH=>?_⟩;rw[fB ij il] at dH;have fI:=aL _ _ (zao ca a7 (by intro q;cases q)) ca;have bz:=aL _ _ (zao dE a7 (by intro q;cases q)) dE;have fJ:=Reps.butT a7 aL dF;have dI:=Reps.butT a7 aL fF;have fK:=Rep.butT a7 aL dG;have fL:ButX tb H0 ik:=λB o' h e=>aL B o' h (fG B o' h e);clear fG fE dD dF fF dG ca dE aL a7;refine⟨_,J,pd,J,⟨_,SqL.of bz⟩,λfM dJ=>?_⟩;have dK:pd≠fM:=zad bz dJ;refine zbF (z:=z) (λ_=>true) (λj=>T1.pdD (ds.getD j ld0)) (λσ=>∃v,σ=[v]) ⟨none,J⟩ dJ (by omega) (za7 (xs:=al) (by rw[zah dK];exact bz) dK) (λj=>.tup (.cons (.int _) (.cons (.str _) .nil))) (λj σ cc jK jL bA ⟨w,hw⟩ a8 im _=>?_) (λσ cc vs a8 fN dL=>?_)
   .subst hw;have io:j<ds.length:=by omega
    have fO:Rep z cc (al.getD j .non) (ldD (ds.getD j ld0)):=by
     have:=(dI.get (i:=j) (by simp;omega)).mono a8.x (z:=z);simpa [io] using this
    obtain⟨ip,fP,jM,b0⟩:=zdU fO;have iq:(ds.getD j ld0).2.2.length<=1000:=by
     have fQ:=fO;rw[fP] at fQ;cases fQ with
     |tup _ _ r=>
      cases r with
      |cons _ r=>
       cases r with
       |cons _ r=>
        cases r with
        |cons aG _=>
         cases aG with
         |str _ aM=>exact aM
    rw[fP];dsimp only[tYes,gName];rw[if_pos rfl];refine⟨_,J,1,J,ip,_,J,SqT.of b0,(show ¬(HT.sIx 3 0 (some 1)=0/\HT.sIx 3 3 none=3) by decide),λpn bB=>?_⟩;have ir:=Same.new (o:=.tup [.int (ds.getD j ld0).2.1,.str (ds.getD j ld0).2.2]) bB;exact im rfl _ (.ref pn) _ ⟨_,J⟩ ir (.tup zab ((cb.same a8).ne bB) (.cons (.int _) (.cons (.str _ iq) .nil)))
   rw[List.filter_eq_self.mpr (λ_ _=>rfl),ie,zcp T1.pdD ds] at dL;refine⟨fM,vs,J,.inl ⟨SqL.of fN,λl dM=>?_⟩⟩;have dN:=Same.new (o:=.tup vs) dM;have ap:=a8.trans dN;refine⟨z,z,_,Rep.mono ap.x dH,.tup zab ((cb.same a8).ne dM) (dL.mono dN.x),zjf 3 _,_,J,iteF (D _ _ (zaj λJ0 D=>?_))⟩;have cd:=fH.same ap;have ce:=cb.same ap;have dO:=fK.mono ap.x (z:=z);have cf:=ap _ _ fI;have dP:=ap _ _ bz;have dQ:=fJ.mono ap.x (z:=z);have dR:=dI.mono ap.x (z:=z);have cg:ButX tb H0 (upd cc l (.tup vs)):=λB o' h e=>ap B o' (fL B o' h e);clear fL fH cb fK fI bz fJ dI ap dN a8 dH dL fN dM dJ dK;generalize upd cc l (.tup vs)=dS at cd ce dO cf dP dQ dR cg ⊢
   -- ends
   refine⟨_,J,pd,al,J,.inl (SqL.of dP),λah bC=>D _ _ (zaj λJ0 D=>?_)⟩;have aw:=Same.new (o:=.lst al) bC;have fR:ah≠z:=ce.ne bC;have ax:upd dS ah (.lst al) ah=some (.lst al):=zab;have dT:=cd.same aw;have ch:=ce.same aw;have dU:=dO.mono aw.x (z:=z);have a9:=aw _ _ cf;have ci:=dQ.mono aw.x (z:=z);have cj:=dR.mono aw.x (z:=z);have dV:ButX tb H0 (upd dS ah (.lst al)):=λB o' h e=>aw B o' (cg B o' h e);have is:ar≠ah:=zad cf bC;have it:H0 ah=none:=LamT.free cd cg bC;clear cg cd ce dO cf dP dQ dR aw bC;generalize upd dS ah (.lst al)=dW at ax dT ch dU a9 ci cj dV ⊢;have iu:av.length=m1'+1:=by omega
   have iv:U≠[]:=λq=>by rw[q] at dz;cases dz
   have fS:U.getD (U.length-1) st0=U.getD m1' st0:=by rw[dz];rfl
   obtain⟨dX,fT,jN,bD,dY⟩:=zcA (zcB (t:=m1') ci (by omega));have ck:=zeN iu fT;have fU:∀(aN:Hp) (dZ:List V),aN ah=some (.lst dZ)->SameX ah dW aN->Reps z aN dZ ((ds++cutL U).map ldD)->J0 [some (.ref a),some (.int (0+i)),some (.ref z),some (.ref bZ),some (.str Y),some (.int 0),some (.str ac),some (.int L),some (.int sh),some (.str x),some (.ref ar),some (.ref pd),some (.ref ah),bV,bW,bX,bm,bn,bo,bp] aN:=by
    intro aN dZ d0 aO fV;refine D _ _ (zaj λJ0 D=>?_);have d1:=dT.sameX ax aO;have d2:Bag z aN:=by
     obtain⟨iw,ix,e⟩:=ch;exact⟨iw,ix,aO _ _ fR.symm e⟩
    have d3:=Rep.butL ax aO dU (.tup (zbe b));have d4:=aO _ _ is a9;have fW:=Reps.butL ax aO ci (zaO _);have fX:ButX tb H0 aN:=λB o' h e=>aO B o' (zad e it) (dV B o' h e);clear ck bD dY fT dV dT ch dU a9 ci cj aO ax;obtain⟨jO,ba⟩:=d1.tbl;refine⟨_,J,_,J,z,_,b,x,J,d2,d3,ab,b8,d1,λp5 jP n5 ay aP fY fZ f0 d5 cm cn=>?_⟩;rw[fB n5 f0,dA n5 f0] at d5;refine⟨_,J,z,z,_,.lst fZ (d2.ne fY) d5,.lst (aP _ _ (zao d0 ba (by intro q;cases q)) d0) fR (Reps.butT ba aP fV),zje 3 _,_,J,iteF (D _ _ (zaj λJ0 D=>?_))⟩;have d6:=aP _ _ (zao d4 ba (by intro q;cases q)) d4;have f1:=Reps.butT ba aP fW;have f2:=Rep.butT ba aP d3;have co:ButX tb H0 ay:=λB o' h e=>aP B o' h (fX B o' h e);clear fX d2 d1 fW d3 d4 aP ba d5 fZ fY fV d0
    -- dj reader
    refine⟨_,J,λr dx d7 iy iz=>?_⟩;have sm1:Same ay (upd ay dx (.own r)):=Same.new iy;have f3:upd ay dx (.own r) r=none:=by rw[zah iz.symm];exact d7
    have d8:Same ay (upd (upd ay dx (.own r)) r (.ins C dx [])):=sm1.trans (Same.new f3);refine⟨r,_,dx,J,zab,λam cp f4 f5 d9 f6=>⟨J,D _ _ (zaj λJ0 D=>?_)⟩⟩;have bb:ay am=none:=d8.free f4;have ea:Same ay cp:=λB o' e=>f5 B o' (zad e d7) (d8 B o' e);have f7:am≠z:=cm.ne bb;have f8:ar≠am:=zad d6 bb;have f9:H0 r=none:=LamT.free cn co d7;have ga:H0 am=none:=LamT.free cn co bb;refine⟨Nat.zero_le _,λaQ cq=>D _ _ (zaj λJ0 D=>?_)⟩;have cr:=Same.new (o:=.lst []) cq;have aR:=ea.trans cr;have eb:upd cp aQ (.lst []) aQ=some (.lst []):=zab;have iA:aQ≠am:=(zad d9 cq).symm;have iB:aQ≠z:=(cm.same ea).ne cq;have aS:=cr _ _ f6;have bc:=cr _ _ d9;have ec:=cm.same aR;have cs:=cn.same aR;have cu:=f2.mono aR.x (z:=z);have bE:=aR _ _ d6;have ed:=f1.mono aR.x (z:=z);have ee:ButX tb H0 (upd cp aQ (.lst [])):=λB o' h e=>aR B o' (co B o' h e);clear co cn cm f2 d6 f1 aR cr cq ea d8 f4 bb f3 sm1 f5 d9 f6;generalize upd cp aQ (.lst [])=iC at eb aS bc ec cs cu bE ed ee ⊢;obtain⟨jQ,bF⟩:=cs.tbl;refine⟨J,zhi (λt σ as=>∃G pt tv rs ef,σ=[some (.ref a),some (.int (0+i)),some (.ref z),some (.ref bZ),some (.str Y),some (.int 0),some (.str ac),some (.int L),some (.int sh),some (.str x),some (.ref ar),some (.ref pd),some (.ref ah),some (.ref r),some (.ref pt),ef,bm,bn,bo,bp]/\But3 r am tb iC as/\Bag z as/\LamTb tb as/\as r=some (.ins C dx (rdF (.ref bZ) rs ((runF b x G).at_:Int) am))/\rs.cps.toList=(x.cps.toList.take (50*t)).drop (runF b x G).at_/\(runF b x G).at_<=50*t/\PDs z as am (runF b x G).ds/\as pt=some (.lst tv)/\pt≠am/\pt≠z/\Reps z as tv ((runF b x G).ss.map stD))
     ⟨0,aQ,[],Str.ofString "",_,J,λ_ _ _ _ _ e=>e,ec,cs,aS,by rw[za3];rfl,Nat.zero_le _,⟨[],bc,.nil⟩,eb,iA,iB,.nil⟩ ?_ ?_⟩
    .rintro t σ as jR ⟨G,pt,tv,rs,ef,rfl,az,cv,bd,af,aT,gb,be,aA,eg,iD,cw⟩;have gc:(cutS x (some (0+(t:Int)*50)) (some (0+(t:Int)*50+50))).cps.toList=(x.cps.toList.drop (50*t)).take 50:=by
      have eh:(0+(t:Int)*50)=((50*t:Nat):Int):=by omega
      rw[eh];exact zco x (50*t) 50
     have gd:(x.cps.toList.take (50*t)).length=50*t:=by rw[List.length_take,zak];omega
     have ge:x.cps.toList.take (50*(t+1))=x.cps.toList.take (50*t)++(x.cps.toList.drop (50*t)).take 50:=by
      rw[show 50*(t+1)=50*t+50 by omega,List.take_add]
     have jS:(cutS x (some (0+(t:Int)*50)) (some (0+(t:Int)*50+50))).length<=50:=by rw[←zak,gc,List.length_take];omega
     have ae:=zaX (x:=x) a5 a4 G;have iE:=ae.dl;have jT:=ae.sl;have ei:=ae.le;have iF:rs.length<=50*t:=by rw[←zak,aT,List.length_drop,gd];omega
     obtain⟨iG,au⟩:=bd.tbl;obtain⟨iH,bf,_⟩:=id be;have bG:=Rep.but3 aS bc bF az cu (.tup (zbe b));refine⟨_,J,_,J,r,dx,_,J,af,zd2 (by simp),_,J,_,J,_,J,_,J,_,_,J,J,_,J,x,J,by omega,z,r,dx,_,b,rs,am,(runF b x G).ds,cutS x (some (0+(t:Int)*50)) (some (0+(t:Int)*50+50)),(runF b x G).at_,J,cv,af,f7,bG,ab,be,ae.bk,by omega,bd,λp ai aa bH ao aU cx bI jU cy cz iI bg cA=>?_⟩;generalize cutS x (some (0+(t:Int)*50)) (some (0+(t:Int)*50+50))=M at *;rw[←gc] at ge;have ej:(rs++M).cps.toList=(x.cps.toList.take (50*(t+1))).drop (runF b x G).at_:=by
      rw[show (rs++M).cps.toList=rs.cps.toList++M.cps.toList from by show (rs.cps++M.cps).toList=_;simp,aT,ge,List.drop_append_of_le_length (by rw[gd];exact gb)]
     have cB:x.cps.toList=x.cps.toList.take (runF b x G).at_++(rs++M).cps.toList++x.cps.toList.drop (50*(t+1)):=by
      have eh:x.cps.toList.take (runF b x G).at_=(x.cps.toList.take (50*(t+1))).take (runF b x G).at_:=by rw[List.take_take,Nat.min_eq_left (by omega)]
      rw[ej,eh,List.take_append_drop,List.take_append_drop]
     obtain⟨bh,ek,cC⟩:=zjh (b:=b) (x:=x) (y:=rs++M) (n:=G) (k:=aa) cB ei (λj bA=>⟨(bI j bA).1,.inr (bI j bA).2⟩);have iJ:ItOk2 b (rs++M) (runF b x G).ds (it0 b (rs++M) (runF b x G).ds aa):=zeM (x:=rs++M) a5 a4 ae.bk aa;have iK:=iJ.le;have jV:(rs++M).length=50*(t+1)-(runF b x G).at_:=by rw[←zak,ej,List.length_drop,List.length_take,zak];omega
     have gf:=zaX (x:=x) a5 a4 (G+aa);have jW:=gf.sl;have jX:=gf.le;have cD:=ao _ _ (zao aA af (by intro q;cases q)) eg (zao aA au (by intro q;cases q)) aA;have cE:=Reps.but3 af bf au ao cw (zaO _);have bi:Reps z bH (tv++ai) ((runF b x (G+aa)).ss.map stD):=by
      rw[cC,List.map_append];exact cE.append cy
     have em:(tv++ai).length=(runF b x (G+aa)).ss.length:=by have:=bi.length;simpa using this
     rw[List.length_append] at em;refine⟨pt,p,tv,ai,J,J,cD,cx,by omega,λcF aV=>?_⟩;have S:=Same.new (o:=.lst (tv++ai)) aV;obtain⟨iL,cG,gg⟩:=iI;rw[←ek] at gg;rw[←bh] at cz;have iM:(restS (rs++M) (it0 b (rs++M) (runF b x G).ds aa).at_).cps.toList=(x.cps.toList.take (50*(t+1))).drop (runF b x (G+aa)).at_:=by
      rw[show (restS (rs++M) (it0 b (rs++M) (runF b x G).ds aa).at_).cps.toList=_ from zbO (rs++M) iK,ej,List.drop_drop,bh]
     exact⟨G+aa,cF,tv++ai,restS (rs++M) (it0 b (rs++M) (runF b x G).ds aa).at_,_,J,λB o' h1 h2 aM e=>S B o' (ao B o' h1 h2 aM (az B o' h1 h2 aM e)),bg.same S,cA.same S,S _ _ cz,iM,by rw[bh];omega,⟨iL,S _ _ cG,gg.mono S.x⟩,zab,(zad cG aV).symm,bg.ne aV,bi.mono S.x⟩
    rintro σ as ⟨G,pt,tv,rs,ef,rfl,az,cv,bd,af,aT,gb,be,aA,eg,iD,cw⟩;have iN:x.cps.toList.take (50*40)=x.cps.toList:=List.take_of_length_le (by rw[zak];omega);rw[iN] at aT;have ae:=zaX (x:=x) a5 a4 G;have iE:=ae.dl;have ei:=ae.le;have iF:rs.length=x.length-(runF b x G).at_:=by rw[←zak,aT,List.length_drop,zak]
    obtain⟨iG,au⟩:=bd.tbl;obtain⟨iH,bf,_⟩:=id be;have bG:=Rep.but3 aS bc bF az cu (.tup (zbe b));have gh:=Reps.but3 aS bc bF az ed (zaO _);have cH:=az _ _ (zao bE aS (by intro q;cases q)) f8 (zao bE bF (by intro q;cases q)) bE;refine D _ _ (zaj λJ0 D=>?_);refine⟨_,J,_,J,r,dx,_,J,af,zd2 (by simp),z,r,dx,_,b,rs,am,(runF b x G).ds,(runF b x G).at_,J,cv,af,f7,bG,ab,be,ae.bk,by omega,bd,λp ai aa jY bH ao aU bb jZ cx bI gi cy cz cG bg cA=>?_⟩;have cB:x.cps.toList=x.cps.toList.take (runF b x G).at_++rs.cps.toList++[]:=by rw[aT,List.take_append_drop,List.append_nil]
    obtain⟨bh,ek,cC⟩:=zjh (b:=b) (x:=x) (y:=rs) (n:=G) (k:=aa) cB ei (λj bA=>⟨bI j bA,.inl J⟩);have iO:(runF b x (G+aa)).at_=x.length:=by rw[bh,gi];omega
    have cD:=ao _ _ (zao aA af (by intro q;cases q)) eg (zao aA au (by intro q;cases q)) aA;have cE:=Reps.but3 af bf au ao cw (zaO _);have gj:=Reps.but3 af bf au ao gh (zaO _);have gk:=ao _ _ (zao cH af (by intro q;cases q)) f8 (zao cH au (by intro q;cases q)) cH;have gl:=Rep.but3 af bf au ao bG (.tup (zbe b));have bi:Reps z bH (tv++ai) (U.map stD):=by
     rw[←dA _ iO,cC,List.map_append];exact cE.append cy
    have em:(tv++ai).length=U.length:=by have:=bi.length;simpa using this
    rw[List.length_append] at em;refine⟨pt,p,tv,ai,J,J,cD,cx,by omega,λcF aV=>?_⟩;have S:=Same.new (o:=.lst (tv++ai)) aV;refine⟨_,J,z,z,_,.lst zab (bg.ne aV) (bi.mono S.x),.lst (S _ _ gk) fz (gj.mono S.x),zeS 3 _,_,J,iteF (D _ _ (zaj λJ0 D=>?_))⟩;have cI:=bg.same S;have en:=cA.same S;have eo:=gl.mono S.x (z:=z);have ep:ButX tb H0 (upd bH cF (.lst (tv++ai))):=λB o' h e=>S B o' (ao B o' (zad e f9) (zad e ga) h (az B o' (zad e f9) (zad e ga) h (ee B o' h e)));clear ee az ao cv bg bd cA af cz aT be aA cw cD cE gh gj cH gk bG gl bi S aV bf cG au cy cx aU bb bI gi bh ek cC cB eb aS bc ec cs cu bE ed bF;generalize upd bH cF (.lst (tv++ai))=j0 at cI en eo ep ⊢
    -- dj other h5
    have iP:(0:Int)<=(if (250:Int)<(L:Int) then 250 else (L:Int))/\(if (250:Int)<(L:Int) then 250 else (L:Int))<=1000:=by split<;>omega
    have iQ:(0:Int)<=(if (200:Int)<(sh:Int) then 200 else (sh:Int))/\(if (200:Int)<(sh:Int) then 200 else (sh:Int))<=1000:=by split<;>omega
    refine⟨_,J,_,J,L,250,J,Y,_,J,J,by omega,by omega,fg,by omega,λO a2=>⟨_,J,_,J,sh,200,J,ac,_,J,J,by omega,by omega,fh,by omega,λR a3=>?_⟩⟩;have iR:O.length<=2000:=by rw[a2];exact a1 dc (by omega)
    have iS:R.length<=2000:=by rw[a3];exact a1 dd (by omega)
    refine⟨O,R,J,J,by omega,_,J,300,J,_,J,x,J,by omega,?_⟩;have iT:=zgG x (some (-300)) none;have iU:(O++R).length<=4000:=by
     rw[show (O++R).length=O.length+R.length from Array.size_append];omega
    refine⟨O++R,cutS x (some (-300)) none,J,J,by omega,?_⟩;have gm:(O++R++cutS x (some (-300)) none).length<=6000:=by
     rw[show (O++R++cutS x (some (-300)) none).length=(O++R).length+(cutS x (some (-300)) none).length from Array.size_append];omega
    generalize O++R++cutS x (some (-300)) none=ak at gm ⊢;refine⟨_,2000,J,J,by omega,by omega,by decide +kernel,by decide +kernel,λZ aI=>⟨ak,Z,J,J,?_,?_⟩⟩
    .rw[aI];show ak.length+1*2000<=_;omega
    have aJ:2000<=(ak++Z).length/\(ak++Z).length<=8000:=by
     rw[show (ak++Z).length=ak.length+Z.length from Array.size_append,aI];show 2000<=_+1*2000/\_+1*2000<=_;omega
    generalize ak++Z=aq at aJ;refine⟨2000,J,aq,J,by omega,D _ _ (zaj λJ0 D=>?_)⟩;have dY:(cutS aq none (some (2000:Int))).length=2000:=zfM aq (k:=2000) aJ.1;generalize cutS aq none (some (2000:Int))=eq at dY ⊢;clear aJ aI gm iU iT a2 a3 iR iS iP iQ;refine⟨_,J,z,1200,J,cI,by decide,by decide,λbJ iV j1 bK=>⟨400,bJ,J,J,D _ _ (zaj λJ0 D=>?_)⟩⟩;have gn:=zda en cI bK;have er:=eo.mono bK.1;have cJ:=bK.2;have go:ButX tb H0 iV:=λB o' h e=>bK.1 B o' (zad e e7) (ep B o' h e);clear ep en cI eo bK;dsimp only;rw[show (400:Int)+(bJ:Int)=((400+bJ:Nat):Int) by omega];have iW:400+bJ<=1600:=by omega
    generalize 400+bJ=bj at iW ⊢;have j2:(Str.ofString "x").length=1:=by decide +kernel
    have iX:(Str.ofString "x"++ac).length<=3:=by
     rw[show (Str.ofString "x"++ac).length=(Str.ofString "x").length+ac.length from Array.size_append];omega
    have gp:(bj:Int)+3=((bj+3:Nat):Int):=by omega
    refine⟨_,J,_,J,_,J,_,J,_,_,J,J,_,J,_,ac,J,J,by omega,z,_,b,eq,bj,bj+3,Str.ofString "x"++ac,by rw[←gp];rfl,cJ,er,ab,by omega,by omega,by omega,λiY gq bL y j3 N' gr l e3 bk bM iZ gs gt gu gv cK et=>?_⟩;generalize i0:Str.ofString "x"++ac=tx at iX et;refine⟨iY,_,J,SqL.of gt,J,_,_,J,_,_,J,J,D _ _ (zaj λJ0 D=>?_)⟩;have aW:=gn.same bM;have gw:=er.mono bM.x (z:=z);have gx:=cJ.same bM;have bl:ButX tb H0 bk:=λB o' h e=>bM B o' (go B o' h e);have i1:gq≠z:=cJ.ne gs;clear go gn cJ er bM gt iZ gs
    -- dj page
    refine⟨_,J,_,J,λag aj bN gy gz=>?_⟩;have gA:Same bk (upd bk aj (.own ag)):=Same.new gy;have gB:upd bk aj (.own ag) ag=none:=by rw[zah gz.symm];exact bN
    have aX:=gA.trans (Same.new (o:=.ins CP aj []) gB);refine⟨z,ag,aj,_,b,eq,J,zab,gx.same aX,aW.same aX,gw.mono aX.x,ab,by omega,λpt' ps' so dxs pr pn pw tab N ks gC bO i2 aY gD gE gF gG bB gH _ _=>⟨J,D _ _ (zaj λJ0 D=>?_)⟩⟩;have aU:∀ {q:Addr},upd (upd bk aj (.own ag)) ag (.ins CP aj []) q=none->bk q=none:=λh=>aX.free h;have gI:ButX tb H0 gC:=λB o' aB e=>by
     have aM:=bl B o' aB e;exact aY B o' (λc=>c.elim (zad aM bN) aB) (aX B o' aM)
    have i3:=LamT.free aW bl bN;have i4:=LamT.free aW bl (aU gG);have i5:=LamT.free aW bl (aU bB);have i6:=LamT.free aW bl (aU gH);obtain⟨j4,gJ⟩:=aW.tbl;have eu:=aY _ _ (λc=>c.elim (zad cK bN) (zao cK gJ (by intro q;cases q))) (aX _ _ cK);clear gG bB gH bN gB gy gA aX gz aY aU bl aW gx gw cK gJ;refine⟨_,J,ag,aj,_,J,bO.ins,zbf (by simp),_,J,_,J,_,_,J,J,_,J,_,ac,J,J,by omega,z,ag,aj,_,b,eq,pt',ps',so,dxs,pr,pn,pw,tab,N,ks,bj,bj+3,tx,[],by rw[←i0,←gp];rfl,bO,gD,gE,by omega,by omega,by omega,by omega,gF,by decide,λgK j5 x' j6 gL gM d gN gO ks' gP ev gQ aC i7 ew gR i8 j7 _ gS ey _ _=>?_⟩;obtain⟨i9,ja,el⟩:=zj7 ab (by omega) (by omega) gQ aC.run et bO.run gu gv;subst i9;rw[ja,el] at ey;obtain⟨j8,gT,_,gU⟩:=id bO.sd.ex;obtain⟨j9,gW⟩:=gE.tbl;have gX:NoTup (λa=>a=pw∨a=ag∨a=pr∨a=pn∨a=tb) gC:=zcr (za1 gF (by intro xs c;cases c)) (zcr (za1 bO.ins (by intro xs c;cases c)) (zcr (za1 gT (by intro xs c;cases c)) (zcr (za1 gU (by intro xs c;cases c)) (za1 gW (by intro xs c;cases c)))));have gY:=ew _ _ (λc=>gX _ _ c eu) eu;have jb:gK≠z:=gD.ne gS;have gZ:Rep z ev (.ref gK) (.tup [.int (runF b y gr).at_,.int (l:Nat)]):=.tup ey jb (.cons (.int _) (.cons (.int _) .nil));have g0:Rep z ev (.ref gq) (.tup [.int (runF b y gr).at_,.int (l:Nat)]):=.tup gY i1 (.cons (.int _) (.cons (.int _) .nil));have jc:ButX tb H0 ev:=λB o' aB e=>by
     refine ew B o' (λc=>?_) (gI B o' aB e);rcases c with c|c|c|c|c
     .exact zad e i6 c
     .exact zad e i3 c
     .exact zad e i4 c
     .exact zad e i5 c
     .exact aB c
    have ka:=aC.xl;have jd:¬(!decide (V.str bL=V.str bL))=true:=by simp
    refine⟨_,J,z,z,_,gZ,g0,.cons (.int _ _) (.cons (.int _ _) (.nil _)),_,J,iteF ?_⟩;refine⟨_,J,ag,aj,_,J,aC.ins,zbf (by simp),z,ag,aj,_,b,bL,gN,gO,so,dxs,pr,pn,pw,gP,gL+(N-gM),ks',J,aC,_,J,J,_,J,ite2 (λg=>absurd g jd) (λ_=>D _ _ ?_)⟩;clear gZ g0 gY eu ey gS gX gT gU gW ew et gv gu gI gQ i7 i2;refine⟨_,J,ag,aj,_,J,aC.ins,zbf (by simp),z,ag,aj,_,b,bL,gN,gO,so,dxs,pr,pn,pw,gP,gL+(N-gM),ks',J,aC,λje kb kc ez jf jg jh=>?_⟩;have ji:=aC.same ez;have jj:=gR.same ez;have jk:je≠z:=gR.ne jf;refine⟨_,J,_,J,z,_,b,bL,J,jj,ji.rb,ab,by omega,λjl kd ke kf kg eA jm jn g1 kh=>?_⟩;refine⟨jl,_,0,_,J,J,SqL.of jm,zal (j:=0) J,?_⟩;rw[ziN jn aC.run.at_] at g1;refine⟨z,z,_,.lst (eA _ _ jg) jk (jh.mono eA.x),g1,zeS 3 _,_,J,iteF (hY _ _ ?_)⟩;have g2:=ez.trans eA;exact⟨_,_,_,_,_,_,_,_,_,_,_,_,_,_,_,_,_,_,_,J,λB o' aB e=>g2 B o' (jc B o' aB (e6 B o' aB e)),i8.same g2⟩
   refine⟨_,J,1,J,ar,av,-1,_,J,J,SqL.of a9,ck,dX,_,2,_,J,J,SqT.of bD,zal (j:=2) J,J,_,J,?_⟩;refine ite2 (λg=>?_) (λg=>?_)
   .have g':(U.getD m1' st0).2.2.1=Str.ofString "cut":=by simpa using g
    have cL:cutL U=[((U.getD m1' st0).1,(U.getD m1' st0).2.2.2.1,Str.ofString "")]:=by
     unfold cutL;rw[fS,if_pos ⟨iv,g'⟩]
    generalize U.getD m1' st0=st at bD cL;refine⟨_,J,.inl ⟨J,_,SqL.of ax⟩,_,J,1,J,ar,av,-1,_,J,J,SqL.of a9,ck,dX,_,0,_,J,J,SqT.of bD,zal (j:=0) J,_,J,1,J,ar,av,-1,_,J,J,SqL.of a9,ck,dX,_,3,_,J,J,SqT.of bD,zal (j:=3) J,by show (3:Nat)<=_;omega,λpt g3=>?_⟩;have eB:=Same.new (o:=.tup [.int st.1,.int st.2.2.2.1,.str (Str.ofString "")]) g3;have g4:=eB _ _ ax;have jo:Rep z (upd dW pt (.tup [.int st.1,.int st.2.2.2.1,.str (Str.ofString "")])) (.ref pt) (ldD (st.1,st.2.2.2.1,Str.ofString "")):=.tup zab (ch.ne g3) (.cons (.int _) (.cons (.int _) (.cons (.str _ (by decide +kernel)) .nil)));refine⟨ah,al,_,J,J,g4,by omega,fU _ _ zab eB.x.upd ?_⟩;rw[cL,List.map_append];exact Reps.updL g4 ((cj.mono eB.x).append (.cons jo .nil)) ((zbr _).append (zbr [_]))
   .have g':(U.getD m1' st0).2.2.1≠Str.ofString "cut":=by simpa using g
    have cL:cutL U=[]:=by
     unfold cutL;rw[fS,if_neg (λq=>g' q.2)]
    exact fU dW al ax SameX.refl (by rw[cL,List.append_nil];exact cj)
  .rintro σ H2 ⟨cW,cX,cY,cZ,c0,c1,c2,c3,c4,c5,c6,c7,bV,bW,bX,bm,bn,bo,bp,rfl,_,_⟩;exact k _
end T1
namespace L2
open PySem PySem.Spec PyProof.Rows
theorem law_callT{P:Program}{w:World}{K:W.Frag}{mg ab:Str->Option Value}{CX:CXT}{k:Nat}{ac a c tb:Addr}{fd:FuncData}{x:Str}{sp:Sp}{B:Shared}{vs:List Value}{R:List Int}(ad:K.In B.heap)(ae:B.heap.Ns mainGlobals mg)(D:B.heap.Ns builtinsNs ab)(au:∀x:Str,x≠"__name__"->ab x=bootBuiltins x)(av:B.heap.NoLimit)(aw:B.gens=#[])(ax:∃S I,mg "__builtins__"=some (.ref S)/\S≠builtinsNs/\B.heap.get? S=some I/\I.cls=.type "module"/\I.dict=some builtinsNs/\I.data=.plain)(ay:W.codeHdIn K c tb=true)(J0:B.heap.get? tb=some (W.tabObj #[]))(ai:K.lookup tb=none)(L:B.heap.get? a=some { cls:=.type "list",data:=.seq vs.toArray })(hi:IntsAre vs R)(aj:R.length<=sizeLine)(az:Room k callerA)(F:∀base:Heap,K.In base->base.Ns mainGlobals mg->base.BuiltinsAt mg tb->FnOk P w K mg base CX k ac fd [x] sp)(aA:∀(s:Shared) (u:Value),BindsTo s fd ⟨[u],[]⟩ [(x,u)])(aB:∀H:Hp,H tb=some (.tbl #[])->SqL K H a (R.map V.int)->sp [.ref a] H (λv _=>v=.bl true) λ_ _ _=>False)(aC:∀H e s',CX [] H B (λ_ _ _=>False) e s'->False) :
  codeAny (model P w) callerA (.call (.ref ac) ⟨[.ref a],[]⟩) (λr s'=>r=.ok (.ret (.bool true))/\OldK B.heap s'.heap/\s'.os=B.os/\AllBare s'.gens) B:=by
 have ak:=zfm hi;have aD:=hi.length;have aE:a≠tb:=λz=>by
  rw[z,J0] at L;cases L
 have al:∀H:Hp,H tb=some (.tbl #[])->(∀b,b≠tb->H b=none∨∃o xs,H b=some (.frz o (.lst xs)))->SqL K H a (R.map V.int)->HOk P w H B.heap->(∀b,H b≠none->b=a∨b=tb)->(∀b,H b≠none->K.lookup b=none) ->
   codeAny (model P w) callerA (.call (.ref ac) ⟨[.ref a],[]⟩) (λr s'=>r=.ok (.ret (.bool true))/\OldK B.heap s'.heap/\s'.os=B.os/\AllBare s'.gens) B:=by
  intro H am aF aG ao ap aH;have af:∀ {b:Addr} {o:Obj},B.heap.get? b=some o->H b=none->(hidT B.heap H).get? b=some o:=λe n=>zji e n;have aI:∀ {b:Addr} {o:Obj},B.heap.get? b=some o->(o.cls=.type "list"->False)->(o.cls=.none->False)->H b=none:=λ{b o} e aJ aK=>by
   cases q:H b with
   |none=>rfl
   |some u=>
    rcases ap b (by rw[q];simp) with e'|e'
    .subst e';rw[L] at e;cases e;exact(aJ J).elim
    .subst e';rw[J0] at e;cases e;exact(aK J).elim
  have aL:∀ {b:Addr} {o:Obj} {es:Array DictEntry} {M:Nat},B.heap.get? b=some o->o.data=.dict es M->H b=none:=λ{b o es M} e d=>by
   cases q:H b with
   |none=>rfl
   |some u=>
    rcases ap b (by rw[q];simp) with e'|e'
    .subst e';rw[L] at e;cases e;have d':Data.seq vs.toArray _=Data.dict es M:=d;cases d'
    .subst e';rw[J0] at e;cases e;have d':Data.fields #[]=Data.dict es M:=d;cases d'
  have U:∀ {b:Addr} {m:Str->Option Value},B.heap.Ns b m->(hidT B.heap H).Ns b m:=λ{b m} ⟨o,es,M,e,d,r⟩=>⟨o,es,M,af e (aL e d),d,r⟩;have aq:K.In (hidT B.heap H):=λb o e=>af (ad b o e) (by
   cases q:H b with
   |none=>rfl
   |some u=>rw[aH b (by rw[q];simp)] at e;cases e)
  have aM:Mod K mg (hidT B.heap H):=⟨aq,U ae,⟨ab,U D,au⟩,let ⟨aN,h1,h2⟩:=av;⟨aN,U h1,h2⟩⟩;have aO:(hidT B.heap H).BuiltinsAt mg tb:=by
   obtain⟨S,I,aP,aQ,O,Y,aR,ag⟩:=ax;refine⟨S,I,aP,aQ,λq=>?_,λq=>?_,af O (aI O (λq=>by rw[Y] at q;injection q with q;exact absurd q (by decide)) (λq=>by rw[Y] at q;cases q)),Y,aR,ag⟩
   .obtain⟨o,es,M,e,aS,_⟩:=ae;rw[q,e] at O;cases O;rw[aS] at ag;cases ag
   .rw[q,J0] at O;cases O;cases Y
  have aT:Env0 P w K mg (hidT B.heap H) callerA [] B H:=⟨J,aM,λb o e=>zkC e,Nat.le_of_eq (zhB _ _),trivial,λb D=>absurd (show b∈([]:List Addr) from D) (by simp),ao,.of_eq aw⟩;refine codeAny_mono ((F _ aq (U ae) aO).run callerA [] B H ⟨[.ref a],[]⟩ [.ref a] [.ref a] _ _ az aT (aA B (.ref a)) (.cons rfl .nil) (aB H am aG)) λr s' h=>?_;cases r with
  |error e=>exact(aC H e s' h).elim
  |ok aU=>
   cases aU with
   |next=>exact False.elim h
   |brk=>exact False.elim h
   |cont=>exact False.elim h
   |ret u=>
    obtain⟨v,H',os,aV,Z,ar,aW,q⟩:=h;have q':v=.bl true:=q;subst q';obtain rfl:u=Value.bool true:=aW;refine⟨J,⟨λb o e=>?_,λb o e=>Z.there b o e (by simp)⟩,os,aV⟩;by_cases as:b=tb
    .subst as;rw[J0] at e;cases e;obtain⟨more,aa⟩:=Z.tbls b _ am;have ah:s'.heap.get? b=some { cls:=.none,data:=.fields (#[]++more) }:=ar b _ aa;have TA:=(W.codeHd_of_K ad ay).tab J0;exact .inr (.inl ⟨TA.isCodeTable,J,#[],more,J,ah⟩)
    .refine .inl ?_;cases q:H b with
     |none=>exact Z.keep b o e q (by intro z;exact absurd (show b∈([]:List Addr) from z) (by simp)) (by simp)
     |some u=>
      rcases aF b as with z|⟨I,xs,z⟩
      .rw[q] at z;cases z
      .have aX:=Z.frzs b I _ z;obtain⟨aa,_⟩:=ao b _ z;obtain⟨ah,_⟩:=ar b _ aX;rw[e] at aa;cases aa;exact ah
 cases hk:K.lookup a with
 |some o=>
  have e:=ad a o hk;rw[L] at e;cases e;refine al (λb=>if b=tb then some (.tbl #[]) else none) (if_pos J) (λb D=>.inl (if_neg D)) (.inr ⟨_,vs.toArray,_,hk,J,J,J,by rw[List.size_toArray,aD];exact aj,by simpa using ak⟩) (λb u z=>?_) (λb z=>?_) λb z=>?_
  .by_cases D:b=tb
   .have z':=(if_pos D).symm.trans z;cases z';subst D;exact J0
   .have z':=(if_neg D).symm.trans z;cases z'
  .by_cases D:b=tb
   .exact .inr D
   .exact absurd (if_neg D) z
  .by_cases D:b=tb
   .rw[D];exact ai
   .exact absurd (if_neg D) z
 |none=>
  refine al (λb=>if b=tb then some (.tbl #[]) else if b=a then some (.frz { cls:=.type "list",data:=.seq vs.toArray } (.lst (R.map V.int))) else none) (if_pos J) (λb D=>?_) (.inl (.inr ⟨{ cls:=.type "list",data:=.seq vs.toArray },(if_neg aE).trans (if_pos J)⟩)) (λb u z=>?_) (λb z=>?_) λb z=>?_
  .by_cases G:b=a
   .exact .inr ⟨_,_,(if_neg D).trans (if_pos G)⟩
   .exact .inl ((if_neg D).trans (if_neg G))
  .by_cases D:b=tb
   .have z':=(if_pos D).symm.trans z;cases z';subst D;exact J0
   .by_cases G:b=a
    .have z':=((if_neg D).trans (if_pos G)).symm.trans z;cases z';subst G;exact⟨L,by rw[List.length_map];exact aj,vs,_,ak,L⟩
    .have z':=((if_neg D).trans (if_neg G)).symm.trans z;cases z'
  .by_cases D:b=tb
   .exact .inr D
   .by_cases G:b=a
    .exact .inl G
    .exact absurd ((if_neg D).trans (if_neg G)) z
  .by_cases D:b=tb
   .rw[D];exact ai
   .by_cases G:b=a
    .rw[G];exact hk
    .exact absurd ((if_neg D).trans (if_neg G)) z
theorem walk_ofT{l:W.OpenLaw}{n k:Nat}{q:Program}{M:List Str}{O:(Str->Option Value)->Heap->Prop}{I:World->Heap->Prop}{d:DefRec}{K:Params->W.Frag}{CX:World->CXT}{sp:World->Sp}{x:Str}{tb:Addr}(R:l.most=some n)(S:n<=sizeLine)(U:d.params.defaults=[])(Y:Room k callerA)(Z:∀(w:World) (h:Heap),I w h->(K w.params).In h/\h.get? tb=some (W.tabObj #[]))(F:∀(w:World) (mg:Str->Option Value) (B:Addr) (h:Heap),(K w.params).In h->h.Ns mainGlobals mg->mg d.name=some (.ref B) ->
   ∃(fd:FuncData) (c:Addr),W.codeHdIn (K w.params) c tb=true/\(K w.params).lookup tb=none/\(∀(s:Shared) (u:Value),BindsTo s fd ⟨[u],[]⟩ [(x,u)]) /\
    ∀base:Heap,(K w.params).In base->base.Ns mainGlobals mg->base.BuiltinsAt mg tb->FnOk l.prog w (K w.params) mg base (CX w) k B fd [x] (sp w))(aa:∀(w:World) (H:Hp) (a:Addr) (D:List Int),D.length<=n->H tb=some (.tbl #[])->SqL (K w.params) H a (D.map V.int)->sp w [.ref a] H (λv _=>v=.bl true) λ_ _ _=>False)(ab:∀(w:World) (H:Hp) (s:Shared) (e:Value) (s':Shared),CX w [] H s (λ_ _ _=>False) e s'->False) :
  W.WalkO q M O I l.row.toRowW d [] (λf vs=>PySem.call f vs):=by
 refine Att.attach_call R U λw s₀ ac mg aq B o pm ar doc a vs D G ad as au av ae af ag J0 ah=>?_;obtain⟨L,ai⟩:=Z w _ ad;obtain⟨fd,c,aj,ak,al,am⟩:=F w mg B _ L G.T.g ae;exact law_callT L G.T.g G.T.b G.T.builtins G.T.nolimit ah G.T.bmain aj ai ak af ag (Nat.le_trans J0 S) Y am al (λH ao ap=>aa w H a D J0 ao ap) λH e s'=>ab w H ac e s'
end L2
namespace T1
open PySem L2
structure FK(K:W.Frag)(n:Str)(st:Stmt)(f:Addr)(fd:FuncData):Prop where
 a:W.nsIn K mainGlobals n=some (some (.ref f))
 F:Fun K n n st f fd
structure MK(K:W.Frag)(C:Addr)(n q:Str)(st:Stmt)(f:Addr)(fd:FuncData):Prop where
 M:Meth K C n f
 F:Fun K n q st f fd
section
variable {K:W.Frag}{n q x:Str}{st:Stmt}{f C:Addr}{fd:FuncData}{oc kV doc pm cdv ct:Value}{od an:Option Addr}{osl:Array (Option Value)}
theorem fk(a:W.nsIn K mainGlobals n=some (some (.ref f)))(l:K.lookup f=some ⟨oc,od,.func (W.fnOf n n (zbR st) (zbA st) (zag st) .none kV doc pm an cdv ct),osl⟩)(c:W.codeIn K cdv n=true)(k:W.keepIn K (.ref f)=true) :
  FK K n st f (W.fnOf n n (zbR st) (zbA st) (zag st) .none kV doc pm an cdv ct):=⟨a,zh0 l c k⟩
theorem mkm(a:W.findIn K (.ref C) n=some (some (.ref f)))(i:W.isFn K (.ref f)=true)(l:K.lookup f=some ⟨oc,od,.func (W.fnOf n q (zbR st) (zbA st) (zag st) .none kV doc pm an cdv ct),osl⟩)(c:W.codeIn K cdv q=true)(k:W.keepIn K (.ref f)=true) :
  MK K C n q st f (W.fnOf n q (zbR st) (zbA st) (zag st) .none kV doc pm an cdv ct):=⟨⟨a,i,k⟩,zh0 l c k⟩
theorem FK.m{h:Heap}{mg:Str->Option Value}(A:FK K n st f fd)(X:K.In h)(G:h.Ns mainGlobals mg):mg n=some (.ref f):=W.mg_of X G A.a
theorem FK.law{h:Heap}{mg:Str->Option Value}(A:FK K n st f fd)(X:K.In h)(G:h.Ns mainGlobals mg){g:Addr}(e:mg n=some (.ref g)):g=f:=by
 have:=e.symm.trans (A.m X G);injection this with this;injection this
noncomputable abbrev fo(x q:Str)(st:Stmt)(kV doc pm:Value)(an:Option Addr)(cdv ct:Value):FuncData:=W.fnOf x q (zbR st) (zbA st) (zag st) .none kV doc pm an cdv ct
theorem bn1{p:Str}(F:Fun K x q st f fd)(h:∀kV doc pm an cdv ct a,bindArgs (fo x q st kV doc pm an cdv ct) ⟨[a],[]⟩=pure [(p,a)]):Binds K fd [p] []:=
 F.binds λ_ _ _ _ _ _ us B=>bd1 (f:=λus=>bindArgs _ ⟨us,[]⟩) (g:=λus=>pure (List.zip _ us)) (h _ _ _ _ _ _) us B
theorem bn2{p p2:Str}(F:Fun K x q st f fd)(h:∀kV doc pm an cdv ct a b,bindArgs (fo x q st kV doc pm an cdv ct) ⟨[a,b],[]⟩=pure [(p,a),(p2,b)]):Binds K fd [p,p2] []:=
 F.binds λ_ _ _ _ _ _ us B=>bd2 (f:=λus=>bindArgs _ ⟨us,[]⟩) (g:=λus=>pure (List.zip _ us)) (h _ _ _ _ _ _) us B
theorem bn3{p p2 p3:Str}(F:Fun K x q st f fd)(h:∀kV doc pm an cdv ct a b c,bindArgs (fo x q st kV doc pm an cdv ct) ⟨[a,b,c],[]⟩=pure [(p,a),(p2,b),(p3,c)]):Binds K fd [p,p2,p3] []:=
 F.binds λ_ _ _ _ _ _ us B=>bd3 (f:=λus=>bindArgs _ ⟨us,[]⟩) (g:=λus=>pure (List.zip _ us)) (h _ _ _ _ _ _) us B
theorem bn4{p p2 p3 p4:Str}(F:Fun K x q st f fd)(h:∀kV doc pm an cdv ct a b c d,bindArgs (fo x q st kV doc pm an cdv ct) ⟨[a,b,c,d],[]⟩=pure [(p,a),(p2,b),(p3,c),(p4,d)]):Binds K fd [p,p2,p3,p4] []:=
 F.binds λ_ _ _ _ _ _ us B=>bd4 (f:=λus=>bindArgs _ ⟨us,[]⟩) (g:=λus=>pure (List.zip _ us)) (h _ _ _ _ _ _) us B
theorem bn5{p p2 p3 p4 p5:Str}(F:Fun K x q st f fd)(h:∀kV doc pm an cdv ct a b c d e,bindArgs (fo x q st kV doc pm an cdv ct) ⟨[a,b,c,d,e],[]⟩=pure [(p,a),(p2,b),(p3,c),(p4,d),(p5,e)]):Binds K fd [p,p2,p3,p4,p5] []:=
 F.binds λ_ _ _ _ _ _ us B=>bd5 (f:=λus=>bindArgs _ ⟨us,[]⟩) (g:=λus=>pure (List.zip _ us)) (h _ _ _ _ _ _) us B
theorem bnl(F:Fun K x q st f fd)(h:∀kV doc pm an cdv ct (s:Shared) (v:Value),BindsTo s (fo x q st kV doc pm an cdv ct) ⟨[v],[]⟩ [("script",v)]):∀(s:Shared) (v:Value),BindsTo s fd ⟨[v],[]⟩ [("script",v)]:=by
 obtain⟨oc,od,kV,doc,pm,an,cdv,ct,osl,rfl,B,D⟩:=F.ex;exact h _ _ _ _ _ _
end
/-! ### what the top has written,and the law's own head -/
theorem all_mk{l:W.OpenLaw}{w:World}{K:W.Frag}{h:Heap}{mg:Str->Option Value}{a5 Z D h1 h2 a6 a7 B a8 a9 ba bb bc bd be bf bg bh bi bj F bk bl bm bn bo bp bq br bs bt aa bu bv bw bx bz bA bB bC bD bE bF bG bH bI bJ bK bL bM bN b6:Addr}{b7 b8 b9 ca cb cc cd ce cf cg ch ci cj ck cm cn co cp cq cr cs cu cv cw cx cy cz cA cB cC cD cE cF cG cH cI cJ cK cL cM cN cO cP cQ cR cS:FuncData}{od an:Option Addr}{cT:Array (Option Value)}{oc kV cU pm ct:Value}{cV:Tok}{cW:Tok}(X:K.In h)(G:h.Ns mainGlobals mg)(cX:mg "law"=some (.ref a5))(I:FK K "tongue_within" zf1 bp b7)(R:FK K "possible_marks" sPoss bq b8)(ab:FK K "fitting_marks" zdp br b9)(ac:FK K "take_mark" zio bs ca)(ad:FK K "read_plain" zf2 bt cb)(cY:W.nsIn K mainGlobals "read_step"=some (some (.ref aa)))(cZ:K.lookup aa=some ⟨oc,od,.func (W.fnOf "read_step" "read_step" (zbR sStep) (zbA sStep) (zag sStep) .none kV cU pm an (.ref Z) ct),cT⟩)(c0:W.codeIn K (.ref Z) "read_step"=true)(ae:W.keepIn K (.ref aa)=true)(J0:FK K "read_on" sOn bu cc)(S:FK K "moved" ziq bv cd)(af:FK K "is_sure" zdR bw ce)(U:FK K "sure_steps" zc4 bx cf)(ag:FK K "places_left_open" sLeft bz cg)(ah:FK K "steps" zir bA ch)(ai:FK K "standing" zdQ bB ci)(aj:FK K "unfinished" zgE bC cj)(ak:FK K "_law_bag" lBag bD ck)(L:FK K "_law_take" lTake bE cm)(al:FK K "_law_marks" zis bF cn)(am:FK K "_law_text" lText bG co)(M:FK K "_law_fitting" zcm bH cp)(O:FK K "_law_step" lStep bI cq)(ao:FK K "_law_steps" zit bJ cr)(ap:FK K "_law_sure" lSure bK cs)(aq:FK K "_law_stands" zc5 bL cu)(ar:FK K "_law_anew" lAnew bM cv)(as:FK K "_law_deep_book" zdT bN cw)(aI:FK K "law" lLaw b6 cx)(bO:W.codeHdIn K Z 56=true)(c1:K.lookup 56=none)(c2:W.nsIn K mainGlobals "Standings"=some (some (.ref D)))(au:MK K D "__init__" "Standings.__init__" ziO h1 cy)(aJ:MK K D "within" "Standings.within" zeT h2 cz)(aK:MK K D "around" "Standings.around" zf7 a6 cA)(av:MK K D "doors_by" "Standings.doors_by" zeU a7 cB)(c3:W.plainGet K D Str.empty=true)(c4:W.hasDictIn K D=true)(c5:W.plainOver K D=true)(c6:W.findIn K (.ref D) "__setattr__"=some (some (.builtin "object.__setattr__")))(c7:W.makesIn K D=true)(c8:W.keepIn K (.ref D)=true)(c9:W.findIn K (.ref D) "rows"=some none)(da:W.findIn K (.ref D) "numbers"=some none)(db:W.nsIn K mainGlobals "Page"=some (some (.ref B)))(aw:MK K B "__init__" "Page.__init__" ziR a8 cC)(aL:MK K B "change" "Page.change" zgb a9 cD)(aM:MK K B "text" "Page.text" ziS ba cE)(aN:MK K B "steps" "Page.steps" zgc bb cF)(ax:MK K B "put" "Page.put" mPut bc cG)(aO:MK K B "read_anew" "Page.read_anew" mAnew bd cH)(aP:MK K B "goes_on" "Page.goes_on" ze2 be cI)(aQ:MK K B "stand_behind" "Page.stand_behind" zgd bf cJ)(V:MK K B "beginning" "Page.beginning" zc8 bg cK)(aR:MK K B "numbers_by_beginnings" "Page.numbers_by_beginnings" zdv bh cL)(aS:MK K B "count_sure" "Page.count_sure" zc9 bi cM)(aT:MK K B "count_ended" "Page.count_ended" zcC bj cN)(dc:W.plainGet K B Str.empty=true)(dd:W.hasDictIn K B=true)(de:W.plainOver K B=true)(df:W.findIn K (.ref B) "__setattr__"=some (some (.builtin "object.__setattr__")))(dg:W.makesIn K B=true)(dh:W.keepIn K (.ref B)=true)(di:W.findIn K (.ref B) "book"=some none)(dj:W.findIn K (.ref B) "signs"=some none)(dk:W.findIn K (.ref B) "told"=some none)(dl:W.findIn K (.ref B) "stands"=some none)(dm:W.findIn K (.ref B) "standings"=some none)(dn:W.findIn K (.ref B) "ways_back"=some none)(dp:W.nsIn K mainGlobals "Reader"=some (some (.ref F)))(ay:MK K F "__init__" "Reader.__init__" mInit bk cO)(az:MK K F "begin_anew" "Reader.begin_anew" zi6 bl cP)(aU:MK K F "feed" "Reader.feed" mFeed bm cQ)(aV:MK K F "finish" "Reader.finish" zgh bn cR)(aA:MK K F "hand_out" "Reader.hand_out" mHand bo cS)(dq:W.plainGet K F Str.empty=true)(dr:W.hasDictIn K F=true)(dt:W.plainOver K F=true)(du:W.findIn K (.ref F) "__setattr__"=some (some (.builtin "object.__setattr__")))(dv:W.makesIn K F=true)(dw:W.keepIn K (.ref F)=true)(dy:W.findIn K (.ref F) "book"=some none)(dz:W.findIn K (.ref F) "rest"=some none)(dA:W.findIn K (.ref F) "place"=some none)(dB:W.findIn K (.ref F) "doors"=some none)(dC:W.nsIn K mainGlobals "len"=some none)(dD:W.nsIn K mainGlobals "ord"=some none)(dE:W.nsIn K mainGlobals "all"=some none)(dF:W.nsIn K mainGlobals "any"=some none)(dG:W.nsIn K mainGlobals "isinstance"=some none)(dH:W.nsIn K mainGlobals "str"=some none)(dI:W.nsIn K mainGlobals "int"=some none)(dJ:W.nsIn K mainGlobals "bool"=some none)(dK:W.nsIn K mainGlobals "tuple"=some none)(dL:W.nsIn K mainGlobals "range"=some none)(dM:W.nsIn K mainGlobals "sorted"=some none)(dN:W.nsIn K mainGlobals "max"=some none)(dO:W.nsIn K mainGlobals "list"=some none)(dP:W.nsIn K mainGlobals "set"=some none)(dQ:W.nsIn K mainGlobals "min"=some none)(dR:W.nsIn K mainGlobals "sum"=some none)(dS:W.nsIn K mainGlobals "zip"=some none)(dT:W.nsIn K mainGlobals "LONGEST_MARK"=some (some (.int 4 cV)))(dU:W.nsIn K mainGlobals "MOST_SIGNS"=some (some (.int 2000 cW))) :
  ∃(fd:FuncData) (c:Addr),W.codeHdIn K c 56=true/\K.lookup 56=none/\(∀(s:Shared) (v:Value),BindsTo s fd ⟨[v],[]⟩ [("script",v)])/\∀base:Heap,K.In base->base.Ns mainGlobals mg->base.BuiltinsAt mg 56->FnOk l.prog w K mg base CX0 10 a5 fd ["script"] (zfc K 56):=by
 have e:=aI.law X G cX;subst e;have T:TxtB mg:=⟨W.mg_none_of X G dC,W.mg_none_of X G dD,W.mg_none_of X G dE,W.mg_none_of X G dF,W.mg_none_of X G dG,W.mg_none_of X G dH,W.mg_none_of X G dI,W.mg_none_of X G dJ,W.mg_none_of X G dK,W.mg_none_of X G dL,W.mg_none_of X G dM,W.mg_none_of X G dN⟩;have aB:Txt2 mg:=⟨W.mg_none_of X G dO,W.mg_none_of X G dP,W.mg_none_of X G dQ⟩;have bP:=W.mg_none_of X G dR;have dV:=W.mg_none_of X G dS;have dW:=W.mg_of X G dT;have bQ:=W.mg_of X G dU;have dX:Cls K D:=⟨c3,c4,c5,c6⟩;have dY:=bn1 (p:="self") au.F λ_ _ _ _ _ _ _=>rfl;have dZ:=bn3 (p:="self") (p2:="number") (p3:="door") aJ.F λ_ _ _ _ _ _ _ _ _=>rfl;have d0:=bn2 (p:="self") (p2:="number") aK.F λ_ _ _ _ _ _ _ _=>rfl;have bR:=bn2 (p:="self") (p2:="number") av.F λ_ _ _ _ _ _ _ _=>rfl;have d1:Cls K B:=⟨dc,dd,de,df⟩;have d2:=bn3 (p:="self") (p2:="book") (p3:="text") aw.F λ_ _ _ _ _ _ _ _ _=>rfl;have d3:=bn4 (p:="self") (p2:="begin") (p3:="end") (p4:="text") aL.F λ_ _ _ _ _ _ _ _ _ _=>rfl;have d4:=bn1 (p:="self") aM.F λ_ _ _ _ _ _ _=>rfl;have d5:=bn1 (p:="self") aN.F λ_ _ _ _ _ _ _=>rfl;have bS:=bn4 (p:="self") (p2:="begin") (p3:="end") (p4:="text") ax.F λ_ _ _ _ _ _ _ _ _ _=>rfl;have d6:=bn5 (p:="self") (p2:="kept") (p3:="first") (p4:="elder") (p5:="longer") aO.F λ_ _ _ _ _ _ _ _ _ _ _=>rfl
 have d7:=bn4 (p:="self") (p2:="place") (p3:="elder") (p4:="stand") aP.F λ_ _ _ _ _ _ _ _ _ _=>rfl;have d8:=bn4 (p:="self") (p2:="stand") (p3:="step") (p4:="doors") aQ.F λ_ _ _ _ _ _ _ _ _ _=>rfl;have aC:=bn2 (p:="self") (p2:="number") V.F λ_ _ _ _ _ _ _ _=>rfl;have d9:=bn3 (p:="self") (p2:="end") (p3:="longer") aR.F λ_ _ _ _ _ _ _ _ _=>rfl;have ea:=bn2 (p:="self") (p2:="begin") aS.F λ_ _ _ _ _ _ _ _=>rfl;have eb:=bn2 (p:="self") (p2:="place") aT.F λ_ _ _ _ _ _ _ _=>rfl;have ec:Cls K F:=⟨dq,dr,dt,du⟩;have ed:=bn2 (p:="self") (p2:="book") ay.F λ_ _ _ _ _ _ _ _=>rfl;have bT:=bn1 (p:="self") az.F λ_ _ _ _ _ _ _=>rfl;have ee:=bn2 (p:="self") (p2:="piece") aU.F λ_ _ _ _ _ _ _ _=>rfl;have ef:=bn1 (p:="self") aV.F λ_ _ _ _ _ _ _=>rfl;have bU:=bn2 (p:="self") (p2:="found") aA.F λ_ _ _ _ _ _ _ _=>rfl;have aD:=bn1 (p:="doors") I.F λ_ _ _ _ _ _ _=>rfl;have bV:=bn2 (p:="book") (p2:="doors") R.F λ_ _ _ _ _ _ _ _=>rfl;have eg:=bn4 (p:="book") (p2:="text") (p3:="place") (p4:="doors") ab.F λ_ _ _ _ _ _ _ _ _ _=>rfl;have eh:=bn4 (p:="mark") (p2:="door") (p3:="place") (p4:="doors") ac.F λ_ _ _ _ _ _ _ _ _ _=>rfl;have ei:=bn4 (p:="book") (p2:="text") (p3:="place") (p4:="doors") ad.F λ_ _ _ _ _ _ _ _ _ _=>rfl;have bW:=zh0 (st:=sStep) cZ c0 ae;have aW:=W.mg_of X G cY;have aX:=bn4 (p:="book") (p2:="text") (p3:="place") (p4:="doors") bW λ_ _ _ _ _ _ _ _ _ _=>rfl;have aE:=bn3 (p:="book") (p2:="text") (p3:="doors") J0.F λ_ _ _ _ _ _ _ _ _=>rfl;have bX:=bn2 (p:="step") (p2:="by") S.F λ_ _ _ _ _ _ _ _=>rfl;have ej:=bn4 (p:="book") (p2:="part") (p3:="place") (p4:="doors") af.F λ_ _ _ _ _ _ _ _ _ _=>rfl;have bY:=bn3 (p:="book") (p2:="part") (p3:="doors") U.F λ_ _ _ _ _ _ _ _ _=>rfl;have ek:=bn1 (p:="told") ag.F λ_ _ _ _ _ _ _=>rfl;have em:=bn2 (p:="book") (p2:="text") ah.F λ_ _ _ _ _ _ _ _=>rfl;have en:=bn2 (p:="book") (p2:="text") ai.F λ_ _ _ _ _ _ _ _=>rfl;have eo:=bn2 (p:="book") (p2:="text") aj.F λ_ _ _ _ _ _ _ _=>rfl;have ep:=bn2 (p:="script") (p2:="k") ak.F λ_ _ _ _ _ _ _ _=>rfl;have aY:=bn2 (p:="bag") (p2:="many") L.F λ_ _ _ _ _ _ _ _=>rfl;have eq:=bn1 (p:="book") al.F λ_ _ _ _ _ _ _=>rfl;have er:=bn3 (p:="bag") (p2:="book") (p3:="most") am.F λ_ _ _ _ _ _ _ _ _=>rfl;have aZ:=bn4 (p:="book") (p2:="doors") (p3:="text") (p4:="place") M.F λ_ _ _ _ _ _ _ _ _ _=>rfl;have a0:=bn5 (p:="book") (p2:="doors") (p3:="text") (p4:="place") (p5:="mark") O.F λ_ _ _ _ _ _ _ _ _ _ _=>rfl;have et:=bn2 (p:="book") (p2:="text") ao.F λ_ _ _ _ _ _ _ _=>rfl;have eu:=bn2 (p:="book") (p2:="text") ap.F λ_ _ _ _ _ _ _ _=>rfl;have ev:=bn2 (p:="book") (p2:="text") aq.F λ_ _ _ _ _ _ _ _=>rfl;have ew:=bn5 (p:="book") (p2:="old") (p3:="begin") (p4:="end") (p5:="put") ar.F λ_ _ _ _ _ _ _ _ _ _ _=>rfl;have ey:=bn1 (p:="bag") as.F λ_ _ _ _ _ _ _=>rfl;refine⟨_,Z,bO,c1,bnl aI.F λ_ _ _ _ _ _ s v=>.of_eq J,λbase _ _ ez=>?_⟩;have aF:FnOk l.prog w K mg base CX0 1 bp _ ["doors"] zb5:=ziz I.F ;have bZ:FnOk l.prog w K mg base CX0 2 bq _ ["book","doors"] zfw:=zk5 R.F I.F.kp aD (I.m X G) aF;have eA:FnOk l.prog w K mg base CX0 3 br _ ["book","text","place","doors"] zgK:=zk6 ab.F R.F.kp bV (R.m X G) bZ;have eB:FnOk l.prog w K mg base CX0 2 bs _ ["mark","door","place","doors"] zeL:=zjH ac.F T I.F.kp aD (I.m X G) aF;have eC:FnOk l.prog w K mg base CX0 2 bt _ ["book","text","place","doors"] zdr:=ziD ad.F T I.F.kp aD (I.m X G) aF;have a1:FnOk l.prog w K mg base CX0 4 aa _ ["book","text","place","doors"] (zc7 56):=zjI bW rfl bO ez T T.max ab.F.kp eg (ab.m X G) eA ad.F.kp ei (ad.m X G) eC ac.F.kp eh (ac.m X G) eB;have aG:FnOk l.prog w K mg base CX0 5 bu _ ["book","text","doors"] (spOnG 56):=zlV J0.F T ae aX aW a1;have b0:FnOk l.prog w K mg base CX0 1 bv _ ["step","by"] zdY:=zjL S.F ;have eD:FnOk l.prog w K mg base CX0 3 bw _ ["book","part","place","doors"] zgN:=zla af.F T I.F.kp aD (I.m X G) aF R.F.kp bV (R.m X G) bZ;have b1:FnOk l.prog w K mg base CX0 5 bx _ ["book","part","doors"] (zbI 56):=zfD U.F T ae aX aW a1 af.F.kp ej (af.m X G) eD;have eE:FnOk l.prog w K mg base CX0 1 bz _ ["told"] zgZ:=zll ag.F ;have eF:FnOk l.prog w K mg base CX0 6 bA _ ["book","text"] (zdA 56):=zja ah.F J0.F.kp aE (J0.m X G) (aG.imp zgi);have eG:FnOk l.prog w K mg base CX0 6 bB _ ["book","text"] (zcs 56):=zgk ai.F T J0.F.kp aE (J0.m X G) (aG.imp zgi);have eH:FnOk l.prog w K mg base CX0 6 bC _ ["book","text"] (zfb 56):=zka aj.F dV J0.F.kp aE (J0.m X G) (aG.imp zgi) ag.F.kp ek (ag.m X G) eE;have eI:FnOk l.prog w K mg base CX0 1 bD _ ["script","k"] (spBag K):=zlR ak.F T ;have a2:FnOk l.prog w K mg base CX0 1 bE _ ["bag","many"] zef:=zkZ L.F ;have eJ:FnOk l.prog w K mg base CX0 1 bF _ ["book"] zdq:=ziu al.F ;have eK:FnOk l.prog w K mg base CX0 2 bG _ ["bag","book","most"] zgF:=zk1 am.F T L.F.kp aY (L.m X G) a2 al.F.kp eq (al.m X G) eJ;have a3:FnOk l.prog w K mg base CX0 1 bH _ ["book","doors","text","place"] zbW:=zhk M.F T ;have a4:FnOk l.prog w K mg base CX0 1 bI _ ["book","doors","text","place","mark"] zeh:=zjG O.F T ;have eL:FnOk l.prog w K mg base CX0 2 bJ _ ["book","text"] zeJ:=ziv ao.F T M.F.kp aZ (M.m X G) a3 O.F.kp a0 (O.m X G) a4;have eM:FnOk l.prog w K mg base CX0 2 bK _ ["book","text"] zeQ:=zjQ ap.F T aB M.F.kp aZ (M.m X G) a3 O.F.kp a0 (O.m X G) a4;have eN:FnOk l.prog w K mg base CX0 2 bL _ ["book","text"] zcU:=zhv aq.F T M.F.kp aZ (M.m X G) a3 O.F.kp a0 (O.m X G) a4;have eO:FnOk l.prog w K mg base CX0 6 bM _ ["book","old","begin","end","put"] ze5:=zj3 ar.F T aB bP ap.F.kp eu (ap.m X G) eM aq.F.kp ev (aq.m X G) eN;have eP:FnOk l.prog w K mg base CX0 2 bN _ ["bag"] zgH:=zk4 as.F L.F.kp aY (L.m X G) a2;have TS:TxtS K mg D:=⟨dX,c9,da⟩;have TP:TxtP K mg B:=⟨d1,di,dj,dk,dl,dm,dn⟩;have Y:Txt3 K mg F:=⟨ec,dy,dz,dA,dB,bP⟩;have eQ:FnOk l.prog w K mg base CX0 1 h1 _ ["self"] (ze0 l.prog w D):=zjU au.F TS;have eR:FnOk l.prog w K mg base CX0 1 h2 _ ["self","number","door"] (zcR l.prog w D):=zhs aJ.F T TS;have eS:FnOk l.prog w K mg base CX0 1 a6 _ ["self","number"] (zdu l.prog w D):=ziQ aK.F TS;have b2:FnOk l.prog w K mg base CX0 1 a7 _ ["self","number"] (zcf l.prog w D):=zht av.F TS;have aH:FnOk l.prog w K mg base CX0 1 bg _ ["self","number"] (zb6 l.prog w B D):=ziV V.F T TP;have eT:FnOk l.prog w K mg base CX0 2 bj _ ["self","place"] (ze4 l.prog w B D):=zj0 aT.F T TP V.M aC aH;have eU:FnOk l.prog w K mg base CX0 1 be _ ["self","place","elder","stand"] (zdw B):=zi0 aP.F TP;have eV:FnOk l.prog w K mg base CX0 2 bf _ ["self","stand","step","doors"] (zdx l.prog w B D):=zi1 aQ.F TP TS aJ.M dZ eR aK.M d0 eS;have eW:FnOk l.prog w K mg base CX0 2 bh _ ["self","end","longer"] (zcT l.prog w B D):=zhu aR.F T TP V.M aC aH;have eX:FnOk l.prog w K mg base CX0 6 bi _ ["self","begin"] (zdy l.prog w 56 B D):=zi2 aS.F T TP TS dW ⟨_,J⟩ aT.M eb eT V.M aC aH U.F.kp bY (U.m X G) b1 av.M bR b2;have eY:FnOk l.prog w K mg base CX0 5 bd _ ["self","kept","first","elder","longer"] (zgV l.prog w 56 B D):=zlj aO.F T TP TS ae aX aW a1 av.M bR b2 aP.M d7 eU aQ.M d8 eV S.F.kp bX (S.m X G) b0
 have b3:FnOk l.prog w K mg base CX0 7 bc _ ["self","begin","end","text"] (spPut l.prog w 56 B D):=zlZ ax.F T TP aS.M ea eX V.M aC aH aR.M d9 eW aO.M d6 eY;have eZ:FnOk l.prog w K mg base CX0 8 a9 _ ["self","begin","end","text"] (zdz l.prog w 56 B D):=zi4 aL.F T TP bQ ⟨_,J⟩ ax.M bS b3;have e0:FnOk l.prog w K mg base CX0 1 ba _ ["self"] (ze6 l.prog w B D):=zj4 aM.F TP;have e1:FnOk l.prog w K mg base CX0 1 bb _ ["self"] (zcV l.prog w B D):=zhw aN.F aB TP;have e2:FnOk l.prog w K mg base CX0 8 a8 _ ["self","book","text"] (ze7 l.prog w 56 B D):=zj6 aw.F T TP bQ ⟨_,J⟩ ax.M bS b3 ⟨c7,au.M.1,au.M.2,c8⟩ (W.mg_of X G c2) dY eQ;have b4:FnOk l.prog w K mg base CX0 1 bl _ ["self"] (zd5 F):=zj9 az.F Y;have e3:FnOk l.prog w K mg base CX0 2 bk _ ["self","book"] (zg0 F):=zlo ay.F Y az.M bT b4;have b5:FnOk l.prog w K mg base CX0 2 bo _ ["self","found"] (zfK F):=zlp aA.F T Y S.F.kp bX (S.m X G) b0;have e4:FnOk l.prog w K mg base CX0 6 bm _ ["self","piece"] (zg1 56 F):=zlq aU.F Y U.F.kp bY (U.m X G) b1 aA.M bU b5;have e5:FnOk l.prog w K mg base CX0 6 bn _ ["self"] (zdB 56 F):=zjg aV.F Y J0.F.kp aE (J0.m X G) aG aA.M bU b5 az.M bT b4;exact zkd aI.F T aB Y TP (W.mg_of X G dp) ⟨dv,ay.M.1,ay.M.2,dw⟩ (W.mg_of X G db) ⟨dg,aw.M.1,aw.M.2,dh⟩ ak.F.kp ep (ak.m X G) eI as.F.kp ey (as.m X G) eP L.F.kp aY (L.m X G) a2 am.F.kp er (am.m X G) eK ao.F.kp et (ao.m X G) eL ah.F.kp em (ah.m X G) eF ai.F.kp en (ai.m X G) eG aj.F.kp eo (aj.m X G) eH ar.F.kp ew (ar.m X G) eO ed e3 aU.M ee e4 aV.M ef e5 d2 e2 aN.M d5 e1 aM.M d4 e0 aL.M d3 eZ
theorem walk{l:W.OpenLaw}{q:Program}{G:List Str}{I:(Str->Option Value)->Heap->Prop}{B:World->Heap->Prop}{d:DefRec}{K:Params->W.Frag}(J0:l.most=some 63)(L:d.params.defaults=[])(M:∀(w:World) (h:Heap),B w h->(K w.params).In h/\h.get? 56=some (W.tabObj #[]))(F:∀(w:World) (mg:Str->Option Value) (D:Addr) (h:Heap),(K w.params).In h->h.Ns mainGlobals mg->mg d.name=some (.ref D) ->
   ∃(fd:FuncData) (c:Addr),W.codeHdIn (K w.params) c 56=true/\(K w.params).lookup 56=none/\(∀(s:Shared) (u:Value),BindsTo s fd ⟨[u],[]⟩ [("script",u)])/\∀base:Heap,(K w.params).In base->base.Ns mainGlobals mg->base.BuiltinsAt mg 56->FnOk l.prog w (K w.params) mg base CX0 10 D fd ["script"] (zfc (K w.params) 56)) :
  W.WalkO q G I B l.row.toRowW d [] (λf vs=>PySem.call f vs):=
 L2.walk_ofT (n:=63) (k:=10) (x:="script") (tb:=56) (CX:=λ_=>CX0) (sp:=λw=>zfc (K w.params) 56) J0 (by decide) L ⟨J,by decide,by decide⟩ M F (λ_ _ a O U R S=>⟨a,O,J,S,.inl R,λ_=>rfl⟩) λ_ _ _ _ _ z=>z
end T1
open PySem PySem.W PyProof.Rows
local macro_rules|`(tactic| walk_at "own def")=>`(tactic| (refine' T1.fk ?k1 ?k2 ?k3 ?k4;(case k1=>k_is);(case k2=>k_is);(case k3=>k_is);(case k4=>k_is)))
local macro_rules|`(tactic| walk_at "own method")=>`(tactic| (refine' T1.mkm ?k1 ?k2 ?k3 ?k4 ?k5;(case k1=>k_is);(case k2=>k_is);(case k3=>k_is);(case k4=>k_is);(case k5=>k_is)))
def PySem.W.Fast.tw5573655499862864317 : Nat := 0
def PySem.W.Fast.tw2413732994695661245 : Nat := 0
def PySem.W.Fast.tw17949574347225411893 : Nat := 0
def PySem.W.Fast.tw684957705023051697 : Nat := 0
def PySem.W.Fast.tw15069828427747754965 : Nat := 0
def PySem.W.Fast.tw15687938607583088238 : Nat := 0
def PySem.W.Fast.tw14162274057536955939 : Nat := 0
def PySem.W.Fast.tw10235173596098948550 : Nat := 0
def PySem.W.Fast.tw1418225398592781501 : Nat := 0
def PySem.W.Fast.tw4611404163273096209 : Nat := 0
def PySem.W.Fast.tw1911174916074898343 : Nat := 0
def PySem.W.Fast.tw3152407195914288115 : Nat := 0
def PySem.W.Fast.tw2959240365085621311 : Nat := 0
def PySem.W.Fast.tw9023490413782564844 : Nat := 0
def PySem.W.Fast.tw11978367103316442081 : Nat := 0
def PySem.W.Fast.tw16436935090106050622 : Nat := 0
def PySem.W.Fast.tw3289014189012471860 : Nat := 0
def PySem.W.Fast.tw18004597654480693419 : Nat := 0
def PySem.W.Fast.tw1359392284397312776 : Nat := 0
def PySem.W.Fast.tw12264923551215564457 : Nat := 0
def PySem.W.Fast.tw3645972243329499570 : Nat := 0
def PySem.W.Fast.tw8901717111226716640 : Nat := 0
def PySem.W.Fast.tw14079471145136859104 : Nat := 0
def PySem.W.Fast.tw8837103372249754222 : Nat := 0
def PySem.W.Fast.tw3686862195582965397 : Nat := 0
def PySem.W.Fast.tw308726560413242771 : Nat := 0
def PySem.W.Fast.tw3209825061850368421 : Nat := 0
def PySem.W.Fast.tw9345910943436686144 : Nat := 0
def PySem.W.Fast.tw16609678853176137852 : Nat := 0
def PySem.W.Fast.tw5672751959792280373 : Nat := 0
def PySem.W.Fast.tw9106246745367049446 : Nat := 0
def PySem.W.Fast.tw7773839265861713454 : Nat := 0
def PySem.W.Fast.tw3002389160349762206 : Nat := 0
def PySem.W.Fast.tw4375298576077562920 : Nat := 0
def PySem.W.Fast.tw6598546270688378475 : Nat := 0
def PySem.W.Fast.tw13409245406408172692 : Nat := 0
def PySem.W.Fast.tw13717290456979077610 : Nat := 0
def PySem.W.Fast.tw8010061651914529515 : Nat := 0
def PySem.W.Fast.tw7730716712507760050 : Nat := 0
def PySem.W.Fast.tw7043214508168927330 : Nat := 0
def PySem.W.Fast.tw2501691279205055335 : Nat := 0
def PySem.W.Fast.tw11163524179776889238 : Nat := 0
def PySem.W.Fast.tw8887012293125673784 : Nat := 0
def PySem.W.Fast.tw7850921898438516981 : Nat := 0
def PySem.W.Fast.tw11436759242141952024 : Nat := 0
def PySem.W.Fast.tw2869250609382024074 : Nat := 0
def PySem.W.Fast.tw10352601656518991936 : Nat := 0
def PySem.W.Fast.tw8326301186627199089 : Nat := 0
def PySem.W.Fast.tw6388905890188397145 : Nat := 0
def PySem.W.Fast.tw701919849794225512 : Nat := 0
def PySem.W.Fast.tw13684828285174303662 : Nat := 0
def PySem.W.Fast.tw16891126963799324912 : Nat := 0
def PySem.W.Fast.tw360053956557819018 : Nat := 0
def PySem.W.Fast.tw14772820018090892467 : Nat := 0
def PySem.W.Fast.tw17521080969531112673 : Nat := 0
def PySem.W.Fast.tw7547828598831036034 : Nat := 0
def PySem.W.Fast.tw17165888464277376177 : Nat := 0
def PySem.W.Fast.tw5798302666060033240 : Nat := 0
def PySem.W.Fast.tw5430144081940610310 : Nat := 0
def PySem.W.Fast.tw7634667879128337351 : Nat := 0
def PySem.W.Fast.tw16117736551488172795 : Nat := 0
def PySem.W.Fast.tw9879740071009373720 : Nat := 0
def PySem.W.Fast.tw15382488275365787143 : Nat := 0
def PySem.W.Fast.tw17412838183302006335 : Nat := 0
def PySem.W.Fast.tw15408051826259774973 : Nat := 0
def PySem.W.Fast.tw6934832338334883651 : Nat := 0
def PySem.W.Fast.tw14491926771337232814 : Nat := 0
def PySem.W.Fast.tw11052328502185573269 : Nat := 0
def PySem.W.Fast.tw10214423242853522850 : Nat := 0
def PySem.W.Fast.tw8275129970428135072 : Nat := 0
def PySem.W.Fast.tw11360118034434611306 : Nat := 0
def PySem.W.Fast.tw7120844202047265571 : Nat := 0
def PySem.W.Fast.tw2191583280520736494 : Nat := 0
def PySem.W.Fast.tw402396798192434317 : Nat := 0
def PySem.W.Fast.tw8819831839270631256 : Nat := 0
def PySem.W.Fast.tw16619280215206728939 : Nat := 0
def PySem.W.Fast.tw2380210310742171831 : Nat := 0
def PySem.W.Fast.tw11900336133823903228 : Nat := 0
def PySem.W.Fast.tw10074250556728807853 : Nat := 0
def PySem.W.Fast.tw5634673273242805039 : Nat := 0
def PySem.W.Fast.tw10811106856106992073 : Nat := 0
def PySem.W.Fast.tw8887209457235297427 : Nat := 0
def PySem.W.Fast.tw334674595092641616 : Nat := 0
def PySem.W.Fast.tw5349272232422548715 : Nat := 0
def PySem.W.Fast.tw1337393225596100676 : Nat := 0
def PySem.W.Fast.tw14808996294814535212 : Nat := 0
def PySem.W.Fast.tw1685131484156114632 : Nat := 0
def PySem.W.Fast.tw13252002287788528856 : Nat := 0
def PySem.W.Fast.tw12192440546562630742 : Nat := 0
def PySem.W.Fast.tw6367903715823831150 : Nat := 0
def PySem.W.Fast.tw17042494840972476569 : Nat := 0
def PySem.W.Fast.tw7729947147962378323 : Nat := 0
def PySem.W.Fast.tw7460740967873484453 : Nat := 0
def PySem.W.Fast.tw938445285795809730 : Nat := 0
def PySem.W.Fast.tw7609396142465490004 : Nat := 0
def PySem.W.Fast.tw12048281402912215173 : Nat := 0
def PySem.W.Fast.tw13081841429179766412 : Nat := 0
def PySem.W.Fast.tw4388374352170616135 : Nat := 0
def PySem.W.Fast.tw14236726576397377902 : Nat := 0
def PySem.W.Fast.tw16970346982757622117 : Nat := 0
def PySem.W.Fast.tw837167296670080971 : Nat := 0
def PySem.W.Fast.tw4673984807323455119 : Nat := 0
def PySem.W.Fast.tw1874198382700139764 : Nat := 0
def PySem.W.Fast.tw14755752972337561998 : Nat := 0
def PySem.W.Fast.tw4012565249794828317 : Nat := 0
def PySem.W.Fast.tw8783997011641959704 : Nat := 0
def PySem.W.Fast.tw10528753798619638633 : Nat := 0
def PySem.W.Fast.tw5093685486375063861 : Nat := 0
def PySem.W.Fast.tw9276543489726244104 : Nat := 0
def PySem.W.Fast.tw9352428397416235001 : Nat := 0
def PySem.W.Fast.tw15841976111037045152 : Nat := 0
def PySem.W.Fast.tw16082304215538860840 : Nat := 0
def PySem.W.Fast.tw13745444499649420412 : Nat := 0
def PySem.W.Fast.tw17028268417830568331 : Nat := 0
def PySem.W.Fast.tw1304917483915230073 : Nat := 0
def PySem.W.Fast.tw2951355524198523085 : Nat := 0
def PySem.W.Fast.tw9483553233225045754 : Nat := 0
def PySem.W.Fast.tw17030740275886657651 : Nat := 0
def PySem.W.Fast.tw14299903653555515372 : Nat := 0
set_option maxRecDepth 100000 in
set_option maxHeartbeats 0 in
theorem PySem.Challenge.cw_tonguenest_k24_whole_long_and_deep_texts_holds : PySem.Challenge.rw_tonguenest_k24_whole_long_and_deep_texts.Holds := by
  w_on; o_law; k_head; (case hw => w_witness2)
  k_fill
  refine T1.walk (l := PySem.Challenge.rw_tonguenest_k24_whole_long_and_deep_texts) rfl rfl (fun w h Y => ⟨PySem.W.km_in_of Y, PySem.W.km_tabs_of Y 56 (by simp)⟩) ?F
  case F =>
    intro w mg fa h KX G hmg
    refine' T1.all_mk KX G hmg ?A1 ?A2 ?A3 ?A4 ?A5 ?a6 ?l6 ?c6 ?k6 ?A7 ?A8 ?A9 ?A10 ?A11 ?A12 ?A13 ?A14 ?A15 ?A16 ?A17 ?A18 ?A19 ?A20 ?A21 ?A22 ?A23 ?A24 ?A25 ?A26 ?hd ?hp ?aC1 ?B1 ?B2 ?B3 ?B4 ?cpg1 ?chd1 ?cpo1 ?csa1 ?cmk1 ?ckc1 ?nA1_1 ?nA1_2 ?aC2 ?B5 ?B6 ?B7 ?B8 ?B9 ?B10 ?B11 ?B12 ?B13 ?B14 ?B15 ?B16 ?cpg2 ?chd2 ?cpo2 ?csa2 ?cmk2 ?ckc2 ?nA2_1 ?nA2_2 ?nA2_3 ?nA2_4 ?nA2_5 ?nA2_6 ?aC3 ?B17 ?B18 ?B19 ?B20 ?B21 ?cpg3 ?chd3 ?cpo3 ?csa3 ?cmk3 ?ckc3 ?nA3_1 ?nA3_2 ?nA3_3 ?nA3_4 ?z1 ?z2 ?z3 ?z4 ?z5 ?z6 ?z7 ?z8 ?z9 ?z10 ?z11 ?z12 ?z13 ?z14 ?z15 ?z16 ?z17 ?gi1 ?gi2
    (case A1 => walk_at "own def")
    (case A2 => walk_at "own def")
    (case A3 => walk_at "own def")
    (case A4 => walk_at "own def")
    (case A5 => walk_at "own def")
    (case a6 => k_is)
    (case l6 => k_is)
    (case c6 => k_is)
    (case k6 => k_is)
    (case A7 => walk_at "own def")
    (case A8 => walk_at "own def")
    (case A9 => walk_at "own def")
    (case A10 => walk_at "own def")
    (case A11 => walk_at "own def")
    (case A12 => walk_at "own def")
    (case A13 => walk_at "own def")
    (case A14 => walk_at "own def")
    (case A15 => walk_at "own def")
    (case A16 => walk_at "own def")
    (case A17 => walk_at "own def")
    (case A18 => walk_at "own def")
    (case A19 => walk_at "own def")
    (case A20 => walk_at "own def")
    (case A21 => walk_at "own def")
    (case A22 => walk_at "own def")
    (case A23 => walk_at "own def")
    (case A24 => walk_at "own def")
    (case A25 => walk_at "own def")
    (case A26 => walk_at "own def")
    (case hd => kernel_rfl)
    (case hp => kernel_rfl)
    (case aC1 => k_is)
    (case B1 => walk_at "own method")
    (case B2 => walk_at "own method")
    (case B3 => walk_at "own method")
    (case B4 => walk_at "own method")
    (case cpg1 => k_is)
    (case chd1 => k_is)
    (case cpo1 => k_is)
    (case csa1 => k_is)
    (case cmk1 => k_is)
    (case ckc1 => k_is)
    (case nA1_1 => k_is)
    (case nA1_2 => k_is)
    (case aC2 => k_is)
    (case B5 => walk_at "own method")
    (case B6 => walk_at "own method")
    (case B7 => walk_at "own method")
    (case B8 => walk_at "own method")
    (case B9 => walk_at "own method")
    (case B10 => walk_at "own method")
    (case B11 => walk_at "own method")
    (case B12 => walk_at "own method")
    (case B13 => walk_at "own method")
    (case B14 => walk_at "own method")
    (case B15 => walk_at "own method")
    (case B16 => walk_at "own method")
    (case cpg2 => k_is)
    (case chd2 => k_is)
    (case cpo2 => k_is)
    (case csa2 => k_is)
    (case cmk2 => k_is)
    (case ckc2 => k_is)
    (case nA2_1 => k_is)
    (case nA2_2 => k_is)
    (case nA2_3 => k_is)
    (case nA2_4 => k_is)
    (case nA2_5 => k_is)
    (case nA2_6 => k_is)
    (case aC3 => k_is)
    (case B17 => walk_at "own method")
    (case B18 => walk_at "own method")
    (case B19 => walk_at "own method")
    (case B20 => walk_at "own method")
    (case B21 => walk_at "own method")
    (case cpg3 => k_is)
    (case chd3 => k_is)
    (case cpo3 => k_is)
    (case csa3 => k_is)
    (case cmk3 => k_is)
    (case ckc3 => k_is)
    (case nA3_1 => k_is)
    (case nA3_2 => k_is)
    (case nA3_3 => k_is)
    (case nA3_4 => k_is)
    (case z1 => k_is)
    (case z2 => k_is)
    (case z3 => k_is)
    (case z4 => k_is)
    (case z5 => k_is)
    (case z6 => k_is)
    (case z7 => k_is)
    (case z8 => k_is)
    (case z9 => k_is)
    (case z10 => k_is)
    (case z11 => k_is)
    (case z12 => k_is)
    (case z13 => k_is)
    (case z14 => k_is)
    (case z15 => k_is)
    (case z16 => k_is)
    (case z17 => k_is)
    (case gi1 => k_is)
    (case gi2 => k_is)
