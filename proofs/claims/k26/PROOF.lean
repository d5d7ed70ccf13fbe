import PyProof.Rows.All
import Wide.All
import OpenK.AllK
import Wide.FinOn
import Lean
import PyProof.EqAt
import PyProof.EqKinds
import PyProof.TupleCall
import PyProof.NeKinds
import KE.KSortKey
import KE.KMinKey
import PyProof.StrBlockG
import PyProof.StrBlockI
import KE.KRevSl
import PyProof.MeetsStr
import KE.KLam
import KE.KNestM
import PyProof.Rows.ZipForRows
import PyProof.Rows.FactsT2
import PyProof.StrOps2
import PyProof.Rows.SumAny
import KE.KDictSum
import PyProof.WalkInts
import PyProof.Rows.MinMaxN
import PyProof.TupleKey
import PyProof.DictRoadsH
import PyProof.ListRange
import PyProof.StrLawsIn
import PyProof.ListMulRoad
import PySem.Challenge.RW_tonguenest_k26_whole_hundreds_of_changes
set_option maxHeartbeats 0
set_option Elab.async false
set_option linter.all false
set_option maxRecDepth 100000
-- CHANGE: your row's module here,as the last of these rows
namespace L2
open PySem PySem.Spec PyProof.Rows
abbrev Key:=Sum Int Str
def keyIs:Key→Value→Bool
 |.inl k,v=>Value.isInt k v
 |.inr x,v=>Value.isStrOf x v
def keyH (w:World):Key→Int
 |.inl k=>hashInt k
 |.inr x=>hashStr w x
theorem zaR:∀ {k:Key}{v:Value},keyIs k v=true→(∃i t,k=Sum.inl i∧v=Value.int i t)∨(∃x t,k=Sum.inr x∧v=Value.str x t)
 |.inl i,v,h=>by
  obtain ⟨t,e⟩:=Value.isInt_shape (k:=i) (v:=v) h
  exact .inl ⟨i,t,rfl,e⟩
 |.inr x,v,h=>by
  obtain ⟨t,e⟩:=Value.isStrOf_shape (x:=x) (v:=v) h
  exact .inr ⟨x,t,rfl,e⟩
theorem zgS (i:Int) (t:Tok):keyIs (.inl i) (.int i t)=true:=by simp[keyIs,Value.isInt]
theorem zgT (x:Str) (t:Tok):keyIs (.inr x) (.str x t)=true:=by simp[keyIs,Value.isStrOf]
theorem zkU (a b:Int):decide ((Sum.inl a:Key)=Sum.inl b)=(a==b):=by
 by_cases e:a=b
 ·subst e;simp
 ·have h:¬(Sum.inl a:Key)=Sum.inl b:=fun q=>e (Sum.inl.inj q)
  rw[decide_eq_false h]
  exact (beq_eq_false_iff_ne.mpr e).symm
theorem zkV (a b:Str):decide ((Sum.inr a:Key)=Sum.inr b)=decide (a=b):=by
 by_cases e:a=b
 ·subst e;simp
 ·have h:¬(Sum.inr a:Key)=Sum.inr b:=fun q=>e (Sum.inr.inj q)
  rw[decide_eq_false h,decide_eq_false e]
theorem zkW (a:Int) (b:Str):decide ((Sum.inl a:Key)=Sum.inr b)=false:=decide_eq_false (fun q=>nomatch q)
theorem zkX (a:Str) (b:Int):decide ((Sum.inr a:Key)=Sum.inl b)=false:=decide_eq_false (fun q=>nomatch q)
def zaG (prog:Program) (w:World):PySem.KeyKind prog w Key where
 is:=keyIs
 hash:=keyH w
 inj:=fun v a b ha hb=>by
  rcases zaR ha with ⟨i,t,rfl,rfl⟩|⟨x,t,rfl,rfl⟩
  ·rcases zaR hb with ⟨j,u,rfl,e⟩|⟨y,u,rfl,e⟩
   ·injection e with e1 _;rw[e1]
   ·exact nomatch e
  ·rcases zaR hb with ⟨j,u,rfl,e⟩|⟨y,u,rfl,e⟩
   ·exact nomatch e
   ·injection e with e1 _;rw[e1]
 byValue:=fun k v h=>by
  rcases zaR h with ⟨i,t,rfl,rfl⟩|⟨x,t,rfl,rfl⟩<;>rfl
 pyHash:=fun hv h=>by
  rcases zaR hv with ⟨i,t,rfl,rfl⟩|⟨x,t,rfl,rfl⟩
  ·exact wpAny_pyHash_int h
  ·exact wpAny_pyHash_str h
 eqBool:=fun hu hv h=>by
  rcases zaR hu with ⟨i,t,rfl,rfl⟩|⟨x,t,rfl,rfl⟩
  ·rcases zaR hv with ⟨j,u,rfl,rfl⟩|⟨y,u,rfl,rfl⟩
   ·rw[zkU] at h;exact wpAny_eqBool_int h
   ·rw[zkW] at h;exact SeqAt.EqAt.int_str i t y u _ _ _ _ h
  ·rcases zaR hv with ⟨j,u,rfl,rfl⟩|⟨y,u,rfl,rfl⟩
   ·rw[zkX] at h;exact SeqAt.EqAt.str_int x t j u _ _ _ _ h
   ·rw[zkV] at h;exact wpAny_eqBool_str h
 «strs»:=fun k x t v h=>by
  rcases zaR h with ⟨i,u,rfl,e⟩|⟨y,u,rfl,e⟩
  ·exact nomatch e
  ·injection e with e1 _
   subst e1
   cases v<;>rfl
theorem zfu (prog:Program) (w:World) (i:Int) (t:Tok):(zaG prog w).is (.inl i) (.int i t)=true:=zgS i t
theorem zfv (prog:Program) (w:World) (x:Str) (t:Tok):(zaG prog w).is (.inr x) (.str x t)=true:=zgT x t
inductive V where
 |non|bl (b:Bool)|int (i:Int)|str (x:Str)|byt (b:Array UInt8)|flt (b:UInt64)|ref (a:Addr)|ty (n:String)
 deriving DecidableEq
def RelV:V→Value→Prop
 |.non,u=>u=Value.none
 |.bl b,u=>u=Value.bool b
 |.int i,u=>∃t,u=Value.int i t
 |.str x,u=>∃t,u=Value.str x t
 |.byt b,u=>∃t,u=Value.bytes b t
 |.flt b,u=>∃t,u=Value.float b t
 |.ref a,u=>u=Value.ref a
 |.ty n,u=>u=Value.type n
abbrev Vals:List V→List Value→Prop:=Paired RelV
theorem Vals.length {xs:List V}{us:List Value}(r:Vals xs us):xs.length=us.length:=Paired.length r
theorem Vals.get:∀ {xs:List V}{us:List Value}{i:Nat}{x:V},Vals xs us→xs[i]?=some x→∃u,us[i]?=some u∧RelV x u
 |_,_,_,_,.nil,e=>by simp at e
 |_,_,0,_,.cons r _,e=>by simp at e;subst e;exact ⟨_,rfl,r⟩
 |_,_,i+1,x,.cons _ t,e=>by
  obtain ⟨u,h1,h2⟩:=Vals.get (i:=i) (x:=x) t (by simpa using e)
  exact ⟨u,by simpa using h1,h2⟩
theorem Vals.set {x:V}{u:Value}(r:RelV x u):∀ {xs:List V}{us:List Value}(i:Nat),Vals xs us→Vals (xs.set i x) (us.set i u)
 |_,_,_,.nil=>.nil
 |_,_,0,.cons _ t=>.cons r t
 |_,_,i+1,.cons q t=>.cons q (Vals.set r i t)
theorem Vals.append:∀ {xs ys:List V}{us ws:List Value},Vals xs us→Vals ys ws→Vals (xs++ys) (us++ws)
 |_,_,_,_,.nil,s=>s
 |_,_,_,_,.cons r t,s=>.cons r (Vals.append t s)
theorem Vals.take:∀ {xs:List V}{us:List Value}(n:Nat),Vals xs us→Vals (xs.take n) (us.take n)
 |_,_,0,_=>.nil
 |_,_,_+1,.nil=>.nil
 |_,_,n+1,.cons r t=>.cons r (Vals.take n t)
theorem Vals.drop:∀ {xs:List V}{us:List Value}(n:Nat),Vals xs us→Vals (xs.drop n) (us.drop n)
 |_,_,0,r=>r
 |_,_,_+1,.nil=>.nil
 |_,_,n+1,.cons _ t=>Vals.drop n t
def RelO:Option V→Option Value→Prop
 |some v,some u=>RelV v u
 |none,none=>True
 |_,_=>False
def KV {κ:Type}:List (κ×V)→List (κ×Value)→Prop:=Paired fun (p:κ×V) (q:κ×Value)=>p.1=q.1∧RelV p.2 q.2
def kV:Key→V
 |.inl i=>.int i
 |.inr x=>.str x
inductive HO where
 /-- a list -/
 |lst (xs:List V)
 /-- a tuple (never changes) -/
 |tup (xs:List V)
 /-- a dict whose keys are ints and texts;one whose keys are tuples of ints and texts (the empty one is both) -/
 |dK (kvs:List (Key×V))|dT (kvs:List (List Key×V))
 /-- a set of ints: its members,its size -/
 |set (S:Int→Bool) (n:Nat)
 /-- an instance of the class at C,its dict at dx,its attributes -/
 |ins (C dx:Addr) (fs:List (Str×V))
 /-- the dict of the instance at x -/
 |own (x:Addr)
 /-- the dict of an exception -/
 |xd (fs:List (Str×V))
 /-- a bound method,f of x -/
 |met (f x:Addr)
 /-- a range object lo,lo+1,.. below hi -/
 |rng (lo hi:Int)
 /-- a thing that is known to the object (the script;a dict while a loop walks it): read,never written while it is so -/
 |frz (o:Obj) (u:HO)
 /-- a code object's table -/
 |tbl (ps:Array Value)
 /-- any other thing,by what is true of its one object (a def of one's own: SetO a S n:=HO.ext fun h=>..) -/
 |ext (φ:Heap→Prop)
abbrev Hp:=Addr→Option HO
def upd (H:Hp) (a:Addr) (o:HO):Hp:=fun b=>if b=a then some o else H b
theorem zab {H:Hp}{a:Addr}{o:HO}:upd H a o a=some o:=by unfold upd;rw[if_pos rfl]
theorem zaj {H:Hp}{a b:Addr}{o:HO}(h:b≠a):upd H a o b=H b:=by unfold upd;rw[if_neg h]
theorem zan {H:Hp}{a b:Addr}{o u:HO}(h:H a=some o) (h':H b=some u) (d:o≠u):a≠b:=by
 intro e;subst e;rw[h] at h';exact d (Option.some.inj h')
theorem zad {H:Hp}{a b:Addr}{o:HO}(h:H a=some o) (h':H b=none):a≠b:=by
 intro e;subst e;rw[h] at h';cases h'
section
variable (P:Program) (w:World)
def ObjOk (H:Hp) (h:Heap) (a:Addr):HO→Prop
 |.lst xs=>xs.length≤sizeLine∧∃(its:List Value) (n:Nat),Vals xs its∧h.get? a=some { cls:=.type "list",data:=.seq its.toArray n }
 |.tup xs=>xs.length≤sizeLine∧∃its:List Value,Vals xs its∧IsTup h a its.toArray
 |.dK kvs=>kvs.length≤sizeLine∧(a==sysModules)=false∧∃vs,KV kvs vs∧h.DictOf (zaG P w) a vs
 |.dT kvs=>kvs.length≤sizeLine∧(a==sysModules)=false∧∃xs:List (List Key×Addr×Value),
   Paired (fun (p:List Key×V) (q:List Key×Addr×Value)=>p.1=q.1∧H q.2.1=some (.tup (p.1.map kV))∧RelV p.2 q.2.2) kvs xs ∧
   ∃o es ep,h.get? a=some o∧o.ExactDict∧o.data=.dict es ep∧es.toList=xs.map (entryOfKey (tupleKind (zaG P w)))∧(xs.map (·.1)).Nodup
 |.set S n=>h.SetOf (intKind P w) a S n
 |.ins C dx fs=>H dx=some (.own a)∧fs.length≤1000∧dx≠a∧h.get? a=some (W.instObj C dx) ∧
   ∃mA,h.Ns1 dx mA∧(∀f,RelO (fs.lookup f) (mA f))∧PySem.Within mA (fs.map (·.1))
 |.own _=>∃o,h.get? a=some o
 |.xd fs=>∃mA,h.Ns1 a mA∧∀f,RelO (fs.lookup f) (mA f)
 |.rng lo hi=>∃t u v,h.get? a=some { cls:=.type "range",data:=.fields #[.int lo t,.int hi u,.int 1 v] }
 |.frz o u=>h.get? a=some o∧ObjOk H h a u
 |.tbl ps=>h.get? a=some { cls:=.none,data:=.fields ps }
 |.met f x=>h.get? a=some (W.methodObj (.ref f) (.ref x))
 |.ext φ=>φ h∧(∃o,h.get? a=some o)∧∀h1 h2:Heap,φ h1→(∀o,h1.get? a=some o→h2.get? a=some o)→φ h2
def HOk (H:Hp) (h:Heap):Prop:=∀a o,H a=some o→ObjOk P w H h a o
end
section
variable {P:Program}{w:World}{H H':Hp}{h h':Heap}{a:Addr}{o:HO}
theorem ObjOk.lt (x:ObjOk P w H h a o):a<h.objs.size:=by
 cases o with
 |lst xs=>obtain ⟨_,_,_,_,e⟩:=x;exact Heap.lt_size e
 |tup xs=>obtain ⟨_,_,_,p⟩:=x;exact p.lt
 |dK kvs=>obtain ⟨_,_,_,_,o,_,_,e,_⟩:=x;exact Heap.lt_size e
 |dT kvs=>obtain ⟨_,_,_,_,o,_,_,e,_⟩:=x;exact Heap.lt_size e
 |set S n=>obtain ⟨o,_,_,_,e,_⟩:=x;exact Heap.lt_size e
 |ins C dx fs=>obtain ⟨_,_,_,e,_⟩:=x;exact Heap.lt_size e
 |own y=>obtain ⟨_,e⟩:=x;exact Heap.lt_size e
 |xd fs=>obtain ⟨_,⟨_,_,_,e,_⟩,_⟩:=x;exact Heap.lt_size e
 |rng lo hi=>obtain ⟨_,_,_,e⟩:=x;exact Heap.lt_size e
 |frz ob u=>obtain ⟨e,_⟩:=x;exact Heap.lt_size e
 |tbl ps=>exact Heap.lt_size (show h.get? a=some _ from x)
 |met f y=>exact Heap.lt_size (show h.get? a=some _ from x)
 |ext φ=>obtain ⟨_,⟨_,e⟩,_⟩:=x;exact Heap.lt_size e
theorem Paired.mapP {α β:Type}{F G:α→β→Prop}:∀ {l₁:List α}{l₂:List β},Paired F l₁ l₂→(∀a b,F a b→G a b)→Paired G l₁ l₂
 |_,_,.nil,_=>.nil
 |_,_,.cons r t,f=>.cons (f _ _ r) (Paired.mapP t f)
theorem ObjOk.stay (x:ObjOk P w H h a o) (k:∀b u,(b=a∨H b=some (.own a))→h.get? b=some u→h'.get? b=some u)
  (ho:∀b,H b=some (.own a)→H' b=some (.own a)) (ht:∀b xs,H b=some (.tup xs)→H' b=some (.tup xs)):ObjOk P w H' h' a o:=by
 induction o with
 |lst xs=>obtain ⟨z,its,n,r,e⟩:=x;exact ⟨z,its,n,r,k _ _ (.inl rfl) e⟩
 |tup xs=>obtain ⟨z,its,r,ob,e,c⟩:=x;exact ⟨z,its,r,ob,k _ _ (.inl rfl) e,c⟩
 |dK kvs=>obtain ⟨z,y,vs,r,ob,es,ep,e,c⟩:=x;exact ⟨z,y,vs,r,ob,es,ep,k _ _ (.inl rfl) e,c⟩
 |dT kvs=>
  obtain ⟨z,y,xs,r,ob,es,ep,e,c⟩:=x
  exact ⟨z,y,xs,Paired.mapP r fun p q z=>⟨z.1,ht _ _ z.2.1,z.2.2⟩,ob,es,ep,k _ _ (.inl rfl) e,c⟩
 |set S n=>obtain ⟨ob,es,ep,t,e,c⟩:=x;exact ⟨ob,es,ep,t,k _ _ (.inl rfl) e,c⟩
 |ins C dx fs=>
  obtain ⟨d,z,ne,e,mA,⟨od,es,ep,e2,c⟩,r⟩:=x
  exact ⟨ho _ d,z,ne,k _ _ (.inl rfl) e,mA,⟨od,es,ep,k _ _ (.inr d) e2,c⟩,r⟩
 |own y=>obtain ⟨ob,e⟩:=x;exact ⟨ob,k _ _ (.inl rfl) e⟩
 |xd fs=>obtain ⟨mA,⟨od,es,ep,e,c⟩,r⟩:=x;exact ⟨mA,⟨od,es,ep,k _ _ (.inl rfl) e,c⟩,r⟩
 |rng lo hi=>obtain ⟨t,u,v,e⟩:=x;exact ⟨t,u,v,k _ _ (.inl rfl) e⟩
 |frz ob u ih=>obtain ⟨e,q⟩:=x;exact ⟨k _ _ (.inl rfl) e,ih q⟩
 |tbl ps=>
  have e:h.get? a=some { cls:=.none,data:=.fields ps }:=x
  show h'.get? a=some { cls:=.none,data:=.fields ps }
  exact k a _ (.inl rfl) e
 |met f y=>
  have e:h.get? a=some (W.methodObj (.ref f) (.ref y)):=x
  show h'.get? a=some (W.methodObj (.ref f) (.ref y))
  exact k a _ (.inl rfl) e
 |ext φ=>obtain ⟨p,⟨o,e⟩,st⟩:=x;exact ⟨st _ _ p fun o q=>k _ _ (.inl rfl) q,⟨o,k _ _ (.inl rfl) e⟩,st⟩
theorem HOk.lt (x:HOk P w H h) (e:H a=some o):a<h.objs.size:=(x a o e).lt
theorem HOk.fresh (x:HOk P w H h) (e:h.objs.size≤a):H a=none:=by
 cases q:H a with
 |none=>rfl
 |some u=>exact absurd (Nat.lt_of_lt_of_le (x.lt q) e) (Nat.lt_irrefl _)
theorem HOk.kept (x:HOk P w H h) (k:∀b u,h.get? b=some u→h'.get? b=some u):HOk P w H h':=fun a o e=>
 (x a o e).stay (fun b u _ q=>k b u q) (fun _ q=>q) fun _ _ q=>q
theorem HOk.laid (x:HOk P w H h) (k:∀b u,h.get? b=some u→h'.get? b=some u) (hp:h.objs.size≤a) (new:ObjOk P w (upd H a o) h' a o):HOk P w (upd H a o) h':=fun b u e=>by
 have hn:=x.fresh hp
 by_cases hb:b=a
 ·subst hb;rw[zab] at e;cases e;exact new
 ·rw[zaj hb] at e
  exact (x b u e).stay (fun c v _ q=>k c v q) (fun c q=>by rw[zaj (zad q hn)];exact q) fun c xs q=>by rw[zaj (zad q hn)];exact q
end
def Rd (H:Hp) (a:Addr) (u:HO):Prop:=H a=some u∨∃o,H a=some (.frz o u)
theorem Rd.ok {P:Program}{w:World}{H:Hp}{h:Heap}{a:Addr}{u:HO}(r:Rd H a u) (x:HOk P w H h):ObjOk P w H h a u:=by
 rcases r with r|⟨o,r⟩
 ·exact x a u r
 ·obtain ⟨_,q⟩:=x a _ r
  exact q
def Mut:Option HO→Prop
 |some (.lst _)=>True
 |some (.dK _)=>True
 |some (.dT _)=>True
 |some (.set _ _)=>True
 |some (.ins _ _ _)=>True
 |some (.ext _)=>True
 |_=>False
section
variable {P:Program}{w:World}{H:Hp}{h h':Heap}{x e:Addr}{o':HO}
theorem HOk.write (ok:HOk P w H h) (mu:Mut (H x)) (he:e=x∨H e=some (.own x)) (k:∀b u,b≠e→h.get? b=some u→h'.get? b=some u) (heo:∃u,h'.get? e=some u)
  (new:ObjOk P w (upd H x o') h' x o'):HOk P w (upd H x o') h':=fun b u q=>by
 have nown:∀c y,H c=some (.own y)→c≠x:=fun c y r z=>by subst z;rw[r] at mu;exact mu
 have ntup:∀c xs,H c=some (.tup xs)→c≠x:=fun c xs r z=>by subst z;rw[r] at mu;exact mu
 by_cases hb:b=x
 ·subst hb;rw[zab] at q;cases q;exact new
 ·rw[zaj hb] at q
  by_cases hbe:b=e
  ·have q':H b=some (.own x):=by
    rcases he with z|z
    ·exact absurd (hbe.trans z) hb
    ·rw[hbe];exact z
   rw[q] at q';cases q'
   obtain ⟨v,hv⟩:=heo
   exact ⟨v,by rw[hbe];exact hv⟩
  ·refine (ok b u q).stay (fun c v hc r=>k c v ?_ r) (fun c r=>by rw[zaj (nown c b r)];exact r) fun c xs r=>by rw[zaj (ntup c xs r)];exact r
   rcases hc with rfl|hc
   ·exact hbe
   ·rintro rfl
    rcases he with z|z
    ·exact nown c b hc z
    ·rw[hc] at z;cases z;exact hb rfl
end
structure Un (fs ex:List Addr) (H H':Hp) (h h':Heap):Prop where
 keep:∀b o,h.get? b=some o→H b=none→b∉fs→b∉ex→h'.get? b=some o
 slot:∀b o,h.get? b=some o→H b=none→b∈fs→b∉ex→∃sl,h'.get? b=some { o with slots:=sl }
 free:∀b o,h.get? b=some o→H b=none→b∉ex→H' b=none
 there:∀b o,h.get? b=some o→b∉ex→∃o',h'.get? b=some o'
 tups:∀b xs,H b=some (.tup xs)→H' b=some (.tup xs)
 frzs:∀b o u,H b=some (.frz o u)→H' b=some (.frz o u)
 tbls:∀b ps,H b=some (.tbl ps)→∃more,H' b=some (.tbl (ps++more))
section
variable {fs fs' ex ex':List Addr}{H H1 H2:Hp}{h h1 h2 h':Heap}{a x e:Addr}{o:HO}
theorem Un.any (u:Un fs ex H H1 h h1){b:Addr}{ob:Obj}(q:h.get? b=some ob) (n:H b=none) (hx:b∉ex):∃sl,h1.get? b=some { ob with slots:=sl }:=by
 by_cases hb:b∈fs
 ·exact u.slot b ob q n hb hx
 ·exact ⟨ob.slots,u.keep b ob q n hb hx⟩
theorem Un.trans (a:Un fs ex H H1 h h1) (b:Un fs ex H1 H2 h1 h2):Un fs ex H H2 h h2 where
 keep:=fun c ob q n hc hx=>b.keep c ob (a.keep c ob q n hc hx) (a.free c ob q n hx) hc hx
 slot:=fun c ob q n hc hx=>by
  obtain ⟨sl,e1⟩:=a.slot c ob q n hc hx
  obtain ⟨sl',e2⟩:=b.slot c _ e1 (a.free c ob q n hx) hc hx
  exact ⟨sl',e2⟩
 free:=fun c ob q n hx=>by
  obtain ⟨o',e1⟩:=a.there c ob q hx
  exact b.free c o' e1 (a.free c ob q n hx) hx
 there:=fun c ob q hx=>by
  obtain ⟨o',e1⟩:=a.there c ob q hx
  exact b.there c o' e1 hx
 tups:=fun c xs q=>b.tups c xs (a.tups c xs q)
 frzs:=fun c ob xs q=>b.frzs c ob xs (a.frzs c ob xs q)
 tbls:=fun c ps q=>by
  obtain ⟨m1,e1⟩:=a.tbls c ps q
  obtain ⟨m2,e2⟩:=b.tbls c _ e1
  exact ⟨m1++m2,by rw[e2,Array.append_assoc]⟩
theorem Un.kept (k:∀b u,h.get? b=some u→h'.get? b=some u):Un fs ex H H h h':=
 ⟨fun b ob q _ _ _=>k b ob q,fun b ob q _ _ _=>⟨ob.slots,k b ob q⟩,fun _ _ _ n _=>n,fun b ob q _=>⟨ob,k b ob q⟩,fun _ _ q=>q,fun _ _ _ q=>q,fun _ ps q=>⟨#[],by rw[q];simp⟩⟩
theorem Un.refl:Un fs ex H H h h:=Un.kept fun _ _ q=>q
theorem Un.laid (k:∀b u,h.get? b=some u→h'.get? b=some u) (hp:h.objs.size≤a) (hn:H a=none):Un fs ex H (upd H a o) h h' where
 keep:=fun b u q _ _ _=>k b u q
 slot:=fun b u q _ _ _=>⟨u.slots,k b u q⟩
 free:=fun b u q n _=>by rw[zaj (Nat.ne_of_lt (Nat.lt_of_lt_of_le (Heap.lt_size q) hp))];exact n
 there:=fun b u q _=>⟨u,k b u q⟩
 tups:=fun b xs q=>by rw[zaj (zad q hn)];exact q
 frzs:=fun b u xs q=>by rw[zaj (zad q hn)];exact q
 tbls:=fun b ps q=>⟨#[],by rw[zaj (zad q hn),q];simp⟩
theorem Un.write (mu:Mut (H x)) (he:e=x∨H e=some (.own x)) (k:∀b u,b≠e→h.get? b=some u→h'.get? b=some u) (heo:∃u,h'.get? e=some u):Un fs ex H (upd H x o) h h':=by
 have hx:∀b,H b=none→b≠x:=fun b n z=>by subst z;rw[n] at mu;exact mu
 have hb:∀b,H b=none→b≠e:=fun b n z=>by
  subst z
  rcases he with r|r
  ·exact hx b n r
  ·rw[n] at r;cases r
 have hm:∀b u,H b=some u→¬Mut (some u)→b≠x:=fun b u q nm z=>by subst z;rw[q] at mu;exact nm mu
 refine ⟨fun b u q n _ _=>k b u (hb b n) q,fun b u q n _ _=>⟨u.slots,k b u (hb b n) q⟩,fun b u q n _=>by rw[zaj (hx b n)];exact n,fun b u q _=>?_,
  fun b xs q=>by rw[zaj (hm b _ q fun z=>z)];exact q,fun b u xs q=>by rw[zaj (hm b _ q fun z=>z)];exact q,fun b ps q=>⟨#[],by rw[zaj (hm b _ q fun z=>z),q];simp⟩⟩
 by_cases hbe:b=e
 ·subst hbe;exact heo
 ·exact ⟨u,k b u hbe q⟩
end
def trk (h:Heap) (H:Hp):List Addr:=(List.range h.objs.size).filter fun a=>(H a).isSome
def hidT (h:Heap) (H:Hp):Heap:=W.hideAll h (trk h H)
theorem zgU (h:Heap) (H:Hp):(hidT h H).objs.size=h.objs.size:=W.hideAll_size _ _
theorem ziw {h:Heap}{H:Hp}{b:Addr}{o:Obj}(e:h.get? b=some o) (n:H b=none):(hidT h H).get? b=some o:=
 W.hideAll_get _ e fun hm=>by
  have q:(H b).isSome=true:=(List.mem_filter.mp hm).2
  rw[n] at q;simp at q
theorem zjY {h:Heap}{H:Hp}{b:Addr}{o:Obj}(e:(hidT h H).get? b=some o):h.get? b=some o∧H b=none:=by
 have e':h.get? b=some o:=W.of_hideAll (trk h H) e
 refine ⟨e',?_⟩
 cases q:H b with
 |none=>rfl
 |some x=>
  have hm:b∈trk h H:=List.mem_filter.mpr ⟨List.mem_range.mpr (Heap.lt_size e'),by simp[q]⟩
  have z:(hidT h H).get? b=none:=W.hideAll_none (trk h H) hm
  rw[z] at e;cases e
structure Mod (K:W.Frag) (mg:Str→Option Value) (base:Heap):Prop where
 kin:K.In base
 glob:base.Ns mainGlobals mg
 blt:∃mb,base.Ns builtinsNs mb∧∀x:Str,x≠"__name__"→mb x=bootBuiltins x
 nolimit:base.NoLimit
structure Cx where
 prog:Program
 w:World
 K:W.Frag
 mg:Str→Option Value
 base:Heap
 A:Around
 N:List Str
 s₀:Shared
 H₀:Hp
 env:Env
 outer:List Env
 stack:List Env
 ex:List Addr
 fn:Str→Bool
 calm:Bool
 pn:List (Addr×Obj)
 xe:Value→Shared→Prop
def frs (l:List Env):List Addr:=l.filterMap (·.frame)
abbrev Cx.fs (X:Cx):List Addr:=frs X.outer
def Vis (sc:Scope) (x:Str):Prop:=sc.names.lookup x=some .local∨sc.names.lookup x=some .cell∨sc.names.lookup x=some .free
def Loc (sc:Scope) (x:Str):Prop:=sc.names.lookup x=some .local∨sc.names.lookup x=some .cell
def Look (env:Env) (h:Heap) (m:Str→Option Value) (x:Str) (u:Value):Prop:=
 (env.kindOf x=some .local∧m x=some u)∨((env.kindOf x=some .cell∨env.kindOf x=some .free)∧∃c,env.cells.lookup x=some c∧h.IsCell c (some u))
structure Cx.Ok (X:Cx):Prop where
 mod:Mod X.K X.mg X.base
 kind:X.env.scope.kind=.function
 glob:X.env.globals=mainGlobals
 blt:X.env.builtins=builtinsNs
 above:X.s₀.heap.objs.size≤X.env.locals
 inj:∀x y c,X.env.cells.lookup x=some c→X.env.cells.lookup y=some c→x=y
 has:∀x,(X.env.kindOf x=some .cell∨X.env.kindOf x=some .free)→∃c,X.env.cells.lookup x=some c
 cab:∀x c,X.fn x=true→X.env.cells.lookup x=some c→X.s₀.heap.objs.size≤c
 hd:X.calm=true→X.A.handled=none
 frames:X.A.frames=some X.stack
 stk:X.stack=X.outer∨(X.stack=X.env::X.outer∧X.env.frame=some X.env.locals)
 exf:∀b∈X.ex,b≠X.env.locals∧∀x c,X.env.cells.lookup x=some c→c≠b
 bs:∀b o,X.base.get? b=some o→X.s₀.heap.get? b=some o∧X.H₀ b=none
 bsz:X.base.objs.size≤X.s₀.heap.objs.size
 noex:∀b o,X.base.get? b=some o→b∉X.ex
 exfs:∀b∈X.ex,b∉X.fs
 funs:X.s₀.heap.FunFrames X.base X.outer
 frf:∀b∈X.fs,X.H₀ b=none
structure Inv (X:Cx) (pins:List (Addr×Obj)) (σ:List (Option V)) (H:Hp) (s:Shared):Prop where
 ok:X.Ok
 os:s.os=X.s₀.os
 bare:AllBare s.gens
 base:Un X.fs X.ex X.H₀ H X.s₀.heap s.heap
 loc:∃m,s.heap.Ns X.env.locals m∧∀(i:Nat) (x:Str) (v:V),X.N[i]?=some x→σ[i]?=some (some v)→Vis X.env.scope x→∃u,RelV v u∧Look X.env s.heap m x u
 cell:∀x c,X.env.cells.lookup x=some c→∃v,s.heap.IsCell c v
 free:H X.env.locals=none
 freeC:∀x c,X.env.cells.lookup x=some c→H c=none
 pin:∀p∈X.pn++pins,s.heap.get? p.1=some p.2∧H p.1=none∧p.1≠X.env.locals∧p.1∉X.fs∧∀v,p.2.data≠.cell v
 hok:HOk X.prog X.w H s.heap
 len:σ.length=X.N.length
section
variable {X:Cx}{pins:List (Addr×Obj)}{σ:List (Option V)}{H H':Hp}{s:Shared}{h':Heap}
theorem Cx.Ok.nofr (ok:X.Ok){b:Addr}{o:Obj}(e:X.base.get? b=some o):b∉X.fs:=fun hb=>by
 have:=(ok.funs.mem hb).1
 rw[e] at this;cases this
theorem Inv.bs (I:Inv X pins σ H s):∀b o,X.base.get? b=some o→s.heap.get? b=some o∧H b=none:=fun b o e=>
 ⟨I.base.keep b o (I.ok.bs b o e).1 (I.ok.bs b o e).2 (I.ok.nofr e) (I.ok.noex b o e),I.base.free b o (I.ok.bs b o e).1 (I.ok.bs b o e).2 (I.ok.noex b o e)⟩
theorem Inv.bk (I:Inv X pins σ H s):∀b o,X.base.get? b=some o→s.heap.get? b=some o:=fun b o e=>(I.bs b o e).1
theorem Inv.mod (I:Inv X pins σ H s):Mod X.K X.mg X.base:=I.ok.mod
theorem Inv.kIn (I:Inv X pins σ H s):X.K.In s.heap:=I.ok.mod.kin.keeps I.bk
theorem Inv.lt (I:Inv X pins σ H s):X.env.locals<s.heap.objs.size:=let ⟨_,hn,_⟩:=I.loc;hn.lt
theorem Inv.sz (I:Inv X pins σ H s):X.s₀.heap.objs.size≤s.heap.objs.size:=Nat.le_trans I.ok.above (Nat.le_of_lt I.lt)
theorem Inv.nofs (I:Inv X pins σ H s){a:Addr}(h:s.heap.objs.size≤a):a∉X.fs:=fun hb=>by
 obtain ⟨_,o,ho,_⟩:=I.ok.funs.mem hb
 exact absurd (Nat.lt_of_lt_of_le (Heap.lt_size ho) (Nat.le_trans I.sz h)) (Nat.lt_irrefl _)
theorem Inv.cne (I:Inv X pins σ H s):∀x c,X.env.cells.lookup x=some c→c≠X.env.locals:=fun x c e z=>by
 obtain ⟨v,o,ho,hd⟩:=I.cell x c e
 obtain ⟨m,⟨o',es,ep,ho',hd',_⟩,_⟩:=I.loc
 rw[z,ho'] at ho;cases ho;rw[hd'] at hd;cases hd
theorem Inv.funs (I:Inv X pins σ H s):s.heap.FunFrames X.base X.outer:=by
 have all:∀(l:List Env),(∀b∈frs l,b∈X.fs)→X.s₀.heap.FunFrames X.base l→s.heap.FunFrames X.base l:=by
  intro l
  induction l with
  |nil=>intro _ _;trivial
  |cons env r ih=>
   intro hs hl
   obtain ⟨hk,⟨L,o,hf,hn,ho,hd⟩,hr⟩:=hl
   have hL:L∈X.fs:=hs L (by unfold frs;rw[List.filterMap_cons,hf];exact List.mem_cons_self)
   obtain ⟨sl,e⟩:=I.base.slot L o ho (I.ok.frf L hL) hL fun z=>I.ok.exfs L z hL
   exact ⟨hk,⟨L,_,hf,hn,e,hd⟩,ih (fun b hb=>hs b (by unfold frs;rw[List.filterMap_cons,hf];exact List.mem_cons_of_mem _ hb)) hr⟩
 exact all X.outer (fun _ hb=>hb) I.ok.funs
theorem Inv.stack (I:Inv X pins σ H s):s.heap.FunFrames X.base X.stack:=by
 rcases I.ok.stk with e|⟨e,hf⟩
 ·rw[e];exact I.funs
 ·rw[e]
  obtain ⟨m,hn,_⟩:=I.loc
  refine .cons (by rw[I.ok.kind];decide) hf hn ?_ I.funs
  exact Heap.get?_none_of_le (Nat.le_trans I.ok.bsz I.ok.above)
theorem Inv.stkSub (I:Inv X pins σ H s):∀b∈frs X.stack,b∈X.env.locals::X.fs:=fun b hb=>by
 rcases I.ok.stk with e|⟨e,hf⟩
 ·rw[e] at hb;exact List.mem_cons_of_mem _ hb
 ·rw[e] at hb
  unfold frs at hb
  rw[List.filterMap_cons,hf] at hb
  exact hb
theorem Inv.stkFree (I:Inv X pins σ H s):∀b∈frs X.stack,H b=none:=fun b hb=>by
 rcases List.mem_cons.mp (I.stkSub b hb) with e|hb
 ·rw[e];exact I.free
 ·obtain ⟨_,o,ho,_⟩:=I.ok.funs.mem hb
  exact I.base.free b o ho (I.ok.frf b hb) fun z=>I.ok.exfs b z hb
theorem Inv.step {g':Array GenState}{t':Nat}{d':Drawn}{ch:List Addr}(I:Inv X pins σ H s)
  (hch:∀b∈ch,(b∈X.ex∨X.s₀.heap.objs.size≤b)∧b≠X.env.locals∧(∀x c,X.env.cells.lookup x=some c→c≠b)∧∀p∈X.pn++pins,p.1≠b)
  (keep:∀b o,b≠X.env.locals→b∉X.fs→b∉ch→s.heap.get? b=some o→H b=none→h'.get? b=some o)
  (slot:∀b o,b≠X.env.locals→b∈X.fs→b∉ch→s.heap.get? b=some o→H b=none→∃sl,h'.get? b=some { o with slots:=sl }) (free:∀b o,b∉ch→s.heap.get? b=some o→H b=none→H' b=none)
  (there:∀b o,b∉ch→s.heap.get? b=some o→∃o',h'.get? b=some o')
  (tups:∀b xs,H b=some (.tup xs)→H' b=some (.tup xs)) (frzs:∀b o u,H b=some (.frz o u)→H' b=some (.frz o u)) (tbls:∀b ps,H b=some (.tbl ps)→∃more,H' b=some (.tbl (ps++more)))
  (ns:∀m,s.heap.Ns X.env.locals m→h'.Ns X.env.locals m) (hok:HOk X.prog X.w H' h') (hg:AllBare g') :
  Inv X pins σ H' { s with heap:=h',gens:=g',drawn:=d',toks:=t' }:=by
 have neL:∀b o,X.s₀.heap.get? b=some o→b≠X.env.locals:=fun b o e=>Nat.ne_of_lt (Nat.lt_of_lt_of_le (Heap.lt_size e) I.ok.above)
 have neC:∀b o,X.s₀.heap.get? b=some o→b∉X.ex→b∉ch:=fun b o e hx hb=>by
  rcases (hch b hb).1 with z|z
  ·exact hx z
  ·exact absurd (Nat.lt_of_lt_of_le (Heap.lt_size e) z) (Nat.lt_irrefl _)
 have cellK:∀x c,X.env.cells.lookup x=some c→∀v,s.heap.IsCell c v→h'.IsCell c v:=fun x c e v ⟨o,ho,hd⟩=>by
  have nch:c∉ch:=fun z=>(hch c z).2.2.1 x c e rfl
  by_cases hc:c∈X.fs
  ·obtain ⟨sl,q⟩:=slot c o (I.cne x c e) hc nch ho (I.freeC x c e)
   exact ⟨_,q,hd⟩
  ·exact ⟨o,keep c o (I.cne x c e) hc nch ho (I.freeC x c e),hd⟩
 refine ⟨I.ok,I.os,hg,⟨fun b o e n hb hx=>?_,fun b o e n hb hx=>?_,fun b o e n hx=>?_,fun b o e hx=>?_,fun b xs e=>tups b xs (I.base.tups b xs e),fun b o xs e=>frzs b o xs (I.base.frzs b o xs e),fun b ps e=>?_⟩,?_,fun x c e=>?_,?_,fun x c e=>?_,fun p hp=>?_,hok,I.len⟩
 ·exact keep b o (neL b o e) hb (neC b o e hx) (I.base.keep b o e n hb hx) (I.base.free b o e n hx)
 ·obtain ⟨sl,e1⟩:=I.base.slot b o e n hb hx
  obtain ⟨sl',e2⟩:=slot b _ (neL b o e) hb (neC b o e hx) e1 (I.base.free b o e n hx)
  exact ⟨sl',e2⟩
 ·obtain ⟨o',e1⟩:=I.base.there b o e hx
  exact free b o' (neC b o e hx) e1 (I.base.free b o e n hx)
 ·obtain ⟨o',e1⟩:=I.base.there b o e hx
  exact there b o' (neC b o e hx) e1
 ·obtain ⟨m1,e1⟩:=I.base.tbls b ps e
  obtain ⟨m2,e2⟩:=tbls b _ e1
  exact ⟨m1++m2,by rw[e2,Array.append_assoc]⟩
 ·obtain ⟨m,hn,hl⟩:=I.loc
  refine ⟨m,ns m hn,fun i x v e1 e2 e3=>?_⟩
  obtain ⟨u,r,l⟩:=hl i x v e1 e2 e3
  refine ⟨u,r,?_⟩
  rcases l with l|⟨k,c,e,z⟩
  ·exact .inl l
  ·exact .inr ⟨k,c,e,cellK x c e _ z⟩
 ·obtain ⟨v,z⟩:=I.cell x c e
  exact ⟨v,cellK x c e v z⟩
 ·obtain ⟨m,⟨o,_,_,ho,_⟩,_⟩:=I.loc
  exact free _ o (fun z=>(hch _ z).2.1 rfl) ho I.free
 ·obtain ⟨v,o,ho,hd⟩:=I.cell x c e
  exact free c o (fun z=>(hch c z).2.2.1 x c e rfl) ho (I.freeC x c e)
 ·obtain ⟨e,n,ne,nf,d⟩:=I.pin p hp
  have nch:p.1∉ch:=fun z=>(hch p.1 z).2.2.2 p hp rfl
  exact ⟨keep p.1 p.2 ne nf nch e n,free p.1 p.2 nch e n,ne,nf,d⟩
theorem Inv.un {t':Nat}(I:Inv X pins σ H s) (u:Un X.fs [] H H' s.heap h') (hok:HOk X.prog X.w H' h'):Inv X pins σ H' { s with heap:=h',toks:=t' }:=by
 obtain ⟨m,⟨o,es,ep,ho,r⟩,_⟩:=id I.loc
 obtain ⟨sl,hL⟩:=u.any ho I.free (by simp)
 exact I.step (g':=s.gens) (d':=s.drawn) (ch:=[]) (fun _ z=>nomatch z) (fun b o _ hb _ e n=>u.keep b o e n hb (by simp)) (fun b o _ hb _ e n=>u.slot b o e n hb (by simp)) (fun b o _ e n=>u.free b o e n (by simp)) (fun b o _ e=>u.there b o e (by simp)) u.tups u.frzs u.tbls (fun m' hm=>by
  obtain ⟨o',es',ep',ho',r'⟩:=hm
  rw[ho] at ho';cases ho'
  exact ⟨_,es',ep',hL,r'⟩) hok I.bare
theorem Inv.call {g':Array GenState}{t':Nat}{d':Drawn}{ch:List Addr}(I:Inv X pins σ H s) (u:Un (frs X.stack) ch H H' s.heap h') (hok:HOk X.prog X.w H' h') (hg:AllBare g')
  (hch:∀b∈ch,(b∈X.ex∨X.s₀.heap.objs.size≤b)∧b≠X.env.locals∧(∀x c,X.env.cells.lookup x=some c→c≠b)∧∀p∈X.pn++pins,p.1≠b) :
  Inv X pins σ H' { s with heap:=h',gens:=g',drawn:=d',toks:=t' }:=by
 obtain ⟨m,⟨o,es,ep,ho,r⟩,_⟩:=id I.loc
 obtain ⟨sl,hL⟩:=u.any ho I.free fun z=>(hch _ z).2.1 rfl
 exact I.step (ch:=ch) hch (fun b o hL hb hc e n=>u.keep b o e n (fun z=>(List.mem_cons.mp (I.stkSub b z)).elim hL hb) hc) (fun b o _ _ hc e n=>u.any e n hc) (fun b o hc e n=>u.free b o e n hc) (fun b o hc e=>u.there b o e hc) u.tups u.frzs u.tbls (fun m' hm=>by
  obtain ⟨o',es',ep',ho',r'⟩:=hm
  rw[ho] at ho';cases ho'
  exact ⟨_,es',ep',hL,r'⟩) hok hg
theorem Inv.turned {t':Nat}{it:Addr}(I:Inv X pins σ H s) (k:∀b o,b≠it→s.heap.get? b=some o→h'.get? b=some o) (hn:H it=none) (hL:it≠X.env.locals)
  (h1:it∈X.ex∨X.s₀.heap.objs.size≤it) (h2:∀x c,X.env.cells.lookup x=some c→c≠it) (h3:∀p∈X.pn++pins,p.1≠it):Inv X pins σ H { s with heap:=h',toks:=t' }:=by
 have nit:∀b u,H b=some u→b≠it:=fun b u e z=>by rw[z,hn] at e;cases e
 refine I.step (g':=s.gens) (d':=s.drawn) (ch:=[it]) (fun b hb=>?_) (fun b o _ _ hc e _=>k b o (fun z=>hc (by simp[z])) e) (fun b o _ _ hc e _=>⟨o.slots,k b o (fun z=>hc (by simp[z])) e⟩) (fun _ _ _ _ n=>n)
  (fun b o hc e=>⟨o,k b o (fun z=>hc (by simp[z])) e⟩) (fun _ _ e=>e) (fun _ _ _ e=>e) (fun b ps e=>⟨#[],by rw[e];simp⟩) (fun m hm=>?_) (fun b u e=>?_) I.bare
 ·have e:b=it:=by simpa using hb
  subst e
  exact ⟨h1,hL,h2,h3⟩
 ·obtain ⟨o,es,ep,ho,r⟩:=hm
  exact ⟨o,es,ep,k _ o (Ne.symm hL) ho,r⟩
 ·refine (I.hok b u e).stay (fun c v hc q=>k c v ?_ q) (fun _ q=>q) fun _ _ q=>q
  rcases hc with z|z
  ·rw[z];exact nit b u e
  ·exact nit c _ z
theorem Inv.tok (I:Inv X pins σ H s) (t:Nat):Inv X pins σ H { s with toks:=t }:=I.un (h':=s.heap) (t':=t) Un.refl I.hok
theorem Inv.kept {t':Nat}(I:Inv X pins σ H s) (k:∀b u,s.heap.get? b=some u→h'.get? b=some u):Inv X pins σ H { s with heap:=h',toks:=t' }:=I.un (Un.kept k) (I.hok.kept k)
theorem Inv.laid {a:Addr}{o:HO}{t':Nat}(I:Inv X pins σ H s) (k:∀b u,s.heap.get? b=some u→h'.get? b=some u) (hp:s.heap.objs.size≤a) (new:ObjOk X.prog X.w (upd H a o) h' a o) :
  Inv X pins σ (upd H a o) { s with heap:=h',toks:=t' }:=I.un (Un.laid k hp (I.hok.fresh hp)) (I.hok.laid k hp new)
theorem Inv.write {x e:Addr}{o:HO}{t':Nat}(I:Inv X pins σ H s) (mu:Mut (H x)) (he:e=x∨H e=some (.own x)) (k:∀b u,b≠e→s.heap.get? b=some u→h'.get? b=some u) (heo:∃u,h'.get? e=some u)
  (new:ObjOk X.prog X.w (upd H x o) h' x o):Inv X pins σ (upd H x o) { s with heap:=h',toks:=t' }:=I.un (Un.write mu he k heo) (I.hok.write mu he k heo new)
theorem Inv.pins_of {pins':List (Addr×Obj)}(I:Inv X pins σ H s) (h:∀p∈pins',s.heap.get? p.1=some p.2∧H p.1=none∧p.1≠X.env.locals∧p.1∉X.fs∧∀v,p.2.data≠.cell v):Inv X pins' σ H s:=
 ⟨I.ok,I.os,I.bare,I.base,I.loc,I.cell,I.free,I.freeC,fun p hp=>(List.mem_append.mp hp).elim (fun z=>I.pin p (List.mem_append_left _ z)) (h p),I.hok,I.len⟩
theorem zd4 {N:List Str}(hN:N.Nodup){i j:Nat}{x:Str}(a:N[i]?=some x) (b:N[j]?=some x):i=j:=by
 obtain ⟨h1,e1⟩:=List.getElem?_eq_some_iff.mp a
 obtain ⟨h2,e2⟩:=List.getElem?_eq_some_iff.mp b
 exact (List.getElem_inj hN).mp (e1.trans e2.symm)
theorem zeT {M:Model}{A:Around}{E:Value→Shared→Prop}{i:Nat}{x:Str}{v:V}{u:Value}{Q:Unit→Shared→Prop}(I:Inv X pins σ H s) (hN:X.N.Nodup) (hi:X.N[i]?=some x) (hx:Loc X.env.scope x) (r:RelV v u)
  (h:∀s',Inv X pins (σ.set i (some v)) H s'→(∃a,Heap.SameBut a s.heap s'.heap∧(a=X.env.locals∨X.env.cells.lookup x=some a))→Q () s') (hf:X.fn x=true∨X.env.scope.names.lookup x=some .local:=by first|exact .inl rfl|exact .inr rfl|assumption):wpAny M A (storeName X.env x u) Q E s:=by
 obtain ⟨m,hn,hl⟩:=id I.loc
 have hcls:(X.env.scope.kind==.class || (X.env.scope.kind==.module&&X.env.locals != X.env.globals))=false:=by rw[I.ok.kind];rfl
 have hiσ:i<σ.length:=by rw[I.len];exact (List.getElem?_eq_some_iff.mp hi).1
 have cne:=I.cne
 have tracked:∀ {a:Addr} {h':Heap},(∃o,s.heap.get? a=some o∧H a=none)→Heap.SameBut a s.heap h'→HOk X.prog X.w H h':=fun {a h'} ha hs b ob e=>by
  obtain ⟨_,_,hfree⟩:=ha
  refine (I.hok b ob e).stay (fun c w' hc q=>(hs.2 c ?_).trans q) (fun _ q=>q) fun _ _ q=>q
  rintro rfl
  rcases hc with rfl|hc
  ·rw[hfree] at e;cases e
  ·rw[hfree] at hc;cases hc
 rcases hx with hk|hk
 ·refine wpAny_storeName_local hk hn (fun h' hn' hs=>?_) hcls
  obtain ⟨oL,_,_,hoL,_⟩:=id hn
  refine h _ ⟨I.ok,I.os,I.bare,⟨fun b o e n hb hx=>?_,fun b o e n hb hx=>?_,I.base.free,fun b o e hx=>?_,I.base.tups,I.base.frzs,I.base.tbls⟩,⟨_,hn',fun j y v' e1 e2 e3=>?_⟩,fun y c e=>?_,I.free,I.freeC,fun p hp=>?_,tracked ⟨oL,hoL,I.free⟩ hs,by simpa using I.len⟩ ⟨_,hs,.inl rfl⟩
  ·exact (hs.2 b (Nat.ne_of_lt (Nat.lt_of_lt_of_le (Heap.lt_size e) I.ok.above))).trans (I.base.keep b o e n hb hx)
  ·obtain ⟨sl,e1⟩:=I.base.slot b o e n hb hx
   exact ⟨sl,(hs.2 b (Nat.ne_of_lt (Nat.lt_of_lt_of_le (Heap.lt_size e) I.ok.above))).trans e1⟩
  ·obtain ⟨o',e1⟩:=I.base.there b o e hx
   exact ⟨o',(hs.2 b (Nat.ne_of_lt (Nat.lt_of_lt_of_le (Heap.lt_size e) I.ok.above))).trans e1⟩
  ·by_cases hj:j=i
   ·subst hj
    rw[hi] at e1;cases e1
    rw[List.getElem?_set_self hiσ] at e2
    cases e2
    exact ⟨u,r,.inl ⟨hk,by simp⟩⟩
   ·rw[List.getElem?_set_ne (Ne.symm hj)] at e2
    obtain ⟨u',r',q⟩:=hl j y v' e1 e2 e3
    refine ⟨u',r',?_⟩
    rcases q with ⟨k,e⟩|⟨k,c,e,z⟩
    ·refine .inl ⟨k,?_⟩
     have:y≠x:=fun e=>hj (zd4 hN e1 (e ▸ hi))
     simp[this,e]
    ·exact .inr ⟨k,c,e,z.sameBut hs (cne y c e)⟩
  ·obtain ⟨w',z⟩:=I.cell y c e
   exact ⟨w',z.sameBut hs (cne y c e)⟩
  ·obtain ⟨e,n,ne,nf,d⟩:=I.pin p hp
   exact ⟨(hs.2 p.1 ne).trans e,n,ne,nf,d⟩
 ·have hfn:X.fn x=true:=by
   rcases hf with z|z
   ·exact z
   ·rw[z] at hk;cases hk
  obtain ⟨c,hc⟩:=I.ok.has x (.inl hk)
  obtain ⟨w',z⟩:=I.cell x c hc
  refine wpAny_storeName_cell I.ok.kind hk hc z (fun h' hc' hs=>?_)
  obtain ⟨oc,hoc,hocd⟩:=id z
  refine h { s with heap:=h' } ⟨I.ok,I.os,I.bare,⟨fun b o e n hb hx=>?_,fun b o e n hb hx=>?_,I.base.free,fun b o e hx=>?_,I.base.tups,I.base.frzs,I.base.tbls⟩,⟨m,hn.sameBut hs (Ne.symm (cne x c hc)),fun j y v' e1 e2 e3=>?_⟩,fun y c' e=>?_,I.free,I.freeC,fun p hp=>?_,tracked ⟨oc,hoc,I.freeC x c hc⟩ hs,by simpa using I.len⟩ ⟨c,hs,.inr hc⟩
  ·exact (hs.2 b (Nat.ne_of_lt (Nat.lt_of_lt_of_le (Heap.lt_size e) (I.ok.cab x c hfn hc)))).trans (I.base.keep b o e n hb hx)
  ·obtain ⟨sl,e1⟩:=I.base.slot b o e n hb hx
   exact ⟨sl,(hs.2 b (Nat.ne_of_lt (Nat.lt_of_lt_of_le (Heap.lt_size e) (I.ok.cab x c hfn hc)))).trans e1⟩
  ·obtain ⟨o',e1⟩:=I.base.there b o e hx
   exact ⟨o',(hs.2 b (Nat.ne_of_lt (Nat.lt_of_lt_of_le (Heap.lt_size e) (I.ok.cab x c hfn hc)))).trans e1⟩
  ·by_cases hj:j=i
   ·subst hj
    rw[hi] at e1;cases e1
    rw[List.getElem?_set_self hiσ] at e2
    cases e2
    exact ⟨u,r,.inr ⟨.inl hk,c,hc,hc'⟩⟩
   ·rw[List.getElem?_set_ne (Ne.symm hj)] at e2
    obtain ⟨u',r',q⟩:=hl j y v' e1 e2 e3
    refine ⟨u',r',?_⟩
    rcases q with q|⟨k,c',e,z'⟩
    ·exact .inl q
    ·refine .inr ⟨k,c',e,z'.sameBut hs ?_⟩
     rintro rfl
     exact hj (zd4 hN e1 (I.ok.inj _ _ _ e hc ▸ hi))
  ·by_cases hcc:c'=c
   ·subst hcc;exact ⟨_,hc'⟩
   ·obtain ⟨w2,z2⟩:=I.cell y c' e
    exact ⟨w2,z2.sameBut hs hcc⟩
  ·obtain ⟨e,n,ne,nf,d⟩:=I.pin p hp
   refine ⟨(hs.2 p.1 ?_).trans e,n,ne,nf,d⟩
   intro q
   rw[q,hoc] at e
   have q':oc=p.2:=Option.some.inj e
   exact d w' (by rw[←q'];exact hocd)
theorem zb6 {M:Model}{A:Around}{E:Value→Shared→Prop}{i:Nat}{x:Str}{v:V}{u:Value}{Q:Unit→Shared→Prop}(I:Inv X pins σ H s) (hN:X.N.Nodup) (hi:X.N[i]?=some x) (hx:Loc X.env.scope x) (r:RelV v u)
  (h:∀s',Inv X pins (σ.set i (some v)) H s'→Q () s') (hf:X.fn x=true∨X.env.scope.names.lookup x=some .local:=by first|exact .inl rfl|exact .inr rfl|assumption):wpAny M A (storeName X.env x u) Q E s:=
 zeT I hN hi hx r (fun s' I' _=>h s' I') hf
theorem Inv.call' {s':Shared}{ch:List Addr}(I:Inv X pins σ H s) (ho:s'.os=s.os) (u:Un (frs X.stack) ch H H' s.heap s'.heap) (hok:HOk X.prog X.w H' s'.heap) (hg:AllBare s'.gens)
  (hch:∀b∈ch,(b∈X.ex∨X.s₀.heap.objs.size≤b)∧b≠X.env.locals∧(∀x c,X.env.cells.lookup x=some c→c≠b)∧∀p∈X.pn++pins,p.1≠b):Inv X pins σ H' s':=by
 obtain ⟨h',g',d',t',o'⟩:=s'
 have e:o'=s.os:=ho
 subst e
 exact I.call (g':=g') (t':=t') (d':=d') u hok hg hch
end
abbrev XK:=Value→Option Addr→Hp→Prop
abbrev St:=List (Option V)
abbrev VK:=V→Hp→Prop
abbrev TE:=St→Hp→VK→Prop
abbrev TT:=St→Hp→(Bool→Hp→Prop)→Prop
abbrev TA:=St→Hp→(List V→Hp→Prop)→Prop
structure Ends where
 nx:St→Hp→Prop
 rt:VK
 bk:St→Hp→Prop:=fun _ _=>False
 ct:St→Hp→Prop:=fun _ _=>False
abbrev TS:=Ends→St→Hp→Prop
def EP (X:Cx) (pins:List (Addr×Obj)) (σ:St) (Q:VK) (u:Value) (s':Shared):Prop:=∃v H',Inv X pins σ H' s'∧RelV v u∧Q v H'
def TP (X:Cx) (pins:List (Addr×Obj)) (σ:St) (Q:Bool→Hp→Prop) (b:Bool) (s':Shared):Prop:=∃H',Inv X pins σ H' s'∧Q b H'
def AP (X:Cx) (pins:List (Addr×Obj)) (σ:St) (Q:List V→Hp→Prop) (us:List Value) (s':Shared):Prop:=∃vs H',Inv X pins σ H' s'∧Vals vs us∧Q vs H'
def SP (X:Cx) (pins:List (Addr×Obj)) (D:Ends) (f:Flow) (s':Shared):Prop:=
 match f with
 |.next=>∃σ' H',Inv X pins σ' H' s'∧D.nx σ' H'
 |.brk=>∃σ' H',Inv X pins σ' H' s'∧D.bk σ' H'
 |.cont=>∃σ' H',Inv X pins σ' H' s'∧D.ct σ' H'
 |.ret u=>∃v σ' H',Inv X pins σ' H' s'∧RelV v u∧D.rt v H'
def PE (X:Cx) (e:Expr) (t:TE):Prop:=
 ∀(pins:List (Addr×Obj)) (s:Shared) (σ:St) (H:Hp) (Q:VK),Inv X pins σ H s→t σ H Q→wpAny (model X.prog X.w) X.A (eval e X.env) (EP X pins σ Q) X.xe s
def PT (X:Cx) (e:Expr) (t:TT):Prop:=
 ∀(pins:List (Addr×Obj)) (s:Shared) (σ:St) (H:Hp) (Q:Bool→Hp→Prop),Inv X pins σ H s→t σ H Q→wpAny (model X.prog X.w) X.A (isTrue e X.env (eval e X.env)) (TP X pins σ Q) X.xe s
def PW (X:Cx) (e:Expr) (t:TT):Prop:=
 ∀(whole:Sem Value) (pins:List (Addr×Obj)) (s:Shared) (σ:St) (H:Hp) (Q:Bool→Hp→Prop),Inv X pins σ H s→t σ H Q→wpAny (model X.prog X.w) X.A (isTrue e X.env whole) (TP X pins σ Q) X.xe s
theorem PW.pt {X:Cx}{e:Expr}{t:TT}(h:PW X e t):PT X e t:=h _
def PA (X:Cx) (es:List Expr) (t:TA):Prop:=
 ∀(pos:Pos) (pins:List (Addr×Obj)) (s:Shared) (σ:St) (H:Hp) (Q:List V→Hp→Prop),Inv X pins σ H s→t σ H Q→wpAny (model X.prog X.w) X.A (spliced (backTo pos (starEach es X.env))) (AP X pins σ Q) X.xe s
def PS (X:Cx) (st:Stmt) (t:TS):Prop:=
 ∀(pins:List (Addr×Obj)) (s:Shared) (σ:St) (H:Hp) (D:Ends),Inv X pins σ H s→t D σ H→wpAny (model X.prog X.w) X.A (exec st X.env) (SP X pins D) X.xe s
def PSs (X:Cx) (st:List Stmt) (t:TS):Prop:=
 ∀(pins:List (Addr×Obj)) (s:Shared) (σ:St) (H:Hp) (D:Ends),Inv X pins σ H s→t D σ H→wpAny (model X.prog X.w) X.A (execs st X.env) (SP X pins D) X.xe s
theorem thn {α:Type}{t:Sem α}{Q Q':α→Shared→Prop}{M:Model}{A:Around}{E:Value→Shared→Prop}{s:Shared}(h:wpAny M A t Q E s) (hQ:∀a s,Q a s→Q' a s):wpAny M A t Q' E s:=wpAny_mono h hQ fun _ _ x=>x
section
variable {X:Cx}
theorem bin {a b:Expr}{ta tb:TE}(ha:PE X a ta) (hb:PE X b tb){pins:List (Addr×Obj)}{s:Shared}{σ:St}{H:Hp}{R:V→V→Hp→Prop}(I:Inv X pins σ H s) (h:ta σ H fun x H1=>tb σ H1 fun y H2=>R x y H2)
  {α:Type} {Q:α→Shared→Prop} {f:Value→Value→Sem α}
  (hf:∀v u s2 x y H2,Inv X pins σ H2 s2→RelV x v→RelV y u→R x y H2→wpAny (model X.prog X.w) X.A (f v u) Q X.xe s2) :
  wpAny (model X.prog X.w) X.A (eval a X.env) (fun v s₁=>wpAny (model X.prog X.w) X.A (eval b X.env) (fun u s₂=>wpAny (model X.prog X.w) X.A (f v u) Q X.xe s₂) X.xe s₁) X.xe s:=by
 refine thn (ha pins s σ H _ I h) fun v s1 ⟨x,H1,I1,r1,q1⟩=>?_
 refine thn (hb pins s1 σ H1 _ I1 q1) fun u s2 ⟨y,H2,I2,r2,q2⟩=>?_
 exact hf v u s2 x y H2 I2 r1 r2 q2
def tVar (i:Nat):TE:=fun σ H Q=>∃v,σ[i]?=some (some v)∧Q v H
def tC (v:V):TE:=fun _ H Q=>Q v H
theorem zkY {i:Nat}{x:Str}{pos:Pos}(hN:X.N[i]?=some x) (hv:Vis X.env.scope x) (hd:(x==("__debug__":Str))=false:=by decide) (hcd:(x==("__classdict__":Str))=false:=by decide):PE X (.Name x pos) (tVar i):=by
 intro pins s σ H Q I h
 obtain ⟨v,e,h⟩:=h
 obtain ⟨m,hn,hl⟩:=I.loc
 obtain ⟨u,r,l⟩:=hl i x v hN e hv
 have fin:EP X pins σ Q u s:=⟨v,H,I,r,h⟩
 rcases l with ⟨hk,hm⟩|⟨hk,c,hc,hcell⟩
 ·exact wpAny_Name (wpAny_loadName_local I.ok.kind hk hn hm fin) hd
 ·rcases hk with hk|hk
  ·exact wpAny_Name (wpAny_loadName_cell I.ok.kind hk hc hcell fin) hd
  ·exact wpAny_Name (wpAny_loadName_free I.ok.kind hk hc hcell fin hcd) hd
theorem zaf {i j pos}:PE X (.Constant (.int i) j pos) (tC (.int i)):=fun _ _ _ H _ I h=>wpAny_Constant_int ⟨.int i,H,I.tok _,⟨_,rfl⟩,h⟩
theorem zd5 {b j pos}:PE X (.Constant (.bool b) j pos) (tC (.bl b)):=fun _ _ _ H _ I h=>Constant_bool ⟨.bl b,H,I,rfl,h⟩
theorem zdM {j pos}:PE X (.Constant .none j pos) (tC .non):=fun _ _ _ H _ I h=>Constant_none ⟨.non,H,I,rfl,h⟩
theorem zay {x j pos}:PE X (.Constant (.str x) j pos) (tC (.str x)):=fun _ _ _ H _ I h=>Calls.Constant_str ⟨.str x,H,I.tok _,⟨_,rfl⟩,h⟩
def Gl (X:Cx) (x:Str):Prop:=X.env.kindOf x=some .globalImplicit
theorem zci {E:Value→Shared→Prop}{pins:List (Addr×Obj)}{s:Shared}{σ:St}{H:Hp}{x:Str}{u:Value}{pos:Pos}{Q:Value→Shared→Prop}(I:Inv X pins σ H s) (hg:Gl X x) (hm:X.mg x=some u) (h:Q u s)
  (hd:(x==("__debug__":Str))=false:=by decide):wpAny (model X.prog X.w) X.A (eval (.Name x pos) X.env) Q E s:=
 Calls.Name_function_global I.ok.kind hg (Calls.loadGlobal_global (by rw[I.ok.glob];exact I.mod.glob.keeps I.bk) hm h) hd
theorem zc0 {E:Value→Shared→Prop}{pins:List (Addr×Obj)}{s:Shared}{σ:St}{H:Hp}{x:Str}{u:Value}{pos:Pos}{Q:Value→Shared→Prop}(I:Inv X pins σ H s) (hg:Gl X x) (hm:X.mg x=none) (hv:bootBuiltins x=some u) (h:Q u s)
  (hn:x≠"__name__":=by decide) (hd:(x==("__debug__":Str))=false:=by decide):wpAny (model X.prog X.w) X.A (eval (.Name x pos) X.env) Q E s:=by
 obtain ⟨mb,h1,h2⟩:=I.mod.blt
 exact Calls.Name_function_global I.ok.kind hg (Calls.loadGlobal_builtin (by rw[I.ok.glob];exact I.mod.glob.keeps I.bk) hm (by rw[I.ok.blt];exact h1.keeps I.bk) ((h2 x hn).trans hv) h) hd
theorem zd6 {x:Str}{v:V}{u:Value}{pos:Pos}(hg:Gl X x) (hm:X.mg x=some u) (r:RelV v u) (hd:(x==("__debug__":Str))=false:=by decide):PE X (.Name x pos) (tC v):=
 fun _ _ _ H _ I h=>zci I hg hm ⟨v,H,I,r,h⟩ hd
theorem zjZ {x:Str}{v:V}{u:Value}{pos:Pos}(hg:Gl X x) (hm:X.mg x=none) (hv:bootBuiltins x=some u) (r:RelV v u) (hn:x≠"__name__":=by decide) (hd:(x==("__debug__":Str))=false:=by decide):PE X (.Name x pos) (tC v):=
 fun _ _ _ H _ I h=>zc0 I hg hm hv ⟨v,H,I,r,h⟩ hn hd
variable {a b:Expr}{ta tb:TE}{pos:Pos}
def PC (X:Cx) (op:CmpOp) (a b:Expr) (t:TE):Prop:=
 ∀(pins:List (Addr×Obj)) (s:Shared) (σ:St) (H:Hp) (Q:VK),Inv X pins σ H s→t σ H Q →
  wpAny (model X.prog X.w) X.A (eval a X.env) (fun v s₁=>wpAny (model X.prog X.w) X.A (eval b X.env) (fun u s₂=>wpAny (model X.prog X.w) X.A (compareOp op v u) (EP X pins σ Q) X.xe s₂) X.xe s₁) X.xe s
def tB (t:TE):TT:=fun σ H Q=>t σ H fun x H1=>∃c,x=.bl c∧Q c H1
theorem zkZ {op:CmpOp}{t:TE}(h:PC X op a b t) (h1:behindInMarks op b=false:=by first|exact nobehind _ (by decide) (by decide)|rfl):PE X (.Compare a [op] [b] pos) t:=fun pins s σ H Q I hw=>wpAny_Compare1 (h pins s σ H Q I hw) h1
theorem zk0 {op:CmpOp}{t:TE}(h:PC X op a b t) (h1:behindInMarks op b=false:=by first|exact nobehind _ (by decide) (by decide)|rfl):PT X (.Compare a [op] [b] pos) (tB t):=by
 intro pins s σ H Q I hw
 refine wpAny_isTrue_Compare1 (thn (h pins s σ H _ I hw) fun v s1 h1=>thn h1 fun u s2 h2=>thn h2 fun c s3 ⟨x,H1,I1,r1,q1⟩=>?_) h1
 obtain ⟨d,rfl,q⟩:=q1
 cases r1
 exact wpAny_truthy_bool ⟨H1,I1,q⟩
theorem zdN {e:Expr}{t:TE}(h:PE X e t) (he:∀whole,isTrue e X.env whole=(do let v ← whole;standAt e.pos;holding [v] (truthy v)):=by intro _;rfl):PT X e (tB t):=by
 intro pins s σ H Q I hw
 refine isTrue_plain (thn (h pins s σ H _ I hw) fun v s1 ⟨x,H1,I1,r1,q1⟩=>?_) (he _)
 obtain ⟨d,rfl,q⟩:=q1
 cases r1
 exact wpAny_truthy_bool ⟨H1,I1,q⟩
variable {tA tB':TT}{rest:List Expr}
def tAnd (t u:TT):TT:=fun σ H Q=>t σ H fun c H1=>if c=true then u σ H1 Q else Q false H1
def tOr (t u:TT):TT:=fun σ H Q=>t σ H fun c H1=>if c=true then Q true H1 else u σ H1 Q
def tNot (t:TT):TT:=fun σ H Q=>t σ H fun c H1=>Q (!c) H1
theorem zcM (ha:PT X a tA):PW X (.BoolOp .And [a] pos) tA:=by
 intro wh pins s σ H Q I h
 refine isTrue_and (thn (ha pins s σ H Q I h) fun c s1 e=>?_)
 cases c with
 |true=>exact isTrue_and_nil e
 |false=>exact e
theorem zjB (ha:PT X a tA):PW X (.BoolOp .Or [a] pos) tA:=by
 intro wh pins s σ H Q I h
 refine isTrue_or (thn (ha pins s σ H Q I h) fun c s1 e=>?_)
 cases c with
 |false=>exact isTrue_or_nil e
 |true=>exact e
theorem zdO (ha:PT X a tA) (hb:PW X (.BoolOp .And (b::rest) pos) tB'):PW X (.BoolOp .And (a::b::rest) pos) (tAnd tA tB'):=by
 intro wh pins s σ H Q I h
 refine isTrue_and (thn (ha pins s σ H _ I h) fun c s1 ⟨H1,I1,q1⟩=>?_)
 cases c with
 |true=>exact hb wh pins s1 σ H1 Q I1 q1
 |false=>exact ⟨H1,I1,q1⟩
theorem zk1 (ha:PT X a tA) (hb:PW X (.BoolOp .Or (b::rest) pos) tB'):PW X (.BoolOp .Or (a::b::rest) pos) (tOr tA tB'):=by
 intro wh pins s σ H Q I h
 refine isTrue_or (thn (ha pins s σ H _ I h) fun c s1 ⟨H1,I1,q1⟩=>?_)
 cases c with
 |true=>exact ⟨H1,I1,q1⟩
 |false=>exact hb wh pins s1 σ H1 Q I1 q1
theorem zdP (ha:PT X a tA):PT X (.UnaryOp .Not a pos) (tNot tA):=by
 intro pins s σ H Q I h
 exact isTrue_not (ha pins s σ H (fun c H1=>Q (!c) H1) I h)
def tAndV (ta tb:TE):TE:=fun σ H Q=>ta σ H fun x H1=>∃c,x=.bl c∧if c=true then tb σ H1 Q else Q (.bl false) H1
def tNotV (ta:TE):TE:=fun σ H Q=>ta σ H fun x H1=>∃c,x=.bl c∧Q (.bl (!c)) H1
theorem zgV {op}{t:TE}(h:PE X a t):PE X (.BoolOp op [a] pos) t:=fun pins s σ H Q I hw=>BoolOp_one (h pins s σ H Q I hw)
theorem zgW (ha:PE X a ta) (hb:PE X (.BoolOp .And (b::rest) pos) tb):PE X (.BoolOp .And (a::b::rest) pos) (tAndV ta tb):=by
 intro pins s σ H Q I h
 refine BoolOp_and (thn (ha pins s σ H _ I h) fun v s1 ⟨x,H1,I1,r1,q1⟩=>?_)
 obtain ⟨c,rfl,q1⟩:=q1
 cases r1
 refine wpAny_truthy_bool ?_
 cases c with
 |true=>exact hb pins s1 σ H1 Q I1 q1
 |false=>exact ⟨.bl false,H1,I1,rfl,q1⟩
theorem zk2 (ha:PE X a ta):PE X (.UnaryOp .Not a pos) (tNotV ta):=by
 intro pins s σ H Q I h
 refine UnaryOp_ (thn (ha pins s σ H _ I h) fun v s1 ⟨x,H1,I1,r1,q1⟩=>?_)
 obtain ⟨c,rfl,q1⟩:=q1
 cases r1
 exact not_of (wpAny_truthy_bool ⟨.bl (!c),H1,I1,rfl,q1⟩)
end
def SqL (K:W.Frag) (H:Hp) (a:Addr) (xs:List V):Prop:=
 Rd H a (.lst xs) ∨
  ∃(o:Obj) (its:Array Value) (n:Nat),K.lookup a=some o∧o.cls=.type "list"∧o.dict=none∧o.data=.seq its n∧its.size≤sizeLine∧Vals xs its.toList
def SqT (K:W.Frag) (H:Hp) (a:Addr) (xs:List V):Prop:=
 Rd H a (.tup xs) ∨
  ∃(o:Obj) (its:Array Value) (n:Nat),K.lookup a=some o∧o.cls=.type "tuple"∧o.data=.seq its n∧its.size≤sizeLine∧Vals xs its.toList
def absV:Value→Option V
 |.none=>some .non
 |.bool b=>some (.bl b)
 |.int i _=>some (.int i)
 |.str x _=>some (.str x)
 |.bytes b _=>some (.byt b)
 |.float b _=>some (.flt b)
 |.ref a=>some (.ref a)
 |.type n=>some (.ty n)
 |_=>none
theorem RelV.abs {x:V}{u:Value}(r:RelV x u):absV u=some x:=by
 cases x with
 |non=>cases r;rfl
 |bl _=>cases r;rfl
 |int _=>obtain ⟨t,rfl⟩:=r;rfl
 |str _=>obtain ⟨t,rfl⟩:=r;rfl
 |byt _=>obtain ⟨t,rfl⟩:=r;rfl
 |flt _=>obtain ⟨t,rfl⟩:=r;rfl
 |ref _=>cases r;rfl
 |ty _=>cases r;rfl
theorem RelV.inj {x y:V}{u:Value}(r:RelV x u) (q:RelV y u):x=y:=Option.some.inj (r.abs.symm.trans q.abs)
theorem Vals.inj:∀ {xs ys:List V}{us:List Value},Vals xs us→Vals ys us→xs=ys
 |_,_,_,.nil,.nil=>rfl
 |_,_,_,.cons r t,.cons r' t'=>by rw[r.inj r',Vals.inj t t']
section
variable {X:Cx}{pins:List (Addr×Obj)}{σ:St}{H:Hp}{s:Shared}{a:Addr}{xs ys:List V}
theorem SqL.of {K:W.Frag}(h:H a=some (.lst xs)):SqL K H a xs:=.inl (.inl h)
theorem SqT.of {K:W.Frag}(h:H a=some (.tup xs)):SqT K H a xs:=.inl (.inl h)
theorem Inv.list (I:Inv X pins σ H s) (h:SqL X.K H a xs):∃its:List Value,Vals xs its∧PlainL s.heap a its.toArray∧xs.length≤sizeLine:=by
 rcases h with h|⟨o,its,n,hk,hc,hd,hs,hz,r⟩
 ·obtain ⟨z,its,n,r,e⟩:=h.ok I.hok
  exact ⟨its,r,⟨_,n,e,rfl,rfl,rfl⟩,z⟩
 ·refine ⟨its.toList,r,⟨o,n,I.kIn a o hk,hc,hd,by simpa using hs⟩,?_⟩
  have e:=r.length
  simp only[Array.length_toList] at e
  omega
theorem Inv.tuple (I:Inv X pins σ H s) (h:SqT X.K H a xs):∃its:List Value,Vals xs its∧IsTup s.heap a its.toArray∧xs.length≤sizeLine:=by
 rcases h with h|⟨o,its,n,hk,hc,hs,hz,r⟩
 ·obtain ⟨z,its,r,p⟩:=h.ok I.hok
  exact ⟨its,r,p,z⟩
 ·refine ⟨its.toList,r,⟨o,I.kIn a o hk,hc,n,by simpa using hs⟩,?_⟩
  have e:=r.length
  simp only[Array.length_toList] at e
  omega
theorem Inv.list_inj (I:Inv X pins σ H s) (h:SqL X.K H a xs) (h':SqL X.K H a ys):xs=ys:=by
 obtain ⟨its,r,⟨o,n,e,_,_,d⟩,_⟩:=I.list h
 obtain ⟨its',r',⟨o',n',e',_,_,d'⟩,_⟩:=I.list h'
 rw[e] at e';cases e'
 rw[d] at d'
 injection d' with d1 _
 have:its=its':=by simpa using congrArg Array.toList d1
 subst this
 exact r.inj r'
theorem Inv.tuple_inj (I:Inv X pins σ H s) (h:SqT X.K H a xs) (h':SqT X.K H a ys):xs=ys:=by
 obtain ⟨its,r,⟨o,e,_,n,d⟩,_⟩:=I.tuple h
 obtain ⟨its',r',⟨o',e',_,n',d'⟩,_⟩:=I.tuple h'
 rw[e] at e';cases e'
 rw[d] at d'
 injection d' with d1 _
 have:its=its':=by simpa using congrArg Array.toList d1
 subst this
 exact r.inj r'
end
abbrev Cx.wish (X:Cx) (E:Value→Shared→Prop):Cx:={ X with xe:=E }
abbrev Cx.nox (X:Cx):Cx:=X.wish fun _ _=>False
theorem Cx.Ok.wish {X:Cx}(ok:X.Ok) (E:Value→Shared→Prop):(X.wish E).Ok:=
 ⟨ok.mod,ok.kind,ok.glob,ok.blt,ok.above,ok.inj,ok.has,ok.cab,ok.hd,ok.frames,ok.stk,ok.exf,ok.bs,ok.bsz,ok.noex,ok.exfs,ok.funs,ok.frf⟩
theorem Cx.Ok.unwish {X:Cx}{E:Value→Shared→Prop}(ok:(X.wish E).Ok):X.Ok:=
 ⟨ok.mod,ok.kind,ok.glob,ok.blt,ok.above,ok.inj,ok.has,ok.cab,ok.hd,ok.frames,ok.stk,ok.exf,ok.bs,ok.bsz,ok.noex,ok.exfs,ok.funs,ok.frf⟩
section
variable {X:Cx}{pins:List (Addr×Obj)}{σ:St}{H:Hp}{s:Shared}{E:Value→Shared→Prop}
theorem Inv.wish (I:Inv X pins σ H s) (E:Value→Shared→Prop):Inv (X.wish E) pins σ H s:=⟨I.ok.wish E,I.os,I.bare,I.base,I.loc,I.cell,I.free,I.freeC,I.pin,I.hok,I.len⟩
theorem Inv.unwish (I:Inv (X.wish E) pins σ H s):Inv X pins σ H s:=⟨I.ok.unwish,I.os,I.bare,I.base,I.loc,I.cell,I.free,I.freeC,I.pin,I.hok,I.len⟩
theorem SP.unwish {D:Ends}{f:Flow}{s':Shared}(h:SP (X.wish E) pins D f s'):SP X pins D f s':=by
 cases f with
 |next=>obtain ⟨σ',H',I,q⟩:=h;exact ⟨σ',H',I.unwish,q⟩
 |brk=>obtain ⟨σ',H',I,q⟩:=h;exact ⟨σ',H',I.unwish,q⟩
 |cont=>obtain ⟨σ',H',I,q⟩:=h;exact ⟨σ',H',I.unwish,q⟩
 |ret u=>obtain ⟨v,σ',H',I,r,q⟩:=h;exact ⟨v,σ',H',I.unwish,r,q⟩
theorem PSs.nox {st:List Stmt}{t:TS}(h:PSs X.nox st t):PSs X st t:=fun pins s σ H D I hw=>
 wpAny_mono (h pins s σ H D (I.wish _) hw) (fun _ _ q=>q.unwish) fun _ _ z=>False.elim z
end
section
variable {X:Cx}{st:Stmt}{rest:List Stmt}{t u:TS}{e:Expr}{te:TE}{pos:Pos}
def tNext:TS:=fun D σ H=>D.nx σ H
def tSeq (t u:TS):TS:=fun D σ H=>t { D with nx:=u D } σ H
theorem zaA:PSs X [] tNext:=fun _ _ σ H _ I h=>wpAny_execs_nil ⟨σ,H,I,h⟩
theorem zac (h1:PS X st t) (h2:PSs X rest u):PSs X (st::rest) (tSeq t u):=by
 intro pins s σ H D I h
 refine wpAny_execs_cons (thn (h1 pins s σ H { D with nx:=u D } I h) fun f s1 q=>?_)
 cases f with
 |next=>
  obtain ⟨σ',H',I',q⟩:=q
  exact h2 pins s1 σ' H' D I' q
 |ret v=>exact q
 |brk=>exact q
 |cont=>exact q
theorem zai (h1:PS X st t):PSs X [st] t:=by
 intro pins s σ H D I h
 refine wpAny_execs_cons (thn (h1 pins s σ H D I h) fun f s1 q=>?_)
 cases f with
 |next=>exact wpAny_execs_nil q
 |ret v=>exact q
 |brk=>exact q
 |cont=>exact q
theorem Inv.quiet {pins:List (Addr×Obj)}{σ:St}{H:Hp}{s:Shared}(I:Inv X pins σ H s):interactive X.env=false:=by simp[interactive,I.ok.kind]
def tDrop (te:TE):TS:=fun D σ H=>te σ H fun _ H1=>D.nx σ H1
theorem zaO (he:PE X e te) (hs:swapsWith e none pos.line X.env=pure false:=by rfl):PS X (.Expr e pos) (tDrop te):=by
 intro pins s σ H D I h
 exact wpAny_Expr_any (thn (he pins s σ H _ I h) fun v s1 ⟨x,H1,I1,r1,q1⟩=>⟨σ,H1,I1,q1⟩) I.quiet hs
def tRet (te:TE):TS:=fun D σ H=>te σ H D.rt
theorem zax (he:PE X e te):PS X (.Return (some e) pos) (tRet te):=by
 intro pins s σ H D I h
 exact wpAny_Return_some (thn (he pins s σ H _ I h) fun v s1 ⟨x,H1,I1,r1,q1⟩=>⟨x,σ,H1,I1,r1,q1⟩)
def tIfS (c:TT) (t u:TS):TS:=fun D σ H=>c σ H fun b H1=>if b=true then t D σ H1 else u D σ H1
theorem zaW {c:Expr}{a b:List Stmt}{tc:TT}(hc:PT X c tc) (ha:PSs X a t) (hb:PSs X b u):PS X (.If c a b pos) (tIfS tc t u):=by
 intro pins s σ H D I h
 refine wpAny_If (thn (hc pins s σ H _ I h) fun d s1 ⟨H1,I1,q1⟩=>?_)
 cases d with
 |true=>exact ha pins s1 σ H1 D I1 q1
 |false=>exact hb pins s1 σ H1 D I1 q1
def zk3:TS:=fun _ _ _=>False
theorem zbQ {sts:List Stmt}:PSs X sts zk3:=fun _ _ _ _ _ _ h=>h.elim
end
abbrev TG:=V→St→Hp→(St→Hp→Prop)→Prop
abbrev TGs:=List V→St→Hp→(St→Hp→Prop)→Prop
def PG (X:Cx) (target:Expr) (t:TG):Prop:=
 ∀(pins:List (Addr×Obj)) (s:Shared) (σ:St) (H:Hp) (v:V) (u:Value) (Q:St→Hp→Prop),Inv X pins σ H s→RelV v u→t v σ H Q →
  wpAny (model X.prog X.w) X.A (assign target X.env u) (fun _ s'=>∃σ' H',Inv X pins σ' H' s'∧Q σ' H') X.xe s
def PGs (X:Cx) (ts:List Expr) (t:TGs):Prop:=
 ∀(pins:List (Addr×Obj)) (s:Shared) (σ:St) (H:Hp) (vs:List V) (us:List Value) (Q:St→Hp→Prop),Inv X pins σ H s→Vals vs us→t vs σ H Q →
  wpAny (model X.prog X.w) X.A (assignInOrder ((assignEach ts X.env).map (·.2)) us) (fun _ s'=>∃σ' H',Inv X pins σ' H' s'∧Q σ' H') X.xe s
abbrev TSet:=V→V→V→Hp→(Hp→Prop)→Prop
def PSet (X:Cx) (t:TSet):Prop:=
 ∀(pins:List (Addr×Obj)) (s:Shared) (σ:St) (H:Hp) (o i v:V) (ov iv u:Value) (Q:Hp→Prop),Inv X pins σ H s→RelV o ov→RelV i iv→RelV v u→t o i v H Q →
  wpAny (model X.prog X.w) X.A (setItem ov iv u) (fun _ s'=>∃H',Inv X pins σ H' s'∧Q H') X.xe s
abbrev TIp:=V→V→Hp→VK→Prop
def PIp (X:Cx) (op:Operator) (t:TIp):Prop:=
 ∀(pins:List (Addr×Obj)) (s:Shared) (σ:St) (H:Hp) (x y:V) (v u:Value) (Q:VK),Inv X pins σ H s→RelV x v→RelV y u→t x y H Q →
  wpAny (model X.prog X.w) X.A (inplaceOp op v u) (EP X pins σ Q) X.xe s
section
variable {X:Cx}{pos:Pos}
def gName (i:Nat):TG:=fun v σ H Q=>Q (σ.set i (some v)) H
theorem zao {i:Nat}{x:Str}(hN:X.N.Nodup) (hi:X.N[i]?=some x) (hx:Loc X.env.scope x) (hf:X.fn x=true∨X.env.scope.names.lookup x=some .local:=by first|exact .inl rfl|exact .inr rfl|assumption):PG X (.Name x pos) (gName i):=by
 intro pins s σ H v u Q I r h
 exact wpAny_assign_Name (zb6 I hN hi hx r (fun s' I'=>⟨_,H,I',h⟩) hf)
def gNil:TGs:=fun vs σ H Q=>vs=[]∧Q σ H
def gCons (t:TG) (u:TGs):TGs:=fun vs σ H Q=>∃v r,vs=v::r∧t v σ H fun σ' H'=>u r σ' H' Q
theorem za1:PGs X [] gNil:=by
 intro pins s σ H vs us Q I r h
 obtain ⟨e,h⟩:=h
 subst e
 cases r
 exact assignInOrder_nil ⟨σ,H,I,h⟩
theorem zat {e:Expr}{es:List Expr}{t:TG}{u:TGs}(h1:PG X e t) (h2:PGs X es u)
  (hs:(assignEach (e::es) X.env).map (·.2)=assign e X.env::(assignEach es X.env).map (·.2):=by rfl):PGs X (e::es) (gCons t u):=by
 intro pins s σ H vs us Q I r h
 obtain ⟨v,vr,e1,h⟩:=h
 subst e1
 cases r with
 |cons r rr=>
  rw[hs]
  refine assignInOrder_cons (thn (h1 pins s σ H _ _ _ I r h) fun _ s1 ⟨σ1,H1,I1,q1⟩=>?_)
  exact h2 pins s1 σ1 H1 _ _ Q I1 rr q1
def gTup (K:W.Frag) (n:Nat) (t:TGs):TG:=fun v σ H Q=>∃a xs,v=.ref a∧SqT K H a xs∧xs.length=n∧t xs σ H Q
theorem zbu {es:List Expr}{k:Nat}{t:TGs}{n:Nat}(hc:X.calm=true) (h:PGs X es t)
  (hn:(assignEach es X.env).length=n:=by rfl) (hst:(assignEach es X.env).findIdx? (·.1)=none:=by rfl):PG X (.Tuple es k pos) (gTup X.K n t):=by
 intro pins s σ H v u Q I r hw
 obtain ⟨a,xs,e1,hq,hl,hw⟩:=hw
 subst e1
 cases r
 obtain ⟨its,rv,ht,hz⟩:=I.tuple hq
 refine assign_Tuple_tuple (I.ok.hd hc) ht (by simp[hn,←hl,rv.length]) hst fun h' hx=>?_
 have I1:Inv X pins σ H { s with heap:=h' }:=I.kept (t':=s.toks) fun b o e=>hx b o (Nat.ne_of_lt (Heap.lt_size e)) e
 exact h pins _ σ H xs _ Q I1 (by simpa using rv) hw
def gSub (to ti:TE) (t:TSet):TG:=fun v σ H Q=>to σ H fun o H1=>ti σ H1 fun i H2=>t o i v H2 fun H3=>Q σ H3
theorem zfW {o i:Expr}{to ti:TE}{t:TSet}(ho:PE X o to) (hi:PE X i ti) (hs:PSet X t)
  (ha:∀v,assign (.Subscript o i pos) X.env v=(do
   let ov ← holding [v] (eval o X.env)
   let iv ← holding [v,ov] (eval i X.env)
   standAt pos
   holding [v,ov,iv] (setItem ov iv v)
   release [v,ov,iv] []):=by intro _;rfl):PG X (.Subscript o i pos) (gSub to ti t):=by
 intro pins s σ H v u Q I r h
 rw[ha]
 refine wpAny_bind (wpAny_holding (thn (ho pins s σ H _ I h) fun ov s1 ⟨x,H1,I1,r1,q1⟩=>?_))
 refine wpAny_bind (wpAny_holding (thn (hi pins s1 σ H1 _ I1 q1) fun iv s2 ⟨y,H2,I2,r2,q2⟩=>?_))
 refine wpAny_bind (wpAny_standAt (wpAny_bind (wpAny_holding (thn (hs pins s2 σ H2 x y v ov iv u _ I2 r1 r2 r q2) fun _ s3 ⟨H3,I3,q3⟩=>?_))))
 exact wpAny_release ⟨σ,H3,I3,q3⟩
def tAsg (te:TE) (g:TG):TS:=fun D σ H=>te σ H fun x H1=>g x σ H1 D.nx
theorem zbq {tg e:Expr}{te:TE}{g:TG}(he:PE X e te) (hg:PG X tg g) (hs:swapsWithSole [tg] e pos.line X.env=pure false:=by rfl) (hw:swappedStores [tg] e X.env=pure none:=by rfl)
  (h1:(assignEach [tg] X.env).map (·.2)=[assign tg X.env]:=by rfl):PS X (.Assign [tg] e pos) (tAsg te g):=by
 intro pins s σ H D I h
 refine wpAny_Assign_stores (thn (he pins s σ H _ I h) fun v s1 ⟨x,H1,I1,r1,q1⟩=>?_) hs hw
 rw[h1]
 exact thn (hg pins s1 σ H1 x v _ I1 r1 q1) fun _ s2 q=>q
theorem zap {i:Nat}{x:Str}{e:Expr}{te:TE}{pos':Pos}(hN:X.N.Nodup) (hi:X.N[i]?=some x) (hx:Loc X.env.scope x) (he:PE X e te) (hs:swapsWith e (some (.Name x pos')) pos.line X.env=pure false:=by rfl) (hf:X.fn x=true∨X.env.scope.names.lookup x=some .local:=by first|exact .inl rfl|exact .inr rfl|assumption) :
  PS X (.Assign [.Name x pos'] e pos) (tAsg te (gName i)):=by
 intro pins s σ H D I h
 refine wpAny_Assign_Name (thn (he pins s σ H _ I h) fun v s1 ⟨y,H1,I1,r1,q1⟩=>?_) hs
 exact zb6 I1 hN hi hx r1 (fun s2 I2=>⟨_,H1,I2,q1⟩) hf
def tAug (i:Nat) (te:TE) (ti:TIp):TS:=fun D σ H=>∃x,σ[i]?=some (some x)∧te σ H fun y H1=>ti x y H1 fun z H2=>D.nx (σ.set i (some z)) H2
theorem zjC {i:Nat}{x:Str}{e:Expr}{te:TE}{op:Operator}{ti:TIp}{pos':Pos}(hN:X.N.Nodup) (hi:X.N[i]?=some x) (hx:Loc X.env.scope x) (he:PE X e te) (ho:PIp X op ti) (hf:X.fn x=true∨X.env.scope.names.lookup x=some .local:=by first|exact .inl rfl|exact .inr rfl|assumption) :
  PS X (.AugAssign (.Name x pos') op e pos) (tAug i te ti):=by
 intro pins s σ H D I h
 obtain ⟨v,e1,h⟩:=h
 obtain ⟨m,hn,hl⟩:=I.loc
 have vis:Vis X.env.scope x:=by rcases hx with k|k;exact .inl k;exact .inr (.inl k)
 obtain ⟨u,r,l⟩:=hl i x v hi e1 vis
 refine wpAny_AugAssign_Name ?_
 have go:wpAny (model X.prog X.w) X.A (eval e X.env) (fun w s₂=>wpAny (model X.prog X.w) X.A (inplaceOp op u w) (fun r s₃=>wpAny (model X.prog X.w) X.A (storeName X.env x r) (fun _=>SP X pins D .next) X.xe s₃) X.xe s₂) X.xe s:=by
  refine thn (he pins s σ H _ I h) fun w s1 ⟨y,H1,I1,r1,q1⟩=>?_
  refine thn (ho pins s1 σ H1 v y u w _ I1 r r1 q1) fun z s2 ⟨zv,H2,I2,r2,q2⟩=>?_
  exact zb6 I2 hN hi hx r2 (fun s3 I3=>⟨_,H2,I3,q2⟩) hf
 rcases l with ⟨hk,hm⟩|⟨hk,c,hc,hcell⟩
 ·exact wpAny_loadName_local I.ok.kind hk hn hm go
 ·rcases hk with hk|hk
  ·exact wpAny_loadName_cell I.ok.kind hk hc hcell go
  ·rcases hx with k|k
   ·have:X.env.scope.names.lookup x=some .free:=hk
    rw[k] at this;cases this
   ·have:X.env.scope.names.lookup x=some .free:=hk
    rw[k] at this;cases this
def ipI (f:Int→Int→Int):TIp:=fun x y H Q=>∃i j,x=.int i∧y=.int j∧Q (.int (f i j)) H
theorem zjD:PIp X .Add (ipI fun i j=>i+j):=by
 intro pins s σ H x y v u Q I r1 r2 h
 obtain ⟨i,j,e1,e2,q⟩:=h
 subst e1;subst e2
 obtain ⟨t,rfl⟩:=r1
 obtain ⟨t',rfl⟩:=r2
 exact iadd_int ⟨.int _,H,I.tok _,⟨_,rfl⟩,q⟩
end
section
variable {X:Cx}{pos:Pos}
def zjE (c:TT) (tb:TS):TS:=fun D σ H=>∃W:Nat→St→Hp→Prop,(∃m,W m σ H)∧∀m σ H,W m σ H →
 c σ H fun b H1=>if b=true then ∃N:St→Hp→Prop,(∀σ' H',N σ' H'→∃m',m'<m∧W m' σ' H')∧tb { D with nx:=N,ct:=N,bk:=D.nx } σ H1 else D.nx σ H1
theorem zcr {c:Expr}{body:List Stmt}{tc:TT}{tb:TS}(hp:PassesOwn (model X.prog X.w) X.A X.env X.xe) (hc:PT X c tc) (hb:PSs X body tb):PS X (.While c body [] pos) (zjE tc tb):=by
 intro pins s σ H D I h
 obtain ⟨W,⟨m0,w0⟩,turn⟩:=h
 refine wpAny_While (codeAny_whileLoop (fun n s'=>∃σ' H',Inv X pins σ' H' s'∧W n σ' H') ?_ m0 ⟨σ,H,I,w0⟩)
 rintro n s1 ⟨σ1,H1,I1,w1⟩
 refine wpAny_passesOwn hp (thn (hc pins s1 σ1 H1 _ I1 (turn n σ1 H1 w1)) fun b s2 ⟨H2,I2,q2⟩=>?_)
 cases b with
 |true=>
  obtain ⟨N,hN,q2⟩:=q2
  rw[if_pos rfl]
  refine wpAny_passesOwn hp (thn (hb pins s2 σ1 H2 _ I2 q2) fun f s3 q3=>?_)
  cases f with
  |next=>
   obtain ⟨σ3,H3,I3,n3⟩:=q3
   obtain ⟨m',hm,w3⟩:=hN σ3 H3 n3
   exact ⟨m',hm,σ3,H3,I3,w3⟩
  |cont=>
   obtain ⟨σ3,H3,I3,n3⟩:=q3
   obtain ⟨m',hm,w3⟩:=hN σ3 H3 n3
   exact ⟨m',hm,σ3,H3,I3,w3⟩
  |brk=>exact q3
  |ret v=>exact q3
 |false=>
  rw[if_neg Bool.false_ne_true]
  exact wpAny_execs_nil ⟨σ1,H2,I2,q2⟩
end
structure It where
 go:Nat→Hp→Prop
 yld:Nat→Hp→V→Hp→Prop
 stop:Nat→Hp→Prop
def FpOk (X:Cx) (pins:List (Addr×Obj)) (H:Hp) (b:Addr):Prop:=
 H b=none∧b≠X.env.locals∧b∉X.fs∧(b∈X.ex∨X.s₀.heap.objs.size≤b)∧(∀x c,X.env.cells.lookup x=some c→c≠b)∧∀p∈X.pn++pins,p.1≠b
theorem Inv.fpOk {X:Cx}{pins:List (Addr×Obj)}{σ:St}{H H':Hp}{s:Shared}{b:Addr}(I:Inv X pins σ H s) (hb:s.heap.objs.size≤b) (hn:H' b=none):FpOk X pins H' b:=by
 refine ⟨hn,Nat.ne_of_gt (Nat.lt_of_lt_of_le I.lt hb),I.nofs hb,.inr (Nat.le_trans I.sz hb),fun x c e z=>?_,fun p hp z=>?_⟩
 ·obtain ⟨v,q⟩:=I.cell x c e
  exact absurd (Nat.lt_of_lt_of_le q.lt (by rw[z];exact hb)) (Nat.lt_irrefl _)
 ·exact absurd (Nat.lt_of_lt_of_le (Heap.lt_size (I.pin p hp).1) (by rw[z];exact hb)) (Nat.lt_irrefl _)
structure Turn (P:Program) (w:World) (K:W.Frag) (tg:Expr) (J:It) (fp:List Addr) (it:Addr) (tn:Nat→Heap→Prop):Prop where
 mem:it∈fp
 obj:∀i h,tn i h→∀b∈fp,∃o,h.get? b=some o∧∀v,o.data≠.cell v
 keep:∀i h h',tn i h→(∀b∈fp,∀o,h.get? b=some o→h'.get? b=some o)→tn i h'
 item:∀(X:Cx),X.prog=P→X.w=w→X.K=K→X.calm=true→∀(i:Nat) (pins:List (Addr×Obj)) (s:Shared) (σ:St) (H:Hp) (E:Value→Shared→Prop),Inv X pins σ H s→(∀b∈fp,FpOk X pins H b)→tn i s.heap→J.go i H →
  wpAny (model P w) X.A (pyNext (.ref it)) (fun r s1=>∃u,r=some u ∧
   wpAny (model P w) X.A (letOwnedTupleGo tg (.ref it) u) (fun _ s2=>∃x H',Inv X pins σ H' s2∧RelV x u∧J.yld i H x H'∧tn (i+1) s2.heap∧∀b∈fp,H' b=none) E s1) E s
 done:∀(X:Cx),X.prog=P→X.w=w→X.K=K→X.calm=true→∀(i:Nat) (pins:List (Addr×Obj)) (s:Shared) (σ:St) (H:Hp) (E:Value→Shared→Prop),Inv X pins σ H s→(∀b∈fp,FpOk X pins H b)→tn i s.heap→J.stop i H →
  wpAny (model P w) X.A (pyNext (.ref it)) (fun r s1=>r=none∧Inv X pins σ H s1) E s
 self:∀(A:Around) (i:Nat) (s:Shared) (Q:Value→Shared→Prop) (E:Value→Shared→Prop),tn i s.heap→Q (.ref it) s→wpAny (model P w) A (pyIter (.ref it)) Q E s
abbrev TI:=St→Hp→(It→Hp→Prop)→Prop
def PIE (X:Cx) (pins:List (Addr×Obj)) (σ:St) (tg:Expr) (R:It→Hp→Prop) (itv:Value) (s2:Shared):Prop:=
 ∃(it:Addr) (fp:List Addr) (tn:Nat→Heap→Prop) (J:It) (H':Hp),itv=.ref it∧Inv X pins σ H' s2∧Turn X.prog X.w X.K tg J fp it tn∧tn 0 s2.heap∧(∀b∈fp,FpOk X pins H' b)∧R J H'
def PI (X:Cx) (tg iter:Expr) (wi:TI):Prop:=
 ∀(pins:List (Addr×Obj)) (s:Shared) (σ:St) (H:Hp) (R:It→Hp→Prop),Inv X pins σ H s→wi σ H R →
  wpAny (model X.prog X.w) X.A (eval iter X.env) (fun v s1=>wpAny (model X.prog X.w) X.A (pyIter v) (PIE X pins σ tg R) X.xe s1) X.xe s
theorem zix {M:Model}{A:Around}{E:Value→Shared→Prop}{s:Shared}{tg:Expr}{it:Addr}{u:Value}{o:Obj}{n:String}{vs:Array Value}{Q:Unit→Shared→Prop}(ho:s.heap.get? it=some o) (hc:o.cls=.type n) (hd:o.data=.fields vs)
  (hn:["enumerate","zip","dict_itemiterator","dict_reverseitemiterator","odict_iterator","itertools.zip_longest","itertools.pairwise"].contains n=false) (hQ:Q () s):wpAny M A (letOwnedTupleGo tg (.ref it) u) Q E s:=by
 unfold letOwnedTupleGo
 cases tg<;>first
  |exact wpAny_pure hQ
  |(cases u<;>first
    |exact wpAny_pure hQ
    |(refine wpAny_bind (wpAny_load ho ?_)
      rw[hc,hd]
      show wpAny M A (if (["enumerate","zip","dict_itemiterator","dict_reverseitemiterator","odict_iterator","itertools.zip_longest","itertools.pairwise"].contains n&&vs[0]?==some (rawInt _))=true then _ else _) Q E s
      rw[if_neg (by intro h;rw[hn,Bool.false_and] at h;cases h)]
      exact wpAny_pure hQ))
def Itl (K:W.Frag) (a:Addr):It:=
 ⟨fun i H=>∃xs x,SqL K H a xs∧xs[i]?=some x,fun i H x H'=>H'=H∧∀xs,SqL K H a xs→xs[i]?=some x,fun i H=>∃xs,SqL K H a xs∧xs.length≤i⟩
def Itt (K:W.Frag) (a:Addr):It:=
 ⟨fun i H=>∃xs x,SqT K H a xs∧xs[i]?=some x,fun i H x H'=>H'=H∧∀xs,SqT K H a xs→xs[i]?=some x,fun i H=>∃xs,SqT K H a xs∧xs.length≤i⟩
def Itr (lo:Int) (n:Nat):It:=⟨fun i _=>i<n,fun i H x H'=>H'=H∧x=.int (lo+i),fun i _=>n≤i⟩
theorem zgX {P:Program}{w:World}{K:W.Frag}{tg:Expr}(a it:Addr):Turn P w K tg (Itl K a) [it] it (fun i h=>h.IsListIter it a i) where
 mem:=by simp
 obj:=fun i h st b hb=>by
  have e:b=it:=by simpa using hb
  subst e
  obtain ⟨o,e,c,d⟩:=st
  exact ⟨o,e,fun v z=>by rw[d] at z;cases z⟩
 keep:=fun i h h' st k=>st.at fun o e=>k it (by simp) o e
 item:=by
  intro X hP hw hK hc i pins s σ H E I hf st hg
  subst hP hw hK
  obtain ⟨xs,x,hq,hx⟩:=hg
  obtain ⟨its,rv,p,hz⟩:=I.list hq
  obtain ⟨u,hu,ru⟩:=rv.get hx
  obtain ⟨f0,f1,f2,f3,f4,f5⟩:=hf it (by simp)
  refine wpAny_pyNext_list_item st p.isList (x:=u) (by simpa using hu) fun h' st' sb=>?_
  have I1:Inv X pins σ H { s with heap:=h' }:=I.turned (t':=s.toks) (fun b o hb e=>(sb.2 b hb).trans e) f0 f1 f3 f4 f5
  obtain ⟨o,e,c,d⟩:=id st'
  exact ⟨u,rfl,zix (s:={ s with heap:=h' }) e c d (by decide) ⟨x,H,I1,ru,⟨rfl,fun ys hy=>by rw[I.list_inj hy hq];exact hx⟩,st',fun b hb=>(hf b hb).1⟩⟩
 done:=by
  intro X hP hw hK hc i pins s σ H E I hf st hg
  subst hP hw hK
  obtain ⟨xs,hq,hx⟩:=hg
  obtain ⟨its,rv,p,hz⟩:=I.list hq
  obtain ⟨f0,f1,f2,f3,f4,f5⟩:=hf it (by simp)
  have hl:=rv.length
  exact wpAny_pyNext_list_end (I.ok.hd hc) st p.isList (by simp;omega) fun h' eb=>⟨rfl,I.turned (t':=s.toks) (fun b o hb e=>eb b o hb e) f0 f1 f3 f4 f5⟩
 self:=fun _ _ _ _ _ st h=>wpAny_pyIter_listiter st h
theorem zgq {P:Program}{w:World}{K:W.Frag}{tg:Expr}(a it:Addr):Turn P w K tg (Itt K a) [it] it (fun i h=>h.IsTupleIter it a i) where
 mem:=by simp
 obj:=fun i h st b hb=>by
  have e:b=it:=by simpa using hb
  subst e
  obtain ⟨o,e,c,d⟩:=st
  exact ⟨o,e,fun v z=>by rw[d] at z;cases z⟩
 keep:=fun i h h' st k=>st.at fun o e=>k it (by simp) o e
 item:=by
  intro X hP hw hK hc i pins s σ H E I hf st hg
  subst hP hw hK
  obtain ⟨xs,x,hq,hx⟩:=hg
  obtain ⟨its,rv,p,hz⟩:=I.tuple hq
  obtain ⟨u,hu,ru⟩:=rv.get hx
  obtain ⟨f0,f1,f2,f3,f4,f5⟩:=hf it (by simp)
  refine wpAny_pyNext_tuple_item st (show s.heap.IsTuple a its.toArray from p) (x:=u) (by simpa using hu) fun h' st' sb=>?_
  have I1:Inv X pins σ H { s with heap:=h' }:=I.turned (t':=s.toks) (fun b o hb e=>(sb.2 b hb).trans e) f0 f1 f3 f4 f5
  obtain ⟨o,e,c,d⟩:=id st'
  exact ⟨u,rfl,zix (s:={ s with heap:=h' }) e c d (by decide) ⟨x,H,I1,ru,⟨rfl,fun ys hy=>by rw[I.tuple_inj hy hq];exact hx⟩,st',fun b hb=>(hf b hb).1⟩⟩
 done:=by
  intro X hP hw hK hc i pins s σ H E I hf st hg
  subst hP hw hK
  obtain ⟨xs,hq,hx⟩:=hg
  obtain ⟨its,rv,p,hz⟩:=I.tuple hq
  obtain ⟨f0,f1,f2,f3,f4,f5⟩:=hf it (by simp)
  have hl:=rv.length
  exact wpAny_pyNext_tuple_end (I.ok.hd hc) st (show s.heap.IsTuple a its.toArray from p) (by simp;omega) fun h' eb=>⟨rfl,I.turned (t':=s.toks) (fun b o hb e=>eb b o hb e) f0 f1 f3 f4 f5⟩
 self:=fun _ _ _ _ _ st h=>wpAny_pyIter_tupleiter st h
theorem zgr {P:Program}{w:World}{K:W.Frag}{tg:Expr}(it:Addr) (lo:Int) (n:Nat):Turn P w K tg (Itr lo n) [it] it (fun i h=>IsRangeIter h it (lo+(i:Nat)*1) ((n:Int)-(i:Nat)) 1) where
 mem:=by simp
 obj:=fun i h st b hb=>by
  have e:b=it:=by simpa using hb
  subst e
  exact ⟨_,st,fun v z=>by
   have z':Data.fields _=Data.cell v:=z
   cases z'⟩
 keep:=fun i h h' st k=>k it (by simp) _ st
 item:=by
  intro X hP hw hK hc i pins s σ H E I hf st hg
  subst hP hw hK
  obtain ⟨f0,f1,f2,f3,f4,f5⟩:=hf it (by simp)
  have W:=Walks.range (prog:=X.prog) (w:=X.w) (I.ok.hd hc) it lo 1 n
  refine W.item i s _ _ hg st fun v h' tk hv st' kk=>?_
  obtain ⟨t,rfl⟩:=hv
  have I1:Inv X pins σ H { s with heap:=h',toks:=tk }:=I.turned (fun b o hb e=>kk b o (by simpa using hb) e) f0 f1 f3 f4 f5
  refine ⟨_,rfl,zix (s:={ s with heap:=h',toks:=tk }) (n:="range_iterator") st' rfl rfl (by decide) ⟨.int (lo+i),H,I1,⟨t,?_⟩,⟨rfl,rfl⟩,st',fun b hb=>(hf b hb).1⟩⟩
  rw[Int.mul_one]
 done:=by
  intro X hP hw hK hc i pins s σ H E I hf st hg
  subst hP hw hK
  obtain ⟨f0,f1,f2,f3,f4,f5⟩:=hf it (by simp)
  exact wpAny_pyNext_range_end (I.ok.hd hc) st (by have:n≤i:=hg;omega) fun h' eb=>⟨rfl,I.turned (t':=s.toks) (fun b o hb e=>eb b o hb e) f0 f1 f3 f4 f5⟩
 self:=fun _ _ _ _ _ st h=>wpAny_pyIter_rangeiter st h
section
variable {X:Cx}{tg:Expr}
def iList (K:W.Frag) (tl:TE):TI:=fun σ H R=>tl σ H fun x H1=>∃a,x=.ref a∧(∃xs,SqL K H1 a xs)∧R (Itl K a) H1
def iTup (K:W.Frag) (tl:TE):TI:=fun σ H R=>tl σ H fun x H1=>∃a,x=.ref a∧(∃xs,SqT K H1 a xs)∧R (Itt K a) H1
theorem zbR {l:Expr}{tl:TE}(hl:PE X l tl):PI X tg l (iList X.K tl):=by
 intro pins s σ H R I h
 refine thn (hl pins s σ H _ I h) fun v s1 ⟨x,H1,I1,r1,q1⟩=>?_
 obtain ⟨a,e,⟨xs,hq⟩,q⟩:=q1
 subst e
 cases r1
 obtain ⟨its,rv,p,hz⟩:=I1.list hq
 refine wpAny_pyIter_list p.isList ?_
 refine ⟨s1.heap.objs.size,[s1.heap.objs.size],_,_,H1,rfl,I1.kept (t':=s1.toks) fun b o e=>Heap.get?_push_of_some _ e,zgX a _,⟨_,Heap.get?_push_size _ rfl,rfl,rfl⟩,fun b hb=>?_,q⟩
 have e:b=s1.heap.objs.size:=by simpa using hb
 subst e
 exact I1.fpOk (Nat.le_refl _) (I1.hok.fresh (Nat.le_refl _))
theorem zbS {l:Expr}{tl:TE}(hl:PE X l tl):PI X tg l (iTup X.K tl):=by
 intro pins s σ H R I h
 refine thn (hl pins s σ H _ I h) fun v s1 ⟨x,H1,I1,r1,q1⟩=>?_
 obtain ⟨a,e,⟨xs,hq⟩,q⟩:=q1
 subst e
 cases r1
 obtain ⟨its,rv,p,hz⟩:=I1.tuple hq
 refine wpAny_pyIter_tuple (show s1.heap.IsTuple a its.toArray from p) ?_
 refine ⟨s1.heap.objs.size,[s1.heap.objs.size],_,_,H1,rfl,I1.kept (t':=s1.toks) fun b o e=>Heap.get?_push_of_some _ e,zgq a _,⟨_,Heap.get?_push_size _ rfl,rfl,rfl⟩,fun b hb=>?_,q⟩
 have e:b=s1.heap.objs.size:=by simpa using hb
 subst e
 exact I1.fpOk (Nat.le_refl _) (I1.hok.fresh (Nat.le_refl _))
theorem ziy {pins:List (Addr×Obj)}{σ:St}{H:Hp}{s:Shared}{R:It→Hp→Prop}{E:Value→Shared→Prop}{lo hi:Int}{t u v:Tok}{tk:Nat}(I:Inv X pins σ H s) (h1:-(2 ^ 62)≤lo) (h2:lo<2 ^ 62) (h3:-(2 ^ 62)≤hi) (h4:hi<2 ^ 62)
  (q:R (Itr lo (hi-lo).toNat) H):wpAny (model X.prog X.w) X.A (pyIter (.ref s.heap.objs.size)) (PIE X pins σ tg R) E { s with heap:=s.heap.push { cls:=.type "range",data:=.fields #[.int lo t,.int hi u,.int 1 v] },toks:=tk }:=by
 refine wpAny_pyIter_range (IsRange.new ..) (small_one h1 h2 h3 h4) ?_
 have I1:Inv X pins σ H { s with heap:=s.heap.push { cls:=.type "range",data:=.fields #[.int lo t,.int hi u,.int 1 v] },toks:=tk }:=I.kept fun b o e=>Heap.get?_push_of_some _ e
 refine ⟨(s.heap.push { cls:=.type "range",data:=.fields #[.int lo t,.int hi u,.int 1 v] }).objs.size,[(s.heap.push { cls:=.type "range",data:=.fields #[.int lo t,.int hi u,.int 1 v] }).objs.size],_,_,H,rfl,
  I1.kept (t':=tk) fun b o e=>Heap.get?_push_of_some _ e,zgr _ lo (hi-lo).toNat,?_,fun b hb=>?_,q⟩
 ·have e1:lo+((0:Nat):Int)*1=lo:=by simp
  have e2:(((hi-lo).toNat:Nat):Int)-((0:Nat):Int)=Builtin.Range.rangeSize lo hi 1:=by rw[rangeSize_one];split<;>omega
  show IsRangeIter _ _ (lo+((0:Nat):Int)*1) ((((hi-lo).toNat:Nat):Int)-((0:Nat):Int)) 1
  rw[e1,e2]
  exact Heap.get?_push_size _ rfl
 ·have e:b=(s.heap.push { cls:=.type "range",data:=.fields #[.int lo t,.int hi u,.int 1 v] }).objs.size:=by simpa using hb
  subst e
  exact I1.fpOk (Nat.le_refl _) (I1.hok.fresh (Nat.le_refl _))
def iRng1 (ta:TA):TI:=fun σ H R=>ta σ H fun vs H1=>∃j:Int,vs=[.int j]∧-(2 ^ 62)≤j∧j<2 ^ 62∧R (Itr 0 j.toNat) H1
theorem zbm {a:Expr}{ta:TA}{p pos:Pos}(hg:Gl X "range") (hm:X.mg "range"=none) (ha:PA X [a] ta) (hs:starEach [a] X.env=[(false,eval a X.env)]:=by rfl):PI X tg (.Call (.Name "range" p) [a] [] pos) (iRng1 ta):=by
 intro pins s σ H R I h
 refine Call_ (zc0 I hg hm boot_range (PyProof.Rows.callWith_type1 (thn (ha pos pins s σ H _ I h) fun us s1 ⟨vs,H1,I1,r1,q1⟩=>?_) hs rfl))
 obtain ⟨j,e,q1,q2,q⟩:=q1
 subst e
 cases r1 with
 |cons r rr=>
  cases rr
  obtain ⟨t,rfl⟩:=r
  exact call_range_1 (ziy I1 (by omega) (by omega) q1 q2 (by simpa using q))
def tFor (wi:TI) (g:TG) (tb:TS):TS:=fun D σ H=>wi σ H fun J H1=>∃W:Nat→Nat→St→Hp→Prop,(∃m,W 0 m σ H1)∧∀i m σ H,W i m σ H →
 (J.stop i H∧D.nx σ H)∨(J.go i H∧∃N:St→Hp→Prop,(∀σ' H',N σ' H'→∃m',m'<m∧W (i+1) m' σ' H')∧∀x H',J.yld i H x H'→g x σ H' fun σ2 H2=>tb { D with nx:=N,ct:=N,bk:=D.nx } σ2 H2)
def zdQ (fp:List Addr) (h:Heap):List (Addr×Obj):=fp.filterMap fun b=>(h.get? b).map fun o=>(b,o)
theorem zbt {fp:List Addr}{h:Heap}{b:Addr}{o:Obj}(hb:b∈fp) (e:h.get? b=some o):(b,o)∈zdQ fp h:=List.mem_filterMap.mpr ⟨b,hb,by rw[e];rfl⟩
theorem zgY {fp:List Addr}{h:Heap}{p:Addr×Obj}(hp:p∈zdQ fp h):p.1∈fp∧h.get? p.1=some p.2:=by
 obtain ⟨b,hb,e⟩:=List.mem_filterMap.mp hp
 cases q:h.get? b with
 |none=>rw[q] at e;cases e
 |some o=>
  rw[q] at e
  have e':(b,o)=p:=Option.some.inj e
  subst e'
  exact ⟨hb,q⟩
theorem Inv.pinned {pins:List (Addr×Obj)}{σ:St}{H:Hp}{s:Shared}{fp:List Addr}(I:Inv X pins σ H s) (hf:∀b∈fp,FpOk X pins H b) (ho:∀b∈fp,∃o,s.heap.get? b=some o∧∀v,o.data≠.cell v):Inv X (pins++zdQ fp s.heap) σ H s:=
 I.pins_of fun p hp=>(List.mem_append.mp hp).elim (fun z=>I.pin p (List.mem_append_right _ z)) fun z=>by
  obtain ⟨hb,e⟩:=zgY z
  obtain ⟨f0,f1,f2,_⟩:=hf p.1 hb
  obtain ⟨o,e',d⟩:=ho p.1 hb
  rw[e] at e';cases e'
  exact ⟨e,f0,f1,f2,d⟩
theorem Inv.unpinned {pins pl:List (Addr×Obj)}{σ:St}{H:Hp}{s:Shared}(I:Inv X (pins++pl) σ H s):Inv X pins σ H s:=I.pins_of fun p hp=>I.pin p (List.mem_append_right _ (List.mem_append_left _ hp))
theorem zbO {iter:Expr}{body:List Stmt}{wi:TI}{g:TG}{tb:TS}{pos:Pos}(hp:PassesOwn (model X.prog X.w) X.A X.env X.xe) (hc:X.calm=true) (hi:PI X tg iter wi) (hg:PG X tg g) (hb:PSs X body tb)
  (hs:∀x,foldedSetIterable iter X.env x=pure x:=by intro _;rfl):PS X (.For tg iter body [] pos) (tFor wi g tb):=by
 intro pins s σ H D I h
 refine wpAny_For (thn (hi pins s σ H _ I h) fun v s1 h1=>thn h1 fun itv s2 h2=>?_) hs
 obtain ⟨it,fp,tn,J,H2,e,I2,T,st2,f2,W,⟨m0,w0⟩,turn⟩:=h2
 subst e
 -- what stays true of the iterator's objects through the loop
 have stat:∀ {H':Hp},(∀b∈fp,H' b=none)→∀b∈fp,FpOk X pins H' b:=fun hn b hb=>⟨hn b hb,(f2 b hb).2⟩
 refine codeAny_forLoop_any (fun n s'=>∃i σ' H',Inv X pins σ' H' s'∧tn i s'.heap∧(∀b∈fp,H' b=none)∧W i n σ' H') ?_ m0 ⟨0,σ,H2,I2,st2,fun b hb=>(f2 b hb).1,w0⟩
 rintro n s3 ⟨i,σ3,H3,I3,st3,fr3,w3⟩
 rcases turn i n σ3 H3 w3 with ⟨stop,qn⟩|⟨go,N,hN,step⟩
 ·refine wpAny_passesOwn hp (thn (T.done X rfl rfl rfl hc i pins s3 σ3 H3 X.xe I3 (stat fr3) st3 stop) fun r s4 ⟨hr,I4⟩=>?_)
  subst hr
  exact wpAny_execs_nil ⟨σ3,H3,I4,qn⟩
 ·refine wpAny_passesOwn hp (thn (T.item X rfl rfl rfl hc i pins s3 σ3 H3 X.xe I3 (stat fr3) st3 go) fun r s4 ⟨u,hr,h4⟩=>?_)
  subst hr
  refine wpAny_passesOwn hp (thn h4 fun _ s5 ⟨x,H5,I5,r5,y5,st5,fr5⟩=>?_)
  have I5':=I5.pinned (stat fr5) (T.obj _ _ st5)
  refine wpAny_passesOwn hp (thn (hg _ s5 σ3 H5 x u _ I5' r5 (step x H5 y5)) fun _ s6 ⟨σ6,H6,I6,q6⟩=>?_)
  refine wpAny_passesOwn hp (thn (hb _ s6 σ6 H6 _ I6 q6) fun f s7 q7=>?_)
  have again:∀ {σ7:St} {H7:Hp},Inv X (pins++zdQ fp s5.heap) σ7 H7 s7→N σ7 H7→∃m,m<n∧∃i σ' H',Inv X pins σ' H' s7∧tn i s7.heap∧(∀b∈fp,H' b=none)∧W i m σ' H':=fun {σ7 H7} I7 n7=>by
   obtain ⟨m',hm,w7⟩:=hN σ7 H7 n7
   refine ⟨m',hm,i+1,σ7,H7,I7.unpinned,T.keep _ _ _ st5 fun b hb o e=>(I7.pin (b,o) (List.mem_append_right _ (List.mem_append_right _ (zbt hb e)))).1,fun b hb=>?_,w7⟩
   obtain ⟨o,e,d⟩:=T.obj _ _ st5 b hb
   exact (I7.pin (b,o) (List.mem_append_right _ (List.mem_append_right _ (zbt hb e)))).2.1
  cases f with
  |next=>obtain ⟨σ7,H7,I7,n7⟩:=q7;exact again I7 n7
  |cont=>obtain ⟨σ7,H7,I7,n7⟩:=q7;exact again I7 n7
  |brk=>obtain ⟨σ7,H7,I7,q7⟩:=q7;exact ⟨σ7,H7,I7.unpinned,q7⟩
  |ret v=>obtain ⟨x7,σ7,H7,I7,r7,q7⟩:=q7;exact ⟨x7,σ7,H7,I7.unpinned,r7,q7⟩
end
theorem ziz {K:W.Frag}{a:Addr}{xs:List V}{g:TG}{tb:TS}{D:Ends}{σ:St}{H:Hp}(Pv:Nat→St→Hp→Prop) (h0:Pv 0 σ H) (hl:∀i σ H,i≤xs.length→Pv i σ H→SqL K H a xs)
  (hs:∀i x σ H,xs[i]?=some x→Pv i σ H→g x σ H fun σ2 H2=>tb { D with nx:=Pv (i+1),ct:=Pv (i+1),bk:=D.nx } σ2 H2) (hd:∀σ H,Pv xs.length σ H→D.nx σ H) :
  ∃W:Nat→Nat→St→Hp→Prop,(∃m,W 0 m σ H)∧∀i m σ H,W i m σ H →
   ((Itl K a).stop i H∧D.nx σ H)∨((Itl K a).go i H∧∃N:St→Hp→Prop,(∀σ' H',N σ' H'→∃m',m'<m∧W (i+1) m' σ' H')∧∀x H',(Itl K a).yld i H x H'→g x σ H' fun σ2 H2=>tb { D with nx:=N,ct:=N,bk:=D.nx } σ2 H2):=by
 refine ⟨fun i m σ H=>m=xs.length-i∧i≤xs.length∧Pv i σ H,⟨xs.length,by simp,Nat.zero_le _,h0⟩,?_⟩
 rintro i m σ H ⟨rfl,hi,p⟩
 have q:=hl i σ H hi p
 by_cases hlt:i<xs.length
 ·refine .inr ⟨⟨xs,xs[i],q,by simp[hlt]⟩,Pv (i+1),fun σ' H' p'=>⟨xs.length-(i+1),by omega,rfl,hlt,p'⟩,fun x H' y=>?_⟩
  obtain ⟨e,y⟩:=y
  subst e
  exact hs i x σ _ (y xs q) p
 ·have e:i=xs.length:=by omega
  subst e
  exact .inl ⟨⟨xs,q,Nat.le_refl _⟩,hd σ H p⟩
theorem zdm {K:W.Frag}{a:Addr}{xs:List V}{g:TG}{tb:TS}{D:Ends}{σ:St}{H:Hp}(Pv:Nat→St→Hp→Prop) (h0:Pv 0 σ H) (hl:∀i σ H,i≤xs.length→Pv i σ H→SqT K H a xs)
  (hs:∀i x σ H,xs[i]?=some x→Pv i σ H→g x σ H fun σ2 H2=>tb { D with nx:=Pv (i+1),ct:=Pv (i+1),bk:=D.nx } σ2 H2) (hd:∀σ H,Pv xs.length σ H→D.nx σ H) :
  ∃W:Nat→Nat→St→Hp→Prop,(∃m,W 0 m σ H)∧∀i m σ H,W i m σ H →
   ((Itt K a).stop i H∧D.nx σ H)∨((Itt K a).go i H∧∃N:St→Hp→Prop,(∀σ' H',N σ' H'→∃m',m'<m∧W (i+1) m' σ' H')∧∀x H',(Itt K a).yld i H x H'→g x σ H' fun σ2 H2=>tb { D with nx:=N,ct:=N,bk:=D.nx } σ2 H2):=by
 refine ⟨fun i m σ H=>m=xs.length-i∧i≤xs.length∧Pv i σ H,⟨xs.length,by simp,Nat.zero_le _,h0⟩,?_⟩
 rintro i m σ H ⟨rfl,hi,p⟩
 have q:=hl i σ H hi p
 by_cases hlt:i<xs.length
 ·refine .inr ⟨⟨xs,xs[i],q,by simp[hlt]⟩,Pv (i+1),fun σ' H' p'=>⟨xs.length-(i+1),by omega,rfl,hlt,p'⟩,fun x H' y=>?_⟩
  obtain ⟨e,y⟩:=y
  subst e
  exact hs i x σ _ (y xs q) p
 ·have e:i=xs.length:=by omega
  subst e
  exact .inl ⟨⟨xs,q,Nat.le_refl _⟩,hd σ H p⟩
theorem zbB {lo:Int}{n:Nat}{g:TG}{tb:TS}{D:Ends}{σ:St}{H:Hp}(Pv:Nat→St→Hp→Prop) (h0:Pv 0 σ H)
  (hs:∀i σ H,i<n→Pv i σ H→g (.int (lo+i)) σ H fun σ2 H2=>tb { D with nx:=Pv (i+1),ct:=Pv (i+1),bk:=D.nx } σ2 H2) (hd:∀σ H,Pv n σ H→D.nx σ H) :
  ∃W:Nat→Nat→St→Hp→Prop,(∃m,W 0 m σ H)∧∀i m σ H,W i m σ H →
   ((Itr lo n).stop i H∧D.nx σ H)∨((Itr lo n).go i H∧∃N:St→Hp→Prop,(∀σ' H',N σ' H'→∃m',m'<m∧W (i+1) m' σ' H')∧∀x H',(Itr lo n).yld i H x H'→g x σ H' fun σ2 H2=>tb { D with nx:=N,ct:=N,bk:=D.nx } σ2 H2):=by
 refine ⟨fun i m σ H=>m=n-i∧i≤n∧Pv i σ H,⟨n,by simp,Nat.zero_le _,h0⟩,?_⟩
 rintro i m σ H ⟨rfl,hi,p⟩
 by_cases hlt:i<n
 ·refine .inr ⟨hlt,Pv (i+1),fun σ' H' p'=>⟨n-(i+1),by omega,rfl,hlt,p'⟩,fun x H' y=>?_⟩
  obtain ⟨e,y⟩:=y
  subst e y
  exact hs i σ _ hlt p
 ·have e:i=n:=by omega
  subst e
  exact .inl ⟨Nat.le_refl _,hd σ H p⟩
theorem zcs {c:TT}{tb:TS}{D:Ends}{σ:St}{H:Hp}(Pv:St→Hp→Prop) (μ:St→Hp→Nat) (h0:Pv σ H)
  (hs:∀σ H,Pv σ H→c σ H fun b H1=>if b=true then tb { D with nx:=fun σ' H'=>Pv σ' H'∧μ σ' H'<μ σ H,ct:=fun σ' H'=>Pv σ' H'∧μ σ' H'<μ σ H,bk:=D.nx } σ H1 else D.nx σ H1)
  (mono:∀σ H Q Q',(∀b H1,Q b H1→Q' b H1)→c σ H Q→c σ H Q'):zjE c tb D σ H:=by
 refine ⟨fun m σ H=>m=μ σ H∧Pv σ H,⟨_,rfl,h0⟩,?_⟩
 rintro m σ H ⟨rfl,p⟩
 refine mono σ H _ _ (fun b H1 q=>?_) (hs σ H p)
 cases b with
 |true=>exact ⟨_,fun σ' H' ⟨p',l⟩=>⟨_,l,rfl,p'⟩,q⟩
 |false=>exact q
abbrev R2:=V→V→Hp→VK→Prop
def OpR (X:Cx) (f:Value→Value→Sem Value) (r:R2):Prop:=
 ∀(pins:List (Addr×Obj)) (s:Shared) (σ:St) (H:Hp) (x y:V) (v u:Value) (Q:VK),Inv X pins σ H s→RelV x v→RelV y u→r x y H Q →
  wpAny (model X.prog X.w) X.A (f v u) (EP X pins σ Q) X.xe s
def UnR (X:Cx) (f:Value→Sem Value) (r:V→Hp→VK→Prop):Prop:=
 ∀(pins:List (Addr×Obj)) (s:Shared) (σ:St) (H:Hp) (x:V) (v:Value) (Q:VK),Inv X pins σ H s→RelV x v→r x H Q →
  wpAny (model X.prog X.w) X.A (f v) (EP X pins σ Q) X.xe s
def CallR (X:Cx) (f:Value) (r:List V→Hp→VK→Prop):Prop:=
 ∀(pins:List (Addr×Obj)) (s:Shared) (σ:St) (H:Hp) (xs:List V) (us:List Value) (Q:VK),Inv X pins σ H s→Vals xs us→r xs H Q →
  wpAny (model X.prog X.w) X.A (call f us) (EP X pins σ Q) X.xe s
def TruR (X:Cx) (r:V→Hp→(Bool→Hp→Prop)→Prop):Prop:=
 ∀(pins:List (Addr×Obj)) (s:Shared) (σ:St) (H:Hp) (x:V) (v:Value) (Q:Bool→Hp→Prop),Inv X pins σ H s→RelV x v→r x H Q →
  wpAny (model X.prog X.w) X.A (truthy v) (TP X pins σ Q) X.xe s
def tOp (r:R2) (ta tb:TE):TE:=fun σ H Q=>ta σ H fun x H1=>tb σ H1 fun y H2=>r x y H2 Q
def tUn (r:V→Hp→VK→Prop) (ta:TE):TE:=fun σ H Q=>ta σ H fun x H1=>r x H1 Q
def rI (C:Int→Int→Prop) (g:Int→Int→V):R2:=fun x y H Q=>∃i j,x=.int i∧y=.int j∧C i j∧Q (g i j) H
def rI0 (g:Int→Int→V):R2:=fun x y H Q=>∃i j,x=.int i∧y=.int j∧Q (g i j) H
def rU (g:Int→V):V→Hp→VK→Prop:=fun x H Q=>∃i,x=.int i∧Q (g i) H
section
variable {X:Cx}{a b c:Expr}{ta tb tc:TE}{pos:Pos}
theorem binT (ha:PE X a ta) (hb:PE X b tb){pins:List (Addr×Obj)}{s:Shared}{σ:St}{H:Hp}{R:V→V→Hp→Prop}(I:Inv X pins σ H s)
  (h:ta σ H fun x H1=>tb σ H1 fun y H2=>R x y H2) {Q:Value→Shared→Prop} {f:Value→Value→Sem Value}
  (hf:∀v u s2 x y H2,Inv X pins σ H2 s2→RelV x v→RelV y u→R x y H2→wpAny (model X.prog X.w) X.A (f v u) Q X.xe s2) :
  wpAny (model X.prog X.w) X.A (eval a X.env) (fun v s₁=>wpAny (model X.prog X.w) X.A (eval b X.env) (fun u s₂=>wpAny (model X.prog X.w) X.A (f v u) Q X.xe s₂) X.xe s₁) X.xe s:=by
 refine thn (ha pins s σ H _ I h) fun v s1 ⟨x,H1,I1,r1,q1⟩=>?_
 refine thn (hb pins s1 σ H1 _ I1 q1) fun u s2 ⟨y,H2,I2,r2,q2⟩=>?_
 exact hf v u s2 x y H2 I2 r1 r2 q2
theorem zaB {op:Operator}{r:R2}(ho:OpR X (binaryOp op) r) (ha:PE X a ta) (hb:PE X b tb):PE X (.BinOp a op b pos) (tOp r ta tb):=by
 intro pins s σ H Q I h
 exact wpAny_BinOp (binT ha hb I h fun v u s2 x y H2 I2 rx ry q=>ho pins s2 σ H2 x y v u Q I2 rx ry q)
theorem zbP {op:UnaryOp}{r:V→Hp→VK→Prop}(ho:UnR X (unaryOp op) r) (ha:PE X a ta):PE X (.UnaryOp op a pos) (tUn r ta):=by
 intro pins s σ H Q I h
 exact UnaryOp_ (thn (ha pins s σ H _ I h) fun v s1 ⟨x,H1,I1,r1,q1⟩=>ho pins s1 σ H1 x v Q I1 r1 q1)
theorem opI {f:Value→Value→Sem Value}{C:Int→Int→Prop}{g:Int→Int→Int}
  (rule:∀(i j:Int) (t u:Tok) (s:Shared) (Q:Value→Shared→Prop) (E:Value→Shared→Prop),C i j→Q (.int (g i j) s.toks) { s with toks:=s.toks+1 }→wpAny (model X.prog X.w) X.A (f (.int i t) (.int j u)) Q E s) :
  OpR X f (rI C fun i j=>.int (g i j)):=by
 intro pins s σ H x y v u Q I rx ry h
 obtain ⟨i,j,rfl,rfl,hc,q⟩:=h
 obtain ⟨t,rfl⟩:=rx
 obtain ⟨t',rfl⟩:=ry
 exact rule i j t t' s _ _ hc ⟨.int (g i j),H,I.tok _,⟨_,rfl⟩,q⟩
theorem opI0 {f:Value→Value→Sem Value}{g:Int→Int→Int}
  (rule:∀(i j:Int) (t u:Tok) (s:Shared) (Q:Value→Shared→Prop) (E:Value→Shared→Prop),Q (.int (g i j) s.toks) { s with toks:=s.toks+1 }→wpAny (model X.prog X.w) X.A (f (.int i t) (.int j u)) Q E s) :
  OpR X f (rI0 fun i j=>.int (g i j)):=by
 intro pins s σ H x y v u Q I rx ry h
 obtain ⟨i,j,rfl,rfl,q⟩:=h
 obtain ⟨t,rfl⟩:=rx
 obtain ⟨t',rfl⟩:=ry
 exact rule i j t t' s _ _ ⟨.int (g i j),H,I.tok _,⟨_,rfl⟩,q⟩
theorem opB0 {f:Value→Value→Sem Value}{g:Int→Int→Bool}
  (rule:∀(i j:Int) (t u:Tok) (s:Shared) (Q:Value→Shared→Prop) (E:Value→Shared→Prop),Q (.bool (g i j)) s→wpAny (model X.prog X.w) X.A (f (.int i t) (.int j u)) Q E s) :
  OpR X f (rI0 fun i j=>.bl (g i j)):=by
 intro pins s σ H x y v u Q I rx ry h
 obtain ⟨i,j,rfl,rfl,q⟩:=h
 obtain ⟨t,rfl⟩:=rx
 obtain ⟨t',rfl⟩:=ry
 exact rule i j t t' s _ _ ⟨.bl (g i j),H,I,rfl,q⟩
def CDiv (i j:Int):Prop:=0<j∧j<1073741824
def CPow (i j:Int):Prop:=0≤j∧j≤1000000∧i.natAbs<2 ^ 64
def CMul (i j:Int):Prop:=(-(2 ^ 64)<i∧i<2 ^ 64)∨(-(2 ^ 64)<j∧j<2 ^ 64)
theorem CMul.ok {i j:Int}(h:CMul i j):IntMulOk i j:=by
 rcases h with ⟨h1,h2⟩|⟨h1,h2⟩
 ·exact .of_left (intBits_le_64 h1 h2)
 ·exact .of_right (intBits_le_64 h1 h2)
theorem zaQ:OpR X (binaryOp .Add) (rI0 fun i j=>.int (i+j)):=opI0 fun _ _ _ _ _ _ _ q=>add_int q
theorem zc1:OpR X (binaryOp .Sub) (rI0 fun i j=>.int (i-j)):=opI0 fun _ _ _ _ _ _ _ q=>sub_int q
theorem zdn:OpR X (binaryOp .Mult) (rI CMul fun i j=>.int (i*j)):=opI fun _ _ _ _ _ _ _ hc q=>mul_int q hc.ok
theorem zd7:OpR X (binaryOp .FloorDiv) (rI CDiv fun i j=>.int (i / j)):=opI fun i j _ _ _ _ _ hc q=>by
 have h1:(0:Int)<j:=hc.1
 have h2:j<1073741824:=hc.2
 exact floordiv_int (by omega) (by rw[Int.fdiv_eq_ediv_of_nonneg i (by omega)];exact q) (.inl (PyProof.noPylong_small (by omega)))
theorem zch:OpR X (binaryOp .Mod) (rI (fun _ j=>0<j) fun i j=>.int (i % j)):=opI fun i j _ _ _ _ _ hc q=>by
 have h1:(0:Int)<j:=hc
 exact mod_int' (by omega) (by rw[Int.fmod_eq_emod_of_nonneg i (by omega)];exact q)
theorem zjF:OpR X (binaryOp .Pow) (rI CPow fun i j=>.int (i ^ j.toNat)):=opI fun _ _ _ _ _ _ _ hc q=>pow_int_small hc.1 hc.2.1 hc.2.2 q
theorem unI {f:Value→Sem Value}{g:Int→Int}
  (rule:∀(i:Int) (t:Tok) (s:Shared) (Q:Value→Shared→Prop) (E:Value→Shared→Prop),Q (.int (g i) s.toks) { s with toks:=s.toks+1 }→wpAny (model X.prog X.w) X.A (f (.int i t)) Q E s) :
  UnR X f (rU fun i=>.int (g i)):=by
 intro pins s σ H x v Q I rx h
 obtain ⟨i,rfl,q⟩:=h
 obtain ⟨t,rfl⟩:=rx
 exact rule i t s _ _ ⟨.int (g i),H,I.tok _,⟨_,rfl⟩,q⟩
theorem zbf:UnR X (unaryOp .USub) (rU fun i=>.int (-i)):=unI fun _ _ _ _ _ q=>neg_int q
end
def scal:V→V→Bool
 |.non,.non=>true|.non,.int _=>true|.int _,.non=>true|.non,.bl _=>true|.bl _,.non=>true|.non,.str _=>true|.str _,.non=>true
 |.int _,.int _=>true|.bl _,.bl _=>true|.str _,.str _=>true|.byt _,.byt _=>true
 |.int _,.str _=>true|.str _,.int _=>true|.bl _,.str _=>true|.str _,.bl _=>true
 |_,_=>false
def rEq:R2:=fun x y H Q=>scal x y=true∧Q (.bl (decide (x=y))) H
def rNe:R2:=fun x y H Q=>scal x y=true∧Q (.bl (!decide (x=y))) H
theorem zgZ {i j:Int}:decide (V.int i=V.int j)=(i==j):=by
 rw[Bool.eq_iff_iff]
 simp
theorem zjG {i j:Bool}:decide (V.bl i=V.bl j)=(i==j):=by
 rw[Bool.eq_iff_iff]
 simp
theorem zfw {i j:Str}:decide (V.str i=V.str j)=(i==j):=by
 rw[Bool.eq_iff_iff]
 simp
theorem zg0 {i j:Array UInt8}:decide (V.byt i=V.byt j)=(i.toList==j.toList):=by
 rw[Bool.eq_iff_iff]
 cases i
 cases j
 simp
section
variable {X:Cx}{a b c:Expr}{ta tb tc:TE}{pos:Pos}
theorem zaJ {pins:List (Addr×Obj)}{σ:St}{H:Hp}{s:Shared}{Q:VK}{k k':Bool}(I:Inv X pins σ H s) (q:Q (.bl k) H) (e:k=k'):EP X pins σ Q (.bool k') s:=by
 subst e
 exact ⟨.bl k,H,I,rfl,q⟩
theorem zcg:OpR X (compareOp .Eq) rEq:=by
 intro pins s σ H x y v u Q I rx ry h
 obtain ⟨hs,q⟩:=h
 cases x with
 |non=>
  cases rx
  cases y with
  |non=>cases ry;exact PySem.EqNone.eq_none_none (zaJ I q (by simp))
  |bl j=>cases ry;exact PySem.EqNone.eq_none_bool (zaJ I q (by simp))
  |int j=>obtain ⟨t',rfl⟩:=ry;exact PySem.EqNone.eq_none_int (zaJ I q (by simp))
  |str j=>obtain ⟨t',rfl⟩:=ry;exact PySem.EqNone.eq_none_str (zaJ I q (by simp))
  |_=>exact absurd (show false=true from hs) Bool.false_ne_true
 |bl i=>
  cases rx
  cases y with
  |non=>cases ry;exact PySem.EqNone.eq_bool_none (zaJ I q (by simp))
  |bl j=>cases ry;exact eq_bool (zaJ I q zjG)
  |str j=>obtain ⟨t',rfl⟩:=ry;exact PySem.EqMixed.eq_bool_str (zaJ I q (by simp))
  |_=>exact absurd (show false=true from hs) Bool.false_ne_true
 |int i=>
  obtain ⟨t,rfl⟩:=rx
  cases y with
  |non=>cases ry;exact PySem.EqNone.eq_int_none (zaJ I q (by simp))
  |int j=>obtain ⟨t',rfl⟩:=ry;exact eq_int (zaJ I q zgZ)
  |str j=>obtain ⟨t',rfl⟩:=ry;exact PySem.EqMixed.eq_int_str (zaJ I q (by simp))
  |_=>exact absurd (show false=true from hs) Bool.false_ne_true
 |str i=>
  obtain ⟨t,rfl⟩:=rx
  cases y with
  |non=>cases ry;exact PySem.EqNone.eq_str_none (zaJ I q (by simp))
  |bl j=>cases ry;exact PySem.EqMixed.eq_str_bool (zaJ I q (by simp))
  |int j=>obtain ⟨t',rfl⟩:=ry;exact PySem.EqMixed.eq_str_int (zaJ I q (by simp))
  |str j=>obtain ⟨t',rfl⟩:=ry;exact eq_str (zaJ I q zfw)
  |_=>exact absurd (show false=true from hs) Bool.false_ne_true
 |byt i=>
  obtain ⟨t,rfl⟩:=rx
  cases y with
  |byt j=>obtain ⟨t',rfl⟩:=ry;exact W.eq_bytes (zaJ I q zg0)
  |_=>exact absurd (show false=true from hs) Bool.false_ne_true
 |_=>cases y<;>exact absurd (show false=true from hs) Bool.false_ne_true
theorem zd8:OpR X (compareOp .NotEq) rNe:=by
 intro pins s σ H x y v u Q I rx ry h
 obtain ⟨hs,q⟩:=h
 cases x with
 |non=>
  cases rx
  cases y with
  |non=>cases ry;exact PySem.EqNone.ne_none_none (zaJ I q (by simp))
  |bl j=>cases ry;exact PySem.EqNone.ne_none_bool (zaJ I q (by simp))
  |int j=>obtain ⟨t',rfl⟩:=ry;exact PySem.EqNone.ne_none_int (zaJ I q (by simp))
  |str j=>obtain ⟨t',rfl⟩:=ry;exact PySem.EqNone.ne_none_str (zaJ I q (by simp))
  |_=>exact absurd (show false=true from hs) Bool.false_ne_true
 |bl i=>
  cases rx
  cases y with
  |non=>cases ry;exact PySem.EqNone.ne_bool_none (zaJ I q (by simp))
  |bl j=>cases ry;exact ne_bool (zaJ I q (congrArg not zjG))
  |str j=>obtain ⟨t',rfl⟩:=ry;exact PySem.EqMixed.ne_bool_str (zaJ I q (by simp))
  |_=>exact absurd (show false=true from hs) Bool.false_ne_true
 |int i=>
  obtain ⟨t,rfl⟩:=rx
  cases y with
  |non=>cases ry;exact PySem.EqNone.ne_int_none (zaJ I q (by simp))
  |int j=>obtain ⟨t',rfl⟩:=ry;exact ne_int (zaJ I q (congrArg not zgZ))
  |str j=>obtain ⟨t',rfl⟩:=ry;exact PySem.EqMixed.ne_int_str (zaJ I q (by simp))
  |_=>exact absurd (show false=true from hs) Bool.false_ne_true
 |str i=>
  obtain ⟨t,rfl⟩:=rx
  cases y with
  |non=>cases ry;exact PySem.EqNone.ne_str_none (zaJ I q (by simp))
  |bl j=>cases ry;exact PySem.EqMixed.ne_str_bool (zaJ I q (by simp))
  |int j=>obtain ⟨t',rfl⟩:=ry;exact PySem.EqMixed.ne_str_int (zaJ I q (by simp))
  |str j=>obtain ⟨t',rfl⟩:=ry;exact ne_str (zaJ I q (congrArg not zfw))
  |_=>exact absurd (show false=true from hs) Bool.false_ne_true
 |byt i=>
  obtain ⟨t,rfl⟩:=rx
  cases y with
  |byt j=>obtain ⟨t',rfl⟩:=ry;exact W.ne_bytes (zaJ I q (congrArg not zg0))
  |_=>exact absurd (show false=true from hs) Bool.false_ne_true
 |_=>cases y<;>exact absurd (show false=true from hs) Bool.false_ne_true
theorem zd9:OpR X (compareOp .Lt) (rI0 fun i j=>.bl (decide (i<j))):=opB0 fun _ _ _ _ _ _ _ q=>lt_int q
theorem ziA:OpR X (compareOp .LtE) (rI0 fun i j=>.bl (decide (i≤j))):=opB0 fun _ _ _ _ _ _ _ q=>le_int q
theorem ziB:OpR X (compareOp .Gt) (rI0 fun i j=>.bl (decide (j<i))):=opB0 fun _ _ _ _ _ _ _ q=>gt_int q
theorem zlv:OpR X (compareOp .GtE) (rI0 fun i j=>.bl (decide (j≤i))):=opB0 fun _ _ _ _ _ _ _ q=>ge_int q
theorem zg1:OpR X (compareOp .In) (fun x y H Q=>∃i j,x=.str i∧y=.str j∧Q (.bl (!(Builtin.Str.occurrences j i 0 j.length 1).isEmpty)) H):=by
 intro pins s σ H x y v u Q I rx ry h
 obtain ⟨i,j,rfl,rfl,q⟩:=h
 obtain ⟨t,rfl⟩:=rx
 obtain ⟨t',rfl⟩:=ry
 exact in_str (zaJ I q rfl)
theorem zk4:OpR X (compareOp .Is) (fun x y H Q=>y=.non∧Q (.bl (decide (x=.non))) H):=by
 intro pins s σ H x y v u Q I rx ry h
 obtain ⟨rfl,q⟩:=h
 cases ry
 refine is_none_gen (zaJ I q ?_)
 cases x<;>first
  |(cases rx;rfl)
  |(obtain ⟨t,rfl⟩:=rx;rfl)
theorem zaz (b:Expr){op:CmpOp}(h:op≠.In:=by decide) (h2:op≠.NotIn:=by decide):behindInMarks op b=false:=by
 have e1:(op==CmpOp.In)=false:=by cases op<;>first|rfl|exact absurd rfl h
 have e2:(op==CmpOp.NotIn)=false:=by cases op<;>first|rfl|exact absurd rfl h2
 cases b<;>simp[behindInMarks,e1,e2]
theorem zcN {op:CmpOp}{r:R2}(ho:OpR X (compareOp op) r) (ha:PE X a ta) (hb:PE X b tb) (hm:behindInMarks op b=false):PE X (.Compare a [op] [b] pos) (tOp r ta tb):=by
 intro pins s σ H Q I h
 exact wpAny_Compare1 (binT ha hb I h fun v u s2 x y H2 I2 rx ry q=>ho pins s2 σ H2 x y v u Q I2 rx ry q) hm
def tTest (t:TE):TT:=fun σ H Q=>t σ H fun x H'=>∃k,x=.bl k∧Q k H'
theorem zaw {op:CmpOp}{r:R2}(ho:OpR X (compareOp op) r) (ha:PE X a ta) (hb:PE X b tb) (hm:behindInMarks op b=false):PT X (.Compare a [op] [b] pos) (tTest (tOp r ta tb)):=by
 intro pins s σ H Q I h
 refine wpAny_isTrue_Compare1 (thn (ha pins s σ H _ I h) fun v s1 ⟨x,H1,I1,r1,q1⟩=>thn (hb pins s1 σ H1 _ I1 q1) fun u s2 ⟨y,H2,I2,r2,q2⟩=>
  thn (ho pins s2 σ H2 x y v u _ I2 r1 r2 q2) fun c s3 ⟨z,H3,I3,r3,k,e,q3⟩=>?_) hm
 subst e
 cases r3
 exact wpAny_truthy_bool ⟨H3,I3,q3⟩
def TruV (K:W.Frag) (x:V) (H:Hp) (k:Bool):Prop:=
 match x with
 |.non=>k=false
 |.bl b=>k=b
 |.int i=>k=(i != 0)
 |.str y=>y.length≤sizeLine∧k=((y.length:Int) != 0)
 |.byt y=>y.size≤sizeLine∧k=((y.size:Int) != 0)
 |.ref p=>(∃xs,SqL K H p xs∧k=!xs.isEmpty)∨(∃xs,SqT K H p xs∧k=!xs.isEmpty)∨∃kvs,H p=some (.dK kvs)∧k=!kvs.isEmpty
 |_=>False
theorem zgs {κ:Type}{kvs:List (κ×V)}{vs:List (κ×Value)}(r:KV kvs vs):(!vs.isEmpty)=!kvs.isEmpty:=by
 cases r<;>rfl
theorem zdR {xs:List V}{its:List Value}(r:Vals xs its):(!its.toArray.isEmpty)=!xs.isEmpty:=by
 cases r<;>simp
theorem zct:(sizeLine:Nat)<2 ^ 63:=by rw[sizeLine_eq];decide
theorem zk5:TruR X (fun x H Q=>∃k,TruV X.K x H k∧Q k H):=by
 intro pins s σ H x v Q I rx h
 obtain ⟨k,e,q⟩:=h
 have hl:=zct
 have hs:sizeLine=16777216:=sizeLine_eq
 cases x with
 |non=>
  cases rx
  have e':k=false:=e
  subst e'
  exact truthy_none ⟨H,I,q⟩
 |bl b=>
  cases rx
  have e':k=b:=e
  subst e'
  exact wpAny_truthy_bool ⟨H,I,q⟩
 |int i=>
  obtain ⟨t,rfl⟩:=rx
  have e':k=(i != 0):=e
  subst e'
  exact PySem.P.truthy_int ⟨H,I,q⟩
 |str y=>
  obtain ⟨t,rfl⟩:=rx
  obtain ⟨hy,e'⟩:y.length≤sizeLine∧k=((y.length:Int) != 0):=e
  subst e'
  exact PySem.P.truthy_str (by omega) ⟨H,I.tok _,q⟩
 |byt y=>
  obtain ⟨t,rfl⟩:=rx
  obtain ⟨hy,e'⟩:y.size≤sizeLine∧k=((y.size:Int) != 0):=e
  subst e'
  exact W.truthy_bytes (by omega) ⟨H,I.tok _,q⟩
 |ref p=>
  cases rx
  have e':(∃xs,SqL X.K H p xs∧k=!xs.isEmpty)∨(∃xs,SqT X.K H p xs∧k=!xs.isEmpty)∨∃kvs,H p=some (.dK kvs)∧k=!kvs.isEmpty:=e
  rcases e' with ⟨xs,hx,e'⟩|⟨xs,hx,e'⟩|⟨kvs,hx,e'⟩
  ·subst e'
   obtain ⟨its,r,pl,hz⟩:=I.list hx
   have hlen:=r.length
   exact wpAny_truthy_list pl.isList (by simp only[List.size_toArray];omega) ⟨H,I.tok _,by rw[zdR r];exact q⟩
  ·subst e'
   obtain ⟨its,r,pl,hz⟩:=I.tuple hx
   have hlen:=r.length
   exact truthy_tuple pl (by simp only[List.size_toArray];omega) ⟨H,I.tok _,by rw[zdR r];exact q⟩
  ·subst e'
   obtain ⟨hz,hS,vs,r,m⟩:kvs.length≤sizeLine∧(p==sysModules)=false∧∃vs,KV kvs vs∧s.heap.DictOf (zaG X.prog X.w) p vs:=I.hok p _ hx
   have hlen:kvs.length=vs.length:=Paired.length r
   exact wpAny_truthy_dict hS m (by omega) ⟨H,I.tok _,by rw[zgs r];exact q⟩
 |_=>exact (show False from e).elim
theorem zcu (ha:PE X a ta) (he:∀whole,isTrue a X.env whole=(do let v ← whole;standAt a.pos;holding [v] (truthy v))) :
  PT X a (fun σ H Q=>ta σ H fun x H'=>∃k,TruV X.K x H' k∧Q k H'):=by
 intro pins s σ H Q I h
 exact isTrue_plain (thn (ha pins s σ H _ I h) fun v s1 ⟨x,H1,I1,r1,q1⟩=>zk5 pins s1 σ H1 x v Q I1 r1 q1) (he _)
theorem za7:OpR X (binaryOp .Add) (fun x y H Q=>∃i j,x=.str i∧y=.str j∧i.length+j.length≤sizeLine∧Q (.str (i++j)) H):=by
 intro pins s σ H x y v u Q I rx ry h
 obtain ⟨i,j,rfl,rfl,hz,q⟩:=h
 obtain ⟨t,rfl⟩:=rx
 obtain ⟨t',rfl⟩:=ry
 exact add_str (fun t' tk=>⟨.str (i++j),H,I.tok _,⟨_,rfl⟩,q⟩) hz
theorem vals1 {x:V}{us:List Value}(r:Vals [x] us):∃u,us=[u]∧RelV x u:=by
 cases r with
 |cons r1 r2=>cases r2;exact ⟨_,rfl,r1⟩
theorem vals2 {x y:V}{us:List Value}(r:Vals [x,y] us):∃u w',us=[u,w']∧RelV x u∧RelV y w':=by
 cases r with
 |cons r1 r2=>
  cases r2 with
  |cons r3 r4=>cases r4;exact ⟨_,_,rfl,r1,r3⟩
theorem zg2 (hc:X.calm=true):CallR X (.builtin "min") (fun xs H Q=>∃i j,xs=[.int i,.int j]∧Q (.int (if j<i then j else i)) H):=by
 intro pins s σ H xs us Q I r h
 obtain ⟨i,j,rfl,q⟩:=h
 obtain ⟨u,w',rfl,⟨t,rfl⟩,⟨t',rfl⟩⟩:=vals2 r
 refine min_two_ints (I.ok.hd hc) fun h' tk k=>⟨_,H,I.kept k,?_,q⟩
 by_cases hj:j<i
 ·rw[if_pos hj,if_pos hj];exact ⟨_,rfl⟩
 ·rw[if_neg hj,if_neg hj];exact ⟨_,rfl⟩
theorem zeU:CallR X (.type "int") (fun xs H Q=>(∃i,xs=[.int i]∧Q (.int i) H)∨∃k,xs=[.bl k]∧Q (.int (if k then 1 else 0)) H):=by
 intro pins s σ H xs us Q I r h
 rcases h with ⟨i,rfl,q⟩|⟨k,rfl,q⟩
 ·obtain ⟨u,rfl,t,rfl⟩:=vals1 r
  exact call_int_int ⟨.int i,H,I,⟨_,rfl⟩,q⟩
 ·obtain ⟨u,rfl,r1⟩:=vals1 r
  cases r1
  exact call_int_bool ⟨.int (if k then 1 else 0),H,I.tok _,⟨_,rfl⟩,q⟩
end
structure ObjM (h:Heap) (x dx C:Addr) (mA:Str→Option Value):Prop where
 obj:h.get? x=some (W.instObj C dx)
 ns:h.Ns1 dx mA
 ne:dx≠x
theorem zg3 {h:Heap}{dx:Addr}{mA:Str→Option Value}(n:h.Ns1 dx mA):∃od,h.get? dx=some od∧∀name,W.lookIn name od=some (mA name):=by
 obtain ⟨o,es,ep,ho,hd,hk,_,hm⟩:=n
 refine ⟨o,ho,fun name=>?_⟩
 have e:=hm name
 unfold nsFind findBy at e
 rw[←Array.find?_toList] at e
 unfold W.lookIn
 rw[hd]
 dsimp only
 split
 ·rename_i y q
  rw[q] at e
  exact congrArg some e
 ·rename_i q
  rw[q] at e
  have a:es.toList.any (·.refKey)=false:=by
   rw[List.any_eq_false]
   intro y hy
   obtain ⟨z,t,hkey⟩:=hk y (Array.mem_toList_iff.mp hy)
   simp[DictEntry.refKey,hkey]
  have a':¬es.toList.any (·.refKey)=true:=by rw[a];exact Bool.false_ne_true
  rw[if_neg a']
  exact congrArg some e
theorem ObjM.look {h:Heap}{x dx C:Addr}{mA:Str→Option Value}(I:ObjM h x dx C mA):∃od,W.InstAt h x (W.instObj C dx) C (some od)∧∀name,W.lookIn name od=some (mA name):=
 let ⟨od,ho,hl⟩:=zg3 I.ns
 ⟨od,⟨I.obj,rfl,rfl,ho⟩,hl⟩
section
variable {prog:Program}{w:World}{A:Around}{E:Value→Shared→Prop}{s:Shared}{K:W.Frag}{x dx C f:Addr}{mA:Str→Option Value}{name:Str}{v:Value}
theorem zj0 {expr:Bool}{Q:Value→Shared→Prop}(X:K.In s.heap) (I:ObjM s.heap x dx C mA) (hg:W.plainGet K C name=true) (hh:W.hasDictIn K C=true)
  (ha:W.findIn K (.ref C) name=some none) (hv:mA name=some v) (hv':W.handedIn v=true) (h:Q v { s with toks:=s.toks+1 }) :
  wpAny (model prog w) A (getAttr (.ref x) name expr) Q E s:=by
 obtain ⟨od,J,hl⟩:=I.look
 exact W.get_value X J (W.plainGet_of hg).1 (W.findObj_own hh ha rfl (by rw[hl,hv])) hv' h
theorem ziC {pl:Sem Bool}{Q:Value×List Value→Shared→Prop}(X:K.In s.heap) (I:ObjM s.heap x dx C mA) (hg:W.plainGet K C name=true)
  (hf:W.findIn K (.ref C) name=some (some (.ref f))) (ht:W.isFn K (.ref f)=true) (hv:mA name=none) (h:Q (.ref f,[.ref x]) s) :
  wpAny (model prog w) A (getMethod (.ref x) name pl) Q E s:=by
 obtain ⟨od,J,hl⟩:=I.look
 exact W.method_fn X J (W.plainGet_of hg).1 (W.plainGet_of hg).2 hf (beq_iff_eq.mp ht) (by show (W.lookIn name od).map (·.isSome)=some false;rw[hl,hv];rfl) h
theorem zj1 {ns:List Str}{Q:Unit→Shared→Prop}(X:K.In s.heap) (I:ObjM s.heap x dx C mA)
  (hs:W.findIn K (.ref C) "__setattr__"=some (some (.builtin "object.__setattr__"))) (hp:W.plainOver K C=true) (ht:W.takerIn K C name=some none) (hh:W.hasDictIn K C=true)
  (hw:PySem.Within mA ns) (hsz:ns.length≤sizeLine)
  (h:∀h',ObjM h' x dx C (fun y=>if y=name then some v else mA y)→Heap.SameBut dx s.heap h'→Q () { s with heap:=h',toks:=s.toks+2 }) :
  wpAny (model prog w) A (setAttr (.ref x) name v) Q E s:=by
 obtain ⟨od,J,hl⟩:=I.look
 refine W.set_plain X J hs (W.osa_open (s:={ s with toks:=s.toks+1 }) (r:=none) X J hp ht fun b=>?_)
 obtain ⟨cd,hc,hd'⟩:=W.any_some hh
 have hx:s.heap.get? x=some ⟨.ref C,some dx,.plain,#[]⟩:=I.obj
 refine wpAny_bind (wpAny_pure (wpAny_bind (wpAny_bind (wpAny_loadPart hx (wpAny_bind (W.Looks.here (s:={ s with toks:=s.toks+1 }) (W.looks_clsIn X hc) ?_))))))
 rw[hd']
 refine wpAny_pure (a:=some dx) (wpAny_bind (wpAny_pure (wpAny_bind ?_)))
 refine wpAny_nsSet1 (s:={ s with toks:=s.toks+1 }) I.ns fun h' hn2 hs2=>?_
 obtain ⟨oD,esD,epD,hoD,hdD,hcD⟩:=hn2.count (PySem.Within.cons name v hw)
 refine wpAny_bind (wpAny_lookBehind hoD (by rw[hdD];exact pastItsLine_dict (Nat.le_trans hcD (by rw[List.length_cons];omega))) ?_)
 exact wpAny_pure (h _ ⟨(hs2.2 _ (Ne.symm I.ne)).trans I.obj,hn2,I.ne⟩ hs2)
theorem ziD {R:Result→Shared→Prop}{vs:List Value}{kw:List (Str×Value)}(X:K.In s.heap) (hm:W.makesIn K C=true)
  (hi:W.findIn K (.ref C) "__init__"=some (some (.ref f))) (hf:W.typeIn K (.ref f)=some (.type "function"))
  (h:codeAny (model prog w) (A.under (.builtin "type.__call__" ⟨.ref C::vs,kw⟩)) (.call (.ref f) ⟨.ref (s.heap.objs.size+1)::vs,kw⟩) (W.InitBack (s.heap.objs.size+1) R)
   { s with heap:=(s.heap.push W.emptyDict).push (W.instObj C s.heap.objs.size) }) :
  codeAny (model prog w) A (.call (.ref C) ⟨vs,kw⟩) R s:=by
 obtain ⟨hh,g,d,t,os⟩:=s
 exact W.make_core (W.makes_of X hm) (W.looks_findIn X hi) (fun self=>W.bind_fn X self hf) (.inl rfl) h
end
def putF (f:Str) (v:V):List (Str×V)→List (Str×V)
 |[]=>[(f,v)]
 |(g,x)::r=>if g=f then (g,v)::r else (g,x)::putF f v r
theorem zdo (f g:Str) (v:V):∀fs:List (Str×V),(putF f v fs).lookup g=if g=f then some v else fs.lookup g
 |[]=>by
  show List.lookup g [(f,v)]=_
  by_cases h:g=f
  ·have hb:(g==f)=true:=beq_iff_eq.mpr h
   simp only[List.lookup,hb,if_pos h]
  ·have hb:(g==f)=false:=beq_eq_false_iff_ne.mpr h
   simp only[List.lookup,hb,if_neg h]
 |(k,x)::r=>by
  have ih:=zdo f g v r
  rw[show putF f v ((k,x)::r)=(if k=f then (k,v)::r else (k,x)::putF f v r) from rfl]
  by_cases hk:k=f
  ·rw[if_pos hk]
   by_cases h:g=k
   ·have hb:(g==k)=true:=beq_iff_eq.mpr h
    simp only[List.lookup,hb,if_pos (h.trans hk)]
   ·have hb:(g==k)=false:=beq_eq_false_iff_ne.mpr h
    simp only[List.lookup,hb,if_neg (fun e:g=f=>h (e.trans hk.symm))]
  ·rw[if_neg hk]
   by_cases h:g=k
   ·have hb:(g==k)=true:=beq_iff_eq.mpr h
    simp only[List.lookup,hb,if_neg (fun e:g=f=>hk (h.symm.trans e))]
   ·have hb:(g==k)=false:=beq_eq_false_iff_ne.mpr h
    simp only[List.lookup,hb]
    exact ih
theorem zdp (f:Str) (v:V):∀fs:List (Str×V),f∈(putF f v fs).map (·.1)∧∀g,g∈fs.map (·.1)→g∈(putF f v fs).map (·.1)
 |[]=>⟨by simp[putF],fun g h=>by simp at h⟩
 |(k,x)::r=>by
  obtain ⟨i1,i2⟩:=zdp f v r
  rw[show putF f v ((k,x)::r)=(if k=f then (k,v)::r else (k,x)::putF f v r) from rfl]
  by_cases hk:k=f
  ·rw[if_pos hk]
   subst hk
   exact ⟨by simp,fun g h=>by simpa using h⟩
  ·rw[if_neg hk]
   refine ⟨?_,fun g h=>?_⟩
   ·rw[List.map_cons]
    exact List.mem_cons_of_mem _ i1
   ·rw[List.map_cons] at h ⊢
    rcases List.mem_cons.mp h with e|e
    ·exact List.mem_cons.mpr (.inl e)
    ·exact List.mem_cons_of_mem _ (i2 g e)
theorem zdq (f:Str) (v:V):∀fs:List (Str×V),(putF f v fs).length≤fs.length+1
 |[]=>by simp[putF]
 |(k,x)::r=>by
  have ih:=zdq f v r
  rw[show putF f v ((k,x)::r)=(if k=f then (k,v)::r else (k,x)::putF f v r) from rfl]
  by_cases hk:k=f
  ·rw[if_pos hk,List.length_cons,List.length_cons];omega
  ·rw[if_neg hk,List.length_cons,List.length_cons];omega
theorem RelO.some_of {v:V}{o:Option Value}(r:RelO (some v) o):∃u,o=some u∧RelV v u:=by
 cases o with
 |none=>exact (show False from r).elim
 |some u=>exact ⟨u,rfl,r⟩
theorem RelO.none_of {o:Option Value}(r:RelO none o):o=none:=by
 cases o with
 |none=>rfl
 |some u=>exact (show False from r).elim
theorem zg4 {v:V}{u:Value}(r:RelV v u):W.handedIn u=true:=by
 cases v with
 |non=>cases (show u=Value.none from r);rfl
 |bl b=>cases (show u=Value.bool b from r);rfl
 |int i=>obtain ⟨t,e⟩:=(show ∃t,u=Value.int i t from r);cases e;rfl
 |str x=>obtain ⟨t,e⟩:=(show ∃t,u=Value.str x t from r);cases e;rfl
 |byt b=>obtain ⟨t,e⟩:=(show ∃t,u=Value.bytes b t from r);cases e;rfl
 |flt b=>obtain ⟨t,e⟩:=(show ∃t,u=Value.float b t from r);cases e;rfl
 |ref a=>cases (show u=Value.ref a from r);rfl
 |ty n=>cases (show u=Value.type n from r);rfl
section
variable {P:Program}{w:World}{H H':Hp}{h h':Heap}{a C dx:Addr}{fs fs':List (Str×V)}
theorem zfx (hok:HOk P w H h) (e:H a=some (.ins C dx fs)):∃mA,ObjM h a dx C mA∧(∀f,RelO (fs.lookup f) (mA f))∧PySem.Within mA (fs.map (·.1))∧fs.length≤1000∧H dx=some (.own a):=by
 obtain ⟨d,z,ne,ob,mA,n,r,q⟩:=(show ObjOk P w H h a (.ins C dx fs) from hok a _ e)
 exact ⟨mA,⟨ob,n,ne⟩,r,q,z,d⟩
end
structure Cls (K:W.Frag) (C:Addr):Prop where
 pg:W.plainGet K C Str.empty=true
 hd:W.hasDictIn K C=true
 po:W.plainOver K C=true
 sa:W.findIn K (.ref C) "__setattr__"=some (some (.builtin "object.__setattr__"))
theorem Cls.get {K:W.Frag}{C:Addr}(c:Cls K C) (f:Str):W.plainGet K C f=true:=c.pg
def NoAttr (K:W.Frag) (C:Addr) (f:Str):Prop:=W.findIn K (.ref C) f=some none
theorem NoAttr.taker {K:W.Frag}{C:Addr}{f:Str}(n:NoAttr K C f):W.takerIn K C f=some none:=by
 unfold W.takerIn
 rw[show W.findIn K (.ref C) f=some none from n]
 rfl
structure Meth (K:W.Frag) (C:Addr) (m:Str) (f:Addr):Prop where
 at_:W.findIn K (.ref C) m=some (some (.ref f))
 fn:W.isFn K (.ref f)=true
 kp:W.keepIn K (.ref f)=true
section
variable {X:Cx}{pins:List (Addr×Obj)}{σ:St}{H:Hp}{s:Shared}{a C dx:Addr}{fs:List (Str×V)}{f:Str}{v:V}{A:Around}{E:Value→Shared→Prop}
theorem zgt {b:Bool}{Q:Value→Shared→Prop}(I:Inv X pins σ H s) (e:H a=some (.ins C dx fs)) (c:Cls X.K C) (n:NoAttr X.K C f) (l:fs.lookup f=some v)
  (h:∀u s',Inv X pins σ H s'→RelV v u→Q u s'):wpAny (model X.prog X.w) A (getAttr (.ref a) f b) Q E s:=by
 obtain ⟨mA,O,r,_,_,_⟩:=zfx I.hok e
 obtain ⟨u,hu,ru⟩:=RelO.some_of (v:=v) (o:=mA f) (by rw[←l];exact r f)
 exact zj0 I.kIn O (c.get f) c.hd n hu (zg4 ru) (h u _ (I.tok _) ru)
theorem zbC {m:Str}{g:Addr}{pl:Sem Bool}{Q:Value×List Value→Shared→Prop}(I:Inv X pins σ H s) (e:H a=some (.ins C dx fs)) (c:Cls X.K C) (k:Meth X.K C m g) (l:fs.lookup m=none)
  (h:Q (.ref g,[.ref a]) s):wpAny (model X.prog X.w) A (getMethod (.ref a) m pl) Q E s:=by
 obtain ⟨mA,O,r,_,_,_⟩:=zfx I.hok e
 have hn:mA m=none:=RelO.none_of (by rw[←l];exact r m)
 exact ziC I.kIn O (c.get m) k.at_ k.fn hn h
theorem zgu {y:V}{u:Value}{Q:Unit→Shared→Prop}(I:Inv X pins σ H s) (e:H a=some (.ins C dx fs)) (c:Cls X.K C) (n:NoAttr X.K C f) (hl:fs.length<1000) (ry:RelV y u)
  (h:∀s',Inv X pins σ (upd H a (.ins C dx (putF f y fs))) s'→Q () s'):wpAny (model X.prog X.w) A (setAttr (.ref a) f u) Q E s:=by
 obtain ⟨mA,O,r,wi,_,ho⟩:=zfx I.hok e
 have hz:(fs.map (·.1)).length≤sizeLine:=by rw[List.length_map,sizeLine_eq];omega
 refine zj1 I.kIn O c.sa c.po n.taker c.hd wi hz fun h' O' sb=>h _ ?_
 have hd:∃o,h'.get? dx=some o:=let ⟨o,_,_,e',_⟩:=O'.ns;⟨o,e'⟩
 refine I.write (x:=a) (e:=dx) (by rw[e];exact True.intro) (.inr ho) (fun b q hb z=>(sb.2 b hb).trans z) hd ?_
 refine ⟨by rw[zaj O.ne];exact ho,?_,O.ne,O'.obj,_,O'.ns,fun g=>?_,fun g hg=>?_⟩
 ·have:=zdq f y fs;omega
 ·show RelO ((putF f y fs).lookup g) (if g=f then some u else mA g)
  rw[zdo]
  by_cases q:g=f
  ·rw[if_pos q,if_pos q];exact ry
  ·rw[if_neg q,if_neg q];exact r g
 ·by_cases q:g=f
  ·rw[q];exact (zdp f y fs).1
  ·refine (zdp f y fs).2 g (wi g fun z=>hg ?_)
   show (if g=f then some u else mA g)=none
   rw[if_neg q];exact z
theorem Inv.made (I:Inv X pins σ H s):Inv X pins σ (upd (upd H s.heap.objs.size (.own (s.heap.objs.size+1))) (s.heap.objs.size+1) (.ins C s.heap.objs.size []))
  { s with heap:=(s.heap.push W.emptyDict).push (W.instObj C s.heap.objs.size) }:=by
 have e1:(s.heap.push W.emptyDict).get? s.heap.objs.size=some W.emptyDict:=Heap.get?_push_size s.heap rfl
 have e2:((s.heap.push W.emptyDict).push (W.instObj C s.heap.objs.size)).get? (s.heap.objs.size+1)=some (W.instObj C s.heap.objs.size):=by
  have:=Heap.get?_push_size (s.heap.push W.emptyDict) (o:=W.instObj C s.heap.objs.size) rfl
  rwa [Heap.size_push] at this
 have e3:(s.heap.push W.emptyDict).Ns s.heap.objs.size (fun _=>none):=⟨W.emptyDict,#[],_,e1,rfl,(fun e he=>absurd he (by simp)),fun _=>rfl⟩
 have I1:=I.laid (a:=s.heap.objs.size) (o:=.own (s.heap.objs.size+1)) (h':=s.heap.push W.emptyDict) (t':=s.toks) (fun b u q=>Heap.get?_push_of_some _ q) (Nat.le_refl _) ⟨_,e1⟩
 refine I1.laid (a:=s.heap.objs.size+1) (o:=.ins C s.heap.objs.size []) (t':=s.toks) (fun b u q=>Heap.get?_push_of_some _ q) (Nat.le_of_eq (Heap.size_push _ _)) ?_
 have ne:s.heap.objs.size≠s.heap.objs.size+1:=Nat.ne_of_lt (Nat.lt_succ_self _)
 refine ⟨by rw[zaj ne,zab],Nat.zero_le _,ne,e2,fun _=>none,(Heap.Ns1.of_empty e3).at fun o q=>Heap.get?_push_of_some _ q,fun _=>True.intro,fun y hy=>absurd rfl hy⟩
theorem zj2 {prog:Program}{w:World}{env:Env}{e:Expr}{f:Str}{pos:Pos}{s:Shared}{Q:Value→Shared→Prop}(hb:attributeBase e f env (eval e env)=eval e env)
  (h:wpAny (model prog w) A (eval e env) (fun o s₁=>wpAny (model prog w) A (getAttr o f true) Q E s₁) E s):wpAny (model prog w) A (eval (.Attribute e f pos) env) Q E s:=
 Attribute_any_ h (by rw[arm_eval_Attribute,hb])
end
def tFld (K:W.Frag) (ta:TE) (f:Str):TE:=fun σ H Q=>ta σ H fun x H1=>∃a C dx fs v,x=.ref a∧H1 a=some (.ins C dx fs)∧Cls K C∧NoAttr K C f∧fs.lookup f=some v∧Q v H1
def sFld (K:W.Frag) (ta tv:TE) (f:Str):TS:=fun D σ H=>tv σ H fun y H1=>ta σ H1 fun x H2=>∃a C dx fs,x=.ref a∧H2 a=some (.ins C dx fs)∧Cls K C∧NoAttr K C f∧fs.length<1000 ∧
 D.nx σ (upd H2 a (.ins C dx (putF f y fs)))
section
variable {X:Cx}{o e value:Expr}{f:Str}{pos pos' tpos:Pos}{ta tv:TE}
theorem zaH (he:PE X e ta) (hb:attributeBase e f X.env (eval e X.env)=eval e X.env):PE X (.Attribute e f pos) (tFld X.K ta f):=by
 intro pins s σ H Q I h
 refine zj2 hb (thn (he pins s σ H _ I h) fun u s1 ⟨x,H1,I1,rx,a,C,dx,fs,v,ex,ea,c,n,l,q⟩=>?_)
 subst ex
 obtain rfl:u=Value.ref a:=rx
 exact zgt I1 ea c n l fun u' s2 I2 ru=>⟨v,H1,I2,ru,q⟩
theorem zbT (ha:PE X o ta) (hv:PE X value tv) (hs:swapsWith value (some (.Attribute o f pos')) pos.line X.env=pure false):PS X (.Assign [.Attribute o f pos'] value pos) (sFld X.K ta tv f):=by
 intro pins s σ H D I h
 refine plainObj_wpAny_Assign_Attribute (thn (hv pins s σ H _ I h) fun u s1 ⟨y,H1,I1,ry,q⟩=>thn (ha pins s1 σ H1 _ I1 q) fun ov s2 ⟨x,H2,I2,rx,a,C,dx,fs,ex,ea,c,n,l,q2⟩=>?_) hs
 subst ex
 obtain rfl:ov=Value.ref a:=rx
 exact zgu I2 ea c n l ry fun s3 I3=>⟨σ,_,I3,q2⟩
theorem zj3 {pl:Sem Bool}{m:Str}{apos:Pos}{args:List Expr}{pins:List (Addr×Obj)}{s:Shared}{σ:St}{H:Hp}{Q:Value→Shared→Prop}{te:TE}(he:PE X e te) (I:Inv X pins σ H s)
  (h:te σ H fun x H1=>∃a C dx fs g,x=.ref a∧H1 a=some (.ins C dx fs)∧Cls X.K C∧Meth X.K C m g∧fs.lookup m=none ∧
   ∀s1,Inv X pins σ H1 s1→wpAny (model X.prog X.w) X.A (callWith pos (.ref g) [.ref a] (backTo pos (starEach args X.env)) (backToKw pos (keywordEach [] X.env))) Q X.xe s1)
  (ht:eval (.Call (.Attribute e m apos) args [] pos) X.env=(do
   let ov ← eval e X.env
   standAt apos.atName
   let (f,first) ← holding [ov] (getMethod ov m pl)
   callWith pos f first (backTo pos (starEach args X.env)) (backToKw pos (keywordEach [] X.env)))) :
  wpAny (model X.prog X.w) X.A (eval (.Call (.Attribute e m apos) args [] pos) X.env) Q X.xe s:=by
 refine W.methodCall_KW (pl:=pl) (thn (he pins s σ H _ I h) fun u s1 ⟨x,H1,I1,rx,a,C,dx,fs,g,ex,ea,c,k,l,q⟩=>?_) ht
 subst ex
 obtain rfl:u=Value.ref a:=rx
 exact zbC I1 ea c k l (q s1 I1)
end
section
variable {X:Cx}{pins:List (Addr×Obj)}{σ:St}{H:Hp}{s:Shared}{A:Around}{E:Value→Shared→Prop}{Q:Value→Shared→Prop}{c:Value}{b:Bool}
end
structure Room (k:Nat) (A:Around):Prop where
 hd:A.handled=none
 dp:A.depth+3*k+5<recursionLimit
 un:A.units+16*k+200<cLine
theorem Room.mono {j k:Nat}{A:Around}(r:Room k A) (h:j≤k):Room j A:=⟨r.hd,by have:=r.dp;omega,by have:=r.un;omega⟩
theorem Room.deeper {k:Nat}{A:Around}(r:Room (k+1) A) (env:Env):Room k (A.deeper env):=
 ⟨r.hd,by have:=r.dp;show A.depth+1+3*k+5<_;omega,by have:=r.un;show A.units+3+16*k+200<_;omega⟩
theorem Room.in1 {k:Nat}{A:Around}(r:Room (k+1) A):Room k A.in1:=
 ⟨r.hd,by have:=r.dp;show A.depth+3*k+5<_;omega,by have:=r.un;show A.units+1+16*k+200<_;omega⟩
theorem zgv {A:Around}{C:Addr}{us:List Value}{kw:List (Str×Value)}:(A.under (.builtin "type.__call__" ⟨.ref C::us,kw⟩)).depth=A.depth+1:=by
 first|rfl|simp[Around.under,Code.weight,Code.isCreation,Code.isGuard,Code.isCaller,Code.frames,Code.isFrame,guardIds]
theorem zgw {A:Around}{C:Addr}{us:List Value}{kw:List (Str×Value)}:(A.under (.builtin "type.__call__" ⟨.ref C::us,kw⟩)).units=A.units+1:=by
 first|rfl|simp[Around.under,Code.cUnits,Code.frames,Code.isFrame]
theorem Room.make {k:Nat}{A:Around}(r:Room (k+1) A) (C:Addr) (us:List Value) (kw:List (Str×Value)):Room k (A.under (.builtin "type.__call__" ⟨.ref C::us,kw⟩)):=
 ⟨r.hd,by have:=r.dp;rw[zgv];omega,by have:=r.un;rw[zgw];omega⟩
theorem Room.depth {k:Nat}{A:Around}(r:Room k A):A.depth<recursionLimit:=by have:=r.dp;omega
theorem Room.units0 {k:Nat}{A:Around}(r:Room k A):A.units<cLine:=by have:=r.un;omega
def tNil:TA:=fun _ H Q=>Q [] H
def tCons (ta:TE) (tr:TA):TA:=fun σ H Q=>ta σ H fun x H1=>tr σ H1 fun xs H2=>Q (x::xs) H2
section
variable {X:Cx}{e:Expr}{es:List Expr}{te:TE}{t:TA}{pos:Pos}
theorem zae:PA X [] tNil:=fun _ _ _ _ H Q I h=>Calls.spliced_nil ⟨[],H,I,.nil,h⟩
theorem zaa (ha:PE X e te) (hr:PA X es t) (hs:starEach (e::es) X.env=(false,eval e X.env)::starEach es X.env:=by rfl):PA X (e::es) (tCons te t):=by
 intro pos pins s σ H Q I h
 rw[hs]
 show wpAny _ _ (spliced ((false,eval e X.env)::backTo pos (starEach es X.env))) _ _ s
 refine Calls.spliced_cons (thn (ha pins s σ H _ I h) fun u s1 ⟨x,H1,I1,r1,q1⟩=>?_)
 exact thn (hr pos pins s1 σ H1 _ I1 q1) fun us s2 ⟨xs,H2,I2,r2,q2⟩=>⟨x::xs,H2,I2,.cons r1 r2,q2⟩
def tTup (t:TA):TE:=fun σ H Q=>t σ H fun xs H1=>xs.length≤sizeLine∧∀p,H1 p=none→Q (.ref p) (upd H1 p (.tup xs))
def tLst (t:TA):TE:=fun σ H Q=>t σ H fun xs H1=>xs.length≤sizeLine∧∀p,H1 p=none→Q (.ref p) (upd H1 p (.lst xs))
theorem za2 {x1}(h:PA X es t):PE X (.Tuple es x1 pos) (tTup t):=by
 intro pins s σ H Q I hq
 refine wpAny_Tuple_spliced (thn (h pos pins s σ H _ I hq) fun us s1 ⟨xs,H1,I1,r,z,q⟩=>⟨by rw[←r.length];exact z,?_⟩)
 have hf:H1 s1.heap.objs.size=none:=I1.hok.fresh (Nat.le_refl _)
 refine ⟨.ref s1.heap.objs.size,upd H1 s1.heap.objs.size (.tup xs),I1.laid (t':=s1.toks) (fun b u e=>Heap.get?_push_of_some _ e) (Nat.le_refl _) ?_,rfl,q _ hf⟩
 exact ⟨z,us,r,⟨_,Heap.get?_push_size _ rfl,rfl,_,rfl⟩⟩
theorem zaF (h:PA X es t):PE X (.List es pos) (tLst t):=by
 intro pins s σ H Q I hq
 refine wpAny_List_spliced (thn (h pos pins s σ H _ I hq) fun us s1 ⟨xs,H1,I1,r,z,q⟩=>⟨by rw[←r.length];exact z,?_⟩)
 have hf:H1 s1.heap.objs.size=none:=I1.hok.fresh (Nat.le_refl _)
 refine ⟨.ref s1.heap.objs.size,upd H1 s1.heap.objs.size (.lst xs),I1.laid (t':=s1.toks) (fun b u e=>Heap.get?_push_of_some _ e) (Nat.le_refl _) ?_,rfl,q _ hf⟩
 exact ⟨z,us,0,r,Heap.get?_push_size _ rfl⟩
end
abbrev Sp:=List V→Hp→VK→XK→Prop
abbrev CXT:=List Env→Hp→Shared→XK→Value→Shared→Prop
structure Env0 (P:Program) (w:World) (K:W.Frag) (mg:Str→Option Value) (base:Heap) (A:Around) (outer:List Env) (s:Shared) (H:Hp):Prop where
 frames:A.frames=some outer
 mod:Mod K mg base
 bs:∀b o,base.get? b=some o→s.heap.get? b=some o∧H b=none
 bsz:base.objs.size≤s.heap.objs.size
 funs:s.heap.FunFrames base outer
 frf:∀b∈frs outer,H b=none
 hok:HOk P w H s.heap
 bare:AllBare s.gens
def CE (outer:List Env) (P:Program) (w:World) (H:Hp) (s:Shared) (Q:VK) (u:Value) (s':Shared):Prop:=
 ∃v H',s'.os=s.os∧AllBare s'.gens∧Un (frs outer) [] H H' s.heap s'.heap∧HOk P w H' s'.heap∧RelV v u∧Q v H'
def CR (CX:CXT) (outer:List Env) (P:Program) (w:World) (H:Hp) (s:Shared) (Q:VK) (E:XK) (r:Result) (s':Shared):Prop:=
 match r with
 |.ok (.ret u)=>CE outer P w H s Q u s'
 |.ok _=>False
 |.error e=>CX outer H s E e s'
structure FnOk (P:Program) (w:World) (K:W.Frag) (mg:Str→Option Value) (base:Heap) (CX:CXT) (k:Nat) (f:Addr) (fd:FuncData) (ps:List Str) (sp:Sp):Prop where
 len:∀vs H Q E,sp vs H Q E→vs.length=ps.length
 run:∀(A:Around) (outer:List Env) (s:Shared) (H:Hp) (args:Args) (us:List Value) (vs:List V) (Q:VK) (E:XK),Room k A→Env0 P w K mg base A outer s H→BindsTo s fd args (ps.zip us)→Vals vs us→sp vs H Q E →
  codeAny (model P w) A (.call (.ref f) args) (CR CX outer P w H s Q E) s
theorem FnOk.mono {P:Program}{w:World}{K:W.Frag}{mg:Str→Option Value}{base:Heap}{CX:CXT}{j k:Nat}{f:Addr}{fd:FuncData}{ps:List Str}{sp:Sp}(F:FnOk P w K mg base CX j f fd ps sp) (h:j≤k) :
  FnOk P w K mg base CX k f fd ps sp:=⟨F.len,fun A outer s H args us vs Q E hr=>F.run A outer s H args us vs Q E (hr.mono h)⟩
theorem Env0.make {P:Program}{w:World}{K:W.Frag}{mg:Str→Option Value}{base:Heap}{A:Around}{outer:List Env}{s:Shared}{H:Hp}(e:Env0 P w K mg base A outer s H) (C:Addr) (us:List Value) (kw:List (Str×Value)) :
  Env0 P w K mg base (A.under (.builtin "type.__call__" ⟨.ref C::us,kw⟩)) outer s H:=⟨by first|exact e.frames|(simpa [Around.under,Code.envs,Code.isFrame,pushEnvs] using e.frames),e.mod,e.bs,e.bsz,e.funs,e.frf,e.hok,e.bare⟩
section
variable {X:Cx}{pins:List (Addr×Obj)}{σ:St}{H:Hp}{s s':Shared}
theorem Inv.env0 (I:Inv X pins σ H s):Env0 X.prog X.w X.K X.mg X.base X.A X.stack s H:=
 ⟨I.ok.frames,I.ok.mod,I.bs,Nat.le_trans I.ok.bsz I.sz,I.stack,I.stkFree,I.hok,I.bare⟩
theorem Inv.after {Q:VK}{u:Value}(I:Inv X pins σ H s) (h:CE X.stack X.prog X.w H s Q u s'):EP X pins σ Q u s':=by
 obtain ⟨v,H',os,bare,un,hok,r,q⟩:=h
 obtain ⟨hh,g,d,t,os'⟩:=s'
 obtain rfl:os'=s.os:=os
 exact ⟨v,H',I.call (h':=hh) (g':=g) (d':=d) (t':=t) (ch:=[]) un hok bare (fun b z=>absurd z (by simp)),r,q⟩
end
def tCall (sp:Sp) (dvs:List V) (E:XK) (t:TA):TE:=fun σ H Q=>t σ H fun vs H1=>sp (vs++dvs) H1 Q E
def tMeth (C:Addr) (m:Str) (sp:Sp) (dvs:List V) (E:XK) (ta:TE) (t:TA):TE:=fun σ H Q=>ta σ H fun x H1=>∃a dx fs,x=.ref a∧H1 a=some (.ins C dx fs)∧fs.lookup m=none ∧
 t σ H1 fun vs H2=>sp (x::(vs++dvs)) H2 Q E
def tMake (C:Addr) (sp:Sp) (dvs:List V) (E:XK) (t:TA):TE:=fun σ H Q=>t σ H fun vs H1=>∀x dx,H1 x=none→H1 dx=none→dx≠x →
 sp (.ref x::(vs++dvs)) (upd (upd H1 dx (.own x)) x (.ins C dx [])) (fun v H2=>v=.non∧Q (.ref x) H2) E
def Binds (K:W.Frag) (fd:FuncData) (ps:List Str) (ds:List Value):Prop:=
 ∀(s:Shared) (us:List Value),K.In s.heap→(us++ds).length=ps.length→BindsTo s fd ⟨us,[]⟩ (ps.zip (us++ds))
theorem Binds.all {K:W.Frag}{fd:FuncData}{ps:List Str}(h:∀us:List Value,us.length=ps.length→bindArgs fd ⟨us,[]⟩=pure (ps.zip us)):Binds K fd ps []:=fun s us _ hl=>by
 rw[List.append_nil] at hl ⊢
 exact .of_eq (h us hl)
def zc2 (CX:CXT) (X:Cx) (E:XK):Prop:=∀(pins:List (Addr×Obj)) (σ:St) (H:Hp) (s:Shared) (e:Value) (s':Shared),Inv X pins σ H s→CX X.stack H s E e s'→X.xe e s'
section
variable {X:Cx}{CX:CXT}{k:Nat}{f C:Addr}{fd:FuncData}{ps:List Str}{sp:Sp}{dvs:List V}{ds:List Value}{E:XK}{x m:Str}{p pos apos:Pos}{e o:Expr}{es:List Expr}{ta:TE}{t:TA}
theorem zg5 {pins:List (Addr×Obj)}{σ:St}{H:Hp}{s:Shared}{Q:VK}{us:List Value}{vs:List V}(F:FnOk X.prog X.w X.K X.mg X.base CX k f fd ps sp) (hr:Room k X.A) (hb:Binds X.K fd ps ds) (hd:Vals dvs ds) (hx:zc2 CX X E)
  (I:Inv X pins σ H s) (r:Vals vs us) (h:sp (vs++dvs) H Q E):wpAny (model X.prog X.w) X.A (call (.ref f) us) (EP X pins σ Q) X.xe s:=by
 have r2:Vals (vs++dvs) (us++ds):=r.append hd
 have hl:(us++ds).length=ps.length:=by rw[←r2.length];exact F.len _ _ _ _ h
 refine wpAny_call (codeAny_mono (F.run X.A X.stack s H ⟨us,[]⟩ (us++ds) (vs++dvs) Q E hr I.env0 (hb s us I.kIn hl) r2 h) fun r s' hq=>?_)
 cases r with
 |error e=>exact hx pins σ H s e s' I hq
 |ok fl=>
  cases fl with
  |ret u=>exact I.after hq
  |next=>exact False.elim hq
  |brk=>exact False.elim hq
  |cont=>exact False.elim hq
theorem zas (F:FnOk X.prog X.w X.K X.mg X.base CX k f fd ps sp) (hr:Room k X.A) (hg:Gl X x) (hm:X.mg x=some (.ref f)) (hk:W.keepIn X.K (.ref f)=true) (hb:Binds X.K fd ps ds) (hd:Vals dvs ds) (hx:zc2 CX X E)
  (ha:PA X (e::es) t) (hdb:(x==("__debug__":Str))=false:=by decide) (he:starEach (e::es) X.env=(false,eval e X.env)::starEach es X.env:=by rfl) (hpl:(backTo pos (starEach es X.env)).any (·.1)=false:=by rfl) :
  PE X (.Call (.Name x p) (e::es) [] pos) (tCall sp dvs E t):=by
 intro pins s σ H Q I h
 refine wpAny_Call_Name_kw (zci I hg hm ?_ hdb)
 refine W.callWith_K (h₀:=X.base) I.ok.mod.kin hk (thn (ha pos pins s σ H _ I h) fun us s1 ⟨vs,H1,I1,r,q⟩=>⟨I1.kIn,?_⟩) he hpl
 exact zg5 F hr hb hd hx I1 r q
theorem zaZ {pl:Sem Bool}(he:PE X o ta) (c:Cls X.K C) (hm:Meth X.K C m f) (F:FnOk X.prog X.w X.K X.mg X.base CX k f fd ps sp) (hr:Room k X.A) (hb:Binds X.K fd ps ds) (hd:Vals dvs ds) (hx:zc2 CX X E) (ha:PA X (e::es) t)
  (hst:starEach (e::es) X.env=(false,eval e X.env)::starEach es X.env:=by rfl) (hpl:(backTo pos (starEach es X.env)).any (·.1)=false:=by rfl)
  (ht:eval (.Call (.Attribute o m apos) (e::es) [] pos) X.env=(do
   let ov ← eval o X.env
   standAt apos.atName
   let (f,first) ← holding [ov] (getMethod ov m pl)
   callWith pos f first (backTo pos (starEach (e::es) X.env)) (backToKw pos (keywordEach [] X.env))):=by rfl) :
  PE X (.Call (.Attribute o m apos) (e::es) [] pos) (tMeth C m sp dvs E ta t):=by
 intro pins s σ H Q I h
 refine W.methodCall_KW (pl:=pl) (thn (he pins s σ H _ I h) fun u s1 ⟨x,H1,I1,rx,a,dx,fs,ex,ea,l,q⟩=>?_) ht
 subst ex
 obtain rfl:u=Value.ref a:=rx
 refine zbC I1 ea c hm l ?_
 refine W.callWith_K (first:=[.ref a]) (h₀:=X.base) I.ok.mod.kin hm.kp (thn (ha pos pins s1 σ H1 _ I1 q) fun us s2 ⟨vs,H2,I2,r,q2⟩=>⟨I2.kIn,?_⟩) hst hpl
 exact zg5 (us:=.ref a::us) (vs:=.ref a::vs) F hr hb hd hx I2 (.cons rfl r) q2
theorem zc7 {pl:Sem Bool}(he:PE X o ta) (c:Cls X.K C) (hm:Meth X.K C m f) (F:FnOk X.prog X.w X.K X.mg X.base CX k f fd ps sp) (hr:Room k X.A) (hb:Binds X.K fd ps ds) (hd:Vals dvs ds) (hx:zc2 CX X E)
  (ht:eval (.Call (.Attribute o m apos) [] [] pos) X.env=(do
   let ov ← eval o X.env
   standAt apos.atName
   let (f,first) ← holding [ov] (getMethod ov m pl)
   callWith pos f first (backTo pos (starEach [] X.env)) (backToKw pos (keywordEach [] X.env))):=by rfl) :
  PE X (.Call (.Attribute o m apos) [] [] pos) (tMeth C m sp dvs E ta tNil):=by
 intro pins s σ H Q I h
 refine W.methodCall_KW (pl:=pl) (thn (he pins s σ H _ I h) fun u s1 ⟨x,H1,I1,rx,a,dx,fs,ex,ea,l,q⟩=>?_) ht
 subst ex
 obtain rfl:u=Value.ref a:=rx
 refine zbC I1 ea c hm l ?_
 exact W.callWith_K0 (first:=[.ref a]) I1.kIn hm.kp (zg5 (us:=[.ref a]) (vs:=[.ref a]) F hr hb hd hx I1 (.cons rfl .nil) q)
structure Mk (K:W.Frag) (C f:Addr):Prop where
 makes:W.makesIn K C=true
 init:W.findIn K (.ref C) "__init__"=some (some (.ref f))
 fn:W.isFn K (.ref f)=true
 kp:W.keepIn K (.ref C)=true
theorem zfX {pins:List (Addr×Obj)}{σ:St}{H:Hp}{s:Shared}{Q:VK}{us:List Value}{vs:List V}(M:Mk X.K C f) (F:FnOk X.prog X.w X.K X.mg X.base CX k f fd ps sp) (hr:Room (k+1) X.A) (hb:Binds X.K fd ps ds) (hd:Vals dvs ds)
  (hx:zc2 CX X E) (I:Inv X pins σ H s) (r:Vals vs us)
  (h:∀x dx,H x=none→H dx=none→dx≠x→sp (.ref x::(vs++dvs)) (upd (upd H dx (.own x)) x (.ins C dx [])) (fun v H2=>v=.non∧Q (.ref x) H2) E) :
  wpAny (model X.prog X.w) X.A (call (.ref C) us) (EP X pins σ Q) X.xe s:=by
 have hq:=h (s.heap.objs.size+1) s.heap.objs.size (I.hok.fresh (Nat.le_succ _)) (I.hok.fresh (Nat.le_refl _)) (Nat.ne_of_lt (Nat.lt_succ_self _))
 have I2:=Inv.made (C:=C) I
 have r2:Vals (V.ref (s.heap.objs.size+1)::(vs++dvs)) (Value.ref (s.heap.objs.size+1)::(us++ds)):=.cons rfl (r.append hd)
 have hl:(Value.ref (s.heap.objs.size+1)::us++ds).length=ps.length:=by
  have e:=r2.length
  rw[F.len _ _ _ _ hq] at e
  exact e.symm
 refine wpAny_call (ziD (f:=f) I.kIn M.makes M.init (beq_iff_eq.mp M.fn) (codeAny_mono (F.run _ X.stack _ _ ⟨Value.ref (s.heap.objs.size+1)::us,[]⟩ (Value.ref (s.heap.objs.size+1)::(us++ds)) _ _ E (hr.make C us [])
  (I2.env0.make C us []) (hb _ (Value.ref (s.heap.objs.size+1)::us) I2.kIn hl) r2 hq) fun r s' hq'=>?_))
 cases r with
 |error e=>exact hx pins σ _ _ e s' I2 hq'
 |ok fl=>
  cases fl with
  |ret u=>
   obtain ⟨v,H',I3,rv,ev,q3⟩:=I2.after hq'
   subst ev
   exact ⟨rv,⟨V.ref (s.heap.objs.size+1),H',I3,rfl,q3⟩⟩
  |next=>exact False.elim hq'
  |brk=>exact False.elim hq'
  |cont=>exact False.elim hq'
theorem zj4 (M:Mk X.K C f) (F:FnOk X.prog X.w X.K X.mg X.base CX k f fd ps sp) (hr:Room (k+1) X.A) (hg:Gl X x) (hm:X.mg x=some (.ref C)) (hb:Binds X.K fd ps ds) (hd:Vals dvs ds) (hx:zc2 CX X E)
  (ha:PA X (e::es) t) (hdb:(x==("__debug__":Str))=false:=by decide) (he:starEach (e::es) X.env=(false,eval e X.env)::starEach es X.env:=by rfl) (hpl:(backTo pos (starEach es X.env)).any (·.1)=false:=by rfl) :
  PE X (.Call (.Name x p) (e::es) [] pos) (tMake C sp dvs E t):=by
 intro pins s σ H Q I h
 refine wpAny_Call_Name_kw (zci I hg hm ?_ hdb)
 refine W.callWith_K (h₀:=X.base) I.ok.mod.kin M.kp (thn (ha pos pins s σ H _ I h) fun us s1 ⟨vs,H1,I1,r,q⟩=>⟨I1.kIn,?_⟩) he hpl
 exact zfX M F hr hb hd hx I1 r q
theorem ziE (M:Mk X.K C f) (F:FnOk X.prog X.w X.K X.mg X.base CX k f fd ps sp) (hr:Room (k+1) X.A) (hg:Gl X x) (hm:X.mg x=some (.ref C)) (hb:Binds X.K fd ps ds) (hd:Vals dvs ds) (hx:zc2 CX X E)
  (hdb:(x==("__debug__":Str))=false:=by decide):PE X (.Call (.Name x p) [] [] pos) (tMake C sp dvs E tNil):=by
 intro pins s σ H Q I h
 refine wpAny_Call_Name_kw (zci I hg hm ?_ hdb)
 exact W.callWith_K0 I.kIn M.kp (zfX (us:=[]) M F hr hb hd hx I .nil h)
end
section
variable {X:Cx}{CX:CXT}{k:Nat}{f C:Addr}{fd:FuncData}{ps ks:List Str}{sp:Sp}{E:XK}{x m:Str}{p pos apos kpos:Pos}{e o:Expr}{es:List Expr}{kws:List Keyword}{te ta:TE}{t tk:TA}{nm:Option Str}
variable {g:List Value→List Value→List Value}{gV:List V→List V→List V}
end
structure zav (N P:List Str) (sc:Scope):Prop where
 kind:sc.kind=.function
 co:sc.isCoroutine=false
 gen:sc.isGenerator=false
 nd:N.Nodup
 pre:N.take P.length=P
 par:∀x∈P,sc.names.lookup x=some .local∨sc.names.lookup x=some .cell
 nofree:∀y∈sc.names,y.2≠.free
theorem zeV {kindOf:Str→Option NameKind}{x:Str}:∀ {binds:List (Str×Value)}{m:Str→Option Value},(∀v,(x,v)∉binds)→bindL kindOf binds m x=m x
 |[],_,_=>rfl
 |(n,v)::r,m,h=>by
  unfold bindL
  rw[zeV fun w hw=>h w (List.mem_cons_of_mem _ hw)]
  split
  ·have:x≠n:=by rintro rfl;exact h v List.mem_cons_self
   simp[this]
  ·rfl
theorem zeW {kindOf:Str→Option NameKind}{x:Str}:∀ {binds:List (Str×Value)}{m:Str→Option Value},(∀v,(x,v)∉binds)→bindC kindOf binds m x=m x
 |[],_,_=>rfl
 |(n,v)::r,m,h=>by
  unfold bindC
  rw[zeW fun w hw=>h w (List.mem_cons_of_mem _ hw)]
  split
  ·rfl
  ·have:x≠n:=by rintro rfl;exact h v List.mem_cons_self
   simp[this]
theorem zeX {kindOf:Str→Option NameKind}{x:Str}{v:Value}:∀ {P:List Str}{vs:List Value}{i:Nat}{m:Str→Option Value},P.Nodup→P[i]?=some x→vs[i]?=some v→kindOf x=some .local →
  bindL kindOf (P.zip vs) m x=some v
 |[],_,_,_,_,h,_,_=>by simp at h
 |_::_,[],_,_,_,_,h,_=>by simp at h
 |p::P,w::vs,0,m,nd,h1,h2,hk=>by
  simp at h1 h2;subst h1;subst h2
  show bindL kindOf ((p,w)::P.zip vs) m p=_
  unfold bindL
  rw[zeV fun v hv=>(List.nodup_cons.mp nd).1 (List.of_mem_zip hv).1,if_pos hk]
  simp
 |p::P,w::vs,i+1,m,nd,h1,h2,hk=>by
  show bindL kindOf ((p,w)::P.zip vs) m x=_
  unfold bindL
  exact zeX (i:=i) (List.nodup_cons.mp nd).2 (by simpa using h1) (by simpa using h2) hk
theorem zeY {kindOf:Str→Option NameKind}{x:Str}{v:Value}:∀ {P:List Str}{vs:List Value}{i:Nat}{m:Str→Option Value},P.Nodup→P[i]?=some x→vs[i]?=some v→kindOf x≠some .local →
  bindC kindOf (P.zip vs) m x=some v
 |[],_,_,_,_,h,_,_=>by simp at h
 |_::_,[],_,_,_,_,h,_=>by simp at h
 |p::P,w::vs,0,m,nd,h1,h2,hk=>by
  simp at h1 h2;subst h1;subst h2
  show bindC kindOf ((p,w)::P.zip vs) m p=_
  unfold bindC
  rw[zeW fun v hv=>(List.nodup_cons.mp nd).1 (List.of_mem_zip hv).1,if_neg hk]
  simp
 |p::P,w::vs,i+1,m,nd,h1,h2,hk=>by
  show bindC kindOf ((p,w)::P.zip vs) m x=_
  unfold bindC
  exact zeY (i:=i) (List.nodup_cons.mp nd).2 (by simpa using h1) (by simpa using h2) hk
def start (N:List Str) (vs:List V):St:=vs.map some++List.replicate (N.length-vs.length) none
def cxOf (CX:CXT) (P:Program) (w:World) (K:W.Frag) (mg:Str→Option Value) (base:Heap) (N:List Str) (qual:Str) (scope:Scope) (f:Addr) (cd:Value) (A:Around) (outer:List Env) (s:Shared) (H:Hp) (E:XK):Cx where
 prog:=P
 w:=w
 K:=K
 mg:=mg
 base:=base
 A:=A.deeper (envOfC qual scope s.heap.objs.size f cd)
 N:=N
 s₀:=s
 H₀:=H
 env:=envOfC qual scope s.heap.objs.size f cd
 outer:=outer
 stack:=envOfC qual scope s.heap.objs.size f cd::outer
 ex:=[]
 calm:=true
 fn:=fun _=>true
 pn:=[]
 xe:=fun e s'=>wpAny (model P w) (A.deeper (envOfC qual scope s.heap.objs.size f cd)) (leaving (envOfC qual scope s.heap.objs.size f cd) e) (fun _ s''=>CX outer H s E e s'') (fun e' s''=>CX outer H s E e' s'') s'
theorem zfY {sc:Scope}{n:Nat}{x:Str}(h:sc.names.lookup x=some .cell):∃c,(cellsFrom n sc.names []).lookup x=some c:=by
 have q:=W.cellsFrom_some sc.names n [] (.inl h)
 exact Option.isSome_iff_exists.mp q
theorem zeZ {CX:CXT}{P:Program}{w:World}{K:W.Frag}{mg:Str→Option Value}{base:Heap}{N ps:List Str}{qual:Str}{scope:Scope}{f:Addr}{cd:Value}{A:Around}{outer:List Env}{s s1:Shared}{H:Hp}{E:XK}{us:List Value}{vs:List V}
  (S:zav N ps scope) (hd:A.handled=none) (e0:Env0 P w K mg base A outer s H) (hl:vs.length=ps.length) (r:Vals vs us)
  (x:InCallC s s.heap.objs.size (bindL (envOfC qual scope s.heap.objs.size f cd).kindOf (ps.zip us) fun _=>none) (cellsFrom (s.heap.objs.size+1) scope.names []) (bindC (envOfC qual scope s.heap.objs.size f cd).kindOf (ps.zip us) fun _=>none) s1) :
  Inv (cxOf CX P w K mg base N qual scope f cd A outer s H E) [] (start N vs) H s1:=by
 have hpl:ps.length≤N.length:=by have:=congrArg List.length S.pre;rw[List.length_take] at this;omega
 obtain ⟨h1,tk,rfl,hk⟩:=x.done
 have noA:∀b:Addr,b∉(cxOf CX P w K mg base N qual scope f cd A outer s H E).ex:=fun b z=>absurd (show b∈([]:List Addr) from z) (by simp)
 refine ⟨⟨e0.mod,S.kind,rfl,rfl,Nat.le_refl _,fun y z c h1 h2=>?_,fun y hy=>?_,fun y c _ h=>?_,fun _=>hd,Around.frames_deeper e0.frames,.inr ⟨rfl,rfl⟩,fun b z=>absurd z (noA b),e0.bs,e0.bsz,fun b _ _=>noA b,fun b z=>absurd z (noA b),e0.funs,e0.frf⟩,
  rfl,e0.bare,Un.kept hk,⟨_,x.toInCall.ns,fun i y v h1 h2 h3=>?_⟩,fun y c h=>⟨_,x.cell y c h⟩,e0.hok.fresh (Nat.le_refl _),fun y c h=>?_,fun p hp=>absurd (show p∈([]:List (Addr×Obj)) from hp) (by simp),e0.hok.kept hk,?_⟩
 ·exact name_of_addr x.apart (PySem.mem_of_lookup h1) (PySem.mem_of_lookup h2)
 ·have hy:scope.names.lookup y=some .cell∨scope.names.lookup y=some .free:=hy
  rcases hy with hy|hy
  ·exact zfY hy
  ·exact absurd rfl (S.nofree _ (PySem.mem_of_lookup hy))
 ·exact Nat.le_of_lt (x.above y c (PySem.mem_of_lookup h))
 ·have hi:i<vs.length:=by
   unfold start at h2
   by_cases hi:i<vs.length
   ·exact hi
   ·rw[List.getElem?_append_right (by simpa using hi)] at h2
    rw[List.getElem?_replicate] at h2
    split at h2<;>cases h2
  have ha:vs[i]?=some v:=by
   unfold start at h2
   rw[List.getElem?_append_left (by simpa using hi),List.getElem?_map] at h2
   cases e:vs[i]? with
   |none=>rw[e] at h2;cases h2
   |some a=>rw[e] at h2;cases h2;rfl
  obtain ⟨u,hu,rv⟩:=r.get ha
  have hp:ps[i]?=some y:=by
   rw[←S.pre,List.getElem?_take_of_lt (by omega)];exact h1
  have ndP:ps.Nodup:=by rw[←S.pre];exact S.nd.sublist (List.take_sublist _ _)
  refine ⟨u,rv,?_⟩
  rcases S.par y (List.mem_of_getElem? hp) with k|k
  ·exact .inl ⟨k,zeX ndP hp hu k⟩
  ·obtain ⟨c,e⟩:=zfY (n:=s.heap.objs.size+1) k
   refine .inr ⟨.inl k,c,e,?_⟩
   have q:=x.cell y c e
   rw[zeY ndP hp hu (by show scope.names.lookup y≠_;rw[k];decide)] at q
   exact q
 ·exact e0.hok.fresh (Nat.le_of_lt (x.above y c (PySem.mem_of_lookup h)))
 ·unfold start
  show _=N.length
  rw[List.length_append,List.length_map,List.length_replicate]
  omega
theorem zj5 {CX:CXT}{P:Program}{w:World}{K:W.Frag}{mg:Str→Option Value}{base:Heap}{k:Nat}{f:Addr}{name qual:Str}{params:Arguments}{body:List Stmt}{scope:Scope}{dV kV doc pm cdv ct oc:Value}{an od:Option Addr}
  {osl:Array (Option Value)} {N ps:List Str} {sp:Sp} (lk:K.lookup f=some ⟨oc,od,.func (W.fnOf name qual params body scope dV kV doc pm an cdv ct),osl⟩) (hcd:W.codeIn K cdv qual=true) (S:zav N ps scope)
  (len:∀vs H Q E,sp vs H Q E→vs.length=ps.length)
  (hbody:∀(A:Around) (outer:List Env) (s:Shared) (H:Hp) (vs:List V) (Q:VK) (E:XK),Room k (A.deeper (envOfC qual scope s.heap.objs.size f cdv))→sp vs H Q E →
   ∃t,PSs (cxOf CX P w K mg base N qual scope f cdv A outer s H E) body t∧t { nx:=fun _ H'=>Q .non H',rt:=Q } (start N vs) H) :
  FnOk P w K mg base CX (k+1) f (W.fnOf name qual params body scope dV kV doc pm an cdv ct) ps sp:=by
 refine ⟨len,fun A outer s H args us vs Q E hr e0 hb r hsp=>?_⟩
 have hl:=len _ _ _ _ hsp
 have KX:K.In s.heap:=e0.mod.kin.keeps fun b o e=>(e0.bs b o e).1
 have lim:s.heap.NoLimit:=e0.mod.nolimit.keeps fun b o e=>(e0.bs b o e).1
 have hkind:∀y∈ps.zip us,scope.names.lookup y.1=some .local∨(scope.names.lookup y.1=some .cell∧((cellsFrom (s.heap.objs.size+1) scope.names []).lookup y.1).isSome=true):=fun ⟨n,v⟩ hy=>by
  rcases S.par n (List.of_mem_zip hy).1 with q|q
  ·exact .inl q
  ·exact .inr ⟨q,W.cellsFrom_some _ _ _ (.inl q)⟩
 refine codeAny_call_function hr.depth (KX _ _ lk) rfl S.co S.gen rfl (W.codeRec_of KX hcd) (hb _ _ _ _ ?_)
 refine wpAny_newFunctionEnv_cells S.kind hkind fun env he s1 x=>?_
 subst he
 refine ⟨lim.keeps x.toInCall.keep,codeAny_func ?_⟩
 obtain ⟨t,ht,hq⟩:=hbody A outer s H vs Q E (hr.deeper _) hsp
 have I:Inv (cxOf CX P w K mg base N qual scope f cdv A outer s H E) [] (start N vs) H s1:=zeZ S hr.hd e0 hl r x
 refine wpAny_mono (ht [] s1 (start N vs) H _ I hq) (fun fl s' hs=>?_) fun e s' hs=>hs
 have fin:∀ {σ':St} {H':Hp} {v:V} {u:Value},Inv (cxOf CX P w K mg base N qual scope f cdv A outer s H E) [] σ' H' s'→RelV v u→Q v H'→CE outer P w H s Q u s':=
  fun {σ' H' v u} J rv q=>⟨v,H',J.os,J.bare,J.base,J.hok,rv,q⟩
 cases fl with
 |ret u=>
  obtain ⟨v,σ',H',J,rv,q⟩:=hs
  exact fin J rv q
 |next=>
  obtain ⟨σ',H',J,q⟩:=hs
  exact fin (v:=V.non) (u:=Value.none) J rfl q
 |brk=>
  obtain ⟨_,_,_,q⟩:=hs
  exact False.elim q
 |cont=>
  obtain ⟨_,_,_,q⟩:=hs
  exact False.elim q
section
variable {X:Cx}{x:Str}{p pos:Pos}{e:Expr}{es:List Expr}{t:TA}{id T:String}{r:List V→Hp→VK→Prop}
def tCB (r:List V→Hp→VK→Prop) (t:TA):TE:=fun σ H Q=>t σ H fun vs H1=>r vs H1 Q
theorem zaq (hc:CallR X (.builtin id) r) (hg:Gl X x) (hm:X.mg x=none) (hv:bootBuiltins x=some (.builtin id)) (ha:PA X (e::es) t) (hn:x≠"__name__":=by decide) (hdb:(x==("__debug__":Str))=false:=by decide)
  (he:starEach (e::es) X.env=(false,eval e X.env)::starEach es X.env:=by rfl) (hpl:(backTo pos (starEach es X.env)).any (·.1)=false:=by rfl):PE X (.Call (.Name x p) (e::es) [] pos) (tCB r t):=by
 intro pins s σ H Q I h
 refine wpAny_Call_Name_kw (zc0 I hg hm hv ?_ hn hdb)
 exact PyProof.Rows.callWith_builtin1 (thn (ha pos pins s σ H _ I h) fun us s1 ⟨vs,H1,I1,r1,q1⟩=>hc pins s1 σ H1 vs us Q I1 r1 q1) he hpl
theorem zbD (hc:CallR X (.type T) r) (hg:Gl X x) (hm:X.mg x=none) (hv:bootBuiltins x=some (.type T)) (ha:PA X (e::es) t) (hn:x≠"__name__":=by decide) (hdb:(x==("__debug__":Str))=false:=by decide)
  (he:starEach (e::es) X.env=(false,eval e X.env)::starEach es X.env:=by rfl) (hpl:(backTo pos (starEach es X.env)).any (·.1)=false:=by rfl):PE X (.Call (.Name x p) (e::es) [] pos) (tCB r t):=by
 intro pins s σ H Q I h
 refine wpAny_Call_Name_kw (zc0 I hg hm hv ?_ hn hdb)
 exact PyProof.Rows.callWith_type1 (thn (ha pos pins s σ H _ I h) fun us s1 ⟨vs,H1,I1,r1,q1⟩=>hc pins s1 σ H1 vs us Q I1 r1 q1) he hpl
end
end L2
namespace HT
open PySem PyProof.Rows
section
open PySem.SeqAt
open PySem.AutoSeq1 (wpAny_loadPart')
open PySem.MeetsSeq PySem.MeetsSeq2 PySem.MeetsSeq3
end
section
variable {prog:Program}{w:World}{A:Around}{E:Value→Shared→Prop}{s:Shared}
theorem cat_tup {t b:Addr}{vs ws:List Value}{Q:Value→Shared→Prop}(ht:IsTup s.heap t vs.toArray) (hb:IsTup s.heap b ws.toArray) (hv:vs≠[])
  (h1:ws=[]→Q (.ref t) s) (h2:ws≠[]→Q (.ref s.heap.objs.size) { s with heap:=s.heap.push { cls:=.type "tuple",data:=.seq (vs++ws).toArray } })
  (hsz:vs.length+ws.length≤sizeLine):wpAny (model prog w) A (binaryOp .Add (.ref t) (.ref b)) Q E s:=by
 obtain ⟨⟨cls,dd,data,sl⟩,ho,hc,n,hd⟩:=id ht
 obtain ⟨⟨cls2,dd2,data2,sl2⟩,ho2,hc2,n2,hd2⟩:=id hb
 simp only at hc hd hc2 hd2
 subst hc hd hc2 hd2
 have e:vs.toArray++ws.toArray=(vs++ws).toArray:=by simp
 by_cases hw:ws=[]
 ·exact concat_meets ⟨_,ho,rfl⟩ ⟨_,ho2,rfl⟩ noFill_tuple_add seq_tuple_add PySem.F.slot_tuple_add PySem.F.entry_tuple_add (PySem.F.args_tuple_add_2 _ _)
   (tuple_addW1 t b vs.toArray ws.toArray n n2 dd dd2 sl sl2 (by simpa using hv) (by simp[hw])) ⟨ho,ho2,h1 hw⟩
 ·refine concat_meets ⟨_,ho,rfl⟩ ⟨_,ho2,rfl⟩ noFill_tuple_add seq_tuple_add PySem.F.slot_tuple_add PySem.F.entry_tuple_add (PySem.F.args_tuple_add_2 _ _)
   (tuple_addW2 t b vs.toArray ws.toArray n n2 dd dd2 sl sl2 (by simpa using hv) (by simpa using hw) (by rw[List.size_toArray,List.size_toArray];exact hsz)) ⟨ho,ho2,?_⟩
  rw[e]
  exact h2 hw
def sIx (n d:Nat):Option Int→Nat
 |none=>d
 |some v=>if v<0 then (v+(n:Int)).toNat else min v.toNat n
theorem sIx_none (n d:Nat):sIx n d none=d:=rfl
theorem sIx_nat (n d k:Nat):sIx n d (some (k:Int))=min k n:=by
 show (if (k:Int)<0 then ((k:Int)+(n:Int)).toNat else min (k:Int).toNat n)=min k n
 rw[if_neg (by omega),Int.toNat_natCast]
theorem sIx_le (n d:Nat) (hd:d≤n) (o:Option Int):sIx n d o≤n:=by
 cases o with
 |none=>exact hd
 |some v=>
  show (if v<0 then (v+(n:Int)).toNat else min v.toNat n)≤n
  by_cases hv:v<0
  ·rw[if_pos hv];omega
  ·rw[if_neg hv];exact Nat.min_le_right _ _
end
end HT
namespace L2
open PySem PySem.Spec PyProof.Rows
abbrev TO:=St→Hp→(Option Int→Hp→Prop)→Prop
def PO (X:Cx) (e:Option Expr) (t:TO):Prop:=
 ∀(pins:List (Addr×Obj)) (s:Shared) (σ:St) (H:Hp) (Q:Option Int→Hp→Prop),Inv X pins σ H s→t σ H Q →
  wpAny (model X.prog X.w) X.A (evalPart e X.env) (fun u s'=>∃o H',Inv X pins σ H' s'∧IsPart u o∧Q o H') X.xe s
def zj6:TO:=fun _ H Q=>Q none H
def tPart (t:TE):TO:=fun σ H Q=>t σ H fun x H1=>∃i,x=.int i∧Q (some i) H1
section
variable {X:Cx}{e:Expr}{te:TE}{lo hi:Option Expr}{tl th:TO}{pos p2:Pos}
theorem zbo:PO X none zj6:=by
 intro pins s σ H Q I h
 rw[evalPart_none]
 exact wpAny_pure ⟨none,H,I,.none,h⟩
theorem zaS (h:PE X e te):PO X (some e) (tPart te):=by
 intro pins s σ H Q I hw
 rw[evalPart_some]
 refine thn (h pins s σ H _ I hw) fun u s1 ⟨x,H1,I1,r1,q1⟩=>?_
 obtain ⟨i,rfl,q⟩:=q1
 obtain ⟨t,rfl⟩:=r1
 exact ⟨some i,H1,I1,.int i t,q⟩
def SlR (X:Cx) (r:V→Option Int→Option Int→Hp→VK→Prop):Prop:=
 ∀(pins:List (Addr×Obj)) (s:Shared) (σ:St) (H:Hp) (x:V) (v vl vu:Value) (lo hi:Option Int) (sl:Addr) (Q:VK),Inv X pins σ H s→RelV x v→s.heap.IsSliceOf sl vl vu .none→IsPart vl lo→IsPart vu hi→r x lo hi H Q →
  ∃T id,typeLookup (.type T) "__getitem__"=pure (some (.builtin id))∧s.TypeIs v T∧wpAny (model X.prog X.w) X.A (getItem v (.ref sl)) (EP X pins σ Q) X.xe s
def tSl (r:V→Option Int→Option Int→Hp→VK→Prop) (te:TE) (tl th:TO):TE:=fun σ H Q=>te σ H fun x H1=>tl σ H1 fun l H2=>th σ H2 fun u H3=>r x l u H3 Q
theorem zaT {r:V→Option Int→Option Int→Hp→VK→Prop}(hr:SlR X r) (he:PE X e te) (hl:PO X lo tl) (hu:PO X hi th):PE X (.Subscript e (.Slice lo hi none p2) pos) (tSl r te tl th):=by
 intro pins s σ H Q I h
 refine Subscript_ (thn (he pins s σ H _ I h) fun v s1 ⟨x,H1,I1,r1,q1⟩=>?_)
 refine wpAny_Slice (thn (hl pins s1 σ H1 _ I1 q1) fun vl s2 ⟨l,H2,I2,pl,q2⟩=>thn (hu pins s2 σ H2 _ I2 q2) fun vu s3 ⟨u,H3,I3,pu,q3⟩=>?_)
 rw[evalPart_none]
 refine wpAny_pure ?_
 have I4:Inv X pins σ H3 { s3 with heap:=s3.heap.push { cls:=.type "slice",data:=.fields #[vl,vu,.none] } }:=I3.kept (t':=s3.toks) fun b ob q=>Heap.get?_push_of_some _ q
 obtain ⟨T,id,hT,ht,hg⟩:=hr pins { s3 with heap:=s3.heap.push { cls:=.type "slice",data:=.fields #[vl,vu,.none] } } σ H3 x v vl vu l u s3.heap.objs.size Q I4 r1 (Heap.IsSliceOf.new ..) pl pu q3
 show wpAny (model X.prog X.w) X.A (subscriptTail e (.Slice lo hi none p2) v (.ref s3.heap.objs.size)) (EP X pins σ Q) X.xe { s3 with heap:=s3.heap.push { cls:=.type "slice",data:=.fields #[vl,vu,.none] } }
 exact tail_any (ops:=[.ref s3.heap.objs.size,v]) ht hT hg (by with_unfolding_all rfl)
def cutV (xs:List V) (lo hi:Option Int):List V:=(xs.drop (HT.sIx xs.length 0 lo)).take (HT.sIx xs.length xs.length hi-HT.sIx xs.length 0 lo)
theorem zfy (xs:List V) (lo hi:Option Int):(cutV xs lo hi).length≤xs.length:=by
 unfold cutV
 rw[List.length_take,List.length_drop]
 omega
def rCatT (K:W.Frag):R2:=fun x y H Q=>∃a b xs ys,x=.ref a∧y=.ref b∧SqT K H a xs∧SqT K H b ys∧xs≠[]∧xs.length+ys.length≤sizeLine ∧
 (ys=[]→Q (.ref a) H)∧(ys≠[]→∀p,H p=none→Q (.ref p) (upd H p (.tup (xs++ys))))
theorem Vals.nil_iff {xs:List V}{us:List Value}(r:Vals xs us):us=[]↔xs=[]:=by
 cases r with
 |nil=>simp
 |cons _ _=>simp
theorem zj7:OpR X (binaryOp .Add) (rCatT X.K):=by
 intro pins s σ H x y v u Q I rx ry h
 obtain ⟨a,b,xs,ys,rfl,rfl,ha,hb,hx,hz,q1,q2⟩:=h
 cases rx
 cases ry
 obtain ⟨its,r1,p1,_⟩:=I.tuple ha
 obtain ⟨its2,r2,p2,_⟩:=I.tuple hb
 refine HT.cat_tup p1 p2 (fun z=>hx (r1.nil_iff.mp z)) (fun z=>⟨.ref a,H,I,rfl,q1 (r2.nil_iff.mp z)⟩) (fun z=>?_) (by rw[←r1.length,←r2.length];exact hz)
 refine ⟨.ref s.heap.objs.size,_,I.laid (t':=s.toks) (o:=.tup (xs++ys)) (fun b ob q=>Heap.get?_push_of_some _ q) (Nat.le_refl _) ?_,rfl,q2 (fun w=>z (r2.nil_iff.mpr w)) _ (I.hok.fresh (Nat.le_refl _))⟩
 exact ⟨by rw[List.length_append];exact hz,_,r1.append r2,IsTup.new _ _⟩
end
def ixN (n:Nat) (i:Int):Option Nat:=if 0≤i then (if i<n then some i.toNat else none) else if -(n:Int)≤i then some (i+n).toNat else none
def atI {α:Type}(xs:List α) (i:Int):Option α:=(ixN xs.length i).bind fun j=>xs[j]?
theorem zg6 {n:Nat}{i:Int}{j:Nat}(h:ixN n i=some j):seqIndex? i n=some j∧j<n∧-(n:Int)≤i∧i<n:=by
 unfold ixN at h
 by_cases h0:0≤i
 ·rw[if_pos h0] at h
  by_cases h1:i<n
  ·rw[if_pos h1] at h
   have e:i.toNat=j:=Option.some.inj h
   exact ⟨by rw[seqIndex_of h0 h1,e],by omega,by omega,h1⟩
  ·rw[if_neg h1] at h;cases h
 ·rw[if_neg h0] at h
  by_cases h1:-(n:Int)≤i
  ·rw[if_pos h1] at h
   have e:(i+n).toNat=j:=Option.some.inj h
   exact ⟨by rw[seqIndex_neg (by omega) h1,e],by omega,h1,by omega⟩
  ·rw[if_neg h1] at h;cases h
theorem zfz {α:Type}{xs:List α}{i:Int}{v:α}(h:atI xs i=some v):∃j,seqIndex? i xs.length=some j∧xs[j]?=some v∧j<xs.length∧-(xs.length:Int)≤i∧i<xs.length:=by
 unfold atI at h
 cases e:ixN xs.length i with
 |none=>rw[e] at h;cases h
 |some j=>
  rw[e] at h
  obtain ⟨h1,h2,h3,h4⟩:=zg6 e
  exact ⟨j,h1,h,h2,h3,h4⟩
theorem zah {α:Type}{xs:List α}{j:Nat}{v:α}(h:xs[j]?=some v):atI xs (j:Int)=some v:=by
 have hj:j<xs.length:=(List.getElem?_eq_some_iff.mp h).1
 have e:ixN xs.length (j:Int)=some j:=by
  unfold ixN
  rw[if_pos (by omega),if_pos (by omega)];simp
 unfold atI;rw[e];exact h
theorem zbJ {α:Type}(xs:List α) (v:α):atI (xs++[v]) (-1)=some v:=by
 have hl:(xs++[v]).length=xs.length+1:=by simp
 have e:ixN (xs++[v]).length (-1)=some xs.length:=by
  unfold ixN
  rw[hl,if_neg (by decide),if_pos (by omega)]
  congr 1
  omega
 unfold atI
 rw[e]
 show (xs++[v])[xs.length]?=some v
 simp
def zj8 (b:Expr):Prop:=∀o i,subscripted b false o i=operate [o,i] (getItem o i)
def IxR (X:Cx) (r:R2):Prop:=
 ∀(value slice:Expr) (pins:List (Addr×Obj)) (s:Shared) (σ:St) (H:Hp) (x y:V) (v u:Value) (Q:VK),Inv X pins σ H s→RelV x v→RelV y u→r x y H Q →
  subscripted slice false v u=operate [v,u] (getItem v u)→wpAny (model X.prog X.w) X.A (subscriptTail value slice v u) (EP X pins σ Q) X.xe s
def MtR (X:Cx) (id:String) (r:V→List V→Hp→VK→Prop):Prop:=
 ∀(pins:List (Addr×Obj)) (s:Shared) (σ:St) (H:Hp) (x:V) (xs:List V) (v:Value) (us:List Value) (Q:VK),Inv X pins σ H s→RelV x v→Vals xs us→r x xs H Q →
  wpAny (model X.prog X.w) X.A (call (.builtin id) (v::us)) (EP X pins σ Q) X.xe s
section
variable {X:Cx}{a b:Expr}{ta tb:TE}{pos:Pos}
theorem IxR.or {r r':R2}(h:IxR X r) (h':IxR X r'):IxR X (fun x y H Q=>r x y H Q∨r' x y H Q):=by
 intro value slice pins s σ H x y v u Q I rx ry q hs
 rcases q with q|q
 ·exact h value slice pins s σ H x y v u Q I rx ry q hs
 ·exact h' value slice pins s σ H x y v u Q I rx ry q hs
theorem zau {r:R2}(hr:IxR X r) (ha:PE X a ta) (hb:PE X b tb) (hs:zj8 b):PE X (.Subscript a b pos) (tOp r ta tb):=by
 intro pins s σ H Q I h
 exact Subscript_ (binT ha hb I h fun v u s2 x y H2 I2 rx ry q=>hr a b pins s2 σ H2 x y v u Q I2 rx ry q (hs _ _))
def rIxL (K:W.Frag):R2:=fun x y H Q=>∃p xs i v,x=.ref p∧y=.int i∧SqL K H p xs∧atI xs i=some v∧Q v H
def rIxT (K:W.Frag):R2:=fun x y H Q=>∃p xs i v,x=.ref p∧y=.int i∧SqT K H p xs∧atI xs i=some v∧Q v H
def rIxS:R2:=fun x y H Q=>∃z i c,x=.str z∧y=.int i∧z.length≤sizeLine∧atI z.cps.toList i=some c∧Q (.str ⟨#[c]⟩) H
theorem ix_list:IxR X (rIxL X.K):=by
 intro value slice pins s σ H x y v u Q I rx ry h hs
 obtain ⟨p,xs,i,z,rfl,rfl,hq,he,q⟩:=h
 cases rx
 obtain ⟨t,rfl⟩:=ry
 obtain ⟨its,r,pl,hz⟩:=I.list hq
 obtain ⟨j,h1,h2,h3,h4,h5⟩:=zfz he
 obtain ⟨w,ew,rw'⟩:=r.get h2
 have hl:=r.length
 have hn:=zct
 have fin:EP X pins σ Q w s:=⟨z,H,I,rw',q⟩
 by_cases h0:0≤i
 ·have hj:i.toNat=j:=by
   rw[seqIndex_of h0 h5] at h1
   exact Option.some.inj h1
  exact item_listR pl.isList h0 (by omega) (by rw[hj];simpa using ew) fin hs
 ·have hj:(i+(its.toArray.size:Int)).toNat=j:=by
   rw[seqIndex_neg (by omega) h4] at h1
   rw[List.size_toArray,←hl]
   exact Option.some.inj h1
  exact subscriptTail_builtinR (x:=w) pl.isList.typeIs slot_list_getitem.lookup
   (wpAny_getItem_list_neg (Q:=fun r s'=>r=w∧EP X pins σ Q r s') pl.isList (by omega) (by rw[List.size_toArray]<;>omega) (by omega) (by rw[hj];simpa using ew) ⟨rfl,fin⟩) hs
theorem ix_tup:IxR X (rIxT X.K):=by
 intro value slice pins s σ H x y v u Q I rx ry h hs
 obtain ⟨p,xs,i,z,rfl,rfl,hq,he,q⟩:=h
 cases rx
 obtain ⟨t,rfl⟩:=ry
 obtain ⟨its,r,pl,hz⟩:=I.tuple hq
 obtain ⟨j,h1,h2,h3,h4,h5⟩:=zfz he
 obtain ⟨w,ew,rw'⟩:=r.get h2
 have hl:=r.length
 have hn:=zct
 have fin:EP X pins σ Q w s:=⟨z,H,I,rw',q⟩
 exact subscriptTail_builtinR (x:=w) pl.typeIs slot_tuple_getitem.lookup
  (getItem_tuple (j:=j) (Q:=fun r s'=>r=w∧EP X pins σ Q r s') pl (by omega) (by omega) (by rw[List.size_toArray,←hl];exact h1) (by simpa using ew) ⟨rfl,fin⟩) hs
theorem zfZ:IxR X rIxS:=by
 intro value slice pins s σ H x y v u Q I rx ry h hs
 obtain ⟨z,i,c,rfl,rfl,hz,he,q⟩:=h
 obtain ⟨t,rfl⟩:=rx
 obtain ⟨t',rfl⟩:=ry
 obtain ⟨j,h1,h2,h3,h4,h5⟩:=zfz he
 have hl:z.cps.toList.length=z.length:=by simp[Str.length]
 rw[hl] at h1 h4 h5
 have hn:=zct
 exact tail_any (typeIs_str s z t) slot_str_getitem.lookup (getItem_str (c:=c) (by
  have e1:decide (i < -(2 ^ 63:Int))=false:=decide_eq_false (by omega)
  have e2:decide (i ≥ 2 ^ 63)=false:=decide_eq_false (by omega)
  rw[e1,e2,Bool.or_false]) (by rw[h1];simpa using h2) ⟨.str ⟨#[c]⟩,H,I.tok _,⟨_,rfl⟩,q⟩) hs
def rIx (K:W.Frag):R2:=fun x y H Q=>rIxL K x y H Q∨rIxT K x y H Q∨rIxS x y H Q
theorem zk6:IxR X (rIx X.K):=ix_list.or (ix_tup.or zfZ)
theorem zgx (its:List Value) (n j:Nat) (u:Value):Obj.mapSeq (·.setIfInBounds j u) { cls:=.type "list",data:=.seq its.toArray n }={ cls:=.type "list",data:=.seq (its.set j u).toArray n }:=by
 simp[Obj.mapSeq]
theorem Inv.lst {pins:List (Addr×Obj)}{σ:St}{H:Hp}{s:Shared}{p:Addr}{xs:List V}(I:Inv X pins σ H s) (h:H p=some (.lst xs)) :
  ∃(its:List Value) (n:Nat),Vals xs its∧s.heap.get? p=some { cls:=.type "list",data:=.seq its.toArray n }∧xs.length≤sizeLine:=by
 obtain ⟨z,its,n,r,e⟩:=I.hok p _ h
 exact ⟨its,n,r,e,z⟩
theorem Inv.lstUpd {pins:List (Addr×Obj)}{σ:St}{H:Hp}{s:Shared}{p:Addr}{xs ys:List V}{its its':List Value}{n n':Nat}{f:Obj→Obj}(I:Inv X pins σ H s) (h:H p=some (.lst xs))
  (ho:s.heap.get? p=some { cls:=.type "list",data:=.seq its.toArray n }) (hf:f { cls:=.type "list",data:=.seq its.toArray n }={ cls:=.type "list",data:=.seq its'.toArray n' }) (r:Vals ys its') (hz:ys.length≤sizeLine) (t:Nat) :
  Inv X pins σ (upd H p (.lst ys)) { s with heap:=s.heap.update p f,toks:=t }:=by
 have e:(s.heap.update p f).get? p=some { cls:=.type "list",data:=.seq its'.toArray n' }:=by
  rw[Heap.get?_update_self f ho (by rw[hf]<;>rfl),hf]
 refine I.write (x:=p) (e:=p) (by rw[h];trivial) (.inl rfl) (fun b u hb q=>(Heap.get?_update_other _ _ (Ne.symm hb)).trans q) ⟨_,e⟩ ?_
 exact ⟨hz,its',n',r,e⟩
def rSetL:V→V→V→Hp→(Hp→Prop)→Prop:=fun o i v H Q=>∃p xs k j,o=.ref p∧i=.int k∧H p=some (.lst xs)∧ixN xs.length k=some j∧Q (upd H p (.lst (xs.set j v)))
theorem zea:PSet X rSetL:=by
 intro pins s σ H o i v ov iv u Q I ro ri rv h
 obtain ⟨p,xs,k,j,rfl,rfl,hp,hj,q⟩:=h
 cases ro
 obtain ⟨t,rfl⟩:=ri
 obtain ⟨its,n,r,ho,hz⟩:=I.lst hp
 obtain ⟨h1,h2,h3,h4⟩:=zg6 hj
 have hl:=r.length
 have hn:=zct
 have I':Inv X pins σ (upd H p (.lst (xs.set j v))) { s with heap:=s.heap.update p (Obj.mapSeq (·.setIfInBounds j u)) }:=
  I.lstUpd hp ho (zgx its n j u) (r.set rv j) (by rw[List.length_set];exact hz) s.toks
 by_cases h0:0≤k
 ·have hk:k.toNat=j:=by
   rw[seqIndex_of h0 h4] at h1
   exact Option.some.inj h1
  exact W.ki_setAt ho h0 (by omega) (by rw[List.size_toArray,←hl];exact h4) (by rw[hk];exact ⟨_,I',q⟩)
 ·have hk:(k+(its.toArray.size:Int)).toNat=j:=by
   rw[seqIndex_neg (by omega) h3] at h1
   rw[List.size_toArray,←hl]
   exact Option.some.inj h1
  exact W.ki_setBack ho (by omega) (by rw[List.size_toArray,←hl];exact h3) (by omega) (by rw[hk];exact ⟨_,I',q⟩)
theorem ze0 (lo hi:Option Int) (n:Nat):(sliceBounds lo hi none n).1=((HT.sIx n 0 lo:Nat):Int)∧(sliceBounds lo hi none n).2.1=((HT.sIx n n hi:Nat):Int)∧(sliceBounds lo hi none n).2.2=1:=by
 refine ⟨?_,?_,rfl⟩
 ·cases lo with
  |none=>simp[sliceBounds,HT.sIx]
  |some i=>
   simp only[sliceBounds,HT.sIx,Option.getD_none,show (1:Int)>0 by decide,if_true]
   by_cases h:i<0
   ·simp only[h,if_true]<;>omega
   ·simp only[h,if_false]<;>omega
 ·cases hi with
  |none=>simp[sliceBounds,HT.sIx]
  |some i=>
   simp only[sliceBounds,HT.sIx,Option.getD_none,show (1:Int)>0 by decide,if_true]
   by_cases h:i<0
   ·simp only[h,if_true]<;>omega
   ·simp only[h,if_false]<;>omega
theorem zeb (its:List Value) (lo hi:Option Int):slicePick its.toArray lo hi none=((its.drop (HT.sIx its.length 0 lo)).take (HT.sIx its.length its.length hi-HT.sIx its.length 0 lo)).toArray:=by
 obtain ⟨h1,h2,h3⟩:=ze0 lo hi its.toArray.size
 unfold slicePick
 rw[h1,h2,h3]
 simp only[sliceRange_one,pick_run,List.size_toArray]<;>rfl
def rSlL (K:W.Frag):V→Option Int→Option Int→Hp→VK→Prop:=fun x lo hi H Q=>∃a xs,x=.ref a∧SqL K H a xs∧∀p,H p=none→Q (.ref p) (upd H p (.lst (cutV xs lo hi)))
theorem zcO:SlR X (rSlL X.K):=by
 intro pins s σ H x v vl vu lo hi sl Q I rx hs pl pu h
 obtain ⟨a,xs,rfl,hx,q⟩:=h
 cases rx
 obtain ⟨its,r,ht,hz⟩:=I.list hx
 have hlen:=r.length
 refine ⟨"list",_,slot_list_getitem.lookup,ht.isList.typeIs,?_⟩
 refine wpAny_getItem_list_slice ht.isList hs pl pu .none (by simp) ?_ (by rw[List.size_toArray]<;>omega)
 rw[zeb,←hlen]
 refine ⟨.ref s.heap.objs.size,_,I.laid (t':=s.toks) (o:=.lst (cutV xs lo hi)) (fun b ob q=>Heap.get?_push_of_some _ q) (Nat.le_refl _) ?_,rfl,q _ (I.hok.fresh (Nat.le_refl _))⟩
 exact ⟨Nat.le_trans (zfy xs lo hi) hz,_,0,(r.drop (HT.sIx xs.length 0 lo)).take (HT.sIx xs.length xs.length hi-HT.sIx xs.length 0 lo),Heap.get?_push_size _ rfl⟩
theorem zaC:CallR X (.builtin "len") (fun xs H Q=>∃p ys,xs=[.ref p]∧(SqL X.K H p ys∨SqT X.K H p ys)∧Q (.int ys.length) H):=by
 intro pins s σ H xs us Q I r h
 obtain ⟨p,ys,rfl,hq,q⟩:=h
 obtain ⟨u,rfl,rx⟩:=vals1 r
 cases rx
 have hn:=zct
 rcases hq with hq|hq
 ·obtain ⟨its,r',pl,hz⟩:=I.list hq
  have hlen:=r'.length
  exact Calls.call_len_list pl.isList (by simp only[List.size_toArray]<;>omega) ⟨.int ys.length,H,I.tok _,⟨s.toks+1,by rw[List.size_toArray,hlen]⟩,q⟩
 ·obtain ⟨its,r',pl,hz⟩:=I.tuple hq
  have hlen:=r'.length
  exact len_tuple pl (by simp only[List.size_toArray]<;>omega) ⟨.int ys.length,H,I.tok _,⟨s.toks+1,by rw[List.size_toArray,hlen]⟩,q⟩
theorem zar:CallR X (.builtin "len") (fun xs H Q=>∃z,xs=[.str z]∧z.length≤sizeLine∧Q (.int z.length) H):=by
 intro pins s σ H xs us Q I r h
 obtain ⟨z,rfl,hz,q⟩:=h
 obtain ⟨u,rfl,t,rfl⟩:=vals1 r
 have hn:=zct
 exact len_str (by omega) ⟨.int z.length,H,I.tok _,⟨_,rfl⟩,q⟩
theorem zc3:CallR X (.type "list") (fun xs H Q=>∃p ys,xs=[.ref p]∧(SqL X.K H p ys∨SqT X.K H p ys)∧∀l,H l=none→Q (.ref l) (upd H l (.lst ys))):=by
 intro pins s σ H xs us Q I r h
 obtain ⟨p,ys,rfl,hq,q⟩:=h
 obtain ⟨u,rfl,rx⟩:=vals1 r
 cases rx
 have fin:∀(its:List Value),Vals ys its→ys.length≤sizeLine→∀(h':Heap) (c':Nat),(∀b o',s.heap.get? b=some o'→h'.get? b=some o') →
   h'.get? s.heap.objs.size=some { cls:=.type "list",dict:=none,data:=.seq its.toArray c',slots:=#[] }→EP X pins σ Q (.ref s.heap.objs.size) { s with heap:=h' }:=fun its r' hz h' c' kp e=>
  ⟨.ref s.heap.objs.size,_,I.laid (t':=s.toks) kp (Nat.le_refl _) (show ObjOk X.prog X.w _ h' _ (.lst ys) from ⟨hz,its,c',r',e⟩),rfl,q _ (I.hok.fresh (Nat.le_refl _))⟩
 rcases hq with hq|hq
 ·obtain ⟨its,r',pl,hz⟩:=I.list hq
  have hlen:=r'.length
  obtain ⟨o,ho,hc,n,hd⟩:=pl.isList
  exact call_list_seq p (.inl rfl) ho hc hd (fun h' c' kp e=>fin its r' hz h' c' kp e) (by simp only[List.size_toArray]<;>omega)
 ·obtain ⟨its,r',pl,hz⟩:=I.tuple hq
  have hlen:=r'.length
  obtain ⟨o,ho,hc,n,hd⟩:=pl
  exact call_list_seq p (.inr rfl) ho hc hd (fun h' c' kp e=>fin its r' hz h' c' kp e) (by simp only[List.size_toArray]<;>omega)
theorem zec:CallR X (.type "tuple") (fun xs H Q=>∃p ys,xs=[.ref p]∧((SqL X.K H p ys∧∀l,H l=none→Q (.ref l) (upd H l (.tup ys)))∨(SqT X.K H p ys∧Q (.ref p) H))):=by
 intro pins s σ H xs us Q I r h
 obtain ⟨p,ys,rfl,h⟩:=h
 obtain ⟨u,rfl,rx⟩:=vals1 r
 cases rx
 rcases h with ⟨hq,q⟩|⟨hq,q⟩
 ·obtain ⟨its,r',pl,hz⟩:=I.list hq
  have hlen:=r'.length
  refine call_tuple_list pl.isList (fun h' kp=>?_) (by simp only[List.size_toArray]<;>omega)
  have I1:Inv X pins σ H { s with heap:=h' }:=I.kept (t':=s.toks) kp
  have I2:Inv X pins σ (upd H h'.objs.size (.tup ys)) { s with heap:=h'.push { cls:=.type "tuple",data:=.seq its.toArray } }:=
   I1.laid (t':=s.toks) (fun b o e=>Heap.get?_push_of_some _ e) (Nat.le_refl _) (show ObjOk X.prog X.w _ _ _ (.tup ys) from ⟨hz,its,r',IsTup.new _ _⟩)
  exact ⟨.ref h'.objs.size,_,I2,rfl,q _ (I1.hok.fresh (Nat.le_refl _))⟩
 ·obtain ⟨its,r',pl,hz⟩:=I.tuple hq
  exact call_tuple_same pl ⟨.ref p,H,I,rfl,q⟩
def tyV (K:W.Frag) (T:String) (x:V) (H:Hp):Prop:=match x with
 |.str _=>T="str"
 |.int _=>T="int"
 |.ref p=>(T="list"∧∃xs,SqL K H p xs)∨(T="tuple"∧∃o,K.lookup p=some o∧o.cls=.type "tuple"∧o.dict=none) ∨
   (T="dict"∧((∃kvs,H p=some (.dK kvs))∨∃kvs,H p=some (.dT kvs)))∨(T="set"∧∃S n,H p=some (.set S n))
 |_=>False
theorem zjH {pins:List (Addr×Obj)}{σ:St}{H:Hp}{s:Shared}{T:String}{x:V}{v:Value}(I:Inv X pins σ H s) (r:RelV x v) (ty:tyV X.K T x H) :
  s.TypeIs v T∧∀a,v=.ref a→∃ob,s.heap.get? a=some ob∧ob.dict=none:=by
 cases x with
 |str z=>
  obtain ⟨t,rfl⟩:=r
  cases (show T="str" from ty)
  exact ⟨typeIs_str s z t,fun _ e=>nomatch e⟩
 |int i=>
  obtain ⟨t,rfl⟩:=r
  cases (show T="int" from ty)
  exact ⟨typeIs_int s i t,fun _ e=>nomatch e⟩
 |ref p=>
  cases r
  rcases ty with ⟨rfl,xs,hq⟩|⟨rfl,o,hk,hc,hd⟩|⟨rfl,hk⟩|⟨rfl,S,n,hk⟩
  ·obtain ⟨its,_,pl,_⟩:=I.list hq
   refine ⟨pl.isList.typeIs,fun a e=>?_⟩
   cases e
   obtain ⟨o,n,e,c,hd,_⟩:=pl
   exact ⟨o,e,hd⟩
  ·refine ⟨⟨o,I.kIn p o hk,hc⟩,fun a e=>?_⟩
   cases e
   exact ⟨o,I.kIn _ o hk,hd⟩
  ·have z:∃o,s.heap.get? p=some o∧o.ExactDict:=by
    rcases hk with ⟨kvs,hk⟩|⟨kvs,hk⟩
    ·obtain ⟨_,_,_,_,o,_,_,e,ex,_⟩:=I.hok p _ hk
     exact ⟨o,e,ex⟩
    ·obtain ⟨_,_,_,_,o,_,_,e,ex,_⟩:=I.hok p _ hk
     exact ⟨o,e,ex⟩
   obtain ⟨o,e,ex⟩:=z
   refine ⟨⟨o,e,ex.1⟩,fun a e2=>?_⟩
   cases e2
   exact ⟨o,e,ex.2.1⟩
  ·obtain ⟨o,_,_,_,e,ex,_⟩:=I.hok p _ hk
   refine ⟨⟨o,e,ex.1⟩,fun a e2=>?_⟩
   cases e2
   exact ⟨o,e,ex.2.1⟩
 |_=>exact False.elim ty
def tBM0 (K:W.Frag) (T:String) (r:V→List V→Hp→VK→Prop) (to:TE):TE:=fun σ H Q=>to σ H fun x H1=>tyV K T x H1∧r x [] H1 Q
def tBM (K:W.Frag) (T:String) (r:V→List V→Hp→VK→Prop) (to:TE) (t:TA):TE:=fun σ H Q=>to σ H fun x H1=>tyV K T x H1∧t σ H1 fun xs H2=>r x xs H2 Q
variable {o e:Expr}{es:List Expr}{to:TE}{t:TA}{name:Str}{apos cpos:Pos}{T id:String}{r:V→List V→Hp→VK→Prop}
theorem ze1 (pa:PlainAttrs T) (slot:Slot T name id) (hty:typeOf (.builtin id)=pure (.type "method_descriptor")) (hm:MtR X id r) (ho:PE X o to)
  (hbase:attributeBase o name X.env (eval o X.env)=eval o X.env:=by rfl) (hline:(apos.endLine==cpos.line)=true:=by rfl):PE X (.Call (.Attribute o name apos) [] [] cpos) (tBM0 X.K T r to):=by
 intro pins s σ H Q I h
 refine wpAny_Call_method0_late hbase hline (thn (ho pins s σ H _ I h) fun v s1 ⟨x,H1,I1,r1,ty,q1⟩=>?_)
 obtain ⟨h1,h2⟩:=zjH I1 r1 ty
 exact ⟨T,id,pa,slot,hty,h1,h2,Calls.callWith_builtin rfl (PySem.evalArgs_none (hm pins s1 σ H1 x [] v [] Q I1 r1 .nil q1))⟩
theorem zbU (pa:PlainAttrs T) (slot:Slot T name id) (hty:typeOf (.builtin id)=pure (.type "method_descriptor")) (hm:MtR X id r) (ho:PE X o to) (ha:PA X (e::es) t)
  (hbase:attributeBase o name X.env (eval o X.env)=eval o X.env:=by rfl)
  (hfew:((backTo cpos (starEach (e::es) X.env)).all (fun x=>!x.1)&&(backToKw cpos (keywordEach [] X.env)).all (fun x=>x.1.isSome)
   && decide ((e::es).length+([]:List Keyword).length+(if ([]:List Keyword).isEmpty then 0 else 1)<30))=true:=by rfl)
  (hline:(apos.endLine==cpos.line)=true:=by rfl) (hs:starEach (e::es) X.env=(false,eval e X.env)::starEach es X.env:=by rfl) (hplain:(backTo cpos (starEach es X.env)).any (·.1)=false:=by rfl) :
  PE X (.Call (.Attribute o name apos) (e::es) [] cpos) (tBM X.K T r to t):=by
 intro pins s σ H Q I h
 refine wpAny_Call_method_late hbase hfew hline rfl (thn (ho pins s σ H _ I h) fun v s1 ⟨x,H1,I1,r1,ty,q1⟩=>?_)
 obtain ⟨h1,h2⟩:=zjH I1 r1 ty
 refine ⟨T,id,pa,slot,hty,h1,h2,?_⟩
 have hA:=ha cpos pins s1 σ H1 _ I1 q1
 rw[hs] at hA ⊢
 refine Calls.callWith_builtin (by show (false || (backTo cpos (starEach es X.env)).any (·.1))=false;rw[hplain]<;>rfl) (Calls.evalArgs_plain ?_)
 exact thn hA fun us s2 ⟨vs,H2,I2,r2,q2⟩=>hm pins s2 σ H2 x vs v us Q I2 r1 r2 q2
end
def MtM (X:Cx) (id:String) (r:V→List V→Hp→VK→Prop):Prop:=
 ∀(pins:List (Addr×Obj)) (s:Shared) (σ:St) (H:Hp) (x:V) (xs:List V) (v:Value) (us:List Value) (Q:VK),Inv X pins σ H s→RelV x v→Vals xs us→r x xs H Q →
  wpAny (model X.prog X.w) X.A (call (.builtin id) (v::us)) (EP X pins σ Q) X.xe s
theorem Vals.one:∀ {x:V}{us:List Value},Vals [x] us→∃u,us=[u]∧RelV x u
 |_,_,.cons r .nil=>⟨_,rfl,r⟩
theorem Vals.two:∀ {x y:V}{us:List Value},Vals [x,y] us→∃u v,us=[u,v]∧RelV x u∧RelV y v
 |_,_,_,.cons r (.cons q .nil)=>⟨_,_,rfl,r,q⟩
theorem Vals.zero:∀ {us:List Value},Vals [] us→us=[]
 |_,.nil=>rfl
theorem Vals.dropLast {xs:List V}{us:List Value}(h:Vals xs us):Vals xs.dropLast us.dropLast:=by
 induction h with
 |nil=>exact .nil
 |cons r t ih=>
  cases t with
  |nil=>exact .nil
  |cons q t'=>exact .cons r ih
theorem Vals.reverse {xs:List V}{us:List Value}(h:Vals xs us):Vals xs.reverse us.reverse:=by
 induction h with
 |nil=>exact .nil
 |cons r t ih=>rw[List.reverse_cons,List.reverse_cons];exact Vals.append ih (.cons r .nil)
theorem zgy {α:Type}(l:List α):l.eraseIdx (l.length-1)=l.dropLast:=by
 induction l with
 |nil=>rfl
 |cons a r ih=>
  cases r with
  |nil=>rfl
  |cons b r=>
   have e:(a::b::r).length-1=((b::r).length-1)+1:=by
    have h1:(a::b::r).length=r.length+2:=rfl
    have h2:(b::r).length=r.length+1:=rfl
    omega
   rw[e,List.eraseIdx_cons_succ,ih]
   all_goals rfl
section
variable {X:Cx}{pins:List (Addr×Obj)}{σ:St}{H:Hp}{s:Shared}{l b:Addr}{xs ys zs:List V}
theorem Inv.lset {its its':List Value}{n:Nat}{f:Array Value→Array Value}{t':Nat}(I:Inv X pins σ H s) (hH:H l=some (.lst xs))
  (e:s.heap.get? l=some { cls:=.type "list",data:=.seq its.toArray n }) (hf:f its.toArray=its'.toArray) (hv:Vals ys its') (hz:ys.length≤sizeLine) :
  Inv X pins σ (upd H l (.lst ys)) { s with heap:=s.heap.update l (Obj.mapSeq f),toks:=t' }:=by
 have q:=PySem.IsL.update e f
 rw[hf] at q
 refine I.write (x:=l) (e:=l) (by rw[hH];exact trivial) (.inl rfl) (fun b' u hb hu=>(Heap.get?_update_other s.heap (Obj.mapSeq f) (Ne.symm hb)).trans hu) ⟨_,q⟩ ?_
 exact ⟨hz,its',_,hv,q⟩
theorem Inv.lnew {its:List Value}{t':Nat}(I:Inv X pins σ H s) (hv:Vals ys its) (hz:ys.length≤sizeLine) :
  Inv X pins σ (upd H s.heap.objs.size (.lst ys)) { s with heap:=s.heap.push { cls:=.type "list",data:=.seq its.toArray },toks:=t' }:=
 I.laid (fun _ _ q=>Heap.get?_push_of_some _ q) (Nat.le_refl _) ⟨hz,its,0,hv,Heap.get?_push_size _ rfl⟩
theorem Inv.fresh (I:Inv X pins σ H s):H s.heap.objs.size=none:=I.hok.fresh (Nat.le_refl _)
theorem Inv.lstM (I:Inv X pins σ H s) (hH:H l=some (.lst xs)):xs.length≤sizeLine∧∃(its:List Value) (n:Nat),Vals xs its∧xs.length=its.length∧s.heap.get? l=some { cls:=.type "list",data:=.seq its.toArray n }:=by
 obtain ⟨z,its,n,r,e⟩:=I.hok l _ hH
 exact ⟨z,its,n,r,r.length,e⟩
theorem ziF {n:Nat}(h:n≤sizeLine):Builtin.List.listTooLong n=false:=by
 unfold Builtin.List.listTooLong
 exact decide_eq_false (by omega)
end
section
variable {X:Cx}
def zj9:V→List V→Hp→VK→Prop:=fun x vs H Q=>∃l xs y,x=.ref l∧vs=[y]∧H l=some (.lst xs)∧xs.length<sizeLine∧Q .non (upd H l (.lst (xs++[y])))
theorem zaK:MtM X "list.append" zj9:=by
 intro pins s σ H x vs v us Q I rx rv h
 obtain ⟨l,xs,y,rfl,rfl,hH,hz,q⟩:=h
 cases rx
 obtain ⟨u,rfl,ru⟩:=rv.one
 obtain ⟨z,its,n,r,hl,e⟩:=I.lstM hH
 refine call_meets F.slot_list_append ⟨_,e,rfl⟩ F.entry_list_append (F.args_list_append_2 _ _) (PySem.list_append l its.toArray n u (by rw[List.size_toArray];omega)) ⟨e,?_⟩
 refine ⟨.non,_,I.lset (its':=its++[u]) hH e (by simp) (r.append (.cons ru .nil)) ?_,rfl,q⟩
 rw[List.length_append,List.length_singleton]
 omega
def zka:V→List V→Hp→VK→Prop:=fun x vs H Q=>∃l b xs zs,x=.ref l∧vs=[.ref b]∧H l=some (.lst xs)∧H b=some (.lst zs)∧xs.length+zs.length≤sizeLine∧Q .non (upd H l (.lst (xs++zs)))
theorem zk7:MtM X "list.extend" zka:=by
 intro pins s σ H x vs v us Q I rx rv h
 obtain ⟨l,b,xs,zs,rfl,rfl,hH,hB,hz,q⟩:=h
 cases rx
 obtain ⟨u,rfl,ru⟩:=rv.one
 cases ru
 obtain ⟨z,its,n,r,hl,e⟩:=I.lstM hH
 obtain ⟨z2,its2,n2,r2,hl2,e2⟩:=I.lstM hB
 have hsz:its.toArray.size+its2.toArray.size≤sizeLine:=by rw[List.size_toArray,List.size_toArray];omega
 have hlong:¬(!its.toArray.isEmpty&&Builtin.List.listTooLong (its.toArray.size+its2.toArray.size))=true:=by
  rw[ziF hsz,Bool.and_false]
  exact Bool.false_ne_true
 refine call_meets F.slot_list_extend ⟨_,e,rfl⟩ F.entry_list_extend (F.args_list_extend_2 _ _)
  (AutoSeq1.list_extend_list_list_0 l its.toArray n b its2.toArray n2 hlong (by rw[List.size_toArray];omega) (by omega)) ⟨e,e2,?_⟩
 refine ⟨.non,_,I.lset (its':=its++its2) hH e (by simp) (r.append r2) ?_,rfl,q⟩
 rw[List.length_append]
 omega
def rPop:V→List V→Hp→VK→Prop:=fun x vs H Q=>∃l xs y,x=.ref l∧vs=[]∧H l=some (.lst xs)∧xs[xs.length-1]?=some y∧Q y (upd H l (.lst xs.dropLast))
theorem zf0:MtM X "list.pop" rPop:=by
 intro pins s σ H x vs v us Q I rx rv h
 obtain ⟨l,xs,y,rfl,rfl,hH,hy,q⟩:=h
 cases rx
 have hus:=rv.zero
 subst hus
 obtain ⟨z,its,n,r,hl,e⟩:=I.lstM hH
 obtain ⟨u,hu,ru⟩:=r.get hy
 have hy':its.toArray[its.toArray.size-1]?=some u:=by
  show its.toArray[its.length-1]?=some u
  rw[←Array.getElem?_toList,←hl]
  exact hu
 refine call_meets F.slot_list_pop ⟨_,e,rfl⟩ F.entry_list_pop (F.args_list_pop_1 _) (MeetsSeq.list_pop_last l its.toArray n u hy' (by rw[List.size_toArray];omega)) ⟨e,?_⟩
 refine ⟨y,_,I.lset (its':=its.dropLast) hH e ?_ r.dropLast ?_,ru,q⟩
 ·show its.toArray.eraseIdxIfInBounds (its.toArray.size-1)=its.dropLast.toArray
  rw[List.size_toArray,List.eraseIdxIfInBounds_toArray,zgy]
 ·rw[List.length_dropLast]
  omega
def ziG:V→List V→Hp→VK→Prop:=fun x vs H Q=>∃l xs,x=.ref l∧vs=[]∧H l=some (.lst xs)∧Q .non (upd H l (.lst xs.reverse))
theorem zgz:MtM X "list.reverse" ziG:=by
 intro pins s σ H x vs v us Q I rx rv h
 obtain ⟨l,xs,rfl,rfl,hH,q⟩:=h
 cases rx
 have hus:=rv.zero
 subst hus
 obtain ⟨z,its,n,r,hl,e⟩:=I.lstM hH
 refine call_meets F.slot_list_reverse ⟨_,e,rfl⟩ F.entry_list_reverse (F.args_list_reverse_1 _) (AutoSeq1.list_reverse_list_0 l its.toArray n (by rw[List.size_toArray];omega)) ⟨e,?_⟩
 refine ⟨.non,_,I.lset (its':=its.reverse) hH e (by simp) r.reverse ?_,rfl,q⟩
 rw[List.length_reverse]
 omega
def rCat:R2:=fun x y H Q=>∃l b xs zs,x=.ref l∧y=.ref b∧H l=some (.lst xs)∧H b=some (.lst zs)∧xs.length+zs.length≤sizeLine∧∀p,H p=none→Q (.ref p) (upd H p (.lst (xs++zs)))
theorem zdS:OpR X (binaryOp .Add) rCat:=by
 intro pins s σ H x y v u Q I rx ry h
 obtain ⟨l,b,xs,zs,rfl,rfl,hH,hB,hz,q⟩:=h
 cases rx
 cases ry
 obtain ⟨z,its,n,r,hl,e⟩:=I.lstM hH
 obtain ⟨z2,its2,n2,r2,hl2,e2⟩:=I.lstM hB
 refine PySem.P.add_list e e2 ?_ (by rw[List.size_toArray,List.size_toArray];omega)
 have ea:its.toArray++its2.toArray=(its++its2).toArray:=by simp
 rw[ea]
 exact ⟨.ref _,_,I.lnew (t':=s.toks) (r.append r2) (by rw[List.length_append];omega),rfl,q _ I.fresh⟩
end
section
variable {prog:Program}{w:World}{A:Around}{E:Value→Shared→Prop}{s:Shared}
end
section
variable {X:Cx}
end
end L2
namespace Att
open PySem PySem.W PySem.Calls PyProof.Rows
theorem zdr {P:Params}{h:Heap}:∀(ns:List Int) (vs:List Value),WellAll P h vs (ns.map WData.int)→IntsAre vs ns:=by
 intro ns
 induction ns with
 |nil=>
  intro vs w
  rw[List.map_nil] at w
  cases w
  exact .nil
 |cons n ns ih=>
  intro vs w
  rw[List.map_cons] at w
  cases w with
  |cons a b=>
   cases a
   exact .cons _ _ (ih _ b)
theorem zg7 {l:OpenLaw}{n:Nat}(hn:l.most=some n){P:Params}{h:Heap}{args:List WData}{vals:List Value}
  (hpre:l.row.toRowW.claim.pre args=true) (hwl:WellAll P h vals args) :
  ∃a vs ns,vals=[Value.ref a]∧args=[WData.list (ns.map WData.int)]∧h.get? a=some { cls:=.type "list",data:=.seq vs.toArray }∧IntsAre vs ns∧ns.length≤n:=by
 have hsh:WShape.hasAll [] args [.list .int]=true:=(pre_splitW hpre).1
 have hc:l.pre.holds [] { args:=args }=true:=(pre_splitW hpre).2
 obtain ⟨d,r,rfl,h1,h2⟩:=hasAllW_cons hsh
 obtain rfl:=hasAllW_nil h2
 obtain ⟨xs,rfl,h3⟩:=hasW_list h1
 obtain ⟨ns,rfl⟩:=items_int h3
 have hlen:ns.length≤n:=by
  unfold OpenLaw.pre at hc
  have h4:(WTm.not (.lt (.lit (.int (n:Int))) (.len (.arg 0)))).holds [] { args:=[.list (ns.map .int)] }=true:=by
   have h4:=(holds_andW hc).1
   rw[hn] at h4
   exact h4
  have h5:=condW_of h4 (w_not (w_lt w_lit (w_len_list (w_arg rfl))))
  rw[List.length_map] at h5
  refine Nat.le_of_not_lt fun q=>?_
  have q':(n:Int)<((ns.length:Nat):Int):=by omega
  first
   |(rw[decide_eq_true q'] at h5;exact absurd h5 (by decide))
   |(simp at h5;omega)
 cases hwl with
 |cons w1 w2=>
  cases w2
  cases w1 with
  |list ho hall=>exact ⟨_,_,ns,rfl,rfl,ho,zdr ns _ hall,hlen⟩
theorem zg8 (l:OpenLaw) (args:List WData):l.row.toRowW.claim.post args (.bool true) args=true:=
 postW_of (r:=l.row.toRowW) (X:=(true==true))
  (show WShape.has [] (.bool true) .bool=true by first|rfl|decide|simp[WShape.has,WShape.arms,WShape.armsAll])
  (show (WTm.eq .res (.lit (.bool true))).value [] { args:=args,res:=some (.bool true),after:=args }=some (.bool (true==true)) from w_eq_bool (w_res rfl) w_lit) rfl
theorem attach_call {l:OpenLaw}{n:Nat}{q:Program}{loose:List Str}{XP:(Str→Option Value)→Heap→Prop}{YP:World→Heap→Prop}{d:DefRec}
  (hn:l.most=some n) (hdf:d.params.defaults=[])
  (call:∀(w:World) (s₀ s₁:Shared) (mg mb:Str→Option Value) (fa:Addr) (o:Obj) (pm cd doc:Value) (a:Addr) (vs:List Value) (ns:List Int),
   Ground q loose [] XP w s₀ mg mb s₁.heap→YP w s₁.heap →
   s₁.heap.get? fa=some o→o.data=.func (docDef d.name d.params d.body d.scope pm cd doc)→s₁.heap.CodeRec cd d.name→mg d.name=some (.ref fa) →
   s₁.heap.get? a=some { cls:=.type "list",data:=.seq vs.toArray }→IntsAre vs ns→ns.length≤n→s₁.gens=#[] →
   codeAny (model l.prog w) callerA (.call (.ref fa) ⟨[.ref a],[]⟩) (fun r s'=>r=.ok (.ret (.bool true))∧OldK s₁.heap s'.heap∧s'.os=s₁.os∧AllBare s'.gens) s₁) :
  WalkO q loose XP YP l.row.toRowW d [] (fun f vs=>PySem.call f vs):=by
 intro w s₀ s₁ mg mb G Y fa o pm cd doc dV kV ho hd hcd hD hmg hg args vals as hpre hlay hrd hwl hlo
 obtain rfl:dV=.none:=Dflts.none hD hdf
 obtain rfl:kV=.none:=Dflts.noKw hD
 obtain ⟨a,vs,ns,rfl,rfl,hobj,hints,hlen⟩:=zg7 hn hpre hwl
 refine enter_call (codeAny_mono (call w s₀ s₁ mg mb fa o pm cd doc a vs ns G Y ho (fd_plain hd) hcd hmg hobj hints hlen hg) fun r s' hq=>?_)
 obtain ⟨rfl,h2,h3,h4⟩:=hq
 exact ⟨.inl ⟨.bool true,.bool true,[],rfl,fun _=>rfl,.bool true,zg8 l _,fun _=>⟨List.Pairwise.nil,fun _ hm=>(nomatch hm)⟩⟩,h2,h3,h4⟩
section
variable {prog:Program}{w:World}{A:Around}{E:Value→Shared→Prop}{s:Shared}{K:Frag}
def noObjs (h:Heap):Heap:={ h with objs:=#[] }
theorem noObjs_get (h:Heap) (b:Addr):(noObjs h).get? b=none:=by
 cases e:(noObjs h).get? b with
 |none=>rfl
 |some o=>exact absurd (Heap.lt_size e) (Nat.not_lt_zero _)
def ledger (h:Heap) (L d:Addr):List (Addr×Obj):=(List.range h.objs.size).filterMap fun a=>if a=L∨a=d then none else (h.get? a).map fun o=>(a,o)
theorem mem_ledger {h:Heap}{L d a:Addr}{o:Obj}:(a,o)∈ledger h L d↔a≠L∧a≠d∧h.get? a=some o:=by
 unfold ledger
 rw[List.mem_filterMap]
 constructor
 ·rintro ⟨b,_,e⟩
  split at e
  ·cases e
  ·rename_i hb
   obtain ⟨o',ho,e'⟩:=Option.map_eq_some_iff.mp e
   cases e'
   exact ⟨fun q=>hb (.inl q),fun q=>hb (.inr q),ho⟩
 ·rintro ⟨n1,n2,ho⟩
  refine ⟨a,List.mem_range.mpr (Heap.lt_size ho),?_⟩
  rw[if_neg (show ¬(a=L∨a=d) from fun q=>q.elim n1 n2),ho]<;>rfl
theorem fr_all {h:Heap}{L:Addr}{m:Str→Option Value}(n:h.Ns L m):Fr (noObjs h) L h m:=
 ⟨n,fun b o e=>(by rw[noObjs_get] at e;cases e),Nat.zero_le _⟩
end
end Att
namespace L2
open PySem PySem.Spec PyProof.Rows
theorem ze2:∀ {vs:List Value}{ns:List Int},IntsAre vs ns→Vals (ns.map V.int) vs
 |_,_,.nil=>.nil
 |_,_,.cons n t h=>.cons ⟨t,rfl⟩ (ze2 h)
def za0 (s:Stmt) (j:Nat):Stmt:=match s with
 |.ClassDef _ _ _ body _ _ _ _ _ _ _=>body.getD j (.Pass ⟨0,0,0,0⟩)
 |_=>.Pass ⟨0,0,0,0⟩
def zbz (s:Stmt):Arguments:=match s with
 |.FunctionDef _ a _ _ _ _ _ _ _ _=>a
 |_=>{ posonlyargs:=[],args:=[],vararg:=none,kwonlyargs:=[],kw_defaults:=[],kwarg:=none,defaults:=[] }
def zba (s:Stmt):List Stmt:=match s with
 |.FunctionDef _ _ b _ _ _ _ _ _ _=>b
 |_=>[]
def zag (s:Stmt):Scope:=match s with
 |.FunctionDef _ _ _ _ _ _ sc _ _ _=>sc
 |_=>{ kind:=.function,names:=[],isGenerator:=false,isCoroutine:=false }
abbrev CX0:CXT:=fun _ _ _ _ _ _=>False
abbrev E0:XK:=fun _ _ _=>False
theorem pass0 {X:Cx}:zc2 CX0 X E0:=fun _ _ _ _ _ _ _ h=>h.elim
structure Fun (K:W.Frag) (x qual:Str) (st:Stmt) (f:Addr) (fd:FuncData):Prop where
 ex:∃(oc:Value) (od:Option Addr) (kV doc pm:Value) (an:Option Addr) (cdv ct:Value) (osl:Array (Option Value)),
  fd=W.fnOf x qual (zbz st) (zba st) (zag st) .none kV doc pm an cdv ct∧K.lookup f=some ⟨oc,od,.func fd,osl⟩∧W.codeIn K cdv qual=true
 kp:W.keepIn K (.ref f)=true
section
variable {P:Program}{w:World}{K:W.Frag}{mg:Str→Option Value}{base:Heap}
theorem Fun.ok {x qual:Str}{st:Stmt}{f:Addr}{fd:FuncData}{N ps:List Str}{k:Nat}{sp:Sp}(F:Fun K x qual st f fd) (S:zav N ps (zag st)) (len:∀vs H Q E,sp vs H Q E→vs.length=ps.length)
  (hbody:∀(cdv:Value) (A:Around) (outer:List Env) (s:Shared) (H:Hp) (vs:List V) (Q:VK) (E:XK),Room k (A.deeper (envOfC qual (zag st) s.heap.objs.size f cdv))→sp vs H Q E →
   ∃t,PSs (cxOf CX0 P w K mg base N qual (zag st) f cdv A outer s H E).nox (zba st) t∧t { nx:=fun _ H'=>Q .non H',rt:=Q } (start N vs) H):FnOk P w K mg base CX0 (k+1) f fd ps sp:=by
 obtain ⟨oc,od,kV,doc,pm,an,cdv,ct,osl,rfl,lk,hcd⟩:=F.ex
 refine zj5 lk hcd S len fun A outer s H vs Q E hr hsp=>?_
 obtain ⟨t,h,q⟩:=hbody cdv A outer s H vs Q E hr hsp
 exact ⟨t,h.nox,q⟩
theorem Fun.binds {x qual:Str}{st:Stmt}{f:Addr}{fd:FuncData}{ps:List Str}(F:Fun K x qual st f fd)
  (h:∀(kV doc pm:Value) (an:Option Addr) (cdv ct:Value) (us:List Value),us.length=ps.length→bindArgs (W.fnOf x qual (zbz st) (zba st) (zag st) .none kV doc pm an cdv ct) ⟨us,[]⟩=pure (ps.zip us)):Binds K fd ps []:=by
 obtain ⟨oc,od,kV,doc,pm,an,cdv,ct,osl,rfl,lk,hcd⟩:=F.ex
 exact .all (h kV doc pm an cdv ct)
theorem zg9 {x qual:Str}{st:Stmt}{f:Addr}{oc:Value}{od an:Option Addr}{osl:Array (Option Value)}{kV doc pm cdv ct:Value}(l:K.lookup f=some ⟨oc,od,.func (W.fnOf x qual (zbz st) (zba st) (zag st) .none kV doc pm an cdv ct),osl⟩)
  (c:W.codeIn K cdv qual=true) (k:W.keepIn K (.ref f)=true):Fun K x qual st f (W.fnOf x qual (zbz st) (zba st) (zag st) .none kV doc pm an cdv ct):=⟨⟨oc,od,kV,doc,pm,an,cdv,ct,osl,rfl,l,c⟩,k⟩
end
section
variable {X:Cx}
theorem pv (i:Nat){x:Str}{pos:Pos}(hN:X.N[i]?=some x:=by rfl) (hv:Vis X.env.scope x:=by first|exact Or.inl rfl|exact Or.inr (Or.inl rfl)|exact Or.inr (Or.inr rfl)) (hd:(x==("__debug__":Str))=false:=by decide)
  (hcd:(x==("__classdict__":Str))=false:=by decide):PE X (.Name x pos) (tVar i):=zkY hN hv hd hcd
end
theorem iteF {A B:Prop}(h:B):if false=true then A else B:=by
 rw[if_neg Bool.false_ne_true]
 exact h
theorem iteT {A B:Prop}(h:A):if true=true then A else B:=by
 rw[if_pos rfl]
 exact h
theorem ite2 {c A B:Prop} [Decidable c] (h1:c→A) (h2:¬c→B):if c then A else B:=by
 by_cases h:c
 ·rw[if_pos h]
  exact h1 h
 ·rw[if_neg h]
  exact h2 h
theorem iteNS {c A B:Prop} [Decidable c] (hc:c) (h:B):if (!decide c)=true then A else B:=by
 rw[decide_eq_true hc]
 exact iteF h
def Same (H H':Hp):Prop:=∀b o,H b=some o→H' b=some o
theorem Same.refl (H:Hp):Same H H:=fun _ _ h=>h
theorem Same.trans {H H1 H2:Hp}(a:Same H H1) (b:Same H1 H2):Same H H2:=fun c o h=>b c o (a c o h)
theorem Same.free {H H':Hp}(e:Same H H'){l:Addr}(h:H' l=Option.none):H l=Option.none:=by
 cases q:H l with
 |none=>rfl
 |some o=>
  rw[e l o q] at h
  cases h
theorem zcP (env:Env):∀(names:List (Str×NameKind)) (acc:List (Str×Addr)),(∀x∈names,x.2=.free→∃c,env.cells.lookup x.1=some c) →
  (∀x c,acc.lookup x=some c→env.cells.lookup x=some c) →
  ∃cl:List (Str×Addr),(forIn names acc (fun (x:Str×NameKind) r=>(if (x.2==.free)=true then cellOf env x.1 >>= fun a=>pure (ForInStep.yield ((x.1,a)::r)) else pure (ForInStep.yield r):Sem (ForInStep (List (Str×Addr))))))=pure cl ∧
   (∀x c,cl.lookup x=some c→env.cells.lookup x=some c)∧(∀x c,acc.lookup x=some c→∃d,cl.lookup x=some d)∧(∀x∈names,x.2=.free→∃c,cl.lookup x.1=some c)
 |[],acc,_,h2=>⟨acc,rfl,h2,fun x c e=>⟨c,e⟩,fun x hx=>by simp at hx⟩
 |(n,k)::r,acc,h1,h2=>by
  rw[List.forIn_cons]
  by_cases hk:k=.free
  ·subst hk
   obtain ⟨c,hc⟩:=h1 (n,.free) List.mem_cons_self rfl
   obtain ⟨cl,e,a1,a2,a3⟩:=zcP env r ((n,c)::acc) (fun x hx=>h1 x (List.mem_cons_of_mem _ hx)) (fun x d e=>by
    rw[List.lookup_cons] at e
    cases hb:x==n with
    |true=>
     rw[hb] at e
     have hxn:x=n:=by simpa using hb
     cases e
     rw[hxn];exact hc
    |false=>rw[hb] at e;exact h2 x d e)
   have hco:cellOf env n=pure c:=by unfold cellOf;simp only at hc;rw[hc]
   refine ⟨cl,?_,a1,fun x d e=>?_,fun x hx hf=>?_⟩
   ·simp only[beq_self_eq_true,if_true,hco,pure_bind]
    exact e
   ·by_cases hx:x=n
    ·subst hx;exact a2 x c (by simp[List.lookup_cons])
    ·exact a2 x d (by rw[List.lookup_cons];have:(x==n)=false:=by simpa using hx
                      rw[this];exact e)
   ·rcases List.mem_cons.mp hx with rfl|hx
    ·exact a2 n c (by simp[List.lookup_cons])
    ·exact a3 x hx hf
  ·obtain ⟨cl,e,a1,a2,a3⟩:=zcP env r acc (fun x hx=>h1 x (List.mem_cons_of_mem _ hx)) h2
   have hb:(k==NameKind.free)=false:=by simpa using hk
   refine ⟨cl,?_,a1,a2,fun x hx hf=>?_⟩
   ·simp only[hb,Bool.false_eq_true,if_false,pure_bind]
    exact e
   ·rcases List.mem_cons.mp hx with rfl|hx
    ·exact absurd hf hk
    ·exact a3 x hx hf
theorem zcQ (env:Env) (sc:Scope) (h1:∀x∈sc.names,x.2=.free→∃c,env.cells.lookup x.1=some c) :
  ∃cl:List (Str×Addr),closureFor sc env=pure cl∧(∀x c,cl.lookup x=some c→env.cells.lookup x=some c)∧(∀x∈sc.names,x.2=.free→∃c,cl.lookup x.1=some c):=by
 obtain ⟨cl,e,a1,_,a3⟩:=zcP env sc.names [] h1 (fun x c e=>by simp at e)
 refine ⟨cl,?_,a1,a3⟩
 unfold closureFor
 simp only[bind_pure]
 exact e
def Cx.blk (X:Cx) (sc:Scope) (cl:List (Str×Addr)) (N':List Str) (s3:Shared) (H3:Hp) (ex:List Addr):Cx:=
 { X with N:=N',s₀:=s3,H₀:=H3,env:=compEnvC sc cl s3.heap.objs.size X.env,outer:=X.stack,stack:=X.stack,ex:=ex,fn:=fun _=>false,pn:=[],xe:=fun _ _=>False }
structure BlkOk (X:Cx) (sc:Scope):Prop where
 kind:sc.kind=.function
 names:∀x∈sc.names,x.2=.local→sc.names.lookup x.1=some .local
 nocell:∀x∈sc.names,x.2≠.cell
 free:∀x∈sc.names,x.2=.free→X.env.kindOf x.1=some .cell
theorem zbb {names:List (Str×NameKind)}{x:Str}{k:NameKind}(h:names.lookup x=some k):(x,k)∈names:=PySem.mem_of_lookup h
theorem zaU {env:Env}:∀ {names:List (Str×NameKind)}{x:Str}{k:NameKind},
  (names.map fun (n,k)=>if (k==NameKind.free&&env.scope.kind==.function&&env.kindOf n==some .cell) then (n,NameKind.cell) else (n,k)).lookup x=some k →
  names.lookup x=some k∨(k=.cell∧names.lookup x=some .free)
 |[],_,_,h=>by simp at h
 |(n,k0)::r,x,k,h=>by
  have ih:=@zaU env r x k
  change List.lookup x ((if (k0==NameKind.free&&env.scope.kind==.function&&env.kindOf n==some .cell)=true then (n,NameKind.cell) else (n,k0))::_)=_ at h
  cases hx:x==n with
  |true=>
   by_cases hc:(k0==NameKind.free&&env.scope.kind==.function&&env.kindOf n==some .cell)=true
   ·rw[if_pos hc] at h
    simp only[List.lookup_cons,hx] at h
    have hk:k0=.free:=by simp only[Bool.and_eq_true,beq_iff_eq] at hc;exact hc.1.1
    cases h
    exact .inr ⟨rfl,by simp only[List.lookup_cons,hx,hk]⟩
   ·rw[if_neg hc] at h
    simp only[List.lookup_cons,hx] at h
    cases h
    exact .inl (by simp only[List.lookup_cons,hx])
  |false=>
   have h':List.lookup x (r.map fun (n,k)=>if (k==NameKind.free&&env.scope.kind==.function&&env.kindOf n==some .cell) then (n,NameKind.cell) else (n,k))=some k:=by
    by_cases hc:(k0==NameKind.free&&env.scope.kind==.function&&env.kindOf n==some .cell)=true
    ·rw[if_pos hc] at h;simp only[List.lookup_cons,hx] at h;exact h
    ·rw[if_neg hc] at h;simp only[List.lookup_cons,hx] at h;exact h
   simp only[List.lookup_cons,hx]
   exact ih h'
section
variable {X:Cx}{pins:List (Addr×Obj)}{σ σ':St}{H:Hp}{s:Shared}{sc:Scope}{cl:List (Str×Addr)}{N':List Str}{fp:List Addr}
theorem ze3 (I:Inv X pins σ H s) (B:BlkOk X sc) (c1:∀x c,cl.lookup x=some c→X.env.cells.lookup x=some c) (c2:∀x∈sc.names,x.2=.free→∃c,cl.lookup x.1=some c)
  (hf:∀b∈fp,FpOk X pins H b∧b<s.heap.objs.size) (hlen:σ'.length=N'.length)
  (hcap:∀(i:Nat) (x:Str) (v:V),N'[i]?=some x→σ'[i]?=some (some v)→Vis (relabel sc X.env) x→∃j:Nat,X.N[j]?=some x∧σ[j]?=some (some v)∧Vis X.env.scope x∧sc.names.lookup x=some .free)
  {h':Heap} {tk:Nat} (hns:h'.Ns s.heap.objs.size (fun _=>none)) (hsb:Heap.SameBut s.heap.objs.size (s.heap.push { cls:=.type "dict",data:=.dict #[] }) h') :
  Inv (X.blk sc cl N' s H fp) [] σ' H { s with heap:=h',toks:=tk }:=by
 have hk:∀b u,s.heap.get? b=some u→h'.get? b=some u:=fun b u e=>(hsb.2 b (Nat.ne_of_lt (Heap.lt_size e))).trans (Heap.get?_push_of_some _ e)
 have hcell:∀x c,cl.lookup x=some c→c<s.heap.objs.size:=fun x c e=>by
  obtain ⟨v,q⟩:=I.cell x c (c1 x c e)
  exact q.lt
 have cll:∀x c,cl.lookup x=some c→∃v,h'.IsCell c v:=fun x c e=>by
  obtain ⟨v,o,e1,e2⟩:=I.cell x c (c1 x c e)
  exact ⟨v,o,hk _ _ e1,e2⟩
 refine ⟨⟨I.ok.mod,B.kind,I.ok.glob,I.ok.blt,Nat.le_refl _,fun x y c e1 e2=>I.ok.inj x y c (c1 x c e1) (c1 y c e2),fun x hx=>?_,fun x c z=>(by cases z),I.ok.hd,I.ok.frames,.inl rfl,fun b hb=>⟨Nat.ne_of_lt (hf b hb).2,fun x c e=>(hf b hb).1.2.2.2.2.1 x c (c1 x c e)⟩,
  I.bs,?_,fun b o e hb=>?_,fun b hb hb'=>?_,I.stack,I.stkFree⟩,rfl,I.bare,Un.kept hk,⟨_,hns,fun i x v e1 e2 e3=>?_⟩,cll,I.hok.fresh (Nat.le_refl _),fun x c e=>I.freeC x c (c1 x c e),fun p hp=>absurd (show p∈([]:List (Addr×Obj)) from hp) (by simp),I.hok.kept hk,hlen⟩
 ·have hx':(relabel sc X.env).names.lookup x=some .cell∨(relabel sc X.env).names.lookup x=some .free:=hx
  have:sc.names.lookup x=some .free:=by
   rcases hx' with h|h
   ·rcases zaU h with h|⟨_,h⟩
    ·exact absurd rfl (B.nocell _ (zbb h))
    ·exact h
   ·rcases zaU h with h|⟨h0,h⟩
    ·exact h
    ·cases h0
  exact c2 (x,.free) (zbb this) rfl
 ·exact Nat.le_trans I.ok.bsz I.sz
 ·have:=(hf b hb).1.2.2.2.1
  rcases this with z|z
  ·exact I.ok.noex b o e z
  ·exact absurd (Nat.lt_of_lt_of_le (Heap.lt_size e) (Nat.le_trans I.ok.bsz z)) (Nat.lt_irrefl _)
 ·have:=I.stkSub b hb'
  rcases List.mem_cons.mp this with z|z
  ·exact (hf b hb).1.2.1 z
  ·exact (hf b hb).1.2.2.1 z
 ·obtain ⟨j,e4,e5,e6,e7⟩:=hcap i x v e1 e2 e3
  obtain ⟨m,hn,hl⟩:=I.loc
  obtain ⟨u,r,l⟩:=hl j x v e4 e5 e6
  refine ⟨u,r,?_⟩
  have kf:=B.free (x,.free) (zbb e7) rfl
  have kf':X.env.kindOf x=some .cell:=kf
  rcases l with ⟨k1,_⟩|⟨_,c,e8,e9⟩
  ·rw[kf'] at k1;cases k1
  ·obtain ⟨d,hd⟩:=c2 (x,.free) (zbb e7) rfl
   have hd':cl.lookup x=some d:=hd
   have:=c1 x d hd'
   rw[e8] at this
   cases this
   refine .inr ⟨?_,c,hd',?_⟩
   ·rcases e3 with z|z|z
    ·rcases zaU z with h|⟨h0,h⟩
     ·rw[e7] at h;cases h
     ·cases h0
    ·exact .inl z
    ·exact .inr z
   ·obtain ⟨o,q1,q2⟩:=e9
    exact ⟨o,hk _ _ q1,q2⟩
theorem zha {H':Hp}{σ'':St}{pins':List (Addr×Obj)}{s':Shared}{h'':Heap}(I:Inv X pins σ H s) (hf:∀b∈fp,FpOk X pins H b∧b<s.heap.objs.size) (J:Inv (X.blk sc cl N' s H fp) pins' σ'' H' s')
  (hsb:Heap.SameBut s.heap.objs.size s'.heap h''):Inv X pins σ H' { s' with heap:=h'' }:=by
 have ne:∀b o,s.heap.get? b=some o→b≠s.heap.objs.size:=fun b o e=>Nat.ne_of_lt (Heap.lt_size e)
 have hfree:H' s.heap.objs.size=none:=J.free
 have B:Un (frs X.stack) fp H H' s.heap s'.heap:=J.base
 refine I.call' (ch:=fp) (s':={ s' with heap:=h'' }) J.os ⟨fun b o e n hb hx=>?_,fun b o e n hb hx=>?_,B.free,fun b o e hx=>?_,B.tups,B.frzs,B.tbls⟩ (fun b o e=>?_) J.bare fun b hb=>?_
 ·exact (hsb.2 b (ne b o e)).trans (B.keep b o e n hb hx)
 ·obtain ⟨sl,q⟩:=B.slot b o e n hb hx
  exact ⟨sl,(hsb.2 b (ne b o e)).trans q⟩
 ·obtain ⟨o',q⟩:=B.there b o e hx
  exact ⟨o',(hsb.2 b (ne b o e)).trans q⟩
 ·refine (J.hok b o e).stay (fun c w' hc q=>(hsb.2 c ?_).trans q) (fun _ q=>q) fun _ _ q=>q
  rintro rfl
  rcases hc with rfl|hc
  ·rw[hfree] at e;cases e
  ·rw[hfree] at hc;cases hc
 ·obtain ⟨f0,f1,f2,f3,f4,f5⟩:=(hf b hb).1
  exact ⟨f3,f1,f4,f5⟩
end
abbrev TR:=St→Hp→(St→Hp→Prop)→Prop
def PR (X:Cx) (rest:Sem Unit) (t:TR):Prop:=
 ∀(pins:List (Addr×Obj)) (s:Shared) (σ:St) (H:Hp) (N:St→Hp→Prop),Inv X pins σ H s→t σ H N→wpAny (model X.prog X.w) X.A rest (fun _ s'=>∃σ' H',Inv X pins σ' H' s'∧N σ' H') X.xe s
def PTs (X:Cx) (ifs:List Expr) (t:TT):Prop:=
 ∀(pins:List (Addr×Obj)) (s:Shared) (σ:St) (H:Hp) (Q:Bool→Hp→Prop),Inv X pins σ H s→t σ H Q →
  wpAny (model X.prog X.w) X.A (forIn ifs true fun c r=>if r=true then do let ok ← isTrue c X.env (eval c X.env);pure (ForInStep.yield ok) else pure (ForInStep.yield r)) (TP X pins σ Q) X.xe s
def tYes:TT:=fun _ H Q=>Q true H
theorem zbV {X:Cx}:PTs X [] tYes:=fun _ _ _ H _ I h=>wpAny_tests_nil ⟨H,I,h⟩
theorem zcR {X:Cx}{c:Expr}{t:TT}(h:PT X c t):PTs X [c] t:=fun pins s σ H Q I q=>wpAny_tests_one (h pins s σ H Q I q)
def tLoop (J:It) (g:TG) (tt:TT) (tr:TR) (Qe:St→Hp→Prop) (σ:St) (H:Hp):Prop:=∃W:Nat→Nat→St→Hp→Prop,(∃m,W 0 m σ H)∧∀i m σ H,W i m σ H →
 (J.stop i H∧Qe σ H)∨(J.go i H∧∃N:St→Hp→Prop,(∀σ' H',N σ' H'→∃m',m'<m∧W (i+1) m' σ' H')∧∀x H',J.yld i H x H'→g x σ H' fun σ2 H2=>tt σ2 H2 fun b H3=>if b=true then tr σ2 H3 N else N σ2 H3)
theorem zhb {X:Cx}(hE:X.xe=fun _ _=>False) (hc:X.calm=true){e:Expr}{d:Nat}{tg iter:Expr}{ifs:List Expr}{acc:Value}{rest:Sem Unit}{g:TG}{tt:TT}{tr:TR}{J:It}{fp:List Addr}{it:Addr}{tn:Nat→Heap→Prop}
  (heq:compTurn e d (.ref it) acc X.env=(do
   standAt iter.pos
   match ← pyNext (.ref it) with
   |none=>pure (.done .next)
   |some v=>
    letOwnedTupleGo tg (.ref it) v
    assign tg X.env v
    let mut ok:=true
    for c in ifs do
     if ok then ok ← isTrue c X.env (eval c X.env)
    if ok then rest
    again (.compLoop e d (.ref it) acc X.env)))
  (hq:(Code.compLoop e d (.ref it) acc X.env).quiet=true) (hu:X.A.under (.compLoop e d (.ref it) acc X.env)=X.A) (hden:(model X.prog X.w).den (.compLoop e d (.ref it) acc X.env)=(compTurn e d (.ref it) acc X.env).onRaise (fun x=>do noteFrame x X.env;theTreesLotGoes x))
  (hg:PG X tg g) (ht:PTs X ifs tt) (hr:PR X rest tr) (T:Turn X.prog X.w X.K tg J fp it tn)
  {pins:List (Addr×Obj)} {σ:St} {H:Hp} {s:Shared} {Qe:St→Hp→Prop} {R:Result→Shared→Prop} (I:Inv X pins σ H s) (st:tn 0 s.heap) (f2:∀b∈fp,FpOk X pins H b) (h:tLoop J g tt tr Qe σ H)
  (hR:∀s' σ' H',Inv X pins σ' H' s'→Qe σ' H'→R (.ok .next) s') :
  codeAny (model X.prog X.w) X.A (.compLoop e d (.ref it) acc X.env) R s:=by
 obtain ⟨W,⟨m0,w0⟩,turn⟩:=h
 have stat:∀ {H':Hp},(∀b∈fp,H' b=none)→∀b∈fp,FpOk X pins H' b:=fun hn b hb=>⟨hn b hb,(f2 b hb).2⟩
 have no:∀ {α:Type} {t:Sem α} {Q:α→Shared→Prop} {s:Shared} {E:Value→Shared→Prop},wpAny (model X.prog X.w) X.A t Q X.xe s→wpAny (model X.prog X.w) X.A t Q E s:=fun {α t Q s E} h=>
  wpAny_mono h (fun _ _ x=>x) fun _ _ x=>by rw[hE] at x;exact x.elim
 refine codeAny_loop hq (fun n s'=>∃i σ' H',Inv X pins σ' H' s'∧tn i s'.heap∧(∀b∈fp,H' b=none)∧W i n σ' H') (fun n s3 hI=>?_) m0 ⟨0,σ,H,I,st,fun b hb=>(f2 b hb).1,w0⟩
 rw[hu,hden]
 refine wpAny_noted ?_
 rw[heq]
 obtain ⟨i,σ3,H3,I3,st3,fr3,w3⟩:=hI
 refine wpAny_bind (wpAny_standAt (wpAny_bind ?_))
 rcases turn i n σ3 H3 w3 with ⟨stop,qn⟩|⟨go,N,hN,step⟩
 ·refine no (thn (T.done X rfl rfl rfl hc i pins s3 σ3 H3 X.xe I3 (stat fr3) st3 stop) fun r s4 ⟨hr4,I4⟩=>?_)
  subst hr4
  exact wpAny_pure (hR _ _ _ I4 qn)
 ·refine no (thn (T.item X rfl rfl rfl hc i pins s3 σ3 H3 X.xe I3 (stat fr3) st3 go) fun r s4 ⟨u,hr4,h4⟩=>?_)
  subst hr4
  refine wpAny_bind (no (thn h4 fun _ s5 ⟨x,H5,I5,r5,y5,st5,fr5⟩=>?_))
  have I5':=I5.pinned (stat fr5) (T.obj _ _ st5)
  refine wpAny_bind (no (thn (hg _ s5 σ3 H5 x u _ I5' r5 (step x H5 y5)) fun _ s6 ⟨σ6,H6,I6,q6⟩=>?_))
  have again:∀ {σ7:St} {H7:Hp} {s7:Shared},Inv X (pins++zdQ fp s5.heap) σ7 H7 s7→N σ7 H7→∃m,m<n∧∃i σ' H',Inv X pins σ' H' s7∧tn i s7.heap∧(∀b∈fp,H' b=none)∧W i m σ' H':=fun {σ7 H7 s7} I7 n7=>by
   obtain ⟨m',hm,w7⟩:=hN σ7 H7 n7
   refine ⟨m',hm,i+1,σ7,H7,I7.unpinned,T.keep _ _ _ st5 fun b hb o e=>(I7.pin (b,o) (List.mem_append_right _ (List.mem_append_right _ (zbt hb e)))).1,fun b hb=>?_,w7⟩
   obtain ⟨o,e,dd⟩:=T.obj _ _ st5 b hb
   exact (I7.pin (b,o) (List.mem_append_right _ (List.mem_append_right _ (zbt hb e)))).2.1
  refine wpAny_bind (no (thn (ht _ s6 σ6 H6 _ I6 q6) fun ok s7 ⟨H7,I7,q7⟩=>?_))
  cases ok with
  |false=>
   rw[if_neg (by simp)] at q7
   exact wpAny_pure ⟨rfl,again I7 q7⟩
  |true=>
   rw[if_pos rfl] at q7
   refine wpAny_bind (no (thn (hr _ s7 σ6 H7 _ I7 q7) fun _ s8 ⟨σ8,H8,I8,q8⟩=>?_))
   exact wpAny_pure ⟨rfl,again I8 q8⟩
def tApp (p:Addr) (te:TE):TR:=fun σ H N=>te σ H fun v H5=>∃ys,H5 p=some (.lst ys)∧ys.length<sizeLine∧N σ (upd H5 p (.lst (ys++[v])))
theorem zjI {X:Cx}{elt:Expr}{te:TE}{p:Addr}(he:PE X elt te):PR X (do let _ ← call (.builtin "list.append") [.ref p,←eval elt X.env]) (tApp p te):=by
 intro pins s σ H N I h
 refine wpAny_bind (thn (he pins s σ H _ I h) fun u s1 ⟨v,H1,I1,r1,ys,hp,hl,q1⟩=>?_)
 refine wpAny_bind (thn (zaK pins s1 σ H1 (.ref p) [v] _ [u] (fun _ H2=>N σ H2) I1 rfl (.cons r1 .nil) ⟨p,ys,v,rfl,rfl,hp,hl,q1⟩) fun _ s2 ⟨_,H2,I2,_,q2⟩=>?_)
 exact wpAny_pure ⟨σ,H2,I2,q2⟩
def capSt (σ:St):List (Option Nat)→St
 |[]=>[]
 |none::js=>none::capSt σ js
 |some j::js=>(σ[j]?).join::capSt σ js
def CapsOk (X:Cx) (sc:Scope):List Str→List (Option Nat)→Prop
 |[],[]=>True
 |_::xs,none::js=>CapsOk X sc xs js
 |x::xs,some j::js=>X.N[j]?=some x∧Vis X.env.scope x∧sc.names.lookup x=some .free∧CapsOk X sc xs js
 |_,_=>False
theorem CapsOk.len {X:Cx}{sc:Scope}{σ:St}:∀ {N':List Str}{js:List (Option Nat)},CapsOk X sc N' js→(capSt σ js).length=N'.length
 |[],[],_=>rfl
 |_::xs,none::js,h=>by simp only[capSt,List.length_cons];rw[CapsOk.len (N':=xs) (js:=js) h]
 |x::xs,some j::js,h=>by simp only[capSt,List.length_cons];rw[CapsOk.len (N':=xs) (js:=js) h.2.2.2]
 |[],_::_,h=>by cases h
 |_::_,[],h=>by cases h
theorem CapsOk.get {X:Cx}{sc:Scope}{σ:St}:∀ {N':List Str}{js:List (Option Nat)}{i:Nat}{x:Str}{v:V},CapsOk X sc N' js→N'[i]?=some x→(capSt σ js)[i]?=some (some v) →
  ∃j:Nat,X.N[j]?=some x∧σ[j]?=some (some v)∧Vis X.env.scope x∧sc.names.lookup x=some .free
 |[],[],i,x,v,_,h1,_=>by simp at h1
 |y::xs,none::js,0,x,v,h,h1,h2=>by simp[capSt] at h2
 |y::xs,none::js,i+1,x,v,h,h1,h2=>CapsOk.get (N':=xs) (js:=js) (i:=i) h (by simpa using h1) (by simpa [capSt] using h2)
 |y::xs,some j::js,0,x,v,h,h1,h2=>by
  have e1:y=x:=by simpa using h1
  subst e1
  refine ⟨j,h.1,?_,h.2.1,h.2.2.1⟩
  have e2:(σ[j]?).join=some v:=by simpa [capSt] using h2
  cases q:σ[j]? with
  |none=>rw[q] at e2;cases e2
  |some o=>rw[q] at e2;exact congrArg some e2
 |y::xs,some j::js,i+1,x,v,h,h1,h2=>CapsOk.get (N':=xs) (js:=js) (i:=i) h.2.2.2 (by simpa using h1) (by simpa [capSt] using h2)
 |[],_::_,_,_,_,h,_,_=>by cases h
 |_::_,[],_,_,_,h,_,_=>by cases h
def tComp (js:List (Option Nat)) (wi:TI) (g:TG) (tt:TT) (te:TE):TE:=fun σ H Q=>wi σ H fun J H1=>∀p,H1 p=none→tLoop J g tt (tApp p te) (fun _ H'=>Q (.ref p) H') (capSt σ js) (upd H1 p (.lst []))
section
variable {X:Cx}{elt tg iter:Expr}{ifs:List Expr}{sc:Scope}{pos:Pos}{N':List Str}{js:List (Option Nat)}{wi:TI}{g:TG}{tt:TT}{te:TE}
theorem zds (hc:X.calm=true) (B:BlkOk X sc) (C:CapsOk X sc N' js){cl:List (Str×Addr)}
  (c1:∀x c,cl.lookup x=some c→X.env.cells.lookup x=some c) (c2:∀x∈sc.names,x.2=.free→∃c,cl.lookup x.1=some c)
  (hg:∀cl s H fp,PG (X.blk sc cl N' s H fp) tg g) (ht:∀cl s H fp,PTs (X.blk sc cl N' s H fp) ifs tt) (he:∀cl s H fp,PE (X.blk sc cl N' s H fp) elt te)
  {pins:List (Addr×Obj)} {σ:St} {H:Hp} {s:Shared} {Qe:Addr→Hp→Prop} {it:Addr} {fp:List Addr} {tn:Nat→Heap→Prop} {J:It} {RR:Value→Addr→Result→Shared→Prop}
  (I:Inv X pins σ H s) (T:Turn X.prog X.w X.K tg J fp it tn) (st:tn 0 s.heap) (hf:∀b∈fp,FpOk X pins H b)
  (h:∀p,H p=none→tLoop J g tt (tApp p te) (fun _ H'=>Qe p H') (capSt σ js) (upd H p (.lst [])))
  (hRR:∀p C s' H',C≠p→(∀b o,s.heap.get? b=some o→b≠C)→H' C=none→(∃m,s'.heap.Ns C m)→Qe p H'→(∀h'',Heap.SameBut C s'.heap h''→Inv X pins σ H' { s' with heap:=h'' })→FpOk X pins H' C→RR (.ref p) C (.ok .next) s') :
  wpAny (model X.prog X.w) X.A (newList []) (fun acc s₃=>wpAny (model X.prog X.w) X.A (newFunctionEnv sc X.env.globals cl [] X.env.qual none .none (some X.env)) (fun cenv s₄=>
   codeAny (model X.prog X.w) X.A (.compStart (.ListComp elt [⟨tg,iter,ifs,0⟩] sc pos) 0 (.ref it) acc { cenv with scope:=relabel sc X.env }) (RR acc cenv.locals) s₄) X.xe s₃) X.xe s:=by
 refine wpAny_newObj_type ?_
 have I3:=I.lnew (ys:=[]) (its:=[]) (t':=s.toks) .nil (by simp)
 generalize hs3:({ s with heap:=s.heap.push { cls:=.type "list",data:=.seq ([]:List Value).toArray },toks:=s.toks }:Shared)=s3 at I3
 have hp:H s.heap.objs.size=none:=I.fresh
 have h3:=h _ hp
 have f3:∀b∈fp,FpOk X pins (upd H s.heap.objs.size (.lst [])) b∧b<s3.heap.objs.size:=fun b hb=>by
  obtain ⟨f0,f1⟩:=hf b hb
  obtain ⟨o,e,_⟩:=T.obj _ _ st b hb
  have lt:=Heap.lt_size e
  refine ⟨⟨by rw[zaj (Nat.ne_of_lt lt)];exact f0,f1⟩,?_⟩
  rw[←hs3]
  show b<(s.heap.push _).objs.size
  rw[Heap.size_push]
  exact Nat.lt_succ_of_lt lt
 have hsz:s3.heap.objs.size=s.heap.objs.size+1:=by rw[←hs3];exact Heap.size_push ..
 have hst3:tn 0 s3.heap:=by rw[←hs3];exact T.keep _ _ _ st fun b hb o e=>Heap.get?_push_of_some _ e
 refine wpAny_newFunctionEnv B.nocell (by intro y hy;simp at hy) (fun h₁ hns₁ hsb₁=>?_) B.kind
 have J4:=ze3 (cl:=cl) (N':=N') (σ':=capSt σ js) (tk:=s3.toks+([]:List (Str×Value)).length) I3 B c1 c2 f3 C.len (fun i x v e1 e2 _=>C.get e1 e2) (show h₁.Ns s3.heap.objs.size (fun _=>none) from hns₁) (show Heap.SameBut s3.heap.objs.size (s3.heap.push { cls:=.type "dict",data:=.dict #[] }) h₁ from hsb₁)
 have hst4:tn 0 h₁:=T.keep _ _ _ hst3 fun b hb o e=>(hsb₁.2 b (Nat.ne_of_lt (Heap.lt_size e))).trans (Heap.get?_push_of_some _ e)
 have f4:∀b∈fp,FpOk (X.blk sc cl N' s3 (upd H s.heap.objs.size (.lst [])) fp) [] (upd H s.heap.objs.size (.lst [])) b:=fun b hb=>by
  obtain ⟨⟨g0,g1,g2,g3,g4,g5⟩,lt⟩:=f3 b hb
  refine ⟨g0,Nat.ne_of_lt lt,fun z=>?_,.inl hb,fun x c e=>g4 x c (c1 x c e),fun p hp=>absurd (show p∈([]:List (Addr×Obj)) from hp) (by simp)⟩
  rcases List.mem_cons.mp (I3.stkSub b z) with z|z
  ·exact g1 z
  ·exact g2 z
 have loop:codeAny (model X.prog X.w) X.A (.compLoop (.ListComp elt [⟨tg,iter,ifs,0⟩] sc pos) 0 (.ref it) (.ref s.heap.objs.size) (compEnvC sc cl s3.heap.objs.size X.env)) (RR (.ref s.heap.objs.size) s3.heap.objs.size) { s3 with heap:=h₁,toks:=s3.toks+([]:List (Str×Value)).length }:=by
  refine zhb (X:=X.blk sc cl N' s3 (upd H s.heap.objs.size (.lst [])) fp) rfl hc (compTurn_list ..) rfl rfl rfl (hg _ _ _ _) (ht _ _ _ _) (zjI (he _ _ _ _)) T J4 hst4 f4 h3 fun s' σ' H' J' q=>?_
  have hend:∀h'',Heap.SameBut s3.heap.objs.size s'.heap h''→Inv X pins σ H' { s' with heap:=h'' }:=fun h'' hs''=>zha I3 f3 J' hs''
  obtain ⟨m,hn,_⟩:=J'.loc
  refine hRR _ _ _ H' (by rw[hsz];exact Nat.succ_ne_self _) (fun b o e=>?_) J'.free ⟨m,hn⟩ q hend (I3.fpOk (Nat.le_refl _) J'.free)
  rw[hsz]
  exact Nat.ne_of_lt (Nat.lt_succ_of_lt (Heap.lt_size e))
 exact codeAny_compStart_list loop (T.self _ 0 _ _ _ hst4 loop)
theorem zbr (hE:X.xe=fun _ _=>False) (hc:X.calm=true) (B:BlkOk X sc) (C:CapsOk X sc N' js) (hi:PI X tg iter wi) (hg:∀cl s H fp,PG (X.blk sc cl N' s H fp) tg g) (ht:∀cl s H fp,PTs (X.blk sc cl N' s H fp) ifs tt) (he:∀cl s H fp,PE (X.blk sc cl N' s H fp) elt te)
  (hs:∀x,foldedSetIterable iter X.env x=pure x:=by intro _;rfl):PE X (.ListComp elt [⟨tg,iter,ifs,0⟩] sc pos) (tComp js wi g tt te):=by
 intro pins s σ H Q I h
 obtain ⟨cl,hcl,c1,c2⟩:=zcQ X.env sc fun x hx hfr=>I.ok.has x.1 (.inl (B.free x hx hfr))
 rw[eval_ListComp]
 refine wpAny_comprehension_free (use:=none) rfl hs hcl B.kind B.names (thn (hi pins s σ H _ I h) fun v s1 h1=>thn h1 fun itv s2 h2=>?_)
 obtain ⟨it,fp,tn,J,H2,e,I2,T,st2,f2,h2⟩:=h2
 subst e
 refine zds (Qe:=fun p H'=>Q (.ref p) H') (RR:=fun acc C=>compPost (model X.prog X.w) X.A X.xe none (EP X pins σ Q) acc C) hc B C c1 c2 hg ht he I2 T st2 f2 h2 ?_
 intro p C s' H' hne hold hfree hns q hend _
 obtain ⟨m,hn⟩:=hns
 exact ⟨m,hn,fun h'' hs''=>⟨.ref p,H',hend h'' hs'',rfl,q⟩⟩
def ziH (i:Nat) (js:List (Option Nat)) (wi:TI) (g:TG) (tt:TT) (te:TE):TS:=fun D σ H=>tComp js wi g tt te σ H fun v H'=>D.nx (σ.set i (some v)) H'
theorem zbK {i:Nat}{y:Str}{py spos:Pos}(hE:X.xe=fun _ _=>False) (hc:X.calm=true) (hN:X.N.Nodup) (hi':X.N[i]?=some y) (hx:Loc X.env.scope y) (B:BlkOk X sc) (C:CapsOk X sc N' js) (hi:PI X tg iter wi) (hg:∀cl s H fp,PG (X.blk sc cl N' s H fp) tg g) (ht:∀cl s H fp,PTs (X.blk sc cl N' s H fp) ifs tt) (he:∀cl s H fp,PE (X.blk sc cl N' s H fp) elt te)
  (hsw:swapsWith (.ListComp elt [⟨tg,iter,ifs,0⟩] sc pos) (some (.Name y py)) spos.line X.env=pure true:=by rfl)
  (hs:∀x,foldedSetIterable iter X.env x=pure x:=by intro _;rfl) (hf:X.fn y=true∨X.env.scope.names.lookup y=some .local:=by first|exact .inl rfl|exact .inr rfl|assumption):PS X (.Assign [.Name y py] (.ListComp elt [⟨tg,iter,ifs,0⟩] sc pos) spos) (ziH i js wi g tt te):=by
 intro pins s σ H D I h
 obtain ⟨cl,hcl,c1,c2⟩:=zcQ X.env sc fun x hx hfr=>I.ok.has x.1 (.inl (B.free x hx hfr))
 rw[exec_Assign_Name_used _ _ _ _ hsw]
 refine wpAny_bind (wpAny_standAt (wpAny_bind ?_))
 show wpAny _ X.A (do let _ ← comprehension (.ListComp elt [⟨tg,iter,ifs,0⟩] sc pos) sc X.env _ (newList []) false (eval iter X.env) (some (assign (.Name y py) X.env))) _ _ s
 refine wpAny_bind (thn (wpAny_comprehension_free (use:=some (assign (.Name y py) X.env)) (Q:=fun _ s'=>SP X pins D .next s') rfl hs hcl B.kind B.names (thn (hi pins s σ H _ I h) fun v s1 h1=>thn h1 fun itv s2 h2=>?_)) fun _ s' hq=>wpAny_pure (wpAny_pure hq))
 obtain ⟨it,fp,tn,J,H2,e,I2,T,st2,f2,h2⟩:=h2
 subst e
 refine zds (Qe:=fun p H'=>D.nx (σ.set i (some (.ref p))) H') (RR:=fun acc C=>compPost (model X.prog X.w) X.A X.xe (some (assign (.Name y py) X.env)) (fun _ s'=>SP X pins D .next s') acc C) hc B C c1 c2 hg ht he I2 T st2 f2 h2 ?_
 intro p C s' H' hne hold hfree hns q hend fpC
 obtain ⟨m,hn⟩:=hns
 have I4:Inv X pins σ H' s':=hend s'.heap (.refl ..)
 obtain ⟨f0,f1,f2',f3,f4,f5⟩:=fpC
 show wpAny _ X.A (assign (.Name y py) X.env (.ref p)) _ _ s'
 refine wpAny_assign_Name (zeT (v:=.ref p) I4 hN hi' hx rfl (fun s'' I5 ⟨a,hsa,ha⟩=>?_) hf)
 have hCa:C≠a:=by
  rcases ha with rfl|ha
  ·exact f1
  ·exact fun z=>f4 y a ha z.symm
 refine ⟨m,hn.sameBut hsa hCa,fun h'' hs''=>⟨_,H',I5.turned (t':=s''.toks) (it:=C) (fun b o hb e=>(hs''.2 b hb).trans e) f0 f1 f3 f4 f5,q⟩⟩
end
section
variable {X:Cx}{e:Expr}{tg:Expr}{sc:Scope}{N':List Str}{js:List (Option Nat)}
end
section
variable {X:Cx}
theorem zhc:∀ {bs:List Bool}{us:List Value},Vals (bs.map V.bl) us→us=bs.map Value.bool
 |[],_,.nil=>rfl
 |b::bs,_,.cons r t=>by
  have e:=zhc (bs:=bs) t
  cases r
  rw[e]
  rfl
theorem ziI {prog:Program}{w:World}{A:Around}(bs:List Bool):TruthOf prog w A (fun i v=>(bs.map Value.bool).toArray[i]?=some v) (fun i=>bs.getD i false):=by
 intro i v s Q E hP hQ
 have e:(bs.map Value.bool)[i]?=some v:=by simpa using hP
 rw[List.getElem?_map] at e
 cases hb:bs[i]? with
 |none=>rw[hb] at e;cases e
 |some b=>
  rw[hb] at e
  cases e
  have:bs.getD i false=b:=by rw[List.getD_eq_getElem?_getD,hb];rfl
  have hQ':Q (bs.getD i false) s:=hQ
  rw[this] at hQ'
  exact wpAny_truthy_bool hQ'
theorem zhd (bs:List Bool):(List.range bs.length).any (fun i=>bs.getD i false)=bs.any id:=by
 rw[Bool.eq_iff_iff,List.any_eq_true,List.any_eq_true]
 constructor
 ·rintro ⟨i,hi,h⟩
  have hi:=List.mem_range.mp hi
  exact ⟨bs[i],List.getElem_mem hi,by simpa [hi] using h⟩
 ·rintro ⟨b,hb,h⟩
  obtain ⟨i,hi,rfl⟩:=List.mem_iff_getElem.mp hb
  exact ⟨i,List.mem_range.mpr hi,by simpa [hi] using h⟩
theorem ziJ (hc:X.calm=true):CallR X (.builtin "any") (fun xs H Q=>∃(p:Addr) (bs:List Bool),xs=[.ref p]∧SqL X.K H p (bs.map V.bl)∧Q (.bl (bs.any id)) H):=by
 intro pins s σ H xs us Q I r h
 obtain ⟨p,bs,rfl,hq,q⟩:=h
 obtain ⟨u,rfl,ru⟩:=vals1 r
 cases ru
 obtain ⟨its,rv,pl,hz⟩:=I.list hq
 have e:=zhc rv
 subst e
 have lt:p<s.heap.objs.size:=by obtain ⟨o,n,e,_⟩:=pl;exact Heap.lt_size e
 refine call_any_walk (wpAny_pyIter_list pl.isList ⟨s.heap.objs.size,_,[s.heap.objs.size],_,_,_,fun i=>bs.getD i false,rfl,Walks.list (A:=X.A.in1) (show X.A.in1.handled=none from I.ok.hd hc) _ p (Nat.ne_of_lt lt) (bs.map Value.bool).toArray,⟨⟨_,Heap.get?_push_size _ rfl,rfl,rfl⟩,?_⟩,ziI bs,fun h' tk hk=>?_⟩)
 ·exact pl.isList.at fun o e=>Heap.get?_push_of_some _ e
 ·have el:(bs.map Value.bool).toArray.size=bs.length:=by simp
  rw[el,zhd]
  refine ⟨.bl _,H,I.kept (t':=tk) fun b o e=>hk b o ?_ (Heap.get?_push_of_some _ e),rfl,q⟩
  intro hb
  have e2:b=s.heap.objs.size:=by simpa using hb
  exact absurd (e2 ▸ Heap.lt_size e) (Nat.lt_irrefl _)
def stAt (x y:Str) (k:Nat):Bool:=decide (k+y.length≤x.length)&&Builtin.Str.subAt x y k
theorem zcv:MtR X "str.startswith" (fun x vs H Q=>∃a b,x=.str a∧vs=[.str b]∧Q (.bl (stAt a b 0)) H):=by
 intro pins s σ H x vs v us Q I rx rv h
 obtain ⟨a,b,rfl,rfl,q⟩:=h
 obtain ⟨t,rfl⟩:=rx
 obtain ⟨u,rfl,t',rfl⟩:=rv.one
 exact call_gives F.slot_str_startswith (typeIs_str s a t) F.entry_str_startswith (F.args_str_startswith_2 _ _) (gives_str_startswith a b t t') ⟨.bl _,H,I,rfl,q⟩
theorem zcw:MtR X "str.startswith" (fun x vs H Q=>∃a b k,x=.str a∧vs=[.str b,.int (k:Nat)]∧Q (.bl (stAt a b k)) H):=by
 intro pins s σ H x vs v us Q I rx rv h
 obtain ⟨a,b,k,rfl,rfl,q⟩:=h
 obtain ⟨t,rfl⟩:=rx
 obtain ⟨u,u2,rfl,⟨t',rfl⟩,⟨t2,rfl⟩⟩:=rv.two
 refine call_gives F.slot_str_startswith (typeIs_str s a t) F.entry_str_startswith (F.args_str_startswith_3 _ _ _) (gives_str_startswith_from a b k t t' t2) ?_
 have e:fromIndex a.length (k:Int)=k:=by unfold fromIndex;rw[if_neg (by omega)];omega
 rw[e]
 exact ⟨.bl _,H,I,rfl,q⟩
end
section
variable {X:Cx}{e:Expr}{tg:Expr}{sc:Scope}{N':List Str}{js:List (Option Nat)}
end
def ddS (acc:List Str) (x:Str):List Str:=if x∈acc then acc else acc++[x]
def dd (xs:List Str):List Str:=xs.foldl ddS []
theorem zkb (xs:List Str) (x:Str):dd (xs++[x])=ddS (dd xs) x:=by unfold dd;rw[List.foldl_append];rfl
theorem mem_ddS {acc:List Str}{x k:Str}:k∈ddS acc x↔k∈acc∨k=x:=by
 unfold ddS
 split
 ·constructor
  ·exact .inl
  ·rintro (h|rfl)
   ·exact h
   ·assumption
 ·simp
theorem zhe {xs:List Str}:∀ {acc:List Str}{k:Str},k∈xs.foldl ddS acc↔k∈acc∨k∈xs:=by
 induction xs with
 |nil=>intro acc k;simp
 |cons x r ih=>
  intro acc k
  rw[List.foldl_cons,ih,mem_ddS]
  simp only[List.mem_cons]
  constructor
  ·rintro ((h|h)|h)
   ·exact .inl h
   ·exact .inr (.inl h)
   ·exact .inr (.inr h)
  ·rintro (h|h|h)
   ·exact .inl (.inl h)
   ·exact .inl (.inr h)
   ·exact .inr h
theorem mem_dd {xs:List Str}{k:Str}:k∈dd xs↔k∈xs:=by unfold dd;rw[zhe];simp
theorem zhf (acc:List Str) (x:Str):(ddS acc x).length=if x∈acc then acc.length else acc.length+1:=by
 unfold ddS
 split<;>simp
theorem zdt:∀(xs acc:List Str),(xs.foldl ddS acc).length≤acc.length+xs.length∧((xs.foldl ddS acc).length=acc.length+xs.length↔(xs.Nodup∧∀x∈xs,x∉acc))
 |[],acc=>by simp
 |x::r,acc=>by
  obtain ⟨h1,h2⟩:=zdt r (ddS acc x)
  rw[List.foldl_cons]
  have h3:=zhf acc x
  simp only[List.length_cons]
  by_cases hx:x∈acc
  ·rw[if_pos hx] at h3
   refine ⟨by omega,⟨fun h=>by omega,fun ⟨_,h⟩=>absurd hx (h x List.mem_cons_self)⟩⟩
  ·rw[if_neg hx] at h3
   refine ⟨by omega,?_⟩
   constructor
   ·intro h
    obtain ⟨a,b⟩:=h2.mp (by omega)
    refine ⟨List.nodup_cons.mpr ⟨fun hm=>b x hm (mem_ddS.mpr (.inr rfl)),a⟩,fun y hy=>?_⟩
    rcases List.mem_cons.mp hy with rfl|hy
    ·exact hx
    ·exact fun hm=>b y hy (mem_ddS.mpr (.inl hm))
   ·rintro ⟨a,b⟩
    obtain ⟨a1,a2⟩:=List.nodup_cons.mp a
    have:=h2.mpr ⟨a2,fun y hy hm=>by
     rcases mem_ddS.mp hm with h|h
     ·exact b y (List.mem_cons_of_mem _ hy) h
     ·exact a1 (h ▸ hy)⟩
    omega
theorem zk8 (xs:List Str):(dd xs).length≤xs.length:=by have:=(zdt xs []).1;simpa [dd] using this
theorem zk9 (xs:List Str):(dd xs).length=xs.length↔xs.Nodup:=by
 have:=(zdt xs []).2
 simpa [dd] using this
def setL (P:Program) (w:World) (p:Addr) (xs:List Str):HO:=.ext fun h=>h.SetOf (strKind P w) p (fun k=>decide (k∈xs)) (dd xs).length
theorem zkc {P:Program}{w:World}{H:Hp}{h:Heap}{p:Addr}{xs:List Str}(hS:h.SetOf (strKind P w) p (fun k=>decide (k∈xs)) (dd xs).length):ObjOk P w H h p (setL P w p xs):=by
 refine ⟨hS,?_,fun h1 h2 q k=>?_⟩
 ·obtain ⟨o,_,_,_,e,_⟩:=hS
  exact ⟨o,e⟩
 ·obtain ⟨o,es,ep,t,e,r⟩:=q
  exact ⟨o,es,ep,t,k o e,r⟩
theorem ziK (xs:List Str) (x:Str):(fun k=>decide (k∈xs) || decide (k=x))=fun k=>decide (k∈xs++[x]):=by
 funext k
 rw[Bool.eq_iff_iff]
 simp
theorem ziL (xs:List Str) (x:Str):(if decide (x∈xs)=true then (dd xs).length else (dd xs).length+1)=(dd (xs++[x])).length:=by
 rw[zkb,zhf]
 by_cases h:x∈xs
 ·rw[if_pos (decide_eq_true h),if_pos (mem_dd.mpr h)]
 ·rw[if_neg (by simp[h]),if_neg (fun z=>h (mem_dd.mp z))]
section
variable {X:Cx}
theorem zed:CallR X (.builtin "len") (fun vs H Q=>∃p xs,vs=[.ref p]∧H p=some (setL X.prog X.w p xs)∧Q (.int (dd xs).length) H):=by
 intro pins s σ H vs us Q I r h
 obtain ⟨p,xs,rfl,hp,q⟩:=h
 obtain ⟨u,rfl,ru⟩:=vals1 r
 cases ru
 obtain ⟨hS,_,_⟩:=I.hok p _ hp
 obtain ⟨o,es,ep,t,e,hex,hd,_,_,hb,hf,hn⟩:=(show s.heap.SetOf (strKind X.prog X.w) p (fun k=>decide (k∈xs)) (dd xs).length from hS)
 refine call_len_set e hex hd hf (by unfold scanBound at hb;omega) ?_
 rw[hn]
 exact ⟨.int _,H,I.tok _,⟨_,rfl⟩,q⟩
end
theorem zhg {P:Program}{w:World}{A:Around}{R:Result→Shared→Prop}{I S l:Addr}{its:List Value}{xs:List Str}(hh:A.in1.handled=none) (hlI:l≠I) (hSI:S≠I) (hSl:S≠l) (hv:∀(i:Nat) v,its[i]?=some v→∃x t,xs[i]?=some x∧v=.str x t) (hlen:its.length=xs.length) (hb:xs.length+1<scanBound) :
  ∀(k i:Nat) (s:Shared),xs.length-i=k→i≤xs.length→s.heap.IsListIter I l i→s.heap.IsList l its.toArray→s.heap.SetOf (PySem.strKind P w) S (fun k'=>decide (k'∈xs.take i)) (dd (xs.take i)).length →
   (∀h' tk,(∀b o,b≠S→b≠I→s.heap.get? b=some o→h'.get? b=some o)→h'.SetOf (PySem.strKind P w) S (fun k'=>decide (k'∈xs)) (dd xs).length→R (.ok (.ret .none)) { s with heap:=h',toks:=tk }) →
   codeAny (model P w) A (.builtin "set.update.loop" ⟨[.ref S,.ref I],[]⟩) R s:=by
 intro k
 induction k with
 |zero=>
  intro i s hk hi it ls hS hR
  have e:i=xs.length:=by omega
  subst e
  refine codeAny_builtin PyProof.Rows.F.entry_set_update_loop ?_
  rw[Around.under_plainId PyProof.Rows.F.plain_set_update_loop _]
  show wpAny _ A.in1 (pyNext (.ref I) >>= _) _ _ s
  refine wpAny_bind (wpAny_pyNext_list_end hh it ls (by simp[hlen]) fun h' eb=>?_)
  show wpAny _ A.in1 (ret Value.none) _ _ _
  refine wpAny_pure (hR h' s.toks (fun b o _ h2 e=>eb b o h2 e) ?_)
  rw[List.take_length] at hS
  obtain ⟨o,es,ep,t,ho,rest⟩:=hS
  exact ⟨o,es,ep,t,eb S o hSI ho,rest⟩
 |succ k ih=>
  intro i s hk hi it ls hS hR
  have lt:i<xs.length:=by omega
  have lt':i<its.length:=by omega
  refine codeAny_builtin PyProof.Rows.F.entry_set_update_loop ?_
  rw[Around.under_plainId PyProof.Rows.F.plain_set_update_loop _]
  show wpAny _ A.in1 (pyNext (.ref I) >>= _) _ _ s
  refine wpAny_bind (wpAny_pyNext_list_item it ls (x:=its[i]) (by simp[lt']) fun h' it' sb=>?_)
  obtain ⟨x,t,hx,ev⟩:=hv i its[i] (by simp[lt'])
  rw[ev]
  have hS1:h'.SetOf (PySem.strKind P w) S (fun k'=>decide (k'∈xs.take i)) (dd (xs.take i)).length:=by
   obtain ⟨o,es,ep,tb,ho,rest⟩:=hS
   exact ⟨o,es,ep,tb,(sb.2 S hSI).trans ho,rest⟩
  have ls1:h'.IsList l its.toArray:=ls.extBut sb.extBut hlI
  show wpAny _ A.in1 (holding [Value.str x t] (setAdd S (.str x t)) >>= _) _ _ { s with heap:=h' }
  refine wpAny_bind (wpAny_holding ?_)
  unfold setAdd
  refine wpAny_holding ?_
  have hkey:(PySem.strKind P w).is x (.str x t)=true:=by simp[PySem.strKind,Value.isStrOf]
  refine wpAny_bind ((PySem.strKind P w).pyHash hkey ?_)
  have hroom:(dd (xs.take i)).length+1<scanBound:=by
   have:=zk8 (xs.take i)
   rw[List.length_take] at this
   omega
  refine wpAny_setAddHashed_of (knd:=PySem.strKind P w) (s:={ s with heap:=h',toks:=s.toks+1 }) hkey rfl hS1 hroom fun h2 sb2 hS2=>?_
  have et:xs.take i++[x]=xs.take (i+1):=by rw[List.take_add_one,hx];rfl
  have hS3:h2.SetOf (PySem.strKind P w) S (fun k'=>decide (k'∈xs.take (i+1))) (dd (xs.take (i+1))).length:=by
   rw[←et]
   exact SetOf_congr hS2 (fun k'=>congrFun (ziK (xs.take i) x) k') (ziL (xs.take i) x)
  refine wpAny_pure ⟨plainId_quiet PyProof.Rows.F.plain_set_update_loop _,ih (i+1) _ (by omega) lt (it'.extBut sb2.extBut (Ne.symm hSI)) (ls1.extBut sb2.extBut (Ne.symm hSl)) hS3 fun h3 tk q hS4=>?_⟩
  exact hR h3 tk (fun b o h1 h2' e=>q b o h1 h2' ((sb2.2 b h1).trans ((sb.2 b h2').trans e))) hS4
section
variable {prog:Program}{w:World}{A:Around}{E:Value→Shared→Prop}{s:Shared}
theorem ze4 {l:Addr}{its:List Value}{xs:List Str}{Q:Value→Shared→Prop}(hh:A.handled=none) (hl:s.heap.IsList l its.toArray)
  (hv:∀(i:Nat) v,its[i]?=some v→∃x t,xs[i]?=some x∧v=.str x t) (hlen:its.length=xs.length) (hb:xs.length+1<scanBound)
  (h:∀(h':Heap) (tk:Nat),h'.SetOf (PySem.strKind prog w) s.heap.objs.size (fun k'=>decide (k'∈xs)) (dd xs).length →
   (∀b o,s.heap.get? b=some o→h'.get? b=some o)→Q (.ref s.heap.objs.size) { s with heap:=h',toks:=tk }) :
  wpAny (model prog w) A (call (.type "set") [.ref l]) Q E s:=by
 obtain ⟨c,tl,hmro⟩:=F.called_set.mro
 have hmade:=F.called_set.made
 have hsub:=F.called_set.sub
 refine wpAny_call (codeAny_of_tree ?_)
 show wpAny _ _ (callAny (.type "set") _) _ _ _
 refine wpAny_pure ⟨Code.quiet_builtin _ (by decide +kernel),codeAny_builtin F.entry_type_call ?_⟩
 rw[Around.under_plain (weight_type_call_type "set" [.ref l] []) rfl]
 have h1:=F.called_set.notType
 have h2:=F.called_set.canCreate
 have hct:=F.typeCall_set_1 (.ref l)
 repeat (any_goals (first|assumption|wp_step))
 refine codeAny_mono (code_set_new_1 (.ref l) (E:=E) (Q₁:=fun obj s₁=>∃led:Bool,obj=.ref s.heap.objs.size∧s₁={ s with heap:=s.heap.push { cls:=.type "set",dict:=none,data:=.set #[] 0 (.fresh 0 0 led) } }) fun led=>⟨led,rfl,rfl⟩) fun r s₁ hr=>?_
 cases r with
 |error e=>exact hr
 |ok fl=>
  cases fl with
  |ret obj=>
   obtain ⟨led,rfl,rfl⟩:=hr
   generalize hH1:s.heap.push { cls:=.type "set",dict:=none,data:=.set #[] 0 (.fresh 0 0 led) }=H1
   have hS:H1.get? s.heap.objs.size=some { cls:=.type "set",dict:=none,data:=.set #[] 0 (.fresh 0 0 led) }:=by rw[←hH1];exact Heap.get?_push_size _ rfl
   have hold:∀b o,s.heap.get? b=some o→H1.get? b=some o:=fun b o e=>by rw[←hH1];exact Heap.get?_push_of_some _ e
   have hsz:H1.objs.size=s.heap.objs.size+1:=by rw[←hH1];exact Heap.size_push ..
   have hT:Shared.TypeIs { s with heap:=H1 } (.ref s.heap.objs.size) "set":=⟨_,hS,rfl⟩
   have hli:=F.called_set.init.lookup
   have hbi:=F.called_set.init.bind (.ref s.heap.objs.size)
   repeat (any_goals (first|assumption|wp_step))
   refine codeAny_mono (codeAny_call_builtin (R:=wants (fun r s₂=>r=.none∧∃h' tk,s₂={ s with heap:=h',toks:=tk } ∧
     h'.SetOf (PySem.strKind prog w) s.heap.objs.size (fun k'=>decide (k'∈xs)) (dd xs).length∧(∀b o,s.heap.get? b=some o→h'.get? b=some o)) E) F.called_set.init.plain F.entry_set_init (check_set_init_1 hT ?_)) fun r₂ s₂ hr₂=>?_
   ·obtain ⟨ol,hol,hcl,nl,hdl⟩:=hl
    obtain ⟨ocls,odict,odata,oslots⟩:=ol
    simp only at hcl hdl
    subst hcl;subst hdl
    have hol':=hold _ _ hol
    have hsls:=F.sub_list_set
    have hslf:=F.sub_list_frozenset
    have hne:(Value.type "list"==Value.type "dict")=false:=by decide
    have hl1:H1.IsList l its.toArray:=⟨_,hol',rfl,nl,rfl⟩
    unfold Builtin.«set.__init__» noKeywords Builtin.Frozenset.updateFrom
    generalize hPI:pyIter=PI
    wp_walk
    subst hPI
    refine wpAny_pyIter_list hl1 ?_
    refine wpAny_bind (wpAny_runValue ?_)
    have hlS:l<s.heap.objs.size:=Heap.lt_size hol
    have hh3:A.in1.in1.in1.handled=none:=by simp[hh]
    refine zhg (P:=prog) (w:=w) (l:=l) (its:=its) (xs:=xs) hh3 (by rw[hsz];exact Nat.ne_of_lt (Nat.lt_succ_of_lt hlS)) (by rw[hsz];exact Nat.ne_of_lt (Nat.lt_succ_self _)) (Nat.ne_of_gt hlS) hv hlen hb xs.length 0 _ (by omega) (Nat.zero_le _) ⟨_,Heap.get?_push_size _ rfl,rfl,rfl⟩ (hl1.push _) ?hS0 ?hR
    case hS0=>
     exact SetOf_congr ((setObjOf_fresh (knd:=PySem.strKind prog w) led).setOf (Heap.get?_push_of_some _ hS) (by unfold scanBound;omega)) (fun _=>by simp) rfl
    case hR=>
     intro h' tk' hk hS'
     show wpAny _ _ _ _ _ _
     refine wpAny_pure ?_
     show wpAny _ _ (ret Value.none) _ _ _
     refine wpAny_pure ⟨rfl,h',tk',rfl,hS',fun b o e=>?_⟩
     have lt:=Heap.lt_size e
     exact hk b o (Nat.ne_of_lt lt) (by rw[hsz];exact Nat.ne_of_lt (Nat.lt_succ_of_lt lt)) (Heap.get?_push_of_some _ (hold b o e))
   ·cases r₂ with
    |error e=>exact hr₂
    |ok fl₂=>
     cases fl₂ with
     |ret r=>
      obtain ⟨rfl,h',tk,rfl,hS',hk'⟩:=hr₂
      repeat (any_goals (first|assumption|wp_step))
      exact h _ _ hS' hk'
     |_=>exact hr₂.elim
  |_=>exact hr.elim
end
theorem ze5:∀ {xs:List Str}{us:List Value},Vals (xs.map V.str) us→us.length=xs.length∧∀(i:Nat) v,us[i]?=some v→∃x t,xs[i]?=some x∧v=.str x t
 |[],_,.nil=>⟨rfl,fun i v e=>by simp at e⟩
 |x::xs,_,.cons r t=>by
  obtain ⟨h1,h2⟩:=ze5 (xs:=xs) t
  obtain ⟨tk,rfl⟩:=r
  refine ⟨by simp[h1],fun i v e=>?_⟩
  cases i with
  |zero=>simp at e;exact ⟨x,tk,by simp,e.symm⟩
  |succ i=>simpa using h2 i v (by simpa using e)
theorem zdK {X:Cx}(hc:X.calm=true):CallR X (.type "set") (fun vs H Q=>∃p xs,vs=[.ref p]∧SqL X.K H p (xs.map V.str)∧xs.length+1<scanBound∧∀q,H q=none→Q (.ref q) (upd H q (setL X.prog X.w q xs))):=by
 intro pins s σ H vs us Q I r h
 obtain ⟨p,xs,rfl,hq,hb,q⟩:=h
 obtain ⟨u,rfl,ru⟩:=vals1 r
 cases ru
 obtain ⟨its,rv,pl,hz⟩:=I.list hq
 obtain ⟨h1,h2⟩:=ze5 rv
 refine ze4 (I.ok.hd hc) pl.isList h2 h1 hb fun h' tk hS hk=>?_
 exact ⟨.ref _,_,I.laid (t':=tk) hk (Nat.le_refl _) (zkc hS),rfl,q _ I.fresh⟩
def SameX (p:Addr) (H H':Hp):Prop:=∀b o,b≠p→H b=some o→H' b=some o
theorem SameX.refl {p:Addr}{H:Hp}:SameX p H H:=fun _ _ _ e=>e
theorem SameX.trans {p:Addr}{H H1 H2:Hp}(a:SameX p H H1) (b:SameX p H1 H2):SameX p H H2:=fun c o n e=>b c o n (a c o n e)
theorem SameX.upd {p:Addr}{H H':Hp}{o:HO}(a:SameX p H H'):SameX p H (upd H' p o):=fun c u n e=>by rw[zaj n];exact a c u n e
theorem Same.x {p:Addr}{H H':Hp}(a:Same H H'):SameX p H H':=fun c o _ e=>a c o e
theorem Same.new {H:Hp}{p:Addr}{o:HO}(h:H p=none):Same H (upd H p o):=fun b u e=>by rw[zaj (zad e h)];exact e
theorem SameX.of_new {H H':Hp}{p:Addr}(h:H p=none) (a:SameX p H H'):Same H H':=fun b o e=>a b o (zad e h) e
structure ItOk (J:It) (n:Nat) (item:Nat→V) (H0:Hp) (p:Addr):Prop where
 go:∀i H,i<n→SameX p H0 H→J.go i H
 stop:∀H,SameX p H0 H→J.stop n H
 yld:∀i H x H',i<n→SameX p H0 H→J.yld i H x H'→H'=H∧x=item i
theorem zcx {K:W.Frag}{a p:Addr}{xs:List V}{H0:Hp}(h:H0 a=some (.tup xs)) (hp:a≠p):ItOk (Itt K a) xs.length (fun i=>xs.getD i .non) H0 p where
 go:=fun i H hi k=>⟨xs,xs[i],SqT.of (k a _ hp h),by simp[hi]⟩
 stop:=fun H k=>⟨xs,SqT.of (k a _ hp h),Nat.le_refl _⟩
 yld:=fun i H v H' hi k ⟨e,q⟩=>⟨e,by
  have:=q xs (SqT.of (k a _ hp h))
  rw[List.getD_eq_getElem?_getD,this];rfl⟩
theorem zb7 {K:W.Frag}{a p:Addr}{xs:List V}{H0:Hp}(h:H0 a=some (.lst xs)) (hp:a≠p):ItOk (Itl K a) xs.length (fun i=>xs.getD i .non) H0 p where
 go:=fun i H hi k=>⟨xs,xs[i],SqL.of (k a _ hp h),by simp[hi]⟩
 stop:=fun H k=>⟨xs,SqL.of (k a _ hp h),Nat.le_refl _⟩
 yld:=fun i H v H' hi k ⟨e,q⟩=>⟨e,by
  have:=q xs (SqL.of (k a _ hp h))
  rw[List.getD_eq_getElem?_getD,this];rfl⟩
theorem ziM {lo:Int}{n:Nat}{H0:Hp}{p:Addr}:ItOk (Itr lo n) n (fun i=>.int (lo+i)) H0 p where
 go:=fun i H h _=>h
 stop:=fun H _=>Nat.le_refl _
 yld:=fun i H v H' hi _ ⟨e,q⟩=>⟨e,q⟩
def flatN (F:Nat→List V):Nat→List V
 |0=>[]
 |i+1=>flatN F i++F i
theorem ziN {J:It}{g:TG}{tt:TT}{tr:TR}{Qe:St→Hp→Prop}{σ0:St}{H0:Hp}{p:Addr}{cur:List V}{n:Nat}{item:Nat→V}(F:Nat→List V) (P:St→Prop) (hσ:P σ0) (hp:H0 p=some (.lst cur)) (ok:ItOk J n item H0 p)
  (turn:∀i σ H (N:St→Hp→Prop),i<n→P σ→SameX p H0 H→H p=some (.lst (cur++flatN F i))→(∀σ2 H4,P σ2→SameX p H H4→H4 p=some (.lst (cur++flatN F i++F i))→N σ2 H4) →
   g (item i) σ H fun σ2 H2=>tt σ2 H2 fun b H3=>if b=true then tr σ2 H3 N else N σ2 H3)
  (hQ:∀σ H,P σ→SameX p H0 H→H p=some (.lst (cur++flatN F n))→Qe σ H):tLoop J g tt tr Qe σ0 H0:=by
 refine ⟨fun i m σ H=>m=n-i∧i≤n∧P σ∧SameX p H0 H∧H p=some (.lst (cur++flatN F i)),⟨n,rfl,Nat.zero_le _,hσ,.refl,by simpa [flatN] using hp⟩,?_⟩
 rintro i m σ H ⟨rfl,hi,hP,hS,hH⟩
 by_cases hlt:i<n
 ·refine .inr ⟨ok.go i H hlt hS,fun σ' H'=>P σ'∧SameX p H0 H'∧H' p=some (.lst (cur++flatN F (i+1))),fun σ' H' ⟨a,b,c⟩=>⟨n-(i+1),by omega,rfl,hlt,a,b,c⟩,fun x H' y=>?_⟩
  obtain ⟨rfl,rfl⟩:=ok.yld i H x H' hlt hS y
  refine turn i σ H' _ hlt hP hS hH fun σ2 H4 hP2 hS2 hH2=>⟨hP2,hS.trans hS2,?_⟩
  rw[hH2]
  simp only[flatN,List.append_assoc]
 ·have e:i=n:=by omega
  subst e
  exact .inl ⟨ok.stop H hS,hQ σ H hP hS hH⟩
theorem zf1 {F:Nat→List V}{k:Nat}(h:∀i,(F i).length≤k):∀n,(flatN F n).length≤n*k
 |0=>by simp[flatN]
 |n+1=>by
  have:=zf1 h n
  have h2:=h n
  simp only[flatN,List.length_append,Nat.succ_mul]
  omega
theorem ziO {J:It}{g:TG}{tt:TT}{te:TE}{Qe:St→Hp→Prop}{σ0:St}{H0:Hp}{p:Addr}{cur:List V}{n:Nat}{item:Nat→V}(f:Nat→Option V) (P:St→Prop) (hσ:P σ0) (hp:H0 p=some (.lst cur)) (hsz:cur.length+n≤100000) (ok:ItOk J n item H0 p)
  (turn:∀i σ H (C:Option V→St→Hp→Prop),i<n→P σ→SameX p H0 H→(∀σ2 H4,P σ2→Same H H4→C (f i) σ2 H4) →
   g (item i) σ H fun σ2 H2=>tt σ2 H2 fun b H3=>if b=true then te σ2 H3 fun v H4=>C (some v) σ2 H4 else C none σ2 H3)
  (hQ:∀σ H,P σ→SameX p H0 H→H p=some (.lst (cur++flatN (fun i=>(f i).toList) n))→Qe σ H):tLoop J g tt (tApp p te) Qe σ0 H0:=by
 refine ziN (fun i=>(f i).toList) P hσ hp ok (fun i σ H N hi hP hS hH hN=>?_) hQ
 refine turn i σ H (fun o σ2 H4=>match o with
  |some v=>∃ys,H4 p=some (.lst ys)∧ys.length<sizeLine∧N σ2 (upd H4 p (.lst (ys++[v])))
  |none=>N σ2 H4) hi hP hS fun σ2 H4 hP2 hS2=>?_
 have hp4:=hS2 p _ hH
 cases e:f i with
 |none=>
  refine hN σ2 H4 hP2 hS2.x ?_
  rw[e]
  simpa using hp4
 |some v=>
  refine ⟨_,hp4,?_,hN σ2 _ hP2 (hS2.x.upd) ?_⟩
  ·have h1:=zf1 (F:=fun i=>(f i).toList) (k:=1) (fun i=>by show ((f i).toList).length≤1;cases f i<;>simp) i
   have h2:(100000:Nat)<sizeLine:=by rw[sizeLine_eq];decide
   rw[List.length_append]
   omega
  ·rw[zab,e]
   rfl
theorem zbw {J:It}{g:TG}{tt:TT}{te:TE}{Qe:St→Hp→Prop}{σ0:St}{H0:Hp}{p:Addr}{n:Nat}{item:Nat→V}(f:Nat→Option V) (P:St→Prop) (hσ:P σ0) (hp:H0 p=none) (hsz:n≤100000) (ok:ItOk J n item (upd H0 p (.lst [])) p)
  (turn:∀i σ H (C:Option V→St→Hp→Prop),i<n→P σ→Same H0 H→(∀σ2 H4,P σ2→Same H H4→C (f i) σ2 H4) →
   g (item i) σ H fun σ2 H2=>tt σ2 H2 fun b H3=>if b=true then te σ2 H3 fun v H4=>C (some v) σ2 H4 else C none σ2 H3)
  (hQ:∀σ H,Same H0 H→H p=some (.lst (flatN (fun i=>(f i).toList) n))→Qe σ H):tLoop J g tt (tApp p te) Qe σ0 (upd H0 p (.lst [])):=by
 have s0:Same H0 (upd H0 p (.lst [])):=Same.new hp
 have up:∀ {H},SameX p (upd H0 p (.lst [])) H→Same H0 H:=fun {H} h b o e=>h b o (zad e hp) (s0 b o e)
 refine ziO f P hσ zab (by simpa using hsz) ok (fun i σ H C hi hP hS hC=>turn i σ H C hi hP (up hS) hC) fun σ H _ hS hH=>hQ σ H (up hS) (by simpa using hH)
theorem zcy (f:Nat→V):∀n,flatN (fun i=>(some (f i)).toList) n=(List.range n).map f
 |0=>rfl
 |n+1=>by
  have:=zcy f n
  simp only[Option.toList_some] at this
  simp only[flatN,List.range_succ,List.map_append,this,Option.toList_some,List.map_cons,List.map_nil]
end L2
namespace T1
open PySem L2
inductive D where
 |non|bl (b:Bool)|int (i:Int)|str (x:Str)|tup (xs:List D)|lst (xs:List D)
mutual
/-- the value v stands for d;z is an address apart (the law's bag) -/
inductive Rep (z:Addr) (H:Hp):V→D→Prop where
 |non:Rep z H .non .non
 |bl (b:Bool):Rep z H (.bl b) (.bl b)
 |int (i:Int):Rep z H (.int i) (.int i)
 |str (x:Str) (h:x.length≤1000):Rep z H (.str x) (.str x)
 |tup {a:Addr} {xs:List V} {ds:List D} (h:H a=some (.tup xs)) (hz:a≠z) (r:Reps z H xs ds):Rep z H (.ref a) (.tup ds)
 |lst {a:Addr} {xs:List V} {ds:List D} (h:H a=some (.lst xs)) (hz:a≠z) (r:Reps z H xs ds):Rep z H (.ref a) (.lst ds)
inductive Reps (z:Addr) (H:Hp):List V→List D→Prop where
 |nil:Reps z H [] []
 |cons {v:V} {d:D} {vs:List V} {ds:List D} (h:Rep z H v d) (t:Reps z H vs ds):Reps z H (v::vs) (d::ds)
end
mutual
theorem Rep.mono {z:Addr}{H H':Hp}(k:SameX z H H'):∀ {v:V}{d:D},Rep z H v d→Rep z H' v d
 |_,_,.non=>.non
 |_,_,.bl b=>.bl b
 |_,_,.int i=>.int i
 |_,_,.str x h=>.str x h
 |_,_,.tup h hz r=>.tup (k _ _ hz h) hz (Reps.mono k r)
 |_,_,.lst h hz r=>.lst (k _ _ hz h) hz (Reps.mono k r)
theorem Reps.mono {z:Addr}{H H':Hp}(k:SameX z H H'):∀ {vs:List V}{ds:List D},Reps z H vs ds→Reps z H' vs ds
 |_,_,.nil=>.nil
 |_,_,.cons h t=>.cons (Rep.mono k h) (Reps.mono k t)
end
theorem Reps.length {z:Addr}{H:Hp}:∀ {vs:List V}{ds:List D},Reps z H vs ds→vs.length=ds.length
 |_,_,.nil=>rfl
 |_,_,.cons _ t=>by simp[Reps.length t]
theorem Reps.get {z:Addr}{H:Hp}:∀ {vs:List V}{ds:List D}{i:Nat},Reps z H vs ds→i<ds.length→Rep z H (vs.getD i .non) (ds.getD i .non)
 |_,_,0,.cons h _,_=>h
 |_,_,i+1,.cons _ t,hi=>by
  have:=Reps.get (i:=i) t (by simpa using hi)
  simpa using this
theorem b_len:bootBuiltins "len"=some (.builtin "len"):=by decide +kernel
theorem zlw:bootBuiltins "any"=some (.builtin "any"):=by decide +kernel
theorem b_isinst:bootBuiltins "isinstance"=some (.builtin "isinstance"):=by decide +kernel
theorem zlx:bootBuiltins "min"=some (.builtin "min"):=by decide +kernel
theorem b_sorted:bootBuiltins "sorted"=some (.builtin "sorted"):=by decide +kernel
theorem zla:bootBuiltins "int"=some (.type "int"):=by decide +kernel
theorem zkd:bootBuiltins "tuple"=some (.type "tuple"):=by decide +kernel
theorem zjJ:bootBuiltins "list"=some (.type "list"):=by decide +kernel
theorem zly:bootBuiltins "set"=some (.type "set"):=by decide +kernel
def zjK (S sc:Scope):Bool:=sc.names.all fun x=>(x.2 != .local || sc.names.lookup x.1==some .local)&&x.2 != .cell&&(x.2 != .free || S.names.lookup x.1==some .cell)
theorem zbx {X:Cx}{sc:Scope}(S:Scope) (h:zjK S sc=true) (hS:X.env.scope=S:=by rfl) (hk:sc.kind=.function:=by rfl):BlkOk X sc:=by
 unfold zjK at h
 rw[List.all_eq_true] at h
 refine ⟨hk,fun x hx hl=>?_,fun x hx hc=>?_,fun x hx hf=>?_⟩
 ·have:=h x hx
  rw[hl] at this
  simp at this
  exact this
 ·have:=h x hx
  rw[hc] at this
  simp at this
 ·have:=h x hx
  rw[hf] at this
  simp at this
  show X.env.scope.names.lookup x.1=some .cell
  rw[hS]
  exact this
end T1
namespace L2
open PySem PySem.Spec PyProof.Rows
theorem zee {J:It}{g:TG}{te:TE}{Qe:St→Hp→Prop}{σ0:St}{H0:Hp}{p:Addr}{n:Nat}{item:Nat→V}(f:Nat→V) (P:St→Prop) (hσ:P σ0) (hp:H0 p=none) (hsz:n≤100000) (ok:ItOk J n item (upd H0 p (.lst [])) p)
  (turn:∀i σ H (C:V→St→Hp→Prop),i<n→P σ→Same H0 H→(∀σ2 H4,P σ2→Same H H4→C (f i) σ2 H4)→g (item i) σ H fun σ2 H2=>te σ2 H2 fun v H4=>C v σ2 H4)
  (hQ:∀σ H,Same H0 H→H p=some (.lst ((List.range n).map f))→Qe σ H):tLoop J g tYes (tApp p te) Qe σ0 (upd H0 p (.lst [])):=
 zbw (fun i=>some (f i)) P hσ hp hsz ok (fun i σ H C hi hP hS hC=>turn i σ H (fun v σ2 H4=>C (some v) σ2 H4) hi hP hS hC) fun σ H hS hH=>hQ σ H hS (by rw[zcy] at hH;exact hH)
theorem zdu {α:Type} [Inhabited α] (xs:List α) (d:α) (f:α→V):(List.range xs.length).map (fun i=>f (xs.getD i d))=xs.map f:=by
 apply List.ext_getElem?
 intro i
 rw[List.getElem?_map,List.getElem?_map]
 by_cases h:i<xs.length
 ·simp[h]
 ·simp[h]
section
variable {X:Cx}{sc:Scope}{cl:List (Str×Addr)}{N':List Str}{s:Shared}{H:Hp}{fp:List Addr}
theorem zhh {es:List Expr}{k:Nat}{t:TGs}{pos:Pos}(n:Nat) (hc:X.calm=true) (h:PGs (X.blk sc cl N' s H fp) es t)
  (hn:(assignEach es (X.blk sc cl N' s H fp).env).length=n:=by rfl) (hst:(assignEach es (X.blk sc cl N' s H fp).env).findIdx? (·.1)=none:=by rfl):PG (X.blk sc cl N' s H fp) (.Tuple es k pos) (gTup X.K n t):=zbu hc h hn hst
theorem zbW:IxR (X.blk sc cl N' s H fp) (rIxT X.K):=ix_tup
theorem zef:IxR (X.blk sc cl N' s H fp) (rIxL X.K):=ix_list
end
section
variable {X:Cx}
def zlb:R2:=fun x y H Q=>∃p q xs,x=.ref p∧y=.ref q∧H p=some (.lst xs)∧H q=some (.lst [])∧Q (.bl (!xs.isEmpty)) H
theorem zbE (hu:X.A.units<cLine):OpR X (compareOp .NotEq) zlb:=by
 intro pins s σ H x y v u Q I rx ry h
 obtain ⟨p,q,xs,rfl,rfl,hp,hq,k⟩:=h
 cases rx
 cases ry
 obtain ⟨its,rv,pl,hz⟩:=I.list (SqL.of hp)
 obtain ⟨its2,rv2,pl2,hz2⟩:=I.list (SqL.of hq)
 cases rv2
 show wpAny _ _ (richCompare .NotEq _ _) _ _ _
 cases rv with
 |nil=>exact SeqAt.RcNeAt.lists (e:=fun _=>true) pl.isList pl2.isList rfl hu (fun j h1 _=>absurd h1 (by simp)) _ _ _ _ ⟨.bl _,H,I,rfl,k⟩
 |cons r t=>exact SeqAt.RcNeAt.lists_lengths pl.isList pl2.isList (by simp) hu _ _ _ _ ⟨.bl _,H,I,rfl,k⟩
theorem PI.or {tg l:Expr}{wi wi':TI}(h:PI X tg l wi) (h':PI X tg l wi'):PI X tg l (fun σ H R=>wi σ H R∨wi' σ H R):=by
 intro pins s σ H R I q
 rcases q with q|q
 ·exact h pins s σ H R I q
 ·exact h' pins s σ H R I q
end
section
variable {X:Cx}{pins:List (Addr×Obj)}{σ:St}{H:Hp}{s:Shared}{h':Heap}{m:Str→Option Value}
theorem zf2 (L:Addr):News (Att.noObjs s.heap) L s.heap (Att.ledger s.heap L L):=by
 rintro ⟨a,o⟩ hp
 obtain ⟨n1,_,e⟩:=Att.mem_ledger.mp hp
 exact ⟨e,n1,Att.noObjs_get _ _⟩
theorem zc8 {L:Addr}(N:News (Att.noObjs s.heap) L h' (Att.ledger s.heap L L)):∀b o,b≠L→s.heap.get? b=some o→h'.get? b=some o:=fun b o hb e=>(N (b,o) (Att.mem_ledger.mpr ⟨hb,hb,e⟩)).1
theorem Inv.lib {tk:Nat}(I:Inv X pins σ H s) (hn:s.heap.Ns X.env.locals m) (F:Fr (Att.noObjs s.heap) X.env.locals h' m) (N:News (Att.noObjs s.heap) X.env.locals h' (Att.ledger s.heap X.env.locals X.env.locals)):Inv X pins σ H { s with heap:=h',toks:=tk }:=by
 have k:=zc8 N
 have nL:∀b u,H b=some u→b≠X.env.locals:=fun b u e z=>by rw[z,I.free] at e;cases e
 refine I.step (g':=s.gens) (d':=s.drawn) (ch:=[]) (fun _ z=>nomatch z) (fun b o hb _ _ e _=>k b o hb e) (fun b o hb _ _ e _=>⟨o.slots,k b o hb e⟩) (fun _ _ _ _ n=>n) (fun b o _ e=>?_) (fun _ _ e=>e) (fun _ _ _ e=>e) (fun b ps e=>⟨#[],by rw[e];simp⟩) (fun m' hm=>?_) (fun b u e=>?_) I.bare
 ·by_cases hb:b=X.env.locals
  ·obtain ⟨o',_,_,ho',_⟩:=F.ns
   exact ⟨o',by rw[hb];exact ho'⟩
  ·exact ⟨o,k b o hb e⟩
 ·have:m'=m:=funext fun x=>hm.agree hn x
  rw[this]
  exact F.ns
 ·refine (I.hok b u e).stay (fun c v hc q=>k c v ?_ q) (fun _ q=>q) fun _ _ q=>q
  rcases hc with z|z
  ·rw[z];exact nL b u e
  ·exact nL c _ z
theorem Inv.libNew {tk:Nat}{D:Addr}{ob:Obj}{o:HO}(I:Inv X pins σ H s) (hn:s.heap.Ns X.env.locals m) (F:Fr (Att.noObjs s.heap) X.env.locals h' m) (N:News (Att.noObjs s.heap) X.env.locals h' ((D,ob)::Att.ledger s.heap X.env.locals X.env.locals))
  (hD:∀q∈Att.ledger s.heap X.env.locals X.env.locals,q.1<D) (new:ObjOk X.prog X.w (upd H D o) h' D o):H D=none∧Inv X pins σ (upd H D o) { s with heap:=h',toks:=tk }:=by
 have N':News (Att.noObjs s.heap) X.env.locals h' (Att.ledger s.heap X.env.locals X.env.locals):=fun p hp=>N p (List.mem_cons_of_mem _ hp)
 have k:=zc8 N'
 have hDL:D≠X.env.locals:=(N (D,ob) List.mem_cons_self).2.1
 have nold:∀o',s.heap.get? D≠some o':=fun o' e=>absurd (hD (D,o') (Att.mem_ledger.mpr ⟨hDL,hDL,e⟩)) (Nat.lt_irrefl _)
 have nL:∀b u,H b=some u→b≠X.env.locals:=fun b u e z=>by rw[z,I.free] at e;cases e
 have old:∀b u,H b=some u→∃o',s.heap.get? b=some o':=fun b u e=>by
  have hlt:=(I.hok b u e).lt
  cases u with
  |lst xs=>obtain ⟨_,_,_,_,q⟩:=I.hok b _ e;exact ⟨_,q⟩
  |tup xs=>obtain ⟨_,_,_,ob,q,_⟩:=I.hok b _ e;exact ⟨ob,q⟩
  |dK kvs=>obtain ⟨_,_,_,_,ob,_,_,q,_⟩:=I.hok b _ e;exact ⟨ob,q⟩
  |dT kvs=>obtain ⟨_,_,_,_,ob,_,_,q,_⟩:=I.hok b _ e;exact ⟨ob,q⟩
  |set S n=>obtain ⟨ob,_,_,_,q,_⟩:=I.hok b _ e;exact ⟨ob,q⟩
  |ins C dx fs=>obtain ⟨_,_,_,q,_⟩:=I.hok b _ e;exact ⟨_,q⟩
  |own y=>obtain ⟨ob,q⟩:=I.hok b _ e;exact ⟨ob,q⟩
  |xd fs=>obtain ⟨_,⟨ob,_,_,q,_⟩,_⟩:=I.hok b _ e;exact ⟨ob,q⟩
  |rng lo hi=>obtain ⟨_,_,_,q⟩:=I.hok b _ e;exact ⟨_,q⟩
  |frz ob u=>obtain ⟨q,_⟩:=I.hok b _ e;exact ⟨_,q⟩
  |tbl ps=>exact ⟨_,show s.heap.get? b=some _ from I.hok b _ e⟩
  |met f y=>exact ⟨_,show s.heap.get? b=some _ from I.hok b _ e⟩
  |ext φ=>obtain ⟨_,q,_⟩:=I.hok b _ e;exact q
 have hn0:H D=none:=by
  cases e:H D with
  |none=>rfl
  |some u=>
   obtain ⟨o',q⟩:=old D u e
   exact absurd q (nold o')
 have ne:∀b u,H b=some u→b≠D:=fun b u e=>zad e hn0
 refine ⟨hn0,I.step (g':=s.gens) (d':=s.drawn) (ch:=[]) (fun _ z=>nomatch z) (fun b o hb _ _ e _=>k b o hb e) (fun b o hb _ _ e _=>⟨o.slots,k b o hb e⟩) (fun b o' _ e n=>?_) (fun b o _ e=>?_) (fun b xs e=>by rw[zaj (ne b _ e)];exact e) (fun b _ _ e=>by rw[zaj (ne b _ e)];exact e) (fun b ps e=>⟨#[],by rw[zaj (ne b _ e),e];simp⟩) (fun m' hm=>?_) (fun b u e=>?_) I.bare⟩
 ·rw[zaj (fun z=>nold o' (by rw[←z];exact e))]
  exact n
 ·by_cases hb:b=X.env.locals
  ·obtain ⟨o',_,_,ho',_⟩:=F.ns
   exact ⟨o',by rw[hb];exact ho'⟩
  ·exact ⟨o,k b o hb e⟩
 ·have:m'=m:=funext fun x=>hm.agree hn x
  rw[this]
  exact F.ns
 ·by_cases hb:b=D
  ·subst hb
   rw[zab] at e
   cases e
   exact new
  ·rw[zaj hb] at e
   refine (I.hok b u e).stay (fun c v hc q=>k c v ?_ q) (fun c q=>by rw[zaj (ne c _ q)];exact q) fun c _ q=>by rw[zaj (ne c _ q)];exact q
   rcases hc with z|z
   ·rw[z];exact nL b u e
   ·exact nL c _ z
end
def strOf:Value→Str
 |.str x _=>x
 |_=>⟨#[]⟩
theorem zb8:∀ {xs:List Str}{us:List Value},Vals (xs.map V.str) us→us.map strOf=xs∧∀u∈us,∃t,u=.str (strOf u) t
 |[],_,.nil=>⟨rfl,fun u hu=>nomatch hu⟩
 |x::r,_,.cons h t=>by
  obtain ⟨t1,rfl⟩:=h
  obtain ⟨e,q⟩:=zb8 t
  refine ⟨by rw[List.map_cons,e];rfl,fun u hu=>?_⟩
  rcases List.mem_cons.mp hu with rfl|hu
  ·exact ⟨t1,rfl⟩
  ·exact q u hu
theorem zc4:∀ {us:List Value},(∀u∈us,∃t,u=.str (strOf u) t)→Vals ((us.map strOf).map V.str) us
 |[],_=>.nil
 |u::r,h=>.cons (h u List.mem_cons_self) (zc4 fun v hv=>h v (List.mem_cons_of_mem _ hv))
theorem zf3:∀its:List Value,(its.map fun u=>((strOf u).length:Int)).zip its=its.map fun u=>(((strOf u).length:Int),u)
 |[]=>rfl
 |a::r=>by rw[List.map_cons,List.zip_cons_cons,List.map_cons,zf3 r]
def zf4 (K:W.Frag) (b:Bool):List V→Hp→VK→Prop:=fun vs H Q=>∃(l:Addr) (xs:List Str),vs=[.ref l]∧SqL K H l (xs.map V.str)∧xs.length<64∧(∀y∈xs,y.length≤sizeLine) ∧
 ∀(p:Addr) (ys:List Str),H p=none→ys.Perm xs→ys.Pairwise (fun a c=>if b then c.length≤a.length else a.length≤c.length)→Q (.ref p) (upd H p (.lst (ys.map V.str)))
theorem zdL {X:Cx}{pins:List (Addr×Obj)}{σ:St}{H:Hp}{s:Shared}{Q:VK}{vs:List V}{us:List Value}{kw:List (Str×Value)}{b:Bool}(I:Inv X pins σ H s) (r:Vals vs us) (h:zf4 X.K b vs H Q)
  (ha1:∀l,argsOk "sorted" ⟨[.ref l],kw⟩) (ha2:∀x,argsOk "list.sort" ⟨[.ref x],kw⟩) (ht:∀x,Builtin.«list.sort» ⟨[.ref x],kw⟩=ksk_tree x (.builtin "len") b):wpAny (model X.prog X.w) X.A (call (.builtin "sorted") us kw) (EP X pins σ Q) X.xe s:=by
 obtain ⟨l,xs,rfl,hl,h64,hz,q⟩:=h
 obtain ⟨u,rfl,ru⟩:=vals1 r
 cases ru
 obtain ⟨its,rv,pl,_⟩:=I.list hl
 obtain ⟨m,hn,_⟩:=id I.loc
 obtain ⟨e1,e2⟩:=zb8 rv
 have hlen:its.length=xs.length:=by rw[←e1,List.length_map]
 have hn63:=zct
 refine ksk_sorted (b:=b) (kz:=its.map fun u=>((strOf u).length:Int)) (f:=.builtin "len") (Att.fr_all hn) (zf2 X.env.locals) pl.isList (by simp) (by omega) (ha1 l) ha2 ht (fun i v k hv hk h tk own F N=>?_) (fun D h' tk out c F N hD ko=>?_)
 ·have hmem:=List.mem_of_getElem? hv
  obtain ⟨t,et⟩:=e2 v hmem
  have ek:k=((strOf v).length:Int):=by
   rw[List.getElem?_map,hv] at hk
   exact (Option.some.inj hk).symm
  have hx:(strOf v).length≤sizeLine:=hz _ (by rw[←e1];exact List.mem_map_of_mem hmem)
  rw[et,ek]
  refine len_str (by omega) ?_
  exact KskEnd.intro F N fun p hp=>hp
 ·obtain ⟨ps,hp,ho,hs⟩:=ko
  have ezip:(its.map fun u=>((strOf u).length:Int)).zip its=its.map fun u=>(((strOf u).length:Int),u):=by
   exact zf3 its
  rw[ezip] at hp
  have hmem:∀p∈ps,p.1=((strOf p.2).length:Int)∧p.2∈its:=fun p hpp=>by
   obtain ⟨u,hu,rfl⟩:=List.mem_map.mp (hp.mem_iff.mp hpp)
   exact ⟨rfl,hu⟩
  have hperm:(ps.map fun p=>strOf p.2).Perm xs:=by
   have:=hp.map fun p=>strOf p.2
   rw[List.map_map] at this
   have e3:its.map ((fun p:Int×Value=>strOf p.2)∘fun u=>(((strOf u).length:Int),u))=xs:=by rw[←e1];rfl
   rw[e3] at this
   exact this
  have hpair:(ps.map fun p=>strOf p.2).Pairwise (fun a c=>if b then c.length≤a.length else a.length≤c.length):=by
   rw[List.pairwise_map]
   refine hs.imp_of_mem fun {p q} h1 h2 h3=>?_
   have a1:=(hmem p h1).1
   have a2:=(hmem q h2).1
   rw[a1,a2] at h3
   cases b
   ·simp at h3 ⊢;omega
   ·simp at h3 ⊢;omega
  have hvals:Vals ((ps.map fun p=>strOf p.2).map V.str) out.toList:=by
   rw[ho]
   have:=zc4 (us:=ps.map Prod.snd) fun u hu=>by
    obtain ⟨p,hpp,rfl⟩:=List.mem_map.mp hu
    exact e2 _ (hmem p hpp).2
   have e4:(ps.map Prod.snd).map strOf=ps.map fun p=>strOf p.2:=by rw[List.map_map];rfl
   rw[e4] at this
   exact this
  have hlo:(ps.map fun p=>strOf p.2).length=xs.length:=hperm.length_eq
  have h64':(64:Nat)≤sizeLine:=by rw[sizeLine_eq];decide
  obtain ⟨hn0,I'⟩:=I.libNew (tk:=tk) (o:=.lst ((ps.map fun p=>strOf p.2).map V.str)) hn F N hD ⟨by rw[List.length_map,hlo];omega,out.toList,c,hvals,(N (D,seqObj "list" out c) List.mem_cons_self).1⟩
  exact ⟨.ref D,_,I',rfl,q D _ hn0 hperm hpair⟩
theorem zeg {X:Cx}{e:Expr}{te:TE}{p p2 kp pos:Pos}(hm:X.mg "sorted"=none) (hm2:X.mg "len"=none) (he:PE X e te) (hg:Gl X "sorted":=by rfl) (hg2:Gl X "len":=by rfl)
  (h1:starEach [e] X.env=(false,eval e X.env)::starEach [] X.env:=by rfl) (h2:backTo pos (starEach [e] X.env)=(false,eval e X.env)::backTo pos (starEach [] X.env):=by rfl) (h3:(backTo pos (starEach [e] X.env)).any (·.1)=false:=by rfl) :
  PE X (.Call (.Name "sorted" p) [e] [⟨some "key",.Name "len" p2,kp⟩] pos) (tCB (zf4 X.K false) (tCons te tNil)):=by
 intro pins s σ H Q I h
 refine wpAny_Call_Name_kw (zc0 I hg hm T1.b_sorted ?_ (by decide) (by decide))
 refine callWith_kw (thn ((zaa he zae h1) pos pins s σ H _ I h) fun us s1 ⟨vs,H1,I1,r,q⟩=>?_) h2 h3
 refine kws_cons (zc0 I1 hg2 hm2 T1.b_len (kws_nil ?_) (by decide) (by decide))
 exact zdL I1 r q (fun l=>ksk_s1 _ _) (fun x=>ksk_l1 _ _) (fun x=>ksk_t4 "len" x)
def cutS (z:Str) (lo hi:Option Int):Str:=⟨((z.cps.toList.drop (HT.sIx z.length 0 lo)).take (HT.sIx z.length z.length hi-HT.sIx z.length 0 lo)).toArray⟩
theorem zjL (v:Int) (n d:Nat):max (0:Int) (min (if v<0 then v+(n:Int) else v) (n:Int))=((HT.sIx n d (some v):Nat):Int):=by
 show _=(((if v<0 then (v+(n:Int)).toNat else min v.toNat n):Nat):Int)
 by_cases hv:v<0
 ·rw[if_pos hv,if_pos hv];omega
 ·rw[if_neg hv,if_neg hv];omega
theorem zfA (lo hi:Option Int) (n:Nat):Builtin.Str.strSliceIndices lo hi 1 n=(List.range (HT.sIx n n hi-HT.sIx n 0 lo)).map fun k=>HT.sIx n 0 lo+k:=by
 have key:∀a b:Nat,sliceRange (a:Int) (b:Int) 1=(List.range (b-a)).map fun k=>a+k:=fun a b=>by
  unfold sliceRange
  have e:((if (1:Int)>0 then (if (a:Int)<b then ((b:Int)-a+1-1) / 1 else 0) else (if (a:Int)>b then ((a:Int)-b-1-1) / (-1) else 0)):Int).toNat=b-a:=by
   rw[if_pos (by decide)]
   by_cases h:(a:Int)<b
   ·rw[if_pos h,Int.ediv_one];omega
   ·rw[if_neg h];omega
  simp only[e]
  refine List.map_congr_left fun k _=>?_
  omega
 have hlo:(match lo with|none=>(if (1:Int)>0 then (0:Int) else (n:Int)-1)|some i=>if (1:Int)>0 then max 0 (min (if i<0 then i+(n:Int) else i) (n:Int)) else max (-1) (min (if i<0 then i+(n:Int) else i) ((n:Int)-1)))=((HT.sIx n 0 lo:Nat):Int):=by
  cases lo with
  |none=>rfl
  |some v=>
   show (if (1:Int)>0 then _ else _)=_
   rw[if_pos (by decide)]
   exact zjL v n 0
 have hhi:(match hi with|none=>(if (1:Int)>0 then (n:Int) else -1)|some i=>if (1:Int)>0 then max 0 (min (if i<0 then i+(n:Int) else i) (n:Int)) else max (-1) (min (if i<0 then i+(n:Int) else i) ((n:Int)-1)))=((HT.sIx n n hi:Nat):Int):=by
  cases hi with
  |none=>rfl
  |some v=>
   show (if (1:Int)>0 then _ else _)=_
   rw[if_pos (by decide)]
   exact zjL v n n
 unfold Builtin.Str.strSliceIndices
 refine Eq.trans ?_ (key _ _)
 rw[←hlo,←hhi]
 cases lo<;>cases hi<;>rfl
theorem zhi (z:Str) (lo hi:Option Int):Txt.slice z lo hi=cutS z lo hi:=by
 have e:=zfA lo hi z.length
 have h2:=HT.sIx_le z.length z.length (Nat.le_refl _) hi
 have hz:z.cps.toList.length=z.length:=by simp;rfl
 have pick:(Builtin.Str.strSliceIndices lo hi 1 z.length).filterMap (z.cps[·]?)=(z.cps.toList.drop (HT.sIx z.length 0 lo)).take (HT.sIx z.length z.length hi-HT.sIx z.length 0 lo):=by
  rw[e]
  by_cases h:HT.sIx z.length 0 lo≤HT.sIx z.length z.length hi
  ·have h3:=StrLaws.picks z.cps.toList (HT.sIx z.length z.length hi-HT.sIx z.length 0 lo) (HT.sIx z.length 0 lo) (by omega)
   simpa using h3
  ·have:HT.sIx z.length z.length hi-HT.sIx z.length 0 lo=0:=by omega
   rw[this]
   simp
 unfold Txt.slice
 split
 ·rename_i hw
  have hl:(Builtin.Str.strSliceIndices lo hi 1 z.length).length=z.length:=by simpa using hw
  rw[e,List.length_map,List.length_range] at hl
  unfold cutS
  rw[hl]
  obtain ⟨cs⟩:=z
  by_cases h0:cs.size=0
  ·have:cs=#[]:=Array.eq_empty_of_size_eq_zero h0
   subst this
   simp[Str.length]
  ·have a0:HT.sIx (Str.mk cs).length 0 lo=0:=by
    have:(Str.mk cs).length=cs.size:=rfl
    omega
   rw[a0]
   have:(Str.mk cs).length=cs.toList.length:=by simp;rfl
   rw[this,List.drop_zero]
   show Str.mk cs=⟨(cs.toList.take cs.toList.length).toArray⟩
   rw[List.take_length]
 ·unfold cutS
  rw[pick]
def rSlS:V→Option Int→Option Int→Hp→VK→Prop:=fun x lo hi H Q=>∃z,x=.str z∧z.length≤sizeLine∧Q (.str (cutS z lo hi)) H
theorem zcz {X:Cx}:SlR X rSlS:=by
 intro pins s σ H x v vl vu lo hi sl Q I rx hs pl pu h
 obtain ⟨z,rfl,hz,q⟩:=h
 obtain ⟨t,rfl⟩:=rx
 rw[←zhi] at q
 refine ⟨"str",_,F.slot_str_getitem.lookup,typeIs_str _ _ _,?_⟩
 have fin:∀(l u:Option (Int×Tok)),l.map (·.1)=lo→u.map (·.1)=hi→vl=partValue l→vu=partValue u→wpAny (model X.prog X.w) X.A (getItem (.str z t) (.ref sl)) (EP X pins σ Q) X.xe s:=fun l u e1 e2 e3 e4=>by
  subst e1 e2 e3 e4
  obtain ⟨o,ho,hc,hd⟩:=hs
  refine wpAny_getItem_str_slice (l:=l) (u:=u) (st:=none) ⟨o,ho,hc,hd⟩ rfl ?_
  exact post_val_or_str ⟨Nat.le_trans (Txt.slice_le z _ _) hz,fun t' k=>⟨.str _,H,I.tok _,⟨_,rfl⟩,q⟩⟩
 cases pl with
 |none=>
  cases pu with
  |none=>exact fin none none rfl rfl rfl rfl
  |int j u=>exact fin none (some (j,u)) rfl rfl rfl rfl
 |int i t1=>
  cases pu with
  |none=>exact fin (some (i,t1)) none rfl rfl rfl rfl
  |int j u=>exact fin (some (i,t1)) (some (j,u)) rfl rfl rfl rfl
def tRev (K:W.Frag) (te ts:TE):TE:=fun σ H Q=>te σ H fun x H1=>ts σ H1 fun k H2=>∃a xs,x=.ref a∧k=.int (-1)∧SqL K H2 a xs∧∀p,H2 p=none→Q (.ref p) (upd H2 p (.lst xs.reverse))
theorem zlc {X:Cx}{e st:Expr}{te ts:TE}{p2 pos:Pos}(he:PE X e te) (hst:PE X st ts) (hmono:∀σ H (Q Q':VK),ts σ H Q→(∀v H',Q v H'→Q' v H')→ts σ H Q'):PE X (.Subscript e (.Slice none none (some st) p2) pos) (tRev X.K te ts):=by
 intro pins s σ H Q I h
 refine Subscript_ (thn (he pins s σ H _ I h) fun v s1 ⟨x,H1,I1,r1,q1⟩=>?_)
 refine wpAny_Slice ?_
 rw[evalPart_none]
 refine wpAny_pure ?_
 refine wpAny_pure ?_
 have hp:PO X (some st) (tPart ts):=zaS hst
 have hrd:tPart ts σ H1 (fun o H2=>∃i,o=some i∧∃a xs,x=.ref a∧V.int i=.int (-1)∧SqL X.K H2 a xs∧∀p,H2 p=none→Q (.ref p) (upd H2 p (.lst xs.reverse))):=hmono σ H1 _ _ q1 fun k H2 ⟨a,xs,e1,e2,e3,e4⟩=>⟨-1,e2,-1,rfl,a,xs,e1,rfl,e3,e4⟩
 refine thn (hp pins s1 σ H1 (fun o H2=>∃i,o=some i∧∃a xs,x=.ref a∧V.int i=.int (-1)∧SqL X.K H2 a xs∧∀p,H2 p=none→Q (.ref p) (upd H2 p (.lst xs.reverse))) I1 ?_) fun vk s2 ⟨k,H2,I2,pk,q2⟩=>?_
 ·exact hrd
 ·obtain ⟨i,rfl,a,xs,rfl,ei,hx,q⟩:=q2
  cases ei
  cases r1
  have I4:Inv X pins σ H2 { s2 with heap:=s2.heap.push { cls:=.type "slice",data:=.fields #[.none,.none,vk] } }:=I2.kept (t':=s2.toks) fun b ob q=>Heap.get?_push_of_some _ q
  obtain ⟨its,r,ht,hz⟩:=I4.list hx
  show wpAny (model X.prog X.w) X.A (subscriptTail e (.Slice none none (some st) p2) (.ref a) (.ref s2.heap.objs.size)) (EP X pins σ Q) X.xe { s2 with heap:=s2.heap.push { cls:=.type "slice",data:=.fields #[.none,.none,vk] } }
  refine tail_any (ops:=[.ref a,.ref s2.heap.objs.size]) ht.isList.typeIs slot_list_getitem.lookup ?_ (by with_unfolding_all rfl)
  refine wpAny_getItem_list_slice ht.isList (Heap.IsSliceOf.new ..) .none .none pk (by decide) ?_ (by rw[List.size_toArray];have:=r.length;omega)
  rw[W.krv_pick]
  refine ⟨.ref _,_,I4.laid (t':=s2.toks) (o:=.lst xs.reverse) (fun b ob q=>Heap.get?_push_of_some _ q) (Nat.le_refl _) ?_,rfl,q _ (I4.hok.fresh (Nat.le_refl _))⟩
  exact ⟨by rw[List.length_reverse];exact hz,_,0,r.reverse,by
   have:=Heap.get?_push_size { s2.heap.push { cls:=.type "slice",data:=.fields #[.none,.none,vk] } with } (o:={ cls:=.type "list",data:=.seq its.toArray.toList.reverse.toArray }) rfl
   exact this⟩
end L2
namespace T1
open PySem L2 PyProof.Rows
mutual
inductive Dep:Nat→D→Prop where
 |non (k:Nat):Dep k .non
 |bl (k:Nat) (b:Bool):Dep k (.bl b)
 |int (k:Nat) (i:Int):Dep k (.int i)
 |str (k:Nat) (x:Str):Dep k (.str x)
 |tup {k:Nat} {ds:List D} (t:Deps k ds):Dep (k+1) (.tup ds)
 |lst {k:Nat} {ds:List D} (t:Deps k ds):Dep (k+1) (.lst ds)
inductive Deps:Nat→List D→Prop where
 |nil (k:Nat):Deps k []
 |cons {k:Nat} {d:D} {ds:List D} (h:Dep k d) (t:Deps k ds):Deps k (d::ds)
end
theorem Deps.get {k:Nat}:∀ {ds:List D}{i:Nat},Deps k ds→i<ds.length→Dep k (ds.getD i .non)
 |_,0,.cons h _,_=>h
 |_,i+1,.cons _ t,hi=>by
  have:=Deps.get (i:=i) t (by simpa using hi)
  simpa using this
theorem zbX {xs:List V}{us:List Value}(r:Vals xs us){j:Nat}(h:j<us.toArray.size):RelV (xs.getD j .non) us.toArray[j]:=by
 have hl:=r.length
 have h':j<xs.length:=by rw[hl];simpa using h
 obtain ⟨u,hu,ru⟩:=r.get (i:=j) (x:=xs.getD j .non) (by simp[h'])
 have:us.toArray[j]=u:=by
  have h2:j<us.length:=by simpa using h
  have e:us[j]?=some us[j]:=List.getElem?_eq_getElem h2
  rw[e] at hu
  simpa using Option.some.inj hu
 rw[this]
 exact ru
section
variable {X:Cx}{pins:List (Addr×Obj)}{σ:L2.St}{H:Hp}{s:Shared}{z z':Addr}
theorem zhj (I:Inv X pins σ H s):∀(k:Nat){d:D},Dep k d→∀ {A:Around}{x y:V}{u v:Value},Room k A→Rep z H x d→Rep z' H y d→RelV x u→RelV y v→SeqAt.EqAt A s u v true:=by
 intro k
 induction k with
 |zero=>
  intro d hd A x y u v hr rx ry ru rv
  cases hd with
  |non=>cases rx;cases ry;cases ru;cases rv;exact SeqAt.EqAt.same _
  |bl _ b=>cases rx;cases ry;cases ru;cases rv;exact SeqAt.EqAt.same _
  |int _ i=>cases rx;cases ry;obtain ⟨t,rfl⟩:=ru;obtain ⟨t',rfl⟩:=rv;have:=SeqAt.EqAt.int_int (A:=A) (s:=s) i t i t';simpa using this
  |str _ x=>cases rx;cases ry;obtain ⟨t,rfl⟩:=ru;obtain ⟨t',rfl⟩:=rv;have:=SeqAt.EqAt.str_str (A:=A) (s:=s) x t x t';simpa using this
 |succ k ih=>
  intro d hd A x y u v hr rx ry ru rv
  cases hd with
  |non=>cases rx;cases ry;cases ru;cases rv;exact SeqAt.EqAt.same _
  |bl _ b=>cases rx;cases ry;cases ru;cases rv;exact SeqAt.EqAt.same _
  |int _ i=>cases rx;cases ry;obtain ⟨t,rfl⟩:=ru;obtain ⟨t',rfl⟩:=rv;have:=SeqAt.EqAt.int_int (A:=A) (s:=s) i t i t';simpa using this
  |str _ x=>cases rx;cases ry;obtain ⟨t,rfl⟩:=ru;obtain ⟨t',rfl⟩:=rv;have:=SeqAt.EqAt.str_str (A:=A) (s:=s) x t x t';simpa using this
  |@tup _ ds t=>
   cases rx with
   |@tup a xs _ ha _ r1=>
    cases ry with
    |@tup b ys _ hb _ r2=>
     cases ru
     cases rv
     by_cases hab:a=b
     ·subst hab;exact SeqAt.EqAt.same _
     ·obtain ⟨its,q1,p1,_⟩:=I.tuple (SqT.of ha)
      obtain ⟨its2,q2,p2,_⟩:=I.tuple (SqT.of hb)
      have l1:=q1.length
      have l2:=q2.length
      have e1:=r1.length
      have e2:=r2.length
      have key:=SeqAt.RcAt.tuples (e:=fun _=>true) p1 p2 hr.units0 fun j h1 h2=>ih (t.get (i:=j) (by rw[←e1,l1];simpa using h1)) hr.in1 (r1.get (i:=j) (by rw[←e1,l1];simpa using h1)) (r2.get (i:=j) (by rw[←e2,l2];simpa using h2)) (zbX q1 h1) (zbX q2 h2)
      have e:((List.range (min its.toArray.size its2.toArray.size)).all (fun _=>true)&&its.toArray.size==its2.toArray.size)=true:=by
       have:its.toArray.size=its2.toArray.size:=by simp;omega
       rw[this]
       simp
      rw[e] at key
      exact SeqAt.EqAt.of_refs hab key
  |@lst _ ds t=>
   cases rx with
   |@lst a xs _ ha _ r1=>
    cases ry with
    |@lst b ys _ hb _ r2=>
     cases ru
     cases rv
     by_cases hab:a=b
     ·subst hab;exact SeqAt.EqAt.same _
     ·obtain ⟨its,q1,p1,_⟩:=I.list (SqL.of ha)
      obtain ⟨its2,q2,p2,_⟩:=I.list (SqL.of hb)
      have l1:=q1.length
      have l2:=q2.length
      have e1:=r1.length
      have e2:=r2.length
      have hsz:its.toArray.size=its2.toArray.size:=by simp;omega
      have key:=SeqAt.RcAt.lists (e:=fun _=>true) p1.isList p2.isList hsz hr.units0 fun j h1 h2=>ih (t.get (i:=j) (by rw[←e1,l1];simpa using h1)) hr.in1 (r1.get (i:=j) (by rw[←e1,l1];simpa using h1)) (r2.get (i:=j) (by rw[←e2,l2];simpa using h2)) (zbX q1 h1) (zbX q2 h2)
      have e:(List.range its.toArray.size).all (fun _=>true)=true:=by simp
      rw[e] at key
      exact SeqAt.EqAt.of_refs hab key
def rSame (b:Bool):R2:=fun x y H Q=>∃z z' ds,Rep z H x (.lst ds)∧Rep z' H y (.lst ds)∧Deps 4 ds∧Q (.bl b) H
theorem zdT (hr:Room 5 X.A):OpR X (compareOp .NotEq) (rSame false):=by
 intro pins s σ H x y v u Q I rx ry h
 obtain ⟨z,z',ds,r1,r2,dp,q⟩:=h
 cases r1 with
 |@lst a xs _ ha _ r1=>
  cases r2 with
  |@lst b ys _ hb _ r2=>
   cases rx
   cases ry
   obtain ⟨its,q1,p1,_⟩:=I.list (SqL.of ha)
   obtain ⟨its2,q2,p2,_⟩:=I.list (SqL.of hb)
   have l1:=q1.length
   have l2:=q2.length
   have e1:=r1.length
   have e2:=r2.length
   have hsz:its.toArray.size=its2.toArray.size:=by simp;omega
   show wpAny _ _ (richCompare .NotEq _ _) _ _ _
   refine SeqAt.RcNeAt.lists (e:=fun _=>true) p1.isList p2.isList hsz hr.units0 (fun j h1 h2=>zhj I 4 (dp.get (i:=j) (by rw[←e1,l1];simpa using h1)) hr.in1 (r1.get (i:=j) (by rw[←e1,l1];simpa using h1)) (r2.get (i:=j) (by rw[←e2,l2];simpa using h2)) (zbX q1 h1) (zbX q2 h2)) _ _ _ _ ?_
   have e:(!(List.range its.toArray.size).all (fun _=>true))=false:=by simp
   rw[e]
   exact ⟨.bl _,H,I,rfl,q⟩
end
end T1
namespace L2
open PySem PySem.Spec PyProof.Rows
def tokOf:Value→Tok
 |.str _ t=>t
 |_=>0
theorem zbY:∀ {us:List Value},(∀u∈us,∃t,u=.str (strOf u) t)→us=strValues (us.map fun u=>(strOf u,tokOf u))
 |[],_=>rfl
 |u::r,h=>by
  obtain ⟨t,e⟩:=h u List.mem_cons_self
  have ih:=zbY fun v hv=>h v (List.mem_cons_of_mem _ hv)
  rw[List.map_cons]
  show u::r=.str (strOf u) (tokOf u)::strValues (r.map fun u=>(strOf u,tokOf u))
  rw[←ih]
  congr 1
  rw[e]
  rfl
def zjM (xs:List Str):Str:=xs.headD ⟨#[]⟩
theorem ziP {X:Cx}:MtR X "str.join" (fun x vs H Q=>∃sep l xs,x=.str sep∧vs=[.ref l]∧SqL X.K H l (xs.map V.str)∧xs.length≤1∧sep.length≤100∧(∀y∈xs,y.length≤1000)∧Q (.str (zjM xs)) H):=by
 intro pins s σ H x vs v us Q I rx rv h
 obtain ⟨sep,l,xs,rfl,rfl,hl,h1,hsep,hz,q⟩:=h
 obtain ⟨t,rfl⟩:=rx
 obtain ⟨u,rfl,ru⟩:=rv.one
 cases ru
 obtain ⟨its,r,pl,_⟩:=I.list hl
 obtain ⟨e1,e2⟩:=zb8 r
 have e3:=zbY e2
 have e4:(its.map fun u=>(strOf u,tokOf u)).map (·.1)=xs:=by rw[List.map_map,←e1];rfl
 have hI:s.heap.IsList l (strValues (its.map fun u=>(strOf u,tokOf u))).toArray:=by rw[←e3];exact pl.isList
 refine call_meets F.slot_str_join (typeIs_str s sep t) F.entry_str_join (F.args_str_join_2 _ _) (meets_str_join_list sep t l (its.map fun u=>(strOf u,tokOf u)) ?_) ⟨hI,?_⟩
 ·rw[e4]
  exact StrLaws.joinFits (B:=1000) hz (by have:xs.length*sep.length≤1*100:=Nat.mul_le_mul h1 hsep;omega)
 ·generalize its.map (fun u=>(strOf u,tokOf u))=ps at e4
  match ps,e4 with
  |[],e4=>
   have:xs=[]:=by rw[←e4];rfl
   subst this
   show (Made.str _).post _ s
   exact ⟨by show (0:Nat)≤_;exact Nat.zero_le _,⟨.str _,H,I.tok _,⟨_,rfl⟩,q⟩⟩
  |[p],e4=>
   have:xs=[p.1]:=by rw[←e4];rfl
   subst this
   exact ⟨.str _,H,I,⟨_,rfl⟩,q⟩
  |p::p2::r',e4=>
   exfalso
   rw[←e4] at h1
   simp at h1
theorem zak {t u:TS}{D:Ends}{σ:St}{H:Hp}(h:∀U:St→Hp→Prop,(∀σ H,u D σ H→U σ H)→t { D with nx:=U } σ H):tSeq t u D σ H:=h (u D) fun _ _ q=>q
theorem zbg {t:TS}{D:Ends}{σ:St}{H:Hp}(h:∀D':Ends,(∀σ H,D.nx σ H→D'.nx σ H)→(∀v H,D.rt v H→D'.rt v H)→(∀σ H,D.bk σ H→D'.bk σ H)→(∀σ H,D.ct σ H→D'.ct σ H)→t D' σ H):t D σ H:=h D (fun _ _ q=>q) (fun _ _ q=>q) (fun _ _ q=>q) fun _ _ q=>q
structure Wrq (G:Prop):Prop where
 out:G
theorem zf5 {c A G:Prop} [Decidable c] (h:c→Wrq G→A) (g:G):if c then A else G:=by
 by_cases q:c
 ·rw[if_pos q]
  exact h q ⟨g⟩
 ·rw[if_neg q]
  exact g
theorem zhk {t u:TS}{D:Ends}{σ:St}{H:Hp}{J:St→Hp→Prop}(h1:∀U:St→Hp→Prop,(∀σ H,J σ H→U σ H)→t { D with nx:=U } σ H) (h2:∀σ H,J σ H→u D σ H):tSeq t u D σ H:=h1 (u D) h2
end L2
namespace L2
open PySem PySem.Spec PySem.Calls PyProof.Rows
section
variable {prog:Program}{w:World}{A:Around}{E:Value→Shared→Prop}{s:Shared}
theorem ziQ {q a c':Addr}{qual:Str}{params:Arguments}{scope:Scope}{pm ctv:Value}{kk:Nat}{p1 p2 p3 p4 p5:Pos}{mg mb:Str→Option Value}{its:List Value}{x:Str}{t:Tok}{Q:Value→Shared→Prop}
  (ho:s.heap.get? q=some (W.kla_obj "<lambda>" qual params (.Call (.Name "len" p1) [.Subscript (.Name "fit" p2) (.Constant (.int 0) kk p3) p4] [] p5) scope [] pm c' ctv)) (hcd:s.heap.CodeRec (.ref c') qual)
  (hbind:bindArgs (W.kla_fn "<lambda>" qual params (.Call (.Name "len" p1) [.Subscript (.Name "fit" p2) (.Constant (.int 0) kk p3) p4] [] p5) scope [] pm (.ref c') ctv) ⟨[.ref a],[]⟩=pure [(("fit":Str),Value.ref a)])
  (hco:scope.isCoroutine=false) (hgen:scope.isGenerator=false) (hk:scope.kind=.function) (hcell:∀y∈scope.names,y.2≠.cell) (hfit:scope.names.lookup ("fit":Str)=some .local) (hlen:scope.names.lookup ("len":Str)=some .globalImplicit)
  (hg:s.heap.Ns mainGlobals mg) (hm:mg "len"=none) (hb:s.heap.Ns builtinsNs mb) (hbb:mb "len"=some (.builtin "len")) (hlim:s.heap.NoLimit) (hroom:A.depth<recursionLimit)
  (ht:IsTup s.heap a its.toArray) (h0:its[0]?=some (.str x t)) (hz:its.length≤sizeLine) (hx:x.length≤sizeLine)
  (h:∀h' tk t',(∀b o,s.heap.get? b=some o→h'.get? b=some o)→Q (.int x.length t') { s with heap:=h',toks:=tk }):wpAny (model prog w) A (call (.ref q) [.ref a]) Q E s:=by
 have line:=zct
 refine wpAny_call (W.kla_callFunE hroom ho rfl hco hgen rfl hcd ?_)
 rw[hbind]
 refine wpAny_pure (wpAny_newFunctionEnv hcell (fun y hy=>?_) (fun h₁ hns hsb=>⟨hlim.fresh _ hsb,?_⟩) hk)
 ·have:y=(("fit":Str),Value.ref a):=by simpa using hy
  rw[this]
  exact hfit
 have hk₁:∀b o,s.heap.get? b=some o→h₁.get? b=some o:=fun b o e=>hsb.extBut b o (Nat.ne_of_lt (Heap.lt_size e)) (Heap.get?_push_of_some _ e)
 have hm1:([(("fit":Str),Value.ref a)]:List (Str×Value)).reverse.lookup ("fit":Str)=some (.ref a):=by simp[List.lookup]
 show codeAny _ _ (.expr _ (W.envX qual scope s.heap.objs.size q (.ref c') [])) _ _
 refine W.kla_codeExpr ?_
 refine wpAny_Call_Name_kw (Calls.Name_function_global hk (by show scope.names.lookup _=_;exact hlen) (Calls.loadGlobal_builtin (hg.keeps hk₁) hm (hb.keeps hk₁) hbb ?_) (by decide))
 refine PyProof.Rows.callWith_builtin1 ?_ rfl rfl
 show wpAny _ _ (spliced ((false,eval _ _)::backTo p5 (starEach [] _))) _ _ _
 refine Calls.spliced_cons (Subscript_ (wpAny_Name (wpAny_loadName_local hk (by show scope.names.lookup _=_;exact hfit) hns hm1 ?_) (by decide)))
 refine wpAny_Constant_int ?_
 have ht1:IsTup h₁ a its.toArray:=by
  obtain ⟨ob,e,r⟩:=ht
  exact ⟨ob,hk₁ _ _ e,r⟩
 have hl0:0<its.length:=by
  cases its with
  |nil=>cases h0
  |cons _ _=>simp
 have hseq:seqIndex? 0 its.toArray.size=some 0:=by
  have:=PySem.StrLaws.seqIndex_nonneg (i:=0) (n:=its.toArray.size) (by omega) (by simpa using hl0)
  simpa using this
 have fin:∀tk,wpAny (model prog w) (A.deeper (W.envX qual scope s.heap.objs.size q (.ref c') [])) (spliced (backTo p5 (starEach [] (W.envX qual scope s.heap.objs.size q (.ref c') [])))) (fun vs s₂=>wpAny (model prog w) (A.deeper (W.envX qual scope s.heap.objs.size q (.ref c') [])) (call (.builtin "len") (.str x t::vs)) (fun v s'=>(fun (r:Result) s'=>match r with|.ok (.ret v)=>Q v s'|.ok _=>False|.error e=>E e s') (.ok (.ret v)) s') (fun e' s'=>wpAny (model prog w) (A.deeper (W.envX qual scope s.heap.objs.size q (.ref c') [])) (leaving (W.envX qual scope s.heap.objs.size q (.ref c') []) e') (fun _ s''=>(fun (r:Result) s'=>match r with|.ok (.ret v)=>Q v s'|.ok _=>False|.error e=>E e s') (.error e') s'') (fun e'' s''=>(fun (r:Result) s'=>match r with|.ok (.ret v)=>Q v s'|.ok _=>False|.error e=>E e s') (.error e'') s'') s') s₂)
   (fun e' s'=>wpAny (model prog w) (A.deeper (W.envX qual scope s.heap.objs.size q (.ref c') [])) (leaving (W.envX qual scope s.heap.objs.size q (.ref c') []) e') (fun _ s''=>(fun (r:Result) s'=>match r with|.ok (.ret v)=>Q v s'|.ok _=>False|.error e=>E e s') (.error e') s'') (fun e'' s''=>(fun (r:Result) s'=>match r with|.ok (.ret v)=>Q v s'|.ok _=>False|.error e=>E e s') (.error e'') s'') s') { s with heap:=h₁,toks:=tk }:=fun tk=>by
  refine Calls.spliced_nil (len_str (by omega) ?_)
  exact h h₁ _ _ hk₁
 exact subscriptTail_builtinR (x:=.str x t) ht1.typeIs slot_tuple_getitem.lookup (getItem_tuple (j:=0) (Q:=fun r s'=>r=.str x t∧_) ht1 (by omega) (by omega) hseq (by simpa using h0) ⟨rfl,fin _⟩) rfl
end
end L2
namespace L2
open PySem PySem.Spec PySem.Calls PyProof.Rows
def ButX (q:Addr) (H H':Hp):Prop:=∀b o,b≠q→H b=some o→H' b=some o
def cdO (c:Addr) (q:Str):HO:=.ext fun h=>h.CodeRec (.ref c) q
def LamT (P:Addr) (ln cl:Nat) (q:Str) (H:Hp):Prop:=
 H P=some (.tbl #[])∨∃c',H P=some (.tbl #[rawInt ln,rawInt cl,.ref c'])∧H c'=some (cdO c' q)
theorem LamT.tbl {P:Addr}{ln cl:Nat}{q:Str}{H:Hp}(h:LamT P ln cl q H):∃ps,H P=some (.tbl ps):=by
 rcases h with h|⟨c',h,_⟩
 ·exact ⟨_,h⟩
 ·exact ⟨_,h⟩
theorem zgA {P:Program}{w:World}{H:Hp}{h:Heap}{c:Addr}{q:Str}(hr:h.CodeRec (.ref c) q):ObjOk P w H h c (cdO c q):=by
 refine ⟨hr,?_,fun h1 h2 e k=>?_⟩
 ·obtain ⟨c2,oc,vs,t,e,ho,_⟩:=hr
  cases e
  exact ⟨oc,ho⟩
 ·obtain ⟨c2,oc,vs,t,e,ho,r⟩:=e
  cases e
  exact ⟨c,oc,vs,t,rfl,k _ ho,r⟩
section
variable {X:Cx}{pins:List (Addr×Obj)}{σ:St}{H:Hp}{s:Shared}{E:Value→Shared→Prop}
theorem ziR {P c:Addr}{pos:Pos}{nm q:Str}{params:Arguments}{body:Expr}{scope:Scope}{fl:Nat}{Qk:Value→Shared→Prop}(I:Inv X pins σ H s) (hT:LamT P pos.line pos.col q H) (hcl:closureFor scope X.env=pure []) (hcode:X.env.code=.ref c) (hK:W.codeHdIn X.K c P=true) (hBA:X.base.BuiltinsAt X.mg P)
  (h:∀f c' ctv s' H1,Inv X pins σ H1 s'→ButX P H H1→LamT P pos.line pos.col q H1→s'.heap.get? f=some (W.kla_obj nm q params body scope [] ((X.mg "__name__").getD .none) c' ctv)→s'.heap.CodeRec (.ref c') q→f≠X.env.locals→c'≠X.env.locals→Qk (.ref f) s') :
  wpAny (model X.prog X.w) X.A (makeFunction nm q params (.expr body) scope X.env [] [] [] pos fl) Qk E s:=by
 have C:=W.codeHd_of_K I.kIn hK
 have hg:=I.mod.glob.keeps I.bk
 have hb:=hBA.keeps I.bk
 have hL:=I.lt
 obtain ⟨m0,hn0,_⟩:=id I.loc
 rcases hT with hT|⟨c',hT,hc'⟩
 ·have hP:s.heap.get? P=some (W.tabObj #[]):=I.hok P _ hT
  have hPlt:P<s.heap.objs.size:=Heap.lt_size hP
  have hgP:mainGlobals≠P:=fun z=>by
   obtain ⟨o,es,ep,e,hd,_⟩:=hg
   rw[z,hP] at e;cases e;cases hd
  have hLP:X.env.locals≠P:=fun z=>by rw[←z,I.free] at hT;cases hT
  refine W.kla_makeFunction (mg:=X.mg) hcl I.ok.glob hg hcode C hP trivial rfl hgP hb fun c' ctv h' tk hx hge hlt hrec htb=>?_
  have lt1:∀b u,H b=some u→b<s.heap.objs.size:=fun b u e=>(I.hok b u e).lt
  have nc:∀b u,H b=some u→b≠c':=fun b u e=>Nat.ne_of_lt (Nat.lt_of_lt_of_le (lt1 b u e) hge)
  have hcP:c'≠P:=(Nat.ne_of_lt (Nat.lt_of_lt_of_le hPlt hge)).symm
  have k:∀b o,b≠P→s.heap.get? b=some o→(h'.push (W.kla_obj nm q params body scope [] ((X.mg "__name__").getD .none) c' ctv)).get? b=some o:=fun b o hb e=>Heap.get?_push_of_some _ (hx b o hb e)
  have htb':(h'.push (W.kla_obj nm q params body scope [] ((X.mg "__name__").getD .none) c' ctv)).get? P=some (W.tabObj #[rawInt pos.line,rawInt pos.col,.ref c']):=Heap.get?_push_of_some _ (by simpa using htb)
  have hrec':(h'.push (W.kla_obj nm q params body scope [] ((X.mg "__name__").getD .none) c' ctv)).CodeRec (.ref c') q:=by
   obtain ⟨c2,oc,vs,t,e,ho,r⟩:=hrec
   cases e
   exact ⟨c',oc,vs,t,rfl,Heap.get?_push_of_some _ ho,r⟩
  have same:∀b u,b≠P→H b=some u→upd (upd H c' (cdO c' q)) P (.tbl #[rawInt pos.line,rawInt pos.col,.ref c']) b=some u:=fun b u hb e=>by
   rw[zaj hb,zaj (nc b u e)]
   exact e
  refine h h'.objs.size c' ctv _ (upd (upd H c' (cdO c' q)) P (.tbl #[rawInt pos.line,rawInt pos.col,.ref c'])) (I.step (g':=s.gens) (d':=s.drawn) (ch:=[]) (fun _ z=>nomatch z) (fun b o _ _ _ e n=>?_) (fun b o _ _ _ e n=>⟨o.slots,?_⟩) (fun b o _ e n=>?_) (fun b o _ e=>?_) (fun b xs e=>?_) (fun b o u e=>?_) (fun b ps e=>?_) (fun m' hm=>?_) (fun b u e=>?_) I.bare) (fun b u hb e=>same b u hb e) (.inr ⟨c',zab,by rw[zaj hcP,zab]⟩) (Heap.get?_push_size _ rfl) hrec' ?_ ?_
  ·exact k b o (zad hT n).symm e
  ·exact k b o (zad hT n).symm e
  ·rw[zaj (zad hT n).symm,zaj (Nat.ne_of_lt (Nat.lt_of_lt_of_le (Heap.lt_size e) hge))]
   exact n
  ·by_cases hb:b=P
   ·exact ⟨_,by rw[hb];exact htb'⟩
   ·exact ⟨o,k b o hb e⟩
  ·exact same b _ (zan e hT (by intro z;cases z)) e
  ·exact same b _ (zan e hT (by intro z;cases z)) e
  ·by_cases hb:b=P
   ·subst hb
    rw[hT] at e
    cases e
    exact ⟨#[rawInt pos.line,rawInt pos.col,.ref c'],by rw[zab];simp⟩
   ·exact ⟨#[],by rw[same b _ hb e];simp⟩
  ·exact (hm.extBut hx hLP).push _
  ·by_cases hb:b=P
   ·subst hb
    rw[zab] at e
    cases e
    exact htb'
   ·rw[zaj hb] at e
    by_cases hc:b=c'
    ·subst hc
     rw[zab] at e
     cases e
     exact zgA hrec'
    ·rw[zaj hc] at e
     refine (I.hok b u e).stay (fun d v hd z=>k d v ?_ z) (fun d z=>same d _ (zan z hT (by intro y;cases y)) z) fun d _ z=>same d _ (zan z hT (by intro y;cases y)) z
     rcases hd with hd|hd
     ·rw[hd];exact hb
     ·exact zan hd hT (by intro y;cases y)
  ·exact (Nat.ne_of_lt (Nat.lt_of_lt_of_le hL (Nat.le_trans hge (Nat.le_of_lt hlt)))).symm
  ·exact (Nat.ne_of_lt (Nat.lt_of_lt_of_le hL hge)).symm
 ·have hP:s.heap.get? P=some (W.tabObj #[rawInt pos.line,rawInt pos.col,.ref c']):=I.hok P _ hT
  have hrec:s.heap.CodeRec (.ref c') q:=(I.hok c' _ hc').1
  refine W.kla_makeFunctionHit (mg:=X.mg) hcl I.ok.glob hg hcode C hP (by simp[TriplesOk,rawInt]) (cv:=.ref c') (by simp[codeAmong,rawInt]) hb fun ctv h' tk hk hsz=>?_
  have k:∀b o,s.heap.get? b=some o→(h'.push (W.kla_obj nm q params body scope [] ((X.mg "__name__").getD .none) c' ctv)).get? b=some o:=fun b o e=>Heap.get?_push_of_some _ (hk b o e)
  refine h h'.objs.size c' ctv _ H (I.kept k) (fun _ _ _ e=>e) (.inr ⟨c',hT,hc'⟩) (Heap.get?_push_size _ rfl) ?_ (Nat.ne_of_lt (Nat.lt_of_lt_of_le hL hsz)).symm (fun z=>by rw[z,I.free] at hc';cases hc')
  obtain ⟨c2,oc,vs,t,e,ho,r⟩:=hrec
  cases e
  exact ⟨c',oc,vs,t,rfl,k _ _ ho,r⟩
end
end L2
namespace L2
open PySem PySem.Spec PySem.Calls PyProof.Rows
def zke (P:Addr) (ln cl:Nat) (q:Str):List V→Hp→VK→Prop:=fun vs H Q=>∃(l:Addr) (xs:List V) (ms:Nat→Str),vs=[.ref l]∧H l=some (.lst xs)∧0<xs.length∧(∀i,i<xs.length→∃a ys,xs[i]?=some (.ref a)∧H a=some (.tup (.str (ms i)::ys))∧(ms i).length≤1000)∧LamT P ln cl q H ∧
 ∀H1 i v,ButX P H H1→LamT P ln cl q H1→xs[i]?=some v→(∀j,j<xs.length→(ms j).length≤(ms i).length∧(j<i→(ms j).length<(ms i).length))→Q v H1
section
variable {X:Cx}{pins:List (Addr×Obj)}{σ:St}{H:Hp}{s:Shared}{E:Value→Shared→Prop}
theorem zfB {q c':Addr}{qual:Str}{params:Arguments}{scope:Scope}{pm ctv:Value}{kk:Nat}{p1 p2 p3 p4 p5:Pos}{l:Addr}{xs:List V}{ms:Nat→Str}{Q:VK}
  (I:Inv X pins σ H s) (hcalm:X.calm=true) (hr:X.A.in1.depth<recursionLimit) (hm:X.mg "len"=none)
  (ho:s.heap.get? q=some (W.kla_obj "<lambda>" qual params (.Call (.Name "len" p1) [.Subscript (.Name "fit" p2) (.Constant (.int 0) kk p3) p4] [] p5) scope [] pm c' ctv)) (hcd:s.heap.CodeRec (.ref c') qual) (hq:q≠X.env.locals) (hc:c'≠X.env.locals)
  (hbind:∀a,bindArgs (W.kla_fn "<lambda>" qual params (.Call (.Name "len" p1) [.Subscript (.Name "fit" p2) (.Constant (.int 0) kk p3) p4] [] p5) scope [] pm (.ref c') ctv) ⟨[.ref a],[]⟩=pure [(("fit":Str),Value.ref a)])
  (hco:scope.isCoroutine=false) (hgen:scope.isGenerator=false) (hk:scope.kind=.function) (hcell:∀y∈scope.names,y.2≠.cell) (hfit:scope.names.lookup ("fit":Str)=some .local) (hlen:scope.names.lookup ("len":Str)=some .globalImplicit)
  (hl:H l=some (.lst xs)) (hpos:0<xs.length) (hxs:∀i,i<xs.length→∃a ys,xs[i]?=some (.ref a)∧H a=some (.tup (.str (ms i)::ys))∧(ms i).length≤1000)
  (h:∀i v,xs[i]?=some v→(∀j,j<xs.length→(ms j).length≤(ms i).length∧(j<i→(ms j).length<(ms i).length))→Q v H) :
  wpAny (model X.prog X.w) X.A (call (.builtin "max") [.ref l] [(Str.ofString "key",.ref q)]) (EP X pins σ Q) E s:=by
 obtain ⟨zl,its,nn,rv,hlo⟩:=I.hok l _ hl
 obtain ⟨m,hn,_⟩:=id I.loc
 have hlen2:xs.length=its.length:=rv.length
 have hLl:l≠X.env.locals:=fun z=>by rw[z,I.free] at hl;cases hl
 have line:(1000:Nat)≤sizeLine:=by rw[sizeLine_eq];decide
 have kb:∀b o,X.base.get? b=some o→b≠X.env.locals:=fun b o e=>Nat.ne_of_lt (Nat.lt_of_lt_of_le (Heap.lt_size e) (Nat.le_trans I.ok.bsz I.ok.above))
 obtain ⟨mb,hb1,hb2⟩:=I.mod.blt
 refine kmk_max (vs:=its) (fun i=>((ms i).length:Int)) (I.ok.hd hcalm) (Att.fr_all hn) (zf2 X.env.locals) (fun h1 F N=>?_) (by omega) (fun i v hv h1 tk own F N=>?_) (fun i v h' tk' hv hb F N=>?_)
 ·exact ⟨_,zc8 N _ _ hLl hlo,rfl,nn,rfl⟩
 ·have hi:i<its.length:=(List.getElem?_eq_some_iff.mp hv).1
  obtain ⟨a,ys,e1,e2,e3⟩:=hxs i (by omega)
  have rel:RelV (.ref a) v:=by
   have:=rv.get e1
   obtain ⟨u,hu,r⟩:=this
   rw[hv] at hu
   cases hu
   exact r
  cases rel
  obtain ⟨za,tits,rt,ht⟩:=I.hok a _ e2
  have haL:a≠X.env.locals:=fun z=>by rw[z,I.free] at e2;cases e2
  have N0:News (Att.noObjs s.heap) X.env.locals h1 (Att.ledger s.heap X.env.locals X.env.locals):=fun p hp=>N p (List.mem_append_left _ hp)
  have k:=zc8 N0
  have kB:∀b o,X.base.get? b=some o→h1.get? b=some o:=fun b o e=>k b o (kb b o e) (I.bk b o e)
  cases rt with
  |cons r0 rt=>
   rename_i u us
   obtain ⟨t0,e0⟩:=r0
   subst e0
   refine ziQ (s:={ s with heap:=h1,toks:=tk }) (x:=ms i) (k q _ hq ho) ?_ (hbind a) hco hgen hk hcell hfit hlen (I.mod.glob.keeps kB) hm (hb1.keeps kB) ((hb2 "len" (by decide)).trans rfl) (I.mod.nolimit.keeps kB) hr (its:=.str (ms i) t0::us) ?_ rfl ?_ (by omega) (fun h2 tk2 t2 k2=>?_)
   ·obtain ⟨c2,oc,vs,t,e,ho2,r⟩:=hcd
    cases e
    exact ⟨c',oc,vs,t,rfl,k _ _ hc ho2,r⟩
   ·obtain ⟨ob,eo,r⟩:=ht
    exact ⟨ob,k _ _ haL eo,r⟩
   ·have:=rt.length
    simp at za ⊢
    omega
   ·refine KskEnd.intro ⟨F.ns.keeps k2,fun b o e=>k2 b o (F.keep b o e),F.above⟩ (fun p hp=>⟨k2 _ _ (N p hp).1,(N p hp).2⟩) fun p hp=>hp
 ·have hi:i<its.length:=(List.getElem?_eq_some_iff.mp hv).1
  obtain ⟨a,ys,e1,e2,e3⟩:=hxs i (by omega)
  have rel:RelV (.ref a) v:=by
   obtain ⟨u,hu,r⟩:=rv.get e1
   rw[hv] at hu
   cases hu
   exact r
  refine ⟨.ref a,H,I.lib hn F N,rel,h i _ e1 fun j hj=>?_⟩
  have:=hb j (by omega)
  exact ⟨by omega,fun q=>by have:=this.2 q;omega⟩
theorem zgB {e:Expr}{te:TE}{P c:Addr}{params:Arguments}{scope:Scope}{kk:Nat}{p p1 p2 p3 p4 p5 lp kp pos:Pos}(hcalm:X.calm=true) (hr:X.A.in1.depth<recursionLimit) (hm:X.mg "max"=none) (hm2:X.mg "len"=none) (hcode:X.env.code=.ref c) (hK:W.codeHdIn X.K c P=true) (hBA:X.base.BuiltinsAt X.mg P) (he:PE X e te)
  (hbind:∀a c' pm ctv,bindArgs (W.kla_fn "<lambda>" (X.env.qual++"<lambda>") params (.Call (.Name "len" p1) [.Subscript (.Name "fit" p2) (.Constant (.int 0) kk p3) p4] [] p5) scope [] pm (.ref c') ctv) ⟨[.ref a],[]⟩=pure [(("fit":Str),Value.ref a)])
  (hg:Gl X "max":=by rfl) (hdef:defaultsOf params X.env=([],[]):=by rfl) (hcl:closureFor scope X.env=pure []:=by rfl)
  (hco:scope.isCoroutine=false:=by rfl) (hgen:scope.isGenerator=false:=by rfl) (hk:scope.kind=.function:=by rfl) (hcell:∀y∈scope.names,y.2≠.cell:=by decide) (hfit:scope.names.lookup ("fit":Str)=some .local:=by rfl) (hlen:scope.names.lookup ("len":Str)=some .globalImplicit:=by rfl)
  (h1:starEach [e] X.env=(false,eval e X.env)::starEach [] X.env:=by rfl) (h2:backTo pos (starEach [e] X.env)=(false,eval e X.env)::backTo pos (starEach [] X.env):=by rfl) (h3:(backTo pos (starEach [e] X.env)).any (·.1)=false:=by rfl) :
  PE X (.Call (.Name "max" p) [e] [⟨some "key",.Lambda params (.Call (.Name "len" p1) [.Subscript (.Name "fit" p2) (.Constant (.int 0) kk p3) p4] [] p5) scope lp,kp⟩] pos) (tCB (zke P lp.line lp.col (X.env.qual++"<lambda>")) (tCons te tNil)):=by
 intro pins s σ H Q I h
 refine wpAny_Call_Name_kw (zc0 I hg hm (u:=.builtin "max") rfl ?_ (by decide) (by decide))
 refine callWith_kw (thn ((zaa he zae h1) pos pins s σ H _ I h) fun us s1 ⟨vs,H1,I1,r,q⟩=>?_) h2 h3
 obtain ⟨l,xs,ms,rfl,hl,hpos,hxs,hT,q⟩:=q
 obtain ⟨u,rfl,ru⟩:=vals1 r
 cases ru
 refine kws_cons (W.kla_eval hdef (ziR I1 hT hcl hcode hK hBA fun f c' ctv s2 H2 I2 b2 T2 ho hcd hf hc=>kws_nil ?_))
 obtain ⟨ps,hPt⟩:=hT.tbl
 refine zfB I2 hcalm hr hm2 ho hcd hf hc (fun a=>hbind a c' _ ctv) hco hgen hk hcell hfit hlen (b2 _ _ (zan hl hPt (by intro z;cases z)) hl) hpos (fun i hi=>?_) (fun i v hv hb=>q H2 i v b2 T2 hv hb)
 obtain ⟨a,ys,e1,e2,e3⟩:=hxs i hi
 exact ⟨a,ys,e1,b2 _ _ (zan e2 hPt (by intro z;cases z)) e2,e3⟩
end
section
variable {prog:Program}{w:World}{A:Around}{E:Value→Shared→Prop}{s:Shared}
theorem ze6 {it t:Addr}{items:Array Value}(hne:t≠it):∀(n i:Nat) (s:Shared) (Q:List Value→Shared→Prop),s.heap.IsListIter it t i→s.heap.IsList t items→i+n≤items.size →
  (∀h',h'.IsListIter it t (i+n)→Heap.SameBut it s.heap h'→Q ((items.toList.drop i).take n) { s with heap:=h' })→wpAny (model prog w) A (draw (.ref it) n) Q E s
 |0,i,s,Q,hit,_,_,hQ=>by
  show wpAny _ _ (pure []) Q E s
  exact wpAny_pure (by simpa using hQ s.heap hit (Heap.SameBut.refl ..))
 |n+1,i,s,Q,hit,ht,hle,hQ=>by
  have hlt:i<items.size:=by omega
  show wpAny _ _ (pyNext (.ref it) >>= _) Q E s
  refine wpAny_bind (wpAny_pyNext_list_item hit ht (x:=items[i]) (by simp[hlt]) fun h₁ hit₁ hs₁=>?_)
  refine wpAny_bind (wpAny_holding (ze6 hne n (i+1) _ _ hit₁ (ht.extBut hs₁.extBut hne) (by omega) fun h₂ hit₂ hs₂=>wpAny_pure ?_))
  have hd:items.toList.drop i=items[i]::items.toList.drop (i+1):=by simp[List.drop_eq_getElem_cons,hlt]
  have:=hQ h₂ (by rw[show i+(n+1)=i+1+n by omega];exact hit₂) (hs₁.trans hs₂)
  rw[hd,List.take_succ_cons] at this
  exact this
theorem zc6 {t:Addr}{items:Array Value}{Q:List Value→Shared→Prop}(hh:A.handled=none) (ht:s.heap.IsList t items)
  (hQ:∀h',Heap.ExtBut s.heap.objs.size s.heap h'→Q items.toList { s with heap:=h' }):wpAny (model prog w) A (unpackItems (.ref t) items.size none) Q E s:=by
 have hlt:t≠s.heap.objs.size:=by obtain ⟨o,ho,_⟩:=ht;exact Nat.ne_of_lt (Heap.lt_size ho)
 unfold unpackItems
 refine wpAny_bind ?_
 ·unfold notIterableAtAll
  refine wpAny_bind (wpAny_specialOf ht.typeIs F.slot_list_iter.lookup ?_)
  refine wpAny_pure ?_
  simp only[Bool.false_eq_true,if_false]
  refine wpAny_bind (wpAny_holding (wpAny_pyIter_list ht ?_))
  refine wpAny_bind (wpAny_holding (ze6 hlt items.size 0 _ _ ⟨_,Heap.get?_push_size _ rfl,rfl,rfl⟩ (ht.push _) (by omega) fun h₁ hit₁ hs₁=>?_))
  have hall:List.take items.size (List.drop 0 items.toList)=items.toList:=by
   rw[List.drop_zero];exact List.take_of_length_le (by simp)
  rw[hall]
  rw[if_neg (by simp)]
  have ht₁:Heap.IsList h₁ t items:=(ht.push _).extBut hs₁.extBut hlt
  refine wpAny_bind (wpAny_holding (wpAny_pyNext_list_end hh hit₁ ht₁ (by simp) fun h₂ he₂=>?_))
  simp only[Option.isSome_none,Bool.false_eq_true,if_false]
  refine wpAny_pure (hQ h₂ fun b o hb e=>he₂ b o hb (hs₁.extBut b o hb (Heap.get?_push_of_some _ e)))
theorem zcS {env:Env}{elts:List Expr} {x1}{pos:Pos}{t:Addr}{items:Array Value}{Q:Unit→Shared→Prop}(hh:A.handled=none) (ht:s.heap.IsList t items)
  (hn:(assignEach elts env).length=items.size) (hstar:(assignEach elts env).findIdx? (·.1)=none)
  (h:∀h',Heap.ExtBut s.heap.objs.size s.heap h'→wpAny (model prog w) A (assignInOrder ((assignEach elts env).map (·.2)) items.toList) Q E { s with heap:=h' }) :
  wpAny (model prog w) A (assign (.Tuple elts x1 pos) env (.ref t)) Q E s:=by
 rw[assign_Tuple]
 refine wpAny_bind (wpAny_standAt ?_)
 unfold unpack
 rw[hn,hstar]
 exact wpAny_bind (wpAny_holding (zc6 hh ht h))
end
def gTupL (K:W.Frag) (n:Nat) (t:TGs):TG:=fun v σ H Q=>∃a xs,v=.ref a∧SqL K H a xs∧xs.length=n∧t xs σ H Q
theorem zkf {X:Cx}{pos:Pos}{es:List Expr}{k:Nat}{t:TGs}{n:Nat}(hc:X.calm=true) (h:PGs X es t)
  (hn:(assignEach es X.env).length=n:=by rfl) (hst:(assignEach es X.env).findIdx? (·.1)=none:=by rfl):PG X (.Tuple es k pos) (gTupL X.K n t):=by
 intro pins s σ H v u Q I r hw
 obtain ⟨a,xs,e1,hq,hl,hw⟩:=hw
 subst e1
 cases r
 obtain ⟨its,rv,ht,hz⟩:=I.list hq
 refine zcS (I.ok.hd hc) ht.isList (by simp[hn,←hl,rv.length]) hst fun h' hx=>?_
 have I1:Inv X pins σ H { s with heap:=h' }:=I.kept (t':=s.toks) fun b o e=>hx b o (Nat.ne_of_lt (Heap.lt_size e)) e
 exact h pins _ σ H xs _ Q I1 (by simpa using rv) hw
end L2
namespace T1
open PySem PySem.Spec PyProof.Rows L2
end T1
namespace L2
open PySem PySem.Spec PyProof.Rows
end L2
namespace T1
open PySem PySem.Spec PyProof.Rows L2
end T1
namespace L2
open PySem PySem.Spec PyProof.Rows
section
variable {κ:Type} [DecidableEq κ]
def valV (kvs:List (κ×V)) (k:κ):Option V:=(kvs.find? fun kv=>decide (kv.1=k)).map (·.2)
def putK (kvs:List (κ×V)) (k:κ) (v:V):List (κ×V):=
 if (kvs.any fun kv=>decide (kv.1=k))=true then kvs.map (fun kv=>if kv.1=k then (kv.1,v) else kv) else kvs++[(k,v)]
theorem ziS {k:κ}:valV ([]:List (κ×V)) k=none:=rfl
theorem zbc {p:κ×V}{r:List (κ×V)}{k:κ}(e:p.1=k):valV (p::r) k=some p.2:=by simp[valV,List.find?_cons,e]
theorem zbd {p:κ×V}{r:List (κ×V)}{k:κ}(e:¬p.1=k):valV (p::r) k=valV r k:=by simp[valV,List.find?_cons,e]
theorem zc9 (k:κ):∀kvs:List (κ×V),(kvs.any fun kv=>decide (kv.1=k))=(valV kvs k).isSome
 |[]=>rfl
 |p::r=>by
  rw[List.any_cons]
  by_cases e:p.1=k
  ·simp only[zbc e,decide_eq_true e,Bool.true_or,Option.isSome_some]
  ·rw[zbd e,decide_eq_false e,Bool.false_or];exact zc9 k r
theorem zf6 (k j:κ) (y:V):∀kvs:List (κ×V),valV (kvs.map fun kv=>if kv.1=k then (kv.1,y) else kv) j=(valV kvs j).map fun x=>if j=k then y else x
 |[]=>rfl
 |p::r=>by
  have ih:=zf6 k j y r
  rw[List.map_cons]
  by_cases h:p.1=k
  ·rw[if_pos h]
   by_cases e:p.1=j
   ·rw[zbc (p:=(p.1,y)) e,zbc e,Option.map_some,if_pos (e.symm.trans h)]
   ·rw[zbd (p:=(p.1,y)) e,zbd e,ih]
  ·rw[if_neg h]
   by_cases e:p.1=j
   ·rw[zbc (p:=p) e,zbc e,Option.map_some,if_neg (fun z=>h (e.trans z))]
   ·rw[zbd (p:=p) e,zbd e,ih]
theorem ze7 (k j:κ) (y:V):∀kvs:List (κ×V),valV kvs k=none→valV (kvs++[(k,y)]) j=if j=k then some y else valV kvs j
 |[],_=>by
  by_cases e:k=j
  ·rw[if_pos e.symm];exact zbc (p:=(k,y)) e
  ·rw[if_neg (fun z=>e z.symm)];exact zbd (p:=(k,y)) e
 |p::r,hn=>by
  rw[List.cons_append]
  have hk:¬p.1=k:=fun z=>by rw[zbc z] at hn;cases hn
  rw[zbd hk] at hn
  have ih:=ze7 k j y r hn
  by_cases e:p.1=j
  ·rw[zbc e,zbc e,if_neg (fun z=>hk (e.trans z))]
  ·rw[zbd e,zbd e,ih]
theorem zf7 (kvs:List (κ×V)) (k j:κ) (y:V):valV (putK kvs k y) j=if j=k then some y else valV kvs j:=by
 unfold putK
 by_cases a:(kvs.any fun kv=>decide (kv.1=k))=true
 ·rw[if_pos a,zf6]
  rw[zc9] at a
  by_cases e:j=k
  ·obtain ⟨x,hx⟩:=Option.isSome_iff_exists.mp a
   rw[if_pos e,e,hx,Option.map_some,if_pos rfl]
  ·rw[if_neg e]
   cases valV kvs j with
   |none=>rfl
   |some x=>rw[Option.map_some,if_neg e]
 ·rw[if_neg a]
  refine ze7 k j y kvs ?_
  rw[zc9] at a
  cases q:valV kvs k with
  |none=>rfl
  |some x=>rw[q] at a;exact (a rfl).elim
theorem zcj (kvs:List (κ×V)) (k:κ) (v:V):(putK kvs k v).length≤kvs.length+1:=by
 unfold putK
 split
 ·rw[List.length_map];omega
 ·rw[List.length_append,List.length_cons,List.length_nil];omega
theorem RelO.isSome_eq {o:Option V}{u:Option Value}(r:RelO o u):o.isSome=u.isSome:=by
 cases o with
 |none=>cases u with
  |none=>rfl
  |some _=>exact (show False from r).elim
 |some _=>cases u with
  |none=>exact (show False from r).elim
  |some _=>rfl
theorem KV.val {kvs:List (κ×V)}{vs:List (κ×Value)}(r:KV kvs vs) (k:κ):RelO (valV kvs k) (valueAt vs k):=by
 unfold KV at r
 induction r with
 |nil=>exact True.intro
 |@cons p q ps qs h t ih=>
  obtain ⟨h1,h2⟩:=h
  by_cases e:p.1=k
  ·have e':q.1=k:=h1.symm.trans e
   have b:valueAt (q::qs) k=some q.2:=by simp[valueAt,List.find?_cons,e']
   rw[zbc e,b];exact h2
  ·have e':¬q.1=k:=fun z=>e (h1.trans z)
   have b:valueAt (q::qs) k=valueAt qs k:=by simp[valueAt,List.find?_cons,e']
   rw[zbd e,b];exact ih
theorem KV.any {kvs:List (κ×V)}{vs:List (κ×Value)}(r:KV kvs vs) (k:κ):(kvs.any fun kv=>decide (kv.1=k))=vs.any fun kv=>decide (kv.1=k):=by
 unfold KV at r
 induction r with
 |nil=>rfl
 |cons h t ih=>rw[List.any_cons,List.any_cons,ih,h.1]
theorem KV.repl {kvs:List (κ×V)}{vs:List (κ×Value)}(r:KV kvs vs) (k:κ){y:V}{u:Value}(ry:RelV y u) :
  KV (kvs.map fun kv=>if kv.1=k then (kv.1,y) else kv) (vs.map fun kv=>if kv.1=k then (kv.1,u) else kv):=by
 unfold KV at r ⊢
 induction r with
 |nil=>exact .nil
 |@cons p q ps qs h t ih=>
  rw[List.map_cons,List.map_cons]
  refine .cons ?_ ih
  obtain ⟨h1,h2⟩:=h
  by_cases e:p.1=k
  ·rw[if_pos e,if_pos (h1.symm.trans e)];exact ⟨h1,ry⟩
  ·rw[if_neg e,if_neg (fun z=>e (h1.trans z))];exact ⟨h1,h2⟩
theorem KV.put {kvs:List (κ×V)}{vs:List (κ×Value)}(r:KV kvs vs) (k:κ){y:V}{u:Value}(ry:RelV y u):KV (putK kvs k y) (stored vs k u):=by
 unfold putK stored
 rw[r.any k]
 by_cases e:(vs.any fun kv=>decide (kv.1=k))=true
 ·rw[if_pos e,if_pos e];exact r.repl k ry
 ·rw[if_neg e,if_neg e];exact Paired.snoc r ⟨rfl,ry⟩
theorem KV.length {kvs:List (κ×V)}{vs:List (κ×Value)}(r:KV kvs vs):kvs.length=vs.length:=Paired.length r
end
theorem zhl {P:Program}{w:World}{k:Key}{u:Value}(r:RelV (kV k) u):(zaG P w).is k u=true:=by
 cases k with
 |inl i=>obtain ⟨t,e⟩:=(show ∃t,u=Value.int i t from r);subst e;exact zfu P w i t
 |inr x=>obtain ⟨t,e⟩:=(show ∃t,u=Value.str x t from r);subst e;exact zfv P w x t
theorem ze8 {P:Program}{w:World}:∀ {ks:List Key}{us:List Value},Vals (ks.map kV) us→ItemsAre (zaG P w) ks us
 |[],_,r=>by rw[List.map_nil] at r;cases r;exact .nil
 |k::ks,_,r=>by
  rw[List.map_cons] at r
  cases r with
  |cons h t=>exact .cons (zhl h) (ze8 t)
abbrev KT (H:Hp):List (List Key×V)→List (List Key×Addr×Value)→Prop:=Paired fun p q=>p.1=q.1∧H q.2.1=some (.tup (p.1.map kV))∧RelV p.2 q.2.2
theorem KT.val {H:Hp}{kvs:List (List Key×V)}{xs:List (List Key×Addr×Value)}(r:KT H kvs xs) (k:List Key):RelO (valV kvs k) ((atKey xs k).map (·.2)):=by
 induction r with
 |nil=>exact True.intro
 |@cons p q ps qs h t ih=>
  obtain ⟨h1,_,h2⟩:=h
  by_cases e:p.1=k
  ·have e':q.1=k:=h1.symm.trans e
   have b:atKey (q::qs) k=some q.2:=by simp[atKey,List.find?_cons,e']
   rw[zbc e,b];exact h2
  ·have e':¬q.1=k:=fun z=>e (h1.trans z)
   have b:atKey (q::qs) k=atKey qs k:=by simp[atKey,List.find?_cons,e']
   rw[zbd e,b];exact ih
theorem KT.repl {H:Hp}{kvs:List (List Key×V)}{xs:List (List Key×Addr×Value)}(r:KT H kvs xs) (k:List Key){y:V}{u:Value}(ry:RelV y u) :
  KT H (kvs.map fun kv=>if kv.1=k then (kv.1,y) else kv) (xs.map (putAt k u)):=by
 induction r with
 |nil=>exact .nil
 |@cons p q ps qs h t ih=>
  rw[List.map_cons,List.map_cons]
  refine .cons ?_ ih
  obtain ⟨h1,h2,h3⟩:=h
  unfold putAt
  by_cases e:p.1=k
  ·rw[if_pos e,if_pos (h1.symm.trans e)];exact ⟨h1,h2,ry⟩
  ·rw[if_neg e,if_neg (fun z=>e (h1.trans z))];exact ⟨h1,h2,h3⟩
theorem KT.put {H:Hp}{kvs:List (List Key×V)}{xs:List (List Key×Addr×Value)}(r:KT H kvs xs) (k:List Key){b:Addr}{y:V}{u:Value}(hb:H b=some (.tup (k.map kV))) (ry:RelV y u) :
  KT H (putK kvs k y) (storedH xs k b u):=by
 have e:(kvs.any fun kv=>decide (kv.1=k))=(atKey xs k).isSome:=by
  rw[zc9,(r.val k).isSome_eq,Option.isSome_map]
 unfold putK storedH
 rw[e]
 by_cases q:(atKey xs k).isSome=true
 ·rw[if_pos q,if_pos q];exact r.repl k ry
 ·rw[if_neg q,if_neg q];exact Paired.snoc r ⟨rfl,hb,ry⟩
theorem KT.keeps {H H':Hp}{kvs:List (List Key×V)}{xs:List (List Key×Addr×Value)}(r:KT H kvs xs) (ht:∀b ys,H b=some (.tup ys)→H' b=some (.tup ys)):KT H' kvs xs:=
 Paired.mapP r fun _ _ z=>⟨z.1,ht _ _ z.2.1,z.2.2⟩
section
variable {P:Program}{w:World}{H:Hp}{h:Heap}{a:Addr}
theorem zld {u:HO}(ok:HOk P w H h) (e:Rd H a u):ObjOk P w H h a u:=e.ok ok
theorem ziT {kvs:List (Key×V)}(ok:HOk P w H h) (e:Rd H a (.dK kvs)):kvs.length≤sizeLine∧(a==sysModules)=false∧∃vs,KV kvs vs∧h.DictOf (zaG P w) a vs:=
 show ObjOk P w H h a (.dK kvs) from zld ok e
theorem zlz {kvs:List (Key×V)}(ok:HOk P w H h) (e:H a=some (.dK kvs)):kvs.length≤sizeLine∧(a==sysModules)=false∧∃vs,KV kvs vs∧h.DictOf (zaG P w) a vs:=ziT ok (.inl e)
theorem ze9 {ks:List Key}(ok:HOk P w H h) (e:H a=some (.tup (ks.map kV))):(tupleKind (zaG P w)).is h ks a:=by
 obtain ⟨_,its,r,o,h1,h2,n,h3⟩:=(show ObjOk P w H h a (.tup (ks.map kV)) from ok a _ e)
 exact ⟨o,its.toArray,n,h1,h2,h3,by simpa using ze8 r⟩
theorem ziU {kvs:List (List Key×V)}(ok:HOk P w H h) (e:Rd H a (.dT kvs)):kvs.length≤sizeLine∧(a==sysModules)=false ∧
  ∃xs,KT H kvs xs∧h.DictOfH (tupleKind (zaG P w)) a xs:=by
 obtain ⟨z,y,xs,r,o,es,ep,h1,h2,h3,h4,h5⟩:=(show ObjOk P w H h a (.dT kvs) from zld ok e)
 refine ⟨z,y,xs,r,o,es,ep,h1,h2,h3,h4,fun x hx=>?_,h5⟩
 have all:∀ {l:List (List Key×V)} {m:List (List Key×Addr×Value)},KT H l m→∀x∈m,(tupleKind (zaG P w)).is h x.1 x.2.1:=by
  intro l m q
  induction q with
  |nil=>intro x hx;exact nomatch hx
  |@cons p q ps qs hq t ih=>
   intro x hx
   rcases List.mem_cons.mp hx with e|hx
   ·subst e
    exact ze9 ok (by rw[←hq.1];exact hq.2.1)
   ·exact ih x hx
 exact all r x hx
theorem zlA {kvs:List (List Key×V)}(ok:HOk P w H h) (e:H a=some (.dT kvs)):kvs.length≤sizeLine∧(a==sysModules)=false ∧
  ∃xs,KT H kvs xs∧h.DictOfH (tupleKind (zaG P w)) a xs:=ziU ok (.inl e)
end
def DGet (H:Hp) (a:Addr) (y:V) (r:Option V):Prop:=
 (∃kvs k,Rd H a (.dK kvs)∧y=kV k∧r=valV kvs k)∨∃kvs k b,Rd H a (.dT kvs)∧y=.ref b∧H b=some (.tup (k.map kV))∧r=valV kvs k
def DPut (H:Hp) (a:Addr) (y v:V) (H':Hp):Prop:=
 (∃kvs k,H a=some (.dK kvs)∧y=kV k∧kvs.length<sizeLine∧H'=upd H a (.dK (putK kvs k v))) ∨
 ∃kvs k b,H a=some (.dT kvs)∧y=.ref b∧H b=some (.tup (k.map kV))∧kvs.length<sizeLine∧H'=upd H a (.dT (putK kvs k v))
theorem DGet.k {H:Hp}{a:Addr}{kvs:List (Key×V)}{k:Key}(e:H a=some (.dK kvs)):DGet H a (kV k) (valV kvs k):=.inl ⟨kvs,k,.inl e,rfl,rfl⟩
theorem DPut.k {H:Hp}{a:Addr}{kvs:List (Key×V)}{k:Key}{v:V}(e:H a=some (.dK kvs)) (hl:kvs.length<sizeLine):DPut H a (kV k) v (upd H a (.dK (putK kvs k v))):=.inl ⟨kvs,k,e,rfl,hl,rfl⟩
section
variable {X:Cx}{pins:List (Addr×Obj)}{σ:St}{H:Hp}{s:Shared}{a:Addr}{y v:V}{u r:Value}{o:Option V}{A:Around}{E:Value→Shared→Prop}
theorem Inv.big (I:Inv X pins σ H s):sysModules<s.heap.objs.size:=by
 have h:mainGlobals<s.heap.objs.size:=(I.mod.glob.keeps I.bk).lt
 exact Nat.lt_trans (by decide) h
theorem zhm {Q:Value→Shared→Prop}(hu:A.units+1<cLine) (I:Inv X pins σ H s) (g:DGet H a y (some v)) (ry:RelV y u) (h:∀w' s',Inv X pins σ H s'→RelV v w'→Q w' s') :
  wpAny (model X.prog X.w) A (getItem (.ref a) u) Q E s:=by
 rcases g with ⟨kvs,k,e,ey,l⟩|⟨kvs,k,b,e,ey,eb,l⟩
 ·subst ey
  obtain ⟨z,hd,vs,rel,dd⟩:=ziT I.hok e
  obtain ⟨w',hw,rw'⟩:=RelO.some_of (v:=v) (o:=valueAt vs k) (by rw[l];exact rel.val k)
  exact wpAny_getItem_of (zhl ry) dd.mapOf hw (h w' _ (I.tok _) rw')
 ·subst ey
  cases (show u=Value.ref b from ry)
  obtain ⟨z,hd,xs,rel,dd⟩:=ziU I.hok e
  obtain ⟨w',hw,rw'⟩:=RelO.some_of (v:=v) (o:=(atKey xs k).map (·.2)) (by rw[l];exact rel.val k)
  obtain ⟨p,hp,hp2⟩:=Option.map_eq_some_iff.mp hw
  refine wpAny_getItem_heap (tupleKind_room_in1 hu) (ze9 I.hok eb) dd hp ?_
  rw[hp2]
  exact h w' _ (I.tok _) rw'
theorem d_in {Q:Value→Shared→Prop}(hu:A.units+1<cLine) (I:Inv X pins σ H s) (g:DGet H a y o) (ry:RelV y u) (h:∀s',Inv X pins σ H s'→Q (.bool o.isSome) s') :
  wpAny (model X.prog X.w) A (compareOp .In u (.ref a)) Q E s:=by
 rcases g with ⟨kvs,k,e,ey,l⟩|⟨kvs,k,b,e,ey,eb,l⟩
 ·subst ey
  obtain ⟨z,hd,vs,rel,dd⟩:=ziT I.hok e
  refine wpAny_in_of (zhl ry) hd dd.mapOf ?_
  rw[←(rel.val k).isSome_eq,←l]
  exact h _ (I.tok _)
 ·subst ey
  cases (show u=Value.ref b from ry)
  obtain ⟨z,hd,xs,rel,dd⟩:=ziU I.hok e
  refine wpAny_in_heap (tupleKind_room_in1 hu) (ze9 I.hok eb) hd dd ?_
  have q:=(rel.val k).isSome_eq
  rw[Option.isSome_map] at q
  rw[←q,←l]
  exact h _ (I.tok _)
theorem zfC {h':Heap}{t':Nat}{ob:HO}(I:Inv X pins σ H s) (mu:Mut (H a)) (hs:Heap.SameBut a s.heap h') (he:∃q,h'.get? a=some q) (new:ObjOk X.prog X.w (upd H a ob) h' a ob) :
  Inv X pins σ (upd H a ob) { s with heap:=h',toks:=t' }:=
 I.write (x:=a) (e:=a) mu (.inl rfl) (fun b q hb z=>(hs.2 b hb).trans z) he new
theorem zle {P:Program}{w:World}{H':Hp}{h':Heap}{kvs:List (Key×V)}{vs:List (Key×Value)}(z:kvs.length≤sizeLine) (hd:(a==sysModules)=false) (rel:KV kvs vs) (dd:h'.DictOf (zaG P w) a vs) :
  ObjOk P w H' h' a (.dK kvs):=⟨z,hd,vs,rel,dd⟩
theorem zhn {H':Hp}{Q:Unit→Shared→Prop}(hu:A.units+1<cLine) (I:Inv X pins σ H s) (g:DPut H a y v H') (ry:RelV y u) (rv:RelV v r) (h:∀s',Inv X pins σ H' s'→Q () s') :
  wpAny (model X.prog X.w) A (setItem (.ref a) u r) Q E s:=by
 rcases g with ⟨kvs,k,e,ey,l,eH⟩|⟨kvs,k,b,e,ey,eb,l,eH⟩
 ·subst ey eH
  obtain ⟨z,hd,vs,rel,dd⟩:=zlz I.hok e
  have hz:vs.length≤sizeLine:=by rw[←rel.length];exact z
  have hl:(putK kvs k v).length≤sizeLine:=by have:=zcj kvs k v;omega
  refine wpAny_setItem_pairs (hsz:=hz) (zhl ry) dd fun h' dd' hs=>h _ ?_
  have he:∃q,h'.get? a=some q:=let ⟨q,_,_,hq,_⟩:=dd';⟨q,hq⟩
  exact zfC I (by rw[e];exact True.intro) hs he (zle hl hd (rel.put k rv) dd')
 ·subst ey eH
  cases (show u=Value.ref b from ry)
  obtain ⟨z,hd,xs,rel,dd⟩:=zlA I.hok e
  have hz:xs.length≤sizeLine:=by rw[←Paired.length rel];exact z
  have hl:(putK kvs k v).length≤sizeLine:=by have:=zcj kvs k v;omega
  refine wpAny_setItem_heap (hsz:=hz) (tupleKind_room_in1 hu) (ze9 I.hok eb) dd fun h' dd' hs=>h _ ?_
  obtain ⟨q,es,ep,hq,h2,h3,h4,_,h5⟩:=dd'
  refine zfC I (by rw[e];exact True.intro) hs ⟨q,hq⟩ ⟨hl,hd,_,(rel.put k eb rv).keeps fun c ys ec=>?_,q,es,ep,hq,h2,h3,h4,h5⟩
  rw[zaj (zan ec e (fun z=>nomatch z))]
  exact ec
end
section
variable {X:Cx}{pins:List (Addr×Obj)}{σ:St}{H:Hp}{s:Shared}{a:Addr}{kvs:List (Key×V)}{k:Key}{u:Value}{A:Around}{E:Value→Shared→Prop}
end
def NoSl (i:Expr):Prop:=∀ov iv,subscripted i false ov iv=operate [ov,iv] (getItem ov iv)
theorem zho {prog:Program}{w:World}{A:Around}{E:Value→Shared→Prop}{s:Shared}{env:Env}{value slice:Expr}{pos:Pos}{T id:String}{Q:Value→Shared→Prop}
  (hl:typeLookup (.type T) "__getitem__"=pure (some (.builtin id))) (hs:NoSl slice)
  (h:wpAny (model prog w) A (eval value env) (fun o s₁=>wpAny (model prog w) A (eval slice env) (fun i s₂=>s₂.TypeIs o T∧wpAny (model prog w) A (getItem o i) Q E s₂) E s₁) E s) :
  wpAny (model prog w) A (eval (.Subscript value slice pos) env) Q E s:=by
 refine Subscript_ (wpAny_mono h (fun o s₁ h₁=>wpAny_mono h₁ (fun i s₂ h₂=>?_) fun _ _ x=>x) fun _ _ x=>x)
 obtain ⟨hT,h₂⟩:=h₂
 unfold subscriptTail
 refine wpAny_bind ?_
 rw[getitemInPython_of_ne hT.not_modules]
 refine wpAny_bind (wpAny_specialOf hT hl ?_)
 have fin:wpAny (model prog w) A (subscripted slice false o i) (fun r s₃=>wpAny (model prog w) A (letTemporaryGo value o r >>= fun _=>pure r) Q E s₃) E s₂:=by
  rw[hs o i]
  exact wpAny_operating (wpAny_mono h₂ (fun r s₃ h₃=>wpAny_bind (wpAny_letTemporaryGo (wpAny_pure h₃))) fun _ _ x=>x)
 first
  |exact wpAny_pure (wpAny_bind fin)
  |exact wpAny_bind (wpAny_pure (wpAny_bind fin))
  |exact wpAny_bind fin
theorem zfD {X:Cx}{pins:List (Addr×Obj)}{σ:St}{H:Hp}{s:Shared}{a:Addr}{y:V}{o:Option V}(I:Inv X pins σ H s) (g:DGet H a y o):s.TypeIs (.ref a) "dict":=by
 rcases g with ⟨kvs,k,e,_,_⟩|⟨kvs,k,b,e,_,_,_⟩
 ·obtain ⟨_,_,vs,_,dd⟩:=ziT I.hok e
  exact dd.typeIs
 ·obtain ⟨_,_,xs,_,dd⟩:=ziU I.hok e
  exact dd.typeIs
def tDGet (td ty:TE):TE:=fun σ H Q=>td σ H fun x H1=>ty σ H1 fun y H2=>∃a v,x=.ref a∧DGet H2 a y (some v)∧Q v H2
def tDIn (ty td:TE):TE:=fun σ H Q=>ty σ H fun y H1=>td σ H1 fun x H2=>∃a o,x=.ref a∧DGet H2 a y o∧Q (.bl o.isSome) H2
def sDPut (td ty tv:TE):TS:=fun D σ H=>tv σ H fun v H1=>td σ H1 fun x H2=>ty σ H2 fun y H3=>∃a H4,x=.ref a∧DPut H3 a y v H4∧D.nx σ H4
section
variable {X:Cx}{o i e value:Expr}{pos pos' tpos:Pos}{td ty tv:TE}
theorem zhp (hu:X.A.units+1<cLine) (ho:PE X o td) (hi:PE X i ty) (hs:NoSl i):PE X (.Subscript o i pos) (tDGet td ty):=by
 intro pins s σ H Q I h
 refine zho PySem.F.slot_dict_getitem.lookup hs (thn (ho pins s σ H _ I h) fun u s1 ⟨x,H1,I1,rx,q1⟩=>thn (hi pins s1 σ H1 _ I1 q1) fun iv s2 ⟨y,H2,I2,ry,a,v,ex,g,q2⟩=>?_)
 subst ex
 obtain rfl:u=Value.ref a:=rx
 exact ⟨zfD I2 g,zhm hu I2 g ry fun w' s3 I3 rw'=>⟨v,H2,I3,rw',q2⟩⟩
theorem zlf (hu:X.A.units+1<cLine) (hi:PE X i ty) (ho:PE X o td):PC X .In i o (tDIn ty td):=by
 intro pins s σ H Q I h
 refine thn (hi pins s σ H _ I h) fun iv s1 ⟨y,H1,I1,ry,q1⟩=>thn (ho pins s1 σ H1 _ I1 q1) fun u s2 ⟨x,H2,I2,rx,a,ov,ex,g,q2⟩=>?_
 subst ex
 obtain rfl:u=Value.ref a:=rx
 exact d_in hu I2 g ry fun s3 I3=>⟨.bl ov.isSome,H2,I3,rfl,q2⟩
theorem zkg (hu:X.A.units+1<cLine) (ho:PE X o td) (hi:PE X i ty) (hv:PE X value tv) (hs:swapsWith value (some (.Subscript o i pos')) pos.line X.env=pure false) :
  PS X (.Assign [.Subscript o i pos'] value pos) (sDPut td ty tv):=by
 intro pins s σ H D I h
 refine wpAny_Assign_Subscript (thn (hv pins s σ H _ I h) fun r s1 ⟨v,H1,I1,rv,q1⟩=>thn (ho pins s1 σ H1 _ I1 q1) fun u s2 ⟨x,H2,I2,rx,q2⟩=>thn (hi pins s2 σ H2 _ I2 q2) fun iv s3 ⟨y,H3,I3,ry,a,H4,ex,g,q3⟩=>?_) hs
 subst ex
 obtain rfl:u=Value.ref a:=rx
 exact zhn hu I3 g ry rv fun s4 I4=>⟨σ,H4,I4,q3⟩
end
theorem ziV {P:Program}{w:World}{H:Hp}(h:Heap) (hb:sysModules<h.objs.size):ObjOk P w H (h.push { cls:=.type "dict",data:=.dict #[] }) h.objs.size (.dK []):=
 ⟨Nat.zero_le _,beq_eq_false_iff_ne.mpr (Ne.symm (Nat.ne_of_lt hb)),[],.nil,Heap.DictOf.new h⟩
def zlg:TE:=fun _ H Q=>∀p,H p=none→Q (.ref p) (upd H p (.dK []))
section
variable {X:Cx}{pos:Pos}
theorem ziW:PE X (.Dict [] [] pos) zlg:=fun pins s σ H Q I h=>
 wpAny_Dict_empty ⟨.ref s.heap.objs.size,_,I.laid (a:=s.heap.objs.size) (o:=.dK []) (t':=s.toks) (fun _ _ q=>Heap.get?_push_of_some _ q) (Nat.le_refl _) (ziV s.heap I.big),rfl,h _ (I.hok.fresh (Nat.le_refl _))⟩
end
section
variable {X:Cx}{pins:List (Addr×Obj)}{σ:St}{H:Hp}{s:Shared}{a:Addr}{y d:V}{u r:Value}{o:Option V}{A:Around}{E:Value→Shared→Prop}
end
section
variable {X:Cx}{o e f:Expr}{apos cpos:Pos}{td ty tx:TE}
end
section
variable {X:Cx}{pins:List (Addr×Obj)}{σ:St}{H:Hp}{s:Shared}{a:Addr}{kvs:List (Key×V)}{A:Around}{E:Value→Shared→Prop}
end
section
variable {X:Cx}{pins:List (Addr×Obj)}{σ:St}{H:Hp}{s:Shared}{a:Addr}{y:V}{u:Value}{A:Around}{E:Value→Shared→Prop}
end
section
variable {κ:Type} [DecidableEq κ]
end
section
variable {P:Program}{w:World}{A:Around}{X:Value→Shared→Prop}{s:Shared}{b:Array Keyed}
end
theorem zkh {X:Cx}:MtR X "str.join" (fun x vs H Q=>∃(sep:Str) (l:Addr) (xs:List Str),x=.str sep∧vs=[.ref l]∧SqL X.K H l (xs.map V.str)∧xs.length≤20000∧sep.length≤100∧(∀y∈xs,y.length≤100)∧Q (.str (PySem.Builtin.Str.glued sep xs)) H):=by
 intro pins s σ H x vs v us Q I rx rv h
 obtain ⟨sep,l,xs,rfl,rfl,hl,h1,hsep,hz,q⟩:=h
 obtain ⟨t,rfl⟩:=rx
 obtain ⟨u,rfl,ru⟩:=rv.one
 cases ru
 obtain ⟨its,r,pl,_⟩:=I.list hl
 obtain ⟨e1,e2⟩:=zb8 r
 have e3:=zbY e2
 have e4:(its.map fun u=>(strOf u,tokOf u)).map (·.1)=xs:=by rw[List.map_map,←e1];rfl
 have hI:s.heap.IsList l (strValues (its.map fun u=>(strOf u,tokOf u))).toArray:=by rw[←e3];exact pl.isList
 have fits:PySem.Builtin.Str.tooLong ((xs.toArray.foldl (fun a y=>a+y.length+sep.length) 0))=false:=
  StrLaws.joinFits (B:=100) hz (by have:xs.length*sep.length≤20000*100:=Nat.mul_le_mul h1 hsep;omega)
 refine call_meets F.slot_str_join (typeIs_str s sep t) F.entry_str_join (F.args_str_join_2 _ _) (meets_str_join_list sep t l (its.map fun u=>(strOf u,tokOf u)) (by rw[e4];exact fits)) ⟨hI,?_⟩
 generalize its.map (fun u=>(strOf u,tokOf u))=ps at e4
 match ps,e4 with
 |[],e4=>
  subst e4
  exact ⟨by show (0:Nat)≤_;exact Nat.zero_le _,⟨.str _,H,I.tok _,⟨_,rfl⟩,q⟩⟩
 |[p],e4=>
  subst e4
  exact ⟨.str _,H,I,⟨_,rfl⟩,q⟩
 |p::p2::r',e4=>
  subst e4
  exact ⟨joinFit_length fits,⟨.str _,H,I.tok _,⟨_,rfl⟩,q⟩⟩
def zki (r1 r2 r3:R2) (ta tb tc td:TE):TT:=fun σ H Q=>ta σ H fun x H1=>tb σ H1 fun y H2=>r1 x y H2 fun z H3=>∃k,z=.bl k ∧
 (if k=true then tc σ H3 fun u H4=>r2 y u H4 fun z2 H5=>∃k2,z2=.bl k2∧(if k2=true then td σ H5 fun v H6=>r3 u v H6 fun z3 H7=>∃k3,z3=.bl k3∧Q k3 H7 else Q false H5) else Q false H3)
theorem zhq {X:Cx}{a b c d:Expr}{ta tb tc td:TE}{pos:Pos}{o1 o2 o3:CmpOp}{r1 r2 r3:R2}(h1:OpR X (compareOp o1) r1) (h2:OpR X (compareOp o2) r2) (h3:OpR X (compareOp o3) r3) (ha:PE X a ta) (hb:PE X b tb) (hc:PE X c tc) (hd:PE X d td)
  (hm:lastMarks [o1,o2,o3] [b,c,d]=false:=by with_unfolding_all rfl):PT X (.Compare a [o1,o2,o3] [b,c,d] pos) (zki r1 r2 r3 ta tb tc td):=by
 intro pins s σ H Q I h
 refine isTrue_chain (thn (ha pins s σ H _ I h) fun v s1 ⟨x,H1,I1,e1,q1⟩=>test_link (thn (hb pins s1 σ H1 _ I1 q1) fun u s2 ⟨y,H2,I2,e2,q2⟩=>
  thn (h1 pins s2 σ H2 x y v u _ I2 e1 e2 q2) fun _ s3 ⟨z,H3,I3,e3,k,ek,q3⟩=>?_)) hm
 subst ek
 cases e3
 refine wpAny_truthy_bool ?_
 cases k with
 |false=>exact ite_ff ⟨H3,I3,q3⟩
 |true=>
  refine ite_tt (test_link (thn (hc pins s3 σ H3 _ I3 q3) fun u2 s4 ⟨y2,H4,I4,e4,q4⟩=>thn (h2 pins s4 σ H4 y y2 u u2 _ I4 e2 e4 q4) fun _ s5 ⟨z2,H5,I5,e5,k2,ek2,q5⟩=>?_))
  subst ek2
  cases e5
  refine wpAny_truthy_bool ?_
  cases k2 with
  |false=>exact ite_ff ⟨H5,I5,q5⟩
  |true=>
   refine ite_tt (test_last (thn (hd pins s5 σ H5 _ I5 q5) fun u3 s6 ⟨y3,H6,I6,e6,q6⟩=>thn (h3 pins s6 σ H6 y2 y3 u2 u3 _ I6 e4 e6 q6) fun _ s7 ⟨z3,H7,I7,e7,k3,ek3,q7⟩=>?_))
   subst ek3
   cases e7
   exact wpAny_truthy_bool ⟨H7,I7,q7⟩
end L2
namespace T1
open PySem L2 PyProof.Rows
section
variable {X:Cx}{pins:List (Addr×Obj)}{σ:L2.St}{H:Hp}{s:Shared}{z z':Addr}
end
end T1
namespace L2
open PySem PySem.Spec PyProof.Rows
section
variable {X:Cx}
end
section
variable {X:Cx}{sc:Scope}{cl:List (Str×Addr)}{N':List Str}{s:Shared}{H:Hp}{fp:List Addr}
end
theorem bd1 {α:Type}{f g:List Value→α}(h:∀a,f [a]=g [a]):∀us:List Value,us.length=1→f us=g us
 |[a],_=>h a
theorem bd2 {α:Type}{f g:List Value→α}(h:∀a b,f [a,b]=g [a,b]):∀us:List Value,us.length=2→f us=g us
 |[a,b],_=>h a b
theorem bd3 {α:Type}{f g:List Value→α}(h:∀a b c,f [a,b,c]=g [a,b,c]):∀us:List Value,us.length=3→f us=g us
 |[a,b,c],_=>h a b c
theorem bd4 {α:Type}{f g:List Value→α}(h:∀a b c d,f [a,b,c,d]=g [a,b,c,d]):∀us:List Value,us.length=4→f us=g us
 |[a,b,c,d],_=>h a b c d
theorem bd5 {α:Type}{f g:List Value→α}(h:∀a b c d e,f [a,b,c,d,e]=g [a,b,c,d,e]):∀us:List Value,us.length=5→f us=g us
 |[a,b,c,d,e],_=>h a b c d e
abbrev NKey:=Sum Key (List Key)
section
variable (P:Program) (w:World)
def ItemIs (h:Heap):NKey→Value→Prop
 |.inl k,v=>(zaG P w).is k v=true
 |.inr l,v=>∃d,v=.ref d∧IsTupleKey (zaG P w) h l d
inductive NItems (h:Heap):List NKey→List Value→Prop
 |nil:NItems h [] []
 |cons {k:NKey} {v:Value} {ks:List NKey} {vs:List Value}:ItemIs P w h k v→NItems h ks vs→NItems h (k::ks) (v::vs)
def IsNest (h:Heap) (ks:List NKey) (a:Addr):Prop:=∃o items n,h.get? a=some o∧o.cls=.type "tuple"∧o.data=.seq items n∧NItems P w h ks items.toList
def zbi:NKey→Int
 |.inl k=>(zaG P w).hash k
 |.inr l=>tupleKeyHash (zaG P w) l
def zbF:NKey→Nat
 |.inl _=>1
 |.inr l=>l.length+1
def zeh (ks:List NKey):Int:=reduceHash (Builtin.Tuple.tupleHashOf (ks.map (zbi P w)))
def zdv (ks:List NKey):Nat:=(ks.map zbF).sum+1
end
section
variable {P:Program}{w:World}{A:Around}{E:Value→Shared→Prop}{s:Shared}
theorem ItemIs.inj {h:Heap}{x y:NKey}{v:Value}(hx:ItemIs P w h x v) (hy:ItemIs P w h y v):x=y:=by
 cases x with
 |inl k=>
  cases y with
  |inl k'=>rw[(zaG P w).inj _ _ _ hx hy]
  |inr l=>
   obtain ⟨d,rfl,_⟩:=hy
   have:=(zaG P w).byValue _ _ hx
   simp[carriedByValue] at this
 |inr l=>
  obtain ⟨d,rfl,h1⟩:=hx
  cases y with
  |inl k=>
   have:=(zaG P w).byValue _ _ hy
   simp[carriedByValue] at this
  |inr l'=>
   obtain ⟨d',e,h2⟩:=hy
   cases e
   rw[h1.inj h2]
theorem NItems.inj {h:Heap}{x y:List NKey}{vs:List Value}(hx:NItems P w h x vs) (hy:NItems P w h y vs):x=y:=by
 induction hx generalizing y with
 |nil=>cases hy;rfl
 |cons h1 _ ih=>
  cases hy with
  |cons h2 t2=>rw[ItemIs.inj h1 h2,ih t2]
theorem IsNest.typeIs {ks:List NKey}{a:Addr}(x:IsNest P w s.heap ks a):s.TypeIs (.ref a) "tuple":=let ⟨o,_,_,ho,hc,_⟩:=x;⟨o,ho,hc⟩
theorem IsNest.inj {h:Heap}{a:Addr}{x y:List NKey}(hx:IsNest P w h x a) (hy:IsNest P w h y a):x=y:=by
 obtain ⟨o,items,n,ho,_,hd,hi⟩:=hx
 obtain ⟨o',items',n',ho',_,hd',hi'⟩:=hy
 obtain rfl:o=o':=Option.some.inj (ho.symm.trans ho')
 rw[hd] at hd'
 injection hd' with h1 _
 subst h1
 exact hi.inj hi'
theorem NItems.keeps {h h':Heap}{ks:List NKey}{vs:List Value}(x:NItems P w h ks vs) (k:∀l d,IsTupleKey (zaG P w) h l d→IsTupleKey (zaG P w) h' l d):NItems P w h' ks vs:=by
 induction x with
 |nil=>exact .nil
 |@cons k' v ks vs h1 _ ih=>
  refine .cons ?_ ih
  cases k' with
  |inl _=>exact h1
  |inr l=>obtain ⟨d,e,h2⟩:=h1;exact ⟨d,e,k l d h2⟩
theorem IsNest.keeps {h h':Heap}{ks:List NKey}{a d:Addr}{o:Obj} {es ep}(x:IsNest P w h ks a) (ho:h.get? d=some o) (hd:o.data=.dict es ep) (hs:Heap.SameBut d h h'):IsNest P w h' ks a:=by
 obtain ⟨o',items,n,ho',hc,hd',hi⟩:=x
 have hne:a≠d:=by
  rintro rfl
  obtain rfl:o'=o:=Option.some.inj (ho'.symm.trans ho)
  rw[hd] at hd';exact nomatch hd'
 exact ⟨o',items,n,(hs.2 a hne).trans ho',hc,hd',hi.keeps fun l d' q=>q.keeps ho hd hs⟩
theorem zcT {ks:List NKey}{a:Addr}{Q:Int→Shared→Prop}(hu:A.units+4<cLine) (hk:IsNest P w s.heap ks a) (h:Q (zeh P w ks) { s with toks:=s.toks+zdv ks }) :
  wpAny (model P w) A (pyHash (.ref a)) Q E s:=by
 have hT:=hk.typeIs
 have hu0:A.units<cLine:=by omega
 obtain ⟨o,items,n,ho,_,hd,hi⟩:=hk
 unfold pyHash
 first|unfold pyHashByItsType|skip
 first|refine wpAny_bind (wpAny_cRoomFor_or (.inr hu0) ?_)|skip
 refine wpAny_bind (wpAny_specialOf hT F.slot_tuple_hash.lookup ?_)
 show wpAny _ _ (if (some (Value.builtin "tuple.__hash__")==some Value.none)=true then _ else _) Q E s
 rw[if_neg (by rw[beq_builtin_none];exact Bool.false_ne_true)]
 refine wpAny_bind (wpAny_specialOf hT F.slot_tuple_hash.lookup ?_)
 show wpAny _ _ (callSpecialIfBoundUnlessNone? (.ref a) "__hash__" _ >>= _) Q E s
 refine wpAny_bind (wpAny_callSpecialIfBoundUnlessNone?_slot hT F.slot_tuple_hash (wpAny_call_entry F.slot_tuple_hash hT F.entry_tuple_hash ?_ (F.args_tuple_hash_1 _)))
 show wpAny _ _ (Builtin.Tuple.tupleItemsOf (.ref a) >>= _) _ _ s
 refine wpAny_bind (wpAny_tupleItemsOf ho hd ?_)
 refine wpAny_bind ?_
 rw[←Array.forIn_toList]
 refine wpAny_forIn_list _
  (fun rest (b:Array Int) s'=>∃done left,ks=done++left∧NItems P w s.heap left rest∧b.toList=done.map (zbi P w)∧s'={ s with toks:=s.toks+(done.map zbF).sum })
  _ ?_ ?_ _ _ ⟨[],ks,rfl,hi,rfl,rfl⟩
 ·rintro x rest b s' ⟨done,left,rfl,hl,hb,rfl⟩
  cases hl with
  |@cons k _ ks' _ h1 hl'=>
   cases k with
   |inl k=>
    refine wpAny_bind ((zaG P w).pyHash h1 ?_)
    first
     |exact wpAny_pure ⟨done++[.inl k],ks',by simp,hl',by simp[hb,zbi],by simp[zbF,Nat.add_assoc]⟩
     |exact wpAny_bind (wpAny_pure (wpAny_pure ⟨done++[.inl k],ks',by simp,hl',by simp[hb,zbi],by simp[zbF,Nat.add_assoc]⟩))
   |inr l=>
    obtain ⟨d,rfl,h2⟩:=h1
    refine wpAny_bind (wpAny_pyHash_tuple (knd:=zaG P w) (ks:=l) ?_ h2 ?_)
    ·show A.units+1<cLine
     omega
    first
     |exact wpAny_pure ⟨done++[.inr l],ks',by simp,hl',by simp[hb,zbi],by simp[zbF,Nat.add_assoc]⟩
     |exact wpAny_bind (wpAny_pure (wpAny_pure ⟨done++[.inr l],ks',by simp,hl',by simp[hb,zbi],by simp[zbF,Nat.add_assoc]⟩))
 ·rintro b s' ⟨done,left,rfl,hl,hb,rfl⟩
  cases hl
  rw[List.append_nil] at h
  unfold zdv at h
  show wpAny _ _ (retInt (Builtin.Tuple.tupleHashOf b.toList)) _ _ _
  rw[hb]
  refine wpAny_ret_mkInt ?_
  show wpAny _ _ (if (decide (-(2:Int) ^ 63≤Builtin.Tuple.tupleHashOf (done.map (zbi P w)))&&decide (Builtin.Tuple.tupleHashOf (done.map (zbi P w))<2 ^ 63))=true then _ else _) Q E _
  unfold zeh reduceHash at h
  by_cases hr:(decide (-(2:Int) ^ 63≤Builtin.Tuple.tupleHashOf (done.map (zbi P w)))&&decide (Builtin.Tuple.tupleHashOf (done.map (zbi P w))<2 ^ 63))=true
  ·rw[if_pos hr]
   rw[if_pos hr] at h
   exact wpAny_pure (by simpa [Nat.add_assoc] using h)
  ·rw[if_neg hr]
   rw[if_neg hr] at h
   exact wpAny_bind (wpAny_rule (wpAny_pure (by simpa [Nat.add_assoc] using h)))
theorem zfa {x y:List NKey}{a b:Addr}{R:Fin→Shared→Prop}(hu:A.units<cLine) (hx:IsNest P w s.heap x a) (hy:IsNest P w s.heap y b) (sh:x.map Sum.isLeft=y.map Sum.isLeft) (h:R (.done (.ret (.bool (decide (x=y))))) s) :
  wpAny (model P w) A (Builtin.«tuple.__eq__» ⟨[.ref a,.ref b],[]⟩) R E s:=by
 have hTb:=hy.typeIs
 obtain ⟨oa,xs,na,hoa,_,hda,hia⟩:=hx
 obtain ⟨ob,ys,nb,hob,_,hdb,hib⟩:=hy
 show wpAny _ _ (isInstance (.ref b) (.type "tuple") >>= _) _ _ s
 refine wpAny_bind (wpAny_isInstance hTb isSubtype_tuple_tuple ?_)
 simp only[Bool.not_true,Bool.false_eq_true,if_false]
 refine wpAny_bind (wpAny_tupleItemsOf hoa hda ?_)
 refine wpAny_bind (wpAny_tupleItemsOf hob hdb ?_)
 refine wpAny_bind ?_
 refine wpAny_forIn_list _
  (fun rest r s'=>r.1=none∧s'=s∧∃x' y' xs' ys',rest=List.zip xs' ys'∧NItems P w s.heap x' xs'∧NItems P w s.heap y' ys'∧x'.map Sum.isLeft=y'.map Sum.isLeft∧decide (x'=y')=decide (x=y)∧(xs'.length==ys'.length)=(xs.size==ys.size))
  _ ?_ ?_ _ _ ⟨rfl,rfl,x,y,xs.toList,ys.toList,rfl,hia,hib,sh,rfl,by simp⟩
 ·rintro ⟨u,v⟩ rest r s' ⟨hr,rfl,x',y',xs',ys',hz,hx',hy',hsh,hdec,hlen⟩
  cases hx' with
  |nil=>simp at hz
  |@cons k1 u' x'' xs'' h1 hx''=>
   cases hy' with
   |nil=>simp at hz
   |@cons k2 v' y'' ys'' h2 hy''=>
    simp only[List.zip_cons_cons,List.cons.injEq,Prod.mk.injEq] at hz
    obtain ⟨⟨rfl,rfl⟩,rfl⟩:=hz
    rw[List.map_cons,List.map_cons] at hsh
    injection hsh with hs1 hs2
    have step:∀Q:Bool→Shared→Prop,Q (decide (k1=k2)) s'→wpAny (model P w) A (eqBool u v) Q E s':=fun Q q=>by
     cases k1 with
     |inl k1=>
      cases k2 with
      |inl k2=>
       refine (zaG P w).eqBool (a:=k1) (b:=k2) h1 h2 ?_
       have e:decide ((Sum.inl k1:NKey)=Sum.inl k2)=decide (k1=k2):=by
        by_cases hk:k1=k2
        ·rw[hk];simp
        ·rw[decide_eq_false hk,decide_eq_false (fun z=>hk (Sum.inl.inj z))]
       rw[←e]
       exact q
      |inr _=>simp at hs1
     |inr l1=>
      cases k2 with
      |inl _=>simp at hs1
      |inr l2=>
       obtain ⟨d1,rfl,g1⟩:=h1
       obtain ⟨d2,rfl,g2⟩:=h2
       refine wpAny_eqBool_tuple (knd:=zaG P w) (x:=l1) (y:=l2) hu g1 g2 ?_
       have e:decide ((Sum.inr l1:NKey)=Sum.inr l2)=decide (l1=l2):=by
        by_cases hk:l1=l2
        ·rw[hk];simp
        ·rw[decide_eq_false hk,decide_eq_false (fun z=>hk (Sum.inr.inj z))]
       rw[←e]
       exact q
    refine wpAny_bind (step _ ?_)
    by_cases hk:k1=k2
    ·subst hk
     rw[decide_eq_true rfl]
     simp only[Bool.not_true,Bool.false_eq_true,if_false]
     refine wpAny_pure ⟨rfl,rfl,x'',y'',xs'',ys'',rfl,hx'',hy'',hs2,?_,by simpa using hlen⟩
     rw[←hdec]
     by_cases hxy:x''=y''
     ·simp[hxy]
     ·simp[hxy]
    ·rw[decide_eq_false hk]
     simp only[Bool.not_false,if_true]
     have hf:decide (x=y)=false:=by rw[←hdec];simp[hk]
     rw[hf] at h
     exact wpAny_bind (wpAny_pure (wpAny_pure (wpAny_pure h)))
 ·rintro ⟨r1,r2⟩ s' ⟨hr,rfl,x',y',xs',ys',hz,hx',hy',hsh,hdec,hlen⟩
  simp only at hr
  subst hr
  refine wpAny_pure ?_
  have hfin:(xs.size==ys.size)=decide (x=y):=by
   rw[←hdec,←hlen]
   cases hx' with
   |nil=>
    cases hy' with
    |nil=>simp
    |cons _ _=>simp
   |cons _ _=>
    cases hy' with
    |nil=>simp
    |cons _ _=>simp at hz
  show R (.done (.ret (.bool (xs.size==ys.size)))) s'
  rw[hfin];exact h
theorem zcU {x y:List NKey}{a b:Addr}{Q:Bool→Shared→Prop}(hu:A.units+4<cLine) (hx:IsNest P w s.heap x a) (hy:IsNest P w s.heap y b) (sh:x.map Sum.isLeft=y.map Sum.isLeft) (h:Q (decide (x=y)) s) :
  wpAny (model P w) A (eqBool (.ref a) (.ref b)) Q E s:=by
 unfold eqBool
 try with_reducible refine wpAny_holding ?_
 show wpAny _ _ (if (Value.ref a==Value.ref b)=true then _ else _) Q E s
 by_cases hab:(Value.ref a==Value.ref b)=true
 ·rw[if_pos hab]
  have e:a=b:=by have:=eq_of_beq hab;injection this
  subst e
  obtain rfl:=hx.inj hy
  exact wpAny_bind (wpAny_rule (wpAny_pure (by simpa using h)))
 ·rw[if_neg hab]
  exact wpAny_bind (wpAny_richCompare_same_room (op:=.Eq) hx.typeIs hy.typeIs F.slot_tuple_eq
   (wpAny_call_entry F.slot_tuple_eq hx.typeIs F.entry_tuple_eq (zfa (by first|exact (show A.units+1<cLine by omega)|exact (show A.units+2<cLine by omega)|exact (show A.units<cLine by omega)) hx hy sh ⟨_,rfl,(fun e=>nomatch e),wpAny_truthy_bool h⟩) (F.args_tuple_eq_2 _ _)) (by omega))
theorem zgC {ks:List Key}{a:Addr}{Q:Bool→Shared→Prop}(m:Nat) (hk:IsTupleKey (zaG P w) s.heap ks a) (h:Q true s):wpAny (model P w) A (eqIsQuiet (m+1) (.ref a)) Q E s:=by
 have hT:=hk.typeIs
 obtain ⟨o,items,n,ho,_,hd,hi⟩:=hk
 unfold eqIsQuiet
 refine wpAny_bind (wpAny_specialOf hT F.slot_tuple_eq.lookup ?_)
 show wpAny _ _ (isInstance (.ref a) (.type "tuple") >>= _) _ _ s
 refine wpAny_bind (wpAny_isInstance hT isSubtype_tuple_tuple ?_)
 simp only[Bool.not_true,Bool.false_eq_true,if_false]
 refine wpAny_bind (wpAny_seqItems ho hd ?_)
 refine wpAny_bind ?_
 show wpAny _ _ (forIn items _ _) _ _ s
 rw[←Array.forIn_toList]
 refine wpAny_forIn_list _ (fun rest r s'=>r.1=none∧s'=s∧∀v∈rest,carriedByValue v=true) _ ?_ ?_ _ _ ⟨rfl,rfl,hi.byValue⟩
 ·rintro v rest r s' ⟨hr,rfl,hall⟩
  rw[eqIsQuiet_byValue _ (hall v List.mem_cons_self)]
  refine wpAny_bind (wpAny_pure ?_)
  simp only[Bool.not_true,Bool.false_eq_true,if_false]
  exact wpAny_pure ⟨rfl,rfl,fun u hu'=>hall u (List.mem_cons_of_mem _ hu')⟩
 ·rintro ⟨r1,r2⟩ s' ⟨hr,rfl,_⟩
  simp only at hr
  subst hr
  exact wpAny_pure h
theorem zgD {ks:List NKey}{a:Addr}{Q:Bool→Shared→Prop}(hk:IsNest P w s.heap ks a) (h:Q true s):wpAny (model P w) A (eqIsQuiet 8 (.ref a)) Q E s:=by
 have hT:=hk.typeIs
 obtain ⟨o,items,n,ho,_,hd,hi⟩:=hk
 unfold eqIsQuiet
 refine wpAny_bind (wpAny_specialOf hT F.slot_tuple_eq.lookup ?_)
 show wpAny _ _ (isInstance (.ref a) (.type "tuple") >>= _) _ _ s
 refine wpAny_bind (wpAny_isInstance hT isSubtype_tuple_tuple ?_)
 simp only[Bool.not_true,Bool.false_eq_true,if_false]
 refine wpAny_bind (wpAny_seqItems ho hd ?_)
 refine wpAny_bind ?_
 show wpAny _ _ (forIn items _ _) _ _ s
 rw[←Array.forIn_toList]
 refine wpAny_forIn_list _ (fun rest r s'=>r.1=none∧s'=s∧∃left,NItems P w s.heap left rest) _ ?_ ?_ _ _ ⟨rfl,rfl,ks,hi⟩
 ·rintro v rest r s' ⟨hr,rfl,left,hl⟩
  cases hl with
  |@cons k _ ks' _ h1 hl'=>
   cases k with
   |inl k=>
    rw[eqIsQuiet_byValue _ ((zaG P w).byValue _ _ h1)]
    refine wpAny_bind (wpAny_pure ?_)
    simp only[Bool.not_true,Bool.false_eq_true,if_false]
    exact wpAny_pure ⟨rfl,rfl,ks',hl'⟩
   |inr l=>
    obtain ⟨d,rfl,h2⟩:=h1
    refine wpAny_bind (zgC 6 h2 ?_)
    simp only[Bool.not_true,Bool.false_eq_true,if_false]
    exact wpAny_pure ⟨rfl,rfl,ks',hl'⟩
 ·rintro ⟨r1,r2⟩ s' ⟨hr,rfl,_⟩
  simp only at hr
  subst hr
  exact wpAny_pure h
end
def zcA (P:Program) (w:World) (sh:List Bool):HeapKind P w (List NKey) where
 is:=fun h ks a=>IsNest P w h ks a∧ks.map Sum.isLeft=sh
 hash:=zeh P w
 draws:=zdv
 room:=fun A=>A.units+4<cLine
 inj:=fun hx hy=>hx.1.inj hy.1
 keeps:=fun x ho hd hs=>⟨x.1.keeps ho hd hs,x.2⟩
 pyHash:=fun hu hk h=>zcT hu hk.1 h
 eqBool:=fun hu hx hy h=>zcU hu hx.1 hy.1 (hx.2.trans hy.2.symm) h
 quiet:=fun hk h=>zgD hk.1 h
abbrev NEnt:=List NKey×Addr×V
abbrev NPair (p:NEnt) (q:List NKey×Addr×Value):Prop:=p.1=q.1∧p.2.1=q.2.1∧RelV p.2.2 q.2.2
def dN (P:Program) (w:World) (sh:List Bool) (a:Addr) (kvs:List NEnt):HO:=.ext fun h=>(a==sysModules)=false∧kvs.length≤sizeLine∧∃xs,Paired NPair kvs xs ∧
 ∃o es ep,h.get? a=some o∧o.ExactDict∧o.data=.dict es ep∧es.toList=xs.map (entryOfKey (zcA P w sh))∧(xs.map (·.1)).Nodup
def NV (H:Hp):NKey→V→Prop
 |.inl k,v=>v=kV k
 |.inr l,v=>∃d,v=.ref d∧H d=some (.tup (l.map kV))
def NVs (H:Hp):List NKey→List V→Prop:=Paired (NV H)
def zdw (H:Hp) (ks:List NKey) (a:Addr):Prop:=∃vs,H a=some (.tup vs)∧NVs H ks vs
def zfb (H:Hp) (sh:List Bool) (kvs:List NEnt):Prop:=∀p∈kvs,zdw H p.1 p.2.1∧p.1.map Sum.isLeft=sh
def nval (kvs:List NEnt) (k:List NKey):Option V:=(kvs.find? fun p=>decide (p.1=k)).map (·.2.2)
section
variable {P:Program}{w:World}{H H':Hp}{h:Heap}{a:Addr}{sh:List Bool}{kvs:List NEnt}
theorem zlB {k:Key}{u:Value}(r:RelV (kV k) u):(zaG P w).is k u=true:=zhl r
theorem zei {ks:List NKey}(ok:HOk P w H h) (e:zdw H ks a):IsNest P w h ks a:=by
 obtain ⟨vs,e,r⟩:=e
 obtain ⟨_,its,rv,o,h1,h2,n,h3⟩:=(show ObjOk P w H h a (.tup vs) from ok a _ e)
 refine ⟨o,its.toArray,n,h1,h2,h3,?_⟩
 have key:∀ {ks:List NKey} {vs:List V} {us:List Value},NVs H ks vs→Vals vs us→NItems P w h ks us:=by
  intro ks vs us r
  induction r generalizing us with
  |nil=>intro rv;cases rv;exact .nil
  |@cons x v xs vs h1 _ ih=>
   intro rv
   cases rv with
   |@cons _ u _ us ru rv=>
    refine .cons ?_ (ih rv)
    cases x with
    |inl k=>
     obtain rfl:v=kV k:=h1
     exact zlB ru
    |inr l=>
     obtain ⟨d,rfl,h2⟩:=h1
     obtain rfl:u=Value.ref d:=ru
     exact ⟨d,rfl,ze9 ok h2⟩
 exact key r rv
theorem zkj (ok:HOk P w H h) (e:H a=some (dN P w sh a kvs)) (kk:zfb H sh kvs):(a==sysModules)=false∧kvs.length≤sizeLine∧∃xs,Paired NPair kvs xs∧h.DictOfH (zcA P w sh) a xs:=by
 obtain ⟨⟨h1,h2,xs,r,o,es,ep,g1,g2,g3,g4,g5⟩,_,_⟩:=(show ObjOk P w H h a (dN P w sh a kvs) from ok a _ e)
 refine ⟨h1,h2,xs,r,o,es,ep,g1,g2,g3,g4,fun x hx=>?_,g5⟩
 have all:∀ {l:List NEnt} {m:List (List NKey×Addr×Value)},Paired NPair l m→(∀p∈l,zdw H p.1 p.2.1∧p.1.map Sum.isLeft=sh)→∀x∈m,(zcA P w sh).is h x.1 x.2.1:=by
  intro l m q
  induction q with
  |nil=>intro _ x hx;exact nomatch hx
  |@cons p q ps qs hq t ih=>
   intro hk x hx
   rcases List.mem_cons.mp hx with e|hx
   ·subst e
    have:=hk p List.mem_cons_self
    rw[hq.1,hq.2.1] at this
    exact ⟨zei ok this.1,this.2⟩
   ·exact ih (fun p hp=>hk p (List.mem_cons_of_mem _ hp)) x hx
 exact all r kk x hx
theorem zej {xs:List (List NKey×Addr×Value)}(r:Paired NPair kvs xs) (k:List NKey):RelO (nval kvs k) ((atKey xs k).map (·.2)):=by
 induction r with
 |nil=>exact trivial
 |@cons p q ps qs hq t ih=>
  obtain ⟨h1,h2,h3⟩:=hq
  by_cases e:p.1=k
  ·have e':q.1=k:=h1.symm.trans e
   have b:atKey (q::qs) k=some q.2:=by simp[atKey,List.find?_cons,e']
   have c:nval (p::ps) k=some p.2.2:=by simp[nval,List.find?_cons,e]
   rw[c,b];exact h3
  ·have e':¬q.1=k:=fun z=>e (h1.trans z)
   have b:atKey (q::qs) k=atKey qs k:=by simp[atKey,List.find?_cons,e']
   have c:nval (p::ps) k=nval ps k:=by simp[nval,List.find?_cons,e]
   rw[c,b];exact ih
end
section
variable {X:Cx}
theorem zdx (hu:X.A.units+6<cLine) (sh:List Bool):(zcA X.prog X.w sh).room X.A.in1:=by
 show X.A.units+1+4<cLine
 omega
def zhr (P:Program) (w:World) (sh:List Bool):R2:=fun x y H Q=>∃r a ks kvs,x=.ref r∧y=.ref a∧H a=some (dN P w sh a kvs)∧zfb H sh kvs∧zdw H ks r∧ks.map Sum.isLeft=sh∧Q (.bl (!(nval kvs ks).isSome)) H
theorem zhs (hu:X.A.units+6<cLine) (sh:List Bool):OpR X (compareOp .NotIn) (zhr X.prog X.w sh):=by
 intro pins s σ H x y v u Q I rx ry h
 obtain ⟨r,a,ks,kvs,rfl,rfl,ha,kk,hk,hs,q⟩:=h
 cases rx
 cases ry
 obtain ⟨hd,hz,xs,rel,dd⟩:=zkj I.hok ha kk
 refine wpAny_notIn_heap (zdx hu sh) ⟨zei I.hok hk,hs⟩ hd dd ?_
 have e:=(zej rel ks).isSome_eq
 rw[Option.isSome_map] at e
 rw[←e]
 exact ⟨.bl _,H,I.tok _,rfl,q⟩
theorem zht {i o:Expr}{ty td:TE}(hu:X.A.units+6<cLine) (sh:List Bool) (hi:PE X i ty) (ho:PE X o td):PC X .NotIn i o (tOp (zhr X.prog X.w sh) ty td):=by
 intro pins s σ H Q I h
 exact thn (hi pins s σ H _ I h) fun iv s1 ⟨y,H1,I1,ry,q1⟩=>thn (ho pins s1 σ H1 _ I1 q1) fun u s2 ⟨x,H2,I2,rx,q2⟩=>zhs hu sh pins s2 σ H2 y x iv u Q I2 ry rx q2
def rIxN (P:Program) (w:World) (sh:List Bool):R2:=fun x y H Q=>∃a r ks kvs v,x=.ref a∧y=.ref r∧H a=some (dN P w sh a kvs)∧zfb H sh kvs∧zdw H ks r∧ks.map Sum.isLeft=sh∧nval kvs ks=some v∧Q v H
theorem zlh {o i:Expr}{pos:Pos}{td ty:TE}(hu:X.A.units+6<cLine) (sh:List Bool) (ho:PE X o td) (hi:PE X i ty) (hs:NoSl i):PE X (.Subscript o i pos) (tOp (rIxN X.prog X.w sh) td ty):=by
 intro pins s σ H Q I h
 refine zho PySem.F.slot_dict_getitem.lookup hs (thn (ho pins s σ H _ I h) fun u s1 ⟨x,H1,I1,rx,q1⟩=>thn (hi pins s1 σ H1 _ I1 q1) fun iv s2 ⟨y,H2,I2,ry,a,r,ks,kvs,v,ex,ey,ha,kk,hk,hsh,hv,q2⟩=>?_)
 subst ex ey
 cases rx
 cases ry
 obtain ⟨hd,hz,xs,rel,dd⟩:=zkj I2.hok ha kk
 refine ⟨dd.typeIs,?_⟩
 obtain ⟨w',hw,rw'⟩:=RelO.some_of (v:=v) (o:=(atKey xs ks).map (·.2)) (by rw[←hv];exact zej rel ks)
 obtain ⟨p,hp,hp2⟩:=Option.map_eq_some_iff.mp hw
 refine wpAny_getItem_heap (zdx hu sh) ⟨zei I2.hok hk,hsh⟩ dd hp ?_
 rw[hp2]
 exact ⟨v,H2,I2.tok _,rw',q2⟩
def rSetN (P:Program) (w:World) (sh:List Bool):TSet:=fun o i v H Q=>∃a r ks kvs,o=.ref a∧i=.ref r∧H a=some (dN P w sh a kvs)∧zfb H sh kvs∧zdw H ks r∧ks.map Sum.isLeft=sh∧nval kvs ks=none∧kvs.length<sizeLine∧Q (upd H a (dN P w sh a (kvs++[(ks,r,v)])))
theorem zlC (hu:X.A.units+6<cLine) (sh:List Bool):PSet X (rSetN X.prog X.w sh):=by
 intro pins s σ H o i v ov iv u Q I ro ri rv h
 obtain ⟨a,r,ks,kvs,rfl,rfl,ha,kk,hk,hs,hn,hl,q⟩:=h
 cases ro
 cases ri
 obtain ⟨hd,hz,xs,rel,dd⟩:=zkj I.hok ha kk
 have hn':atKey xs ks=none:=by
  have e:=(zej rel ks).isSome_eq
  rw[Option.isSome_map,hn] at e
  cases g:atKey xs ks with
  |none=>rfl
  |some _=>rw[g] at e;cases e
 refine wpAny_setItem_heap (hsz:=by rw[←Paired.length rel];exact hz) (zdx hu sh) ⟨zei I.hok hk,hs⟩ dd fun h' dd' hsame=>?_
 rw[storedH_new hn'] at dd'
 obtain ⟨qo,es,ep,hq,h2,h3,h4,_,h5⟩:=dd'
 have φ:(a==sysModules)=false∧(kvs++[(ks,r,v)]).length≤sizeLine∧∃xs,Paired NPair (kvs++[(ks,r,v)]) xs∧∃o es ep,h'.get? a=some o∧o.ExactDict∧o.data=.dict es ep∧es.toList=xs.map (entryOfKey (zcA X.prog X.w sh))∧(xs.map (·.1)).Nodup:=
  ⟨hd,by rw[List.length_append];show _+1≤_;omega,xs++[(ks,r,u)],Paired.snoc rel ⟨rfl,rfl,rv⟩,qo,es,ep,hq,h2,h3,h4,h5⟩
 refine ⟨upd H a (dN X.prog X.w sh a (kvs++[(ks,r,v)])),zfC I (by rw[ha];exact True.intro) hsame ⟨qo,hq⟩ ⟨φ,⟨qo,hq⟩,?_⟩,q⟩
 rintro g1 g2 ⟨a1,a2,xs',a3,o',es',ep',a4,a5⟩ hg
 exact ⟨a1,a2,xs',a3,o',es',ep',hg _ a4,a5⟩
theorem ziX (sh:List Bool){pos:Pos}:PE X (.Dict [] [] pos) (fun _ H Q=>∀p,H p=none→Q (.ref p) (upd H p (dN X.prog X.w sh p []))):=fun pins s σ H Q I h=>by
 refine wpAny_Dict_empty ⟨.ref s.heap.objs.size,_,I.laid (a:=s.heap.objs.size) (o:=dN X.prog X.w sh s.heap.objs.size []) (t':=s.toks) (fun _ _ q=>Heap.get?_push_of_some _ q) (Nat.le_refl _) ?_,rfl,h _ (I.hok.fresh (Nat.le_refl _))⟩
 refine ⟨⟨beq_eq_false_iff_ne.mpr (Ne.symm (Nat.ne_of_lt I.big)),Nat.zero_le _,[],.nil,_,#[],0,Heap.get?_push_size _ rfl,⟨rfl,rfl,rfl⟩,rfl,rfl,List.nodup_nil⟩,⟨_,Heap.get?_push_size _ rfl⟩,?_⟩
 rintro g1 g2 ⟨a1,a2,xs',a3,o',es',ep',a4,a5⟩ hg
 exact ⟨a1,a2,xs',a3,o',es',ep',hg _ a4,a5⟩
end
section
variable {X:Cx}
end
structure Lft (S R:List Addr) (h h':Heap):Prop where
 keep:∀b o,b∉R→b∉S→h.get? b=some o→h'.get? b=some o
 slot:∀b o,b∉R→h.get? b=some o→∃sl,h'.get? b=some { o with slots:=sl }
 there:∀b o,h.get? b=some o→∃o',h'.get? b=some o'
def Exc (e T:Addr) (cls a0 fl:Value) (h:Heap):Prop:=
 ∃oe vs oT ts,h.get? e=some oe∧oe.cls=cls∧oe.data=.fields vs∧vs[0]?=some a0∧vs[1]?=some (.ref T)∧T≠e∧h.get? T=some oT∧oT.data=.fields ts∧ts[3]?=some fl∧vs[2]?=some .none∧oe.dict=none
section
variable {S R R':List Addr}{h h1 h2:Heap}{e:Addr}{o ob:Obj}
theorem Lft.trans (a:Lft S R h h1) (b:Lft S R h1 h2):Lft S R h h2:=by
 refine ⟨fun c o n m q=>b.keep c o n m (a.keep c o n m q),fun c o n q=>?_,fun c o q=>?_⟩
 ·obtain ⟨sl,q1⟩:=a.slot c o n q
  obtain ⟨sl',q2⟩:=b.slot c _ n q1
  exact ⟨sl',q2⟩
 ·obtain ⟨o',q1⟩:=a.there c o q
  exact b.there c o' q1
theorem Lft.mono (a:Lft S R h h1) (m:∀b∈R,b∈R'):Lft S R' h h1:=
 ⟨fun c o n k q=>a.keep c o (fun z=>n (m c z)) k q,fun c o n q=>a.slot c o (fun z=>n (m c z)) q,a.there⟩
theorem Lft.push:Lft S R h (h.push ob):=
 ⟨fun _ _ _ _ q=>Heap.get?_push_of_some _ q,fun _ o _ q=>⟨o.slots,Heap.get?_push_of_some _ q⟩,fun _ o q=>⟨o,Heap.get?_push_of_some _ q⟩⟩
theorem Lft.slots (x:Heap.SlotsOnly S h h1):Lft S R h h1:=by
 refine ⟨fun b o _ m q=>?_,fun b o _ q=>x.2.2 b o q,fun b o q=>?_⟩
 ·rw[x.2.1 b m];exact q
 ·obtain ⟨sl,z⟩:=x.2.2 b o q
  exact ⟨_,z⟩
theorem zda {vs:Array Value}(he:h.get? e=some o) (hd:o.data=.fields vs) (f:Array Value→Array Value) :
  (h.update e (Obj.mapFields f)).get? e=some (Obj.mapFields f o):=by
 have k:=Obj.data_mapFields hd f
 exact Heap.get?_update_self _ he (Obj.isFreed_of_fields k)
theorem Lft.fld {vs:Array Value}(he:h.get? e=some o) (hd:o.data=.fields vs) (f:Array Value→Array Value):Lft S [e] h (h.update e (Obj.mapFields f)):=by
 have oth:∀b,b∉[e]→(h.update e (Obj.mapFields f)).get? b=h.get? b:=fun b n=>Heap.get?_update_other _ _ fun z=>n (by rw[z];exact List.mem_singleton_self b)
 refine ⟨fun b o n _ q=>by rw[oth b n];exact q,fun b o n q=>⟨o.slots,by rw[oth b n];exact q⟩,fun b u q=>?_⟩
 by_cases z:b=e
 ·subst z;exact ⟨_,zda he hd f⟩
 ·exact ⟨u,by rw[oth b (by simpa using z)];exact q⟩
end
theorem ziY (f:Array Value→Array Value) (o:Obj):(Obj.mapFields f o).dict=o.dict:=by
 unfold Obj.mapFields
 split<;>rfl
section
variable {M:Model}{A:Around}{E:Value→Shared→Prop}{s:Shared}{base:Heap}{env:Env}{outer:List Env}{L e:Addr}{cls a0:Value}
theorem ent {oe:Obj}{vs:Array Value}{head:Value}{hadNext:Bool}{Q:Unit→Shared→Prop}
  (hfr:A.frames=some (env::outer)) (hl:s.heap.FunFrames base (env::outer)) (hf:env.frame=some L)
  (he:s.heap.get? e=some oe) (hd:oe.data=.fields vs) (hsz:1<vs.size) (h0:vs[0]?=some a0) (n2:vs[2]?=some .none) (dn:oe.dict=none)
  (h:∀h' T,Lft (frs (env::outer)) [e] s.heap h'→s.heap.objs.size≤T→Exc e T oe.cls a0 (rawInt L) h'→Q () { s with heap:=h' }) :
  wpAny M A (do let a ← frameOf env;let pl ← entryPlaceOf L hadNext;let b ← EntryCells.newEntry head a .none (rawInt L) .none pl;setField (.ref e) 1 b) Q E s:=by
 have hne:e∉(env::outer).filterMap (·.frame):=by
  intro z
  obtain ⟨_,o,q,nf⟩:=hl.mem z
  rw[he] at q
  cases q
  exact nf vs hd
 refine wpAny_bind (wpAny_frameOf_fun hfr hl hf fun h1 x1=>?_)
 refine wpAny_bind (wpAny_entryPlaceOf fun pl hpl=>?_)
 unfold EntryCells.newEntry newFields
 refine wpAny_bind (wpAny_newObj_type ?_ (hpl.sizeOk5 _ _ _ _ _))
 have e1:h1.get? e=some oe:=by rw[x1.2.1 e hne];exact he
 have e2:(h1.push { cls:=.type "traceback",dict:=none,data:=.fields ([head,.ref L,.none,rawInt L,.none]++(if pl.isEmpty then List.replicate 6 Value.none else pl)).toArray }).get? e=some oe:=Heap.get?_push_of_some _ e1
 have ne:h1.objs.size≠e:=Nat.ne_of_gt (Heap.lt_size e1)
 refine wpAny_setField e2 hd hsz ?_
 refine h _ h1.objs.size (((Lft.slots x1).trans Lft.push).trans (Lft.fld e2 hd _)) (Nat.le_of_eq x1.1.symm) ?_
 refine ⟨_,_,_,_,zda e2 hd _,Obj.cls_mapFields _ _,Obj.data_mapFields hd _,?_,?_,ne,(Heap.get?_update_other _ _ (Ne.symm ne)).trans (Heap.get?_push_size _ rfl),rfl,?_,?_,by rw[ziY];exact dn⟩
 ·rw[Array.getElem?_setIfInBounds_ne (by decide)];exact h0
 ·simp[hsz]
 ·rcases hpl with rfl|⟨_,_,_,_,_,_,_,rfl⟩<;>rfl
 ·rw[Array.getElem?_setIfInBounds_ne (by decide)];exact n2
theorem ziZ {oe:Obj}{vs:Array Value}{Q:Unit→Shared→Prop}
  (hfr:A.frames=some (env::outer)) (hl:s.heap.FunFrames base (env::outer)) (hf:env.frame=some L)
  (he:s.heap.get? e=some oe) (hd:oe.data=.fields vs) (n1:vs[1]?=some .none) (h0:vs[0]?=some a0) (n2:vs[2]?=some .none) (dn:oe.dict=none)
  (h:∀h' T,Lft (frs (env::outer)) [e] s.heap h'→s.heap.objs.size≤T→Exc e T oe.cls a0 (rawInt L) h'→Q () { s with heap:=h' }):wpAny M A (noteFrame (.ref e) env) Q E s:=by
 have hsz:1<vs.size:=(Array.getElem?_eq_some_iff.mp n1).1
 unfold noteFrame
 simp only[hf]
 refine wpAny_bind (wpAny_field he hd n1 ?_)
 rw[if_neg (by decide)]
 exact ent hfr hl hf he hd hsz h0 n2 dn h
theorem zkk {T:Addr}{Q:Unit→Shared→Prop}
  (hfr:A.frames=some (env::outer)) (hl:s.heap.FunFrames base (env::outer)) (hf:env.frame=some L) (x:Exc e T cls a0 .none s.heap)
  (h:∀h' T',Lft (frs (env::outer)) [e,T] s.heap h'→s.heap.objs.size≤T'→Exc e T' cls a0 (rawInt L) h'→Q () { s with heap:=h' }):wpAny M A (noteFrame (.ref e) env) Q E s:=by
 obtain ⟨oe,vs,oT,ts,he,rfl,hd,h0,n1,ne,hT,dT,h3,n2,dn⟩:=x
 have hsz:1<vs.size:=(Array.getElem?_eq_some_iff.mp n1).1
 have hs3:3<ts.size:=(Array.getElem?_eq_some_iff.mp h3).1
 unfold noteFrame
 simp only[hf]
 refine wpAny_bind (wpAny_field he hd n1 ?_)
 rw[if_pos (by simp)]
 refine wpAny_bind (wpAny_field hT dT h3 ?_)
 rw[if_neg (by simp[rawInt])]
 refine wpAny_bind (wpAny_setField hT dT hs3 ?_)
 have l1:Lft (frs (env::outer)) [T] s.heap (s.heap.update T (Obj.mapFields (·.setIfInBounds 3 Value.none))):=Lft.fld hT dT _
 refine ent (s:={ s with heap:=_ }) hfr (hl.of_keeps fun b o q nf=>⟨o,?_,rfl⟩) hf ((Heap.get?_update_other _ _ ne).trans he) hd hsz h0 n2 dn fun h' T' l2 k x=>?_
 ·show (s.heap.update T _).get? b=some o
  rw[Heap.get?_update_other _ _ fun z=>?_]
  ·exact q
  ·subst z;rw[hT] at q;cases q;exact nf _ dT
 ·refine h h' T' ((l1.mono (by simp)).trans (l2.mono (by simp))) (Nat.le_trans (Nat.le_of_eq (Heap.size_after_update ..).symm) k) x
theorem zhu {T:Addr}{fl:Value}{Q:Unit→Shared→Prop}(x:Exc e T cls a0 fl s.heap)
  (h:∀h',Lft [] [T] s.heap h'→Exc e T cls a0 .none h'→Q () { s with heap:=h' }):wpAny M A (setFlight (.ref e) none) Q E s:=by
 obtain ⟨oe,vs,oT,ts,he,hc,hd,h0,n1,ne,hT,dT,h3,n2,dn⟩:=x
 have hs3:3<ts.size:=(Array.getElem?_eq_some_iff.mp h3).1
 unfold setFlight
 refine wpAny_bind (wpAny_field he hd n1 ?_)
 rw[if_pos (by simp)]
 refine wpAny_setField hT dT hs3 (h _ (Lft.fld hT dT _) ?_)
 refine ⟨oe,vs,_,_,?_,hc,hd,h0,n1,ne,zda hT dT _,Obj.data_mapFields dT _,by simp[hs3],n2,dn⟩
 rw[Heap.get?_update_other _ _ ne];exact he
end
def CXE (P:Program) (w:World):CXT:=fun outer H s E ev s'=>∃a T cls t H',ev=.ref a∧s'.os=s.os∧AllBare s'.gens∧Un (frs outer) [] H H' s.heap s'.heap∧HOk P w H' s'.heap ∧
 s.heap.get? a=none∧s.heap.get? T=none∧H' a=none∧H' T=none∧Exc a T cls (.ref t) .none s'.heap∧E cls none H'
theorem FnOk.cx {P:Program}{w:World}{K:W.Frag}{mg:Str→Option Value}{base:Heap}{CX:CXT}{k:Nat}{f:Addr}{fd:FuncData}{ps:List Str}{sp:Sp}(F:FnOk P w K mg base CX0 k f fd ps sp) :
  FnOk P w K mg base CX k f fd ps sp:=by
 refine ⟨F.len,fun A outer s H args us vs Q E hr e0 hb hv hs=>codeAny_mono (F.run A outer s H args us vs Q E hr e0 hb hv hs) fun r s' q=>?_⟩
 cases r with
 |error e=>exact q.elim
 |ok fl=>cases fl<;>exact q
theorem HOk.lft {P:Program}{w:World}{H:Hp}{h h':Heap}{S R:List Addr}(x:HOk P w H h) (l:Lft S R h h') (hS:∀b∈S,H b=none) (hR:∀b∈R,H b=none):HOk P w H h':=by
 intro a o e
 refine (x a o e).stay (fun b u hb q=>?_) (fun _ q=>q) fun _ _ q=>q
 have hn:H b≠none:=by
  rcases hb with z|z
  ·subst z;rw[e];exact fun z=>nomatch z
  ·rw[z];exact fun z=>nomatch z
 exact l.keep b u (fun z=>hn (hR b z)) (fun z=>hn (hS b z)) q
theorem ObjOk.at {P:Program}{w:World}{H:Hp}{h:Heap}{a:Addr}{o:HO}(x:ObjOk P w H h a o):∃u,h.get? a=some u:=by
 cases o with
 |lst xs=>obtain ⟨_,_,_,_,e⟩:=x;exact ⟨_,e⟩
 |tup xs=>obtain ⟨_,_,_,o,e,_⟩:=x;exact ⟨_,e⟩
 |dK kvs=>obtain ⟨_,_,_,_,o,_,_,e,_⟩:=x;exact ⟨_,e⟩
 |dT kvs=>obtain ⟨_,_,_,_,o,_,_,e,_⟩:=x;exact ⟨_,e⟩
 |set S n=>obtain ⟨o,_,_,_,e,_⟩:=x;exact ⟨_,e⟩
 |ins C dx fs=>obtain ⟨_,_,_,e,_⟩:=x;exact ⟨_,e⟩
 |own y=>exact x
 |xd fs=>obtain ⟨_,⟨_,_,_,e,_⟩,_⟩:=x;exact ⟨_,e⟩
 |rng lo hi=>obtain ⟨_,_,_,e⟩:=x;exact ⟨_,e⟩
 |frz ob u=>obtain ⟨e,_⟩:=x;exact ⟨_,e⟩
 |tbl ps=>exact ⟨_,(show h.get? a=some _ from x)⟩
 |met f y=>exact ⟨_,(show h.get? a=some _ from x)⟩
 |ext φ=>obtain ⟨_,e,_⟩:=x;exact e
theorem HOk.no {P:Program}{w:World}{H:Hp}{h:Heap}{a:Addr}(x:HOk P w H h) (e:h.get? a=none):H a=none:=by
 cases q:H a with
 |none=>rfl
 |some o=>
  obtain ⟨u,z⟩:=(x a o q).at
  rw[e] at z
  cases z
theorem Un.no {fs:List Addr}{H H1:Hp}{h h1:Heap}{a:Addr}(u:Un fs [] H H1 h h1) (e:h1.get? a=none):h.get? a=none:=by
 cases q:h.get? a with
 |none=>rfl
 |some o=>
  obtain ⟨o',z⟩:=u.there a o q (by simp)
  rw[e] at z
  cases z
theorem Un.lft {fs S R:List Addr}{H H1:Hp}{h h1 h2:Heap}(u:Un fs [] H H1 h h1) (l:Lft S R h1 h2) (hR:∀b∈R,h.get? b=none) (hS:∀b∈S,b∈fs∨h.get? b=none):Un fs [] H H1 h h2:=by
 have nR:∀b o,h.get? b=some o→b∉R:=fun b o q z=>by rw[hR b z] at q;cases q
 refine ⟨fun b o q n m k=>?_,fun b o q n m k=>?_,u.free,fun b o q k=>?_,u.tups,u.frzs,u.tbls⟩
 ·refine l.keep b o (nR b o q) (fun z=>?_) (u.keep b o q n m k)
  rcases hS b z with y|y
  ·exact m y
  ·rw[y] at q;cases q
 ·obtain ⟨sl,z⟩:=u.slot b o q n m k
  obtain ⟨sl',y⟩:=l.slot b _ (nR b o q) z
  exact ⟨sl',y⟩
 ·obtain ⟨o',z⟩:=u.there b o q k
  exact l.there b o' z
theorem zli {base:Heap}{H H2:Hp}{h h2:Heap}{fs:List Addr}(u:Un fs [] H H2 h h2):∀ {l:List Env},h.FunFrames base l→(∀b∈frs l,H b=none)→h2.FunFrames base l:=by
 intro l
 induction l with
 |nil=>intro _ _;trivial
 |cons env r ih=>
  intro hl hz
  obtain ⟨hk,⟨L,o,hf,hn,ho,hd⟩,hr⟩:=hl
  have em:frs (env::r)=L::frs r:=by unfold frs;rw[List.filterMap_cons,hf]
  rw[em] at hz
  obtain ⟨sl,q⟩:=u.any ho (hz L List.mem_cons_self) (by simp)
  exact ⟨hk,⟨L,_,hf,hn,q,hd⟩,ih hr fun b z=>hz b (List.mem_cons_of_mem _ z)⟩
def Rz (X:Cx) (E:XK):Prop:=∀(pins:List (Addr×Obj)) (σ:St) (H:Hp) (s:Shared) (h':Heap) (a:Addr) (cls:Value) (vs:List Value),Inv X pins σ H s→Heap.MadeExcOf s.heap h' a cls vs→E cls none H→X.xe (.ref a) { s with heap:=h' }
section
variable {P:Program}{w:World}{K:W.Frag}{mg:Str→Option Value}{base:Heap}{N:List Str}{qual:Str}{scope:Scope}{f:Addr}{cd:Value}{A:Around}{outer:List Env}{s:Shared}{H:Hp}{E:XK}
theorem zkl {b:Addr}{pins:List (Addr×Obj)}{σ:St}{H1:Hp}{s1:Shared}(I:Inv (cxOf (CXE P w) P w K mg base N qual scope f cd A outer s H E) pins σ H1 s1)
  (z:b∈frs (envOfC qual scope s.heap.objs.size f cd::outer)):b∈frs outer∨s.heap.get? b=none:=by
 have z:b∈(s.heap.objs.size::frs outer):=z
 rcases List.mem_cons.mp z with y|y
 ·exact .inr (Heap.get?_none_of_le (Nat.le_of_eq y.symm))
 ·exact .inl y
theorem zlD:Rz (cxOf (CXE P w) P w K mg base N qual scope f cd A outer s H E) E:=by
 intro pins σ H1 s1 h' a cls vs I M hE
 show wpAny _ (A.deeper _) (leaving _ (.ref a)) _ _ _
 unfold leaving
 obtain ⟨t,he,htn,ht⟩:=M.there
 have fr:(A.deeper (envOfC qual scope s.heap.objs.size f cd)).frames=some (envOfC qual scope s.heap.objs.size f cd::outer):=I.ok.frames
 have fz:=I.stkFree
 have ub:Un (frs outer) [] H H1 s.heap s1.heap:=I.base
 have na:=I.hok.no M.new
 have nT:∀T,h'.get? T=none→s1.heap.get? T=none:=fun T q=>by
  cases z:s1.heap.get? T with
  |none=>rfl
  |some o=>rw[M.keeps T o z] at q;cases q
 have hl:h'.FunFrames base (envOfC qual scope s.heap.objs.size f cd::outer):=I.stack.of_keeps fun b o q _=>⟨o,M.keeps b o q,rfl⟩
 refine wpAny_bind (ziZ (s:={ s1 with heap:=h' }) fr hl rfl he rfl rfl rfl rfl rfl fun h2 T l2 kT x2=>?_)
 refine zhu (s:={ s1 with heap:=h2 }) x2 fun h3 l3 x3=>?_
 have eT:s1.heap.get? T=none:=nT T (Heap.get?_none_of_le kT)
 have u1:Un (frs outer) [] H H1 s.heap h':=ub.trans (Un.kept M.keeps)
 have u2:=u1.lft l2 (fun b z=>by rw[List.mem_singleton.mp z];exact ub.no M.new) fun b z=>zkl I z
 have u3:=u2.lft l3 (fun b z=>by rw[List.mem_singleton.mp z];exact ub.no eT) fun b z=>absurd z (by simp)
 have nTH:=I.hok.no eT
 have k1:HOk P w H1 h':=I.hok.kept M.keeps
 have k2:HOk P w H1 h2:=k1.lft l2 (fun b z=>fz b z) fun b z=>by rw[List.mem_singleton.mp z];exact na
 have k3:HOk P w H1 h3:=k2.lft l3 (fun b z=>absurd z (by simp)) fun b z=>by rw[List.mem_singleton.mp z];exact nTH
 exact ⟨a,T,cls,t,H1,rfl,I.os,I.bare,u3,k3,ub.no M.new,ub.no eT,na,nTH,x3,hE⟩
end
abbrev bmVE:List Value:=[.type "ValueError",.type "Exception",.type "BaseException",.type "object"]
theorem zlj {K:W.Frag}{h:Heap}{mg:Str→Option Value}{x:Str}{C:Addr}{bmB:List Value}{newId:String}(X:K.In h) (e:mg x=some (.ref C)) (q:W.excIn K C bmB newId=true):OwnCls x C bmB newId mg h:=by
 refine ⟨e,?_⟩
 unfold W.excIn at q
 split at q
 ·next dd cd sl ho=>
  split at q
  ·next C' bm k0 k1 k2 k3 n k5 hm hs=>
   simp only[Bool.and_eq_true,beq_iff_eq,Bool.not_eq_true'] at q
   obtain ⟨⟨⟨⟨⟨q1,q2⟩,q3⟩,q4⟩,q5⟩,q6⟩:=q
   have sl':sl=#[k0,k1,k2,k3,some (.builtin n),k5]:=by rw[←hs]
   subst q1 q2 sl'
   cases cd
   simp only at hm q3 q5 q6
   subst hm q3
   exact ⟨_,_,_,_,_,_,_,_,_,_,_,_,_,_,_,_,_,X _ _ ho,.of_isNs (W.isNs_of_in X q5),W.nsMap_none_of_in X q5 q6,W.tail_of_in X q4⟩
  ·cases q
 ·cases q
section
variable {X:Cx}{x:Str}{C:Addr}{e:Expr}{es:List Expr}{t:TA}{np cpos pos:Pos}{E:XK}
theorem zi0 (hk:W.excIn X.K C bmVE "ValueError.__new__"=true) (hc:X.calm=true) (hg:Gl X x) (hm:X.mg x=some (.ref C)) (ha:PA X (e::es) t) (hR:Rz X E)
  (hd:(x==("__debug__":Str))=false:=by decide) (he:starEach (e::es) X.env=(false,eval e X.env)::starEach es X.env:=by rfl) (hpl:(backTo cpos (starEach es X.env)).any (·.1)=false:=by rfl) :
  PS X (.Raise (some (.Call (.Name x np) (e::es) [] cpos)) none pos) (fun _ σ H=>t σ H fun vs H1=>vs.length≤sizeLine∧E (.ref C) none H1):=by
 intro pins s σ H D I h
 have O:=zlj I.ok.mod.kin hm hk
 obtain ⟨tl,N,nm,q,bs,hdct,sn,sub,ab,col,dd,k0,k1,k2,k3,k5,mN,hC,hN,hni,T⟩:=O.obj
 have pl:(backTo cpos (starEach (e::es) X.env)).any (·.1)=false:=by
  rw[he]
  show (false || (backTo cpos (starEach es X.env)).any (·.1))=false
  rw[hpl];rfl
 refine wpAny_Raise_call_subU (k5:=k5) (k3:=k3) (k2:=k2) (k1:=k1) (k0:=k0) (dd:=dd) (col:=col) (ab:=ab) (sub:=sub) (sn:=sn) (hdct:=hdct) (bs:=bs) (N:=N) (q:=q) (nm:=nm) F.excBase_ValueError rfl F.excBase_ValueError (T.hasType F.excBase_ValueError.hasBase) (I.ok.hd hc) pl hni (zci I hg hm ⟨rfl,?_⟩ hd)
 have h2:=ha cpos pins s σ H _ I h
 rw[he] at h2 ⊢
 refine Calls.evalArgs_plain (wpAny_mono h2 (fun us s2 h3=>?_) fun _ _ y=>y)
 obtain ⟨vs,H1,I1,r,z,q⟩:=h3
 exact ⟨rfl,by rw[←r.length];exact z,I1.bk _ _ hC,hN.keeps I1.bk,T.keeps I1.bk,fun h' a m=>hR pins σ H1 s2 h' a _ _ I1 m q⟩
end
section
variable {P:Program}{w:World}{K:W.Frag}{mg:Str→Option Value}{base:Heap}
theorem Fun.okX {x qual:Str}{st:Stmt}{f:Addr}{fd:FuncData}{N ps:List Str}{k:Nat}{sp:Sp}(F:Fun K x qual st f fd) (S:zav N ps (zag st)) (len:∀vs H Q E,sp vs H Q E→vs.length=ps.length)
  (hbody:∀(cdv:Value) (A:Around) (outer:List Env) (s:Shared) (H:Hp) (vs:List V) (Q:VK) (E:XK),Room k (A.deeper (envOfC qual (zag st) s.heap.objs.size f cdv))→sp vs H Q E →
   ∃t,PSs (cxOf (CXE P w) P w K mg base N qual (zag st) f cdv A outer s H E) (zba st) t∧t { nx:=fun _ H'=>Q .non H',rt:=Q } (start N vs) H):FnOk P w K mg base (CXE P w) (k+1) f fd ps sp:=by
 obtain ⟨oc,od,kV,doc,pm,an,cdv,ct,osl,rfl,lk,hcd⟩:=F.ex
 refine zj5 lk hcd S len fun A outer s H vs Q E hr hsp=>?_
 exact hbody cdv A outer s H vs Q E hr hsp
end
def exH (a:Addr) (cls:Value):HO:=.ext fun h=>∃o vs,h.get? a=some o∧o.cls=cls∧o.data=.fields vs∧vs[2]?=some .none∧o.dict=none
theorem zlk {P:Program}{w:World}{H:Hp}{h:Heap}{a T:Addr}{cls a0 fl:Value}(x:Exc a T cls a0 fl h):ObjOk P w H h a (exH a cls):=by
 obtain ⟨o,vs,_,_,e,c,d,_,_,_,_,_,_,n2,dn⟩:=x
 refine ⟨⟨o,vs,e,c,d,n2,dn⟩,⟨o,e⟩,fun h1 h2 q k=>?_⟩
 obtain ⟨o1,vs1,e1,c1,d1⟩:=q
 exact ⟨o1,vs1,k o1 e1,c1,d1⟩
theorem HOk.add {P:Program}{w:World}{H:Hp}{h:Heap}{a:Addr}{o:HO}(x:HOk P w H h) (n:H a=none) (new:ObjOk P w (upd H a o) h a o):HOk P w (upd H a o) h:=by
 intro b u e
 by_cases z:b=a
 ·subst z;rw[zab] at e;cases e;exact new
 ·rw[zaj z] at e
  exact (x b u e).stay (fun _ _ _ q=>q) (fun c q=>by rw[zaj (zad q n)];exact q) fun c xs q=>by rw[zaj (zad q n)];exact q
theorem Un.add {fs:List Addr}{H H1:Hp}{h h1:Heap}{a:Addr}{o:HO}(u:Un fs [] H H1 h h1) (n:H1 a=none) (e:h.get? a=none):Un fs [] H (upd H1 a o) h h1:=by
 refine ⟨u.keep,u.slot,fun b ob q m k=>?_,u.there,fun b xs q=>?_,fun b ob v q=>?_,fun b ps q=>?_⟩
 ·rw[zaj fun z=>by subst z;rw[e] at q;cases q]
  exact u.free b ob q m k
 ·have z:=u.tups b xs q
  rw[zaj (zad z n)];exact z
 ·have z:=u.frzs b ob v q
  rw[zaj (zad z n)];exact z
 ·obtain ⟨m,z⟩:=u.tbls b ps q
  exact ⟨m,by rw[zaj (zad z n)];exact z⟩
section
variable {P:Program}{w:World}{M:Model}{A:Around}{env:Env}{outer:List Env}{L:Addr}{base:Heap}{H:Hp}{s s':Shared}{E:XK}{EE:Value→Shared→Prop}{ev:Value}
theorem noted {Q:Unit→Shared→Prop}(hfr:A.frames=some (env::outer)) (hf:env.frame=some L) (hl:s.heap.FunFrames base (env::outer)) (fz:∀b∈frs (env::outer),H b=none) (c:CXE P w (env::outer) H s E ev s')
  (h:∀s2,CXE P w (env::outer) H s E ev s2→Q () s2):wpAny M A (noteFrame ev env) (fun _ s2=>wpAny M A (setFlight ev none) Q EE s2) EE s':=by
 obtain ⟨a,T,cls,t,H2,rfl,os,bare,un,hok,ea,eT,na,nT,x,hE⟩:=c
 have fz2:∀b∈frs (env::outer),H2 b=none:=fun b z=>by
  obtain ⟨_,o,q,_⟩:=hl.mem z
  exact un.free b o q (fz b z) (by simp)
 refine zkk hfr (zli un hl fz) hf x fun h2 T' l2 kT x2=>?_
 refine zhu (s:={ s' with heap:=h2 }) x2 fun h3 l3 x3=>h _ ?_
 have eT':s'.heap.get? T'=none:=Heap.get?_none_of_le kT
 have nT':H2 T'=none:=hok.no eT'
 have two:∀b∈[a,T],s.heap.get? b=none∧H2 b=none:=fun b z=>by
  rcases List.mem_cons.mp z with y|y
  ·rw[y];exact ⟨ea,na⟩
  ·rw[List.mem_singleton.mp y];exact ⟨eT,nT⟩
 have u2:=un.lft l2 (fun b z=>(two b z).1) fun b z=>.inl z
 have u3:=u2.lft l3 (fun b z=>by rw[List.mem_singleton.mp z];exact un.no eT') fun b z=>absurd z (by simp)
 have k2:HOk P w H2 h2:=hok.lft l2 fz2 fun b z=>(two b z).2
 have k3:HOk P w H2 h3:=k2.lft l3 (fun b z=>absurd z (by simp)) fun b z=>by rw[List.mem_singleton.mp z];exact nT'
 exact ⟨a,T',cls,t,H2,rfl,os,bare,u3,k3,ea,un.no eT',na,nT',x3,hE⟩
theorem flown {Q:Unit→Shared→Prop}(c:CXE P w outer H s E ev s') (h:∀s2,CXE P w outer H s E ev s2→Q () s2):wpAny M A (setFlight ev none) Q EE s':=by
 obtain ⟨a,T,cls,t,H2,rfl,os,bare,un,hok,ea,eT,na,nT,x,hE⟩:=c
 refine zhu x fun h3 l3 x3=>h _ ?_
 have u3:=un.lft l3 (fun b z=>by rw[List.mem_singleton.mp z];exact eT) fun b z=>absurd z (by simp)
 have k3:HOk P w H2 h3:=hok.lft l3 (fun b z=>absurd z (by simp)) fun b z=>by rw[List.mem_singleton.mp z];exact nT
 exact ⟨a,T,cls,t,H2,rfl,os,bare,u3,k3,ea,eT,na,nT,x3,hE⟩
end
section
variable {X:Cx}{pins:List (Addr×Obj)}{σ:St}{H:Hp}{s s':Shared}{E:XK}{ev:Value}
def XP (X:Cx) (pins:List (Addr×Obj)) (σ:St) (E:XK) (ev:Value) (s':Shared):Prop:=∃H s,Inv X pins σ H s∧CXE X.prog X.w X.stack H s E ev s'
theorem Inv.caught (I:Inv X pins σ H s) (c:CXE X.prog X.w X.stack H s E ev s'):∃a cls H',ev=.ref a∧H' a=none∧E cls none H'∧Inv X pins σ (upd H' a (exH a cls)) s'∧∃o,s'.heap.get? a=some o∧o.cls=cls:=by
 obtain ⟨a,T,cls,t,H2,rfl,os,bare,un,hok,ea,eT,na,nT,x,hE⟩:=c
 obtain ⟨o,_,_,_,e,cc,_⟩:=id x
 exact ⟨a,cls,H2,rfl,na,hE,I.call' (ch:=[]) os (un.add na ea) (hok.add na (zlk x)) bare fun b z=>absurd z (by simp),o,e,cc⟩
end
section
variable {X:Cx}{pins:List (Addr×Obj)}{σ:St}{H:Hp}{s:Shared}
theorem zek {M:Model}{A:Around}{E:Value→Shared→Prop}{i:Nat}{x:Str}{pos:Pos}{Q:Unit→Shared→Prop}(I:Inv X pins σ H s) (hN:X.N.Nodup) (hi:X.N[i]?=some x) (hk:X.env.scope.names.lookup x=some .local)
  (h:∀s',Inv X pins (σ.set i none) H s'→Q () s'):wpAny M A (do bindName X.env x .none;unbindBehindTheSuite X.env x pos) Q E s:=by
 refine wpAny_bind (wpAny_bindName (zb6 (v:=.non) I hN hi (.inl hk) rfl (fun s1 I1=>?_) (.inr hk)))
 unfold unbindBehindTheSuite
 refine wpAny_onRaise ?_
 obtain ⟨m,hn,hl⟩:=id I1.loc
 have hcls:(X.env.scope.kind==.class || (X.env.scope.kind==.module&&X.env.locals != X.env.globals))=false:=by rw[I.ok.kind];rfl
 have hlen:i<σ.length:=by rw[I.len];exact (List.getElem?_eq_some_iff.mp hi).1
 obtain ⟨u,_,lk⟩:=hl i x .non hi (List.getElem?_set_self hlen) (.inl hk)
 have hv:m x=some u:=by
  rcases lk with ⟨_,z⟩|⟨z,_⟩
  ·exact z
  ·rcases z with z|z
   ·rw[show X.env.kindOf x=some .local from hk] at z;cases z
   ·rw[show X.env.kindOf x=some .local from hk] at z;cases z
 refine wpAny_unbindName_local hk hn hv hcls fun h' v hn' hs=>h _ ?_
 have lt:∀b o,X.s₀.heap.get? b=some o→b≠X.env.locals:=fun b o e=>Nat.ne_of_lt (Nat.lt_of_lt_of_le (Heap.lt_size e) I1.ok.above)
 have cne:=I1.cne
 refine ⟨I1.ok,I1.os,I1.bare,⟨fun b o e n hb hx=>?_,fun b o e n hb hx=>?_,I1.base.free,fun b o e hx=>?_,I1.base.tups,I1.base.frzs,I1.base.tbls⟩,⟨_,hn',fun j y w e1 e2 e3=>?_⟩,fun y c e=>?_,I1.free,I1.freeC,fun p hp=>?_,fun b ob e=>?_,by rw[List.length_set];exact I.len⟩
 ·rw[hs.2 b (lt b o e)];exact I1.base.keep b o e n hb hx
 ·obtain ⟨sl,z⟩:=I1.base.slot b o e n hb hx
  exact ⟨sl,by rw[hs.2 b (lt b o e)];exact z⟩
 ·obtain ⟨o',z⟩:=I1.base.there b o e hx
  exact ⟨o',by rw[hs.2 b (lt b o e)];exact z⟩
 ·by_cases hj:j=i
  ·subst hj
   rw[List.getElem?_set_self hlen] at e2
   cases e2
  ·rw[List.getElem?_set_ne (Ne.symm hj)] at e2
   obtain ⟨u',r',q⟩:=hl j y w e1 (by rw[List.getElem?_set_ne (Ne.symm hj)];exact e2) e3
   refine ⟨u',r',?_⟩
   rcases q with ⟨k,e⟩|⟨k,c,e,z⟩
   ·have ny:y≠x:=fun e=>hj (zd4 hN e1 (e ▸ hi))
    exact .inl ⟨k,by simp[ny,e]⟩
   ·exact .inr ⟨k,c,e,z.sameBut hs (cne y c e)⟩
 ·obtain ⟨w',z⟩:=I1.cell y c e
  exact ⟨w',z.sameBut hs (cne y c e)⟩
 ·obtain ⟨e,n,ne,nf,d⟩:=I1.pin p hp
  exact ⟨by rw[hs.2 p.1 ne];exact e,n,ne,nf,d⟩
 ·refine (I1.hok b ob e).stay (fun c w' hc q=>?_) (fun _ q=>q) fun _ _ q=>q
  rw[hs.2 c fun z=>?_]
  ·exact q
  ·rcases hc with y|y
   ·rw[←y,z,I1.free] at e;cases e
   ·rw[z,I1.free] at y;cases y
end
abbrev TEX:=St→Hp→VK→XK→Prop
abbrev TSX:=Ends→XK→St→Hp→Prop
def PEx (X:Cx) (e:Expr) (t:TEX):Prop:=
 ∀(pins:List (Addr×Obj)) (s:Shared) (σ:St) (H:Hp) (Q:VK) (E:XK),Inv X pins σ H s→t σ H Q E→wpAny (model X.prog X.w) X.A (eval e X.env) (EP X pins σ Q) (XP X pins σ E) s
def PX (X:Cx) (st:Stmt) (t:TSX):Prop:=
 ∀(pins:List (Addr×Obj)) (s:Shared) (σ:St) (H:Hp) (D:Ends) (E:XK),Inv X pins σ H s→t D E σ H→wpAny (model X.prog X.w) X.A (exec st X.env) (SP X pins D) (XP X pins σ E) s
def PXs (X:Cx) (st:List Stmt) (t:TSX):Prop:=
 ∀(pins:List (Addr×Obj)) (s:Shared) (σ:St) (H:Hp) (D:Ends) (E:XK),Inv X pins σ H s→t D E σ H→wpAny (model X.prog X.w) X.A (execs st X.env) (SP X pins D) (XP X pins σ E) s
section
variable {X:Cx}{k:Nat}{f C:Addr}{fd:FuncData}{ps:List Str}{sp:Sp}{dvs:List V}{ds:List Value}{x m:Str}{p pos apos:Pos}{e o:Expr}{es:List Expr}{ta:TE}{t:TA}{tx:TEX}{i:Nat}{st:Stmt}{u v:TSX}{a b:List Stmt}
theorem zhv {pins:List (Addr×Obj)}{σ:St}{H:Hp}{s:Shared}{Q:VK}{E:XK}{us:List Value}{vs:List V}(F:FnOk X.prog X.w X.K X.mg X.base (CXE X.prog X.w) k f fd ps sp) (hr:Room k X.A) (hb:Binds X.K fd ps ds) (hd:Vals dvs ds)
  (I:Inv X pins σ H s) (r:Vals vs us) (h:sp (vs++dvs) H Q E):wpAny (model X.prog X.w) X.A (call (.ref f) us) (EP X pins σ Q) (XP X pins σ E) s:=by
 have r2:Vals (vs++dvs) (us++ds):=r.append hd
 have hl:(us++ds).length=ps.length:=by rw[←r2.length];exact F.len _ _ _ _ h
 refine wpAny_call (codeAny_mono (F.run X.A X.stack s H ⟨us,[]⟩ (us++ds) (vs++dvs) Q E hr I.env0 (hb s us I.kIn hl) r2 h) fun r s' hq=>?_)
 cases r with
 |error e=>exact ⟨H,s,I,hq⟩
 |ok fl=>
  cases fl with
  |ret u=>exact I.after hq
  |next=>exact False.elim hq
  |brk=>exact False.elim hq
  |cont=>exact False.elim hq
theorem zf8 {pl:Sem Bool}(he:PE X.nox o ta) (c:Cls X.K C) (hm:Meth X.K C m f) (F:FnOk X.prog X.w X.K X.mg X.base (CXE X.prog X.w) k f fd ps sp) (hr:Room k X.A) (hb:Binds X.K fd ps ds) (hd:Vals dvs ds) (ha:PA X.nox (e::es) t)
  (hst:starEach (e::es) X.env=(false,eval e X.env)::starEach es X.env:=by rfl) (hpl:(backTo pos (starEach es X.env)).any (·.1)=false:=by rfl)
  (ht:eval (.Call (.Attribute o m apos) (e::es) [] pos) X.env=(do
   let ov ← eval o X.env
   standAt apos.atName
   let (f,first) ← holding [ov] (getMethod ov m pl)
   callWith pos f first (backTo pos (starEach (e::es) X.env)) (backToKw pos (keywordEach [] X.env))):=by rfl) :
  PEx X (.Call (.Attribute o m apos) (e::es) [] pos) (fun σ H Q E=>ta σ H fun x H1=>∃a dx fs,x=.ref a∧H1 a=some (.ins C dx fs)∧fs.lookup m=none∧t σ H1 fun vs H2=>sp (x::(vs++dvs)) H2 Q E):=by
 intro pins s σ H Q E I h
 refine W.methodCall_KW (pl:=pl) (wpAny_mono (he pins s σ H _ (I.wish _) h) (fun u s1 q=>?_) fun _ _ z=>False.elim z) ht
 obtain ⟨x,H1,I1,rx,a,dx,fs,ex,ea,l,q⟩:=q
 subst ex
 obtain rfl:u=Value.ref a:=rx
 refine zbC I1.unwish ea c hm l ?_
 refine W.callWith_K (first:=[.ref a]) (h₀:=X.base) I.ok.mod.kin hm.kp (wpAny_mono (ha pos pins s1 σ H1 _ I1 q) (fun us s2 q2=>?_) fun _ _ z=>False.elim z) hst hpl
 obtain ⟨vs,H2,I2,r,q2⟩:=q2
 exact ⟨I2.kIn,zhv (us:=.ref a::us) (vs:=.ref a::vs) F hr hb hd I2.unwish (.cons rfl r) q2⟩
theorem zhw {pl:Sem Bool}(he:PE X.nox o ta) (c:Cls X.K C) (hm:Meth X.K C m f) (F:FnOk X.prog X.w X.K X.mg X.base (CXE X.prog X.w) k f fd ps sp) (hr:Room k X.A) (hb:Binds X.K fd ps ds) (hd:Vals dvs ds)
  (ht:eval (.Call (.Attribute o m apos) [] [] pos) X.env=(do
   let ov ← eval o X.env
   standAt apos.atName
   let (f,first) ← holding [ov] (getMethod ov m pl)
   callWith pos f first (backTo pos (starEach [] X.env)) (backToKw pos (keywordEach [] X.env))):=by rfl) :
  PEx X (.Call (.Attribute o m apos) [] [] pos) (fun σ H Q E=>ta σ H fun x H1=>∃a dx fs,x=.ref a∧H1 a=some (.ins C dx fs)∧fs.lookup m=none∧sp (x::dvs) H1 Q E):=by
 intro pins s σ H Q E I h
 refine W.methodCall_KW (pl:=pl) (wpAny_mono (he pins s σ H _ (I.wish _) h) (fun u s1 q=>?_) fun _ _ z=>False.elim z) ht
 obtain ⟨x,H1,I1,rx,a,dx,fs,ex,ea,l,q⟩:=q
 subst ex
 obtain rfl:u=Value.ref a:=rx
 refine zbC I1.unwish ea c hm l ?_
 exact W.callWith_K0 I1.kIn hm.kp (zhv (us:=[.ref a]) (vs:=[.ref a]) F hr hb hd I1.unwish (.cons rfl .nil) q)
theorem zhx {pos':Pos}(hN:X.N.Nodup) (hi:X.N[i]?=some x) (hx:Loc X.env.scope x) (he:PEx X e tx) (hs:swapsWith e (some (.Name x pos')) pos.line X.env=pure false:=by rfl)
  (hf:X.fn x=true∨X.env.scope.names.lookup x=some .local:=by first|exact .inl rfl|exact .inr rfl|assumption) :
  PX X (.Assign [.Name x pos'] e pos) (fun D E σ H=>tx σ H (fun y H1=>D.nx (σ.set i (some y)) H1) E):=by
 intro pins s σ H D E I h
 refine wpAny_Assign_Name (thn (he pins s σ H _ E I h) fun v s1 q=>?_) hs
 obtain ⟨y,H1,I1,r1,q1⟩:=q
 exact zb6 I1 hN hi hx r1 (fun s2 I2=>⟨_,H1,I2,q1⟩) hf
theorem zll {c:Expr}{tc:TT}(hc:PT X.nox c tc) (ha:PXs X a u) (hb:PXs X b v):PX X (.If c a b pos) (fun D E σ H=>tc σ H fun d H1=>if d=true then u D E σ H1 else v D E σ H1):=by
 intro pins s σ H D E I h
 refine wpAny_If (wpAny_mono (hc pins s σ H _ (I.wish _) h) (fun d s1 q=>?_) fun _ _ z=>False.elim z)
 obtain ⟨H1,I1,q1⟩:=q
 cases d with
 |true=>exact ha pins s1 σ H1 D E I1.unwish q1
 |false=>exact hb pins s1 σ H1 D E I1.unwish q1
theorem zdy (h:PX X st u):PXs X [st] u:=by
 intro pins s σ H D E I q
 refine wpAny_execs_cons (thn (h pins s σ H D E I q) fun f s1 z=>?_)
 cases f with
 |next=>exact wpAny_execs_nil z
 |brk=>exact z
 |cont=>exact z
 |ret u=>exact z
end
abbrev Cx.hand (X:Cx) (a:Addr):Cx:={ X with A:=X.A.mark (some (.ref a)),calm:=false,xe:=fun _ _=>False }
section
variable {X:Cx}{pins:List (Addr×Obj)}{σ:St}{H:Hp}{s:Shared}{a:Addr}
theorem Inv.hand (I:Inv X pins σ H s) (a:Addr):Inv (X.hand a) pins σ H s:=by
 have ok:=I.ok
 exact ⟨⟨ok.mod,ok.kind,ok.glob,ok.blt,ok.above,ok.inj,ok.has,ok.cab,(fun z=>nomatch z),ok.frames,ok.stk,ok.exf,ok.bs,ok.bsz,ok.noex,ok.exfs,ok.funs,ok.frf⟩,I.os,I.bare,I.base,I.loc,I.cell,I.free,I.freeC,I.pin,I.hok,I.len⟩
theorem Inv.back (ok:X.Ok) (I:Inv (X.hand a) pins σ H s):Inv X pins σ H s:=⟨ok,I.os,I.bare,I.base,I.loc,I.cell,I.free,I.freeC,I.pin,I.hok,I.len⟩
end
def Ends.less (D:Ends) (i:Nat):Ends:={ nx:=fun σ H=>D.nx (σ.set i none) H,rt:=D.rt,bk:=fun σ H=>D.bk (σ.set i none) H,ct:=fun σ H=>D.ct (σ.set i none) H }
def zlm (K:W.Frag) (C:Addr) (i:Nat) (tb:TSX) (ts:Addr→TS):TS:=fun D σ H=>
 tb D (fun cls _ H'=>W.exmOne K cls (.ref C)=some true∧∀a,H' a=none→ts a (D.less i) (σ.set i (some (.ref a))) (upd H' a (exH a cls))) σ H
section
variable {X:Cx}{i:Nat}{n x:Str}{C:Addr}{body suite:List Stmt}{b₀:Stmt}{np hpos pos:Pos}{tb:TSX}{ts:Addr→TS}
theorem zhy {M:Model}{h:Heap}{a:Addr}{o:Obj}{c:Value}(e:h.get? a=some o) (q:o.cls=c):W.Looks M h (typeOf (.ref a)) c:=by
 subst q
 exact (W.Looks.ld e).andThen .now
theorem zi1 (hN:X.N.Nodup) (hi:X.N[i]?=some n) (hk:X.env.scope.names.lookup n=some .local) (hst:X.stack=X.env::X.outer) (hf:X.env.frame=some X.env.locals) (hg:Gl X x) (hm:X.mg x=some (.ref C))
  (hb:PXs X body tb) (hs:∀a,PSs (X.hand a) (b₀::suite) (ts a)) (hdb:(x==("__debug__":Str))=false:=by decide) :
  PS X (.Try body [.ExceptHandler (some (.Name x np)) (some n) (b₀::suite) hpos] [] [] pos) (zlm X.K C i tb ts):=by
 intro pins s σ H D I h
 refine wpAny_Try_except (wpAny_mono (hb pins s σ H D _ I h) (fun f s1 q=>?_) fun ev s1 q=>?_)
 ·cases f with
  |next=>exact wpAny_execs_nil q
  |brk=>exact q
  |cont=>exact q
  |ret u=>exact q
 ·obtain ⟨H1,s0,I0,c⟩:=q
  have hl:=I0.stack
  have fz:=I0.stkFree
  rw[hst] at hl fz c
  have fr:X.A.frames=some (X.env::X.outer):=by rw[←hst];exact I0.ok.frames
  refine noted fr hf hl fz c fun s2 c2=>?_
  have c2':=c2
  rw[←hst] at c2'
  obtain ⟨a,cls,H2,rfl,na,hE,J,o,go,co⟩:=I0.caught c2'
  refine wpAny_handleBy_cons (codeAny_handlers_test ?_) (by intro q;cases q)
  refine zci (J.hand a) hg hm ?_ hdb
  refine W.exm_one J.kIn (zhy go co) hE.1 _ _ _ s2 (fun _ _ q=>q) ?_
  refine codeAny_handlers_suite_as ?_
  refine flown c2 fun s3 c3=>?_
  rw[←hst] at c3
  obtain ⟨a',cls3,H3,e3,na3,hE3,J3,_⟩:=I0.caught c3
  cases e3
  refine zb6 (X:=X.hand a) (v:=.ref a) (J3.hand a) hN hi (.inl hk) rfl (fun s4 I4=>?_) (.inr hk)
  refine wpAny_mono (hs a pins s4 _ _ _ I4 (hE3.2 a na3)) (fun f s5 q=>?_) fun _ _ z=>False.elim z
  cases f with
  |next=>
   obtain ⟨σ',H',I',q⟩:=q
   exact zek (I'.back I.ok) hN hi hk fun s6 I6=>⟨_,H',I6,q⟩
  |brk=>
   obtain ⟨σ',H',I',q⟩:=q
   exact zek (I'.back I.ok) hN hi hk fun s6 I6=>⟨_,H',I6,q⟩
  |cont=>
   obtain ⟨σ',H',I',q⟩:=q
   exact zek (I'.back I.ok) hN hi hk fun s6 I6=>⟨_,H',I6,q⟩
  |ret u=>
   obtain ⟨v,σ',H',I',r,q⟩:=q
   exact zek (I'.back I.ok) hN hi hk fun s6 I6=>⟨v,_,H',I6,r,q⟩
end
theorem zel:entryFor table "proto.unchain"=some Builtin.«proto.unchain»:=entryFor_of_fast (by kernel_rfl)
section
variable {prog:Program}{w:World}{A:Around}{E:Value→Shared→Prop}{s:Shared}
def Lone (h:Heap) (a:Addr):Prop:=∃o vs,h.get? a=some o∧o.data=.fields vs∧vs[2]?=some .none
theorem zfc {e:Value}{a:Addr}{Q:Value→Shared→Prop}(l:Lone s.heap a) (h:Q .none s):wpAny (model prog w) A (runValue (.builtin "proto.unchain" ⟨[e,.ref a,.ref a,.bool false],[]⟩)) Q E s:=by
 obtain ⟨o,vs,g,d,n⟩:=l
 refine wpAny_runValue (codeAny_builtin zel ?_)
 show wpAny _ _ (field (.ref a) 2 >>= _) _ _ s
 refine wpAny_bind (wpAny_field g d n ?_)
 rw[if_pos (by rfl)]
 unfold ret
 exact wpAny_pure h
theorem zi2 {α:Type}{a b:Addr}{o:Obj}{vs:Array Value}{Q:α→Shared→Prop}(hh:A.handled=some (.ref a)) (ne:a≠b) (l:Lone s.heap a) (g:s.heap.get? b=some o) (d:o.data=.fields vs) (z:2<vs.size)
  (h:E (.ref b) { s with heap:=s.heap.update b (Obj.mapFields (·.setIfInBounds 2 (.ref a))) }):wpAny (model prog w) A (raiseNew (.ref b):Sem α) Q E s:=by
 unfold raiseNew
 refine wpAny_bind (wpAny_handled ?_)
 rw[hh]
 dsimp only
 rw[if_pos (by simp[ne])]
 refine wpAny_bind (wpAny_holding (zfc l ?_))
 unfold updateField
 refine wpAny_bind (wpAny_bind (wpAny_load g ?_))
 rw[d]
 dsimp only
 rw[if_pos z]
 exact wpAny_update g (wpAny_throw h)
theorem zfd {it a:Addr}{x left step:Int}{Q:Option Value→Shared→Prop}(hh:A.handled=some (.ref a)) (l:Lone s.heap a) (hit:IsRangeIter s.heap it x left step) (hleft:left≤0)
  (hQ:∀h',(∀b o,s.heap.get? b=some o→h'.get? b=some o)→Q none { s with heap:=h' }):wpAny (model prog w) A (pyNext (.ref it)) Q E s:=by
 have ty:s.TypeIs (.ref it) "range_iterator":=⟨_,hit,rfl⟩
 obtain ⟨oa,va,ga,da,na⟩:=id l
 unfold pyNext
 refine wpAny_bind (wpAny_attempt (wpAny_callSpecial?_slot (name:=Str.ofString "__next__") ty F.slot_range_iterator_next (wpAny_call_entry F.slot_range_iterator_next ty F.entry_range_iterator_next ?_ (F.args_range_iterator_next_1 _))))
 show wpAny _ _ (field (.ref it) 0 >>= _) _ _ s
 refine wpAny_bind (wpAny_field hit rfl (x:=rawInt x) rfl ?_)
 show wpAny _ _ (field (.ref it) 1 >>= _) _ _ s
 refine wpAny_bind (wpAny_field hit rfl (x:=rawInt left) rfl ?_)
 show wpAny _ _ (field (.ref it) 2 >>= _) _ _ s
 refine wpAny_bind (wpAny_field hit rfl (x:=rawInt step) rfl ?_)
 show wpAny _ _ (if left≤0 then _ else _) _ _ s
 rw[if_pos hleft]
 refine wpAny_bind (wpAny_rule (wpAny_bind ?_))
 show wpAny _ _ (newExc (.type "StopIteration") [] >>= _) _ _ _
 refine wpAny_bind ?_
 simp only[newExc,newTuple]
 refine wpAny_bind (wpAny_newObj_type ?_ (by size_fits))
 refine wpAny_bind (m:=firstArgMember _ _) (wpAny_of_eq (a:=Value.none) (by first|rfl|(simp only[firstArgMember];rfl)) ?_)
 refine wpAny_newObj_type ?_ (by size_fits)
 have ne:a≠(s.heap.push { cls:=Value.type "tuple",data:=Data.seq #[] }).objs.size:=Nat.ne_of_lt (Heap.lt_size (Heap.get?_push_of_some _ ga))
 refine zi2 (a:=a) hh ne ⟨oa,va,Heap.get?_push_of_some _ (Heap.get?_push_of_some _ ga),da,na⟩ (Heap.get?_push_size _ rfl) rfl (by rw[Array.size_append];exact Nat.lt_of_lt_of_le (by decide:2<6) (Nat.le_add_right _ _)) ?_
 refine wpAny_bind (wpAny_isInstance (T:="StopIteration") (b:=true) ⟨_,zda (Heap.get?_push_size _ rfl) rfl _,Obj.cls_mapFields _ _⟩ isSubtype_stop ?_)
 refine wpAny_pure (hQ _ fun b o q=>?_)
 show (Heap.update _ _ _).get? b=some o
 rw[Heap.get?_update_other _ _ (Ne.symm (Nat.ne_of_lt (Heap.lt_size (Heap.get?_push_of_some _ q))))]
 exact Heap.get?_push_of_some _ (Heap.get?_push_of_some _ q)
end
def ItrU (ea:Addr) (ecl:Value) (lo:Int) (n:Nat):It:=⟨fun i _=>i<n,fun i H x H'=>H'=H∧x=.int (lo+i),fun i H=>n≤i∧H ea=some (exH ea ecl)⟩
structure TurnU (ea:Addr) (ecl:Value) (P:Program) (w:World) (K:W.Frag) (tg:Expr) (J:It) (fp:List Addr) (it:Addr) (tn:Nat→Heap→Prop):Prop where
 mem:it∈fp
 obj:∀i h,tn i h→∀b∈fp,∃o,h.get? b=some o∧∀v,o.data≠.cell v
 keep:∀i h h',tn i h→(∀b∈fp,∀o,h.get? b=some o→h'.get? b=some o)→tn i h'
 item:∀(X:Cx),X.prog=P→X.w=w→X.K=K→X.A.handled=some (.ref ea)→∀(i:Nat) (pins:List (Addr×Obj)) (s:Shared) (σ:St) (H:Hp) (E:Value→Shared→Prop),Inv X pins σ H s→(∀b∈fp,FpOk X pins H b)→tn i s.heap→J.go i H →
  wpAny (model P w) X.A (pyNext (.ref it)) (fun r s1=>∃u,r=some u ∧
   wpAny (model P w) X.A (letOwnedTupleGo tg (.ref it) u) (fun _ s2=>∃x H',Inv X pins σ H' s2∧RelV x u∧J.yld i H x H'∧tn (i+1) s2.heap∧∀b∈fp,H' b=none) E s1) E s
 done:∀(X:Cx),X.prog=P→X.w=w→X.K=K→X.A.handled=some (.ref ea)→∀(i:Nat) (pins:List (Addr×Obj)) (s:Shared) (σ:St) (H:Hp) (E:Value→Shared→Prop),Inv X pins σ H s→(∀b∈fp,FpOk X pins H b)→tn i s.heap→J.stop i H →
  wpAny (model P w) X.A (pyNext (.ref it)) (fun r s1=>r=none∧Inv X pins σ H s1) E s
 self:∀(A:Around) (i:Nat) (s:Shared) (Q:Value→Shared→Prop) (E:Value→Shared→Prop),tn i s.heap→Q (.ref it) s→wpAny (model P w) A (pyIter (.ref it)) Q E s
def PIEU (ea:Addr) (ecl:Value) (X:Cx) (pins:List (Addr×Obj)) (σ:St) (tg:Expr) (R:It→Hp→Prop) (itv:Value) (s2:Shared):Prop:=
 ∃(it:Addr) (fp:List Addr) (tn:Nat→Heap→Prop) (J:It) (H':Hp),itv=.ref it∧Inv X pins σ H' s2∧TurnU ea ecl X.prog X.w X.K tg J fp it tn∧tn 0 s2.heap∧(∀b∈fp,FpOk X pins H' b)∧R J H'
def PIU (ea:Addr) (ecl:Value) (X:Cx) (tg iter:Expr) (wi:TI):Prop:=
 ∀(pins:List (Addr×Obj)) (s:Shared) (σ:St) (H:Hp) (R:It→Hp→Prop),Inv X pins σ H s→wi σ H R →
  wpAny (model X.prog X.w) X.A (eval iter X.env) (fun v s1=>wpAny (model X.prog X.w) X.A (pyIter v) (PIEU ea ecl X pins σ tg R) X.xe s1) X.xe s
theorem zfE {ea:Addr}{ecl:Value}{P:Program}{w:World}{K:W.Frag}{tg:Expr}(it:Addr) (lo:Int) (n:Nat):TurnU ea ecl P w K tg (ItrU ea ecl lo n) [it] it (fun i h=>IsRangeIter h it (lo+(i:Nat)*1) ((n:Int)-(i:Nat)) 1) where
 mem:=by simp
 obj:=fun i h st b hb=>by
  have e:b=it:=by simpa using hb
  subst e
  exact ⟨_,st,fun v z=>by
   have z':Data.fields _=Data.cell v:=z
   cases z'⟩
 keep:=fun i h h' st k=>k it (by simp) _ st
 item:=by
  intro X hP hw hK hc i pins s σ H E I hf st hg
  subst hP hw hK
  obtain ⟨f0,f1,f2,f3,f4,f5⟩:=hf it (by simp)
  have g':i<n:=hg
  refine wpAny_pyNext_range_item st (by omega) fun h' st' sb=>?_
  have I1:Inv X pins σ H { s with heap:=h',toks:=s.toks+1 }:=I.turned (fun b o hb e=>(sb.2 b hb).trans e) f0 f1 f3 f4 f5
  have e1:lo+(i:Int)*1+1=lo+((i+1:Nat):Int)*1:=by omega
  have e2:(n:Int)-(i:Int)-1=(n:Int)-((i+1:Nat):Int):=by omega
  rw[e1,e2] at st'
  refine ⟨_,rfl,zix (s:={ s with heap:=h',toks:=s.toks+1 }) (n:="range_iterator") st' rfl rfl (by decide) ⟨.int (lo+i),H,I1,⟨s.toks,?_⟩,⟨rfl,rfl⟩,st',fun b hb=>(hf b hb).1⟩⟩
  rw[Int.mul_one]
 done:=by
  intro X hP hw hK hc i pins s σ H E I hf st hg
  subst hP hw hK
  obtain ⟨f0,f1,f2,f3,f4,f5⟩:=hf it (by simp)
  obtain ⟨hn,he⟩:n≤i∧H ea=some (exH ea ecl):=hg
  have lone:Lone s.heap ea:=by
   obtain ⟨⟨o,vs,q1,_,q2,q3,_⟩,_⟩:=I.hok ea _ he
   exact ⟨o,vs,q1,q2,q3⟩
  exact zfd hc lone st (by omega) fun h' eb=>⟨rfl,I.turned (t':=s.toks) (fun b o hb e=>eb b o e) f0 f1 f3 f4 f5⟩
 self:=fun _ _ _ _ _ st h=>wpAny_pyIter_rangeiter st h
section
variable {ea:Addr}{ecl:Value}{X:Cx}{tg:Expr}
theorem zhz {pins:List (Addr×Obj)}{σ:St}{H:Hp}{s:Shared}{R:It→Hp→Prop}{E:Value→Shared→Prop}{lo hi:Int}{t u v:Tok}{tk:Nat}(I:Inv X pins σ H s) (h1:-(2 ^ 62)≤lo) (h2:lo<2 ^ 62) (h3:-(2 ^ 62)≤hi) (h4:hi<2 ^ 62)
  (q:R (ItrU ea ecl lo (hi-lo).toNat) H):wpAny (model X.prog X.w) X.A (pyIter (.ref s.heap.objs.size)) (PIEU ea ecl X pins σ tg R) E { s with heap:=s.heap.push { cls:=.type "range",data:=.fields #[.int lo t,.int hi u,.int 1 v] },toks:=tk }:=by
 refine wpAny_pyIter_range (IsRange.new ..) (small_one h1 h2 h3 h4) ?_
 have I1:Inv X pins σ H { s with heap:=s.heap.push { cls:=.type "range",data:=.fields #[.int lo t,.int hi u,.int 1 v] },toks:=tk }:=I.kept fun b o e=>Heap.get?_push_of_some _ e
 refine ⟨(s.heap.push { cls:=.type "range",data:=.fields #[.int lo t,.int hi u,.int 1 v] }).objs.size,[(s.heap.push { cls:=.type "range",data:=.fields #[.int lo t,.int hi u,.int 1 v] }).objs.size],_,_,H,rfl,
  I1.kept (t':=tk) fun b o e=>Heap.get?_push_of_some _ e,zfE _ lo (hi-lo).toNat,?_,fun b hb=>?_,q⟩
 ·have e1:lo+((0:Nat):Int)*1=lo:=by simp
  have e2:(((hi-lo).toNat:Nat):Int)-((0:Nat):Int)=Builtin.Range.rangeSize lo hi 1:=by rw[rangeSize_one];split<;>omega
  show IsRangeIter _ _ (lo+((0:Nat):Int)*1) ((((hi-lo).toNat:Nat):Int)-((0:Nat):Int)) 1
  rw[e1,e2]
  exact Heap.get?_push_size _ rfl
 ·have e:b=(s.heap.push { cls:=.type "range",data:=.fields #[.int lo t,.int hi u,.int 1 v] }).objs.size:=by simpa using hb
  subst e
  exact I1.fpOk (Nat.le_refl _) (I1.hok.fresh (Nat.le_refl _))
def iRngU (ea:Addr) (ecl:Value) (ta:TA):TI:=fun σ H R=>ta σ H fun vs H1=>∃j:Int,vs=[.int j]∧-(2 ^ 62)≤j∧j<2 ^ 62∧R (ItrU ea ecl 0 j.toNat) H1
theorem zgE {a:Expr}{ta:TA}{p pos:Pos}(hg:Gl X "range") (hm:X.mg "range"=none) (ha:PA X [a] ta) (hs:starEach [a] X.env=[(false,eval a X.env)]:=by rfl):PIU ea ecl X tg (.Call (.Name "range" p) [a] [] pos) (iRngU ea ecl ta):=by
 intro pins s σ H R I h
 refine Call_ (zc0 I hg hm boot_range (PyProof.Rows.callWith_type1 (thn (ha pos pins s σ H _ I h) fun us s1 ⟨vs,H1,I1,r1,q1⟩=>?_) hs rfl))
 obtain ⟨j,e,q1,q2,q⟩:=q1
 subst e
 cases r1 with
 |cons r rr=>
  cases rr
  obtain ⟨t,rfl⟩:=r
  exact call_range_1 (zhz I1 (by omega) (by omega) q1 q2 (by simpa using q))
theorem zgF {X:Cx}(hE:X.xe=fun _ _=>False) (hc:X.A.handled=some (.ref ea)){e:Expr}{d:Nat}{tg iter:Expr}{ifs:List Expr}{acc:Value}{rest:Sem Unit}{g:TG}{tt:TT}{tr:TR}{J:It}{fp:List Addr}{it:Addr}{tn:Nat→Heap→Prop}
  (heq:compTurn e d (.ref it) acc X.env=(do
   standAt iter.pos
   match ← pyNext (.ref it) with
   |none=>pure (.done .next)
   |some v=>
    letOwnedTupleGo tg (.ref it) v
    assign tg X.env v
    let mut ok:=true
    for c in ifs do
     if ok then ok ← isTrue c X.env (eval c X.env)
    if ok then rest
    again (.compLoop e d (.ref it) acc X.env)))
  (hq:(Code.compLoop e d (.ref it) acc X.env).quiet=true) (hu:X.A.under (.compLoop e d (.ref it) acc X.env)=X.A) (hden:(model X.prog X.w).den (.compLoop e d (.ref it) acc X.env)=(compTurn e d (.ref it) acc X.env).onRaise (fun x=>do noteFrame x X.env;theTreesLotGoes x))
  (hg:PG X tg g) (ht:PTs X ifs tt) (hr:PR X rest tr) (T:TurnU ea ecl X.prog X.w X.K tg J fp it tn)
  {pins:List (Addr×Obj)} {σ:St} {H:Hp} {s:Shared} {Qe:St→Hp→Prop} {R:Result→Shared→Prop} (I:Inv X pins σ H s) (st:tn 0 s.heap) (f2:∀b∈fp,FpOk X pins H b) (h:tLoop J g tt tr Qe σ H)
  (hR:∀s' σ' H',Inv X pins σ' H' s'→Qe σ' H'→R (.ok .next) s') :
  codeAny (model X.prog X.w) X.A (.compLoop e d (.ref it) acc X.env) R s:=by
 obtain ⟨W,⟨m0,w0⟩,turn⟩:=h
 have stat:∀ {H':Hp},(∀b∈fp,H' b=none)→∀b∈fp,FpOk X pins H' b:=fun hn b hb=>⟨hn b hb,(f2 b hb).2⟩
 have no:∀ {α:Type} {t:Sem α} {Q:α→Shared→Prop} {s:Shared} {E:Value→Shared→Prop},wpAny (model X.prog X.w) X.A t Q X.xe s→wpAny (model X.prog X.w) X.A t Q E s:=fun {α t Q s E} h=>
  wpAny_mono h (fun _ _ x=>x) fun _ _ x=>by rw[hE] at x;exact x.elim
 refine codeAny_loop hq (fun n s'=>∃i σ' H',Inv X pins σ' H' s'∧tn i s'.heap∧(∀b∈fp,H' b=none)∧W i n σ' H') (fun n s3 hI=>?_) m0 ⟨0,σ,H,I,st,fun b hb=>(f2 b hb).1,w0⟩
 rw[hu,hden]
 refine wpAny_noted ?_
 rw[heq]
 obtain ⟨i,σ3,H3,I3,st3,fr3,w3⟩:=hI
 refine wpAny_bind (wpAny_standAt (wpAny_bind ?_))
 rcases turn i n σ3 H3 w3 with ⟨stop,qn⟩|⟨go,N,hN,step⟩
 ·refine no (thn (T.done X rfl rfl rfl hc i pins s3 σ3 H3 X.xe I3 (stat fr3) st3 stop) fun r s4 ⟨hr4,I4⟩=>?_)
  subst hr4
  exact wpAny_pure (hR _ _ _ I4 qn)
 ·refine no (thn (T.item X rfl rfl rfl hc i pins s3 σ3 H3 X.xe I3 (stat fr3) st3 go) fun r s4 ⟨u,hr4,h4⟩=>?_)
  subst hr4
  refine wpAny_bind (no (thn h4 fun _ s5 ⟨x,H5,I5,r5,y5,st5,fr5⟩=>?_))
  have I5':=I5.pinned (stat fr5) (T.obj _ _ st5)
  refine wpAny_bind (no (thn (hg _ s5 σ3 H5 x u _ I5' r5 (step x H5 y5)) fun _ s6 ⟨σ6,H6,I6,q6⟩=>?_))
  have again:∀ {σ7:St} {H7:Hp} {s7:Shared},Inv X (pins++zdQ fp s5.heap) σ7 H7 s7→N σ7 H7→∃m,m<n∧∃i σ' H',Inv X pins σ' H' s7∧tn i s7.heap∧(∀b∈fp,H' b=none)∧W i m σ' H':=fun {σ7 H7 s7} I7 n7=>by
   obtain ⟨m',hm,w7⟩:=hN σ7 H7 n7
   refine ⟨m',hm,i+1,σ7,H7,I7.unpinned,T.keep _ _ _ st5 fun b hb o e=>(I7.pin (b,o) (List.mem_append_right _ (List.mem_append_right _ (zbt hb e)))).1,fun b hb=>?_,w7⟩
   obtain ⟨o,e,dd⟩:=T.obj _ _ st5 b hb
   exact (I7.pin (b,o) (List.mem_append_right _ (List.mem_append_right _ (zbt hb e)))).2.1
  refine wpAny_bind (no (thn (ht _ s6 σ6 H6 _ I6 q6) fun ok s7 ⟨H7,I7,q7⟩=>?_))
  cases ok with
  |false=>
   rw[if_neg (by simp)] at q7
   exact wpAny_pure ⟨rfl,again I7 q7⟩
  |true=>
   rw[if_pos rfl] at q7
   refine wpAny_bind (no (thn (hr _ s7 σ6 H7 _ I7 q7) fun _ s8 ⟨σ8,H8,I8,q8⟩=>?_))
   exact wpAny_pure ⟨rfl,again I8 q8⟩
variable {elt iter:Expr}{ifs:List Expr}{sc:Scope}{pos:Pos}{N':List Str}{js:List (Option Nat)}{wi:TI}{g:TG}{tt:TT}{te:TE}
theorem zfe (hc:X.A.handled=some (.ref ea)) (B:BlkOk X sc) (C:CapsOk X sc N' js){cl:List (Str×Addr)}
  (c1:∀x c,cl.lookup x=some c→X.env.cells.lookup x=some c) (c2:∀x∈sc.names,x.2=.free→∃c,cl.lookup x.1=some c)
  (hg:∀cl s H fp,PG (X.blk sc cl N' s H fp) tg g) (ht:∀cl s H fp,PTs (X.blk sc cl N' s H fp) ifs tt) (he:∀cl s H fp,PE (X.blk sc cl N' s H fp) elt te)
  {pins:List (Addr×Obj)} {σ:St} {H:Hp} {s:Shared} {Qe:Addr→Hp→Prop} {it:Addr} {fp:List Addr} {tn:Nat→Heap→Prop} {J:It} {RR:Value→Addr→Result→Shared→Prop}
  (I:Inv X pins σ H s) (T:TurnU ea ecl X.prog X.w X.K tg J fp it tn) (st:tn 0 s.heap) (hf:∀b∈fp,FpOk X pins H b)
  (h:∀p,H p=none→tLoop J g tt (tApp p te) (fun _ H'=>Qe p H') (capSt σ js) (upd H p (.lst [])))
  (hRR:∀p C s' H',C≠p→(∀b o,s.heap.get? b=some o→b≠C)→H' C=none→(∃m,s'.heap.Ns C m)→Qe p H'→(∀h'',Heap.SameBut C s'.heap h''→Inv X pins σ H' { s' with heap:=h'' })→FpOk X pins H' C→RR (.ref p) C (.ok .next) s') :
  wpAny (model X.prog X.w) X.A (newList []) (fun acc s₃=>wpAny (model X.prog X.w) X.A (newFunctionEnv sc X.env.globals cl [] X.env.qual none .none (some X.env)) (fun cenv s₄=>
   codeAny (model X.prog X.w) X.A (.compStart (.ListComp elt [⟨tg,iter,ifs,0⟩] sc pos) 0 (.ref it) acc { cenv with scope:=relabel sc X.env }) (RR acc cenv.locals) s₄) X.xe s₃) X.xe s:=by
 refine wpAny_newObj_type ?_
 have I3:=I.lnew (ys:=[]) (its:=[]) (t':=s.toks) .nil (by simp)
 generalize hs3:({ s with heap:=s.heap.push { cls:=.type "list",data:=.seq ([]:List Value).toArray },toks:=s.toks }:Shared)=s3 at I3
 have hp:H s.heap.objs.size=none:=I.fresh
 have h3:=h _ hp
 have f3:∀b∈fp,FpOk X pins (upd H s.heap.objs.size (.lst [])) b∧b<s3.heap.objs.size:=fun b hb=>by
  obtain ⟨f0,f1⟩:=hf b hb
  obtain ⟨o,e,_⟩:=T.obj _ _ st b hb
  have lt:=Heap.lt_size e
  refine ⟨⟨by rw[zaj (Nat.ne_of_lt lt)];exact f0,f1⟩,?_⟩
  rw[←hs3]
  show b<(s.heap.push _).objs.size
  rw[Heap.size_push]
  exact Nat.lt_succ_of_lt lt
 have hsz:s3.heap.objs.size=s.heap.objs.size+1:=by rw[←hs3];exact Heap.size_push ..
 have hst3:tn 0 s3.heap:=by rw[←hs3];exact T.keep _ _ _ st fun b hb o e=>Heap.get?_push_of_some _ e
 refine wpAny_newFunctionEnv B.nocell (by intro y hy;simp at hy) (fun h₁ hns₁ hsb₁=>?_) B.kind
 have J4:=ze3 (cl:=cl) (N':=N') (σ':=capSt σ js) (tk:=s3.toks+([]:List (Str×Value)).length) I3 B c1 c2 f3 C.len (fun i x v e1 e2 _=>C.get e1 e2) (show h₁.Ns s3.heap.objs.size (fun _=>none) from hns₁) (show Heap.SameBut s3.heap.objs.size (s3.heap.push { cls:=.type "dict",data:=.dict #[] }) h₁ from hsb₁)
 have hst4:tn 0 h₁:=T.keep _ _ _ hst3 fun b hb o e=>(hsb₁.2 b (Nat.ne_of_lt (Heap.lt_size e))).trans (Heap.get?_push_of_some _ e)
 have f4:∀b∈fp,FpOk (X.blk sc cl N' s3 (upd H s.heap.objs.size (.lst [])) fp) [] (upd H s.heap.objs.size (.lst [])) b:=fun b hb=>by
  obtain ⟨⟨g0,g1,g2,g3,g4,g5⟩,lt⟩:=f3 b hb
  refine ⟨g0,Nat.ne_of_lt lt,fun z=>?_,.inl hb,fun x c e=>g4 x c (c1 x c e),fun p hp=>absurd (show p∈([]:List (Addr×Obj)) from hp) (by simp)⟩
  rcases List.mem_cons.mp (I3.stkSub b z) with z|z
  ·exact g1 z
  ·exact g2 z
 have loop:codeAny (model X.prog X.w) X.A (.compLoop (.ListComp elt [⟨tg,iter,ifs,0⟩] sc pos) 0 (.ref it) (.ref s.heap.objs.size) (compEnvC sc cl s3.heap.objs.size X.env)) (RR (.ref s.heap.objs.size) s3.heap.objs.size) { s3 with heap:=h₁,toks:=s3.toks+([]:List (Str×Value)).length }:=by
  refine zgF (X:=X.blk sc cl N' s3 (upd H s.heap.objs.size (.lst [])) fp) rfl hc (compTurn_list ..) rfl rfl rfl (hg _ _ _ _) (ht _ _ _ _) (zjI (he _ _ _ _)) T J4 hst4 f4 h3 fun s' σ' H' J' q=>?_
  have hend:∀h'',Heap.SameBut s3.heap.objs.size s'.heap h''→Inv X pins σ H' { s' with heap:=h'' }:=fun h'' hs''=>zha I3 f3 J' hs''
  obtain ⟨m,hn,_⟩:=J'.loc
  refine hRR _ _ _ H' (by rw[hsz];exact Nat.succ_ne_self _) (fun b o e=>?_) J'.free ⟨m,hn⟩ q hend (I3.fpOk (Nat.le_refl _) J'.free)
  rw[hsz]
  exact Nat.ne_of_lt (Nat.lt_succ_of_lt (Heap.lt_size e))
 exact codeAny_compStart_list loop (T.self _ 0 _ _ _ hst4 loop)
theorem zhA (hE:X.xe=fun _ _=>False) (hc:X.A.handled=some (.ref ea)) (B:BlkOk X sc) (C:CapsOk X sc N' js) (hi:PIU ea ecl X tg iter wi) (hg:∀cl s H fp,PG (X.blk sc cl N' s H fp) tg g) (ht:∀cl s H fp,PTs (X.blk sc cl N' s H fp) ifs tt) (he:∀cl s H fp,PE (X.blk sc cl N' s H fp) elt te)
  (hs:∀x,foldedSetIterable iter X.env x=pure x:=by intro _;rfl):PE X (.ListComp elt [⟨tg,iter,ifs,0⟩] sc pos) (tComp js wi g tt te):=by
 intro pins s σ H Q I h
 obtain ⟨cl,hcl,c1,c2⟩:=zcQ X.env sc fun x hx hfr=>I.ok.has x.1 (.inl (B.free x hx hfr))
 rw[eval_ListComp]
 refine wpAny_comprehension_free (use:=none) rfl hs hcl B.kind B.names (thn (hi pins s σ H _ I h) fun v s1 h1=>thn h1 fun itv s2 h2=>?_)
 obtain ⟨it,fp,tn,J,H2,e,I2,T,st2,f2,h2⟩:=h2
 subst e
 refine zfe (Qe:=fun p H'=>Q (.ref p) H') (RR:=fun acc C=>compPost (model X.prog X.w) X.A X.xe none (EP X pins σ Q) acc C) hc B C c1 c2 hg ht he I2 T st2 f2 h2 ?_
 intro p C s' H' hne hold hfree hns q hend _
 obtain ⟨m,hn⟩:=hns
 exact ⟨m,hn,fun h'' hs''=>⟨.ref p,H',hend h'' hs'',rfl,q⟩⟩
end
structure RoomU (k:Nat) (A:Around):Prop where
 dp:A.depth+3*k+5<recursionLimit
 un:A.units+16*k+200<cLine
theorem Room.soft {k:Nat}{A:Around}(r:Room k A):RoomU k A:=⟨r.dp,r.un⟩
theorem RoomU.deeper {k:Nat}{A:Around}(r:RoomU (k+1) A) (env:Env):RoomU k (A.deeper env):=
 ⟨by have:=r.dp;show A.depth+1+3*k+5<_;omega,by have:=r.un;show A.units+3+16*k+200<_;omega⟩
theorem RoomU.depth {k:Nat}{A:Around}(r:RoomU k A):A.depth<recursionLimit:=by have:=r.dp;omega
structure FnOkU (P:Program) (w:World) (K:W.Frag) (mg:Str→Option Value) (base:Heap) (k:Nat) (f:Addr) (fd:FuncData) (ps:List Str) (sp:Addr→Sp):Prop where
 len:∀ea vs H Q E,sp ea vs H Q E→vs.length=ps.length
 run:∀(A:Around) (outer:List Env) (s:Shared) (H:Hp) (args:Args) (us:List Value) (vs:List V) (Q:VK) (E:XK) (ea:Addr),RoomU k A→A.handled=some (.ref ea)→Env0 P w K mg base A outer s H→BindsTo s fd args (ps.zip us)→Vals vs us→sp ea vs H Q E →
  codeAny (model P w) A (.call (.ref f) args) (CR CX0 outer P w H s Q E) s
def cxOfU (P:Program) (w:World) (K:W.Frag) (mg:Str→Option Value) (base:Heap) (N:List Str) (qual:Str) (scope:Scope) (f:Addr) (cd:Value) (A:Around) (outer:List Env) (s:Shared) (H:Hp) (E:XK):Cx:=
 { cxOf CX0 P w K mg base N qual scope f cd A outer s H E with calm:=false,xe:=fun _ _=>False }
theorem zgG {P:Program}{w:World}{K:W.Frag}{mg:Str→Option Value}{base:Heap}{N ps:List Str}{qual:Str}{scope:Scope}{f:Addr}{cd:Value}{A:Around}{outer:List Env}{s s1:Shared}{H:Hp}{E:XK}{us:List Value}{vs:List V}
  (S:zav N ps scope) (e0:Env0 P w K mg base A outer s H) (hl:vs.length=ps.length) (r:Vals vs us)
  (x:InCallC s s.heap.objs.size (bindL (envOfC qual scope s.heap.objs.size f cd).kindOf (ps.zip us) fun _=>none) (cellsFrom (s.heap.objs.size+1) scope.names []) (bindC (envOfC qual scope s.heap.objs.size f cd).kindOf (ps.zip us) fun _=>none) s1) :
  Inv (cxOfU P w K mg base N qual scope f cd A outer s H E) [] (start N vs) H s1:=by
 have I:=zeZ (CX:=CX0) (E:=E) (cd:=cd) (A:={ A with handled:=none }) S rfl ⟨e0.frames,e0.mod,e0.bs,e0.bsz,e0.funs,e0.frf,e0.hok,e0.bare⟩ hl r x
 exact ⟨⟨I.ok.mod,I.ok.kind,I.ok.glob,I.ok.blt,I.ok.above,I.ok.inj,I.ok.has,I.ok.cab,(fun z=>nomatch z),Around.frames_deeper e0.frames,I.ok.stk,I.ok.exf,I.ok.bs,I.ok.bsz,I.ok.noex,I.ok.exfs,I.ok.funs,I.ok.frf⟩,I.os,I.bare,I.base,I.loc,I.cell,I.free,I.freeC,I.pin,I.hok,I.len⟩
theorem zln {P:Program}{w:World}{K:W.Frag}{mg:Str→Option Value}{base:Heap}{k:Nat}{f:Addr}{name qual:Str}{params:Arguments}{body:List Stmt}{scope:Scope}{dV kV doc pm cdv ct oc:Value}{an od:Option Addr}
  {osl:Array (Option Value)} {N ps:List Str} {sp:Addr→Sp} (lk:K.lookup f=some ⟨oc,od,.func (W.fnOf name qual params body scope dV kV doc pm an cdv ct),osl⟩) (hcd:W.codeIn K cdv qual=true) (S:zav N ps scope)
  (len:∀ea vs H Q E,sp ea vs H Q E→vs.length=ps.length)
  (hbody:∀(A:Around) (outer:List Env) (s:Shared) (H:Hp) (vs:List V) (Q:VK) (E:XK) (ea:Addr),RoomU k (A.deeper (envOfC qual scope s.heap.objs.size f cdv))→A.handled=some (.ref ea)→sp ea vs H Q E →
   ∃t,PSs (cxOfU P w K mg base N qual scope f cdv A outer s H E) body t∧t { nx:=fun _ H'=>Q .non H',rt:=Q } (start N vs) H) :
  FnOkU P w K mg base (k+1) f (W.fnOf name qual params body scope dV kV doc pm an cdv ct) ps sp:=by
 refine ⟨len,fun A outer s H args us vs Q E ea hr hh e0 hb r hsp=>?_⟩
 have hl:=len _ _ _ _ _ hsp
 have KX:K.In s.heap:=e0.mod.kin.keeps fun b o e=>(e0.bs b o e).1
 have lim:s.heap.NoLimit:=e0.mod.nolimit.keeps fun b o e=>(e0.bs b o e).1
 have hkind:∀y∈ps.zip us,scope.names.lookup y.1=some .local∨(scope.names.lookup y.1=some .cell∧((cellsFrom (s.heap.objs.size+1) scope.names []).lookup y.1).isSome=true):=fun ⟨n,v⟩ hy=>by
  rcases S.par n (List.of_mem_zip hy).1 with q|q
  ·exact .inl q
  ·exact .inr ⟨q,W.cellsFrom_some _ _ _ (.inl q)⟩
 refine codeAny_call_function hr.depth (KX _ _ lk) rfl S.co S.gen rfl (W.codeRec_of KX hcd) (hb _ _ _ _ ?_)
 refine wpAny_newFunctionEnv_cells S.kind hkind fun env he s1 x=>?_
 subst he
 refine ⟨lim.keeps x.toInCall.keep,codeAny_func ?_⟩
 obtain ⟨t,ht,hq⟩:=hbody A outer s H vs Q E ea (hr.deeper _) hh hsp
 have I:Inv (cxOfU P w K mg base N qual scope f cdv A outer s H E) [] (start N vs) H s1:=zgG S e0 hl r x
 refine wpAny_mono (ht [] s1 (start N vs) H _ I hq) (fun fl s' hs=>?_) fun e s' hs=>hs.elim
 have fin:∀ {σ':St} {H':Hp} {v:V} {u:Value},Inv (cxOfU P w K mg base N qual scope f cdv A outer s H E) [] σ' H' s'→RelV v u→Q v H'→CE outer P w H s Q u s':=
  fun {σ' H' v u} J rv q=>⟨v,H',J.os,J.bare,J.base,J.hok,rv,q⟩
 cases fl with
 |ret u=>
  obtain ⟨v,σ',H',J,rv,q⟩:=hs
  exact fin J rv q
 |next=>
  obtain ⟨σ',H',J,q⟩:=hs
  exact fin (v:=V.non) (u:=Value.none) J rfl q
 |brk=>
  obtain ⟨_,_,_,q⟩:=hs
  exact False.elim q
 |cont=>
  obtain ⟨_,_,_,q⟩:=hs
  exact False.elim q
section
variable {X:Cx}{k:Nat}{f:Addr}{fd:FuncData}{ps:List Str}{sp:Addr→Sp}{ds:List Value}{dvs:List V}{ea:Addr}{x:Str}{p pos:Pos}{e:Expr}{es:List Expr}{t:TA}
theorem zi3 (F:FnOkU X.prog X.w X.K X.mg X.base k f fd ps sp) (hr:RoomU k X.A) (hh:X.A.handled=some (.ref ea)) (hg:Gl X x) (hm:X.mg x=some (.ref f)) (hk:W.keepIn X.K (.ref f)=true) (hb:Binds X.K fd ps ds) (hd:Vals dvs ds)
  (ha:PA X (e::es) t) (hdb:(x==("__debug__":Str))=false:=by decide) (he:starEach (e::es) X.env=(false,eval e X.env)::starEach es X.env:=by rfl) (hpl:(backTo pos (starEach es X.env)).any (·.1)=false:=by rfl) :
  PE X (.Call (.Name x p) (e::es) [] pos) (fun σ H Q=>t σ H fun vs H1=>sp ea (vs++dvs) H1 Q E0):=by
 intro pins s σ H Q I h
 refine wpAny_Call_Name_kw (zci I hg hm ?_ hdb)
 refine W.callWith_K (h₀:=X.base) I.ok.mod.kin hk (thn (ha pos pins s σ H _ I h) fun us s1 q=>?_) he hpl
 obtain ⟨vs,H1,I1,r,q⟩:=q
 refine ⟨I1.kIn,?_⟩
 have r2:Vals (vs++dvs) (us++ds):=r.append hd
 have hl:(us++ds).length=ps.length:=by rw[←r2.length];exact F.len _ _ _ _ _ q
 refine wpAny_call (codeAny_mono (F.run X.A X.stack s1 H1 ⟨us,[]⟩ (us++ds) (vs++dvs) Q E0 ea hr hh I1.env0 (hb s1 us I1.kIn hl) r2 q) fun r s' hq=>?_)
 cases r with
 |error e=>exact hq.elim
 |ok fl=>
  cases fl with
  |ret u=>exact I1.after hq
  |next=>exact False.elim hq
  |brk=>exact False.elim hq
  |cont=>exact False.elim hq
end
section
variable {P:Program}{w:World}{K:W.Frag}{mg:Str→Option Value}{base:Heap}
theorem Fun.okU {x qual:Str}{st:Stmt}{f:Addr}{fd:FuncData}{N ps:List Str}{k:Nat}{sp:Addr→Sp}(F:Fun K x qual st f fd) (S:zav N ps (zag st)) (len:∀ea vs H Q E,sp ea vs H Q E→vs.length=ps.length)
  (hbody:∀(cdv:Value) (A:Around) (outer:List Env) (s:Shared) (H:Hp) (vs:List V) (Q:VK) (E:XK) (ea:Addr),RoomU k (A.deeper (envOfC qual (zag st) s.heap.objs.size f cdv))→A.handled=some (.ref ea)→sp ea vs H Q E →
   ∃t,PSs (cxOfU P w K mg base N qual (zag st) f cdv A outer s H E) (zba st) t∧t { nx:=fun _ H'=>Q .non H',rt:=Q } (start N vs) H):FnOkU P w K mg base (k+1) f fd ps sp:=by
 obtain ⟨oc,od,kV,doc,pm,an,cdv,ct,osl,rfl,lk,hcd⟩:=F.ex
 refine zln lk hcd S len fun A outer s H vs Q E ea hr hh hsp=>?_
 exact hbody cdv A outer s H vs Q E ea hr hh hsp
end
open PySem.W (findIn findObj mroIn InstAt looks_findIn looks_find looks_mroIn class_get)
section
variable {prog:Program}{w:World}{A:Around}{E:Value→Shared→Prop}{s:Shared}{K:W.Frag}{a C:Addr}{ox:Obj}{odo:Option Obj}
theorem zkm {nm:Value}{Q:Unit→Shared→Prop}(X:K.In s.heap) (I:InstAt s.heap a ox C odo) (hb:mroIn K C (.type "BaseException")=some true) (h:Q () s) :
  wpAny (model prog w) A (checkBuiltinCall "BaseException.__getattribute__" ⟨[.ref a,nm],[]⟩) Q E s:=by
 obtain ⟨hh,g,d,t,os⟩:=s
 have LI:W.Looks (model prog w) hh (isInstance (.ref a) (.type "BaseException")) true:=(I.type (M:=model prog w)).andThen (looks_mroIn (M:=model prog w) X hb)
 have hkd:builtinKind "BaseException.__getattribute__"=some .slot:=by decide +kernel
 have hsp:splitId "BaseException.__getattribute__"=some ("BaseException","__getattribute__"):=by decide +kernel
 have har:=F.args_bexc_ga (.ref a) nm
 simp only[checkBuiltinCall,hkd,hsp]
 refine wpAny_bind (LI.at ?_)
 repeat (first|wp_step)
 exact h
theorem zhB {Q:Option Value→Shared→Prop}(X:K.In s.heap) (I:InstAt s.heap a ox C odo) (hga:findIn K (.ref C) "__getattribute__"=some (some (.builtin "BaseException.__getattribute__"))) (hk:findIn K (.ref C) "__getattr__"=some none)
  (hf:findObj K C odo "__class__"=some (.bind (.builtin "getset_descriptor.__get__") (.builtin "object.__class__"))) (hb:mroIn K C (.type "BaseException")=some true) (hm:mroIn K C (.type "object")=some true)
  (h:Q (some (.ref C)) { s with toks:=s.toks+1 }):wpAny (model prog w) A (getAttr? (.ref a) "__class__") Q E s:=by
 obtain ⟨hh,g,d,t,os⟩:=s
 have L0:=I.type (M:=model prog w)
 have L1:=looks_findIn (M:=model prog w) X hga
 have L2:=looks_find (M:=model prog w) X I hf
 have L3:=looks_findIn (M:=model prog w) X hk
 have L4:=looks_mroIn (M:=model prog w) X hb
 unfold getAttr? getAttrBy? getAttrBy
 refine wpAny_bind (wpAny_mkText (wpAny_bind (wpAny_attempt (wpAny_holding (wpAny_bind (L0.at (wpAny_bind (L1.at ?_))))))))
 dsimp only
 rw[if_neg (by rw[show (Value.builtin "BaseException.__getattribute__"==Value.builtin "object.__getattribute__")=false from by decide +kernel];simp)]
 unfold getAttrByItsOwn hookBefore
 rw[if_pos (show onTheHeap (Value.ref C)=true from rfl)]
 refine wpAny_bind (L3.at (wpAny_bind (wpAny_attempt (wpAny_holding ?_))))
 unfold callGetattribute
 rw[if_neg (by simp)]
 unfold boundAndCalled
 have fb:=F.attrBase_ValueError.ga.bind (.ref a)
 rw[fb]
 refine wpAny_bind (wpAny_pure ?_)
 show wpAny _ _ (call (.builtin "BaseException.__getattribute__") [.ref a,.str "__class__" t]) _ _ _
 refine wpAny_call (codeAny_call_builtin F.attrBase_ValueError.ga.plain F.entry_bexc_ga (zkm (s:={ heap:=hh,gens:=g,drawn:=d,toks:=t+1,os:=os }) X I hb ?_))
 unfold Builtin.«object.__getattribute__»
 refine wpAny_bind (wpAny_pure (wpAny_bind (wpAny_pure (wpAny_bind (L0.at (wpAny_bind (L2.at ?_)))))))
 show wpAny _ _ (holding [Value.builtin "object.__class__"] (call (.builtin "getset_descriptor.__get__") [.builtin "object.__class__",.ref a,.ref C]) >>= ret) _ _ _
 refine wpAny_bind (wpAny_holding (wpAny_call (class_get (s:={ heap:=hh,gens:=g,drawn:=d,toks:=t+1,os:=os }) (ox:=ox) (od:=odo) X I hm ?_)))
 unfold ret
 refine wpAny_pure ?_
 exact W.handed_on rfl (wpAny_pure h)
end
open PySem.W (findIn findObj mroIn InstAt clsIn specialIn takesIn KitX)
structure ExCls (K:W.Frag) (C:Addr):Prop where
 cls:(clsIn K C).isSome=true
 ga:findIn K (.ref C) "__getattribute__"=some (some (.builtin "BaseException.__getattribute__"))
 gx:findIn K (.ref C) "__getattr__"=some none
 at_:findIn K (.ref C) "__class__"=some (some (.builtin "object.__class__"))
 get:specialIn K (.builtin "object.__class__") "__get__"=some (some (.builtin "getset_descriptor.__get__"))
 tk:takesIn K (.builtin "object.__class__")=some true
 bex:mroIn K C (.type "BaseException")=some true
 obj:mroIn K C (.type "object")=some true
theorem ExCls.is {K:W.Frag}{C:Addr}{h:Heap}(x:ExCls K C) (X:K.In h):∃o cd,h.get? C=some o∧o.data=.cls cd:=by
 have e:=x.cls
 unfold clsIn at e
 split at e
 ·next c d cd sl ho=>exact ⟨_,cd,X _ _ ho,rfl⟩
 ·cases e
theorem ExCls.find {K:W.Frag}{C:Addr}(x:ExCls K C):findObj K C none "__class__"=some (.bind (.builtin "getset_descriptor.__get__") (.builtin "object.__class__")):=by
 obtain ⟨cd,hc⟩:=Option.isSome_iff_exists.mp x.cls
 unfold findObj
 simp[hc,x.at_,x.get,x.tk]
theorem zi4 {K:W.Frag}{a C:Addr}(x:ExCls K C):KitX K (.ref a) (.ref C) (fun h=>∃ox,InstAt h a ox C none) where
 ty:=fun M h X I=>by
  obtain ⟨ox,I⟩:=I
  exact I.type
 it:=fun M h X I=>by
  obtain ⟨o,cd,e,d⟩:=x.is X
  obtain ⟨oc,od,oda,osl⟩:=o
  dsimp only at d
  subst d
  intro A Q E s k q
  unfold isType loadHead
  exact wpAny_bind (wpAny_loadPart (k _ _ e) (wpAny_pure q))
 ne:=fun h tp dd its n sl X htp=>by
  obtain ⟨o,cd,e,d⟩:=x.is X
  refine Bool.eq_false_iff.mpr fun q=>?_
  have z:C=tp:=Value.ref.inj (beq_iff_eq.mp q)
  subst z
  rw[e] at htp
  cases htp
  cases d
 ca:=fun X I k=>by
  obtain ⟨ox,I⟩:=I
  exact zhB X I x.ga x.gx x.find x.bex x.obj k
theorem zi5 {P:Program}{w:World}{H:Hp}{h:Heap}{a C:Addr}(x:ObjOk P w H h a (exH a (.ref C))):∃ox,InstAt h a ox C none:=by
 obtain ⟨⟨o,vs,e,c,d,_,dn⟩,_⟩:=x
 obtain ⟨oc,od,oda,osl⟩:=o
 dsimp only at c d dn
 subst c d dn
 exact ⟨_,e,rfl,rfl,trivial⟩
def rIsX (K:W.Frag):List V→Hp→VK→Prop:=fun xs H Q=>∃ea C d b,∃c:Value,xs=[.ref ea,d]∧RelV d c∧(∀c',RelV d c'→c'=c)∧H ea=some (exH ea (.ref C))∧ExCls K C∧W.kitOne K (.ref C) c=some b∧Q (.bl b) H
theorem zf9 {X:Cx}:CallR X (.builtin "isinstance") (rIsX X.K):=by
 intro pins s σ H xs us Q I r h
 obtain ⟨ea,C,d,b,c,rfl,rd,un,hea,ex,e,q⟩:=h
 obtain ⟨u,u2,rfl,ru,rt⟩:=vals2 r
 cases (show u=Value.ref ea from ru)
 rw[un u2 rt]
 exact W.kia_one (zi4 ex) I.kIn (zi5 (I.hok ea _ hea)) e (fun z=>nomatch z) fun tk=>⟨.bl b,H,I.tok tk,rfl,q⟩
section
variable {X:Cx}{e:Expr}{tx:TEX}{pos:Pos}
end
section
variable {X:Cx}{elt tg iter:Expr}{ifs:List Expr}{sc:Scope}{pos:Pos}{ti:TE}
end
structure ErrC (K:W.Frag) (cN:Addr) (cs:List Addr) (C:Addr) (bs:List Bool):Prop where
 ex:W.excIn K C bmVE "ValueError.__new__"=true
 xc:ExCls K C
 m:W.exmOne K (.ref C) (.ref cN)=some true
 ks:cs.map (fun c=>W.kitOne K (.ref C) (.ref c))=bs.map some
 kv:W.kitOne K (.ref C) (.type "ValueError")=some true
def errB (K:W.Frag) (cN:Addr) (cs:List Addr) (C:Addr) (bs:List Bool):Bool:=
 W.excIn K C bmVE "ValueError.__new__"&&(W.clsIn K C).isSome&&W.findIn K (.ref C) "__getattribute__"==some (some (.builtin "BaseException.__getattribute__"))&&W.findIn K (.ref C) "__getattr__"==some none &&
 W.findIn K (.ref C) "__class__"==some (some (.builtin "object.__class__"))&&W.specialIn K (.builtin "object.__class__") "__get__"==some (some (.builtin "getset_descriptor.__get__"))&&W.takesIn K (.builtin "object.__class__")==some true &&
 W.mroIn K C (.type "BaseException")==some true&&W.mroIn K C (.type "object")==some true&&W.exmOne K (.ref C) (.ref cN)==some true&&cs.map (fun c=>W.kitOne K (.ref C) (.ref c))==bs.map some&&W.kitOne K (.ref C) (.type "ValueError")==some true
theorem zkn {K:W.Frag}{cN:Addr}{cs:List Addr}{C:Addr}{bs:List Bool}(h:errB K cN cs C bs=true):ErrC K cN cs C bs:=by
 unfold errB at h
 simp only[Bool.and_eq_true,beq_iff_eq] at h
 obtain ⟨⟨⟨⟨⟨⟨⟨⟨⟨⟨⟨h1,h2⟩,h3⟩,h4⟩,h5⟩,h6⟩,h7⟩,h8⟩,h9⟩,h10⟩,h11⟩,h12⟩:=h
 exact ⟨h1,⟨h2,h3,h4,h5,h6,h7,h8,h9⟩,h10,h11,h12⟩
theorem FnOk.or {P:Program}{w:World}{K:W.Frag}{mg:Str→Option Value}{base:Heap}{CX:CXT}{k:Nat}{f:Addr}{fd:FuncData}{ps:List Str}{sp sp':Sp}(F:FnOk P w K mg base CX k f fd ps sp) (F':FnOk P w K mg base CX k f fd ps sp') :
  FnOk P w K mg base CX k f fd ps (fun vs H Q E=>sp vs H Q E∨sp' vs H Q E):=by
 refine ⟨fun vs H Q E h=>h.elim (F.len vs H Q E) (F'.len vs H Q E),fun A outer s H args us vs Q E hr e0 hb hv h=>?_⟩
 rcases h with h|h
 ·exact F.run A outer s H args us vs Q E hr e0 hb hv h
 ·exact F'.run A outer s H args us vs Q E hr e0 hb hv h
theorem FnOk.never {P:Program}{w:World}{K:W.Frag}{mg:Str→Option Value}{base:Heap}{CX:CXT}{k:Nat}{f:Addr}{fd:FuncData}{ps:List Str}:FnOk P w K mg base CX k f fd ps (fun _ _ _ _=>False):=
 ⟨fun _ _ _ _ h=>h.elim,fun _ _ _ _ _ _ _ _ _ _ _ _ _ h=>h.elim⟩
theorem FnOk.up {P:Program}{w:World}{K:W.Frag}{mg:Str→Option Value}{base:Heap}{CX:CXT}{j k:Nat}{f:Addr}{fd:FuncData}{ps:List Str}{sp:Sp}(F:FnOk P w K mg base CX j f fd ps sp) (h:j≤k):FnOk P w K mg base CX k f fd ps sp:=
 ⟨F.len,fun A outer s H args us vs Q E hr=>F.run A outer s H args us vs Q E (hr.mono h)⟩
end L2
namespace T1
open PySem PySem.Spec PyProof.Rows L2
variable {P:Program}{w:World}{K:W.Frag}{mg:Str→Option Value}{base:Heap}
theorem zdU {X:Cx}(hr:Room 5 X.A):OpR X (compareOp .Eq) (rSame true):=by
 intro pins s σ H x y v u Q I rx ry h
 obtain ⟨z,z',ds,r1,r2,dp,q⟩:=h
 cases r1 with
 |@lst a xs _ ha _ r1=>
  cases r2 with
  |@lst b ys _ hb _ r2=>
   cases rx
   cases ry
   obtain ⟨its,q1,p1,_⟩:=I.list (SqL.of ha)
   obtain ⟨its2,q2,p2,_⟩:=I.list (SqL.of hb)
   have l1:=q1.length
   have l2:=q2.length
   have e1:=r1.length
   have e2:=r2.length
   have hsz:its.toArray.size=its2.toArray.size:=by simp;omega
   show wpAny _ _ (richCompare .Eq _ _) _ _ _
   refine SeqAt.RcAt.lists (e:=fun _=>true) p1.isList p2.isList hsz hr.units0 (fun j h1 h2=>zhj I 4 (dp.get (i:=j) (by rw[←e1,l1];simpa using h1)) hr.in1 (r1.get (i:=j) (by rw[←e1,l1];simpa using h1)) (r2.get (i:=j) (by rw[←e2,l2];simpa using h2)) (zbX q1 h1) (zbX q2 h2)) _ _ _ _ ?_
   have e:((List.range its.toArray.size).all (fun _=>true))=true:=by simp
   rw[e]
   exact ⟨.bl _,H,I,rfl,q⟩
def zdz (c:Nat):Bool:=decide (33≤c)&&decide (c≤126)&&!decide (c=37)
def escD:D→Bool
 |.str x=>decide (x.length≤1)&&(decide (x.length=0) || zdz (x.cps.getD 0 0))
 |_=>false
def markS (x:Str):Bool:=decide (1≤x.length)&&decide (x.length≤4)&&x.cps.toList.all fun c=>decide (c=10) || zdz c
instance:Inhabited D:=⟨.non⟩
end T1
namespace L2
open PySem PySem.Spec PyProof.Rows
end L2
namespace T1
open PySem L2
variable {P:Program}{w:World}{K:W.Frag}{mg:Str→Option Value}{base:Heap}
abbrev Dr:=Str×Int×Str
abbrev Tg:=Str×List Dr
abbrev Bk:=List Tg
def drD (d:Dr):D:=.tup [.str d.1,.int d.2.1,.str d.2.2]
def tgD (t:Tg):D:=.tup [.str t.1,.tup (t.2.map drD)]
def bkD (b:Bk):D:=.tup (b.map tgD)
def DrOk (n:Int) (d:Dr):Prop:=markS d.1=true∧(0≤d.2.1∧d.2.1<n)∧markS d.2.2=true
def TgOk (n:Int) (t:Tg):Prop:=escD (.str t.1)=true∧t.2.length≤6∧∀d∈t.2,DrOk n d
section
variable {z:Addr}{H:Hp}
theorem zbs {v:V}{d:Dr}(r:Rep z H v (drD d)):∃a,v=.ref a∧a≠z∧H a=some (.tup [.str d.1,.int d.2.1,.str d.2.2]):=by
 cases r with
 |tup h hz r=>
  cases r with
  |cons r1 r=>
   cases r with
   |cons r2 r=>
    cases r with
    |cons r3 r=>
     cases r
     cases r1
     cases r2
     cases r3
     exact ⟨_,rfl,hz,h⟩
theorem zhC {v:V}{ds:List Dr}(r:Rep z H v (.tup (ds.map drD))):∃a xs,v=.ref a∧a≠z∧H a=some (.tup xs)∧xs.length=ds.length∧Reps z H xs (ds.map drD):=by
 cases r with
 |tup h hz r=>exact ⟨_,_,rfl,hz,h,by have:=r.length;simpa using this,r⟩
theorem zaY {v:V}{t:Tg}(r:Rep z H v (tgD t)):∃a b xs,v=.ref a∧a≠z∧b≠z∧H a=some (.tup [.str t.1,.ref b])∧H b=some (.tup xs)∧xs.length=t.2.length∧Reps z H xs (t.2.map drD):=by
 cases r with
 |tup h hz r=>
  cases r with
  |cons r1 r=>
   cases r with
   |cons r2 r=>
    cases r
    cases r1
    obtain ⟨b,xs,rfl,hb,h2,h3,h4⟩:=zhC r2
    exact ⟨_,b,xs,rfl,hz,hb,h,h2,h3,h4⟩
theorem zb9 {v:V}{b:Bk}(r:Rep z H v (bkD b)):∃a xs,v=.ref a∧a≠z∧H a=some (.tup xs)∧xs.length=b.length∧Reps z H xs (b.map tgD):=by
 cases r with
 |tup h hz r=>exact ⟨_,_,rfl,hz,h,by have:=r.length;simpa using this,r⟩
theorem zbe {xs:List V}{ds:List Dr}{i:Nat}(r:Reps z H xs (ds.map drD)) (hi:i<ds.length):Rep z H (xs.getD i .non) (drD (ds.getD i (⟨#[]⟩,0,⟨#[]⟩))):=by
 have:=r.get (i:=i) (by simpa using hi)
 simpa [hi] using this
theorem zaL {xs:List V}{b:Bk}{i:Nat}(r:Reps z H xs (b.map tgD)) (hi:i<b.length):Rep z H (xs.getD i .non) (tgD (b.getD i (⟨#[]⟩,[]))):=by
 have:=r.get (i:=i) (by simpa using hi)
 simpa [hi] using this
end
def zaD (ds:List Dr):List Str:=ds.map (·.1)
abbrev dr0:Dr:=(⟨#[]⟩,0,⟨#[]⟩)
abbrev tg0:Tg:=(⟨#[]⟩,[])
def zjN (ds:List Dr):List Str:=ds.flatMap fun d=>[d.1,d.2.2]
def zga (b:Bk):List Str:=b.flatMap fun t=>zjN t.2
end T1
namespace L2
open PySem PySem.Spec PyProof.Rows
end L2
namespace T1
open PySem L2
variable {P:Program}{w:World}{K:W.Frag}{mg:Str→Option Value}{base:Heap}
theorem zaI {α:Type}{xs:List α}{i:Nat}(d:α) (h:i<xs.length):xs.getD i d∈xs:=by
 have:xs.getD i d=xs[i]:=by simp[h]
 rw[this]
 exact List.getElem_mem h
def escIn (es:List Str) (m:Str):Bool:=m.cps.toList.any fun c=>es.any fun e=>e==(⟨#[c]⟩:Str)
def escB (b:Bk):Bool:=(zga b).any (escIn (b.map (·.1)))
end T1
namespace L2
open PySem PySem.Spec PyProof.Rows
theorem zhD {X:Cx}{sc:Scope}{cl:List (Str×Addr)}{N':List Str}{s:Shared}{H:Hp}{fp:List Addr}{o e:Expr}{es:List Expr}{to:TE}{t:TA}{name:Str}{apos cpos:Pos}{T id:String}{r:V→List V→Hp→VK→Prop}(pa:PlainAttrs T) (slot:Slot T name id) (hty:typeOf (.builtin id)=pure (.type "method_descriptor")) (hm:MtR (X.blk sc cl N' s H fp) id r) (ho:PE (X.blk sc cl N' s H fp) o to) (ha:PA (X.blk sc cl N' s H fp) (e::es) t)
  (hbase:attributeBase o name (X.blk sc cl N' s H fp).env (eval o (X.blk sc cl N' s H fp).env)=eval o (X.blk sc cl N' s H fp).env:=by rfl)
  (hfew:((backTo cpos (starEach (e::es) (X.blk sc cl N' s H fp).env)).all (fun x=>!x.1)&&(backToKw cpos (keywordEach [] (X.blk sc cl N' s H fp).env)).all (fun x=>x.1.isSome)
   && decide ((e::es).length+([]:List Keyword).length+(if ([]:List Keyword).isEmpty then 0 else 1)<30))=true:=by rfl)
  (hline:(apos.endLine==cpos.line)=true:=by rfl) (hs:starEach (e::es) (X.blk sc cl N' s H fp).env=(false,eval e (X.blk sc cl N' s H fp).env)::starEach es (X.blk sc cl N' s H fp).env:=by rfl) (hplain:(backTo cpos (starEach es (X.blk sc cl N' s H fp).env)).any (·.1)=false:=by rfl) :
  PE (X.blk sc cl N' s H fp) (.Call (.Attribute o name apos) (e::es) [] cpos) (tBM X.K T r to t):=zbU pa slot hty hm ho ha hbase hfew hline hs hplain
end L2
namespace T1
open PySem L2
variable {P:Program}{w:World}{K:W.Frag}{mg:Str→Option Value}{base:Heap}
def zhE (ds:List Dr) (t:Int):List Str:=ds.filterMap fun d=>if d.2.1=t then some d.2.2 else none
def zhF (b:Bk) (t:Int):List Str:=b.flatMap fun g=>zhE g.2 t
def zem (b:Bk) (t:Nat):Bool:=(b.getD t tg0).2.any fun d=>(zhF b t).any fun c=>stAt d.1 c 0
def bookB (b:Bk):Bool:=(b.all fun t=>decide (zaD t.2).Nodup)&&!escB b&&!((List.range b.length).any fun t=>zem b t)
theorem zff {f:Nat→Option V}:∀n,(flatN (fun i=>(f i).toList) n).isEmpty=(List.range n).all fun i=>(f i).isNone
 |0=>rfl
 |n+1=>by
  rw[List.range_succ,List.all_append,←zff n]
  simp only[flatN,List.all_cons,List.all_nil,Bool.and_true]
  cases f n<;>simp
theorem zdV (x:Str) (h:x.length≤1):(x=Str.ofString ""∧escD (.str x)=true)∨∃c,x=⟨#[c]⟩∧escD (.str x)=zdz c:=by
 obtain ⟨cs⟩:=x
 have h:cs.size≤1:=h
 by_cases h0:cs.size=0
 ·have:cs=#[]:=Array.eq_empty_of_size_eq_zero h0
  subst this
  exact .inl ⟨by decide +kernel,by decide +kernel⟩
 ·obtain ⟨c,hc⟩:=Array.size_eq_one_iff.mp (show cs.size=1 by omega)
  subst hc
  exact .inr ⟨c,rfl,rfl⟩
def Bag (z:Addr) (H:Hp):Prop:=∃c s:Int,H z=some (.lst [.int c,.int s])
def Aft (z:Addr) (H H':Hp):Prop:=SameX z H H'∧Bag z H'
theorem Aft.trans {z:Addr}{H H1 H2:Hp}(a:Aft z H H1) (b:Aft z H1 H2):Aft z H H2:=⟨a.1.trans b.1,b.2⟩
theorem Aft.same {z:Addr}{H H1 H2:Hp}(a:Aft z H H1) (b:Same H1 H2):Aft z H H2:=⟨a.1.trans b.x,let ⟨c,s,h⟩:=a.2;⟨c,s,b _ _ h⟩⟩
theorem Aft.refl {z:Addr}{H:Hp}(h:Bag z H):Aft z H H:=⟨.refl,h⟩
inductive zc5:List V→Hp→VK→XK→Prop where
 |mk {vs:List V} {H:Hp} {Q:VK} {E:XK} (z:_) (n:Int) (c1:vs=[.ref z,.int n]) (c2:Bag z H) (c3:0<n) (c4:n<1000000) (c5:∀(r:Nat) H',(r:Int)<n→Aft z H H'→Q (.int r) H'):zc5 vs H Q E
structure Txt2 (mg:Str→Option Value):Prop where
 list:mg "list"=none
 set:mg "set"=none
 min:mg "min"=none
inductive spBag (K:W.Frag):List V→Hp→VK→XK→Prop where
 |mk {vs:List V} {H:Hp} {Q:VK} {E:XK} (a:_) (ns:List Int) (i:Nat) (c1:vs=[.ref a,.int i]) (c2:SqL K H a (ns.map V.int)) (c3:i≤100) (c4:∀p H',H p=none→Same H H'→Bag p H'→Q (.ref p) H'):spBag K vs H Q E
def zen (x:Str):Prop:=∀c∈x.cps.toList,(decide (c=10) || zdz c)=true
inductive spMk:List V→Hp→VK→XK→Prop where
 |mk {vs:List V} {H:Hp} {Q:VK} {E:XK} (z x:_) (c1:vs=[.ref z,.str x]) (c2:Bag z H) (c3:1≤x.length) (c4:x.length≤100) (c5:zen x) (c6:∀m H',markS m=true→Aft z H H'→Q (.str m) H'):spMk vs H Q E
theorem zbj (x y:Str):(x++y).length=x.length+y.length:=by
 show (x.cps++y.cps).size=_
 rw[Array.size_append];rfl
theorem zbv (x y:Str):(x++y).cps.toList=x.cps.toList++y.cps.toList:=by
 show (x.cps++y.cps).toList=_
 rw[Array.toList_append]
def inEsc (e:Str) (d:Dr):Bool:=!(Builtin.Str.occurrences (d.1++Str.ofString " "++d.2.2) e 0 (d.1++Str.ofString " "++d.2.2).length 1).isEmpty
def fit1 (t o:Tg):Bool:=!((!decide (V.str t.1=V.str (Str.ofString "")))&&o.2.any (inEsc t.1))
def fit3 (b:Bk) (d:Dr):Bool:=!((b.getD d.2.1.toNat tg0).2.any fun o=>stAt o.1 d.2.2 0)
def fitT (b:Bk) (t:Tg):Bool:=b.all (fit1 t)&&decide (zaD t.2).Nodup&&t.2.all (fit3 b)
def fitsB (b:Bk):Bool:=b.all (fitT b)
theorem zhG {α:Type}(xs:List α) (d:α) (p:α→Bool) (h:∀j,j<xs.length→p (xs.getD j d)=true):xs.all p=true:=by
 rw[List.all_eq_true]
 intro x hx
 obtain ⟨i,hi,rfl⟩:=List.mem_iff_getElem.mp hx
 have:=h i hi
 simpa [hi] using this
theorem zhH {α:Type}(xs:List α) (d:α) (p:α→Bool){i:Nat}(hi:i<xs.length) (h:p (xs.getD i d)=false):xs.all p=false:=by
 rw[List.all_eq_false]
 refine ⟨xs[i],List.getElem_mem hi,?_⟩
 have:xs.getD i d=xs[i]:=by simp[hi]
 rw[←this,h]
 simp
theorem zfg {α:Type}(ds:List α) (d:α) (p:α→Bool) (g:Nat→V){n:Nat}(hn:n=ds.length):(flatN (fun i=>(if p (ds.getD i d) then some (g i) else none).toList) n).isEmpty=!(ds.any p):=by
 subst hn
 rw[zff,Bool.eq_iff_iff,List.all_eq_true,Bool.not_eq_true',List.any_eq_false]
 constructor
 ·intro h x hx hp
  obtain ⟨i,hi,rfl⟩:=List.mem_iff_getElem.mp hx
  have h2:=h i (List.mem_range.mpr hi)
  have e:ds.getD i d=ds[i]:=by simp[hi]
  rw[e,if_pos hp] at h2
  cases h2
 ·intro h i hi
  have hi:=List.mem_range.mp hi
  have h2:=h ds[i] (List.getElem_mem hi)
  have e:ds.getD i d=ds[i]:=by simp[hi]
  rw[e,if_neg h2]
  rfl
theorem zfh {c:Nat}(hc:zdz c=true) (d:Dr):inEsc ⟨#[c]⟩ d=true↔c∈d.1.cps.toList∨c∈d.2.2.cps.toList:=by
 unfold inEsc
 rw[StrLaws.found_iff]
 have e:(d.1++Str.ofString " "++d.2.2).cps.toList=d.1.cps.toList++[32]++d.2.2.cps.toList:=by
  rw[zbv,zbv]
  have:(Str.ofString " ").cps.toList=[32]:=by decide +kernel
  rw[this]
 have h32:c≠32:=by
  intro h
  subst h
  exact absurd hc (by decide)
 constructor
 ·rintro ⟨i,h⟩
  have h2:=(StrLaws.subAt_one _ _ _).mp h
  rw[e] at h2
  have:=List.mem_of_getElem? h2
  simp at this
  rcases this with h|h|h
  ·exact .inl (by simpa using h)
  ·exact absurd h h32
  ·exact .inr (by simpa using h)
 ·intro h
  have:c∈(d.1++Str.ofString " "++d.2.2).cps.toList:=by
   rw[e]
   simp
   rcases h with h|h
   ·exact .inl (by simpa using h)
   ·exact .inr (.inr (by simpa using h))
  obtain ⟨i,hi⟩:=List.mem_iff_getElem?.mp this
  exact ⟨i,(StrLaws.subAt_one _ _ _).mpr hi⟩
theorem zi6 (b:Bk):escB b=true↔∃t∈b,∃o∈b,∃d∈o.2,∃c,t.1=⟨#[c]⟩∧(c∈d.1.cps.toList∨c∈d.2.2.cps.toList):=by
 unfold escB escIn zga zjN
 simp only[List.any_eq_true,List.mem_flatMap,List.mem_cons,List.not_mem_nil,or_false,List.mem_map,beq_iff_eq]
 constructor
 ·rintro ⟨m,⟨o,ho,d,hd,hm⟩,c,hc,e,⟨t,ht,rfl⟩,he⟩
  refine ⟨t,ht,o,ho,d,hd,c,he,?_⟩
  rcases hm with rfl|rfl
  ·exact .inl hc
  ·exact .inr hc
 ·rintro ⟨t,ht,o,ho,d,hd,c,he,h|h⟩
  ·exact ⟨d.1,⟨o,ho,d,hd,.inl rfl⟩,c,h,t.1,⟨t,ht,rfl⟩,he⟩
  ·exact ⟨d.2.2,⟨o,ho,d,hd,.inr rfl⟩,c,h,t.1,⟨t,ht,rfl⟩,he⟩
theorem za3:(Str.ofString "")=⟨#[]⟩:=by decide +kernel
theorem zko {n:Int}{b:Bk}(hb:∀t∈b,TgOk n t):(∃t∈b,b.all (fit1 t)=false)↔escB b=true:=by
 rw[zi6]
 constructor
 ·rintro ⟨t,ht,h⟩
  rw[List.all_eq_false] at h
  obtain ⟨o,ho,h⟩:=h
  unfold fit1 at h
  simp only[Bool.not_eq_true',Bool.not_eq_false,Bool.and_eq_true,decide_eq_false_iff_not,List.any_eq_true] at h
  obtain ⟨h1,d,hd,h2⟩:=h
  have h1':t.1≠Str.ofString "":=fun z=>h1 (by rw[z])
  have hl:t.1.length≤1:=by
   have:=(hb t ht).1
   unfold escD at this
   simp at this
   exact this.1
  rcases zdV t.1 hl with ⟨ex,_⟩|⟨c,ex,ee⟩
  ·exact absurd ex h1'
  ·have hc:zdz c=true:=by rw[←ee];exact (hb t ht).1
   rw[ex] at h2
   exact ⟨t,ht,o,ho,d,hd,c,ex,(zfh hc d).mp h2⟩
 ·rintro ⟨t,ht,o,ho,d,hd,c,ex,h⟩
  refine ⟨t,ht,?_⟩
  rw[List.all_eq_false]
  refine ⟨o,ho,?_⟩
  have hc:zdz c=true:=by
   have:=(hb t ht).1
   rw[ex] at this
   exact this
  unfold fit1
  simp only[Bool.not_eq_true',Bool.not_eq_false,Bool.and_eq_true,decide_eq_false_iff_not,List.any_eq_true]
  refine ⟨fun z=>?_,d,hd,?_⟩
  ·have z':t.1=Str.ofString "":=by injection z
   rw[ex,za3] at z'
   simp at z'
  ·rw[ex]
   exact (zfh hc d).mpr h
theorem zkp {b:Bk}(hb:∀t∈b,TgOk b.length t):(∃t∈b,t.2.all (fit3 b)=false)↔((List.range b.length).any fun t=>zem b t)=true:=by
 unfold zem zhF zhE
 simp only[List.any_eq_true,List.mem_range,List.mem_flatMap,List.mem_filterMap]
 constructor
 ·rintro ⟨t,ht,h⟩
  rw[List.all_eq_false] at h
  obtain ⟨d,hd,h⟩:=h
  unfold fit3 at h
  simp only[Bool.not_eq_true',Bool.not_eq_false,List.any_eq_true] at h
  obtain ⟨o,ho,h⟩:=h
  obtain ⟨_,⟨h1,h2⟩,_⟩:=(hb t ht).2.2 d hd
  refine ⟨d.2.1.toNat,by omega,o,ho,d.2.2,⟨t,ht,d,hd,?_⟩,h⟩
  rw[if_pos (by omega)]
 ·rintro ⟨n,hn,o,ho,c,⟨t,ht,d,hd,hdc⟩,h⟩
  split at hdc
  ·rename_i e
   obtain rfl:d.2.2=c:=by simpa using hdc
   refine ⟨t,ht,?_⟩
   rw[List.all_eq_false]
   refine ⟨d,hd,?_⟩
   unfold fit3
   simp only[Bool.not_eq_true',Bool.not_eq_false,List.any_eq_true]
   refine ⟨o,?_,h⟩
   rw[e]
   simpa using ho
  ·cases hdc
theorem zhI {b:Bk}(hb:∀t∈b,TgOk b.length t):fitsB b=bookB b:=by
 have h1:=zko hb
 have h3:=zkp hb
 unfold bookB
 cases e1:escB b with
 |true=>
  obtain ⟨t,ht,h⟩:=h1.mpr e1
  simp only[Bool.not_true,Bool.and_false,Bool.false_and]
  unfold fitsB
  rw[List.all_eq_false]
  refine ⟨t,ht,?_⟩
  unfold fitT
  rw[h]
  simp
 |false=>
  cases e3:((List.range b.length).any fun t=>zem b t) with
  |true=>
   obtain ⟨t,ht,h⟩:=h3.mpr e3
   simp only[Bool.not_true,Bool.and_false]
   unfold fitsB
   rw[List.all_eq_false]
   refine ⟨t,ht,?_⟩
   unfold fitT
   rw[h]
   simp
  |false=>
   simp only[Bool.not_false,Bool.and_true]
   unfold fitsB
   rw[Bool.eq_iff_iff,List.all_eq_true,List.all_eq_true]
   have a1:∀t∈b,b.all (fit1 t)=true:=fun t ht=>by
    cases q:b.all (fit1 t) with
    |true=>rfl
    |false=>rw[h1.mp ⟨t,ht,q⟩] at e1;cases e1
   have a3:∀t∈b,t.2.all (fit3 b)=true:=fun t ht=>by
    cases q:t.2.all (fit3 b) with
    |true=>rfl
    |false=>rw[h3.mp ⟨t,ht,q⟩] at e3;cases e3
   constructor
   ·intro h t ht
    have:=h t ht
    unfold fitT at this
    rw[a1 t ht,a3 t ht,Bool.true_and,Bool.and_true] at this
    exact this
   ·intro h t ht
    unfold fitT
    rw[a1 t ht,a3 t ht,Bool.true_and,Bool.and_true]
    exact h t ht
end T1
namespace L2
open PySem PySem.Spec PyProof.Rows
def SqS (H:Hp) (a:Addr) (xs:List V):Prop:=H a=some (.tup xs)∨H a=some (.lst xs)
theorem SqS.same {H H':Hp}{a:Addr}{xs:List V}(h:SqS H a xs) (s:Same H H'):SqS H' a xs:=h.elim (fun h=>.inl (s _ _ h)) fun h=>.inr (s _ _ h)
theorem zhJ {K:W.Frag}{te te':TE}{a:Addr}{xs:List V}{g:TG}{tb:TS}{D:Ends}{σ:St}{H:Hp}(h:SqS H a xs) (he:∀R:VK,R (.ref a) H→te σ H R) (he':∀R:VK,R (.ref a) H→te' σ H R) (Pv:Nat→St→Hp→Prop) (h0:Pv 0 σ H) (hl:∀i σ H',Pv i σ H'→Same H H')
  (hs:∀i x σ H,xs[i]?=some x→Pv i σ H→g x σ H fun σ2 H2=>tb { D with nx:=Pv (i+1),ct:=Pv (i+1),bk:=D.nx } σ2 H2) (hd:∀σ H,Pv xs.length σ H→D.nx σ H) :
  tFor (fun σ H R=>iTup K te σ H R∨iList K te' σ H R) g tb D σ H:=by
 rcases h with h|h
 ·exact .inl (he _ ⟨a,rfl,⟨xs,SqT.of h⟩,zdm (K:=K) (a:=a) (xs:=xs) Pv h0 (fun i σ H' _ q=>SqT.of (hl i σ H' q _ _ h)) hs hd⟩)
 ·exact .inr (he' _ ⟨a,rfl,⟨xs,SqL.of h⟩,ziz (K:=K) (a:=a) (xs:=xs) Pv h0 (fun i σ H' _ q=>SqL.of (hl i σ H' q _ _ h)) hs hd⟩)
theorem zlE {K:W.Frag}{H:Hp}{a:Addr}{xs:List V}{j:Nat}{v:V}{Q:VK}(h:SqS H a xs) (hv:xs[j]?=some v) (q:Q v H):rIx K (.ref a) (.int j) H Q:=by
 rcases h with h|h
 ·exact .inr (.inl ⟨a,xs,j,v,rfl,rfl,SqT.of h,zah hv,q⟩)
 ·exact .inl ⟨a,xs,j,v,rfl,rfl,SqL.of h,zah hv,q⟩
end L2
namespace T1
open PySem L2
variable {P:Program}{w:World}{K:W.Frag}{mg:Str→Option Value}{base:Heap}
inductive zgb:List V→Hp→VK→XK→Prop where
 |mk {vs:List V} {H:Hp} {Q:VK} {E:XK} (z a xs b:_) (c1:vs=[.ref a]) (c2:SqS H a xs) (c3:Reps z H xs (b.map tgD)) (c4:b.length≤7) (c5:(∀t∈b,TgOk b.length t)) (c6:∀H',Same H H'→Q (.bl (fitsB b)) H'):zgb vs H Q E
theorem zaX {x:Str}(h:markS x=true):x.length≤4∧1≤x.length:=by
 unfold markS at h
 simp only[Bool.and_eq_true,decide_eq_true_eq] at h
 omega
theorem ndDE:(["door","escape"]:List Str).Nodup:=by decide +kernel
theorem ndD:(["door"]:List Str).Nodup:=by decide +kernel
theorem ndOD:(["one","door"]:List Str).Nodup:=by decide +kernel
end T1
namespace L2
open PySem PySem.Spec PyProof.Rows
section
variable {X:Cx}
def rCatX:R2:=fun x y H Q=>∃a b xs ys,x=.ref a∧y=.ref b∧H a=some (.tup xs)∧H b=some (.tup ys)∧xs.length+ys.length≤sizeLine∧∀p H',Same H H'→H' p=some (.tup (xs++ys))→Q (.ref p) H'
theorem zkq:OpR X (binaryOp .Add) rCatX:=by
 intro pins s σ H x y v u Q I rx ry h
 obtain ⟨a,b,xs,ys,rfl,rfl,ha,hb,hz,q⟩:=h
 by_cases hx:xs=[]
 ·subst hx
  cases rx
  cases ry
  obtain ⟨its,r1,p1,_⟩:=I.tuple (SqT.of ha)
  obtain ⟨its2,r2,p2,_⟩:=I.tuple (SqT.of hb)
  cases r1
  obtain ⟨⟨cls,dd,data,sl⟩,ho,hc,n,hd⟩:=id p1
  obtain ⟨⟨cls2,dd2,data2,sl2⟩,ho2,hc2,n2,hd2⟩:=id p2
  simp only at hc hd hc2 hd2
  subst hc hd hc2 hd2
  exact concat_meets ⟨_,ho,rfl⟩ ⟨_,ho2,rfl⟩ noFill_tuple_add seq_tuple_add PySem.F.slot_tuple_add PySem.F.entry_tuple_add (PySem.F.args_tuple_add_2 _ _)
   (tuple_addW0 a b _ its2.toArray n n2 dd dd2 sl sl2 (by simp)) ⟨ho,ho2,⟨.ref b,H,I,rfl,q b H (Same.refl H) hb⟩⟩
 ·refine zj7 pins s σ H _ _ v u Q I rx ry ⟨a,b,xs,ys,rfl,rfl,SqT.of ha,SqT.of hb,hx,hz,fun hy=>?_,fun hy p np=>q p _ (Same.new np) zab⟩
  refine q a H (Same.refl H) ?_
  rw[hy,List.append_nil]
  exact ha
end
end L2
namespace HT
open PySem PySem.Spec PyProof.Rows L2
section
variable {prog:Program}{w:World}{A:Around}{E:Value→Shared→Prop}{s:Shared}
end
end HT
namespace L2
open PySem PySem.Spec PyProof.Rows
section
variable {X:Cx}
end
section
variable {X:Cx}
theorem zgH {lo:Int}{n:Nat}{g:TG}{tr:TR}{Qe:St→Hp→Prop}{σ:St}{H:Hp}(Pv:Nat→St→Hp→Prop) (h0:Pv 0 σ H) (hs:∀i σ H,i<n→Pv i σ H→g (.int (lo+i)) σ H fun σ2 H2=>tr σ2 H2 (Pv (i+1))) (hd:∀σ H,Pv n σ H→Qe σ H):tLoop (Itr lo n) g tYes tr Qe σ H:=by
 refine ⟨fun i m σ H=>m=n-i∧i≤n∧Pv i σ H,⟨n,rfl,Nat.zero_le _,h0⟩,?_⟩
 rintro i m σ H ⟨rfl,hi,p⟩
 by_cases hlt:i<n
 ·refine .inr ⟨hlt,Pv (i+1),fun σ' H' p'=>⟨n-(i+1),by omega,rfl,hlt,p'⟩,fun x H' y=>?_⟩
  obtain ⟨e,y⟩:=y
  subst e y
  exact hs i σ _ hlt p
 ·have e:i=n:=by omega
  subst e
  exact .inl ⟨Nat.le_refl _,hd σ H p⟩
end
end L2
namespace T1
open PySem L2
variable {P:Program}{w:World}{K:W.Frag}{mg:Str→Option Value}{base:Heap}
def mask (a:Addr) (H:Hp):Hp:=fun x=>if x=a then none else H x
theorem zck {a x:Addr}{H:Hp}(h:x≠a):mask a H x=H x:=if_neg h
theorem zgc {a:Addr}{H:Hp}{o:HO}:mask a (upd H a o)=mask a H:=by
 funext x
 unfold mask upd
 by_cases h:x=a
 ·rw[if_pos h,if_pos h]
 ·rw[if_neg h,if_neg h,if_neg h]
theorem zbZ {a x:Addr}{H:Hp}{o:HO}(h:mask a H x=some o):x≠a∧H x=some o:=by
 unfold mask at h
 by_cases e:x=a
 ·rw[if_pos e] at h;cases h
 ·rw[if_neg e] at h;exact ⟨e,h⟩
theorem zlo {a z:Addr}{H H':Hp}(s:SameX z H H'):SameX z (mask a H) (mask a H'):=fun b o hb h=>by
 obtain ⟨h1,h2⟩:=zbZ h
 rw[zck h1]
 exact s b o hb h2
theorem zhK {a z:Addr}{H:Hp}:SameX z (mask a H) H:=fun b o _ h=>(zbZ h).2
theorem zgd {a l z:Addr}{H H':Hp}(hl:H l=none) (s:SameX z H H'):SameX z (mask a H) (mask l H'):=fun b o hb h=>by
 obtain ⟨h1,h2⟩:=zbZ h
 rw[zck (zad h2 hl)]
 exact s b o hb h2
theorem Reps.set {z:Addr}{H:Hp}{v:V}{d:D}(r:Rep z H v d):∀ {vs:List V}{ds:List D}(i:Nat),Reps z H vs ds→Reps z H (vs.set i v) (ds.set i d)
 |_,_,_,.nil=>.nil
 |_,_,0,.cons _ t=>.cons r t
 |_,_,i+1,.cons h t=>.cons h (Reps.set r i t)
theorem Reps.append {z:Addr}{H:Hp}:∀ {vs ws:List V}{ds es:List D},Reps z H vs ds→Reps z H ws es→Reps z H (vs++ws) (ds++es)
 |_,_,_,_,.nil,h=>h
 |_,_,_,_,.cons a t,h=>.cons a (Reps.append t h)
def LBk (z a:Addr) (b:Bk) (H:Hp):Prop:=a≠z∧∃vs,H a=some (.lst vs)∧Reps z (mask a H) vs (b.map tgD)
theorem LBk.aft {z a:Addr}{b:Bk}{H H':Hp}(L:LBk z a b H) (s:SameX z H H'):LBk z a b H':=by
 obtain ⟨ha,vs,h,r⟩:=L
 exact ⟨ha,vs,s _ _ ha h,r.mono (zlo s)⟩
theorem Bag.ne {z p:Addr}{H:Hp}(h:Bag z H) (np:H p=none):p≠z:=by
 obtain ⟨c,s,e⟩:=h
 exact (zad e np).symm
theorem Bag.neT {z p:Addr}{H:Hp}{xs:List V}(h:Bag z H) (np:H p=some (.tup xs)):p≠z:=by
 obtain ⟨c,s,e⟩:=h
 exact zan np e (by intro q;cases q)
theorem Aft.new {z p:Addr}{H H':Hp}{o:HO}(a:Aft z H H') (np:H' p=none):Aft z H (upd H' p o):=a.same (Same.new np)
theorem Aft.upd {z p:Addr}{H H':Hp}{o:HO}(a:Aft z H H') (np:H p=none) (hp:p≠z):Aft z H (L2.upd H' p o):=by
 refine ⟨fun b u hb e=>?_,?_⟩
 ·rw[zaj (zad e np)]
  exact a.1 b u hb e
 ·obtain ⟨c,s,e⟩:=a.2
  exact ⟨c,s,by rw[zaj hp.symm];exact e⟩
def BkOk (b:Bk):Prop:=1≤b.length∧b.length≤6∧(∀t∈b,TgOk b.length t)∧bookB b=true
inductive zge:List V→Hp→VK→XK→Prop where
 |mk {vs:List V} {H:Hp} {Q:VK} {E:XK} (z:_) (c1:vs=[.ref z]) (c2:Bag z H) (c3:∀v b H',Aft z H H'→Rep z H' v (bkD b)→BkOk b→Q v H'):zge vs H Q E
theorem pickH {H:Hp}{p:Addr}{l:List V}(h:H p=some (.lst l)){r:Nat}(hr:r<l.length):∃x,l[r]?=some x∧x∈l:=⟨l[r],by simp[hr],List.getElem_mem hr⟩
theorem Aft.none {z p:Addr}{H H':Hp}(a:Aft z H H') (np:H' p=none):H p=none:=by
 cases e:H p with
 |none=>rfl
 |some o=>
  rw[a.1 p o (a.2.ne np) e] at np
  cases np
theorem zkr {n j:Nat}(h:j<n):ixN n (j:Int)=some j:=by
 unfold ixN
 rw[if_pos (by omega),if_pos (by omega)]
 simp
theorem zgI {b:Bk}(h:∀t∈b,t.2=[]):fitsB b=true:=by
 unfold fitsB
 rw[List.all_eq_true]
 intro t ht
 unfold fitT
 rw[h t ht]
 have:b.all (fit1 t)=true:=by
  rw[List.all_eq_true]
  intro o ho
  unfold fit1
  rw[h o ho]
  simp
 rw[this]
 rfl
theorem ndTBE:(["tongue","bag","escapes"]:List Str).Nodup:=by decide +kernel
theorem Bag.same {z:Addr}{H H':Hp}(h:Bag z H) (s:Same H H'):Bag z H':=let ⟨c,e,q⟩:=h;⟨c,e,s _ _ q⟩
theorem Reps.take {z:Addr}{H:Hp}:∀ {vs:List V}{ds:List D}(k:Nat),Reps z H vs ds→Reps z H (vs.take k) (ds.take k)
 |_,_,0,_=>by simpa using Reps.nil
 |_,_,k+1,.nil=>by simpa using Reps.nil
 |_,_,k+1,.cons a t=>.cons a (Reps.take k t)
theorem Reps.drop {z:Addr}{H:Hp}:∀ {vs:List V}{ds:List D}(k:Nat),Reps z H vs ds→Reps z H (vs.drop k) (ds.drop k)
 |_,_,0,h=>h
 |_,_,k+1,.nil=>by simpa using Reps.nil
 |_,_,k+1,.cons a t=>Reps.drop k t
section
variable {z:Addr}
theorem zjO {xs:List V}{r:Nat}(h:r<xs.length):xs[r]?=some (xs.getD r .non):=by simp[h]
theorem za6:(1000:Nat)≤sizeLine:=by rw[sizeLine_eq];decide
end
section
variable {X:Cx}{es:List Expr}{te:TE}{t:TA}
theorem pa_K {c:Const}{k:Nat}{pos:Pos}(h:PE X (.Constant c k pos) te) (hr:PA X es t):PA X (.Constant c k pos::es) (tCons te t):=zaa h hr rfl
theorem pa_T {l:List Expr}{k:Nat}{pos:Pos}(h:PE X (.Tuple l k pos) te) (hr:PA X es t):PA X (.Tuple l k pos::es) (tCons te t):=zaa h hr rfl
theorem pa_L {l:List Expr}{pos:Pos}(h:PE X (.List l pos) te) (hr:PA X es t):PA X (.List l pos::es) (tCons te t):=zaa h hr rfl
theorem pa_B {o:Operator}{a b:Expr}{pos:Pos}(h:PE X (.BinOp a o b pos) te) (hr:PA X es t):PA X (.BinOp a o b pos::es) (tCons te t):=zaa h hr rfl
end
mutual
inductive NoL:D→Prop where
 |non:NoL .non
 |bl (b:Bool):NoL (.bl b)
 |int (i:Int):NoL (.int i)
 |str (x:Str):NoL (.str x)
 |tup {ds:List D} (t:NoLs ds):NoL (.tup ds)
inductive NoLs:List D→Prop where
 |nil:NoLs []
 |cons {d:D} {ds:List D} (h:NoL d) (t:NoLs ds):NoLs (d::ds)
end
mutual
theorem Rep.updL {z p:Addr}{H:Hp}{l l':List V}(hp:H p=some (.lst l)):∀ {v:V}{d:D},Rep z H v d→NoL d→Rep z (upd H p (.lst l')) v d
 |_,_,.non,_=>.non
 |_,_,.bl b,_=>.bl b
 |_,_,.int i,_=>.int i
 |_,_,.str x h,_=>.str x h
 |_,_,.tup h hz r,.tup t=>.tup (by rw[zaj (zan h hp (by intro q;cases q))];exact h) hz (Reps.updL hp r t)
theorem Reps.updL {z p:Addr}{H:Hp}{l l':List V}(hp:H p=some (.lst l)):∀ {vs:List V}{ds:List D},Reps z H vs ds→NoLs ds→Reps z (upd H p (.lst l')) vs ds
 |_,_,.nil,_=>.nil
 |_,_,.cons h t,.cons h' t'=>.cons (Rep.updL hp h h') (Reps.updL hp t t')
end
theorem NoLs.append:∀ {ds es:List D},NoLs ds→NoLs es→NoLs (ds++es)
 |_,_,.nil,h=>h
 |_,_,.cons a t,h=>.cons a (NoLs.append t h)
theorem zhL:∀ds:List Dr,NoLs (ds.map drD)
 |[]=>.nil
 |d::r=>.cons (.tup (.cons (.str _) (.cons (.int _) (.cons (.str _) .nil)))) (zhL r)
theorem zbp:∀b:Bk,NoLs (b.map tgD)
 |[]=>.nil
 |t::r=>.cons (.tup (.cons (.str _) (.cons (.tup (zhL t.2)) .nil))) (zbp r)
def top (i:Nat):Stmt:=PySem.Challenge.pw_tonguenest_k26_whole_hundreds_of_changes.main.body.getD i (.Pass ⟨0,0,0,0⟩)
abbrev zfF:Stmt:=top 12
abbrev sPoss:Stmt:=top 13
abbrev zdb:Stmt:=top 14
abbrev zhM:Stmt:=top 15
abbrev zfG:Stmt:=top 16
abbrev sStep:Stmt:=top 17
abbrev zhN:Stmt:=top 18
abbrev zdA:Stmt:=top 20
abbrev zcV:Stmt:=top 21
abbrev zca:Stmt:=top 23
abbrev sPage:Stmt:=top 26
abbrev lBag:Stmt:=top 28
abbrev lTake:Stmt:=top 29
abbrev lMk:Stmt:=top 30
abbrev lFits:Stmt:=top 31
abbrev lBook:Stmt:=top 32
abbrev zhO:Stmt:=top 33
abbrev lText:Stmt:=top 34
abbrev zcb:Stmt:=top 35
abbrev lStep:Stmt:=top 36
abbrev zhP:Stmt:=top 37
abbrev zhQ:Stmt:=top 38
abbrev zgf:Stmt:=top 39
abbrev zb0:Stmt:=top 40
abbrev lLaw:Stmt:=top 41
abbrev lamLn:Nat:=58
abbrev lamCl:Nat:=31
structure TxtB (mg:Str→Option Value):Prop where
 len:mg "len"=none
 ord:mg "ord"=none
 all_:mg "all"=none
 any_:mg "any"=none
 isinst:mg "isinstance"=none
 str:mg "str"=none
 int:mg "int"=none
 bool:mg "bool"=none
 tuple:mg "tuple"=none
 range:mg "range"=none
 sorted:mg "sorted"=none
 max:mg "max"=none
theorem scTake:zav ["bag","many","found"] ["bag","many"] (zag lTake):=⟨rfl,rfl,rfl,by decide +kernel,rfl,by decide +kernel,by decide +kernel⟩
theorem zks {f:Addr}{fd:FuncData}(F:Fun K "_law_take" "_law_take" lTake f fd):FnOk P w K mg base CX0 1 f fd ["bag","many"] zc5:=by
 refine F.ok scTake (fun vs H Q E h=>?_) (fun cdv A outer s H vs Q E hr h=>?_)
 ·obtain ⟨z,n,rfl,_⟩:=h
  rfl
 ·obtain ⟨z,n,rfl,⟨c,e,hz⟩,hn,hn2,k⟩:=h
  have nd:=scTake.nd
  refine ⟨_,zac (zaW (zaw ziB (zau ix_list (pv 0) zaf (fun _ _=>rfl)) zaf (zaz _))
    (zac (zap (i:=2) nd rfl (Or.inl rfl) (zaB zch (zau ix_list (pv 0) zaf (fun _ _=>rfl)) (pv 1)))
    (zac (zbq (zaB zd7 (zau ix_list (pv 0) zaf (fun _ _=>rfl)) (pv 1)) (zfW (pv 0) zaf zea))
    (zai (zax (pv 2))))) zaA)
   (zac (zbq (zaB zch (zaB zdn (zau ix_list (pv 0) zaf (fun _ _=>rfl)) zaf) zaf) (zfW (pv 0) zaf zea))
   (zai (zax (zaB zch (zaB zd7 (zaB zch (zaB zdn (zaB zd7 (zau ix_list (pv 0) zaf (fun _ _=>rfl)) zaf) (zaB zaQ (zaB zch (zau ix_list (pv 0) zaf (fun _ _=>rfl)) zaf) zaf)) zaf) zaf) (pv 1))))),?_⟩
  dsimp only[cxOf,Cx.nox,Cx.wish]
  refine ⟨_,rfl,z,_,0,_,rfl,rfl,SqL.of hz,zah (j:=0) rfl,_,_,rfl,rfl,_,rfl,?_⟩
  have ex:∀x:Int,∃r:Nat,x % n=(r:Int)∧(r:Int)<n:=fun x=>⟨(x % n).toNat,by have:=Int.emod_nonneg x (show n≠0 by omega);omega,by have:=Int.emod_lt_of_pos x hn;have:=Int.emod_nonneg x (show n≠0 by omega);omega⟩
  refine ite2 (fun h1=>?_) (fun h1=>?_)
  ·refine ⟨_,rfl,z,_,0,_,rfl,rfl,SqL.of hz,zah (j:=0) rfl,_,rfl,_,_,rfl,rfl,hn,?_⟩
   refine ⟨_,rfl,z,_,0,_,rfl,rfl,SqL.of hz,zah (j:=0) rfl,_,rfl,_,_,rfl,rfl,⟨hn,by omega⟩,?_⟩
   refine ⟨_,rfl,z,_,0,0,rfl,rfl,hz,rfl,?_⟩
   obtain ⟨r,er,hr1⟩:=ex c
   refine ⟨_,rfl,?_⟩
   have q:=k r (upd H z (.lst [.int (c / n),.int e])) hr1 ⟨SameX.refl.upd,⟨_,_,zab⟩⟩
   rw[←er] at q
   exact q
  ·refine ⟨_,rfl,z,_,1,_,rfl,rfl,SqL.of hz,zah (j:=1) rfl,_,_,rfl,rfl,.inr (by decide),_,_,rfl,rfl,(by show (0:Int)<_;decide),?_⟩
   refine ⟨_,rfl,z,_,1,1,rfl,rfl,hz,rfl,?_⟩
   refine ⟨_,rfl,z,_,1,_,rfl,rfl,SqL.of zab,zah (j:=1) rfl,_,_,rfl,rfl,⟨by decide,by decide⟩,_,rfl,z,_,1,_,rfl,rfl,SqL.of zab,zah (j:=1) rfl,_,_,rfl,rfl,(by show (0:Int)<_;decide),_,_,rfl,rfl,_,_,rfl,rfl,?_⟩
   refine ⟨.inr ?_,_,_,rfl,rfl,(by show (0:Int)<_;decide),_,_,rfl,rfl,⟨by decide,by decide⟩,_,rfl,_,_,rfl,rfl,hn,?_⟩
   ·have a1:=Int.emod_nonneg (e*48271 % 2147483647) (show (32749:Int)≠0 by decide)
    have a2:=Int.emod_lt_of_pos (e*48271 % 2147483647) (show (0:Int)<32749 by decide)
    omega
   ·obtain ⟨r,er,hr1⟩:=ex (e*48271 % 2147483647 / 13*(e*48271 % 2147483647 % 32749+17) % 2147483629 / 32)
    have q:=k r (upd H z (.lst [.int c,.int (e*48271 % 2147483647)])) hr1 ⟨SameX.refl.upd,⟨_,_,zab⟩⟩
    rw[←er] at q
    exact q
theorem scBag:zav ["script","k","cell","seed"] ["script","k"] (zag lBag):=⟨rfl,rfl,rfl,by decide +kernel,rfl,by decide +kernel,by decide +kernel⟩
theorem zlp {f:Addr}{fd:FuncData}(F:Fun K "_law_bag" "_law_bag" lBag f fd) (T:TxtB mg):FnOk P w K mg base CX0 1 f fd ["script","k"] (spBag K):=by
 refine F.ok scBag (fun vs H Q E h=>?_) (fun cdv A outer s H vs Q E hr h=>?_)
 ·obtain ⟨z,n,i,rfl,_⟩:=h
  rfl
 ·obtain ⟨a,ns,i,rfl,ha,hi,k⟩:=h
  have nd:=scBag.nd
  refine ⟨_,zac (zap (i:=2) nd rfl (Or.inl rfl) zaf)
   (zac (zaW (zaw zd9 (pv 1) (zaq zaC (by rfl) T.len b_len (zaa (pv 0) zae)) (zaz _))
    (zai (zap (i:=2) nd rfl (Or.inl rfl) (zaB zch (zau ix_list (pv 0) (pv 1) (fun _ _=>rfl)) (zaB zjF zaf zaf)))) zaA)
   (zac (zap (i:=3) nd rfl (Or.inl rfl) (zaB zaQ zaf (zaB zch (zaB zaQ (zaB zaQ (zaB zaQ (zaB zdn (zaB zch (pv 2) zaf) zaf) (zaB zdn (zaB zdn zaf (pv 1)) (pv 1))) (zaB zdn zaf (pv 1))) zaf) zaf)))
   (zac (zaW (zaw zd9 (pv 2) (zaB zjF zaf zaf) (zaz _)) (zai (zax (zaF (zaa zaf (zaa (pv 3) zae))))) zaA)
   (zai (zax (zaF (zaa (pv 2) (zaa (pv 3) zae)))))))),?_⟩
  dsimp only[cxOf,Cx.nox,Cx.wish]
  have small:(2:Nat)≤sizeLine:=by rw[sizeLine_eq];decide
  refine ⟨_,rfl,_,rfl,a,_,rfl,.inl ha,_,_,rfl,rfl,_,rfl,?_⟩
  refine ite2 (fun h1=>?g1) (fun h1=>?g2)
  case' g1=>
   have hlt:i<ns.length:=by simp at h1;omega
   refine ⟨_,rfl,_,rfl,a,_,_,.int ns[i],rfl,rfl,ha,zah (by simp[hlt]),_,_,rfl,rfl,⟨by decide,by decide,by decide⟩,_,_,rfl,rfl,(by show (0:Int)<_;decide),?_⟩
  all_goals
   refine ⟨_,rfl,_,_,rfl,rfl,(by show (0:Int)<_;decide),_,_,rfl,rfl,.inr (by decide),_,rfl,_,_,rfl,rfl,.inl (by decide),_,rfl,_,_,rfl,rfl,.inr (by omega),_,_,rfl,rfl,_,rfl,_,_,rfl,rfl,.inl (by decide),_,_,rfl,rfl,_,_,rfl,rfl,_,_,rfl,rfl,(by show (0:Int)<_;decide),_,_,rfl,rfl,?_⟩
   refine ⟨_,rfl,_,_,rfl,rfl,⟨by decide,by decide,by decide⟩,_,_,rfl,rfl,_,rfl,?_⟩
   refine ite2 (fun h1=>?_) (fun h1=>?_)
   ·exact ⟨_,rfl,small,fun p np=>k p _ np (Same.new np) ⟨_,_,zab⟩⟩
   ·exact ⟨_,rfl,_,rfl,small,fun p np=>k p _ np (Same.new np) ⟨_,_,zab⟩⟩
theorem scMk:zav ["bag","signs","found","turn"] ["bag","signs"] (zag lMk):=⟨rfl,rfl,rfl,by decide +kernel,rfl,by decide +kernel,by decide +kernel⟩
theorem zlF {f f1:Addr}{fd fd1:FuncData}(F:Fun K "_law_mark" "_law_mark" lMk f fd) (T:TxtB mg) (k1:W.keepIn K (.ref f1)=true) (b1:Binds K fd1 ["bag","many"] []) (m1:mg "_law_take"=some (.ref f1)) (G1:FnOk P w K mg base CX0 1 f1 fd1 ["bag","many"] zc5):FnOk P w K mg base CX0 2 f fd ["bag","signs"] spMk:=by
 refine F.ok scMk (fun vs H Q E h=>?_) (fun cdv A outer s H vs Q E hr h=>?_)
 ·obtain ⟨z,n,rfl,_⟩:=h
  rfl
 ·obtain ⟨z,x,rfl,hB,hx1,hx2,hx3,k⟩:=h
  have nd:=scMk.nd
  refine ⟨_,zac (zap (i:=2) nd rfl (Or.inl rfl) zay)
   (zac (zbO PassesOwn.never rfl (zbm rfl T.range (zaa (zaB zaQ zaf (zau ix_list (zaF (zaa zaf (zaa zaf (zaa zaf (zaa (zas G1 hr rfl m1 k1 b1 .nil pass0 (zaa (pv 0) (zaa zaf zae))) zae))))) (zas G1 hr rfl m1 k1 b1 .nil pass0 (zaa (pv 0) (zaa zaf zae))) (fun _ _=>rfl))) zae))
    (zao (i:=3) nd rfl (Or.inl rfl))
    (zai (zap (i:=2) nd rfl (Or.inl rfl) (zaB za7 (pv 2) (zau zfZ (pv 1) (zas G1 hr rfl m1 k1 b1 .nil pass0 (zaa (pv 0) (zaa (zaq zar (by rfl) T.len b_len (zaa (pv 1) zae)) zae))) (fun _ _=>rfl))))))
   (zai (zax (pv 2)))),?_⟩
  dsimp only[cxOf,Cx.nox,Cx.wish]
  have small:(1000:Nat)≤sizeLine:=by rw[sizeLine_eq];decide
  refine ⟨_,rfl,z,4,rfl,hB,by decide,by decide,fun r H1 hr1 a1=>?_⟩
  refine ⟨by show (4:Nat)≤_;omega,fun p np=>⟨_,rfl,z,4,rfl,?_,by decide,by decide,fun r2 H2 hr2 a2=>?_⟩⟩
  ·exact (a1.same (Same.new np)).2
  ·have a12:Aft z H H2:=(a1.same (Same.new np)).trans a2
   have hpz:p≠z:=by
    obtain ⟨c,e,h⟩:=a1.2
    exact (zad h np).symm
   have hp2:H2 p=some (.lst [.int 0,.int 0,.int 1,.int r]):=a2.1 p _ hpz zab
   obtain ⟨n,hn1,hn2,hn3⟩:∃n:Nat,([V.int 0,V.int 0,V.int 1,V.int r]:List V)[r2]?=some (.int n)∧n≤3∧True:=by
    match r2,hr2 with
    |0,_=>exact ⟨0,rfl,by omega,trivial⟩
    |1,_=>exact ⟨0,rfl,by omega,trivial⟩
    |2,_=>exact ⟨1,rfl,by omega,trivial⟩
    |3,_=>exact ⟨r,rfl,by omega,trivial⟩
    |m+4,h=>omega
   refine ⟨p,_,r2,.int n,rfl,rfl,SqL.of hp2,zah hn1,1,n,rfl,rfl,1+n,rfl,by omega,by omega,?_⟩
   have en:(1+(n:Int)).toNat=1+n:=by omega
   rw[en]
   refine zbB (fun i σ H3=>∃m u,σ=[some (.ref z),some (.str x),some (.str m),u]∧Aft z H H3∧m.length=i∧zen m) ⟨_,none,rfl,a12,by decide +kernel,?_⟩ ?_ ?_
   ·intro c hc
    have:(Str.ofString "").cps.toList=[]:=by decide +kernel
    rw[this] at hc
    cases hc
   ·rintro i σ H3 hi ⟨m,u,rfl,a3,hm1,hm2⟩
    refine ⟨_,rfl,_,rfl,_,rfl,_,rfl,x,rfl,by omega,z,x.length,rfl,a3.2,by omega,by omega,fun r3 H4 hr3 a4=>?_⟩
    have hr4:r3<x.cps.toList.length:=by
     have:x.cps.toList.length=x.length:=by simp;rfl
     omega
    refine ⟨x,r3,x.cps.toList[r3],rfl,rfl,by omega,zah (by simp[hr4]),m,_,rfl,rfl,?_,?_⟩
    ·show m.length+1≤_
     omega
    ·refine ⟨_,_,rfl,a3.trans a4,?_,fun c hc=>?_⟩
     ·rw[zbj]
      show m.length+1=_
      omega
     ·rw[zbv] at hc
      rcases List.mem_append.mp hc with hc|hc
      ·exact hm2 c hc
      ·have:c=x.cps.toList[r3]:=by simpa using hc
       rw[this]
       exact hx3 _ (List.getElem_mem hr4)
   ·rintro σ H3 ⟨m,u,rfl,a3,hm1,hm2⟩
    refine ⟨_,rfl,k m H3 ?_ a3⟩
    unfold markS
    rw[decide_eq_true (show 1≤m.length by omega),decide_eq_true (show m.length≤4 by omega)]
    simp only[Bool.true_and,List.all_eq_true]
    exact hm2
theorem scFits:zav ["book","escape","doors","other","more","door","some"] ["book"] (zag lFits):=⟨rfl,rfl,rfl,by decide +kernel,rfl,by decide +kernel,by decide +kernel⟩
theorem zkt {f:Addr}{fd:FuncData}(F:Fun K "_law_fits_book" "_law_fits_book" lFits f fd) (T:TxtB mg) (T2:Txt2 mg):FnOk P w K mg base CX0 1 f fd ["book"] zgb:=by
 refine F.ok scFits (fun vs H Q E h=>?_) (fun cdv A outer s H vs Q E hr h=>?_)
 ·obtain ⟨z,a,xs,b,rfl,_⟩:=h
  rfl
 ·obtain ⟨z,a,xs,b,rfl,hS,R,hb7,hok,k⟩:=h
  have nd:=scFits.nd
  refine ⟨_,zac (zbO PassesOwn.never rfl (PI.or (zbS (pv 0)) (zbR (pv 0))) (zbu rfl (zat (zao (i:=1) nd rfl (Or.inr rfl)) (zat (zao (i:=2) nd rfl (Or.inl rfl)) za1)))
    (zac (zbO PassesOwn.never rfl (PI.or (zbS (pv 0)) (zbR (pv 0))) (zbu rfl (zat (zao (i:=3) nd rfl (Or.inl rfl)) (zat (zao (i:=4) nd rfl (Or.inl rfl)) za1)))
     (zac (zbK (i:=6) (N':=["door","escape"]) (js:=[none,some 1]) rfl rfl nd rfl (Or.inl rfl) (zbx (zag lFits) (by decide +kernel)) ⟨rfl,Or.inr (Or.inl rfl),rfl,trivial⟩ (zbS (pv 4))
      (fun cl s H fp=>zao (i:=0) ndDE rfl (Or.inl rfl))
      (fun cl s H fp=>zcR (zaw zg1 (pv 1) (zaB za7 (zaB za7 (zau zbW (pv 0) zaf (fun _ _=>rfl)) zay) (zau zbW (pv 0) zaf (fun _ _=>rfl))) (by with_unfolding_all rfl))) (fun cl s H fp=>pv 0))
     (zai (zaW (PW.pt (zdO (zaw zd8 (pv 1) zay (zaz _)) (zcM (zaw (zbE hr.units0) (pv 6) (zaF zae) (zaz _))))) (zai (zax zd5)) zaA))))
    (zac (zaW (zaw zd8 (zaq zed (by rfl) T.len b_len (zaa (zbD (zdK rfl) (by rfl) T2.set zly (zaa (zbr (N':=["door"]) (js:=[none]) rfl rfl (zbx (zag lFits) (by decide +kernel)) trivial (zbS (pv 2))
      (fun cl s H fp=>zao (i:=0) ndD rfl (Or.inl rfl)) (fun cl s H fp=>zbV) (fun cl s H fp=>zau zbW (pv 0) zaf (fun _ _=>rfl))) zae)) zae)) (zaq zaC (by rfl) T.len b_len (zaa (pv 2) zae)) (zaz _)) (zai (zax zd5)) zaA)
    (zai (zbO PassesOwn.never rfl (zbS (pv 2)) (zao (i:=5) nd rfl (Or.inr rfl))
     (zai (zaW (zaw (zbE hr.units0) (zbr (N':=["one","door"]) (js:=[none,some 5]) rfl rfl (zbx (zag lFits) (by decide +kernel)) ⟨rfl,Or.inr (Or.inl rfl),rfl,trivial⟩ (zbS (zau ix_tup (zau zk6 (pv 0) (zau ix_tup (pv 5) zaf (fun _ _=>rfl)) (fun _ _=>rfl)) zaf (fun _ _=>rfl)))
      (fun cl s H fp=>zao (i:=0) ndOD rfl (Or.inl rfl)) (fun cl s H fp=>zcR (zdN (zhD PySem.F.plainAttrs_str PySem.F.slot_str_startswith PySem.F.type_str_startswith zcv (zau zbW (pv 0) zaf (fun _ _=>rfl)) (zaa (zau zbW (pv 1) zaf (fun _ _=>rfl)) zae)))) (fun cl s H fp=>pv 0)) (zaF zae) (zaz _)) (zai (zax zd5)) zaA)))))))
   (zai (zax zd5)),?_⟩
  dsimp only[cxOf,Cx.nox,Cx.wish]
  have hl:xs.length=b.length:=by have:=R.length;simpa using this
  refine zhJ (a:=a) (xs:=xs) hS (fun R q=>⟨_,rfl,q⟩) (fun R q=>⟨_,rfl,q⟩) (fun i σ H2=>∃u1 u2 u3 u4 u5 u6,σ=[some (.ref a),u1,u2,u3,u4,u5,u6]∧Same H H2∧∀j,j<i→fitT b (b.getD j tg0)=true) ⟨none,none,none,none,none,none,rfl,Same.refl H,fun j hj=>absurd hj (Nat.not_lt_zero j)⟩ (fun i σ H' ⟨_,_,_,_,_,_,_,s,_⟩=>s) ?_ ?_
  ·rintro i y σ H2 hi ⟨u1,u2,u3,u4,u5,u6,rfl,s2,hP⟩
   have hil:i<b.length:=by have:=(List.getElem?_eq_some_iff.mp hi).1;omega
   have ey:y=xs.getD i .non:=by rw[List.getD_eq_getElem?_getD,hi];rfl
   have tok:TgOk b.length (b.getD i tg0):=hok _ (zaI _ hil)
   obtain ⟨c,d,ys,e,hcz,hdz,hc,hd,hyl,Ry⟩:=zaY ((zaL (b:=b) (i:=i) R hil).mono s2.x)
   rw[ey,e]
   have hyl:ys.length=(b.getD i tg0).2.length:=hyl
   have few1:=tok.2.1
   have no:∀H',Same H H'→fitT b (b.getD i tg0)=false→Q (.bl false) H':=fun H' s' hf=>by
    have:=zhH b tg0 (fitT b) hil hf
    have q:=k H' s'
    unfold fitsB at q
    rw[this] at q
    exact q
   refine ⟨c,_,rfl,SqT.of hc,rfl,_,_,rfl,_,_,rfl,rfl,?_⟩
   refine zbg fun D1 hD1 hR1 _ _=>?_
   have no:=fun H' a b=>hR1 _ _ (no H' a b)
   refine zak fun U hU=>?_
   refine zhJ (a:=a) (xs:=xs) (hS.same s2) (fun R q=>⟨_,rfl,q⟩) (fun R q=>⟨_,rfl,q⟩) (fun j σ H3=>∃u3 u4 u6,σ=[some (.ref a),some (.str (b.getD i tg0).1),some (.ref d),u3,u4,u5,u6]∧Same H2 H3∧∀l,l<j→fit1 (b.getD i tg0) (b.getD l tg0)=true) ⟨u3,u4,u6,rfl,Same.refl _,fun j hj=>absurd hj (Nat.not_lt_zero j)⟩ (fun i σ H' ⟨_,_,_,_,s,_⟩=>s) ?_ ?_
   ·rintro j y2 σ H3 hj ⟨v3,v4,v6,rfl,s3,hP1⟩
    have hjl:j<b.length:=by have:=(List.getElem?_eq_some_iff.mp hj).1;omega
    have ey2:y2=xs.getD j .non:=by rw[List.getD_eq_getElem?_getD,hj];rfl
    have tok2:TgOk b.length (b.getD j tg0):=hok _ (zaI _ hjl)
    have few2:=tok2.2.1
    obtain ⟨c2,d2,zs,e2,hc2z,hd2z,hc2,hd2,hzl,Rz⟩:=zaY ((zaL (b:=b) (i:=j) R hjl).mono (s2.trans s3).x)
    rw[ey2,e2]
    have hzl:zs.length=(b.getD j tg0).2.length:=hzl
    refine ⟨c2,_,rfl,SqT.of hc2,rfl,_,_,rfl,_,_,rfl,rfl,?_⟩
    refine zbg fun D2 hD2 hR2 _ _=>?_
    have no:=fun H' a b=>hR2 _ _ (no H' a b)
    refine zak fun U2 hU2=>?_
    refine ⟨_,rfl,d2,rfl,⟨_,SqT.of hd2⟩,fun p np=>?_⟩
    have hdp:d2≠p:=zad hd2 np
    have nx:∀H',Same H3 H'→fit1 (b.getD i tg0) (b.getD j tg0)=true→∃u3 u4 u6,[some (V.ref a),some (V.str (b.getD i tg0).1),some (V.ref d),some (.str (b.getD j tg0).1),some (.ref d2),u5,some (.ref p)]=[some (V.ref a),some (V.str (b.getD i tg0).1),some (V.ref d),u3,u4,u5,u6]∧Same H2 H'∧∀l,l<j+1→fit1 (b.getD i tg0) (b.getD l tg0)=true:=fun H' s' hf=>⟨_,_,_,rfl,s3.trans s',fun l hl=>by
     rcases Nat.lt_succ_iff_lt_or_eq.mp hl with h|h
     ·exact hP1 l h
     ·rw[h];exact hf⟩
    refine zbw (fun l=>if inEsc (b.getD i tg0).1 ((b.getD j tg0).2.getD l dr0) then some (zs.getD l .non) else none) (fun σ=>∃v,σ=[v,some (.str (b.getD i tg0).1)]) ⟨none,rfl⟩ np (by omega) (zcx (xs:=zs) (by rw[zaj hdp];exact hd2) hdp) (fun l σ H4 C hl' ⟨v,hv⟩ hS4 hC=>?_) (fun σ H4 s4 hH4=>?_)
    ·subst hv
     have hll:l<(b.getD j tg0).2.length:=by omega
     obtain ⟨q,e3,hqz,hq⟩:=zbs ((zbe (ds:=(b.getD j tg0).2) (i:=l) Rz hll).mono hS4.x)
     have dok:=tok2.2.2 _ (zaI dr0 hll)
     have l1:=zaX dok.1
     have l2:=zaX dok.2.2
     have big:(1000:Nat)≤sizeLine:=by rw[sizeLine_eq];decide
     have lb:(Str.ofString " ").length=1:=by decide +kernel
     have hC':=hC [some (.ref q),some (.str (b.getD i tg0).1)] H4 ⟨_,rfl⟩ (Same.refl _)
     rw[e3]
     refine ⟨_,rfl,_,rfl,q,_,0,_,rfl,rfl,SqT.of hq,zah (j:=0) rfl,_,_,rfl,rfl,?_,_,rfl,q,_,2,_,rfl,rfl,SqT.of hq,zah (j:=2) rfl,_,_,rfl,rfl,?_,_,_,rfl,rfl,_,rfl,?_⟩
     ·rw[lb]
      show ((b.getD j tg0).2.getD l dr0).1.length+1≤_
      omega
     ·rw[zbj,lb]
      show ((b.getD j tg0).2.getD l dr0).1.length+1+((b.getD j tg0).2.getD l dr0).2.2.length≤_
      omega
     ·show if inEsc (b.getD i tg0).1 ((b.getD j tg0).2.getD l dr0)=true then _ else _
      cases g:inEsc (b.getD i tg0).1 ((b.getD j tg0).2.getD l dr0) with
      |true=>
       rw[g,if_pos rfl,e3] at hC'
       exact iteT ⟨_,rfl,hC'⟩
      |false=>
       rw[g,if_neg (by simp)] at hC'
       exact iteF hC'
    ·refine hU2 _ _ ⟨_,rfl,rfl,_,rfl,?_⟩
     refine ite2 (fun g1=>?_) (fun g1=>?_)
     ·refine ⟨_,rfl,Nat.zero_le _,fun q nq=>?_⟩
      have hpq:p≠q:=zad hH4 nq
      refine ⟨p,q,_,rfl,rfl,by rw[zaj hpq];exact hH4,zab,_,rfl,?_⟩
      have e5:=zfg (b.getD j tg0).2 dr0 (inEsc (b.getD i tg0).1) (fun l=>zs.getD l .non) hzl
      rw[e5,Bool.not_not]
      cases g2:(b.getD j tg0).2.any (inEsc (b.getD i tg0).1) with
      |true=>
       refine iteT (no _ (((s2.trans s3).trans s4).trans (Same.new nq)) ?_)
       have f1:fit1 (b.getD i tg0) (b.getD j tg0)=false:=by
        unfold fit1
        rw[g2,g1]
        rfl
       unfold fitT
       rw[zhH b tg0 (fit1 (b.getD i tg0)) hjl f1,Bool.false_and,Bool.false_and]
      |false=>
       refine iteF (hD2 _ _ (nx _ (s4.trans (Same.new nq)) ?_))
       unfold fit1
       rw[g2,Bool.and_false]
       rfl
     ·refine iteF (hD2 _ _ (nx _ s4 ?_))
      have g1':(!decide (V.str (b.getD i tg0).1=V.str (Str.ofString "")))=false:=by simpa using g1
      unfold fit1
      rw[g1',Bool.false_and]
      rfl
   ·rintro σ H3 ⟨v3,v4,v6,rfl,s3,hP1⟩
    have f1:b.all (fit1 (b.getD i tg0))=true:=zhG b tg0 _ fun j hj=>hP1 j (by omega)
    refine hU _ _ (zak fun U hU=>?_)
    refine ⟨_,rfl,d,rfl,⟨_,SqT.of (s3 _ _ hd)⟩,fun p np=>?_⟩
    have hdp:d≠p:=zad (s3 _ _ hd) np
    refine zee (fun l=>.str ((b.getD i tg0).2.getD l dr0).1) (fun σ=>∃v,σ=[v]) ⟨none,rfl⟩ np (by omega) (zcx (xs:=ys) (by rw[zaj hdp];exact s3 _ _ hd) hdp) (fun l σ H4 C hl' ⟨v,hv⟩ hS4 hC=>?_) (fun σ H4 s4 hH4=>?_)
    ·subst hv
     obtain ⟨q,e3,hqz,hq⟩:=zbs ((zbe (ds:=(b.getD i tg0).2) (i:=l) Ry (by omega)).mono (s3.trans hS4).x)
     rw[e3]
     exact ⟨_,rfl,q,_,0,_,rfl,rfl,SqT.of hq,zah (j:=0) rfl,hC _ H4 ⟨_,rfl⟩ (Same.refl _)⟩
    ·have hO:H4 p=some (.lst ((zaD (b.getD i tg0).2).map V.str)):=by
      rw[hH4,hyl]
      unfold zaD
      rw[List.map_map]
      exact congrArg (fun x=>some (HO.lst x)) (zdu (b.getD i tg0).2 dr0 fun d=>V.str d.1)
     refine ⟨p,zaD (b.getD i tg0).2,rfl,SqL.of hO,(by unfold scanBound zaD;rw[List.length_map];omega),fun q nq=>?_⟩
     have s5:=Same.new (o:=setL P w q (zaD (b.getD i tg0).2)) nq
     have s25:Same H2 _:=(s3.trans s4).trans s5
     refine ⟨q,_,rfl,zab,_,rfl,d,ys,rfl,.inr (SqT.of (s25 _ _ hd)),rfl,_,rfl,?_⟩
     have e2:(!decide (V.int ((dd (zaD (b.getD i tg0).2)).length:Int)=V.int (ys.length:Int)))=!decide (zaD (b.getD i tg0).2).Nodup:=by
      congr 1
      rw[decide_eq_decide,←zk9]
      have:(zaD (b.getD i tg0).2).length=(b.getD i tg0).2.length:=by simp[zaD]
      rw[this,←hyl]
      simp
      omega
     rw[e2]
     cases g3:decide (zaD (b.getD i tg0).2).Nodup with
     |false=>
      refine iteT (no _ (s2.trans s25) ?_)
      unfold fitT
      rw[g3,Bool.and_false,Bool.false_and]
     |true=>
      refine iteF (hU _ _ ?_)
      refine ⟨_,rfl,d,rfl,⟨_,SqT.of (s25 _ _ hd)⟩,zdm (K:=K) (a:=d) (xs:=ys) (fun l σ H6=>∃u3 u4 u5 u6,σ=[some (.ref a),some (.str (b.getD i tg0).1),some (.ref d),u3,u4,u5,u6]∧Same H2 H6∧∀m,m<l→fit3 b ((b.getD i tg0).2.getD m dr0)=true) ⟨_,_,_,_,rfl,s25,fun j hj=>absurd hj (Nat.not_lt_zero j)⟩ (fun l σ H6 _ ⟨_,_,_,_,_,s,_⟩=>SqT.of (s _ _ hd)) ?_ ?_⟩
      ·rintro l y3 σ H6 hl' ⟨w3,w4,w5,w6,rfl,s6,hP3⟩
       have hll:l<(b.getD i tg0).2.length:=by have:=(List.getElem?_eq_some_iff.mp hl').1;omega
       have ey3:y3=ys.getD l .non:=by rw[List.getD_eq_getElem?_getD,hl'];rfl
       obtain ⟨q2,e3,hq2z,hq2⟩:=zbs ((zbe (ds:=(b.getD i tg0).2) (i:=l) Ry hll).mono s6.x)
       rw[ey3,e3]
       have dok:=tok.2.2 _ (zaI dr0 hll)
       generalize hdr:(b.getD i tg0).2.getD l dr0=dr at *
       obtain ⟨hn1,hn2⟩:=dok.2.1
       obtain ⟨n,hn⟩:∃n:Nat,dr.2.1=(n:Int):=⟨dr.2.1.toNat,by omega⟩
       have hnl:n<b.length:=by omega
       have few4:(b.getD n tg0).2.length≤6:=(hok _ (zaI tg0 hnl)).2.1
       obtain ⟨c4,d4,ws,e4,hc4z,hd4z,hc4,hd4,hwl,Rw⟩:=zaY ((zaL (b:=b) (i:=n) R hnl).mono (s2.trans s6).x)
       have hwl:ws.length=(b.getD n tg0).2.length:=hwl
       have ex:xs[n]?=some (.ref c4):=by
        have h1:n<xs.length:=by omega
        have h2:xs.getD n .non=xs[n]:=by simp[h1]
        rw[List.getElem?_eq_getElem h1,←h2,e4]
       rw[hn] at hq2
       refine ⟨_,rfl,_,rfl,q2,_,1,_,rfl,rfl,SqT.of hq2,zah (j:=1) rfl,zlE (hS.same (s2.trans s6)) ex ?_⟩
       refine ⟨c4,_,1,_,rfl,rfl,SqT.of hc4,zah (j:=1) rfl,d4,rfl,⟨_,SqT.of hd4⟩,fun p2 np2=>?_⟩
       have hdp2:d4≠p2:=zad hd4 np2
       refine zbw (fun m=>if stAt ((b.getD n tg0).2.getD m dr0).1 dr.2.2 0 then some (ws.getD m .non) else none) (fun σ=>∃v,σ=[v,some (.ref q2)]) ⟨none,rfl⟩ np2 (by omega) (zcx (xs:=ws) (by rw[zaj hdp2];exact hd4) hdp2) (fun m σ H7 C hm ⟨v,hv⟩ hS7 hC=>?_) (fun σ H7 s7 hH7=>?_)
       ·subst hv
        obtain ⟨q3,e5,hq3z,hq3⟩:=zbs ((zbe (ds:=(b.getD n tg0).2) (i:=m) Rw (by omega)).mono hS7.x)
        have hC':=hC [some (.ref q3),some (.ref q2)] H7 ⟨_,rfl⟩ (Same.refl _)
        rw[e5]
        refine ⟨_,rfl,q3,_,0,_,rfl,rfl,SqT.of hq3,zah (j:=0) rfl,rfl,_,rfl,q2,_,2,_,rfl,rfl,SqT.of (hS7 _ _ hq2),zah (j:=2) rfl,_,_,rfl,rfl,_,rfl,?_⟩
        cases g:stAt ((b.getD n tg0).2.getD m dr0).1 dr.2.2 0 with
        |true=>
         rw[g,if_pos rfl,e5] at hC'
         exact iteT ⟨_,rfl,hC'⟩
        |false=>
         rw[g,if_neg (by simp)] at hC'
         exact iteF hC'
       ·refine ⟨Nat.zero_le _,fun q nq=>?_⟩
        have hpq:p2≠q:=zad hH7 nq
        refine ⟨p2,q,_,rfl,rfl,by rw[zaj hpq];exact hH7,zab,_,rfl,?_⟩
        have e5:=zfg (b.getD n tg0).2 dr0 (fun o=>stAt o.1 dr.2.2 0) (fun m=>ws.getD m .non) hwl
        rw[e5,Bool.not_not]
        have ef:fit3 b dr=!((b.getD n tg0).2.any fun o=>stAt o.1 dr.2.2 0):=by
         unfold fit3
         rw[hn]
         rfl
        cases g2:(b.getD n tg0).2.any fun o=>stAt o.1 dr.2.2 0 with
        |true=>
         refine iteT (no _ ((s2.trans s6).trans (s7.trans (Same.new nq))) ?_)
         unfold fitT
         rw[zhH (b.getD i tg0).2 dr0 (fit3 b) hll (by rw[hdr,ef,g2];rfl),Bool.and_false]
        |false=>
         refine iteF ⟨_,_,_,_,rfl,s6.trans (s7.trans (Same.new nq)),fun m hm=>?_⟩
         rcases Nat.lt_succ_iff_lt_or_eq.mp hm with h|h
         ·exact hP3 m h
         ·rw[h,hdr,ef,g2];rfl
      ·rintro σ H6 ⟨w3,w4,w5,w6,rfl,s6,hP3⟩
       refine hD1 _ _ ⟨_,_,_,_,_,_,rfl,s2.trans s6,fun j hj=>?_⟩
       rcases Nat.lt_succ_iff_lt_or_eq.mp hj with h|h
       ·exact hP j h
       ·rw[h]
        unfold fitT
        rw[f1,g3,zhG (b.getD i tg0).2 dr0 (fit3 b) fun m hm=>hP3 m (by omega)]
        rfl
  ·rintro σ H2 ⟨u1,u2,u3,u4,u5,u6,rfl,s2,hP⟩
   have q:=k H2 s2
   unfold fitsB at q
   rw[zhG b tg0 (fitT b) fun j hj=>hP j (by omega)] at q
   exact q
theorem scBookL:zav ["bag","signs","escapes","many","book","turn","at","door","more"] ["bag"] (zag lBook):=⟨rfl,rfl,rfl,by decide +kernel,rfl,by decide +kernel,by decide +kernel⟩
theorem zi7 {f f1 f2 f3:Addr}{fd fd1 fd2 fd3:FuncData}(F:Fun K "_law_book" "_law_book" lBook f fd) (T:TxtB mg) (T2:Txt2 mg)
  (k1:W.keepIn K (.ref f1)=true) (b1:Binds K fd1 ["bag","many"] []) (m1:mg "_law_take"=some (.ref f1)) (G1:FnOk P w K mg base CX0 1 f1 fd1 ["bag","many"] zc5)
  (k2:W.keepIn K (.ref f2)=true) (b2:Binds K fd2 ["bag","signs"] []) (m2:mg "_law_mark"=some (.ref f2)) (G2:FnOk P w K mg base CX0 2 f2 fd2 ["bag","signs"] spMk)
  (k3:W.keepIn K (.ref f3)=true) (b3:Binds K fd3 ["book"] []) (m3:mg "_law_fits_book"=some (.ref f3)) (G3:FnOk P w K mg base CX0 1 f3 fd3 ["book"] zgb):FnOk P w K mg base CX0 3 f fd ["bag"] zge:=by
 refine F.ok scBookL (fun vs H Q E h=>?_) (fun cdv A outer s H vs Q E hr h=>?_)
 ·obtain ⟨z,rfl,_⟩:=h
  rfl
 ·obtain ⟨z,rfl,hB,k⟩:=h
  have nd:=scBookL.nd
  have hr1:Room 1 _:=hr.mono (by decide)
  refine ⟨_,zac (zap (i:=1) nd rfl (Or.inl rfl) (zau ix_list (zaF (zaa zay (zaa zay (zaa zay (zaa zay zae))))) (zas G1 hr1 rfl m1 k1 b1 .nil pass0 (zaa (pv 0) (zaa zaf zae))) (fun _ _=>rfl)))
   (zac (zap (i:=2) nd rfl (Or.inr rfl) (zau ix_list (zaF (zaa zay (zaa zay (zaa zay (zaa zay zae))))) (zas G1 hr1 rfl m1 k1 b1 .nil pass0 (zaa (pv 0) (zaa zaf zae))) (fun _ _=>rfl)))
   (zac (zap (i:=3) nd rfl (Or.inl rfl) (zaB zaQ zaf (zas G1 hr1 rfl m1 k1 b1 .nil pass0 (zaa (pv 0) (zaa (zau ix_list (zaF (zaa zaf (zaa zaf (zaa zaf zae)))) (zas G1 hr1 rfl m1 k1 b1 .nil pass0 (zaa (pv 0) (zaa zaf zae))) (fun _ _=>rfl)) zae)))))
   (zac (zbK (i:=4) (N':=["tongue","bag","escapes"]) (js:=[none,some 0,some 2]) rfl rfl nd rfl (Or.inl rfl) (zbx (zag lBook) (by decide +kernel)) ⟨rfl,Or.inr (Or.inl rfl),rfl,rfl,Or.inr (Or.inl rfl),rfl,trivial⟩ (zbm rfl T.range (zaa (pv 3) zae))
     (fun cl s H fp=>zao (i:=0) ndTBE rfl (Or.inl rfl)) (fun cl s H fp=>zbV)
     (fun cl s H fp=>za2 (zaa (zau zef (zaF (zaa (pv 2) (zaa zay (zaa zay zae)))) (zas G1 hr1 rfl m1 k1 b1 .nil pass0 (zaa (pv 1) (zaa zaf zae))) (fun _ _=>rfl)) (zaa (za2 zae) zae))))
   (zac (zbO PassesOwn.never rfl (zbm rfl T.range (zaa (zaB zaQ zaf (zas G1 hr1 rfl m1 k1 b1 .nil pass0 (zaa (pv 0) (zaa (zaB zdn zaf (pv 3)) zae)))) zae)) (zao (i:=5) nd rfl (Or.inl rfl))
    (zac (zap (i:=6) nd rfl (Or.inl rfl) (zau ix_list (zaF (zaa zaf (zaa (zas G1 hr1 rfl m1 k1 b1 .nil pass0 (zaa (pv 0) (zaa (pv 3) zae))) zae))) (zas G1 hr1 rfl m1 k1 b1 .nil pass0 (zaa (pv 0) (zaa zaf zae))) (fun _ _=>rfl)))
    (zac (zap (i:=7) nd rfl (Or.inl rfl) (za2 (zaa (zas G2 hr rfl m2 k2 b2 .nil pass0 (zaa (pv 0) (zaa (pv 1) zae))) (zaa (zas G1 hr1 rfl m1 k1 b1 .nil pass0 (zaa (pv 0) (zaa (pv 3) zae))) (zaa (zas G2 hr rfl m2 k2 b2 .nil pass0 (zaa (pv 0) (zaa (pv 1) zae))) zae)))))
    (zac (zap (i:=8) nd rfl (Or.inl rfl) (zbD zc3 (by rfl) T2.list zjJ (zaa (pv 4) zae)))
    (zac (zbq (za2 (zaa (zau ix_tup (zau ix_list (pv 4) (pv 6) (fun _ _=>rfl)) zaf (fun _ _=>rfl)) (zaa (zaB zkq (zau ix_tup (zau ix_list (pv 4) (pv 6) (fun _ _=>rfl)) zaf (fun _ _=>rfl)) (za2 (zaa (pv 7) zae))) zae))) (zfW (pv 8) (pv 6) zea))
    (zai (zaW (PW.pt (zdO (zaw zd9 (zaq zaC (by rfl) T.len b_len (zaa (zau ix_tup (zau ix_list (pv 4) (pv 6) (fun _ _=>rfl)) zaf (fun _ _=>rfl)) zae)) zaf (zaz _)) (zcM (zdN (zas G3 hr1 rfl m3 k3 b3 .nil pass0 (zaa (pv 8) zae))))))
     (zai (zap (i:=4) nd rfl (Or.inl rfl) (pv 8))) zaA)))))))
   (zai (zax (zbD zec (by rfl) T.tuple zkd (zaa (pv 4) zae)))))))),?_⟩
  dsimp only[cxOf,Cx.nox,Cx.wish]
  refine zak fun U hU=>?_
  have small:(1000:Nat)≤sizeLine:=by rw[sizeLine_eq];decide
  have A0:=Aft.refl hB
  refine ⟨by show (4:Nat)≤_;omega,fun p1 np1=>⟨_,rfl,z,4,rfl,(A0.new np1).2,by decide,by decide,fun r1 H1 hr1' a1=>?_⟩⟩
  have A1:Aft z H H1:=(A0.new np1).trans a1
  have hp1:=a1.1 p1 _ (hB.ne np1) zab
  obtain ⟨v1,hv1,hm1⟩:=pickH hp1 (r:=r1) (by show r1<4;omega)
  obtain ⟨x,ex,hx1,hx2,hx3⟩:∃x,v1=.str x∧1≤x.length∧x.length≤100∧zen x:=by
   simp only[List.mem_cons,List.not_mem_nil,or_false] at hm1
   rcases hm1 with rfl|rfl|rfl|rfl<;>exact ⟨_,rfl,by decide +kernel,by decide +kernel,by unfold zen;decide +kernel⟩
  subst ex
  refine ⟨p1,_,r1,_,rfl,rfl,SqL.of hp1,zah hv1,hU _ _ (zak fun U hU=>?_)⟩
  refine ⟨by show (4:Nat)≤_;omega,fun p2 np2=>⟨_,rfl,z,4,rfl,(A1.new np2).2,by decide,by decide,fun r2 H2 hr2' a2=>?_⟩⟩
  have A2:Aft z H H2:=(A1.new np2).trans a2
  have hp2:=a2.1 p2 _ (A1.2.ne np2) zab
  obtain ⟨v2,hv2,hm2⟩:=pickH hp2 (r:=r2) (by show r2<4;omega)
  obtain ⟨e,ee,he1⟩:∃x,v2=.str x∧escD (.str x)=true:=by
   simp only[List.mem_cons,List.not_mem_nil,or_false] at hm2
   rcases hm2 with rfl|rfl|rfl|rfl<;>exact ⟨_,rfl,by decide +kernel⟩
  subst ee
  refine ⟨p2,_,r2,_,rfl,rfl,SqL.of hp2,zah hv2,hU _ _ (zak fun U hU=>?_)⟩
  refine ⟨_,rfl,by show (3:Nat)≤_;omega,fun p3 np3=>⟨_,rfl,z,3,rfl,(A2.new np3).2,by decide,by decide,fun r3 H3 hr3 a3=>?_⟩⟩
  have A3:Aft z H H3:=(A2.new np3).trans a3
  have hp3:=a3.1 p3 _ (A2.2.ne np3) zab
  obtain ⟨v3,hv3,hm3⟩:=pickH hp3 (r:=r3) (by show r3<3;omega)
  obtain ⟨n3,en,hn1,hn2⟩:∃n:Int,v3=.int n∧0<n∧n≤6:=by
   simp only[List.mem_cons,List.not_mem_nil,or_false] at hm3
   rcases hm3 with rfl|rfl|rfl<;>exact ⟨_,rfl,by decide,by decide⟩
  subst en
  refine ⟨p3,_,r3,_,rfl,rfl,SqL.of hp3,zah hv3,z,n3,rfl,A3.2,hn1,by omega,fun r4 H4 hr4 a4=>?_⟩
  have A4:Aft z H H4:=A3.trans a4
  refine ⟨1,r4,rfl,rfl,hU _ _ (zak fun U hU=>?_)⟩
  refine ⟨_,rfl,1+r4,rfl,by omega,by omega,fun p np=>?_⟩
  have enat:(1+(r4:Int)).toNat=1+r4:=by omega
  rw[enat]
  have hpz:=A4.2.ne np
  have hpH:=A4.none np
  refine zgH (fun i σ H5=>∃u,σ=[u,some (.ref z),some (.str e)]∧Aft z H H5∧∃b,LBk z p b H5∧b.length=i∧∀t∈b,t.2=[]∧escD (.str t.1)=true) ⟨none,rfl,A4.new np,[],⟨hpz,[],zab,.nil⟩,rfl,by simp⟩ ?_ ?_
  ·rintro i σ H5 hi ⟨u,rfl,A5,b,L5,hbl,hb⟩
   refine ⟨_,rfl,by show (3:Nat)≤_;omega,fun l nl=>⟨_,rfl,z,3,rfl,(A5.new nl).2,by decide,by decide,fun r H6 hr6 a6=>?_⟩⟩
   have A56:Aft z H5 H6:=((Aft.refl A5.2).new nl).trans a6
   have hl6:=a6.1 l _ (A5.2.ne nl) zab
   obtain ⟨v6,hv6,hm6⟩:=pickH hl6 (r:=r) (by show r<3;omega)
   obtain ⟨y,ey,hy1⟩:∃x,v6=.str x∧escD (.str x)=true:=by
    simp only[List.mem_cons,List.not_mem_nil,or_false] at hm6
    rcases hm6 with rfl|rfl|rfl
    ·exact ⟨_,rfl,he1⟩
    ·exact ⟨_,rfl,by decide +kernel⟩
    ·exact ⟨_,rfl,by decide +kernel⟩
   subst ey
   have hyl:y.length≤1:=by unfold escD at hy1;simp at hy1;exact hy1.1
   refine ⟨l,_,r,_,rfl,rfl,SqL.of hl6,zah hv6,Nat.zero_le _,fun q1 nq1=>⟨by show (2:Nat)≤_;omega,fun q2 nq2=>?_⟩⟩
   have A58:=(A56.new (o:=.tup []) nq1).new (o:=.tup [.str y,.ref q1]) nq2
   have h8q2:upd (upd H6 q1 (.tup [])) q2 (.tup [.str y,.ref q1]) q2=some (.tup [.str y,.ref q1]):=zab
   have h8q1:upd (upd H6 q1 (.tup [])) q2 (.tup [.str y,.ref q1]) q1=some (.tup []):=Same.new nq2 _ _ zab
   generalize upd (upd H6 q1 (.tup [])) q2 (.tup [.str y,.ref q1])=H8 at A58 h8q2 h8q1
   obtain ⟨_,vs,hp8,r8⟩:=L5.aft A58.1
   have hvl:vs.length=b.length:=by have:=r8.length;simpa using this
   refine ⟨vs,hp8,by omega,⟨_,rfl,(A5.trans A58).upd hpH hpz,b++[(y,[])],⟨hpz,vs++[.ref q2],zab,?_⟩,by simp[hbl],fun t ht=>?_⟩⟩
   ·rw[zgc,List.map_append]
    have n2:q2≠p:=zan h8q2 hp8 (by intro z;cases z)
    have n1:q1≠p:=zan h8q1 hp8 (by intro z;cases z)
    exact r8.append (.cons (.tup (by rw[zck n2];exact h8q2) (A58.2.neT h8q2) (.cons (.str y (by omega)) (.cons (.tup (by rw[zck n1];exact h8q1) (A58.2.neT h8q1) .nil) .nil))) .nil)
   ·rcases List.mem_append.mp ht with ht|ht
    ·exact hb t ht
    ·have:t=(y,[]):=by simpa using ht
     subst this
     exact ⟨rfl,hy1⟩
  ·rintro σ H5 ⟨u,rfl,A5,b,L5,hbl,hb⟩
   refine hU _ _ (zak fun U hU=>?_)
   refine ⟨_,rfl,_,rfl,3,1+r4,rfl,rfl,.inl ⟨by decide,by decide⟩,z,3*(1+r4),rfl,A5.2,by omega,by omega,fun r5 H6 hr5 a6=>?_⟩
   refine ⟨2,r5,rfl,rfl,2+r5,rfl,by omega,by omega,?_⟩
   have hok0:∀t∈b,TgOk b.length t:=fun t ht=>by
    obtain ⟨h1,h2⟩:=hb t ht
    refine ⟨h2,by rw[h1];decide,fun d hd=>?_⟩
    rw[h1] at hd
    cases hd
   refine zbB (fun i σ H7=>∃a b u5 u6 u7 u8,σ=[some (.ref z),some (.str x),some (.str e),some (.int (1+r4)),some (.ref a),u5,u6,u7,u8]∧Aft z H H7∧LBk z a b H7∧b.length=1+r4∧(∀t∈b,TgOk b.length t)∧fitsB b=true)
    ⟨p,b,none,none,none,none,rfl,A5.trans a6,L5.aft a6.1,hbl,hok0,zgI fun t ht=>(hb t ht).1⟩ ?_ ?_
   ·clear hok0 hb hbl L5 hr5
    rintro i σ H7 hi ⟨a,b,u5,u6,u7,u8,rfl,A7,L7,hbl,hok,hfit⟩
    show (tSeq _ _) _ _ _
    refine zbg fun D1 hD1 _ _ _=>zak fun U1 hV=>?_
    refine ⟨_,rfl,_,rfl,z,1+r4,rfl,A7.2,by omega,by omega,fun r6 H8 hr6 a8=>?_⟩
    refine ⟨by show (2:Nat)≤_;omega,fun p4 np4=>⟨_,rfl,z,2,rfl,(a8.new np4).2,by decide,by decide,fun r7 H9 hr7 a9=>?_⟩⟩
    have A9:Aft z H7 H9:=(a8.new np4).trans a9
    have hp9:=a9.1 p4 _ (a8.2.ne np4) zab
    obtain ⟨at',hat,hatm⟩:∃at':Nat,([V.int 0,V.int r6]:List V)[r7]?=some (.int at')∧at'<1+r4:=by
     match r7,hr7 with
     |0,_=>exact ⟨0,rfl,by omega⟩
     |1,_=>exact ⟨r6,rfl,by omega⟩
     |m+2,h=>omega
    refine ⟨p4,_,r7,_,rfl,rfl,SqL.of hp9,zah hat,hV _ _ (zak fun U1 hV=>?_)⟩
    refine ⟨_,rfl,_,rfl,z,x,rfl,A9.2,hx1,hx2,hx3,fun m1 H10 hm1 a10=>⟨_,rfl,_,rfl,z,1+r4,rfl,a10.2,by omega,by omega,fun r8 H11 hr8 a11=>⟨_,rfl,_,rfl,z,x,rfl,a11.2,hx1,hx2,hx3,fun m2 H12 hm2 a12=>⟨by show (3:Nat)≤_;omega,fun q0 nq0=>hV _ _ (zak fun U1 hV=>?_)⟩⟩⟩⟩
    have A13:=(((A9.trans a10).trans a11).trans a12).new (o:=.tup [.str m1,.int r8,.str m2]) nq0
    have hq0:upd H12 q0 (.tup [.str m1,.int r8,.str m2]) q0=some (.tup [.str m1,.int r8,.str m2]):=zab
    generalize upd H12 q0 (.tup [.str m1,.int r8,.str m2])=H13 at A13 hq0
    obtain ⟨haz,vs,ha13,R13⟩:=L7.aft A13.1
    have hvl:vs.length=b.length:=by have:=R13.length;simpa using this
    refine ⟨_,rfl,a,vs,rfl,.inl (SqL.of ha13),fun l nl=>hV _ _ (zak fun U1 hV=>?_)⟩
    have hatb:at'<b.length:=by omega
    have htok:=hok _ (zaI tg0 hatb)
    obtain ⟨c,d,ys,ec,hcz,hdz,hc,hd,hyl,Ry⟩:=zaY (zaL (b:=b) (i:=at') R13 hatb)
    have hyl:ys.length=(b.getD at' tg0).2.length:=hyl
    have exv:vs[at']?=some (.ref c):=by
     have h1:at'<vs.length:=by omega
     have h2:vs.getD at' .non=vs[at']:=by simp[h1]
     rw[List.getElem?_eq_getElem h1,←h2,ec]
    generalize hT:b.getD at' tg0=tt at *
    have hc13:=(zbZ hc).2
    have hd13:=(zbZ hd).2
    have s14:Same H13 (upd H13 l (.lst vs)):=Same.new nl
    have few:=htok.2.1
    have el:tt.1.length≤1:=by have:=htok.1;unfold escD at this;simp at this;exact this.1
    refine ⟨_,rfl,_,rfl,a,vs,at',_,rfl,rfl,SqL.of (s14 _ _ ha13),zah exv,c,_,0,_,rfl,rfl,SqT.of (s14 _ _ hc13),zah (j:=0) rfl,_,rfl,_,rfl,a,vs,at',_,rfl,rfl,SqL.of (s14 _ _ ha13),zah exv,c,_,1,_,rfl,rfl,SqT.of (s14 _ _ hc13),zah (j:=1) rfl,_,rfl,by show (1:Nat)≤_;omega,fun q1 nq1=>?_⟩
    have s15:=Same.new (o:=.tup [.ref q0]) nq1
    refine ⟨d,q1,ys,[.ref q0],rfl,rfl,s15 _ _ (s14 _ _ hd13),zab,by show ys.length+1≤_;omega,fun p2 H16 s16 hp2=>⟨by show (2:Nat)≤_;omega,fun q3 nq3=>?_⟩⟩
    have s17:=Same.new (o:=.tup [.str tt.1,.ref p2]) nq3
    have hq3:upd H16 q3 (.tup [.str tt.1,.ref p2]) q3=some (.tup [.str tt.1,.ref p2]):=zab
    have hl17:=s17 _ _ (s16 _ _ (s15 _ _ (zab (H:=H13) (a:=l) (o:=.lst vs))))
    have hp17:=s17 _ _ hp2
    have sAll:Same H13 (upd H16 q3 (.tup [.str tt.1,.ref p2])):=s14.trans (s15.trans (s16.trans s17))
    generalize upd H16 q3 (.tup [.str tt.1,.ref p2])=H17 at hq3 hl17 hp17 sAll
    refine ⟨_,rfl,_,rfl,l,vs,at',at',rfl,rfl,hl17,zkr (by omega),hV _ _ ?_⟩
    have hlz:=A13.2.ne nl
    have A18:Aft z H7 (upd H17 l (.lst (vs.set at' (.ref q3)))):=(A13.same sAll).upd (A13.none nl) hlz
    have S18:Aft z H13 (upd H17 l (.lst (vs.set at' (.ref q3)))):=((Aft.refl A13.2).same sAll).upd nl hlz
    have hl18:upd H17 l (.lst (vs.set at' (.ref q3))) l=some (.lst (vs.set at' (.ref q3))):=zab
    have hmask:mask l (upd H17 l (.lst (vs.set at' (.ref q3))))=mask l H17:=zgc
    generalize upd H17 l (.lst (vs.set at' (.ref q3)))=H18 at A18 S18 hl18 hmask
    have L18:LBk z l (b.set at' (tt.1,tt.2++[(m1,(r8:Int),m2)])) H18:=by
     refine ⟨hlz,_,hl18,?_⟩
     rw[hmask,List.map_set]
     have n3:q3≠l:=zan hq3 hl17 (by intro z;cases z)
     have n2:p2≠l:=zan hp17 hl17 (by intro z;cases z)
     have n0:q0≠l:=zan (sAll _ _ hq0) hl17 (by intro z;cases z)
     have b17:Bag z H17:=(A13.same sAll).2
     have g1:=zaX hm1
     have g2:=zaX hm2
     refine Reps.set (.tup (by rw[zck n3];exact hq3) (b17.neT hq3) (.cons (.str tt.1 (by omega)) (.cons (.tup (by rw[zck n2];exact hp17) (b17.neT hp17) ?_) .nil))) at' (R13.mono (zgd nl sAll.x))
     rw[List.map_append]
     exact (Ry.mono (zgd nl sAll.x)).append (.cons (.tup (by rw[zck n0];exact sAll _ _ hq0) (A13.2.neT hq0) (.cons (.str m1 (by omega)) (.cons (.int (r8:Int)) (.cons (.str m2 (by omega)) .nil)))) .nil)
    have La:=L7.aft A18.1
    refine ⟨_,rfl,_,rfl,a,vs,at',_,rfl,rfl,SqL.of (S18.1 _ _ haz ha13),zah exv,c,_,1,_,rfl,rfl,SqT.of (S18.1 _ _ hcz hc13),zah (j:=1) rfl,d,ys,rfl,.inr (SqT.of (S18.1 _ _ hdz hd13)),_,_,rfl,rfl,_,rfl,?_⟩
    refine ite2 (fun g1=>?_) (fun g1=>?_)
    ·have few6:tt.2.length<6:=by
      have:=of_decide_eq_true g1
      omega
     have hbl':(b.set at' (tt.1,tt.2++[(m1,(r8:Int),m2)])).length=b.length:=by simp
     have hok':∀t∈b.set at' (tt.1,tt.2++[(m1,(r8:Int),m2)]),TgOk (b.set at' (tt.1,tt.2++[(m1,(r8:Int),m2)])).length t:=by
      rw[hbl']
      intro t ht
      rcases List.mem_or_eq_of_mem_set ht with ht|ht
      ·exact hok t ht
      ·subst ht
       refine ⟨htok.1,by simp;omega,fun dr hdr=>?_⟩
       rcases List.mem_append.mp hdr with hdr|hdr
       ·exact htok.2.2 dr hdr
       ·have:dr=(m1,(r8:Int),m2):=by simpa using hdr
        subst this
        exact ⟨hm1,⟨by show (0:Int)≤r8;omega,by show (r8:Int)<b.length;omega⟩,hm2⟩
     obtain ⟨_,ws,hw,Rw⟩:=id L18
     refine ⟨_,rfl,z,l,ws,_,rfl,.inr hw,Rw.mono zhK,by omega,hok',fun H19 s19=>⟨_,rfl,?_⟩⟩
     cases gf:fitsB (b.set at' (tt.1,tt.2++[(m1,(r8:Int),m2)])) with
     |true=>exact iteT ⟨_,rfl,hD1 _ _ ⟨l,_,_,_,_,_,rfl,A7.trans (A18.same s19),L18.aft s19.x,by omega,hok',gf⟩⟩
     |false=>exact iteF (hD1 _ _ ⟨a,b,_,_,_,_,rfl,A7.trans (A18.same s19),La.aft s19.x,hbl,hok,hfit⟩)
    ·exact iteF (hD1 _ _ ⟨a,b,_,_,_,_,rfl,A7.trans A18,La,hbl,hok,hfit⟩)
   ·rintro σ H7 ⟨a,b,u5,u6,u7,u8,rfl,A7,L7,hbl,hok,hfit⟩
    obtain ⟨haz,vs,ha,R7⟩:=L7
    refine hU _ _ ⟨_,rfl,a,vs,rfl,.inl ⟨SqL.of ha,fun l nl=>k _ b _ (A7.new nl) (.tup zab (A7.2.ne nl) ((R7.mono zhK).mono (Same.new nl).x)) ⟨by omega,by omega,hok,?_⟩⟩⟩
    rw[←zhI hok]
    exact hfit
def Sm (m:Str):Prop:=1≤m.length∧m.length≤4
inductive zdc:List V→Hp→VK→XK→Prop where
 |mk {vs:List V} {H:Hp} {Q:VK} {E:XK} (z v b:_) (c1:vs=[v]) (c2:Rep z H v (bkD b)) (c3:BkOk b) (c4:∀p (ms:List Str) H',Same H H'→H p=none→H' p=some (.lst (ms.map V.str))→ms.length≤100→(∀m∈ms,Sm m)→Q (.ref p) H'):zdc vs H Q E
inductive zfi:List V→Hp→VK→XK→Prop where
 |mk {vs:List V} {H:Hp} {Q:VK} {E:XK} (z v b:_) (n:Nat) (c1:vs=[.ref z,v,.int n]) (c2:Bag z H) (c3:Rep z H v (bkD b)) (c4:BkOk b) (c5:0<n) (c6:n≤4000) (c7:∀x H',Aft z H H'→x.length+4≤4*n→Q (.str x) H'):zfi vs H Q E
theorem scLMarks:zav ["book","found","escape","doors","door"] ["book"] (zag zhO):=⟨rfl,rfl,rfl,by decide +kernel,rfl,by decide +kernel,by decide +kernel⟩
theorem zhR {f:Addr}{fd:FuncData}(F:Fun K "_law_marks" "_law_marks" zhO f fd):FnOk P w K mg base CX0 1 f fd ["book"] zdc:=by
 refine F.ok scLMarks (fun vs H Q E h=>?_) (fun cdv A outer s H vs Q E hr h=>?_)
 ·obtain ⟨z,v,b,rfl,_⟩:=h
  rfl
 ·obtain ⟨z,v,b,rfl,R0,hok,k⟩:=h
  obtain ⟨a,xs,rfl,haz,ha,hxl,R⟩:=zb9 R0
  obtain ⟨hb1,hb6,htok,_⟩:=hok
  have nd:=scLMarks.nd
  refine ⟨_,zac (zap (i:=1) nd rfl (Or.inl rfl) (zaF zae))
   (zac (zbO PassesOwn.never rfl (zbS (pv 0)) (zbu rfl (zat (zao (i:=2) nd rfl (Or.inl rfl)) (zat (zao (i:=3) nd rfl (Or.inl rfl)) za1)))
    (zac (zbO PassesOwn.never rfl (zbS (pv 3)) (zao (i:=4) nd rfl (Or.inl rfl)) (zai (zap (i:=1) nd rfl (Or.inl rfl) (zaB zdS (pv 1) (zaF (zaa (zau ix_tup (pv 4) zaf (fun _ _=>rfl)) (zaa (zau ix_tup (pv 4) zaf (fun _ _=>rfl)) zae)))))))
    (zai (zaW (zaw zd8 (pv 2) zay (zaz _)) (zai (zaO (zbU PySem.F.plainAttrs_list PySem.F.slot_list_append PySem.F.type_list_append zaK (pv 1) (zaa (pv 2) zae)))) zaA))))
   (zai (zax (pv 1)))),?_⟩
  dsimp only[cxOf,Cx.nox,Cx.wish]
  have big:=za6
  refine ⟨Nat.zero_le _,fun p0 np0=>?_⟩
  have s0:Same H (upd H p0 (.lst [])):=Same.new np0
  refine ⟨_,rfl,a,rfl,⟨_,SqT.of (s0 _ _ ha)⟩,zdm (K:=K) (a:=a) (xs:=xs) (fun i σ H2=>∃p ms u2 u3 u4,σ=[some (.ref a),some (.ref p),u2,u3,u4]∧Same H H2∧H p=none∧H2 p=some (.lst (ms.map V.str))∧ms.length≤13*i∧∀m∈ms,Sm m)
   ⟨p0,[],none,none,none,rfl,s0,np0,by rw[zab];rfl,by simp,by simp⟩ (fun i σ H2 _ ⟨_,_,_,_,_,_,s,_⟩=>SqT.of (s _ _ ha)) ?_ ?_⟩
  ·rintro i y σ H2 hi ⟨p,ms,u2,u3,u4,rfl,s2,np,hp,hml,hms⟩
   have hil:i<b.length:=by have:=(List.getElem?_eq_some_iff.mp hi).1;omega
   have ey:y=xs.getD i .non:=by rw[List.getD_eq_getElem?_getD,hi];rfl
   have tok:=htok _ (zaI tg0 hil)
   obtain ⟨c,d,ys,e,hcz,hdz,hc,hd,hyl,Ry⟩:=zaY (zaL (b:=b) (i:=i) R hil)
   have hyl:ys.length=(b.getD i tg0).2.length:=hyl
   rw[ey,e]
   generalize hT:b.getD i tg0=tt at *
   have few:=tok.2.1
   refine ⟨c,_,rfl,SqT.of (s2 _ _ hc),rfl,_,_,rfl,_,_,rfl,rfl,?_⟩
   refine ⟨_,rfl,d,rfl,⟨_,SqT.of (s2 _ _ hd)⟩,zdm (K:=K) (a:=d) (xs:=ys) (fun j σ H3=>∃p ms u4,σ=[some (.ref a),some (.ref p),some (.str tt.1),some (.ref d),u4]∧Same H H3∧H p=none∧H3 p=some (.lst (ms.map V.str))∧ms.length≤13*i+2*j∧∀m∈ms,Sm m)
    ⟨p,ms,_,rfl,s2,np,hp,by omega,hms⟩ (fun j σ H3 _ ⟨_,_,_,_,s,_⟩=>SqT.of (s _ _ hd)) ?_ ?_⟩
   ·rintro j y2 σ H3 hj ⟨p,ms,u4,rfl,s3,np,hp,hml,hms⟩
    have hjl:j<tt.2.length:=by have:=(List.getElem?_eq_some_iff.mp hj).1;omega
    have ey2:y2=ys.getD j .non:=by rw[List.getD_eq_getElem?_getD,hj];rfl
    obtain ⟨q,e2,hqz,hq⟩:=zbs (zbe (ds:=tt.2) (i:=j) Ry hjl)
    have dok:=tok.2.2 _ (zaI dr0 hjl)
    rw[ey2,e2]
    refine ⟨_,rfl,_,rfl,q,_,0,_,rfl,rfl,SqT.of (s3 _ _ hq),zah (j:=0) rfl,_,rfl,q,_,2,_,rfl,rfl,SqT.of (s3 _ _ hq),zah (j:=2) rfl,by show (2:Nat)≤_;omega,fun l nl=>?_⟩
    have s4:=Same.new (o:=.lst [.str (tt.2.getD j dr0).1,.str (tt.2.getD j dr0).2.2]) nl
    refine ⟨p,l,ms.map V.str,_,rfl,rfl,s4 _ _ hp,zab,by rw[List.length_map];show _+2≤_;omega,fun p2 np2=>?_⟩
    have s5:=Same.new (o:=.lst (ms.map V.str++[.str (tt.2.getD j dr0).1,.str (tt.2.getD j dr0).2.2])) np2
    refine ⟨p2,ms++[(tt.2.getD j dr0).1,(tt.2.getD j dr0).2.2],_,rfl,(s3.trans s4).trans s5,(s3.trans s4).free np2,by rw[zab];simp,by rw[List.length_append];show _+2≤_;omega,fun m hm=>?_⟩
    rcases List.mem_append.mp hm with hm|hm
    ·exact hms m hm
    ·have g1:=zaX dok.1
     have g2:=zaX dok.2.2
     simp only[List.mem_cons,List.not_mem_nil,or_false] at hm
     rcases hm with rfl|rfl
     ·exact ⟨g1.2,g1.1⟩
     ·exact ⟨g2.2,g2.1⟩
   ·rintro σ H3 ⟨p,ms,u4,rfl,s3,np,hp,hml,hms⟩
    refine ⟨_,rfl,rfl,_,rfl,?_⟩
    have el:tt.1.length≤1:=by have:=tok.1;unfold escD at this;simp at this;exact this.1
    refine ite2 (fun g=>?_) (fun g=>?_)
    ·refine ⟨_,rfl,.inl ⟨rfl,_,SqL.of hp⟩,_,rfl,p,_,_,rfl,rfl,hp,by rw[List.length_map];omega,?_⟩
     refine ⟨p,ms++[tt.1],_,_,_,rfl,fun b' o e'=>by rw[zaj (zad e' np)];exact s3 b' o e',np,by rw[zab];simp,by rw[List.length_append];show _+1≤_;omega,fun m hm=>?_⟩
     rcases List.mem_append.mp hm with hm|hm
     ·exact hms m hm
     ·have:m=tt.1:=by simpa using hm
      subst this
      refine ⟨?_,by omega⟩
      rcases zdV tt.1 el with ⟨ex,_⟩|⟨c',ex,_⟩
      ·rw[ex] at g
       simp at g
      ·rw[ex]
       show 1≤1
       exact Nat.le_refl _
    ·exact ⟨p,ms,_,_,_,rfl,s3,np,hp,by omega,hms⟩
  ·rintro σ H2 ⟨p,ms,u2,u3,u4,rfl,s2,np,hp,hml,hms⟩
   exact ⟨_,rfl,k p ms H2 s2 np hp (by omega) hms⟩
theorem scText:zav ["bag","book","most","some","found","turn","one"] ["bag","book","most"] (zag lText):=⟨rfl,rfl,rfl,by decide +kernel,rfl,by decide +kernel,by decide +kernel⟩
theorem zeo (z:Str) (lo hi:Option Int):(cutS z lo hi).length≤z.length:=by
 unfold cutS
 show (List.toArray _).size≤_
 rw[List.size_toArray,List.length_take,List.length_drop]
 have:z.cps.toList.length=z.length:=by simp;rfl
 omega
theorem zku:∀m∈[Str.ofString "x",Str.ofString " ",Str.ofString "a",Str.ofString "b",Str.ofString "\n"],1≤m.length∧m.length≤4:=by decide +kernel
theorem zkv {f f1 f2:Addr}{fd fd1 fd2:FuncData}(F:Fun K "_law_text" "_law_text" lText f fd) (T:TxtB mg)
  (k1:W.keepIn K (.ref f1)=true) (b1:Binds K fd1 ["bag","many"] []) (m1:mg "_law_take"=some (.ref f1)) (G1:FnOk P w K mg base CX0 1 f1 fd1 ["bag","many"] zc5)
  (k2:W.keepIn K (.ref f2)=true) (b2:Binds K fd2 ["book"] []) (m2:mg "_law_marks"=some (.ref f2)) (G2:FnOk P w K mg base CX0 1 f2 fd2 ["book"] zdc):FnOk P w K mg base CX0 2 f fd ["bag","book","most"] zfi:=by
 refine F.ok scText (fun vs H Q E h=>?_) (fun cdv A outer s H vs Q E hr h=>?_)
 ·obtain ⟨z,v,b,n,rfl,_⟩:=h
  rfl
 ·obtain ⟨z,v,b,n,rfl,hB,R,hok,hn1,hn2,k⟩:=h
  have nd:=scText.nd
  refine ⟨_,zac (zap (i:=3) nd rfl (Or.inl rfl) (zaB zdS (zas G2 hr rfl m2 k2 b2 .nil pass0 (zaa (pv 1) zae)) (zaF (pa_K zay (pa_K zay (pa_K zay (pa_K zay (pa_K zay zae))))))))
   (zac (zap (i:=4) nd rfl (Or.inl rfl) zay)
   (zac (zbO PassesOwn.never rfl (zbm rfl T.range (zaa (zas G1 hr rfl m1 k1 b1 .nil pass0 (zaa (pv 0) (zaa (pv 2) zae))) zae)) (zao (i:=5) nd rfl (Or.inl rfl))
    (zac (zap (i:=6) nd rfl (Or.inl rfl) (zau ix_list (pv 3) (zas G1 hr rfl m1 k1 b1 .nil pass0 (zaa (pv 0) (zaa (zaq zaC (by rfl) T.len b_len (zaa (pv 3) zae)) zae))) (fun _ _=>rfl)))
    (zac (zaW (zaw zcg (zas G1 hr rfl m1 k1 b1 .nil pass0 (zaa (pv 0) (zaa zaf zae))) zaf (zaz _))
     (zai (zap (i:=6) nd rfl (Or.inl rfl) (zaT zcz (pv 6) zbo (zaS (zaB zaQ zaf (zas G1 hr rfl m1 k1 b1 .nil pass0 (zaa (pv 0) (zaa (zaq zar (by rfl) T.len b_len (zaa (pv 6) zae)) zae)))))))) zaA)
    (zai (zap (i:=4) nd rfl (Or.inl rfl) (zaB za7 (pv 4) (pv 6)))))))
   (zai (zax (pv 4))))),?_⟩
  dsimp only[cxOf,Cx.nox,Cx.wish]
  have big:=za6
  have big2:(100000:Nat)≤sizeLine:=by rw[sizeLine_eq];decide
  refine ⟨_,rfl,z,v,b,rfl,R,hok,fun p1 ms H1 s1 np1 hp1 hml hms=>⟨by show (5:Nat)≤_;omega,fun l nl=>?_⟩⟩
  have s2:=Same.new (o:=.lst ([Str.ofString "x",Str.ofString " ",Str.ofString "a",Str.ofString "b",Str.ofString "\n"].map V.str)) nl
  refine ⟨p1,l,ms.map V.str,[Str.ofString "x",Str.ofString " ",Str.ofString "a",Str.ofString "b",Str.ofString "\n"].map V.str,rfl,rfl,s2 _ _ hp1,zab,by rw[List.length_map];show _+5≤_;omega,fun p2 np2=>?_⟩
  have np2:upd H1 l (.lst ([Str.ofString "x",Str.ofString " ",Str.ofString "a",Str.ofString "b",Str.ofString "\n"].map V.str)) p2=none:=np2
  have emap:ms.map V.str++[Str.ofString "x",Str.ofString " ",Str.ofString "a",Str.ofString "b",Str.ofString "\n"].map V.str=(ms++[Str.ofString "x",Str.ofString " ",Str.ofString "a",Str.ofString "b",Str.ofString "\n"]).map V.str:=(List.map_append ..).symm
  rw[emap]
  have five:=zku
  show (tSeq _ _) _ _ (upd (upd H1 l (.lst ([Str.ofString "x",Str.ofString " ",Str.ofString "a",Str.ofString "b",Str.ofString "\n"].map V.str))) p2 (.lst ((ms++[Str.ofString "x",Str.ofString " ",Str.ofString "a",Str.ofString "b",Str.ofString "\n"]).map V.str)))
  clear emap
  have h5:[Str.ofString "x",Str.ofString " ",Str.ofString "a",Str.ofString "b",Str.ofString "\n"].length=5:=rfl
  generalize [Str.ofString "x",Str.ofString " ",Str.ofString "a",Str.ofString "b",Str.ofString "\n"]=f5 at *
  have s3:=Same.new (o:=.lst ((ms++f5).map V.str)) np2
  have hB2:=((hB.same s1).same s2)
  have hz2:=hB2.ne np2
  have A3:Aft z H (upd (upd H1 l (.lst (f5.map V.str))) p2 (.lst ((ms++f5).map V.str))):=(((Aft.refl hB).same s1).same s2).new np2
  have hp3:upd (upd H1 l (.lst (f5.map V.str))) p2 (.lst ((ms++f5).map V.str)) p2=some (.lst ((ms++f5).map V.str)):=zab
  generalize upd (upd H1 l (.lst (f5.map V.str))) p2 (.lst ((ms++f5).map V.str))=H3 at A3 hp3
  have hall:∀m∈ms++f5,Sm m:=fun m hm=>(List.mem_append.mp hm).elim (hms m) (five m)
  have hlen:(ms++f5).length≤105:=by rw[List.length_append];omega
  have hlen1:1≤(ms++f5).length:=by rw[List.length_append];omega
  generalize ms++f5=so at *
  refine ⟨_,rfl,_,rfl,z,n,rfl,A3.2,by omega,by omega,fun r H4 hr4 a4=>⟨r,rfl,by omega,by omega,?_⟩⟩
  have hp4:=a4.1 _ _ hz2 hp3
  have A4:=A3.trans a4
  have er:((r:Int)).toNat=r:=Int.toNat_natCast r
  rw[er]
  have hlm:(so.map V.str).length=so.length:=List.length_map ..
  refine zbB (fun i σ H5=>∃x u5 u6,σ=[some (.ref z),some v,some (.int n),some (.ref p2),some (.str x),u5,u6]∧Aft z H H5∧H5 p2=some (.lst (so.map V.str))∧x.length≤4*i) ⟨_,none,none,rfl,A4,hp4,by decide +kernel⟩ ?_ ?_
  ·rintro i σ H5 hi ⟨x,u5,u6,rfl,A5,hp5,hxl⟩
   refine ⟨_,rfl,_,rfl,_,rfl,p2,_,rfl,.inl (SqL.of hp5),z,(so.map V.str).length,rfl,A5.2,by omega,by omega,fun r2 H6 hr2 a6=>?_⟩
   have hr3:r2<so.length:=by omega
   have A6:=A5.trans a6
   have hp6:=a6.1 _ _ hz2 hp5
   obtain ⟨g1,g2⟩:=hall so[r2] (List.getElem_mem hr3)
   refine ⟨p2,_,r2,.str so[r2],rfl,rfl,SqL.of hp6,zah (by simp[hr3]),?_⟩
   generalize so[r2]=m at g1 g2
   refine ⟨_,rfl,z,6,rfl,A6.2,by decide,by decide,fun r3 H7 hr7 a7=>⟨rfl,_,rfl,?_⟩⟩
   have A7:=A6.trans a7
   have hp7:=a7.1 _ _ hz2 hp6
   refine ite2 (fun g=>?_) (fun g=>?_)
   ·refine ⟨_,rfl,_,rfl,_,rfl,m,rfl,by omega,z,m.length,rfl,A7.2,by omega,by omega,fun r4 H8 hr8 a8=>⟨1,r4,rfl,rfl,_,rfl,m,rfl,by omega,?_⟩⟩
    have hc:=zeo m none (some (1+(r4:Int)))
    exact ⟨_,rfl,_,rfl,_,_,rfl,rfl,by omega,_,_,_,rfl,A7.trans a8,a8.1 _ _ hz2 hp7,by rw[zbj];omega⟩
   ·exact ⟨_,rfl,_,rfl,_,_,rfl,rfl,by omega,_,_,_,rfl,A7,hp7,by rw[zbj];omega⟩
  ·rintro σ H5 ⟨x,u5,u6,rfl,A5,hp5,hxl⟩
   exact ⟨_,rfl,k x H5 A5 (by omega)⟩
abbrev LDr:=Int×Int×Str
def ldD (d:LDr):D:=.tup [.int d.1,.int d.2.1,.str d.2.2]
abbrev ld0:LDr:=(0,0,⟨#[]⟩)
theorem zep:∀ds:List LDr,NoLs (ds.map ldD)
 |[]=>.nil
 |d::r=>.cons (.tup (.cons (.int _) (.cons (.int _) (.cons (.str _) .nil)))) (zep r)
theorem zhS {z:Addr}{H:Hp}{v:V}{d:LDr}(r:Rep z H v (ldD d)):∃a,v=.ref a∧a≠z∧H a=some (.tup [.int d.1,.int d.2.1,.str d.2.2]):=by
 cases r with
 |tup h hz r=>
  cases r with
  |cons r1 r=>
   cases r with
   |cons r2 r=>
    cases r with
    |cons r3 r=>
     cases r
     cases r1
     cases r2
     cases r3
     exact ⟨_,rfl,hz,h⟩
theorem zfH {z:Addr}{H:Hp}{xs:List V}{ds:List LDr}{i:Nat}(r:Reps z H xs (ds.map ldD)) (hi:i<ds.length):Rep z H (xs.getD i .non) (ldD (ds.getD i ld0)):=by
 have:=r.get (i:=i) (by simpa using hi)
 simpa [hi] using this
def LdOk (b:Bk) (ds:List LDr):Prop:=∀d∈ds,(0≤d.2.1∧d.2.1<b.length)∧Sm d.2.2
def zal (ds:List LDr):Int:=match ds.getLast? with
 |some d=>d.2.1
 |none=>0
def lastL (ds:List LDr):List LDr:=ds.drop (ds.length-1)
def fitAt (x:Str) (i:Nat) (m:Str):Bool:=decide (V.str (cutS x (some (i:Int)) (some ((i:Int)+m.length)))=V.str m)
def someL (b:Bk) (ds:List LDr):List Str:=zaD (b.getD (zal ds).toNat tg0).2++(lastL ds).map (·.2.2)
def fitL (b:Bk) (ds:List LDr) (x:Str) (i:Nat):List Str:=(someL b ds).filter (fitAt x i)
theorem zi8 (vs:List V):cutV vs (some (-1)) none=vs.drop (vs.length-1):=by
 unfold cutV
 have e:HT.sIx vs.length 0 (some (-1))=vs.length-1:=by
  show (if (-1:Int)<0 then ((-1:Int)+(vs.length:Int)).toNat else min (-1:Int).toNat vs.length)=_
  rw[if_pos (by decide)]
  omega
 rw[e,HT.sIx_none]
 rw[List.take_of_length_le]
 rw[List.length_drop]
 exact Nat.le_refl _
theorem zdW (so:List Str) (d:Str) (p:Str→Bool):∀n,n≤so.length→flatN (fun i=>(if p (so.getD i d) then some (V.str (so.getD i d)) else none).toList) n=((so.take n).filter p).map V.str
 |0,_=>by simp[flatN]
 |n+1,h=>by
  have hn:n<so.length:=h
  simp only[flatN]
  rw[zdW so d p n (by omega),List.take_add_one,List.filter_append,List.map_append]
  congr 1
  have e:so.getD n d=so[n]:=by simp[hn]
  rw[e,List.getElem?_eq_getElem hn]
  cases g:p so[n]<;>simp[g]
def LDs (z:Addr) (H:Hp) (q:Addr) (ds:List LDr):Prop:=∃vs,H q=some (.lst vs)∧Reps z H vs (ds.map ldD)
theorem LDs.same {z:Addr}{H H':Hp}{q:Addr}{ds:List LDr}(h:LDs z H q ds) (s:Same H H'):LDs z H' q ds:=let ⟨vs,a,r⟩:=h;⟨vs,s _ _ a,r.mono s.x⟩
structure Wrp (G:Prop):Prop where
 out:G
theorem zeq {c A B G:Prop} [Decidable c] (h1:c→Wrp G→A) (h2:¬c→Wrp G→B) (g:G):if c then A else B:=by
 by_cases h:c
 ·rw[if_pos h]
  exact h1 h ⟨g⟩
 ·rw[if_neg h]
  exact h2 h ⟨g⟩
inductive zcB:List V→Hp→VK→XK→Prop where
 |mk {vs:List V} {H:Hp} {Q:VK} {E:XK} (z v b q ds x:_) (i:Nat) (c1:vs=[v,.ref q,.str x,.int i]) (c2:Rep z H v (bkD b)) (c3:BkOk b) (c4:LDs z H q ds) (c5:LdOk b ds) (c6:x.length≤20000) (c7:∀p (ys:List Str) H',Same H H'→H p=none→H' p=some (.lst (ys.map V.str))→ys.Perm (fitL b ds x i)→ys.Pairwise (fun a c=>c.length≤a.length)→Q (.ref p) H'):zcB vs H Q E
theorem scFitting:zav ["book","doors","text","place","tongue","some"] ["book","doors","text","place"] (zag zcb):=⟨rfl,rfl,rfl,by decide +kernel,rfl,by decide +kernel,by decide +kernel⟩
theorem ndMPT:(["mark","place","text"]:List Str).Nodup:=by decide +kernel
theorem zgJ {f:Addr}{fd:FuncData}(F:Fun K "_law_fitting" "_law_fitting" zcb f fd) (T:TxtB mg):FnOk P w K mg base CX0 1 f fd ["book","doors","text","place"] zcB:=by
 refine F.ok scFitting (fun vs H Q E h=>?_) (fun cdv A outer s H vs Q E hr h=>?_)
 ·obtain ⟨z,v,b,q,ds,x,i,rfl,_⟩:=h
  rfl
 ·obtain ⟨z,v,b,q,ds,x,i,rfl,R0,hok,⟨vs,hq,RD⟩,hld,hx,k⟩:=h
  obtain ⟨a,xs,rfl,haz,ha,hxl,R⟩:=zb9 R0
  obtain ⟨hb1,hb6,htok,_⟩:=hok
  have nd:=scFitting.nd
  refine ⟨_,zac (zap (i:=4) nd rfl (Or.inl rfl) zaf)
   (zac (zaW (zaw (zbE hr.units0) (pv 1) (zaF zae) (zaz _)) (zai (zap (i:=4) nd rfl (Or.inl rfl) (zau ix_tup (zau ix_list (pv 1) (zbP zbf zaf) (fun _ _=>rfl)) zaf (fun _ _=>rfl)))) zaA)
   (zac (zap (i:=5) nd rfl (Or.inl rfl) (zaB zdS
     (zbr (N':=["door"]) (js:=[none]) rfl rfl (zbx (zag zcb) (by decide +kernel)) trivial (zbS (zau ix_tup (zau ix_tup (pv 0) (pv 4) (fun _ _=>rfl)) zaf (fun _ _=>rfl)))
      (fun cl s H fp=>zao (i:=0) ndD rfl (Or.inl rfl)) (fun cl s H fp=>zbV) (fun cl s H fp=>zau zbW (pv 0) zaf (fun _ _=>rfl)))
     (zbr (N':=["door"]) (js:=[none]) rfl rfl (zbx (zag zcb) (by decide +kernel)) trivial (zbR (zaT zcO (pv 1) (zaS (zbP zbf zaf)) zbo))
      (fun cl s H fp=>zao (i:=0) ndD rfl (Or.inl rfl)) (fun cl s H fp=>zbV) (fun cl s H fp=>zau zbW (pv 0) zaf (fun _ _=>rfl)))))
   (zai (zax (zlc (zeg T.sorted T.len (zbr (N':=["mark","place","text"]) (js:=[none,some 3,some 2]) rfl rfl (zbx (zag zcb) (by decide +kernel)) ⟨rfl,Or.inr (Or.inl rfl),rfl,rfl,Or.inr (Or.inl rfl),rfl,trivial⟩ (zbR (pv 5))
     (fun cl s H fp=>zao (i:=0) ndMPT rfl (Or.inl rfl)) (fun cl s H fp=>zcR (zaw zcg (zaT zcz (pv 2) (zaS (pv 1)) (zaS (zaB zaQ (pv 1) (zaq zar (by rfl) T.len b_len (zaa (pv 0) zae))))) (pv 0) (zaz _))) (fun cl s H fp=>pv 0))) (zbP zbf zaf) (fun σ H Q Q' ⟨i,e,h⟩ hm=>⟨i,e,hm _ _ h⟩)))))),?_⟩
  dsimp only[cxOf,Cx.nox,Cx.wish]
  have big:=za6
  have hvl:vs.length=ds.length:=by have:=RD.length;simpa using this
  refine ⟨_,rfl,Nat.zero_le _,fun l nl=>?_⟩
  have s1:=Same.new (o:=.lst []) nl
  have hql:q≠l:=zad hq nl
  refine ⟨q,l,vs,rfl,rfl,s1 _ _ hq,zab,_,rfl,?_⟩
  generalize upd H l (.lst [])=H1 at s1
  obtain ⟨tN,htN,htl⟩:∃tN:Nat,zal ds=(tN:Int)∧tN<b.length:=by
   unfold zal
   cases g:ds.getLast? with
   |none=>exact ⟨0,rfl,by omega⟩
   |some d=>
    have:=(hld d (List.mem_of_getLast? g)).1
    exact ⟨d.2.1.toNat,by show d.2.1=_;omega,by omega⟩
  refine zeq (G:=?G) (fun hne g=>?g1) (fun hne g=>?g2) ?g3
  case g1=>
   have hpos:0<ds.length:=by
    cases vs with
    |nil=>simp at hne
    |cons _ _=>simp at hvl;omega
   have hlast:ds.getLast?=some (ds.getD (ds.length-1) ld0):=by
    rw[List.getLast?_eq_getElem?]
    have:ds.length-1<ds.length:=by omega
    simp[this]
   have htd:(ds.getD (ds.length-1) ld0).2.1=(tN:Int):=by
    rw[←htN]
    unfold zal
    rw[hlast]
   obtain ⟨ad,ed,hadz,had⟩:=zhS ((zfH (ds:=ds) (i:=ds.length-1) RD (by omega)).mono s1.x)
   have hat:atI vs (-1)=some (.ref ad):=by
    have e1:ixN vs.length (-1)=some (vs.length-1):=by
     unfold ixN
     rw[if_neg (by decide),if_pos (by omega)]
     congr 1
     omega
    unfold atI
    rw[e1]
    show vs[vs.length-1]?=_
    have h1:vs.length-1<vs.length:=by omega
    have h2:vs.getD (vs.length-1) .non=vs[vs.length-1]:=by simp[h1]
    rw[List.getElem?_eq_getElem h1,←h2,hvl,ed]
   refine ⟨_,rfl,1,rfl,q,vs,-1,_,rfl,rfl,SqL.of (s1 _ _ hq),hat,ad,_,1,_,rfl,rfl,SqT.of had,zah (j:=1) rfl,?_⟩
   show (tSeq _ _) _ [some (.ref a),some (.ref q),some (.str x),some (.int i),some (.int (ds.getD (ds.length-1) ld0).2.1),none] _
   rw[htd]
   exact g.out
  case g2=>
   have hz:ds.length=0:=by
    cases vs with
    |nil=>simp at hvl;omega
    |cons _ _=>simp at hne
   have htd:(some (V.int 0):Option V)=some (V.int (tN:Int)):=by
    rw[←htN]
    unfold zal
    have:ds=[]:=List.eq_nil_of_length_eq_zero hz
    rw[this]
    rfl
   show (tSeq _ _) _ [some (.ref a),some (.ref q),some (.str x),some (.int i),some (.int 0),none] _
   rw[htd]
   exact g.out
  case g3=>
   obtain ⟨c,d,ys,ec,hcz,hdz,hc,hd,hyl,Ry⟩:=zaY ((zaL (b:=b) (i:=tN) R htl).mono s1.x)
   have exv:xs[tN]?=some (.ref c):=by
    have h1:tN<xs.length:=by omega
    have h2:xs.getD tN .non=xs[tN]:=by simp[h1]
    rw[List.getElem?_eq_getElem h1,←h2,ec]
   have tok:=htok _ (zaI tg0 htl)
   have hyl:ys.length=(b.getD tN tg0).2.length:=hyl
   have etn:b.getD (zal ds).toNat tg0=b.getD tN tg0:=by rw[htN];rfl
   have hfit:fitL b ds x i=(zaD (b.getD tN tg0).2++(lastL ds).map (·.2.2)).filter (fitAt x i):=by unfold fitL someL;rw[etn]
   rw[hfit] at k
   clear hfit etn
   generalize hT:b.getD tN tg0=tt at *
   have few:=tok.2.1
   refine ⟨_,rfl,_,rfl,a,xs,tN,_,rfl,rfl,SqT.of (s1 _ _ ha),zah exv,c,_,1,_,rfl,rfl,SqT.of hc,zah (j:=1) rfl,d,rfl,⟨_,SqT.of hd⟩,fun pA npA=>?_⟩
   have hdp:d≠pA:=zad hd npA
   refine zee (fun j=>.str (tt.2.getD j dr0).1) (fun σ=>∃v,σ=[v]) ⟨none,rfl⟩ npA (by omega) (zcx (xs:=ys) (by rw[zaj hdp];exact hd) hdp) (fun j σ H2 C hj ⟨v,hv⟩ hS2 hC=>?_) (fun σ H2 s2 hH2=>?_)
   ·subst hv
    obtain ⟨q3,e3,hq3z,hq3⟩:=zbs ((zbe (ds:=tt.2) (i:=j) Ry (by omega)).mono hS2.x)
    rw[e3]
    exact ⟨_,rfl,q3,_,0,_,rfl,rfl,SqT.of hq3,zah (j:=0) rfl,hC _ H2 ⟨_,rfl⟩ (Same.refl _)⟩
   have hO:H2 pA=some (.lst ((zaD tt.2).map V.str)):=by
    rw[hH2,hyl]
    unfold zaD
    rw[List.map_map]
    exact congrArg (fun x=>some (HO.lst x)) (zdu tt.2 dr0 fun d=>V.str d.1)
   have hq2:=s2 _ _ (s1 _ _ hq)
   refine ⟨_,rfl,1,rfl,-1,rfl,q,vs,rfl,SqL.of hq2,fun lB nlB=>⟨lB,rfl,⟨_,SqL.of zab⟩,fun pB npB=>?_⟩⟩
   have sB:=Same.new (o:=.lst (cutV vs (some (-1)) none)) nlB
   have hlB:upd H2 lB (.lst (cutV vs (some (-1)) none)) lB=some (.lst (vs.drop (vs.length-1))):=by rw[zab,zi8]
   have hlBp:lB≠pB:=zad hlB npB
   have RL:Reps z (upd H2 lB (.lst (cutV vs (some (-1)) none))) (vs.drop (vs.length-1)) ((lastL ds).map ldD):=by
    unfold lastL
    rw[List.map_drop,hvl]
    exact (RD.mono ((s1.trans s2).trans sB).x).drop _
   have hll:(vs.drop (vs.length-1)).length=(lastL ds).length:=by have:=RL.length;simpa using this
   have hl1:(lastL ds).length≤1:=by unfold lastL;rw[List.length_drop];omega
   refine zee (fun j=>.str ((lastL ds).getD j ld0).2.2) (fun σ=>∃v,σ=[v]) ⟨none,rfl⟩ npB (by omega) (zb7 (xs:=vs.drop (vs.length-1)) (by rw[zaj hlBp];exact hlB) hlBp) (fun j σ H3 C hj ⟨v,hv⟩ hS3 hC=>?_) (fun σ H3 s3 hH3=>?_)
   ·subst hv
    obtain ⟨q3,e3,hq3z,hq3⟩:=zhS ((zfH (ds:=lastL ds) (i:=j) RL (by omega)).mono hS3.x)
    rw[e3]
    exact ⟨_,rfl,q3,_,2,_,rfl,rfl,SqT.of hq3,zah (j:=2) rfl,hC _ H3 ⟨_,rfl⟩ (Same.refl _)⟩
   have hC3:H3 pB=some (.lst (((lastL ds).map (·.2.2)).map V.str)):=by
    rw[hH3,hll,List.map_map]
    exact congrArg (fun x=>some (HO.lst x)) (zdu (lastL ds) ld0 fun d=>V.str d.2.2)
   have s23:=sB.trans s3
   have hopl:((zaD tt.2).map V.str).length≤6:=by unfold zaD;simp;omega
   have hcll:(((lastL ds).map (·.2.2)).map V.str).length≤1:=by simp;omega
   refine ⟨pA,pB,_,_,rfl,rfl,s23 _ _ hO,hC3,by omega,fun pS npS=>?_⟩
   rw[←List.map_append]
   have s4:=Same.new (o:=.lst ((zaD tt.2++(lastL ds).map (·.2.2)).map V.str)) npS
   have hpS:upd H3 pS (.lst ((zaD tt.2++(lastL ds).map (·.2.2)).map V.str)) pS=some (.lst ((zaD tt.2++(lastL ds).map (·.2.2)).map V.str)):=zab
   have S4:=((s1.trans s2).trans s23).trans s4
   generalize upd H3 pS (.lst ((zaD tt.2++(lastL ds).map (·.2.2)).map V.str))=H4 at S4 hpS
   have hsm:∀m∈zaD tt.2++(lastL ds).map (·.2.2),Sm m:=fun m hm=>by
    rcases List.mem_append.mp hm with hm|hm
    ·obtain ⟨dd,hdd,rfl⟩:=List.mem_map.mp hm
     have g:=zaX (tok.2.2 dd hdd).1
     exact ⟨g.2,g.1⟩
    ·obtain ⟨dd,hdd,rfl⟩:=List.mem_map.mp hm
     exact (hld dd (List.mem_of_mem_drop hdd)).2
   have hsl:(zaD tt.2++(lastL ds).map (·.2.2)).length≤7:=by simp at hopl hcll ⊢;omega
   generalize zaD tt.2++(lastL ds).map (·.2.2)=so at *
   have hsm2:(so.map V.str).length=so.length:=List.length_map ..
   refine ⟨_,rfl,pS,rfl,⟨_,SqL.of hpS⟩,fun pC npC=>?_⟩
   have hSC:pS≠pC:=zad hpS npC
   refine zbw (fun j=>if fitAt x i (so.getD j ⟨#[]⟩) then some (.str (so.getD j ⟨#[]⟩)) else none) (fun σ=>∃v,σ=[v,some (.int i),some (.str x)]) ⟨none,rfl⟩ npC (by omega) (zb7 (xs:=so.map V.str) (by rw[zaj hSC];exact hpS) hSC) (fun j σ H5 C hj ⟨v,hv⟩ hS5 hC=>?_) (fun σ H5 s5 hH5=>?_)
   ·subst hv
    have hj':j<so.length:=by omega
    have ej:(so.map V.str).getD j .non=.str (so.getD j ⟨#[]⟩):=by simp[hj']
    have g:=hsm _ (zaI ⟨#[]⟩ hj')
    rw[ej]
    have hC':=hC [some (.str (so.getD j ⟨#[]⟩)),some (.int i),some (.str x)] H5 ⟨_,rfl⟩ (Same.refl _)
    have hx2:x.length≤sizeLine:=by have:(20000:Nat)≤sizeLine:=by rw[sizeLine_eq];decide
                                   omega
    refine ⟨_,rfl,_,rfl,i,rfl,_,rfl,_,rfl,_,rfl,by have:=g.2;omega,i,_,rfl,rfl,_,rfl,x,rfl,hx2,_,rfl,rfl,_,rfl,?_⟩
    show if fitAt x i (so.getD j ⟨#[]⟩)=true then _ else _
    cases g2:fitAt x i (so.getD j ⟨#[]⟩) with
    |true=>
     rw[g2,if_pos rfl] at hC'
     exact iteT ⟨_,rfl,hC'⟩
    |false=>
     rw[g2,if_neg (by simp)] at hC'
     exact iteF hC'
   rw[hsm2,zdW so ⟨#[]⟩ (fitAt x i) _ (Nat.le_refl _),List.take_length] at hH5
   have hfl:(so.filter (fitAt x i)).length≤7:=Nat.le_trans (List.length_filter_le _ _) hsl
   refine ⟨pC,so.filter (fitAt x i),rfl,SqL.of hH5,by omega,fun y hy=>by have:=(hsm y (List.mem_filter.mp hy).1).2;omega,fun pT ys2 npT perm pw=>?_⟩
   have s6:=Same.new (o:=.lst (ys2.map V.str)) npT
   refine ⟨1,rfl,pT,ys2.map V.str,rfl,rfl,SqL.of zab,fun pR npR=>?_⟩
   have s7:=Same.new (o:=.lst (ys2.map V.str).reverse) npR
   refine k pR ys2.reverse _ ((S4.trans s5).trans (s6.trans s7)) (((S4.trans s5).trans s6).free npR) (by rw[zab,List.map_reverse]) ((List.reverse_perm ys2).trans perm) ?_
   rw[List.pairwise_reverse]
   exact pw.imp fun h=>by simpa using h
abbrev Stp:=Int×Int×Str×Int×Int
def stV (s:Stp):List V:=[.int s.1,.int s.2.1,.str s.2.2.1,.int s.2.2.2.1,.int s.2.2.2.2]
def stD (s:Stp):D:=.tup [.int s.1,.int s.2.1,.str s.2.2.1,.int s.2.2.2.1,.int s.2.2.2.2]
def stepL (b:Bk) (ds:List LDr) (x:Str) (i:Nat) (m:Str):Stp×List LDr:=
 if (b.getD (zal ds).toNat tg0).1≠Str.ofString ""∧(⟨#[x.cps.getD i 0]⟩:Str)=(b.getD (zal ds).toNat tg0).1 then
  (if i+1=x.length then (((i:Int),1,Str.ofString "cut",zal ds,(ds.length:Int)),ds) else (((i:Int),2,Str.ofString "escape",zal ds,(ds.length:Int)),ds))
 else if m=Str.ofString "" then (((i:Int),1,Str.ofString "sign",zal ds,(ds.length:Int)),ds)
 else if ds≠[]∧m=(ds.getD (ds.length-1) ld0).2.2 then (((i:Int),(m.length:Int),Str.ofString "close",zal ds.dropLast,(ds.length:Int)-1),ds.dropLast)
 else match (b.getD (zal ds).toNat tg0).2.filter (fun d=>d.1==m) with
  |d::_=>(((i:Int),(m.length:Int),Str.ofString "open",zal ds,(ds.length:Int)),ds++[((i:Int),d.2.1,d.2.2)])
  |[]=>(((i:Int),0,Str.ofString "",0,0),ds)
theorem zer {z:Addr}{H:Hp}{q:Addr}{ds:List LDr}{vs:List V}(RD:Reps z H vs (ds.map ldD)) (hpos:0<ds.length):∃ad,atI vs (-1)=some (.ref ad)∧H ad=some (.tup [.int (ds.getD (ds.length-1) ld0).1,.int (ds.getD (ds.length-1) ld0).2.1,.str (ds.getD (ds.length-1) ld0).2.2]):=by
 have hvl:vs.length=ds.length:=by have:=RD.length;simpa using this
 obtain ⟨ad,ed,hadz,had⟩:=zhS (zfH (ds:=ds) (i:=ds.length-1) RD (by omega))
 refine ⟨ad,?_,had⟩
 have e1:ixN vs.length (-1)=some (vs.length-1):=by
  unfold ixN
  rw[if_neg (by decide),if_pos (by omega)]
  congr 1
  omega
 unfold atI
 rw[e1]
 show vs[vs.length-1]?=_
 have h1:vs.length-1<vs.length:=by omega
 have h2:vs.getD (vs.length-1) .non=vs[vs.length-1]:=by simp[h1]
 rw[List.getElem?_eq_getElem h1,←h2,hvl,ed]
theorem zcl {ds:List LDr}(h:0<ds.length):zal ds=(ds.getD (ds.length-1) ld0).2.1:=by
 have hlast:ds.getLast?=some (ds.getD (ds.length-1) ld0):=by
  rw[List.getLast?_eq_getElem?]
  have:ds.length-1<ds.length:=by omega
  simp[this]
 unfold zal
 rw[hlast]
theorem za8 {b:Bk}{ds:List LDr}(hld:LdOk b ds) (hb:1≤b.length):∃tN:Nat,zal ds=(tN:Int)∧tN<b.length:=by
 unfold zal
 cases g:ds.getLast? with
 |none=>exact ⟨0,rfl,by omega⟩
 |some d=>
  have:=(hld d (List.mem_of_getLast? g)).1
  exact ⟨d.2.1.toNat,by show d.2.1=_;omega,by omega⟩
mutual
theorem Rep.butL {z q:Addr}{H H':Hp}{l:List V}(hq:H q=some (.lst l)) (s:SameX q H H'):∀ {v:V}{d:D},Rep z H v d→NoL d→Rep z H' v d
 |_,_,.non,_=>.non
 |_,_,.bl b,_=>.bl b
 |_,_,.int i,_=>.int i
 |_,_,.str x h,_=>.str x h
 |_,_,.tup h hz r,.tup t=>.tup (s _ _ (zan h hq (by intro q;cases q)) h) hz (Reps.butL hq s r t)
theorem Reps.butL {z q:Addr}{H H':Hp}{l:List V}(hq:H q=some (.lst l)) (s:SameX q H H'):∀ {vs:List V}{ds:List D},Reps z H vs ds→NoLs ds→Reps z H' vs ds
 |_,_,.nil,_=>.nil
 |_,_,.cons h t,.cons h' t'=>.cons (Rep.butL hq s h h') (Reps.butL hq s t t')
end
theorem zdX {α:Type}(ds:List α) (d0:α) (p:α→Bool) (g:Nat→V):∀n,n≤ds.length→((ds.take n).filter p=[]∧flatN (fun i=>(if p (ds.getD i d0) then some (g i) else none).toList) n=[]) ∨
  ∃d r j,(ds.take n).filter p=d::r∧j<n∧ds.getD j d0=d∧(flatN (fun i=>(if p (ds.getD i d0) then some (g i) else none).toList) n)[0]?=some (g j)
 |0,_=>.inl ⟨by simp,rfl⟩
 |n+1,h=>by
  have hn:n<ds.length:=h
  have e:ds.getD n d0=ds[n]:=by simp[hn]
  have et:(ds.take (n+1)).filter p=(ds.take n).filter p++(if p ds[n] then [ds[n]] else []):=by
   rw[List.take_add_one,List.filter_append,List.getElem?_eq_getElem hn]
   cases g2:p ds[n]<;>simp[g2]
  have ef:flatN (fun i=>(if p (ds.getD i d0) then some (g i) else none).toList) (n+1)=flatN (fun i=>(if p (ds.getD i d0) then some (g i) else none).toList) n++(if p ds[n] then [g n] else []):=by
   simp only[flatN]
   rw[e]
   cases g2:p ds[n]<;>rfl
  rcases zdX ds d0 p g n (by omega) with ⟨h1,h2⟩|⟨d,r,j,h1,h2,h3,h4⟩
  ·rw[et,ef,h1,h2]
   cases g2:p ds[n] with
   |false=>exact .inl ⟨rfl,rfl⟩
   |true=>exact .inr ⟨ds[n],[],n,rfl,by omega,e,rfl⟩
  ·refine .inr ⟨d,r++(if p ds[n] then [ds[n]] else []),j,by rw[et,h1];rfl,by omega,h3,?_⟩
   rw[ef,List.getElem?_append_left]
   ·exact h4
   ·exact (List.getElem?_eq_some_iff.mp h4).1
theorem Reps.dropLast {z:Addr}{H:Hp}{vs:List V}{ds:List D}(r:Reps z H vs ds):Reps z H vs.dropLast ds.dropLast:=by
 rw[List.dropLast_eq_take,List.dropLast_eq_take,r.length]
 exact r.take _
inductive zgg:List V→Hp→VK→XK→Prop where
 |mk {vs:List V} {H:Hp} {Q:VK} {E:XK} (z v b q ds x m:_) (i:Nat) (c1:vs=[v,.ref q,.str x,.int i,.str m]) (c2:Bag z H) (c3:q≠z) (c4:Rep z H v (bkD b)) (c5:BkOk b) (c6:LDs z H q ds) (c7:LdOk b ds) (c8:i<x.length) (c9:x.length≤20000) (c10:ds.length≤20000) (c11:(m=Str.ofString ""∨m∈someL b ds)) (c12:∀p H',SameX q H H'→H p=none→H' p=some (.tup (stV (stepL b ds x i m).1))→LDs z H' q (stepL b ds x i m).2→Q (.ref p) H'):zgg vs H Q E
theorem scStepL:zav ["book","doors","text","place","mark","tongue","depth","cut","around","door"] ["book","doors","text","place","mark"] (zag lStep):=⟨rfl,rfl,rfl,by decide +kernel,rfl,by decide +kernel,by decide +kernel⟩
theorem ndOM2:(["one","mark"]:List Str).Nodup:=by decide +kernel
theorem zi9 {f:Addr}{fd:FuncData}(F:Fun K "_law_step" "_law_step" lStep f fd) (T:TxtB mg):FnOk P w K mg base CX0 1 f fd ["book","doors","text","place","mark"] zgg:=by
 refine F.ok scStepL (fun vs H Q E h=>?_) (fun cdv A outer s H vs Q E hr h=>?_)
 ·obtain ⟨z,v,b,q,ds,x,m,i,rfl,_⟩:=h
  rfl
 ·obtain ⟨z,v,b,q,ds,x,m,i,rfl,hB,hqz,R0,hok,⟨vs,hq,RD⟩,hld,hi,hx,hdl,hm,k⟩:=h
  obtain ⟨a,xs,rfl,haz,ha,hxl,R⟩:=zb9 R0
  obtain ⟨hb1,hb6,htok,_⟩:=hok
  have nd:=scStepL.nd
  refine ⟨_,zac (zap (i:=5) nd rfl (Or.inl rfl) zaf)
   (zac (zaW (zaw (zbE hr.units0) (pv 1) (zaF zae) (zaz _)) (zai (zap (i:=5) nd rfl (Or.inl rfl) (zau ix_tup (zau ix_list (pv 1) (zbP zbf zaf) (fun _ _=>rfl)) zaf (fun _ _=>rfl)))) zaA)
   (zac (zap (i:=6) nd rfl (Or.inl rfl) (zaq zaC (by rfl) T.len b_len (zaa (pv 1) zae)))
   (zac (zaW (PW.pt (zdO (zaw zd8 (zau ix_tup (zau ix_tup (pv 0) (pv 5) (fun _ _=>rfl)) zaf (fun _ _=>rfl)) zay (zaz _)) (zcM (zaw zcg (zau zfZ (pv 2) (pv 3) (fun _ _=>rfl)) (zau ix_tup (zau ix_tup (pv 0) (pv 5) (fun _ _=>rfl)) zaf (fun _ _=>rfl)) (zaz _)))))
    (zac (zap (i:=7) nd rfl (Or.inl rfl) (zbD zeU (by rfl) T.int zla (zaa (zcN zcg (zaB zaQ (pv 3) zaf) (zaq zar (by rfl) T.len b_len (zaa (pv 2) zae)) (zaz _)) zae)))
    (zai (zax (za2 (zaa (pv 3) (pa_B (zaB zc1 zaf (pv 7)) (zaa (zau ix_list (zaF (pa_K zay (pa_K zay zae))) (pv 7) (fun _ _=>rfl)) (zaa (pv 5) (zaa (pv 6) zae))))))))) zaA)
   (zac (zaW (zaw zcg (pv 4) zay (zaz _)) (zai (zax (za2 (zaa (pv 3) (pa_K zaf (pa_K zay (zaa (pv 5) (zaa (pv 6) zae)))))))) zaA)
   (zac (zaW (PW.pt (zdO (zaw (zbE hr.units0) (pv 1) (zaF zae) (zaz _)) (zcM (zaw zcg (pv 4) (zau ix_tup (zau ix_list (pv 1) (zbP zbf zaf) (fun _ _=>rfl)) zaf (fun _ _=>rfl)) (zaz _)))))
    (zac (zaO (ze1 PySem.F.plainAttrs_list PySem.F.slot_list_pop PySem.F.type_list_pop zf0 (pv 1)))
    (zac (zap (i:=8) nd rfl (Or.inl rfl) zaf)
    (zac (zaW (zaw (zbE hr.units0) (pv 1) (zaF zae) (zaz _)) (zai (zap (i:=8) nd rfl (Or.inl rfl) (zau ix_tup (zau ix_list (pv 1) (zbP zbf zaf) (fun _ _=>rfl)) zaf (fun _ _=>rfl)))) zaA)
    (zai (zax (za2 (zaa (pv 3) (zaa (zaq zar (by rfl) T.len b_len (zaa (pv 4) zae)) (pa_K zay (zaa (pv 8) (pa_B (zaB zc1 (pv 6) zaf) zae)))))))))))  zaA)
   (zac (zap (i:=9) nd rfl (Or.inl rfl) (zau ix_list (zbr (N':=["one","mark"]) (js:=[none,some 4]) rfl rfl (zbx (zag lStep) (by decide +kernel)) ⟨rfl,Or.inr (Or.inl rfl),rfl,trivial⟩ (zbS (zau ix_tup (zau ix_tup (pv 0) (pv 5) (fun _ _=>rfl)) zaf (fun _ _=>rfl)))
     (fun cl s H fp=>zao (i:=0) ndOM2 rfl (Or.inl rfl)) (fun cl s H fp=>zcR (zaw zcg (zau zbW (pv 0) zaf (fun _ _=>rfl)) (pv 1) (zaz _))) (fun cl s H fp=>pv 0)) zaf (fun _ _=>rfl)))
   (zac (zaO (zbU PySem.F.plainAttrs_list PySem.F.slot_list_append PySem.F.type_list_append zaK (pv 1) (pa_T (za2 (zaa (pv 3) (zaa (zau ix_tup (pv 9) zaf (fun _ _=>rfl)) (zaa (zau ix_tup (pv 9) zaf (fun _ _=>rfl)) zae)))) zae)))
   (zai (zax (za2 (zaa (pv 3) (zaa (zaq zar (by rfl) T.len b_len (zaa (pv 4) zae)) (pa_K zay (zaa (pv 5) (zaa (pv 6) zae))))))))))))))),?_⟩
  dsimp only[cxOf,Cx.nox,Cx.wish]
  have big:=za6
  have big2:(100000:Nat)≤sizeLine:=by rw[sizeLine_eq];decide
  have hvl:vs.length=ds.length:=by have:=RD.length;simpa using this
  obtain ⟨tN,htN,htl⟩:=za8 hld hb1
  refine ⟨_,rfl,Nat.zero_le _,fun l nl=>?_⟩
  have s1:=Same.new (o:=.lst []) nl
  refine ⟨q,l,vs,rfl,rfl,s1 _ _ hq,zab,_,rfl,?_⟩
  generalize upd H l (.lst [])=H1 at s1
  have htoN:(zal ds).toNat=tN:=by rw[htN];rfl
  have tok:=htok _ (zaI tg0 htl)
  obtain ⟨c,d,ys,ec,hcz,hdz,hc,hd,hyl,Ry⟩:=zaY ((zaL (b:=b) (i:=tN) R htl).mono s1.x)
  have exv:xs[tN]?=some (.ref c):=by
   have h1:tN<xs.length:=by omega
   have h2:xs.getD tN .non=xs[tN]:=by simp[h1]
   rw[List.getElem?_eq_getElem h1,←h2,ec]
  have hyl:ys.length=(b.getD tN tg0).2.length:=hyl
  have hms:m=Str.ofString ""∨m∈zaD (b.getD tN tg0).2∨m∈(lastL ds).map (·.2.2):=by
   rcases hm with h|h
   ·exact .inl h
   ·unfold someL at h
    rw[htoN] at h
    exact .inr (List.mem_append.mp h)
  unfold stepL at k
  rw[htoN,htN] at k
  generalize hT:b.getD tN tg0=tt at *
  have few:=tok.2.1
  have hxi:x.cps.toList[i]?=some (x.cps.getD i 0):=by
   have:i<x.cps.size:=hi
   simp[Array.getD,this]
  have hm4:m.length≤1000:=by
   rcases hms with rfl|h|h
   ·decide +kernel
   ·obtain ⟨dd,hdd,rfl⟩:=List.mem_map.mp h
    have:=(zaX (tok.2.2 dd hdd).1).1
    omega
   ·obtain ⟨dd,hdd,rfl⟩:=List.mem_map.mp h
    have:=(hld dd (List.mem_of_mem_drop hdd)).2.2
    omega
  refine zeq (G:=?G) (fun hne g=>?g1) (fun hne g=>?g2) ?g3
  case g1=>
   have hpos:0<ds.length:=by
    cases vs with
    |nil=>simp at hne
    |cons _ _=>simp at hvl;omega
   obtain ⟨ad,hat,had⟩:=zer (q:=q) (RD.mono s1.x) hpos
   refine ⟨_,rfl,1,rfl,q,vs,-1,_,rfl,rfl,SqL.of (s1 _ _ hq),hat,ad,_,1,_,rfl,rfl,SqT.of had,zah (j:=1) rfl,?_⟩
   have htd:=zcl hpos
   show (tSeq _ _) _ [some (.ref a),some (.ref q),some (.str x),some (.int i),some (.str m),some (.int (ds.getD (ds.length-1) ld0).2.1),none,none,none,none] _
   rw[←htd,htN]
   exact g.out
  case g2=>
   have hz:ds.length=0:=by
    cases vs with
    |nil=>simp at hvl;omega
    |cons _ _=>simp at hne
   have htd:(some (V.int 0):Option V)=some (V.int (tN:Int)):=by
    rw[←htN]
    unfold zal
    have:ds=[]:=List.eq_nil_of_length_eq_zero hz
    rw[this]
    rfl
   show (tSeq _ _) _ [some (.ref a),some (.ref q),some (.str x),some (.int i),some (.str m),some (.int 0),none,none,none,none] _
   rw[htd]
   exact g.out
  case g3=>
   refine ⟨_,rfl,q,vs,rfl,.inl (SqL.of (s1 _ _ hq)),?_⟩
   refine ⟨_,rfl,_,rfl,a,xs,tN,_,rfl,rfl,SqT.of (s1 _ _ ha),zah exv,c,_,0,_,rfl,rfl,SqT.of hc,zah (j:=0) rfl,rfl,_,rfl,?_⟩
   by_cases hesc:tt.1≠Str.ofString ""∧(⟨#[x.cps.getD i 0]⟩:Str)=tt.1
   ·rw[if_pos hesc] at k
    have e1:(!decide (V.str tt.1=V.str (Str.ofString "")))=true:=by
     have:¬(V.str tt.1=V.str (Str.ofString "")):=fun q=>hesc.1 (by injection q)
     rw[decide_eq_false this]
     rfl
    rw[e1]
    refine iteT ⟨_,rfl,_,rfl,x,i,_,rfl,rfl,by omega,zah hxi,_,rfl,_,rfl,a,xs,tN,_,rfl,rfl,SqT.of (s1 _ _ ha),zah exv,c,_,0,_,rfl,rfl,SqT.of hc,zah (j:=0) rfl,rfl,_,rfl,?_⟩
    rw[hesc.2,decide_eq_true rfl]
    refine iteT ⟨_,rfl,(i:Int),1,rfl,rfl,_,rfl,x,rfl,by omega,rfl,.inr ⟨_,rfl,?_⟩⟩
    by_cases hcut:i+1=x.length
    ·rw[if_pos hcut] at k
     have e2:decide (V.int ((i:Int)+1)=V.int (x.length:Int))=true:=by
      have:((i:Int)+1)=(x.length:Int):=by omega
      rw[this];simp
     rw[e2]
     refine ⟨_,rfl,_,rfl,2,1,rfl,rfl,by show (2:Nat)≤_;omega,fun l2 nl2=>⟨_,rfl,l2,_,1,_,rfl,rfl,SqL.of zab,zah (j:=1) rfl,_,rfl,_,rfl,by show (5:Nat)≤_;omega,fun p np=>?_⟩⟩
     have s2:=(Same.new (o:=.lst [.str (Str.ofString "escape"),.str (Str.ofString "cut")]) nl2)
     have s3:=s2.trans (Same.new (o:=.tup [.int i,.int (2-1),.str (Str.ofString "cut"),.int tN,.int vs.length]) np)
     refine k p _ (s1.trans s3).x ((s1.trans s2).free np) ?_ ⟨vs,(s1.trans s3) _ _ hq,RD.mono (s1.trans s3).x⟩
     rw[zab,hvl]
     rfl
    ·rw[if_neg hcut] at k
     have e2:decide (V.int ((i:Int)+1)=V.int (x.length:Int))=false:=by
      have:¬(V.int ((i:Int)+1)=V.int (x.length:Int)):=fun q=>hcut (by injection q with q;omega)
      exact decide_eq_false this
     rw[e2]
     refine ⟨_,rfl,_,rfl,2,0,rfl,rfl,by show (2:Nat)≤_;omega,fun l2 nl2=>⟨_,rfl,l2,_,0,_,rfl,rfl,SqL.of zab,zah (j:=0) rfl,_,rfl,_,rfl,by show (5:Nat)≤_;omega,fun p np=>?_⟩⟩
     have s2:=(Same.new (o:=.lst [.str (Str.ofString "escape"),.str (Str.ofString "cut")]) nl2)
     have s3:=s2.trans (Same.new (o:=.tup [.int i,.int (2-0),.str (Str.ofString "escape"),.int tN,.int vs.length]) np)
     refine k p _ (s1.trans s3).x ((s1.trans s2).free np) ?_ ⟨vs,(s1.trans s3) _ _ hq,RD.mono (s1.trans s3).x⟩
     rw[zab,hvl]
     rfl
   ·rw[if_neg hesc] at k
    refine zf5 (fun he g=>?_) ?_
    ·refine ⟨_,rfl,_,rfl,x,i,_,rfl,rfl,by omega,zah hxi,_,rfl,_,rfl,a,xs,tN,_,rfl,rfl,SqT.of (s1 _ _ ha),zah exv,c,_,0,_,rfl,rfl,SqT.of hc,zah (j:=0) rfl,rfl,_,rfl,?_⟩
     have e3:decide (V.str (⟨#[x.cps.getD i 0]⟩:Str)=V.str tt.1)=false:=by
      have:¬(V.str (⟨#[x.cps.getD i 0]⟩:Str)=V.str tt.1):=fun q=>hesc ⟨fun q2=>by rw[q2] at he;simp at he,by injection q⟩
      exact decide_eq_false this
     rw[e3]
     exact g.out
    ·refine iteF ⟨_,rfl,rfl,_,rfl,?_⟩
     by_cases hm0:m=Str.ofString ""
     ·rw[if_pos hm0] at k
      rw[hm0,decide_eq_true rfl]
      refine iteT ⟨_,rfl,_,rfl,_,rfl,by show (5:Nat)≤_;omega,fun p np=>?_⟩
      have s3:=Same.new (o:=.tup [.int i,.int 1,.str (Str.ofString "sign"),.int tN,.int vs.length]) np
      refine k p _ (s1.trans s3).x (s1.free np) ?_ ⟨vs,(s1.trans s3) _ _ hq,RD.mono (s1.trans s3).x⟩
      rw[zab,hvl]
      rfl
     rw[if_neg hm0] at k
     have e4:decide (V.str m=V.str (Str.ofString ""))=false:=by
      have:¬(V.str m=V.str (Str.ofString "")):=fun q=>hm0 (by injection q)
      exact decide_eq_false this
     rw[e4]
     refine iteF ⟨_,rfl,Nat.zero_le _,fun l2 nl2=>?_⟩
     have s2:=s1.trans (Same.new (o:=.lst []) nl2)
     have t2:=Same.new (o:=.lst []) nl2
     refine ⟨q,l2,vs,rfl,rfl,s2 _ _ hq,zab,_,rfl,?_⟩
     have hH2:∀b' o,H1 b'=some o→upd H1 l2 (.lst []) b'=some o:=fun b' o e=>t2 b' o e
     generalize upd H1 l2 (.lst [])=H2 at s2 t2 hH2
     by_cases hcl:ds≠[]∧m=(ds.getD (ds.length-1) ld0).2.2
     ·rw[if_pos hcl] at k
      have hpos:0<ds.length:=List.length_pos_iff.mpr hcl.1
      have hve:(!vs.isEmpty)=true:=by
       cases vs with
       |nil=>simp at hvl;omega
       |cons _ _=>rfl
      rw[hve]
      obtain ⟨ad,hat,had⟩:=zer (q:=q) (RD.mono s2.x) hpos
      refine iteT ⟨_,rfl,_,rfl,1,rfl,q,vs,-1,_,rfl,rfl,SqL.of (s2 _ _ hq),hat,ad,_,2,_,rfl,rfl,SqT.of had,zah (j:=2) rfl,rfl,_,rfl,?_⟩
      rw[←hcl.2,decide_eq_true rfl]
      refine iteT ⟨_,rfl,.inl ⟨rfl,_,SqL.of (s2 _ _ hq)⟩,q,vs,_,rfl,rfl,s2 _ _ hq,zjO (by omega),?_⟩
      have hq3:upd H2 q (.lst vs.dropLast) q=some (.lst vs.dropLast):=zab
      have RD3:Reps z (upd H2 q (.lst vs.dropLast)) vs.dropLast (ds.dropLast.map ldD):=by
       rw[List.map_dropLast]
       exact Reps.updL (s2 _ _ hq) (RD.mono s2.x).dropLast (by rw[←List.map_dropLast];exact zep _)
      have sx3:SameX q H (upd H2 q (.lst vs.dropLast)):=s2.x.upd
      generalize upd H2 q (.lst vs.dropLast)=H3 at hq3 RD3 sx3
      refine ⟨_,rfl,Nat.zero_le _,fun l3 nl3=>?_⟩
      have t4:=Same.new (o:=.lst []) nl3
      refine ⟨q,l3,vs.dropLast,rfl,rfl,t4 _ _ hq3,zab,_,rfl,?_⟩
      have hq4:=t4 _ _ hq3
      have RD4:=RD3.mono t4.x (z:=z)
      have sx4:SameX q H (upd H3 l3 (.lst [])):=sx3.trans t4.x
      generalize upd H3 l3 (.lst [])=H4 at hq4 RD4 sx4
      obtain ⟨aN,haN,_⟩:=za8 (b:=b) (ds:=ds.dropLast) (fun d hd=>hld d (List.dropLast_subset _ hd)) hb1
      rw[haN] at k
      have hvl2:vs.dropLast.length=ds.dropLast.length:=by simp;omega
      have kpos2:(!vs.dropLast.isEmpty)=true→0<ds.dropLast.length:=fun hn2=>by
       rw[←hvl2]
       cases hv2:vs.dropLast with
       |nil=>rw[hv2] at hn2;simp at hn2
       |cons _ _=>simp
      have kz2:¬(!vs.dropLast.isEmpty)=true→ds.dropLast.length=0:=fun hn2=>by
       rw[←hvl2]
       cases hv2:vs.dropLast with
       |nil=>rfl
       |cons _ _=>rw[hv2] at hn2;simp at hn2
      refine zeq (G:=?G2) (fun hn2 g=>?h1) (fun hn2 g=>?h2) ?h3
      case h1=>
       have hpos2:=kpos2 hn2
       obtain ⟨ad2,hat2,had2⟩:=zer (q:=q) RD4 hpos2
       refine ⟨_,rfl,1,rfl,q,_,-1,_,rfl,rfl,SqL.of hq4,hat2,ad2,_,1,_,rfl,rfl,SqT.of had2,zah (j:=1) rfl,?_⟩
       have htd2:=zcl hpos2
       rw[←htd2,haN]
       exact g.out
      case h2=>
       have hz2:=kz2 hn2
       have htd2:(some (V.int 0):Option V)=some (V.int (aN:Int)):=by
        rw[←haN]
        unfold zal
        have:ds.dropLast=[]:=List.eq_nil_of_length_eq_zero hz2
        rw[this]
        rfl
       rw[htd2]
       exact g.out
      case h3=>
       refine ⟨_,rfl,_,rfl,m,rfl,by omega,_,rfl,_,rfl,_,_,rfl,rfl,by show (5:Nat)≤_;omega,fun p np=>?_⟩
       have hpn:H p=none:=by
        cases e:H p with
        |none=>rfl
        |some o=>
         have hpq:p≠q:=(zad hq4 np).symm
         rw[sx4 p o hpq e] at np
         cases np
       have t5:=Same.new (o:=.tup [.int i,.int m.length,.str (Str.ofString "close"),.int aN,.int ((vs.length:Int)-1)]) np
       refine k p _ (sx4.trans t5.x) hpn ?_ ⟨_,t5 _ _ hq4,RD4.mono t5.x⟩
       rw[zab,hvl]
       rfl
     ·rw[if_neg hcl] at k
      refine zf5 (fun hv g=>?_) ?_
      ·have hpos:0<ds.length:=by
        cases vs with
        |nil=>simp at hv
        |cons _ _=>simp at hvl;omega
       obtain ⟨ad,hat,had⟩:=zer (q:=q) (RD.mono s2.x) hpos
       refine ⟨_,rfl,_,rfl,1,rfl,q,vs,-1,_,rfl,rfl,SqL.of (s2 _ _ hq),hat,ad,_,2,_,rfl,rfl,SqT.of had,zah (j:=2) rfl,rfl,_,rfl,?_⟩
       have e5:decide (V.str m=V.str (ds.getD (ds.length-1) ld0).2.2)=false:=by
        have:¬(V.str m=V.str (ds.getD (ds.length-1) ld0).2.2):=fun q=>hcl ⟨List.length_pos_iff.mp hpos,by injection q⟩
        exact decide_eq_false this
       rw[e5]
       exact g.out
      ·have hmo:m∈zaD tt.2:=by
        rcases hms with h|h|h
        ·exact absurd h hm0
        ·exact h
        ·exfalso
         obtain ⟨dd,hdd,e6⟩:=List.mem_map.mp h
         unfold lastL at hdd
         have hpos:0<ds.length:=by
          cases ds with
          |nil=>simp at hdd
          |cons _ _=>simp
         have:ds.drop (ds.length-1)=[ds.getD (ds.length-1) ld0]:=by
          have hlt:ds.length-1<ds.length:=by omega
          rw[List.drop_eq_getElem_cons hlt]
          have:ds.length-1+1=ds.length:=by omega
          rw[this,List.drop_length]
          simp[hlt]
         rw[this] at hdd
         have:dd=ds.getD (ds.length-1) ld0:=by simpa using hdd
         rw[this] at e6
         exact hcl ⟨List.length_pos_iff.mp hpos,e6.symm⟩
       refine iteF ?_
       refine ⟨_,rfl,_,rfl,a,xs,tN,_,rfl,rfl,SqT.of (s2 _ _ ha),zah exv,c,_,1,_,rfl,rfl,SqT.of (t2 _ _ hc),zah (j:=1) rfl,d,rfl,⟨_,SqT.of (t2 _ _ hd)⟩,fun pC npC=>?_⟩
       have hdp:d≠pC:=zad (t2 _ _ hd) npC
       refine zbw (fun j=>if (tt.2.getD j dr0).1==m then some (ys.getD j .non) else none) (fun σ=>∃v,σ=[v,some (.str m)]) ⟨none,rfl⟩ npC (by omega) (zcx (xs:=ys) (by rw[zaj hdp];exact t2 _ _ hd) hdp) (fun j σ H5 C hj ⟨v,hv⟩ hS5 hC=>?_) (fun σ H5 s5 hH5=>?_)
       ·subst hv
        obtain ⟨q3,e3,hq3z,hq3⟩:=zbs ((zbe (ds:=tt.2) (i:=j) Ry (by omega)).mono (t2.trans hS5).x)
        have hC':=hC [some (.ref q3),some (.str m)] H5 ⟨_,rfl⟩ (Same.refl _)
        rw[e3]
        refine ⟨_,rfl,q3,_,0,_,rfl,rfl,SqT.of hq3,zah (j:=0) rfl,_,rfl,rfl,_,rfl,?_⟩
        rw[zfw]
        show if ((tt.2.getD j dr0).1==m)=true then _ else _
        cases g:(tt.2.getD j dr0).1==m with
        |true=>
         rw[g,if_pos rfl,e3] at hC'
         exact iteT ⟨_,rfl,hC'⟩
        |false=>
         rw[g,if_neg (by simp)] at hC'
         exact iteF hC'
       rw[hyl] at hH5
       rcases zdX tt.2 dr0 (fun d=>d.1==m) (fun j=>ys.getD j .non) tt.2.length (Nat.le_refl _) with ⟨h1,h2⟩|⟨d',r',j0,h1,h2,h3,h4⟩
       ·exfalso
        rw[List.take_length] at h1
        obtain ⟨dd,hdd,e6⟩:=List.mem_map.mp hmo
        have:dd∈tt.2.filter (fun d=>d.1==m):=List.mem_filter.mpr ⟨hdd,by simpa using e6⟩
        rw[h1] at this
        cases this
       rw[List.take_length] at h1
       rw[h1] at k
       dsimp only at k
       have S5:=s2.trans s5
       have T5:=t2.trans s5
       obtain ⟨q0,e0,hq0z,hq0⟩:=zbs ((zbe (ds:=tt.2) (i:=j0) Ry h2).mono T5.x)
       have h3:tt.2.getD j0 dr0=d':=h3
       have hq0:H5 q0=some (.tup [.str (tt.2.getD j0 dr0).1,.int (tt.2.getD j0 dr0).2.1,.str (tt.2.getD j0 dr0).2.2]):=hq0
       rw[h3] at hq0
       have h4:(flatN (fun i=>(if (tt.2.getD i dr0).1==m then some (ys.getD i .non) else none).toList) tt.2.length)[0]?=some (ys.getD j0 .non):=h4
       rw[e0] at h4
       refine ⟨pC,_,0,_,rfl,rfl,SqL.of hH5,zah (j:=0) h4,?_⟩
       have hq5:=S5 _ _ hq
       refine ⟨_,rfl,.inl ⟨rfl,_,SqL.of hq5⟩,_,rfl,_,rfl,q0,_,1,_,rfl,rfl,SqT.of hq0,zah (j:=1) rfl,_,rfl,q0,_,2,_,rfl,rfl,SqT.of hq0,zah (j:=2) rfl,by show (3:Nat)≤_;omega,fun pt npt=>?_⟩
       have t6:=Same.new (o:=.tup [.int i,.int d'.2.1,.str d'.2.2]) npt
       have hpt:upd H5 pt (.tup [.int i,.int d'.2.1,.str d'.2.2]) pt=some (.tup [.int i,.int d'.2.1,.str d'.2.2]):=zab
       have hq6:=t6 _ _ hq5
       have S6:=S5.trans t6
       have hptz:pt≠z:=(hB.same S5).ne npt
       generalize upd H5 pt (.tup [.int i,.int d'.2.1,.str d'.2.2])=H6 at hpt hq6 S6
       refine ⟨q,vs,_,rfl,rfl,hq6,by omega,?_⟩
       have hd4:d'.2.2.length≤1000:=by
        have hmem:d'∈tt.2:=(List.mem_filter.mp (by rw[h1];exact List.mem_cons_self)).1
        have:=(zaX (tok.2.2 d' hmem).2.2).1
        omega
       have RD7:Reps z (upd H6 q (.lst (vs++[.ref pt]))) (vs++[.ref pt]) ((ds++[((i:Int),d'.2.1,d'.2.2)]).map ldD):=by
        refine Reps.updL hq6 ?_ (zep _)
        rw[List.map_append]
        exact (RD.mono S6.x).append (.cons (.tup hpt hptz (.cons (.int _) (.cons (.int _) (.cons (.str _ hd4) .nil)))) .nil)
       have hq7:upd H6 q (.lst (vs++[.ref pt])) q=some (.lst (vs++[.ref pt])):=zab
       have sx7:SameX q H (upd H6 q (.lst (vs++[.ref pt]))):=S6.x.upd
       generalize upd H6 q (.lst (vs++[.ref pt]))=H7 at RD7 hq7 sx7
       refine ⟨_,rfl,_,rfl,m,rfl,by omega,_,rfl,_,rfl,by show (5:Nat)≤_;omega,fun p np=>?_⟩
       have hpn:H p=none:=by
        cases e:H p with
        |none=>rfl
        |some o=>
         have hpq:p≠q:=(zad hq7 np).symm
         rw[sx7 p o hpq e] at np
         cases np
       have t8:=Same.new (o:=.tup [.int i,.int m.length,.str (Str.ofString "open"),.int tN,.int vs.length]) np
       refine k p _ (sx7.trans t8.x) hpn ?_ ⟨_,t8 _ _ hq7,RD7.mono t8.x⟩
       rw[zab,hvl]
       rfl
abbrev eS:Str:=⟨#[]⟩
def zdB (l:List Str):Str:=l.foldl (fun acc m=>if acc.length<m.length then m else acc) eS
theorem zfj:∀(l:List Str) (acc:Str),let r:=l.foldl (fun acc m=>if acc.length<m.length then m else acc) acc
  (r=acc∨r∈l)∧acc.length≤r.length∧∀m∈l,m.length≤r.length
 |[],acc=>⟨.inl rfl,Nat.le_refl _,fun m hm=>nomatch hm⟩
 |a::l,acc=>by
  have ih:=zfj l (if acc.length<a.length then a else acc)
  obtain ⟨h1,h2,h3⟩:=ih
  simp only[List.foldl_cons]
  by_cases h:acc.length<a.length
  ·rw[if_pos h] at h1 h2 h3 ⊢
   refine ⟨?_,by omega,fun m hm=>?_⟩
   ·rcases h1 with h1|h1
    ·exact .inr (by rw[h1];exact List.mem_cons_self)
    ·exact .inr (List.mem_cons_of_mem _ h1)
   ·rcases List.mem_cons.mp hm with rfl|hm
    ·exact h2
    ·exact h3 m hm
  ·rw[if_neg h] at h1 h2 h3 ⊢
   refine ⟨?_,h2,fun m hm=>?_⟩
   ·rcases h1 with h1|h1
    ·exact .inl h1
    ·exact .inr (List.mem_cons_of_mem _ h1)
   ·rcases List.mem_cons.mp hm with rfl|hm
    ·omega
    ·exact h3 m hm
theorem zbG {l:List Str}(hs:∀m∈l,Sm m):(l=[]∧zdB l=eS)∨(zdB l∈l∧∀m∈l,m.length≤(zdB l).length):=by
 obtain ⟨h1,h2,h3⟩:=zfj l eS
 cases l with
 |nil=>exact .inl ⟨rfl,rfl⟩
 |cons a r=>
  refine .inr ⟨?_,h3⟩
  rcases h1 with h1|h1
  ·exfalso
   have:=h3 a List.mem_cons_self
   have g:=(hs a List.mem_cons_self).1
   rw[h1] at this
   have:a.length≤0:=this
   omega
  ·exact h1
theorem zjP {x:Str}{i:Nat}{m m':Str}(h:fitAt x i m=true) (h':fitAt x i m'=true) (hl:m.length=m'.length):m=m':=by
 have a:=of_decide_eq_true h
 have c:=of_decide_eq_true h'
 rw[hl] at a
 have:V.str m=V.str m':=a.symm.trans c
 injection this
theorem zhT {x:Str}{i:Nat}{l ys:List Str}(hs:∀m∈l,Sm m) (hf:∀m∈l,fitAt x i m=true) (hp:ys.Perm l) (hw:ys.Pairwise (fun a c=>c.length≤a.length)):ys.headD eS=zdB l:=by
 rcases zbG hs with ⟨h1,h2⟩|⟨h1,h2⟩
 ·subst h1
  have:ys=[]:=List.Perm.eq_nil hp
  subst this
  rfl
 ·cases ys with
  |nil=>
   have:l=[]:=List.Perm.eq_nil hp.symm
   rw[this] at h1
   cases h1
  |cons a r=>
   show a=_
   have ha:a∈l:=hp.mem_iff.mp List.mem_cons_self
   have hb:zdB l∈a::r:=hp.mem_iff.mpr h1
   have l1:=h2 a ha
   have l2:(zdB l).length≤a.length:=by
    rcases List.mem_cons.mp hb with e|hb
    ·rw[e];exact Nat.le_refl _
    ·exact (List.pairwise_cons.mp hw).1 _ hb
   exact zjP (hf a ha) (hf _ h1) (by omega)
def bestL (b:Bk) (ds:List LDr) (x:Str) (i:Nat):Str:=zdB (fitL b ds x i)
structure RunSt where
 at_:Nat
 ds:List LDr
 ss:List Stp
def zaM (b:Bk) (x:Str) (r:RunSt):RunSt:=
 if r.at_<x.length then ⟨r.at_+((stepL b r.ds x r.at_ (bestL b r.ds x r.at_)).1.2.1).toNat,(stepL b r.ds x r.at_ (bestL b r.ds x r.at_)).2,r.ss++[(stepL b r.ds x r.at_ (bestL b r.ds x r.at_)).1]⟩ else r
def runF (b:Bk) (x:Str):Nat→RunSt
 |0=>⟨0,[],[]⟩
 |n+1=>zaM b x (runF b x n)
def LdBk (b:Bk) (ds:List LDr):Prop:=∀d∈ds,∃t∈b,∃dr∈t.2,d.2.1=dr.2.1∧d.2.2=dr.2.2
theorem LdBk.ok {b:Bk}{ds:List LDr}(h:LdBk b ds) (hb:∀t∈b,TgOk b.length t):LdOk b ds:=fun d hd=>by
 obtain ⟨t,ht,dr,hdr,e1,e2⟩:=h d hd
 obtain ⟨g1,g2,g3⟩:=(hb t ht).2.2 dr hdr
 have g:=zaX g3
 rw[e1,e2]
 exact ⟨g2,g.2,g.1⟩
theorem zcW {b:Bk}{ds:List LDr}{x:Str}{i:Nat}(hb:∀t∈b,TgOk b.length t) (hd:LdOk b ds):∀m∈someL b ds,Sm m:=fun m hm=>by
 unfold someL at hm
 rcases List.mem_append.mp hm with hm|hm
 ·obtain ⟨dd,hdd,rfl⟩:=List.mem_map.mp hm
  by_cases hl:(zal ds).toNat<b.length
  ·have g:=zaX ((hb _ (zaI tg0 hl)).2.2 dd hdd).1
   exact ⟨g.2,g.1⟩
  ·have e:b.getD (zal ds).toNat tg0=tg0:=by simp[hl]
   rw[e] at hdd
   cases hdd
 ·obtain ⟨dd,hdd,rfl⟩:=List.mem_map.mp hm
  exact (hd dd (List.mem_of_mem_drop hdd)).2
theorem zdY {ds:List LDr}{m:Str}(h:m∈(lastL ds).map (·.2.2)):ds≠[]∧m=(ds.getD (ds.length-1) ld0).2.2:=by
 obtain ⟨dd,hdd,e6⟩:=List.mem_map.mp h
 unfold lastL at hdd
 have hpos:0<ds.length:=by
  cases ds with
  |nil=>simp at hdd
  |cons _ _=>simp
 have:ds.drop (ds.length-1)=[ds.getD (ds.length-1) ld0]:=by
  have hlt:ds.length-1<ds.length:=by omega
  rw[List.drop_eq_getElem_cons hlt]
  have:ds.length-1+1=ds.length:=by omega
  rw[this,List.drop_length]
  simp[hlt]
 rw[this] at hdd
 have:dd=ds.getD (ds.length-1) ld0:=by simpa using hdd
 rw[this] at e6
 exact ⟨List.length_pos_iff.mp hpos,e6.symm⟩
theorem zfI {x m:Str}{i:Nat}(h:fitAt x i m=true) (hi:i≤x.length):i+m.length≤x.length:=by
 have a:=of_decide_eq_true h
 have a:cutS x (some (i:Int)) (some ((i:Int)+m.length))=m:=by injection a
 have hl:(cutS x (some (i:Int)) (some ((i:Int)+m.length))).length=m.length:=by rw[a]
 have e:((i:Int)+(m.length:Int))=((i+m.length:Nat):Int):=by omega
 rw[e] at hl
 unfold cutS at hl
 have hl:(List.toArray ((x.cps.toList.drop (HT.sIx x.length 0 (some (i:Int)))).take (HT.sIx x.length x.length (some ((i+m.length:Nat):Int))-HT.sIx x.length 0 (some (i:Int))))).size=m.length:=hl
 rw[List.size_toArray,List.length_take,List.length_drop,HT.sIx_nat,HT.sIx_nat] at hl
 have:x.cps.toList.length=x.length:=by simp;rfl
 omega
theorem za4 {b:Bk}{ds:List LDr}{x:Str}{i:Nat}(hb:∀t∈b,TgOk b.length t) (hd:LdBk b ds) (hb1:1≤b.length) (hi:i<x.length) :
  let r:=stepL b ds x i (bestL b ds x i)
  1≤r.1.2.1∧r.1.2.1≤4∧(i:Int)+r.1.2.1≤x.length∧LdBk b r.2∧r.2.length≤ds.length+1∧r.1.2.2.1.length≤10:=by
 have hok:=hd.ok hb
 obtain ⟨tN,htN,htl⟩:=za8 hok hb1
 have htoN:(zal ds).toNat=tN:=by rw[htN];rfl
 have hsm:=zcW (x:=x) (i:=i) hb hok
 have hbp:=zbG (l:=fitL b ds x i) fun m hm=>hsm m (List.mem_filter.mp hm).1
 have hem:∀m,m≠Str.ofString ""→m=bestL b ds x i→m∈someL b ds∧fitAt x i m=true:=fun m h0 e=>by
  rcases hbp with ⟨_,h2⟩|⟨h1,_⟩
  ·exfalso
   apply h0
   rw[e]
   unfold bestL
   rw[h2,za3]
  ·rw[e]
   exact List.mem_filter.mp h1
 intro r
 show 1≤r.1.2.1∧_
 have hr:r=stepL b ds x i (bestL b ds x i):=rfl
 generalize hm:bestL b ds x i=m at hr
 rw[hr]
 unfold stepL
 rw[htoN]
 have htt:=zaI tg0 htl
 split
 ·split
  ·exact ⟨by show (1:Int)≤1;decide,by show (1:Int)≤4;decide,by show (i:Int)+1≤_;omega,hd,by show ds.length≤_;omega,by show (Str.ofString "cut").length≤10;decide +kernel⟩
  ·exact ⟨by show (1:Int)≤2;decide,by show (2:Int)≤4;decide,by show (i:Int)+2≤_;omega,hd,by show ds.length≤_;omega,by show (Str.ofString "escape").length≤10;decide +kernel⟩
 ·split
  ·exact ⟨by show (1:Int)≤1;decide,by show (1:Int)≤4;decide,by show (i:Int)+1≤_;omega,hd,by show ds.length≤_;omega,by show (Str.ofString "sign").length≤10;decide +kernel⟩
  ·rename_i hm0
   obtain ⟨g1,g2⟩:=hem m hm0 hm.symm
   obtain ⟨g3,g4⟩:=hsm m g1
   have g5:=zfI g2 (by omega)
   split
   ·refine ⟨by show (1:Int)≤m.length;omega,by show (m.length:Int)≤4;omega,by show (i:Int)+m.length≤_;omega,fun d hdd=>hd d (List.dropLast_subset _ hdd),by show ds.dropLast.length≤_;simp;omega,by show (Str.ofString "close").length≤10;decide +kernel⟩
   ·rename_i hcl
    split
    ·rename_i d r' hfil
     have hdm:d∈(b.getD tN tg0).2:=(List.mem_filter.mp (by rw[hfil];exact List.mem_cons_self)).1
     refine ⟨by show (1:Int)≤m.length;omega,by show (m.length:Int)≤4;omega,by show (i:Int)+m.length≤_;omega,fun d' hdd=>?_,by show (ds++[_]).length≤_;simp,by show (Str.ofString "open").length≤10;decide +kernel⟩
     rcases List.mem_append.mp hdd with hdd|hdd
     ·exact hd d' hdd
     ·have:d'=((i:Int),d.2.1,d.2.2):=by simpa using hdd
      subst this
      exact ⟨_,htt,d,hdm,rfl,rfl⟩
    ·rename_i hfil
     exfalso
     unfold someL at g1
     rw[htoN] at g1
     rcases List.mem_append.mp g1 with h|h
     ·obtain ⟨dd,hdd,e6⟩:=List.mem_map.mp h
      have:dd∈(b.getD tN tg0).2.filter (fun d=>d.1==m):=List.mem_filter.mpr ⟨hdd,by simpa using e6⟩
      rw[hfil] at this
      cases this
     ·exact hcl (zdY h)
theorem za5:∀ss:List Stp,NoLs (ss.map stD)
 |[]=>.nil
 |d::r=>.cons (.tup (.cons (.int _) (.cons (.int _) (.cons (.str _) (.cons (.int _) (.cons (.int _) .nil)))))) (za5 r)
theorem zkw (ys:List Str):cutV (ys.map V.str) none (some (1:Int))=(ys.take 1).map V.str:=by
 unfold cutV
 have e:HT.sIx (ys.map V.str).length (ys.map V.str).length (some (1:Int))=min 1 (ys.map V.str).length:=HT.sIx_nat _ _ 1
 rw[e,HT.sIx_none,List.drop_zero,List.map_take]
 cases ys<;>simp
structure RunOk (b:Bk) (x:Str) (r:RunSt):Prop where
 le:r.at_≤x.length
 bk:LdBk b r.ds
 dl:r.ds.length≤r.at_
 sl:r.ss.length≤r.at_
theorem zbn {b:Bk}{x:Str}(hb:∀t∈b,TgOk b.length t) (hb1:1≤b.length):∀n,RunOk b x (runF b x n)
 |0=>⟨Nat.zero_le _,(fun d hd=>nomatch hd),Nat.zero_le _,Nat.zero_le _⟩
 |n+1=>by
  have ih:=zbn hb hb1 (x:=x) n
  show RunOk b x (zaM b x (runF b x n))
  unfold zaM
  split
  ·rename_i h
   obtain ⟨h1,h2,h3,h4,h5,h6⟩:=za4 (x:=x) hb ih.bk hb1 h
   have i1:=ih.dl
   have i2:=ih.sl
   refine ⟨?_,h4,?_,?_⟩
   ·show (runF b x n).at_+_≤_
    omega
   ·show (stepL b (runF b x n).ds x (runF b x n).at_ (bestL b (runF b x n).ds x (runF b x n).at_)).2.length≤(runF b x n).at_+_
    omega
   ·show ((runF b x n).ss++[_]).length≤(runF b x n).at_+_
    rw[List.length_append]
    show _+1≤_
    omega
  ·exact ih
theorem zfk {b:Bk}{x:Str}{n:Nat}(h:(runF b x n).at_<x.length):runF b x (n+1)=⟨(runF b x n).at_+((stepL b (runF b x n).ds x (runF b x n).at_ (bestL b (runF b x n).ds x (runF b x n).at_)).1.2.1).toNat,(stepL b (runF b x n).ds x (runF b x n).at_ (bestL b (runF b x n).ds x (runF b x n).at_)).2,(runF b x n).ss++[(stepL b (runF b x n).ds x (runF b x n).at_ (bestL b (runF b x n).ds x (runF b x n).at_)).1]⟩:=by
 show zaM b x (runF b x n)=_
 unfold zaM
 rw[if_pos h]
theorem zdC {b:Bk}{x:Str}{n:Nat}(h:(runF b x n).at_<x.length):(runF b x (n+1)).ds=(stepL b (runF b x n).ds x (runF b x n).at_ (bestL b (runF b x n).ds x (runF b x n).at_)).2:=by rw[zfk h]
theorem zb1 {b:Bk}{x:Str}{n:Nat}(h:(runF b x n).at_<x.length):(runF b x (n+1)).ss=(runF b x n).ss++[(stepL b (runF b x n).ds x (runF b x n).at_ (bestL b (runF b x n).ds x (runF b x n).at_)).1]:=by rw[zfk h]
inductive zes:List V→Hp→VK→XK→Prop where
 |mk {vs:List V} {H:Hp} {Q:VK} {E:XK} (z v b x:_) (c1:vs=[v,.str x]) (c2:Bag z H) (c3:Rep z H v (bkD b)) (c4:BkOk b) (c5:x.length≤20000) (c6:∀p pf pd n H',Same H H'→H' p=some (.lst [.ref pf,.ref pd])→(runF b x n).at_=x.length→Rep z H' (.ref pf) (.lst ((runF b x n).ss.map stD))→LDs z H' pd (runF b x n).ds→Q (.ref p) H'):zes vs H Q E
theorem scSteps:zav ["book","text","doors","found","place","marks"] ["book","text"] (zag zhP):=⟨rfl,rfl,rfl,by decide +kernel,rfl,by decide +kernel,by decide +kernel⟩
theorem zhU {f f1 f2:Addr}{fd fd1 fd2:FuncData}(F:Fun K "_law_steps" "_law_steps" zhP f fd) (T:TxtB mg)
  (k1:W.keepIn K (.ref f1)=true) (b1:Binds K fd1 ["book","doors","text","place"] []) (m1:mg "_law_fitting"=some (.ref f1)) (G1:FnOk P w K mg base CX0 1 f1 fd1 ["book","doors","text","place"] zcB)
  (k2:W.keepIn K (.ref f2)=true) (b2:Binds K fd2 ["book","doors","text","place","mark"] []) (m2:mg "_law_step"=some (.ref f2)) (G2:FnOk P w K mg base CX0 1 f2 fd2 ["book","doors","text","place","mark"] zgg):FnOk P w K mg base CX0 2 f fd ["book","text"] zes:=by
 refine F.ok scSteps (fun vs H Q E h=>?_) (fun cdv A outer s H vs Q E hr h=>?_)
 ·obtain ⟨z,v,b,x,rfl,_⟩:=h
  rfl
 ·obtain ⟨z,v,b,x,rfl,hB,R,hok,hx,k⟩:=h
  have hok':=hok
  obtain ⟨hb1,hb6,htok,_⟩:=hok'
  have nd:=scSteps.nd
  refine ⟨_,zac (zap (i:=2) nd rfl (Or.inl rfl) (zaF zae))
   (zac (zap (i:=3) nd rfl (Or.inl rfl) (zaF zae))
   (zac (zap (i:=4) nd rfl (Or.inl rfl) zaf)
   (zac (zcr PassesOwn.never (zaw zd9 (pv 4) (zaq zar (by rfl) T.len b_len (zaa (pv 1) zae)) (zaz _))
    (zac (zap (i:=5) nd rfl (Or.inl rfl) (zas G1 hr rfl m1 k1 b1 .nil pass0 (zaa (pv 0) (zaa (pv 2) (zaa (pv 1) (zaa (pv 4) zae))))))
    (zac (zaO (zbU PySem.F.plainAttrs_list PySem.F.slot_list_append PySem.F.type_list_append zaK (pv 3) (zaa (zas G2 hr rfl m2 k2 b2 .nil pass0 (zaa (pv 0) (zaa (pv 2) (zaa (pv 1) (zaa (pv 4) (zaa (zbU PySem.F.plainAttrs_str PySem.F.slot_str_join PySem.F.type_str_join ziP zay (zaa (zaT zcO (pv 5) zbo (zaS zaf)) zae)) zae)))))) zae)))
    (zai (zap (i:=4) nd rfl (Or.inl rfl) (zaB zaQ (pv 4) (zau ix_tup (zau ix_list (pv 3) (zbP zbf zaf) (fun _ _=>rfl)) zaf (fun _ _=>rfl))))))))
   (zai (zax (zaF (zaa (pv 3) (zaa (pv 2) zae)))))))),?_⟩
  dsimp only[cxOf,Cx.nox,Cx.wish]
  have big:=za6
  have big2:(100000:Nat)≤sizeLine:=by rw[sizeLine_eq];decide
  refine ⟨Nat.zero_le _,fun pd npd=>⟨Nat.zero_le _,fun pf npf=>?_⟩⟩
  have s1:=Same.new (o:=.lst []) npd
  have s2:=Same.new (o:=.lst []) npf
  have s12:=s1.trans s2
  have hpf0:H pf=none:=s1.free npf
  have hpdf:pd≠pf:=zad (zab (H:=H) (a:=pd) (o:=.lst [])) npf
  have hpdz:pd≠z:=hB.ne npd
  have hpfz:pf≠z:=(hB.same s1).ne npf
  refine zcs (fun σ H3=>∃n u,σ=[some v,some (.str x),some (.ref pd),some (.ref pf),some (.int (runF b x n).at_),u]∧Same H H3∧Rep z H3 v (bkD b)∧LDs z H3 pd (runF b x n).ds∧∃fv,H3 pf=some (.lst fv)∧Reps z H3 fv ((runF b x n).ss.map stD))
   (fun σ H3=>match σ[4]? with|some (some (V.int i))=>x.length-i.toNat|_=>0) ⟨0,none,rfl,s12,R.mono s12.x,⟨[],s2 _ _ zab,.nil⟩,[],zab,.nil⟩ ?_ ?_
  ·rintro σ H3 ⟨n,u,rfl,s3,R3,L3,fv,hf3,RF⟩
   have rok:=zbn (x:=x) htok hb1 n
   have hle:=rok.le
   refine ⟨_,rfl,_,rfl,x,rfl,by omega,_,_,rfl,rfl,_,rfl,?_⟩
   refine ite2 (fun hlt=>?_) (fun hlt=>?_)
   ·have hlt:(runF b x n).at_<x.length:=by have:=of_decide_eq_true hlt;omega
    have hdl:=rok.dl
    have hsl:=rok.sl
    have hld:=rok.bk.ok htok
    have hB3:=hB.same s3
    refine ⟨_,rfl,_,rfl,_,rfl,_,rfl,z,v,b,pd,(runF b x n).ds,x,(runF b x n).at_,rfl,R3,hok,L3,hld,hx,fun pm ys H4 s4 npm hpm perm pw=>?_⟩
    have hmem:∀m∈fitL b (runF b x n).ds x (runF b x n).at_,Sm m:=fun m hm=>zcW (x:=x) (i:=(runF b x n).at_) htok hld m (List.mem_filter.mp hm).1
    have hhead:=zhT hmem (fun m hm=>(List.mem_filter.mp hm).2) perm pw
    have hf4:=s4 _ _ hf3
    refine ⟨_,rfl,.inl ⟨rfl,_,SqL.of hf4⟩,_,rfl,_,rfl,_,rfl,_,rfl,rfl,_,rfl,1,rfl,pm,_,rfl,SqL.of hpm,fun l nl=>?_⟩
    have s5:=Same.new (o:=.lst (cutV (ys.map V.str) none (some (1:Int)))) nl
    have hysm:∀y∈ys.take 1,y.length≤1000:=fun y hy=>by have:=(hmem y (perm.mem_iff.mp (List.mem_of_mem_take hy))).2;omega
    refine ⟨_,l,ys.take 1,rfl,rfl,SqL.of (by rw[zab,zkw]),by rw[List.length_take];omega,by decide +kernel,hysm,?_⟩
    have ej:zjM (ys.take 1)=bestL b (runF b x n).ds x (runF b x n).at_:=by
     unfold bestL
     rw[←hhead]
     cases ys<;>rfl
    rw[ej]
    have S5:=s4.trans s5
    have R5:=R3.mono S5.x (z:=z)
    have L5:=L3.same S5
    have hf5:=S5 _ _ hf3
    have RF5:=RF.mono S5.x (z:=z)
    have hB5:=hB3.same S5
    have sH5:=s3.trans S5
    generalize upd H4 l (.lst (cutV (ys.map V.str) none (some (1:Int))))=H5 at S5 R5 L5 hf5 RF5 hB5 sH5 s5
    have hmm:bestL b (runF b x n).ds x (runF b x n).at_=Str.ofString ""∨bestL b (runF b x n).ds x (runF b x n).at_∈someL b (runF b x n).ds:=by
     rcases zbG hmem with ⟨_,h2⟩|⟨h1,_⟩
     ·exact .inl (by unfold bestL;rw[h2,za3])
     ·exact .inr (List.mem_filter.mp h1).1
    obtain ⟨p1,p2,p3,p4,p5,p6⟩:=za4 (x:=x) htok rok.bk hb1 hlt
    refine ⟨z,v,b,pd,(runF b x n).ds,x,_,(runF b x n).at_,rfl,hB5,hpdz,R5,hok,L5,hld,hlt,hx,by omega,hmm,fun p H6 sx6 np hp L6=>?_⟩
    rw[←zdC hlt] at L6
    have hpz:p≠z:=hB5.ne np
    obtain ⟨dv5,hd5,_⟩:=L5
    have R6:=Rep.butL hd5 sx6 R5 (.tup (zbp b))
    have RF6:=Reps.butL hd5 sx6 RF5 (za5 _)
    have hf6:=sx6 _ _ hpdf.symm hf5
    have sH6:Same H H6:=fun b' o e=>sx6 b' o (zad e npd) (sH5 b' o e)
    have hfl:fv.length=(runF b x n).ss.length:=by have:=RF.length;simpa using this
    refine ⟨pf,fv,_,rfl,rfl,hf6,by omega,?_⟩
    have hf7:upd H6 pf (.lst (fv++[.ref p])) pf=some (.lst (fv++[.ref p])):=zab
    have rst:Rep z H6 (.ref p) (stD (stepL b (runF b x n).ds x (runF b x n).at_ (bestL b (runF b x n).ds x (runF b x n).at_)).1):=.tup hp hpz (.cons (.int _) (.cons (.int _) (.cons (.str _ (by omega)) (.cons (.int _) (.cons (.int _) .nil)))))
    have RF7:Reps z (upd H6 pf (.lst (fv++[.ref p]))) (fv++[.ref p]) ((runF b x (n+1)).ss.map stD):=by
     rw[zb1 hlt,List.map_append]
     exact Reps.updL hf6 (RF6.append (.cons rst .nil)) ((za5 _).append (za5 [_]))
    have R7:=Rep.updL (l':=fv++[.ref p]) hf6 R6 (.tup (zbp b))
    obtain ⟨dv,hd6,RD6⟩:=L6
    have hd7:upd H6 pf (.lst (fv++[.ref p])) pd=some (.lst dv):=by rw[zaj hpdf];exact hd6
    have RD7:=Reps.updL (l':=fv++[.ref p]) hf6 RD6 (zep _)
    have hp7:upd H6 pf (.lst (fv++[.ref p])) p=some (.tup (stV (stepL b (runF b x n).ds x (runF b x n).at_ (bestL b (runF b x n).ds x (runF b x n).at_)).1)):=by
     rw[zaj (zan hp hf6 (by intro q;cases q))];exact hp
    have sH7:Same H (upd H6 pf (.lst (fv++[.ref p]))):=fun b' o e=>by rw[zaj (zad e hpf0)];exact sH6 b' o e
    generalize upd H6 pf (.lst (fv++[.ref p]))=H7 at hf7 RF7 R7 hd7 RD7 hp7 sH7
    refine ⟨_,rfl,_,rfl,1,rfl,pf,_,-1,_,rfl,rfl,SqL.of hf7,zbJ fv (.ref p),p,_,1,_,rfl,rfl,SqT.of hp7,zah (j:=1) rfl,_,_,rfl,rfl,?_⟩
    have eat:((runF b x n).at_:Int)+(stepL b (runF b x n).ds x (runF b x n).at_ (bestL b (runF b x n).ds x (runF b x n).at_)).1.2.1=((runF b x (n+1)).at_:Int):=by
     rw[zfk hlt]
     show _=((_+_:Nat):Int)
     omega
    refine ⟨⟨n+1,some (.ref pm),?_,sH7,R7,⟨dv,hd7,RD7⟩,_,hf7,RF7⟩,?_⟩
    ·show [some v,some (.str x),some (.ref pd),some (.ref pf),some (V.int (((runF b x n).at_:Int)+(stepL b (runF b x n).ds x (runF b x n).at_ (bestL b (runF b x n).ds x (runF b x n).at_)).1.2.1)),some (.ref pm)]=_
     rw[eat]
    ·show x.length-(((runF b x n).at_:Int)+(stepL b (runF b x n).ds x (runF b x n).at_ (bestL b (runF b x n).ds x (runF b x n).at_)).1.2.1).toNat<x.length-((runF b x n).at_:Int).toNat
     omega
   ·have hge:(runF b x n).at_=x.length:=by
     have:¬(((runF b x n).at_:Int)<(x.length:Int)):=fun q=>hlt (decide_eq_true q)
     omega
    refine ⟨_,rfl,_,rfl,by show (2:Nat)≤_;omega,fun p np=>?_⟩
    have s4:=Same.new (o:=.lst [.ref pf,.ref pd]) np
    exact k p pf pd n _ (s3.trans s4) zab hge (.lst (s4 _ _ hf3) hpfz (RF.mono s4.x)) (L3.same s4)
  ·rintro σ H3 Q1 Q2 hq ⟨v1,e1,v2,e2,x2,e3,h4,i1,i2,e5,e6,b1,e7,h⟩
   exact ⟨v1,e1,v2,e2,x2,e3,h4,i1,i2,e5,e6,b1,e7,hq _ _ h⟩
def pdD (d:LDr):D:=.tup [.int d.2.1,.str d.2.2]
theorem zcm:∀ds:List LDr,NoLs (ds.map pdD)
 |[]=>.nil
 |d::r=>.cons (.tup (.cons (.int _) (.cons (.str _) .nil))) (zcm r)
def PDs (z:Addr) (H:Hp) (q:Addr) (ds:List LDr):Prop:=∃vs,H q=some (.lst vs)∧Reps z H vs (ds.map pdD)
theorem PDs.same {z:Addr}{H H':Hp}{q:Addr}{ds:List LDr}(h:PDs z H q ds) (s:Same H H'):PDs z H' q ds:=let ⟨vs,a,r⟩:=h;⟨vs,s _ _ a,r.mono s.x⟩
theorem zjQ {z:Addr}{H:Hp}{v:V}{d:LDr}(r:Rep z H v (pdD d)):∃a,v=.ref a∧a≠z∧H a=some (.tup [.int d.2.1,.str d.2.2]):=by
 cases r with
 |tup h hz r=>
  cases r with
  |cons r1 r=>
   cases r with
   |cons r2 r=>
    cases r
    cases r1
    cases r2
    exact ⟨_,rfl,hz,h⟩
theorem zhV {z:Addr}{H:Hp}{xs:List V}{ds:List LDr}{i:Nat}(r:Reps z H xs (ds.map pdD)) (hi:i<ds.length):Rep z H (xs.getD i .non) (pdD (ds.getD i ld0)):=by
 have:=r.get (i:=i) (by simpa using hi)
 simpa [hi] using this
theorem zhW {z:Addr}{H:Hp}{ds:List LDr}{vs:List V}(RD:Reps z H vs (ds.map pdD)) (hpos:0<ds.length):∃ad,atI vs (-1)=some (.ref ad)∧H ad=some (.tup [.int (ds.getD (ds.length-1) ld0).2.1,.str (ds.getD (ds.length-1) ld0).2.2]):=by
 have hvl:vs.length=ds.length:=by have:=RD.length;simpa using this
 obtain ⟨ad,ed,hadz,had⟩:=zjQ (zhV (ds:=ds) (i:=ds.length-1) RD (by omega))
 refine ⟨ad,?_,had⟩
 have e1:ixN vs.length (-1)=some (vs.length-1):=by
  unfold ixN
  rw[if_neg (by decide),if_pos (by omega)]
  congr 1
  omega
 unfold atI
 rw[e1]
 show vs[vs.length-1]?=_
 have h1:vs.length-1<vs.length:=by omega
 have h2:vs.getD (vs.length-1) .non=vs[vs.length-1]:=by simp[h1]
 rw[List.getElem?_eq_getElem h1,←h2,hvl,ed]
inductive zbL:List V→Hp→VK→XK→Prop where
 |mk {vs:List V} {H:Hp} {Q:VK} {E:XK} (z q ds:_) (c1:vs=[.ref q]) (c2:PDs z H q ds) (c3:Q (.int (zal ds)) H):zbL vs H Q E
theorem scWithin:zav ["doors","inner","close"] ["doors"] (zag zfF):=⟨rfl,rfl,rfl,by decide +kernel,rfl,by decide +kernel,by decide +kernel⟩
theorem zhX {f:Addr}{fd:FuncData}(F:Fun K "tongue_within" "tongue_within" zfF f fd):FnOk P w K mg base CX0 1 f fd ["doors"] zbL:=by
 refine F.ok scWithin (fun vs H Q E h=>?_) (fun cdv A outer s H vs Q E hr h=>?_)
 ·obtain ⟨z,q,ds,rfl,_⟩:=h
  rfl
 ·obtain ⟨z,q,ds,rfl,⟨vs,hq,RD⟩,k⟩:=h
  have nd:=scWithin.nd
  have hvl:vs.length=ds.length:=by have:=RD.length;simpa using this
  refine ⟨_,zac (zaW (zdP (zcu (pv 0) (fun _=>rfl))) (zai (zax zaf)) zaA)
   (zac (zbq (zau ix_list (pv 0) (zbP zbf zaf) (fun _ _=>rfl)) (zbu rfl (zat (zao (i:=1) nd rfl (Or.inl rfl)) (zat (zao (i:=2) nd rfl (Or.inl rfl)) za1))))
   (zai (zax (pv 1)))),?_⟩
  dsimp only[cxOf,Cx.nox,Cx.wish]
  refine ⟨_,rfl,_,.inl ⟨vs,SqL.of hq,rfl⟩,?_⟩
  by_cases hpos:0<ds.length
  ·have hve:(!vs.isEmpty)=true:=by
    cases vs with
    |nil=>simp at hvl;omega
    |cons _ _=>rfl
   rw[hve]
   obtain ⟨ad,hat,had⟩:=zhW RD hpos
   refine iteF ?_
   refine ⟨_,rfl,1,rfl,q,vs,-1,_,rfl,rfl,SqL.of hq,hat,ad,_,rfl,SqT.of had,rfl,_,_,rfl,_,_,rfl,rfl,_,rfl,?_⟩
   rw[zcl hpos] at k
   exact k
  ·have hve:(!vs.isEmpty)=false:=by
    cases vs with
    |nil=>rfl
    |cons _ _=>simp at hvl;omega
   rw[hve]
   refine iteT ?_
   have:ds=[]:=List.eq_nil_of_length_eq_zero (by omega)
   subst this
   exact k
abbrev Mk:=Str×Option Dr
def mkOD:Option Dr→D
 |none=>.non
 |some d=>drD d
def mkD (m:Mk):D:=.tup [.str m.1,mkOD m.2]
def possL (b:Bk) (ds:List LDr):List Mk:=(lastL ds).map (fun d=>(d.2.2,none))++(b.getD (zal ds).toNat tg0).2.map fun d=>(d.1,some d)
theorem zjR (d:Dr):NoL (drD d):=.tup (.cons (.str _) (.cons (.int _) (.cons (.str _) .nil)))
theorem zjS (m:Mk):NoL (mkD m):=by
 obtain ⟨x,o⟩:=m
 cases o with
 |none=>exact .tup (.cons (.str _) (.cons .non .nil))
 |some d=>exact .tup (.cons (.str _) (.cons (zjR d) .nil))
theorem zfJ:∀ms:List Mk,NoLs (ms.map mkD)
 |[]=>.nil
 |d::r=>.cons (zjS d) (zfJ r)
inductive zfl:List V→Hp→VK→XK→Prop where
 |mk {vs:List V} {H:Hp} {Q:VK} {E:XK} (z v b q ds:_) (c1:vs=[v,.ref q]) (c2:Bag z H) (c3:Rep z H v (bkD b)) (c4:BkOk b) (c5:PDs z H q ds) (c6:LdOk b ds) (c7:∀p ws H',Same H H'→H p=none→H' p=some (.lst ws)→Reps z H' ws ((possL b ds).map mkD)→Q (.ref p) H'):zfl vs H Q E
theorem zfm {ds:List LDr}(h:0<ds.length):lastL ds=[ds.getD (ds.length-1) ld0]:=by
 have hlt:ds.length-1<ds.length:=by omega
 unfold lastL
 rw[List.drop_eq_getElem_cons hlt]
 have:ds.length-1+1=ds.length:=by omega
 rw[this,List.drop_length]
 simp[hlt]
theorem zhY {α:Type}{xs:List α}{i:Nat}(d:α) (h:i<xs.length):xs.getD i d=xs[i]:=by simp[h]
theorem scPoss:zav ["book","doors","marks","inner","close","escape","ways","door"] ["book","doors"] (zag sPoss):=⟨rfl,rfl,rfl,by decide +kernel,rfl,by decide +kernel,by decide +kernel⟩
theorem zkx {f f1:Addr}{fd fd1:FuncData}(F:Fun K "possible_marks" "possible_marks" sPoss f fd)
  (k1:W.keepIn K (.ref f1)=true) (b1:Binds K fd1 ["doors"] []) (m1:mg "tongue_within"=some (.ref f1)) (G1:FnOk P w K mg base CX0 1 f1 fd1 ["doors"] zbL):FnOk P w K mg base CX0 2 f fd ["book","doors"] zfl:=by
 refine F.ok scPoss (fun vs H Q E h=>?_) (fun cdv A outer s H vs Q E hr h=>?_)
 ·obtain ⟨z,v,b,q,ds,rfl,_⟩:=h
  rfl
 ·obtain ⟨z,v,b,q,ds,rfl,hB,R0,hok,⟨vs,hq,RD⟩,hld,k⟩:=h
  obtain ⟨a,xs,rfl,haz,ha,hxl,R⟩:=zb9 R0
  obtain ⟨hb1,hb6,htok,_⟩:=hok
  have nd:=scPoss.nd
  have big:=za6
  have hvl:vs.length=ds.length:=by have:=RD.length;simpa using this
  refine ⟨_,zac (zap (i:=2) nd rfl (Or.inl rfl) (zaF zae))
   (zac (zaW (zcu (pv 1) (fun _=>rfl)) (zac (zbq (zau ix_list (pv 1) (zbP zbf zaf) (fun _ _=>rfl)) (zbu rfl (zat (zao (i:=3) nd rfl (Or.inl rfl)) (zat (zao (i:=4) nd rfl (Or.inl rfl)) za1))))
    (zai (zaO (zbU PySem.F.plainAttrs_list PySem.F.slot_list_append PySem.F.type_list_append zaK (pv 2) (zaa (za2 (zaa (pv 4) (zaa zdM zae))) zae))))) zaA)
   (zac (zbq (zau ix_tup (pv 0) (zas G1 hr rfl m1 k1 b1 .nil pass0 (zaa (pv 1) zae)) (fun _ _=>rfl)) (zbu rfl (zat (zao (i:=5) nd rfl (Or.inl rfl)) (zat (zao (i:=6) nd rfl (Or.inl rfl)) za1))))
   (zac (zbO PassesOwn.never rfl (zbS (pv 6)) (zao (i:=7) nd rfl (Or.inl rfl))
    (zai (zaO (zbU PySem.F.plainAttrs_list PySem.F.slot_list_append PySem.F.type_list_append zaK (pv 2) (zaa (za2 (zaa (zau ix_tup (pv 7) zaf (fun _ _=>rfl)) (zaa (pv 7) zae))) zae)))))
   (zai (zax (pv 2)))))),?_⟩
  dsimp only[cxOf,Cx.nox,Cx.wish]
  refine ⟨Nat.zero_le _,fun pm npm=>?_⟩
  have s1:=Same.new (o:=.lst []) npm
  have hpq:q≠pm:=zad hq npm
  have hpz:pm≠z:=hB.ne npm
  dsimp only
  refine zhk (J:=fun σ' H2=>∃(u3 u4:Option V),σ'=[some (.ref a),some (.ref q),some (.ref pm),u3,u4,none,none,none]∧Same H H2∧∃ws,H2 pm=some (.lst ws)∧Reps z H2 ws (((lastL ds).map fun d=>((d.2.2,none):Mk)).map mkD)) (fun U J=>?g1) ?g2
  case g1=>
   refine ⟨_,rfl,_,.inl ⟨vs,SqL.of (s1 _ _ hq),rfl⟩,?_⟩
   refine ite2 (fun hne=>?_) (fun hne=>?_)
   case refine_1=>
    have hpos:0<ds.length:=by
     cases vs with
     |nil=>simp at hne
     |cons _ _=>simp at hvl;omega
    obtain ⟨ad,hat,had⟩:=zhW (RD.mono s1.x) hpos
    refine ⟨_,rfl,1,rfl,q,vs,-1,_,rfl,rfl,SqL.of (s1 _ _ hq),hat,ad,_,rfl,SqT.of had,rfl,_,_,rfl,_,_,rfl,rfl,_,rfl,.inl ⟨rfl,_,SqL.of zab⟩,_,rfl,by show (2:Nat)≤_;omega,fun pt npt=>?_⟩
    have t2:=Same.new (o:=.tup [.str (ds.getD (ds.length-1) ld0).2.2,.non]) npt
    have hpt:upd (upd H pm (.lst [])) pt (.tup [.str (ds.getD (ds.length-1) ld0).2.2,.non]) pt=some (.tup [.str (ds.getD (ds.length-1) ld0).2.2,.non]):=zab
    have hptz:pt≠z:=(hB.same s1).ne npt
    have hp2:=t2 pm _ zab
    have S2:=s1.trans t2
    generalize upd (upd H pm (.lst [])) pt (.tup [.str (ds.getD (ds.length-1) ld0).2.2,.non])=H1 at hpt hp2 S2
    refine ⟨pm,[],_,rfl,rfl,hp2,by show (0:Nat)<_;omega,?_⟩
    have s2:Same H (upd H1 pm (.lst ([]++[.ref pt]))):=fun b' o e=>by rw[zaj (zad e npm)];exact S2 b' o e
    have hW:∃ws,upd H1 pm (.lst ([]++[.ref pt])) pm=some (.lst ws)∧Reps z (upd H1 pm (.lst ([]++[.ref pt]))) ws (((lastL ds).map fun d=>((d.2.2,none):Mk)).map mkD):=by
     refine ⟨_,zab,Reps.updL hp2 ?_ (zfJ _)⟩
     rw[zfm hpos]
     have hsm:=(hld _ (zaI ld0 (i:=ds.length-1) (by omega))).2
     exact .cons (.tup hpt hptz (.cons (.str _ (by have:=hsm.2;omega)) (.cons .non .nil))) .nil
    exact J _ _ ⟨_,_,rfl,s2,hW⟩
   case refine_2=>
    have hz:ds.length=0:=by
     cases vs with
     |nil=>simp at hvl;omega
     |cons _ _=>simp at hne
    have s2:=s1
    have hW:∃ws,upd H pm (.lst []) pm=some (.lst ws)∧Reps z (upd H pm (.lst [])) ws (((lastL ds).map fun d=>((d.2.2,none):Mk)).map mkD):=by
     refine ⟨[],zab,?_⟩
     have:ds=[]:=List.eq_nil_of_length_eq_zero hz
     rw[this]
     exact .nil
    exact J _ _ ⟨_,_,rfl,s2,hW⟩
  case g2=>
   rintro σ' H2 ⟨u3,u4,rfl,s2,ws,hw,RW⟩
   obtain ⟨tN,htN,htl⟩:=za8 hld hb1
   obtain ⟨c,d,ys,ec,hcz,hdz,hc,hd,hyl,Ry⟩:=zaY ((zaL (b:=b) (i:=tN) R htl).mono s2.x)
   have exv:xs[tN]?=some (.ref c):=by
    have h1:tN<xs.length:=by omega
    have h2:xs.getD tN .non=xs[tN]:=by simp[h1]
    rw[List.getElem?_eq_getElem h1,←h2,ec]
   have etn:b.getD (zal ds).toNat tg0=b.getD tN tg0:=by rw[htN];rfl
   have tok:=htok _ (zaI tg0 htl)
   have hyl:ys.length=(b.getD tN tg0).2.length:=hyl
   have hposs:possL b ds=(lastL ds).map (fun d=>((d.2.2,none):Mk))++(b.getD tN tg0).2.map fun d=>(d.1,some d):=by unfold possL;rw[etn]
   rw[hposs] at k
   clear hposs etn
   generalize hT:b.getD tN tg0=tt at *
   have few:=tok.2.1
   have hll:(lastL ds).length≤1:=by unfold lastL;rw[List.length_drop];omega
   refine ⟨_,rfl,_,rfl,z,q,ds,rfl,⟨vs,s2 _ _ hq,RD.mono s2.x⟩,a,xs,zal ds,_,rfl,rfl,SqT.of (s2 _ _ ha),by rw[htN];exact zah exv,c,_,rfl,SqT.of hc,rfl,_,_,rfl,_,_,rfl,rfl,?_⟩
   refine ⟨_,rfl,d,rfl,⟨_,SqT.of hd⟩,zdm (K:=K) (a:=d) (xs:=ys) (fun i σ H3=>∃u3 u4 u,σ=[some (.ref a),some (.ref q),some (.ref pm),u3,u4,some (.str tt.1),some (.ref d),u]∧Same H H3∧SameX pm H2 H3∧∃ws,H3 pm=some (.lst ws)∧Reps z H3 ws (((lastL ds).map (fun d=>((d.2.2,none):Mk))++(tt.2.take i).map fun d=>(d.1,some d)).map mkD))
    ⟨_,_,none,rfl,s2,.refl,ws,hw,by simpa using RW⟩ (fun j σ H3 _ ⟨_,_,_,_,_,s,_⟩=>SqT.of (s _ _ (zan hd hw (by intro q;cases q)) hd)) ?_ ?_⟩
   ·rintro j y σ H3 hj ⟨u3,u4,u,rfl,s3,sx3,ws3,hw3,RW3⟩
    have hjl:j<tt.2.length:=by have:=(List.getElem?_eq_some_iff.mp hj).1;omega
    have ey:y=ys.getD j .non:=by rw[List.getD_eq_getElem?_getD,hj];rfl
    have Ry3:Rep z H3 (ys.getD j .non) (drD (tt.2.getD j dr0)):=Rep.butL hw sx3 (zbe (ds:=tt.2) (i:=j) Ry hjl) (zjR _)
    obtain ⟨qd,e2,hqz,hqd⟩:=zbs Ry3
    have dok:=tok.2.2 _ (zaI dr0 hjl)
    rw[e2] at Ry3
    rw[ey,e2]
    have hwl:ws3.length≤10:=by
     have:=RW3.length
     simp at this
     omega
    refine ⟨_,rfl,.inl ⟨rfl,_,SqL.of hw3⟩,_,rfl,qd,_,0,_,rfl,rfl,SqT.of hqd,zah (j:=0) rfl,_,rfl,by show (2:Nat)≤_;omega,fun pt npt=>?_⟩
    have s4:=Same.new (o:=.tup [.str (tt.2.getD j dr0).1,.ref qd]) npt
    have hpt:upd H3 pt (.tup [.str (tt.2.getD j dr0).1,.ref qd]) pt=some (.tup [.str (tt.2.getD j dr0).1,.ref qd]):=zab
    have hptz:pt≠z:=(hB.same s3).ne npt
    have hw4:=s4 _ _ hw3
    have RW4:=RW3.mono s4.x (z:=z)
    have Ry4:=Ry3.mono s4.x (z:=z)
    have S4:=s3.trans s4
    have SX4:=sx3.trans s4.x
    generalize upd H3 pt (.tup [.str (tt.2.getD j dr0).1,.ref qd])=H4 at hpt hw4 RW4 Ry4 S4 SX4
    refine ⟨pm,ws3,_,rfl,rfl,hw4,by omega,?_⟩
    have g1:=zaX dok.1
    refine ⟨_,_,_,rfl,fun b' o e=>by rw[zaj (zad e npm)];exact S4 b' o e,SX4.upd,_,zab,?_⟩
    refine Reps.updL hw4 ?_ (zfJ _)
    have et:(tt.2.take (j+1)).map (fun d=>((d.1,some d):Mk))=(tt.2.take j).map (fun d=>((d.1,some d):Mk))++[((tt.2.getD j dr0).1,some (tt.2.getD j dr0))]:=by
     rw[List.take_add_one,List.getElem?_eq_getElem hjl,zhY dr0 hjl,List.map_append]
     rfl
    rw[et,←List.append_assoc,List.map_append]
    exact RW4.append (.cons (.tup hpt hptz (.cons (.str _ (by omega)) (.cons Ry4 .nil))) .nil)
   ·rintro σ H3 ⟨u3,u4,u,rfl,s3,sx3,ws3,hw3,RW3⟩
    rw[hyl,List.take_length] at RW3
    exact ⟨_,rfl,k pm ws3 H3 s3 npm hw3 RW3⟩
theorem zdZ {z:Addr}{J:It}{g:TG}{tt:TT}{te:TE}{Qe:St→Hp→Prop}{σ0:St}{H0:Hp}{p:Addr}{n:Nat}{item:Nat→V}(keep:Nat→Bool) (dat:Nat→D) (Pσ:St→Prop) (hσ:Pσ σ0) (hp:H0 p=none) (hn:n≤100000) (ok:ItOk J n item (upd H0 p (.lst [])) p) (nl:∀i,NoL (dat i))
  (turn:∀i σ H (Ct:V→St→Hp→Prop) (Cf:St→Hp→Prop),i<n→Pσ σ→Same H0 H→(keep i=true→∀σ2 v H4,Pσ σ2→Same H H4→Rep z H4 v (dat i)→Ct v σ2 H4)→(keep i=false→∀σ2 H4,Pσ σ2→Same H H4→Cf σ2 H4) →
   g (item i) σ H fun σ2 H2=>tt σ2 H2 fun b H3=>if b=true then te σ2 H3 fun v H4=>Ct v σ2 H4 else Cf σ2 H3)
  (hQ:∀σ H vs,Same H0 H→H p=some (.lst vs)→Reps z H vs (((List.range n).filter keep).map dat)→Qe σ H):tLoop J g tt (tApp p te) Qe σ0 (upd H0 p (.lst [])):=by
 have s0:Same H0 (upd H0 p (.lst [])):=Same.new hp
 have up:∀ {H},SameX p (upd H0 p (.lst [])) H→Same H0 H:=fun {H} h b o e=>h b o (zad e hp) (s0 b o e)
 have nls:∀l:List Nat,NoLs (l.map dat):=fun l=>by
  induction l with
  |nil=>exact .nil
  |cons a r ih=>exact .cons (nl a) ih
 refine ⟨fun i m σ H=>m=n-i∧i≤n∧Pσ σ∧SameX p (upd H0 p (.lst [])) H∧∃vs,H p=some (.lst vs)∧vs.length≤i∧Reps z H vs (((List.range i).filter keep).map dat),⟨n,rfl,Nat.zero_le _,hσ,.refl,[],zab,Nat.le_refl _,.nil⟩,?_⟩
 rintro i m σ H ⟨rfl,hi,hP,hS,vs,hv,hl,R⟩
 by_cases hlt:i<n
 ·refine .inr ⟨ok.go i H hlt hS,fun σ' H'=>Pσ σ'∧SameX p (upd H0 p (.lst [])) H'∧∃vs,H' p=some (.lst vs)∧vs.length≤i+1∧Reps z H' vs (((List.range (i+1)).filter keep).map dat),fun σ' H' ⟨a,b,c⟩=>⟨n-(i+1),by omega,rfl,hlt,a,b,c⟩,fun x H' y=>?_⟩
  obtain ⟨rfl,rfl⟩:=ok.yld i H x H' hlt hS y
  have er:((List.range (i+1)).filter keep).map dat=((List.range i).filter keep).map dat++(if keep i then [dat i] else []):=by
   rw[List.range_succ,List.filter_append,List.map_append]
   cases g:keep i<;>simp[g]
  refine turn i σ H' (fun v σ2 H4=>∃ys,H4 p=some (.lst ys)∧ys.length<sizeLine∧(Pσ σ2∧SameX p (upd H0 p (.lst [])) (upd H4 p (.lst (ys++[v])))∧∃vs,upd H4 p (.lst (ys++[v])) p=some (.lst vs)∧vs.length≤i+1∧Reps z (upd H4 p (.lst (ys++[v]))) vs (((List.range (i+1)).filter keep).map dat))) _ hlt hP (up hS) (fun hk σ2 v H4 hP2 hS2 R2=>?_) fun hk σ2 H4 hP2 hS2=>?_
  ·have h4:=hS2 _ _ hv
   have big:(100000:Nat)<sizeLine:=by rw[sizeLine_eq];decide
   refine ⟨vs,h4,by omega,hP2,(hS.trans hS2.x).upd,vs++[v],zab,by simp;omega,?_⟩
   refine Reps.updL h4 ?_ (nls _)
   rw[er,hk]
   exact (R.mono hS2.x).append (.cons R2 .nil)
  ·refine ⟨hP2,hS.trans hS2.x,vs,hS2 _ _ hv,by omega,?_⟩
   rw[er,hk]
   simpa using R.mono hS2.x
 ·have e:i=n:=by omega
  subst e
  exact .inl ⟨ok.stop H hS,hQ σ H vs (up hS) hv R⟩
theorem zfn {α β:Type}(xs:List α) (d:α) (p:α→Bool) (f:α→β):((List.range xs.length).filter fun i=>p (xs.getD i d)).map (fun i=>f (xs.getD i d))=(xs.filter p).map f:=by
 have e:(List.range xs.length).map (fun i=>xs.getD i d)=xs:=by
  refine List.ext_getElem (by simp) fun i h1 h2=>?_
  simp at h1
  simp[h1]
 have:(xs.filter p).map f=(((List.range xs.length).map (fun i=>xs.getD i d)).filter p).map f:=by rw[e]
 rw[this,List.filter_map,List.map_map]
 rfl
def fitsP (b:Bk) (ds:List LDr) (x:Str) (i:Nat):List Mk:=(possL b ds).filter fun m=>stAt x m.1 i
abbrev mk0:Mk:=(⟨#[]⟩,none)
theorem zgh {z:Addr}{H:Hp}{v:V}{m:Mk}(r:Rep z H v (mkD m)):∃a u,v=.ref a∧a≠z∧H a=some (.tup [.str m.1,u])∧m.1.length≤1000∧Rep z H u (mkOD m.2):=by
 cases r with
 |tup h hz r=>
  cases r with
  |cons r1 r=>
   cases r with
   |cons r2 r=>
    cases r
    cases r1 with
    |str _ h1=>exact ⟨_,_,rfl,hz,h,h1,r2⟩
theorem zet {z:Addr}{H:Hp}{xs:List V}{ms:List Mk}{i:Nat}(r:Reps z H xs (ms.map mkD)) (hi:i<ms.length):Rep z H (xs.getD i .non) (mkD (ms.getD i mk0)):=by
 have:=r.get (i:=i) (by simpa using hi)
 simpa [hi] using this
inductive zgi:List V→Hp→VK→XK→Prop where
 |mk {vs:List V} {H:Hp} {Q:VK} {E:XK} (z v b q ds x:_) (i:Nat) (c1:vs=[v,.str x,.int i,.ref q]) (c2:Bag z H) (c3:Rep z H v (bkD b)) (c4:BkOk b) (c5:PDs z H q ds) (c6:LdOk b ds) (c7:∀p ws H',Same H H'→H p=none→H' p=some (.lst ws)→Reps z H' ws ((fitsP b ds x i).map mkD)→Q (.ref p) H'):zgi vs H Q E
theorem zlq:zav ["book","text","place","doors"] ["book","text","place","doors"] (zag zdb):=⟨rfl,rfl,rfl,by decide +kernel,rfl,by decide +kernel,by decide +kernel⟩
theorem zjT:(["mark","door","place","text"]:List Str).Nodup:=by decide +kernel
theorem zhZ {b:Bk}{ds:List LDr}(htok:∀t∈b,TgOk b.length t):(possL b ds).length≤10:=by
 unfold possL
 have h1:(lastL ds).length≤1:=by unfold lastL;rw[List.length_drop];omega
 have h2:(b.getD (zal ds).toNat tg0).2.length≤6:=by
  by_cases h:(zal ds).toNat<b.length
  ·exact (htok _ (zaI tg0 h)).2.1
  ·have:b.getD (zal ds).toNat tg0=tg0:=by simp[h]
   rw[this]
   exact Nat.zero_le _
 rw[List.length_append,List.length_map,List.length_map]
 omega
theorem zky {f f1:Addr}{fd fd1:FuncData}(F:Fun K "fitting_marks" "fitting_marks" zdb f fd)
  (k1:W.keepIn K (.ref f1)=true) (b1:Binds K fd1 ["book","doors"] []) (m1:mg "possible_marks"=some (.ref f1)) (G1:FnOk P w K mg base CX0 2 f1 fd1 ["book","doors"] zfl):FnOk P w K mg base CX0 3 f fd ["book","text","place","doors"] zgi:=by
 refine F.ok zlq (fun vs H Q E h=>?_) (fun cdv A outer s H vs Q E hr h=>?_)
 ·obtain ⟨z,v,b,q,ds,x,i,rfl,_⟩:=h
  rfl
 ·obtain ⟨z,v,b,q,ds,x,i,rfl,hB,R0,hok,hD,hld,k⟩:=h
  refine ⟨_,zai (zax (zbr (N':=["mark","door","place","text"]) (js:=[none,none,some 2,some 1]) rfl rfl (zbx (zag zdb) (by decide +kernel)) ⟨rfl,Or.inr (Or.inl rfl),rfl,rfl,Or.inr (Or.inl rfl),rfl,trivial⟩ (zbR (zas G1 hr rfl m1 k1 b1 .nil pass0 (zaa (pv 0) (zaa (pv 3) zae))))
    (fun cl s H fp=>zhh 2 rfl (zat (zao (i:=0) zjT rfl (Or.inl rfl) (Or.inr rfl)) (zat (zao (i:=1) zjT rfl (Or.inl rfl) (Or.inr rfl)) za1)))
    (fun cl s H fp=>zcR (zdN (zhD PySem.F.plainAttrs_str PySem.F.slot_str_startswith PySem.F.type_str_startswith zcw (pv 3) (zaa (pv 0) (zaa (pv 2) zae)))))
    (fun cl s H fp=>za2 (zaa (pv 0) (zaa (pv 1) zae))))),?_⟩
  dsimp only[cxOf,Cx.nox,Cx.wish]
  have big:=za6
  refine ⟨_,rfl,_,rfl,z,v,b,q,ds,rfl,hB,R0,hok,hD,hld,fun l ws H1 s1 nl hl RW=>?_⟩
  have few:=zhZ (ds:=ds) hok.2.2.1
  have hwl:ws.length=(possL b ds).length:=by have:=RW.length;simpa using this
  refine ⟨l,rfl,⟨_,SqL.of hl⟩,fun p np=>?_⟩
  have hlp:l≠p:=zad hl np
  refine zdZ (z:=z) (fun j=>stAt x ((possL b ds).getD j mk0).1 i) (fun j=>mkD ((possL b ds).getD j mk0)) (fun σ=>∃u v,σ=[u,v,some (.int i),some (.str x)]) ⟨none,none,rfl⟩ np (by omega) (zb7 (xs:=ws) (by rw[zaj hlp];exact hl) hlp) (fun j=>zjS _) (fun j σ H2 Ct Cf hj ⟨u,v,hv⟩ hS hT hF=>?_) (fun σ H2 vs s2 hp R2=>?_)
  ·subst hv
   have Rj:=(zet (ms:=possL b ds) (i:=j) RW (by omega)).mono hS.x (z:=z)
   obtain ⟨a,u,e,haz,ha,hlen,Ru⟩:=zgh Rj
   rw[e]
   refine ⟨a,_,rfl,SqT.of ha,rfl,_,_,rfl,_,_,rfl,rfl,?_⟩
   refine ⟨_,rfl,rfl,_,rfl,_,rfl,_,_,i,rfl,rfl,_,rfl,?_⟩
   refine ite2 (fun h=>?_) (fun h=>?_)
   ·refine ⟨_,rfl,_,rfl,by show (2:Nat)≤_;omega,fun pt npt=>?_⟩
    have s3:=Same.new (o:=.tup [.str ((possL b ds).getD j mk0).1,u]) npt
    refine hT h _ _ _ ⟨_,_,rfl⟩ s3 (.tup zab (((hB.same s1).same hS).ne npt) (.cons (.str _ hlen) (.cons (Ru.mono s3.x) .nil)))
   ·exact hF (by simpa using h) _ _ ⟨_,_,rfl⟩ (Same.refl _)
  ·rw[hwl,zfn (possL b ds) mk0 (fun m=>stAt x m.1 i) mkD] at R2
   exact k p vs H2 (s1.trans s2) (s1.free np) hp R2
def takeL (ds:List LDr) (i:Nat) (m:Str):Option Dr→Stp×List LDr
 |none=>(((i:Int),(m.length:Int),Str.ofString "close",zal ds.dropLast,(ds.length:Int)-1),ds.dropLast)
 |some d=>(((i:Int),(m.length:Int),Str.ofString "open",zal ds,(ds.length:Int)),ds++[((i:Int),d.2.1,d.2.2)])
theorem zh0 {z:Addr}{H:Hp}{v:V}{d:Dr}(r:Rep z H v (drD d)):∃a,v=.ref a∧a≠z∧H a=some (.tup [.str d.1,.int d.2.1,.str d.2.2])∧d.2.2.length≤1000:=by
 cases r with
 |tup h hz r=>
  cases r with
  |cons r1 r=>
   cases r with
   |cons r2 r=>
    cases r with
    |cons r3 r=>
     cases r
     cases r1
     cases r2
     cases r3 with
     |str _ h3=>exact ⟨_,rfl,hz,h,h3⟩
inductive zeu:List V→Hp→VK→XK→Prop where
 |mk {vs:List V} {H:Hp} {Q:VK} {E:XK} (z m u o:_) (i:Nat) (q ds:_) (c1:vs=[.str m,u,.int i,.ref q]) (c2:Bag z H) (c3:q≠z) (c4:Rep z H u (mkOD o)) (c5:m.length≤1000) (c6:PDs z H q ds) (c7:ds.length≤20000) (c8:(o=none→0<ds.length)) (c9:∀p H',SameX q H H'→H p=none→H' p=some (.tup (stV (takeL ds i m o).1))→PDs z H' q (takeL ds i m o).2→Q (.ref p) H'):zeu vs H Q E
def zgj (b:Bk) (ds:List LDr) (x:Str) (i:Nat):Stp:=
 if (⟨#[x.cps.getD i 0]⟩:Str)=(b.getD (zal ds).toNat tg0).1 then
  (if i+1<x.length then ((i:Int),2,Str.ofString "escape",zal ds,(ds.length:Int)) else ((i:Int),1,Str.ofString "cut",zal ds,(ds.length:Int)))
 else ((i:Int),1,Str.ofString "sign",zal ds,(ds.length:Int))
inductive zdd:List V→Hp→VK→XK→Prop where
 |mk {vs:List V} {H:Hp} {Q:VK} {E:XK} (z v b q ds x:_) (i:Nat) (c1:vs=[v,.str x,.int i,.ref q]) (c2:Rep z H v (bkD b)) (c3:BkOk b) (c4:PDs z H q ds) (c5:LdOk b ds) (c6:i<x.length) (c7:x.length≤20000) (c8:∀p H',Same H H'→H p=none→H' p=some (.tup (stV (zgj b ds x i)))→Q (.ref p) H'):zdd vs H Q E
theorem scTakeM:zav ["mark","door","place","doors","step","opening","inner","close"] ["mark","door","place","doors"] (zag zhM):=⟨rfl,rfl,rfl,by decide +kernel,rfl,by decide +kernel,by decide +kernel⟩
theorem zja {f f1:Addr}{fd fd1:FuncData}(F:Fun K "take_mark" "take_mark" zhM f fd) (T:TxtB mg)
  (k1:W.keepIn K (.ref f1)=true) (b1:Binds K fd1 ["doors"] []) (m1:mg "tongue_within"=some (.ref f1)) (G1:FnOk P w K mg base CX0 1 f1 fd1 ["doors"] zbL):FnOk P w K mg base CX0 2 f fd ["mark","door","place","doors"] zeu:=by
 refine F.ok scTakeM (fun vs H Q E h=>?_) (fun cdv A outer s H vs Q E hr h=>?_)
 ·obtain ⟨z,m,u,o,i,q,ds,rfl,_⟩:=h
  rfl
 ·obtain ⟨z,m,u,o,i,q,ds,rfl,hB,hqz,Ru,hm,⟨vs,hq,RD⟩,hdl,hno,k⟩:=h
  have nd:=scTakeM.nd
  have big:=za6
  have big2:(100000:Nat)≤sizeLine:=by rw[sizeLine_eq];decide
  have hvl:vs.length=ds.length:=by have:=RD.length;simpa using this
  refine ⟨_,zac (zaW (zaw zk4 (pv 1) zdM (zaz _))
    (zac (zaO (ze1 PySem.F.plainAttrs_list PySem.F.slot_list_pop PySem.F.type_list_pop zf0 (pv 3)))
    (zai (zax (za2 (zaa (pv 2) (zaa (zaq zar (by rfl) T.len b_len (zaa (pv 0) zae)) (zaa zay (zaa (zas G1 hr rfl m1 k1 b1 .nil pass0 (zaa (pv 3) zae)) (zaa (zaq zaC (by rfl) T.len b_len (zaa (pv 3) zae)) zae))))))))) zaA)
   (zac (zap (i:=4) nd rfl (Or.inl rfl) (za2 (zaa (pv 2) (zaa (zaq zar (by rfl) T.len b_len (zaa (pv 0) zae)) (zaa zay (zaa (zas G1 hr rfl m1 k1 b1 .nil pass0 (zaa (pv 3) zae)) (zaa (zaq zaC (by rfl) T.len b_len (zaa (pv 3) zae)) zae)))))))
   (zac (zbq (pv 1) (zbu rfl (zat (zao (i:=5) nd rfl (Or.inl rfl)) (zat (zao (i:=6) nd rfl (Or.inl rfl)) (zat (zao (i:=7) nd rfl (Or.inl rfl)) za1)))))
   (zac (zaO (zbU PySem.F.plainAttrs_list PySem.F.slot_list_append PySem.F.type_list_append zaK (pv 3) (zaa (za2 (zaa (pv 6) (zaa (pv 7) zae))) zae)))
   (zai (zax (pv 4)))))),?_⟩
  dsimp only[cxOf,Cx.nox,Cx.wish]
  cases o with
  |none=>
   cases Ru
   have hpos:=hno rfl
   refine ⟨_,rfl,rfl,_,rfl,?_⟩
   refine iteT ?_
   refine ⟨_,rfl,.inl ⟨rfl,_,SqL.of hq⟩,q,vs,_,rfl,rfl,hq,zjO (by omega),?_⟩
   have hq1:upd H q (.lst vs.dropLast) q=some (.lst vs.dropLast):=zab
   have RD1:Reps z (upd H q (.lst vs.dropLast)) vs.dropLast (ds.dropLast.map pdD):=by
    rw[List.map_dropLast]
    exact Reps.updL hq RD.dropLast (by rw[←List.map_dropLast];exact zcm _)
   have sx1:SameX q H (upd H q (.lst vs.dropLast)):=SameX.refl.upd
   generalize upd H q (.lst vs.dropLast)=H1 at hq1 RD1 sx1
   refine ⟨_,rfl,_,rfl,m,rfl,by omega,_,rfl,z,q,ds.dropLast,rfl,⟨_,hq1,RD1⟩,_,rfl,q,_,rfl,.inl (SqL.of hq1),by show (5:Nat)≤_;omega,fun p np=>?_⟩
   have hpn:H p=none:=by
    cases e:H p with
    |none=>rfl
    |some o=>
     have hpq:p≠q:=(zad hq1 np).symm
     rw[sx1 p o hpq e] at np
     cases np
   have t2:=Same.new (o:=.tup [.int i,.int m.length,.str (Str.ofString "close"),.int (zal ds.dropLast),.int vs.dropLast.length]) np
   refine k p _ (sx1.trans t2.x) hpn ?_ ⟨_,t2 _ _ hq1,RD1.mono t2.x⟩
   rw[zab]
   have:((vs.dropLast.length:Nat):Int)=(ds.length:Int)-1:=by simp;omega
   rw[this]
   rfl
  |some d=>
   obtain ⟨a,rfl,haz,ha,hcl⟩:=zh0 Ru
   refine ⟨_,rfl,rfl,_,rfl,?_⟩
   refine iteF ?_
   refine ⟨_,rfl,_,rfl,m,rfl,by omega,_,rfl,z,q,ds,rfl,⟨_,hq,RD⟩,_,rfl,q,_,rfl,.inl (SqL.of hq),by show (5:Nat)≤_;omega,fun p np=>?_⟩
   have t1:=Same.new (o:=.tup [.int i,.int m.length,.str (Str.ofString "open"),.int (zal ds),.int vs.length]) np
   have hp1:upd H p (.tup [.int i,.int m.length,.str (Str.ofString "open"),.int (zal ds),.int vs.length]) p=some (.tup (stV (takeL ds i m (some d)).1)):=by
    rw[zab,hvl]
    rfl
   generalize upd H p (.tup [.int i,.int m.length,.str (Str.ofString "open"),.int (zal ds),.int vs.length])=H1 at t1 hp1
   refine ⟨_,rfl,a,_,rfl,SqT.of (t1 _ _ ha),rfl,_,_,rfl,_,_,rfl,_,_,rfl,rfl,?_⟩
   refine ⟨_,rfl,.inl ⟨rfl,_,SqL.of (t1 _ _ hq)⟩,_,rfl,_,rfl,by show (2:Nat)≤_;omega,fun pt npt=>?_⟩
   have t2:=Same.new (o:=.tup [.int d.2.1,.str d.2.2]) npt
   have hpt:upd H1 pt (.tup [.int d.2.1,.str d.2.2]) pt=some (.tup [.int d.2.1,.str d.2.2]):=zab
   have hptz:pt≠z:=(hB.same t1).ne npt
   have S2:=t1.trans t2
   have hp2:=t2 _ _ hp1
   generalize upd H1 pt (.tup [.int d.2.1,.str d.2.2])=H2 at hpt S2 hp2
   have hq2:=S2 _ _ hq
   refine ⟨q,vs,_,rfl,rfl,hq2,by omega,?_⟩
   refine ⟨_,rfl,?_⟩
   refine k p _ (S2.x.upd) np ?_ ⟨_,zab,?_⟩
   ·rw[zaj (zan hp2 hq2 (by intro q;cases q))]
    exact hp2
   ·refine Reps.updL hq2 ?_ (zcm _)
    show Reps z H2 _ ((ds++[((i:Int),d.2.1,d.2.2)]).map pdD)
    rw[List.map_append]
    exact (RD.mono S2.x).append (.cons (.tup hpt hptz (.cons (.int _) (.cons (.str _ hcl) .nil))) .nil)
theorem scPlainR:zav ["book","text","place","doors","tongue","escape","ways"] ["book","text","place","doors"] (zag zfG):=⟨rfl,rfl,rfl,by decide +kernel,rfl,by decide +kernel,by decide +kernel⟩
theorem zh1 {f f1:Addr}{fd fd1:FuncData}(F:Fun K "read_plain" "read_plain" zfG f fd) (T:TxtB mg)
  (k1:W.keepIn K (.ref f1)=true) (b1:Binds K fd1 ["doors"] []) (m1:mg "tongue_within"=some (.ref f1)) (G1:FnOk P w K mg base CX0 1 f1 fd1 ["doors"] zbL):FnOk P w K mg base CX0 2 f fd ["book","text","place","doors"] zdd:=by
 refine F.ok scPlainR (fun vs H Q E h=>?_) (fun cdv A outer s H vs Q E hr h=>?_)
 ·obtain ⟨z,v,b,q,ds,x,i,rfl,_⟩:=h
  rfl
 ·obtain ⟨z,v,b,q,ds,x,i,rfl,R0,hok,⟨vs,hq,RD⟩,hld,hi,hx,k⟩:=h
  obtain ⟨a,xs,rfl,haz,ha,hxl,R⟩:=zb9 R0
  obtain ⟨hb1,hb6,htok,_⟩:=hok
  have nd:=scPlainR.nd
  have big:=za6
  have big2:(100000:Nat)≤sizeLine:=by rw[sizeLine_eq];decide
  have hvl:vs.length=ds.length:=by have:=RD.length;simpa using this
  refine ⟨_,zac (zap (i:=4) nd rfl (Or.inl rfl) (zas G1 hr rfl m1 k1 b1 .nil pass0 (zaa (pv 3) zae)))
   (zac (zbq (zau ix_tup (pv 0) (pv 4) (fun _ _=>rfl)) (zbu rfl (zat (zao (i:=5) nd rfl (Or.inl rfl)) (zat (zao (i:=6) nd rfl (Or.inl rfl)) za1))))
   (zac (zaW (zaw zd8 (zau zfZ (pv 1) (pv 2) (fun _ _=>rfl)) (pv 5) (zaz _)) (zai (zax (za2 (zaa (pv 2) (zaa zaf (zaa zay (zaa (pv 4) (zaa (zaq zaC (by rfl) T.len b_len (zaa (pv 3) zae)) zae)))))))) zaA)
   (zac (zaW (zaw zd9 (zaB zaQ (pv 2) zaf) (zaq zar (by rfl) T.len b_len (zaa (pv 1) zae)) (zaz _)) (zai (zax (za2 (zaa (pv 2) (zaa zaf (zaa zay (zaa (pv 4) (zaa (zaq zaC (by rfl) T.len b_len (zaa (pv 3) zae)) zae)))))))) zaA)
   (zai (zax (za2 (zaa (pv 2) (zaa zaf (zaa zay (zaa (pv 4) (zaa (zaq zaC (by rfl) T.len b_len (zaa (pv 3) zae)) zae))))))))))),?_⟩
  dsimp only[cxOf,Cx.nox,Cx.wish]
  have hxi:x.cps.toList[i]?=some (x.cps.getD i 0):=by
   have:i<x.cps.size:=hi
   simp[Array.getD,this]
  obtain ⟨tN,htN,htl⟩:=za8 hld hb1
  obtain ⟨c,d,ys,ec,hcz,hdz,hc,hd,hyl,Ry⟩:=zaY (zaL (b:=b) (i:=tN) R htl)
  have exv:xs[tN]?=some (.ref c):=by
   have h1:tN<xs.length:=by omega
   have h2:xs.getD tN .non=xs[tN]:=by simp[h1]
   rw[List.getElem?_eq_getElem h1,←h2,ec]
  have etn:b.getD (zal ds).toNat tg0=b.getD tN tg0:=by rw[htN];rfl
  unfold zgj at k
  rw[etn] at k
  refine ⟨_,rfl,z,q,ds,rfl,⟨_,hq,RD⟩,?_⟩
  refine ⟨_,rfl,_,rfl,a,xs,zal ds,_,rfl,rfl,SqT.of ha,by rw[htN];exact zah exv,c,_,rfl,SqT.of hc,rfl,_,_,rfl,_,_,rfl,rfl,?_⟩
  refine ⟨_,rfl,_,rfl,x,i,_,rfl,rfl,by omega,zah hxi,_,rfl,rfl,_,rfl,?_⟩
  refine ite2 (fun g=>?_) (fun g=>?_)
  ·have hesc:¬(⟨#[x.cps.getD i 0]⟩:Str)=(b.getD tN tg0).1:=fun e=>by rw[e] at g;simp at g
   rw[if_neg hesc] at k
   refine ⟨_,rfl,_,rfl,_,rfl,q,_,rfl,.inl (SqL.of hq),by show (5:Nat)≤_;omega,fun p np=>?_⟩
   refine k p _ (Same.new np) np ?_
   rw[zab,hvl]
   rfl
  ·have hesc:(⟨#[x.cps.getD i 0]⟩:Str)=(b.getD tN tg0).1:=by simpa using g
   rw[if_pos hesc] at k
   refine ⟨_,rfl,_,_,rfl,rfl,_,rfl,x,rfl,by omega,_,_,rfl,rfl,_,rfl,?_⟩
   refine ite2 (fun g2=>?_) (fun g2=>?_)
   ·have h2:i+1<x.length:=by have:=of_decide_eq_true g2;omega
    rw[if_pos h2] at k
    refine ⟨_,rfl,_,rfl,_,rfl,q,_,rfl,.inl (SqL.of hq),by show (5:Nat)≤_;omega,fun p np=>?_⟩
    refine k p _ (Same.new np) np ?_
    rw[zab,hvl]
    rfl
   ·have h2:¬i+1<x.length:=fun h=>g2 (decide_eq_true (by omega))
    rw[if_neg h2] at k
    refine ⟨_,rfl,_,rfl,_,rfl,q,_,rfl,.inl (SqL.of hq),by show (5:Nat)≤_;omega,fun p np=>?_⟩
    refine k p _ (Same.new np) np ?_
    rw[zab,hvl]
    rfl
theorem zcn {x:Str}{i k:Nat}(h:i+k≤x.length):cutS x (some (i:Int)) (some ((i:Int)+(k:Int)))=⟨x.cps.extract i (i+k)⟩:=by
 have e:((i:Int)+(k:Int))=((i+k:Nat):Int):=by omega
 rw[e]
 unfold cutS
 rw[HT.sIx_nat,HT.sIx_nat,Nat.min_eq_left h,Nat.min_eq_left (by omega)]
 congr 1
 apply Array.ext'
 simp[Array.toList_extract,List.extract_eq_drop_take]
theorem zcc {x m:Str}{i:Nat}(hi:i≤x.length):stAt x m i=fitAt x i m:=by
 cases g:fitAt x i m with
 |true=>
  have hl:=zfI g hi
  have a:=of_decide_eq_true g
  have a:cutS x (some (i:Int)) (some ((i:Int)+m.length))=m:=by injection a
  rw[zcn hl] at a
  have a2:x.cps.extract i (i+m.length)=m.cps:=congrArg Str.cps a
  unfold stAt Builtin.Str.subAt
  rw[decide_eq_true hl,a2]
  simp
 |false=>
  cases g2:stAt x m i with
  |false=>rfl
  |true=>
   exfalso
   unfold stAt Builtin.Str.subAt at g2
   rw[Bool.and_eq_true] at g2
   have hl:=of_decide_eq_true g2.1
   have a2:x.cps.extract i (i+m.length)=m.cps:=by simpa using g2.2
   have:fitAt x i m=true:=by
    unfold fitAt
    rw[zcn hl,a2]
    simp
   rw[g] at this
   cases this
theorem zh2 {x m:Str}{i:Nat}(hi:i≤x.length) (h:fitAt x i m=true) (hm:1≤m.length):x.cps.getD i 0∈m.cps.toList:=by
 have hl:=zfI h hi
 have a:=of_decide_eq_true h
 have a:cutS x (some (i:Int)) (some ((i:Int)+m.length))=m:=by injection a
 rw[zcn hl] at a
 have a2:x.cps.extract i (i+m.length)=m.cps:=congrArg Str.cps a
 rw[←a2]
 have hl2:i+m.length≤x.cps.size:=hl
 have hi2:i<x.cps.size:=by omega
 rw[Array.toList_extract,List.extract_eq_drop_take]
 have e:x.cps.getD i 0=x.cps.toList[i]'(by simpa using hi2):=by simp[Array.getD,hi2]
 rw[e,List.drop_eq_getElem_cons (by simpa using hi2)]
 have:i+m.length-i=(m.length-1)+1:=by omega
 rw[this,List.take_succ_cons]
 exact List.mem_cons_self
theorem zjb {b:Bk}(hb:BkOk b){t:Tg}(ht:t∈b){m:Str}(hm:m∈zga b){c:Nat}(hc:c∈m.cps.toList):(⟨#[c]⟩:Str)≠t.1:=fun e=>by
 have h:=hb.2.2.2
 unfold bookB at h
 simp only[Bool.and_eq_true,Bool.not_eq_true'] at h
 have h2:=h.1.2
 unfold escB at h2
 rw[List.any_eq_false] at h2
 have h3:=h2 m hm
 apply h3
 unfold escIn
 rw[List.any_eq_true]
 refine ⟨c,hc,?_⟩
 rw[List.any_eq_true]
 exact ⟨t.1,List.mem_map_of_mem ht,by rw[e];exact beq_self_eq_true _⟩
theorem zgK {b:Bk}{ds:List LDr}(hd:LdBk b ds){m:Str}(hm:m∈someL b ds):m∈zga b:=by
 unfold someL at hm
 rcases List.mem_append.mp hm with hm|hm
 ·obtain ⟨dd,hdd,rfl⟩:=List.mem_map.mp hm
  by_cases hl:(zal ds).toNat<b.length
  ·exact List.mem_flatMap.mpr ⟨_,zaI tg0 hl,List.mem_flatMap.mpr ⟨dd,hdd,List.mem_cons_self⟩⟩
  ·have e:b.getD (zal ds).toNat tg0=tg0:=by simp[hl]
   rw[e] at hdd
   cases hdd
 ·obtain ⟨dd,hdd,rfl⟩:=List.mem_map.mp hm
  obtain ⟨t,ht,dr,hdr,e1,e2⟩:=hd dd (List.mem_of_mem_drop hdd)
  rw[e2]
  exact List.mem_flatMap.mpr ⟨t,ht,List.mem_flatMap.mpr ⟨dr,hdr,List.mem_cons_of_mem _ List.mem_cons_self⟩⟩
theorem zb2 {b:Bk}{ds:List LDr}{y:Mk}(h:y∈possL b ds):y.1∈someL b ds:=by
 unfold possL at h
 unfold someL
 rcases List.mem_append.mp h with h|h
 ·obtain ⟨d,hd,rfl⟩:=List.mem_map.mp h
  exact List.mem_append_right _ (List.mem_map_of_mem hd)
 ·obtain ⟨d,hd,rfl⟩:=List.mem_map.mp h
  exact List.mem_append_left _ (List.mem_map_of_mem hd)
theorem zcC {b:Bk}{ds:List LDr}{m:Str}(h:m∈someL b ds):∃y∈possL b ds,y.1=m:=by
 unfold someL at h
 unfold possL
 rcases List.mem_append.mp h with h|h
 ·obtain ⟨d,hd,rfl⟩:=List.mem_map.mp h
  exact ⟨_,List.mem_append_right _ (List.mem_map_of_mem hd),rfl⟩
 ·obtain ⟨d,hd,rfl⟩:=List.mem_map.mp h
  exact ⟨_,List.mem_append_left _ (List.mem_map_of_mem hd),rfl⟩
theorem zh3 {b:Bk}{ds:List LDr}{x:Str}{i:Nat}{m:Str}{o:Option Dr}{r:List Mk}(hne:m≠Str.ofString "") (hesc:(⟨#[x.cps.getD i 0]⟩:Str)≠(b.getD (zal ds).toNat tg0).1)
  (h:(possL b ds).filter (fun y=>y.1==m)=(m,o)::r):stepL b ds x i m=takeL ds i m o:=by
 unfold stepL
 rw[if_neg (fun q=>hesc q.2),if_neg hne]
 unfold possL at h
 rw[List.filter_append,List.filter_map,List.filter_map] at h
 by_cases hcl:ds≠[]∧m=(ds.getD (ds.length-1) ld0).2.2
 ·rw[if_pos hcl]
  have hpos:0<ds.length:=List.length_pos_iff.mpr hcl.1
  rw[zfm hpos] at h
  have:((ds.getD (ds.length-1) ld0).2.2==m)=true:=by rw[←hcl.2];exact beq_self_eq_true _
  have e2:[ds.getD (ds.length-1) ld0].filter ((fun y:Mk=>y.1==m)∘fun d:LDr=>((d.2.2,none):Mk))=[ds.getD (ds.length-1) ld0]:=by
   rw[List.filter_cons_of_pos]
   ·rfl
   ·exact this
  rw[e2] at h
  have h':(((ds.getD (ds.length-1) ld0).2.2,none):Mk)=(m,o):=(List.cons.inj h).1
  have:o=none:=by injection h' with _ q;exact q.symm
  subst this
  rfl
 ·rw[if_neg hcl]
  have e2:(lastL ds).filter ((fun y:Mk=>y.1==m)∘fun d:LDr=>((d.2.2,none):Mk))=[]:=by
   rw[List.filter_eq_nil_iff]
   intro d hd q
   have q:(d.2.2==m)=true:=q
   have q:=eq_of_beq q
   exact hcl (zdY (List.mem_map.mpr ⟨d,hd,q⟩))
  rw[e2] at h
  have e3:((fun y:Mk=>y.1==m)∘fun d:Dr=>((d.1,some d):Mk))=fun d:Dr=>d.1==m:=rfl
  rw[e3] at h
  cases g:(b.getD (zal ds).toNat tg0).2.filter (fun d=>d.1==m) with
  |nil=>
   rw[g] at h
   cases h
  |cons d r'=>
   rw[g] at h
   have h':((d.1,some d):Mk)=(m,o):=(List.cons.inj h).1
   have:o=some d:=by injection h' with _ q;exact q.symm
   subst this
   rfl
theorem zgL {b:Bk}{ds:List LDr}{x:Str}{i:Nat}(hi:i<x.length) (h:fitsP b ds x i=[]):stepL b ds x i (bestL b ds x i)=(zgj b ds x i,ds):=by
 have hf:fitL b ds x i=[]:=by
  unfold fitL
  rw[List.filter_eq_nil_iff]
  intro m hm q
  obtain ⟨y,hy,rfl⟩:=zcC hm
  unfold fitsP at h
  rw[List.filter_eq_nil_iff] at h
  apply h y hy
  rw[zcc (by omega)]
  exact q
 have hb:bestL b ds x i=Str.ofString "":=by unfold bestL;rw[hf,za3];rfl
 rw[hb]
 unfold stepL zgj
 by_cases hesc:(⟨#[x.cps.getD i 0]⟩:Str)=(b.getD (zal ds).toNat tg0).1
 ·have h0:(b.getD (zal ds).toNat tg0).1≠Str.ofString "":=fun e=>by
   rw[e,za3] at hesc
   have:(#[x.cps.getD i 0]:Array Nat)=#[]:=congrArg Str.cps hesc
   simp at this
  rw[if_pos ⟨h0,hesc⟩,if_pos hesc]
  by_cases h1:i+1=x.length
  ·rw[if_pos h1,if_neg (by omega)]
  ·rw[if_neg h1,if_pos (by omega)]
 ·rw[if_neg (fun q=>hesc q.2),if_pos rfl,if_neg hesc]
theorem zfo {l:List Mk}{j:Nat}{y:Mk}(hj:l[j]?=some y) (hlt:∀j',j'<j→∀y',l[j']?=some y'→y'.1.length<y.1.length):∃r,l.filter (fun z=>z.1==y.1)=y::r:=by
 induction l generalizing j with
 |nil=>simp at hj
 |cons a l ih=>
  cases j with
  |zero=>
   have:a=y:=by simpa using hj
   subst this
   exact ⟨_,List.filter_cons_of_pos (p:=fun z:Mk=>z.1==a.1) (beq_self_eq_true a.1)⟩
  |succ j=>
   have h0:=hlt 0 (by omega) a rfl
   have hn:¬(a.1==y.1)=true:=fun q=>by
    have:=eq_of_beq q
    rw[this] at h0
    omega
   rw[List.filter_cons_of_neg (p:=fun z:Mk=>z.1==y.1) hn]
   exact ih (by simpa using hj) fun j' hj' y' hy'=>hlt (j'+1) (by omega) y' (by simpa using hy')
theorem zfp {b:Bk}{ds:List LDr}{x:Str}{i:Nat}(hb:BkOk b) (hd:LdBk b ds) (hi:i<x.length){j:Nat}{y:Mk}(hj:(fitsP b ds x i)[j]?=some y)
  (hmax:∀j' y',(fitsP b ds x i)[j']?=some y'→y'.1.length≤y.1.length∧(j'<j→y'.1.length<y.1.length)):stepL b ds x i (bestL b ds x i)=takeL ds i y.1 y.2:=by
 have htok:=hb.2.2.1
 have hy:=List.mem_of_getElem? hj
 have hy1:y∈possL b ds:=(List.mem_filter.mp hy).1
 have hy2:stAt x y.1 i=true:=(List.mem_filter.mp hy).2
 have hfit:fitAt x i y.1=true:=by rw[←zcc (by omega)];exact hy2
 have hsm:=zcW (x:=x) (i:=i) htok (hd.ok htok)
 have hyf:y.1∈fitL b ds x i:=List.mem_filter.mpr ⟨zb2 hy1,hfit⟩
 have hbest:bestL b ds x i=y.1:=by
  unfold bestL
  rcases zbG (l:=fitL b ds x i) fun m hm=>hsm m (List.mem_filter.mp hm).1 with ⟨h1,_⟩|⟨h1,h2⟩
  ·rw[h1] at hyf
   cases hyf
  ·have hb1:=List.mem_filter.mp h1
   obtain ⟨y',hy',e⟩:=zcC hb1.1
   have:y'∈fitsP b ds x i:=List.mem_filter.mpr ⟨hy',by rw[e,zcc (by omega)];exact hb1.2⟩
   obtain ⟨j',hj'⟩:=List.getElem?_of_mem this
   have l1:=(hmax j' y' hj').1
   rw[e] at l1
   have l2:=h2 y.1 hyf
   exact zjP hb1.2 hfit (by omega)
 rw[hbest]
 have hs:=hsm y.1 (zb2 hy1)
 obtain ⟨r,hr⟩:=zfo hj fun j' hj' y' hy'=>(hmax j' y' hy').2 hj'
 have hr2:(possL b ds).filter (fun z=>z.1==y.1)=(y.1,y.2)::r:=by
  rw[←hr]
  unfold fitsP
  rw[List.filter_filter]
  refine List.filter_congr fun z _=>?_
  cases g:z.1==y.1 with
  |false=>rfl
  |true=>
   rw[eq_of_beq g,hy2]
   rfl
 refine zh3 (fun e=>?_) (fun e=>?_) hr2
 ·have:=hs.1
  rw[e,za3] at this
  exact absurd this (by decide)
 ·by_cases hl:(zal ds).toNat<b.length
  ·exact zjb hb (zaI tg0 hl) (zgK hd (zb2 hy1)) (zh2 (by omega) hfit hs.1) e
  ·have e2:b.getD (zal ds).toNat tg0=tg0:=by simp[hl]
   rw[e2] at e
   have:(#[x.cps.getD i 0]:Array Nat)=#[]:=congrArg Str.cps e
   simp at this
end T1
namespace L2
open PySem PySem.Spec PyProof.Rows
section
variable {P:Program}{w:World}{K:W.Frag}{mg:Str→Option Value}{base:Heap}
theorem Fun.okC {x qual:Str}{st:Stmt}{f c:Addr}{fd:FuncData}{N ps:List Str}{k:Nat}{sp:Sp}(F:Fun K x qual st f fd) (hc:fd.code=.ref c) (S:zav N ps (zag st)) (len:∀vs H Q E,sp vs H Q E→vs.length=ps.length)
  (hbody:∀(A:Around) (outer:List Env) (s:Shared) (H:Hp) (vs:List V) (Q:VK) (E:XK),Room k (A.deeper (envOfC qual (zag st) s.heap.objs.size f (.ref c)))→sp vs H Q E →
   ∃t,PSs (cxOf CX0 P w K mg base N qual (zag st) f (.ref c) A outer s H E).nox (zba st) t∧t { nx:=fun _ H'=>Q .non H',rt:=Q } (start N vs) H):FnOk P w K mg base CX0 (k+1) f fd ps sp:=by
 obtain ⟨oc,od,kV,doc,pm,an,cdv,ct,osl,rfl,lk,hcd⟩:=F.ex
 have hc:cdv=.ref c:=hc
 subst hc
 refine zj5 lk hcd S len fun A outer s H vs Q E hr hsp=>?_
 obtain ⟨t,h,q⟩:=hbody A outer s H vs Q E hr hsp
 exact ⟨t,h.nox,q⟩
end
end L2
namespace T1
open PySem L2
variable {P:Program}{w:World}{K:W.Frag}{mg:Str→Option Value}{base:Heap}
abbrev lamQ:Str:=(Str.ofString "read_step"++Str.ofString ".<locals>.")++Str.ofString "<lambda>"
abbrev LamTb (tb:Addr) (H:Hp):Prop:=LamT tb lamLn lamCl lamQ H
theorem _root_.L2.LamT.same {P:Addr}{ln cl:Nat}{q:Str}{H H':Hp}(h:LamT P ln cl q H) (s:Same H H'):LamT P ln cl q H':=by
 rcases h with h|⟨c',h1,h2⟩
 ·exact .inl (s _ _ h)
 ·exact .inr ⟨c',s _ _ h1,s _ _ h2⟩
theorem _root_.L2.LamT.sameX {P p:Addr}{ln cl:Nat}{q:Str}{H H':Hp}{l:List V}(h:LamT P ln cl q H) (hp:H p=some (.lst l)) (s:SameX p H H'):LamT P ln cl q H':=by
 rcases h with h|⟨c',h1,h2⟩
 ·exact .inl (s _ _ (zan h hp (by intro q;cases q)) h)
 ·exact .inr ⟨c',s _ _ (zan h1 hp (by intro q;cases q)) h1,s _ _ (zan h2 hp (by intro q;cases q)) h2⟩
mutual
theorem Rep.butT {z P:Addr}{H H':Hp}{ps:Array Value}(hP:H P=some (.tbl ps)) (s:ButX P H H'):∀ {v:V}{d:D},Rep z H v d→Rep z H' v d
 |_,_,.non=>.non
 |_,_,.bl b=>.bl b
 |_,_,.int i=>.int i
 |_,_,.str x h=>.str x h
 |_,_,.tup h hz r=>.tup (s _ _ (zan h hP (by intro q;cases q)) h) hz (Reps.butT hP s r)
 |_,_,.lst h hz r=>.lst (s _ _ (zan h hP (by intro q;cases q)) h) hz (Reps.butT hP s r)
theorem Reps.butT {z P:Addr}{H H':Hp}{ps:Array Value}(hP:H P=some (.tbl ps)) (s:ButX P H H'):∀ {vs:List V}{ds:List D},Reps z H vs ds→Reps z H' vs ds
 |_,_,.nil=>.nil
 |_,_,.cons h t=>.cons (Rep.butT hP s h) (Reps.butT hP s t)
end
def But2 (q t:Addr) (H H':Hp):Prop:=∀b o,b≠q→b≠t→H b=some o→H' b=some o
inductive zdD (tb:Addr):List V→Hp→VK→XK→Prop where
 |mk {vs:List V} {H:Hp} {Q:VK} {E:XK} (z v b q ds x:_) (i:Nat) (c1:vs=[v,.str x,.int i,.ref q]) (c2:Bag z H) (c3:q≠z) (c4:Rep z H v (bkD b)) (c5:BkOk b) (c6:PDs z H q ds) (c7:LdBk b ds) (c8:i<x.length) (c9:x.length≤20000) (c10:ds.length≤20000) (c11:LamTb tb H) (c12:∀p H',But2 q tb H H'→H p=none→H' p=some (.tup (stV (stepL b ds x i (bestL b ds x i)).1))→PDs z H' q (stepL b ds x i (bestL b ds x i)).2→LamTb tb H'→Q (.ref p) H'):zdD tb vs H Q E
theorem scStepP:zav ["book","text","place","doors","fits","mark","door"] ["book","text","place","doors"] (zag sStep):=⟨rfl,rfl,rfl,by decide +kernel,rfl,by decide +kernel,by decide +kernel⟩
theorem zjc {f c tb f1 f2 f3:Addr}{fd fd1 fd2 fd3:FuncData}(F:Fun K "read_step" "read_step" sStep f fd) (hcd:fd.code=.ref c) (hK:W.codeHdIn K c tb=true) (hBA:base.BuiltinsAt mg tb) (T:TxtB mg) (hmax:mg "max"=none)
  (k1:W.keepIn K (.ref f1)=true) (b1:Binds K fd1 ["book","text","place","doors"] []) (m1:mg "fitting_marks"=some (.ref f1)) (G1:FnOk P w K mg base CX0 3 f1 fd1 ["book","text","place","doors"] zgi)
  (k2:W.keepIn K (.ref f2)=true) (b2:Binds K fd2 ["book","text","place","doors"] []) (m2:mg "read_plain"=some (.ref f2)) (G2:FnOk P w K mg base CX0 2 f2 fd2 ["book","text","place","doors"] zdd)
  (k3:W.keepIn K (.ref f3)=true) (b3:Binds K fd3 ["mark","door","place","doors"] []) (m3:mg "take_mark"=some (.ref f3)) (G3:FnOk P w K mg base CX0 2 f3 fd3 ["mark","door","place","doors"] zeu):FnOk P w K mg base CX0 4 f fd ["book","text","place","doors"] (zdD tb):=by
 refine F.okC hcd scStepP (fun vs H Q E h=>?_) (fun A outer s H vs Q E hr h=>?_)
 ·obtain ⟨z,v,b,q,ds,x,i,rfl,_⟩:=h
  rfl
 ·obtain ⟨z,v,b,q,ds,x,i,rfl,hB,hqz,R0,hok,hD,hbk,hi,hx,hdl,hT,k⟩:=h
  have nd:=scStepP.nd
  have htok:=hok.2.2.1
  have hld:=hbk.ok htok
  refine ⟨_,zac (zap (i:=4) nd rfl (Or.inl rfl) (zas G1 hr rfl m1 k1 b1 .nil pass0 (zaa (pv 0) (zaa (pv 1) (zaa (pv 2) (zaa (pv 3) zae))))))
   (zac (zaW (zdP (zcu (pv 4) (fun _=>rfl))) (zai (zax (zas (G2.mono (by omega)) hr rfl m2 k2 b2 .nil pass0 (zaa (pv 0) (zaa (pv 1) (zaa (pv 2) (zaa (pv 3) zae))))))) zaA)
   (zac (zbq (zgB (P:=tb) (c:=c) rfl hr.in1.depth hmax T.len rfl hK hBA (pv 4) (fun _ _ _ _=>rfl)) (zbu rfl (zat (zao (i:=5) nd rfl (Or.inl rfl)) (zat (zao (i:=6) nd rfl (Or.inl rfl)) za1))))
   (zai (zax (zas (G3.mono (by omega)) hr rfl m3 k3 b3 .nil pass0 (zaa (pv 5) (zaa (pv 6) (zaa (pv 2) (zaa (pv 3) zae))))))))),?_⟩
  dsimp only[cxOf,Cx.nox,Cx.wish]
  have big:=za6
  refine ⟨_,rfl,_,rfl,_,rfl,_,rfl,z,v,b,q,ds,x,i,rfl,hB,R0,hok,hD,hld,fun pf ws H1 s1 npf hpf RW=>?_⟩
  have hwl:ws.length=(fitsP b ds x i).length:=by have:=RW.length;simpa using this
  refine ⟨_,rfl,_,.inl ⟨ws,SqL.of hpf,rfl⟩,?_⟩
  refine ite2 (fun g=>?_) (fun g=>?_)
  ·have hnil:fitsP b ds x i=[]:=by
    refine List.eq_nil_of_length_eq_zero ?_
    cases ws with
    |nil=>simp at hwl;omega
    |cons _ _=>simp at g
   have hst:=zgL (b:=b) (ds:=ds) hi hnil
   rw[hst] at k
   refine ⟨_,rfl,_,rfl,_,rfl,_,rfl,z,v,b,q,ds,x,i,rfl,R0.mono s1.x,hok,hD.same s1,hld,hi,hx,fun p H2 s2 np hp=>?_⟩
   exact k p H2 (fun b' o _ _ e=>(s1.trans s2) b' o e) (s1.free np) hp (hD.same (s1.trans s2)) (hT.same (s1.trans s2))
  ·have hpos:0<ws.length:=by
    cases ws with
    |nil=>simp at g
    |cons _ _=>simp
   have hT1:=hT.same s1
   refine ⟨_,rfl,pf,ws,(fun j=>((fitsP b ds x i).getD j mk0).1),rfl,hpf,hpos,(fun j hj=>?_),hT1,fun H2 j y bx2 T2 hj hmx=>?_⟩
   ·obtain ⟨a,u,e,haz,ha,hl,Ru⟩:=zgh (zet (ms:=fitsP b ds x i) (i:=j) RW (by omega))
    refine ⟨a,[u],?_,ha,hl⟩
    have h2:ws.getD j .non=ws[j]:=by simp[hj]
    rw[List.getElem?_eq_getElem hj,←h2,e]
   ·obtain ⟨ps,hPt⟩:=hT1.tbl
    have hjl:j<ws.length:=(List.getElem?_eq_some_iff.mp hj).1
    have ey:y=ws.getD j .non:=by rw[List.getD_eq_getElem?_getD,hj];rfl
    have Rj:=Rep.butT hPt bx2 (zet (ms:=fitsP b ds x i) (i:=j) RW (by omega))
    obtain ⟨a,u,e,haz,ha,hl,Ru⟩:=zgh Rj
    have hjf:(fitsP b ds x i)[j]?=some ((fitsP b ds x i).getD j mk0):=by
     have h1:j<(fitsP b ds x i).length:=by omega
     simp[h1]
    have hst:=zfp hok hbk hi hjf (fun j' y' hy'=>by
     have h1:j'<(fitsP b ds x i).length:=(List.getElem?_eq_some_iff.mp hy').1
     have:=hmx j' (by omega)
     have e2:(fitsP b ds x i).getD j' mk0=y':=by rw[List.getD_eq_getElem?_getD,hy'];rfl
     dsimp only at this
     rw[e2] at this
     exact this)
    rw[hst] at k
    generalize hMK:(fitsP b ds x i).getD j mk0=mk at *
    have hmem:mk∈possL b ds:=(List.mem_filter.mp (List.mem_of_getElem? hjf)).1
    obtain ⟨vs,hq,RD⟩:=hD
    have hq1:=s1 _ _ hq
    have hq2:=bx2 _ _ (zan hq1 hPt (by intro q;cases q)) hq1
    have RD2:=Reps.butT hPt bx2 (RD.mono s1.x)
    have hB2:Bag z H2:=by
     obtain ⟨c1,c2,e1⟩:=hB.same s1
     exact ⟨c1,c2,bx2 _ _ (zan e1 hPt (by intro q;cases q)) e1⟩
    rw[ey,e]
    refine ⟨a,_,rfl,SqT.of ha,rfl,_,_,rfl,_,_,rfl,rfl,?_⟩
    refine ⟨_,rfl,_,rfl,_,rfl,_,rfl,z,mk.1,u,mk.2,i,q,ds,rfl,hB2,hqz,Ru,hl,⟨vs,hq2,RD2⟩,hdl,fun ho=>?_,fun p H3 s3 np hp hD3=>?_⟩
    ·have hpd:0<ds.length:=by
      unfold possL at hmem
      rcases List.mem_append.mp hmem with h|h
      ·obtain ⟨d,hd,_⟩:=List.mem_map.mp h
       exact List.length_pos_iff.mpr (fun q=>by rw[q] at hd;cases hd)
      ·obtain ⟨d,hd,e3⟩:=List.mem_map.mp h
       rw[←e3] at ho
       cases ho
     exact hpd
    ·refine k p H3 (fun b' o n1 n2 e'=>s3 b' o n1 (bx2 b' o n2 (s1 b' o e'))) ?_ hp hD3 (T2.sameX hq2 s3)
     cases e4:H p with
     |none=>rfl
     |some o=>
      have:H2 p=some o:=by
       refine bx2 p o (fun z=>?_) (s1 p o e4)
       subst z
       obtain ⟨ps2,hPt2⟩:=T2.tbl
       rw[hPt2] at np
       cases np
      rw[this] at np
      cases np
mutual
theorem Rep.but2 {z q t:Addr}{H H':Hp}{l:List V}{ps:Array Value}(hq:H q=some (.lst l)) (ht:H t=some (.tbl ps)) (s:But2 q t H H'):∀ {v:V}{d:D},Rep z H v d→NoL d→Rep z H' v d
 |_,_,.non,_=>.non
 |_,_,.bl b,_=>.bl b
 |_,_,.int i,_=>.int i
 |_,_,.str x h,_=>.str x h
 |_,_,.tup h hz r,.tup k=>.tup (s _ _ (zan h hq (by intro q;cases q)) (zan h ht (by intro q;cases q)) h) hz (Reps.but2 hq ht s r k)
theorem Reps.but2 {z q t:Addr}{H H':Hp}{l:List V}{ps:Array Value}(hq:H q=some (.lst l)) (ht:H t=some (.tbl ps)) (s:But2 q t H H'):∀ {vs:List V}{ds:List D},Reps z H vs ds→NoLs ds→Reps z H' vs ds
 |_,_,.nil,_=>.nil
 |_,_,.cons h k,.cons h' k'=>.cons (Rep.but2 hq ht s h h') (Reps.but2 hq ht s k k')
end
end T1
namespace L2
open PySem PySem.Spec PyProof.Rows
theorem law_callT {P:Program}{w:World}{K:W.Frag}{mg mb:Str→Option Value}{CX:CXT}{k:Nat}{fa a c tb:Addr}{fd:FuncData}{x:Str}{sp:Sp}{s₁:Shared}{vs:List Value}{ns:List Int}
  (KX:K.In s₁.heap) (hns:s₁.heap.Ns mainGlobals mg) (hb:s₁.heap.Ns builtinsNs mb) (hbb:∀x:Str,x≠"__name__"→mb x=bootBuiltins x) (hlim:s₁.heap.NoLimit) (hg:s₁.gens=#[])
  (hbm:∃bm ob,mg "__builtins__"=some (.ref bm)∧bm≠builtinsNs∧s₁.heap.get? bm=some ob∧ob.cls=.type "module"∧ob.dict=some builtinsNs∧ob.data=.plain)
  (hC:W.codeHdIn K c tb=true) (hP:s₁.heap.get? tb=some (W.tabObj #[])) (hKP:K.lookup tb=none)
  (ha:s₁.heap.get? a=some { cls:=.type "list",data:=.seq vs.toArray }) (hi:IntsAre vs ns) (hl:ns.length≤sizeLine) (hr:Room k callerA)
  (F:∀base:Heap,K.In base→base.Ns mainGlobals mg→base.BuiltinsAt mg tb→FnOk P w K mg base CX k fa fd [x] sp) (hbind:∀(s:Shared) (u:Value),BindsTo s fd ⟨[u],[]⟩ [(x,u)])
  (hsp:∀H:Hp,H tb=some (.tbl #[])→SqL K H a (ns.map V.int)→sp [.ref a] H (fun v _=>v=.bl true) fun _ _ _=>False)
  (hCX:∀H e s',CX [] H s₁ (fun _ _ _=>False) e s'→False) :
  codeAny (model P w) callerA (.call (.ref fa) ⟨[.ref a],[]⟩) (fun r s'=>r=.ok (.ret (.bool true))∧OldK s₁.heap s'.heap∧s'.os=s₁.os∧AllBare s'.gens) s₁:=by
 have rv:=ze2 hi
 have lenV:=hi.length
 have hat:a≠tb:=fun z=>by
  rw[z,hP] at ha
  cases ha
 have core:∀H:Hp,H tb=some (.tbl #[])→(∀b,b≠tb→H b=none∨∃o xs,H b=some (.frz o (.lst xs)))→SqL K H a (ns.map V.int)→HOk P w H s₁.heap→(∀b,H b≠none→b=a∨b=tb)→(∀b,H b≠none→K.lookup b=none) →
   codeAny (model P w) callerA (.call (.ref fa) ⟨[.ref a],[]⟩) (fun r s'=>r=.ok (.ret (.bool true))∧OldK s₁.heap s'.heap∧s'.os=s₁.os∧AllBare s'.gens) s₁:=by
  intro H hT hO hS hok hA hK
  have base_of:∀ {b:Addr} {o:Obj},s₁.heap.get? b=some o→H b=none→(hidT s₁.heap H).get? b=some o:=fun e n=>ziw e n
  have noA:∀ {b:Addr} {o:Obj},s₁.heap.get? b=some o→(o.cls=.type "list"→False)→(o.cls=.none→False)→H b=none:=fun {b o} e d1 d2=>by
   cases q:H b with
   |none=>rfl
   |some u=>
    rcases hA b (by rw[q];simp) with e'|e'
    ·subst e'
     rw[ha] at e;cases e
     exact (d1 rfl).elim
    ·subst e'
     rw[hP] at e;cases e
     exact (d2 rfl).elim
  have noD:∀ {b:Addr} {o:Obj} {es:Array DictEntry} {ep:Nat},s₁.heap.get? b=some o→o.data=.dict es ep→H b=none:=fun {b o es ep} e d=>by
   cases q:H b with
   |none=>rfl
   |some u=>
    rcases hA b (by rw[q];simp) with e'|e'
    ·subst e'
     rw[ha] at e;cases e
     have d':Data.seq vs.toArray _=Data.dict es ep:=d
     cases d'
    ·subst e'
     rw[hP] at e;cases e
     have d':Data.fields #[]=Data.dict es ep:=d
     cases d'
  have nsK:∀ {b:Addr} {m:Str→Option Value},s₁.heap.Ns b m→(hidT s₁.heap H).Ns b m:=fun {b m} ⟨o,es,ep,e,d,r⟩=>⟨o,es,ep,base_of e (noD e d),d,r⟩
  have hKb:K.In (hidT s₁.heap H):=fun b o e=>base_of (KX b o e) (by
   cases q:H b with
   |none=>rfl
   |some u=>rw[hK b (by rw[q];simp)] at e;cases e)
  have hM:Mod K mg (hidT s₁.heap H):=⟨hKb,nsK hns,⟨mb,nsK hb,hbb⟩,let ⟨mc,h1,h2⟩:=hlim;⟨mc,nsK h1,h2⟩⟩
  have hBA:(hidT s₁.heap H).BuiltinsAt mg tb:=by
   obtain ⟨bm,ob,b1,b2,b3,b4,b5,b6⟩:=hbm
   refine ⟨bm,ob,b1,b2,fun q=>?_,fun q=>?_,base_of b3 (noA b3 (fun q=>by rw[b4] at q;injection q with q;exact absurd q (by decide)) (fun q=>by rw[b4] at q;cases q)),b4,b5,b6⟩
   ·obtain ⟨o,es,ep,e,hd,_⟩:=hns
    rw[q,e] at b3;cases b3;rw[hd] at b6;cases b6
   ·rw[q,hP] at b3;cases b3;cases b4
  have e0:Env0 P w K mg (hidT s₁.heap H) callerA [] s₁ H:=⟨rfl,hM,fun b o e=>zjY e,Nat.le_of_eq (zgU _ _),trivial,fun b hb=>absurd (show b∈([]:List Addr) from hb) (by simp),hok,.of_eq hg⟩
  refine codeAny_mono ((F _ hKb (nsK hns) hBA).run callerA [] s₁ H ⟨[.ref a],[]⟩ [.ref a] [.ref a] _ _ hr e0 (hbind s₁ (.ref a)) (.cons rfl .nil) (hsp H hT hS)) fun r s' h=>?_
  cases r with
  |error e=>exact (hCX H e s' h).elim
  |ok fl=>
   cases fl with
   |next=>exact False.elim h
   |brk=>exact False.elim h
   |cont=>exact False.elim h
   |ret u=>
    obtain ⟨v,H',os,bare,un,hok',r',q⟩:=h
    have q':v=.bl true:=q
    subst q'
    obtain rfl:u=Value.bool true:=r'
    refine ⟨rfl,⟨fun b o e=>?_,fun b o e=>un.there b o e (by simp)⟩,os,bare⟩
    by_cases hbt:b=tb
    ·subst hbt
     rw[hP] at e
     cases e
     obtain ⟨more,e1⟩:=un.tbls b _ hT
     have e2:s'.heap.get? b=some { cls:=.none,data:=.fields (#[]++more) }:=hok' b _ e1
     have TA:=(W.codeHd_of_K KX hC).tab hP
     exact .inr (.inl ⟨TA.isCodeTable,rfl,#[],more,rfl,e2⟩)
    ·refine .inl ?_
     cases q:H b with
     |none=>exact un.keep b o e q (by intro z;exact absurd (show b∈([]:List Addr) from z) (by simp)) (by simp)
     |some u=>
      rcases hO b hbt with z|⟨ob,xs,z⟩
      ·rw[q] at z;cases z
      ·have z2:=un.frzs b ob _ z
       obtain ⟨e1,_⟩:=hok b _ z
       obtain ⟨e2,_⟩:=hok' b _ z2
       rw[e] at e1;cases e1
       exact e2
 cases hk:K.lookup a with
 |some o=>
  have e:=KX a o hk
  rw[ha] at e
  cases e
  refine core (fun b=>if b=tb then some (.tbl #[]) else none) (if_pos rfl) (fun b hb=>.inl (if_neg hb)) (.inr ⟨_,vs.toArray,_,hk,rfl,rfl,rfl,by rw[List.size_toArray,lenV];exact hl,by simpa using rv⟩) (fun b u z=>?_) (fun b z=>?_) fun b z=>?_
  ·by_cases hb:b=tb
   ·have z':=(if_pos hb).symm.trans z
    cases z'
    subst hb
    exact hP
   ·have z':=(if_neg hb).symm.trans z
    cases z'
  ·by_cases hb:b=tb
   ·exact .inr hb
   ·exact absurd (if_neg hb) z
  ·by_cases hb:b=tb
   ·rw[hb];exact hKP
   ·exact absurd (if_neg hb) z
 |none=>
  refine core (fun b=>if b=tb then some (.tbl #[]) else if b=a then some (.frz { cls:=.type "list",data:=.seq vs.toArray } (.lst (ns.map V.int))) else none) (if_pos rfl) (fun b hb=>?_) (.inl (.inr ⟨{ cls:=.type "list",data:=.seq vs.toArray },(if_neg hat).trans (if_pos rfl)⟩)) (fun b u z=>?_) (fun b z=>?_) fun b z=>?_
  ·by_cases hba:b=a
   ·exact .inr ⟨_,_,(if_neg hb).trans (if_pos hba)⟩
   ·exact .inl ((if_neg hb).trans (if_neg hba))
  ·by_cases hb:b=tb
   ·have z':=(if_pos hb).symm.trans z
    cases z'
    subst hb
    exact hP
   ·by_cases hba:b=a
    ·have z':=((if_neg hb).trans (if_pos hba)).symm.trans z
     cases z'
     subst hba
     exact ⟨ha,by rw[List.length_map];exact hl,vs,_,rv,ha⟩
    ·have z':=((if_neg hb).trans (if_neg hba)).symm.trans z
     cases z'
  ·by_cases hb:b=tb
   ·exact .inr hb
   ·by_cases hba:b=a
    ·exact .inl hba
    ·exact absurd ((if_neg hb).trans (if_neg hba)) z
  ·by_cases hb:b=tb
   ·rw[hb];exact hKP
   ·by_cases hba:b=a
    ·rw[hba];exact hk
    ·exact absurd ((if_neg hb).trans (if_neg hba)) z
theorem walk_ofT {l:W.OpenLaw}{n k:Nat}{q:Program}{loose:List Str}{XP:(Str→Option Value)→Heap→Prop}{YP:World→Heap→Prop}{d:DefRec}{K:Params→W.Frag}{CX:World→CXT}{sp:World→Sp}{x:Str}{tb:Addr}
  (hn:l.most=some n) (hn2:n≤sizeLine) (hdf:d.params.defaults=[]) (hr:Room k callerA)
  (hY:∀(w:World) (h:Heap),YP w h→(K w.params).In h∧h.get? tb=some (W.tabObj #[]))
  (F:∀(w:World) (mg:Str→Option Value) (fa:Addr) (h:Heap),(K w.params).In h→h.Ns mainGlobals mg→mg d.name=some (.ref fa) →
   ∃(fd:FuncData) (c:Addr),W.codeHdIn (K w.params) c tb=true∧(K w.params).lookup tb=none∧(∀(s:Shared) (u:Value),BindsTo s fd ⟨[u],[]⟩ [(x,u)]) ∧
    ∀base:Heap,(K w.params).In base→base.Ns mainGlobals mg→base.BuiltinsAt mg tb→FnOk l.prog w (K w.params) mg base (CX w) k fa fd [x] (sp w))
  (hsp:∀(w:World) (H:Hp) (a:Addr) (ns:List Int),ns.length≤n→H tb=some (.tbl #[])→SqL (K w.params) H a (ns.map V.int)→sp w [.ref a] H (fun v _=>v=.bl true) fun _ _ _=>False)
  (hCX:∀(w:World) (H:Hp) (s:Shared) (e:Value) (s':Shared),CX w [] H s (fun _ _ _=>False) e s'→False) :
  W.WalkO q loose XP YP l.row.toRowW d [] (fun f vs=>PySem.call f vs):=by
 refine Att.attach_call hn hdf fun w s₀ s₁ mg mb fa o pm cd doc a vs ns G Y ho hd hcd hmg hobj hints hlen hg=>?_
 obtain ⟨KX,hP⟩:=hY w _ Y
 obtain ⟨fd,c,hC,hKP,hb,hF⟩:=F w mg fa _ KX G.T.g hmg
 exact law_callT KX G.T.g G.T.b G.T.builtins G.T.nolimit hg G.T.bmain hC hP hKP hobj hints (Nat.le_trans hlen hn2) hr hF hb (fun H hO hS=>hsp w H a ns hlen hO hS) fun H e s'=>hCX w H s₁ e s'
end L2
namespace T1
open PySem L2
variable {P:Program}{w:World}{K:W.Frag}{mg:Str→Option Value}{base:Heap}
structure FK (K:W.Frag) (n:Str) (st:Stmt) (f:Addr) (fd:FuncData):Prop where
 a:W.nsIn K mainGlobals n=some (some (.ref f))
 F:Fun K n n st f fd
structure MK (K:W.Frag) (C:Addr) (n q:Str) (st:Stmt) (f:Addr) (fd:FuncData):Prop where
 M:Meth K C n f
 F:Fun K n q st f fd
section
variable {K:W.Frag}{n q x:Str}{st:Stmt}{f C:Addr}{fd:FuncData}{oc kV doc pm cdv ct:Value}{od an:Option Addr}{osl:Array (Option Value)}
theorem fk (a:W.nsIn K mainGlobals n=some (some (.ref f))) (l:K.lookup f=some ⟨oc,od,.func (W.fnOf n n (zbz st) (zba st) (zag st) .none kV doc pm an cdv ct),osl⟩) (c:W.codeIn K cdv n=true) (k:W.keepIn K (.ref f)=true) :
  FK K n st f (W.fnOf n n (zbz st) (zba st) (zag st) .none kV doc pm an cdv ct):=⟨a,zg9 l c k⟩
theorem mkm (a:W.findIn K (.ref C) n=some (some (.ref f))) (i:W.isFn K (.ref f)=true) (l:K.lookup f=some ⟨oc,od,.func (W.fnOf n q (zbz st) (zba st) (zag st) .none kV doc pm an cdv ct),osl⟩) (c:W.codeIn K cdv q=true) (k:W.keepIn K (.ref f)=true) :
  MK K C n q st f (W.fnOf n q (zbz st) (zba st) (zag st) .none kV doc pm an cdv ct):=⟨⟨a,i,k⟩,zg9 l c k⟩
theorem FK.m {h:Heap}{mg:Str→Option Value}(A:FK K n st f fd) (X:K.In h) (G:h.Ns mainGlobals mg):mg n=some (.ref f):=W.mg_of X G A.a
theorem FK.law {h:Heap}{mg:Str→Option Value}(A:FK K n st f fd) (X:K.In h) (G:h.Ns mainGlobals mg){g:Addr}(e:mg n=some (.ref g)):g=f:=by
 have:=e.symm.trans (A.m X G)
 injection this with this
 injection this
abbrev fo (x q:Str) (st:Stmt) (kV doc pm:Value) (an:Option Addr) (cdv ct:Value):FuncData:=W.fnOf x q (zbz st) (zba st) (zag st) .none kV doc pm an cdv ct
theorem bn1 {p:Str}(F:Fun K x q st f fd) (h:∀kV doc pm an cdv ct a,bindArgs (fo x q st kV doc pm an cdv ct) ⟨[a],[]⟩=pure [(p,a)]):Binds K fd [p] []:=
 F.binds fun _ _ _ _ _ _ us hl=>bd1 (f:=fun us=>bindArgs _ ⟨us,[]⟩) (g:=fun us=>pure (List.zip _ us)) (h _ _ _ _ _ _) us hl
theorem bn2 {p p2:Str}(F:Fun K x q st f fd) (h:∀kV doc pm an cdv ct a b,bindArgs (fo x q st kV doc pm an cdv ct) ⟨[a,b],[]⟩=pure [(p,a),(p2,b)]):Binds K fd [p,p2] []:=
 F.binds fun _ _ _ _ _ _ us hl=>bd2 (f:=fun us=>bindArgs _ ⟨us,[]⟩) (g:=fun us=>pure (List.zip _ us)) (h _ _ _ _ _ _) us hl
theorem bn3 {p p2 p3:Str}(F:Fun K x q st f fd) (h:∀kV doc pm an cdv ct a b c,bindArgs (fo x q st kV doc pm an cdv ct) ⟨[a,b,c],[]⟩=pure [(p,a),(p2,b),(p3,c)]):Binds K fd [p,p2,p3] []:=
 F.binds fun _ _ _ _ _ _ us hl=>bd3 (f:=fun us=>bindArgs _ ⟨us,[]⟩) (g:=fun us=>pure (List.zip _ us)) (h _ _ _ _ _ _) us hl
theorem bn4 {p p2 p3 p4:Str}(F:Fun K x q st f fd) (h:∀kV doc pm an cdv ct a b c d,bindArgs (fo x q st kV doc pm an cdv ct) ⟨[a,b,c,d],[]⟩=pure [(p,a),(p2,b),(p3,c),(p4,d)]):Binds K fd [p,p2,p3,p4] []:=
 F.binds fun _ _ _ _ _ _ us hl=>bd4 (f:=fun us=>bindArgs _ ⟨us,[]⟩) (g:=fun us=>pure (List.zip _ us)) (h _ _ _ _ _ _) us hl
theorem bn5 {p p2 p3 p4 p5:Str}(F:Fun K x q st f fd) (h:∀kV doc pm an cdv ct a b c d e,bindArgs (fo x q st kV doc pm an cdv ct) ⟨[a,b,c,d,e],[]⟩=pure [(p,a),(p2,b),(p3,c),(p4,d),(p5,e)]):Binds K fd [p,p2,p3,p4,p5] []:=
 F.binds fun _ _ _ _ _ _ us hl=>bd5 (f:=fun us=>bindArgs _ ⟨us,[]⟩) (g:=fun us=>pure (List.zip _ us)) (h _ _ _ _ _ _) us hl
theorem bnl (F:Fun K x q st f fd) (h:∀kV doc pm an cdv ct (s:Shared) (v:Value),BindsTo s (fo x q st kV doc pm an cdv ct) ⟨[v],[]⟩ [("script",v)]):∀(s:Shared) (v:Value),BindsTo s fd ⟨[v],[]⟩ [("script",v)]:=by
 obtain ⟨oc,od,kV,doc,pm,an,cdv,ct,osl,rfl,lk,hcd⟩:=F.ex
 exact h _ _ _ _ _ _
end
theorem zev {b:Bk}{x:Str}{n:Nat}(h:(runF b x n).at_=x.length):∀k,runF b x (n+k)=runF b x n
 |0=>rfl
 |k+1=>by
  have ih:=zev h k
  show zaM b x (runF b x (n+k))=_
  rw[ih]
  unfold zaM
  rw[if_neg (by omega)]
theorem zjU {b:Bk}{x:Str}{n m:Nat}(h:(runF b x n).at_=x.length) (h':(runF b x m).at_=x.length):runF b x n=runF b x m:=by
 have a:=zev h m
 have c:=zev h' n
 rw[←a,←c,Nat.add_comm]
theorem zfK (k:Nat):∀ss:List Stp,Deps (k+1) (ss.map stD)
 |[]=>.nil _
 |s::r=>.cons (.tup (.cons (.int _ _) (.cons (.int _ _) (.cons (.str _ _) (.cons (.int _ _) (.cons (.int _ _) (.nil _))))))) (zfK k r)
def KeepE (S:Addr→Prop) (H H':Hp):Prop:=∀b o,¬S b→H b=some o→H' b=some o
def NoTup (S:Addr→Prop) (H:Hp):Prop:=∀b xs,S b→H b≠some (.tup xs)
mutual
theorem Rep.keep {z:Addr}{S:Addr→Prop}{H H':Hp}(k:KeepE S H H') (n:NoTup S H):∀ {v:V}{d:D},Rep z H v d→NoL d→Rep z H' v d
 |_,_,.non,_=>.non
 |_,_,.bl b,_=>.bl b
 |_,_,.int i,_=>.int i
 |_,_,.str x h,_=>.str x h
 |_,_,.tup h hz r,.tup t=>.tup (k _ _ (fun s=>n _ _ s h) h) hz (Reps.keep k n r t)
theorem Reps.keep {z:Addr}{S:Addr→Prop}{H H':Hp}(k:KeepE S H H') (n:NoTup S H):∀ {vs:List V}{ds:List D},Reps z H vs ds→NoLs ds→Reps z H' vs ds
 |_,_,.nil,_=>.nil
 |_,_,.cons h t,.cons h' t'=>.cons (Rep.keep k n h h') (Reps.keep k n t t')
end
def runIt (b:Bk) (x:Str) (r:RunSt):Nat→RunSt
 |0=>r
 |n+1=>zaM b x (runIt b x r n)
theorem zde (b:Bk) (x:Str) (n:Nat):∀k,runF b x (n+k)=runIt b x (runF b x n) k
 |0=>rfl
 |k+1=>by
  show zaM b x (runF b x (n+k))=zaM b x (runIt b x (runF b x n) k)
  rw[zde b x n k]
theorem zew (b:Bk) (x:Str):∀n,runF b x n=runIt b x ⟨0,[],[]⟩ n
 |0=>rfl
 |n+1=>by
  show zaM b x (runF b x n)=zaM b x _
  rw[zew b x n]
theorem zjd {b:Bk}{x:Str}{r:RunSt}{n:Nat}(h:(runIt b x r n).at_<x.length):runIt b x r (n+1)=⟨(runIt b x r n).at_+((stepL b (runIt b x r n).ds x (runIt b x r n).at_ (bestL b (runIt b x r n).ds x (runIt b x r n).at_)).1.2.1).toNat,(stepL b (runIt b x r n).ds x (runIt b x r n).at_ (bestL b (runIt b x r n).ds x (runIt b x r n).at_)).2,(runIt b x r n).ss++[(stepL b (runIt b x r n).ds x (runIt b x r n).at_ (bestL b (runIt b x r n).ds x (runIt b x r n).at_)).1]⟩:=by
 show zaM b x (runIt b x r n)=_
 unfold zaM
 rw[if_pos h]
theorem zlr {b:Bk}{x:Str}{r:RunSt}{n:Nat}(h:¬(runIt b x r n).at_<x.length):runIt b x r (n+1)=runIt b x r n:=by
 show zaM b x (runIt b x r n)=_
 unfold zaM
 rw[if_neg h]
structure ItOk2 (b:Bk) (x:Str) (ds0:List LDr) (r:RunSt):Prop where
 le:r.at_≤x.length
 bk:LdBk b r.ds
 dl:r.ds.length≤ds0.length+r.at_
 sl:r.ss.length≤r.at_
 sum:(r.ss.map (·.2.1)).sum=(r.at_:Int)
theorem zkz {b:Bk}{x:Str}{ds0:List LDr}(hb:∀t∈b,TgOk b.length t) (hb1:1≤b.length) (hd:LdBk b ds0):∀n,ItOk2 b x ds0 (runIt b x ⟨0,ds0,[]⟩ n)
 |0=>⟨Nat.zero_le _,hd,Nat.le_refl _,Nat.zero_le _,rfl⟩
 |n+1=>by
  have ih:=zkz (x:=x) hb hb1 hd n
  by_cases h:(runIt b x ⟨0,ds0,[]⟩ n).at_<x.length
  ·rw[zjd h]
   have P:=za4 (x:=x) hb ih.bk hb1 h
   obtain ⟨i1,i2,i3,i4,i5⟩:=ih
   generalize runIt b x ⟨0,ds0,[]⟩ n=r at *
   revert P
   generalize stepL b r.ds x r.at_ (bestL b r.ds x r.at_)=st
   intro P
   have h1:1≤st.1.2.1:=P.1
   have h3:(r.at_:Int)+st.1.2.1≤x.length:=P.2.2.1
   have h5:st.2.length≤r.ds.length+1:=P.2.2.2.2.1
   refine ⟨?_,P.2.2.2.1,?_,?_,?_⟩
   ·show r.at_+st.1.2.1.toNat≤x.length
    omega
   ·show st.2.length≤ds0.length+(r.at_+st.1.2.1.toNat)
    omega
   ·show (r.ss++[st.1]).length≤r.at_+st.1.2.1.toNat
    rw[List.length_append]
    show r.ss.length+1≤_
    omega
   ·show ((r.ss++[st.1]).map (·.2.1)).sum=((r.at_+st.1.2.1.toNat:Nat):Int)
    rw[List.map_append,List.sum_append,i5]
    show (r.at_:Int)+(st.1.2.1+0)=_
    omega
  ·rw[zlr h]
   exact ih
def SamePd (ds ds':List LDr):Prop:=ds.map (·.2)=ds'.map (·.2)
theorem SamePd.len {ds ds':List LDr}(h:SamePd ds ds'):ds.length=ds'.length:=by have:=congrArg List.length h;simpa using this
theorem SamePd.nil {ds ds':List LDr}(h:SamePd ds ds'):ds=[]↔ds'=[]:=by
 have:=h.len
 rw[←List.length_eq_zero_iff,←List.length_eq_zero_iff,this]
theorem SamePd.get {ds ds':List LDr}(h:SamePd ds ds') (i:Nat):(ds.getD i ld0).2=(ds'.getD i ld0).2:=by
 have e:=h.len
 by_cases hi:i<ds.length
 ·have h1:(ds.map (·.2))[i]?=(ds'.map (·.2))[i]?:=by rw[h]
  rw[List.getElem?_map,List.getElem?_map,List.getElem?_eq_getElem hi,List.getElem?_eq_getElem (by omega)] at h1
  rw[List.getD_eq_getElem?_getD,List.getD_eq_getElem?_getD,List.getElem?_eq_getElem hi,List.getElem?_eq_getElem (by omega)]
  exact Option.some.inj h1
 ·rw[List.getD_eq_getElem?_getD,List.getD_eq_getElem?_getD,List.getElem?_eq_none (by omega),List.getElem?_eq_none (by omega)]
theorem zfq (ds:List LDr):zal ds=match (ds.map (·.2)).getLast? with|some d=>d.1|none=>0:=by
 unfold zal
 rw[List.getLast?_map]
 cases ds.getLast?<;>rfl
theorem SamePd.tongue {ds ds':List LDr}(h:SamePd ds ds'):zal ds=zal ds':=by rw[zfq,zfq,h]
theorem SamePd.drop {ds ds':List LDr}(h:SamePd ds ds'):SamePd ds.dropLast ds'.dropLast:=by
 unfold SamePd
 rw[List.map_dropLast,List.map_dropLast,h]
theorem SamePd.some {b:Bk}{ds ds':List LDr}(h:SamePd ds ds'):someL b ds=someL b ds':=by
 unfold someL lastL
 have e:∀l:List LDr,(l.drop (l.length-1)).map (·.2.2)=((l.map (·.2)).drop (l.length-1)).map (·.2):=fun l=>by
  rw[←List.map_drop,List.map_map]
  rfl
 rw[h.tongue,e ds,e ds',h,h.len]
theorem zh4 {α:Type}(l:List α) (i k:Nat):(l.drop (min i l.length)).take (min (i+k) l.length-min i l.length)=(l.drop i).take k:=by
 by_cases h:i≤l.length
 ·rw[Nat.min_eq_left h]
  by_cases h2:i+k≤l.length
  ·rw[Nat.min_eq_left h2,Nat.add_sub_cancel_left]
  ·rw[Nat.min_eq_right (by omega),List.take_of_length_le (by simp),List.take_of_length_le (by simp;omega)]
 ·rw[Nat.min_eq_right (by omega),Nat.min_eq_right (by omega),List.drop_eq_nil_of_le (Nat.le_refl _),List.drop_eq_nil_of_le (by omega)]
  simp
theorem zco {a c:Str}(h:a.cps.toList=c.cps.toList):a=c:=by
 obtain ⟨⟨a⟩⟩:=a
 obtain ⟨⟨c⟩⟩:=c
 have h:a=c:=h
 rw[h]
theorem zam (x:Str):x.cps.toList.length=x.length:=by simp;rfl
theorem zcD (x:Str) (i k:Nat):(cutS x (some (i:Int)) (some ((i:Int)+(k:Int)))).cps.toList=(x.cps.toList.drop i).take k:=by
 unfold cutS
 have e:((i:Int)+(k:Int))=((i+k:Nat):Int):=by omega
 rw[e,HT.sIx_nat,HT.sIx_nat]
 show ((x.cps.toList.drop (min i x.length)).take (min (i+k) x.length-min i x.length))=_
 rw[←zam]
 exact zh4 _ _ _
theorem zcd (x:Str){i:Nat}(h:i≤x.length):(cutS x (some (i:Int)) none).cps.toList=x.cps.toList.drop i:=by
 unfold cutS
 rw[HT.sIx_nat,HT.sIx_none]
 show ((x.cps.toList.drop (min i x.length)).take (x.length-min i x.length))=_
 rw[Nat.min_eq_left h,List.take_of_length_le]
 rw[List.length_drop,zam]
 exact Nat.le_refl _
theorem zdE {x m:Str}{i:Nat}:fitAt x i m=true↔m.cps.toList <+: x.cps.toList.drop i:=by
 unfold fitAt
 rw[decide_eq_true_iff,List.prefix_iff_eq_take,zam]
 constructor
 ·intro h
  have h:cutS x (some (i:Int)) (some ((i:Int)+m.length))=m:=by injection h
  rw[←zcD,h]
 ·intro h
  congr 1
  exact zco (by rw[zcD,←h])
theorem zje {a c:Bool}(h:a=true↔c=true):a=c:=Bool.eq_iff_iff.mpr h
theorem zdF {x:Str}{i:Nat}(h:i<x.length):x.cps.toList.drop i=x.cps.getD i 0::x.cps.toList.drop (i+1):=by
 have h1:i<x.cps.toList.length:=by rw[zam];exact h
 rw[List.drop_eq_getElem_cons h1]
 congr 1
 have:i<x.cps.size:=h
 simp[Array.getD,this]
def restS (y:Str) (j:Nat):Str:=cutS y (some (j:Int)) none
def sureB (b:Bk) (ds:List LDr) (y:Str) (j:Nat):Bool:=!(decide (restS y j=(b.getD (zal ds).toNat tg0).1))&&!((possL b ds).any fun m=>decide ((restS y j).length<m.1.length)&&stAt m.1 (restS y j) 0)
structure Fits (b:Bk) (ds:List LDr) (x y:Str) (off j:Nat):Prop where
 sign:x.cps.getD (off+j) 0=y.cps.getD j 0
 esc:(⟨#[y.cps.getD j 0]⟩:Str)=(b.getD (zal ds).toNat tg0).1→(off+j+1=x.length↔j+1=y.length)
 fit:∀m∈someL b ds,fitAt x (off+j) m=fitAt y j m
theorem zgM {x y:Str}{pre more:List Nat}{off j:Nat}(hx:x.cps.toList=pre++y.cps.toList++more) (hoff:pre.length=off) (hj:j≤y.length):x.cps.toList.drop (off+j)=y.cps.toList.drop j++more:=by
 rw[hx,List.append_assoc,←List.drop_drop,←hoff,List.drop_left,List.drop_append_of_le_length (by rw[zam];exact hj)]
theorem zkA {b:Bk}{ds:List LDr}{x y:Str}{pre more:List Nat}{off j:Nat}(hx:x.cps.toList=pre++y.cps.toList++more) (hoff:pre.length=off) (hj:j<y.length) (hs:more=[]∨sureB b ds y j=true):Fits b ds x y off j:=by
 have hxl:x.length=off+y.length+more.length:=by rw[←zam,hx,List.length_append,List.length_append,hoff,zam]
 have hd:=zgM hx hoff (Nat.le_of_lt hj)
 have hsg:x.cps.getD (off+j) 0=y.cps.getD j 0:=by
  rw[zdF (by omega),zdF hj] at hd
  injection hd
 have hrest:(restS y j).cps.toList=y.cps.toList.drop j:=zcd y (Nat.le_of_lt hj)
 refine ⟨hsg,fun he=>?_,fun m hm=>?_⟩
 ·rcases hs with h|h
  ·rw[h] at hxl
   have hxl:x.length=off+y.length+0:=hxl
   omega
  ·unfold sureB at h
   simp only[Bool.and_eq_true,Bool.not_eq_true',decide_eq_false_iff_not] at h
   have hne:=h.1
   have hlt:j+1<y.length:=by
    by_cases hq:j+1<y.length
    ·exact hq
    ·exfalso
     apply hne
     rw[←he]
     refine zco ?_
     rw[hrest,zdF hj,List.drop_eq_nil_of_le (by rw[zam];omega)]
   omega
 ·refine zje ?_
  rw[zdE,zdE,hd]
  constructor
  ·intro h
   by_cases hl:m.cps.toList.length≤(y.cps.toList.drop j).length
   ·exact List.prefix_of_prefix_length_le h (List.prefix_append _ _) hl
   ·rcases hs with e|e
    ·rw[e,List.append_nil] at h
     exact h
    ·exfalso
     unfold sureB at e
     simp only[Bool.and_eq_true,Bool.not_eq_true',decide_eq_false_iff_not] at e
     have e2:=e.2
     rw[List.any_eq_false] at e2
     obtain ⟨p,hp,rfl⟩:=zcC hm
     apply e2 p hp
     rw[Bool.and_eq_true]
     refine ⟨decide_eq_true ?_,?_⟩
     ·rw[←zam,←zam,hrest]
      omega
     ·rw[zcc (Nat.zero_le _),zdE,hrest,List.drop_zero]
      exact List.prefix_of_prefix_length_le (List.prefix_append _ _) h (by omega)
  ·intro h
   exact h.trans (List.prefix_append _ _)
def mvS (d:Int) (s:Stp):Stp:=(s.1+d,s.2)
theorem zkB {b:Bk}{ds ds':List LDr}{x y:Str}{off j:Nat}{m:Str}(hpd:SamePd ds ds') (F:Fits b ds' x y off j):(stepL b ds x (off+j) m).1=mvS off (stepL b ds' y j m).1∧SamePd (stepL b ds x (off+j) m).2 (stepL b ds' y j m).2:=by
 have ht:=hpd.tongue
 have hl:=hpd.len
 have eo:((off+j:Nat):Int)=(j:Int)+(off:Int):=by omega
 unfold stepL
 rw[ht,F.sign,hl]
 split
 ·rename_i h
  have he:=F.esc h.2
  by_cases h1:j+1=y.length
  ·rw[if_pos h1,if_pos (he.mpr h1)]
   exact ⟨by unfold mvS;rw[eo],hpd⟩
  ·rw[if_neg h1,if_neg (fun q=>h1 (he.mp q))]
   exact ⟨by unfold mvS;rw[eo],hpd⟩
 ·split
  ·exact ⟨by unfold mvS;rw[eo],hpd⟩
  ·have hc:(ds≠[]∧m=(ds.getD (ds'.length-1) ld0).2.2)↔(ds'≠[]∧m=(ds'.getD (ds'.length-1) ld0).2.2):=by
    rw[hpd.get]
    exact ⟨fun q=>⟨fun e=>q.1 (hpd.nil.mpr e),q.2⟩,fun q=>⟨fun e=>q.1 (hpd.nil.mp e),q.2⟩⟩
   by_cases h3:ds'≠[]∧m=(ds'.getD (ds'.length-1) ld0).2.2
   ·rw[if_pos h3,if_pos (hc.mpr h3),hpd.drop.tongue]
    exact ⟨by unfold mvS;rw[eo],hpd.drop⟩
   ·rw[if_neg h3,if_neg (fun q=>h3 (hc.mp q))]
    split
    ·refine ⟨by unfold mvS;rw[eo],?_⟩
     unfold SamePd
     rw[List.map_append,List.map_append,hpd]
     rfl
    ·exact ⟨by unfold mvS;rw[eo],hpd⟩
theorem zkC {b:Bk}{ds ds':List LDr}{x y:Str}{off j:Nat}(hpd:SamePd ds ds') (F:Fits b ds' x y off j):bestL b ds x (off+j)=bestL b ds' y j:=by
 unfold bestL fitL
 rw[hpd.some]
 congr 1
 exact List.filter_congr fun m hm=>F.fit m hm
structure Rel (off:Nat) (S0:List Stp) (R r:RunSt):Prop where
 at_:R.at_=off+r.at_
 pd:SamePd R.ds r.ds
 ss:R.ss=S0++r.ss.map (mvS off)
theorem zjf {b:Bk}{x y:Str}{pre more:List Nat}{off:Nat}{S0:List Stp}{R r:RunSt}(hx:x.cps.toList=pre++y.cps.toList++more) (hoff:pre.length=off) (hj:r.at_<y.length) (hs:more=[]∨sureB b r.ds y r.at_=true) (h:Rel off S0 R r):Rel off S0 (zaM b x R) (zaM b y r):=by
 have hxl:x.length=off+y.length+more.length:=by rw[←zam,hx,List.length_append,List.length_append,hoff,zam]
 have F:=zkA (b:=b) (ds:=r.ds) hx hoff hj hs
 have hb:=zkC h.pd F
 obtain ⟨s1,s2⟩:=zkB (m:=bestL b r.ds y r.at_) h.pd F
 unfold zaM
 rw[if_pos hj,if_pos (by rw[h.at_];omega),h.at_,hb]
 refine ⟨?_,s2,?_⟩
 ·show off+r.at_+_=off+(r.at_+_)
  rw[s1]
  show off+r.at_+(stepL b r.ds y r.at_ (bestL b r.ds y r.at_)).1.2.1.toNat=_
  omega
 ·show R.ss++[_]=_
  rw[s1,h.ss,List.map_append,List.append_assoc]
  rfl
theorem zcX {b:Bk}{x y:Str}{pre more:List Nat}{off:Nat}{S0:List Stp}{R r:RunSt}(hx:x.cps.toList=pre++y.cps.toList++more) (hoff:pre.length=off) (h:Rel off S0 R r):∀k,(∀j,j<k→(runIt b y r j).at_<y.length∧(more=[]∨sureB b (runIt b y r j).ds y (runIt b y r j).at_=true))→Rel off S0 (runIt b x R k) (runIt b y r k)
 |0,_=>h
 |k+1,hs=>zjf hx hoff (hs k (Nat.lt_succ_self _)).1 (hs k (Nat.lt_succ_self _)).2 (zcX hx hoff h k fun j hj=>hs j (Nat.lt_succ_of_lt hj))
inductive zex:List V→Hp→VK→XK→Prop where
 |mk {vs:List V} {H:Hp} {Q:VK} {E:XK} (p d st:_) (c1:vs=[.ref p,.int d]) (c2:H p=some (.tup (stV st))) (c3:∀q H',Same H H'→H q=none→H' q=some (.tup (stV (mvS d st)))→Q (.ref q) H'):zex vs H Q E
inductive zgk:List V→Hp→VK→XK→Prop where
 |mk {vs:List V} {H:Hp} {Q:VK} {E:XK} (z v b q ds x:_) (j:Nat) (c1:vs=[v,.str x,.int j,.ref q]) (c2:Bag z H) (c3:Rep z H v (bkD b)) (c4:BkOk b) (c5:PDs z H q ds) (c6:LdOk b ds) (c7:j≤x.length) (c8:x.length≤20000) (c9:∀H',Same H H'→Q (.bl (sureB b ds x j)) H'):zgk vs H Q E
theorem zh5 (ms:List Mk):(List.range ms.length).map (fun j=>V.str (ms.getD j mk0).1)=(ms.map (·.1)).map V.str:=by
 refine List.ext_getElem (by simp) fun i h1 h2=>?_
 have h3:i<ms.length:=by simpa using h2
 simp[h3]
theorem zgN {α:Type}(ms:List α) (d:α) (g:α→Bool):((List.range ms.length).map fun j=>g (ms.getD j d)).any id=ms.any g:=by
 have e:(List.range ms.length).map (fun j=>g (ms.getD j d))=ms.map g:=by
  refine List.ext_getElem (by simp) fun i h1 h2=>?_
  have h3:i<ms.length:=by simpa using h2
  simp[h3]
 rw[e,List.any_map]
 rfl
theorem scMoved:zav ["step","by","place","many","word","tongue","depth"] ["step","by"] (zag zhN):=⟨rfl,rfl,rfl,by decide +kernel,rfl,by decide +kernel,by decide +kernel⟩
theorem zjg {f:Addr}{fd:FuncData}(F:Fun K "moved" "moved" zhN f fd):FnOk P w K mg base CX0 1 f fd ["step","by"] zex:=by
 refine F.ok scMoved (fun vs H Q E h=>?_) (fun cdv A outer s H vs Q E hr h=>?_)
 ·obtain ⟨p,d,st,rfl,_⟩:=h
  rfl
 ·obtain ⟨p,d,st,rfl,hp,k⟩:=h
  have nd:=scMoved.nd
  refine ⟨_,zac (zbq (pv 0) (zbu rfl (zat (zao (i:=2) nd rfl (Or.inl rfl)) (zat (zao (i:=3) nd rfl (Or.inl rfl)) (zat (zao (i:=4) nd rfl (Or.inl rfl)) (zat (zao (i:=5) nd rfl (Or.inl rfl)) (zat (zao (i:=6) nd rfl (Or.inl rfl)) za1)))))))
   (zai (zax (za2 (zaa (zaB zaQ (pv 2) (pv 1)) (zaa (pv 3) (zaa (pv 4) (zaa (pv 5) (zaa (pv 6) zae)))))))),?_⟩
  dsimp only[cxOf,Cx.nox,Cx.wish]
  have big:=za6
  refine ⟨_,rfl,p,_,rfl,SqT.of hp,rfl,_,_,rfl,_,_,rfl,_,_,rfl,_,_,rfl,_,_,rfl,rfl,?_⟩
  refine ⟨_,rfl,_,rfl,_,_,rfl,rfl,_,rfl,_,rfl,_,rfl,_,rfl,by show (5:Nat)≤_;omega,fun q nq=>?_⟩
  exact k q _ (Same.new nq) nq zab
theorem scSure:zav ["book","part","place","doors","rest","escape","ways","marks"] ["book","part","place","doors"] (zag zdA):=⟨rfl,rfl,rfl,by decide +kernel,rfl,by decide +kernel,by decide +kernel⟩
theorem ndMD:(["mark","door"]:List Str).Nodup:=by decide +kernel
theorem ndMR:(["mark","rest"]:List Str).Nodup:=by decide +kernel
theorem zkD {f f1 f2:Addr}{fd fd1 fd2:FuncData}(F:Fun K "is_sure" "is_sure" zdA f fd) (T:TxtB mg)
  (k1:W.keepIn K (.ref f1)=true) (b1:Binds K fd1 ["doors"] []) (m1:mg "tongue_within"=some (.ref f1)) (G1:FnOk P w K mg base CX0 1 f1 fd1 ["doors"] zbL)
  (k2:W.keepIn K (.ref f2)=true) (b2:Binds K fd2 ["book","doors"] []) (m2:mg "possible_marks"=some (.ref f2)) (G2:FnOk P w K mg base CX0 2 f2 fd2 ["book","doors"] zfl):FnOk P w K mg base CX0 3 f fd ["book","part","place","doors"] zgk:=by
 refine F.ok scSure (fun vs H Q E h=>?_) (fun cdv A outer s H vs Q E hr h=>?_)
 ·obtain ⟨z,v,b,q,ds,x,j,rfl,_⟩:=h
  rfl
 ·obtain ⟨z,v,b,q,ds,x,j,rfl,hB,R0,hok,hD,hld,hj,hx,k⟩:=h
  have nd:=scSure.nd
  have hr1:Room 1 _:=hr.mono (by decide)
  obtain ⟨a,xs,rfl,haz,ha,hxl,R⟩:=zb9 R0
  obtain ⟨hb1,hb6,htok,_⟩:=id hok
  refine ⟨_,zac (zap (i:=4) nd rfl (Or.inr rfl) (zaT zcz (pv 1) (zaS (pv 2)) zbo))
   (zac (zbq (zau ix_tup (pv 0) (zas G1 hr1 rfl m1 k1 b1 .nil pass0 (zaa (pv 3) zae)) (fun _ _=>rfl)) (zbu rfl (zat (zao (i:=5) nd rfl (Or.inl rfl)) (zat (zao (i:=6) nd rfl (Or.inl rfl)) za1))))
   (zac (zaW (zaw zcg (pv 4) (pv 5) (zaz _)) (zai (zax zd5)) zaA)
   (zac (zbK (N':=["mark","door"]) (js:=[none,none]) (i:=7) rfl rfl nd rfl (Or.inl rfl) (zbx (zag zdA) (by decide +kernel)) trivial
     (zbR (zas G2 hr rfl m2 k2 b2 .nil pass0 (zaa (pv 0) (zaa (pv 3) zae))))
     (fun cl s H fp=>zhh 2 rfl (zat (zao (i:=0) ndMD rfl (Or.inl rfl) (Or.inr rfl)) (zat (zao (i:=1) ndMD rfl (Or.inl rfl) (Or.inr rfl)) za1))) (fun cl s H fp=>zbV) (fun cl s H fp=>pv 0))
   (zai (zax (zk2 (zaq (ziJ rfl) (by rfl) T.any_ zlw (zaa (zbr (N':=["mark","rest"]) (js:=[none,some 4]) rfl rfl (zbx (zag zdA) (by decide +kernel)) ⟨rfl,Or.inr (Or.inl rfl),rfl,trivial⟩ (zbR (pv 7)) (fun cl s H fp=>zao (i:=0) ndMR rfl (Or.inl rfl)) (fun cl s H fp=>zbV)
     (fun cl s H fp=>zgW (zcN ziB (zaq zar (by rfl) T.len b_len (zaa (pv 0) zae)) (zaq zar (by rfl) T.len b_len (zaa (pv 1) zae)) (zaz _)) (zgV (zhD PySem.F.plainAttrs_str PySem.F.slot_str_startswith PySem.F.type_str_startswith zcv (pv 0) (zaa (pv 1) zae))))) zae)))))))),?_⟩
  dsimp only[cxOf,Cx.nox,Cx.wish]
  have big:=za6
  have big2:(100000:Nat)≤sizeLine:=by rw[sizeLine_eq];decide
  obtain ⟨tN,htN,htl⟩:=za8 hld hb1
  have htoN:(zal ds).toNat=tN:=by rw[htN];rfl
  obtain ⟨c,d,ws,ec,hcz,hdz,hc,hd,hyl,Ry⟩:=zaY (zaL (b:=b) (i:=tN) R htl)
  have exv:xs[tN]?=some (.ref c):=by
   have h1:tN<xs.length:=by omega
   have h2:xs.getD tN .non=xs[tN]:=by simp[h1]
   rw[List.getElem?_eq_getElem h1,←h2,ec]
  have hat:atI xs (zal ds)=some (.ref c):=by rw[htN];exact zah (j:=tN) exv
  refine ⟨_,rfl,_,rfl,_,rfl,x,rfl,by omega,?_⟩
  refine ⟨_,rfl,_,rfl,z,q,ds,rfl,hD,a,_,_,_,rfl,rfl,SqT.of ha,hat,c,_,rfl,SqT.of hc,rfl,_,_,rfl,_,_,rfl,rfl,?_⟩
  unfold sureB at k
  rw[htoN] at k
  have erest:cutS x (some (j:Int)) none=restS x j:=rfl
  rw[erest]
  have hrl:(restS x j).length≤20000:=by
   have:=zam (restS x j)
   rw[show (restS x j).cps.toList=_ from zcd x hj,List.length_drop,zam] at this
   omega
  generalize restS x j=rs at *
  refine ⟨_,rfl,_,rfl,rfl,_,rfl,?_⟩
  refine ite2 (fun g=>?_) (fun g=>?_)
  ·have g':rs=(b.getD tN tg0).1:=by have:=of_decide_eq_true g;injection this
   have:=k H (Same.refl _)
   rw[decide_eq_true g'] at this
   exact this
  ·have g':rs≠(b.getD tN tg0).1:=fun e=>g (decide_eq_true (by rw[e]))
   rw[decide_eq_false g'] at k
   refine ⟨_,rfl,_,rfl,z,.ref a,b,q,ds,rfl,hB,R0,hok,hD,hld,fun pw vs H4 s4 npw hpw RW=>?_⟩
   have hwl:vs.length=(possL b ds).length:=by have:=RW.length;simpa using this
   have hfew:(possL b ds).length≤7:=by
    have few:=(htok _ (zaI tg0 htl)).2.1
    unfold possL lastL
    rw[htoN,List.length_append,List.length_map,List.length_map,List.length_drop]
    omega
   have hsm:∀m∈possL b ds,m.1.length≤4:=fun m hm=>(zcW (x:=x) (i:=j) htok hld m.1 (zb2 hm)).2
   refine ⟨pw,rfl,⟨_,SqL.of hpw⟩,fun pC npC=>?_⟩
   have hpwC:pw≠pC:=zad hpw npC
   refine zbw (fun j=>some (V.str ((possL b ds).getD j mk0).1)) (fun σ=>∃u1 u2,σ=[u1,u2]) ⟨none,none,rfl⟩ npC (by omega) (zb7 (xs:=vs) (by rw[zaj hpwC];exact hpw) hpwC) (fun j σ H5 C hj ⟨w1,w2,hw⟩ s5 hC=>?_) (fun σ H5 s5 hC5=>?_)
   ·subst hw
    obtain ⟨a2,u2,e,haz2,ha2,hl,Ru⟩:=zgh ((zet (ms:=possL b ds) (i:=j) RW (by omega)).mono s5.x)
    rw[e]
    refine ⟨a2,_,rfl,SqT.of ha2,rfl,_,_,rfl,_,_,rfl,rfl,?_⟩
    dsimp only[tYes]
    rw[if_pos rfl]
    exact ⟨_,rfl,hC _ _ ⟨_,_,rfl⟩ (Same.refl _)⟩
   ·rw[zcy,hwl,zh5] at hC5
    refine ⟨_,rfl,pC,rfl,⟨_,SqL.of hC5⟩,fun pD npD=>?_⟩
    have hCD:pC≠pD:=zad hC5 npD
    refine zbw (fun j=>some (V.bl (decide (rs.length<((possL b ds).getD j mk0).1.length)&&stAt ((possL b ds).getD j mk0).1 rs 0))) (fun σ=>∃u1,σ=[u1,some (.str rs)]) ⟨none,rfl⟩ npD (by simp;omega) (zb7 (xs:=((possL b ds).map (·.1)).map V.str) (by rw[zaj hCD];exact hC5) hCD) (fun j σ H6 C hj ⟨w1,hw⟩ s6 hC=>?_) (fun σ H6 s6 hC6=>?_)
    ·subst hw
     have hjl:j<(possL b ds).length:=by simpa using hj
     have e:(((possL b ds).map (·.1)).map V.str).getD j .non=V.str ((possL b ds).getD j mk0).1:=by simp[hjl]
     have hm4:=hsm ((possL b ds).getD j mk0) (by rw[List.getD_eq_getElem?_getD,List.getElem?_eq_getElem hjl];exact List.getElem_mem hjl)
     rw[e]
     have hC':=hC [some (.str ((possL b ds).getD j mk0).1),some (.str rs)] H6 ⟨_,rfl⟩ (Same.refl _)
     generalize ((possL b ds).getD j mk0).1=mk at *
     dsimp only[tYes,gName]
     rw[if_pos rfl]
     refine ⟨_,rfl,mk,rfl,by omega,_,rfl,rs,rfl,by omega,_,_,rfl,rfl,_,rfl,?_⟩
     refine ite2 (fun g2=>?_) (fun g2=>?_)
     ·have h2:rs.length<mk.length:=by have:=of_decide_eq_true g2;omega
      rw[decide_eq_true h2,Bool.true_and] at hC'
      exact ⟨_,rfl,rfl,_,rfl,mk,rs,rfl,rfl,hC'⟩
     ·have h2:¬rs.length<mk.length:=fun h=>g2 (decide_eq_true (by omega))
      rw[decide_eq_false h2,Bool.false_and] at hC'
      exact hC'
    ·have eb:flatN (fun j=>(some (V.bl (decide (rs.length<((possL b ds).getD j mk0).1.length)&&stAt ((possL b ds).getD j mk0).1 rs 0))).toList) (((possL b ds).map (·.1)).map V.str).length=((List.range (possL b ds).length).map fun j=>decide (rs.length<((possL b ds).getD j mk0).1.length)&&stAt ((possL b ds).getD j mk0).1 rs 0).map V.bl:=by
      rw[zcy,List.length_map,List.length_map,List.map_map]
      rfl
     rw[eb] at hC6
     refine ⟨pD,_,rfl,SqL.of hC6,_,rfl,?_⟩
     have ea:=zgN (possL b ds) mk0 (fun m=>decide (rs.length<m.1.length)&&stAt m.1 rs 0)
     rw[ea]
     have:=k H6 ((s4.trans s5).trans s6)
     rw[Bool.not_false,Bool.true_and] at this
     exact this
abbrev it0 (b:Bk) (x:Str) (ds:List LDr) (n:Nat):RunSt:=runIt b x ⟨0,ds,[]⟩ n
inductive zbM (tb:Addr):List V→Hp→VK→XK→Prop where
 |mk {vs:List V} {H:Hp} {Q:VK} {E:XK} (z v b q ds x:_) (c1:vs=[v,.str x,.ref q]) (c2:Bag z H) (c3:q≠z) (c4:Rep z H v (bkD b)) (c5:BkOk b) (c6:PDs z H q ds) (c7:LdBk b ds) (c8:ds.length+x.length≤20000) (c9:LamTb tb H) (c10:∀p fv n H',But2 q tb H H'→H p=none→H' p=some (.lst fv)→(∀j,j<n→(it0 b x ds j).at_<x.length∧sureB b (it0 b x ds j).ds x (it0 b x ds j).at_=true)→¬((it0 b x ds n).at_<x.length∧sureB b (it0 b x ds n).ds x (it0 b x ds n).at_=true)→Reps z H' fv ((it0 b x ds n).ss.map stD)→PDs z H' q (it0 b x ds n).ds→Bag z H'→LamTb tb H'→Q (.ref p) H'):zbM tb vs H Q E
structure zgl (tb:Addr) (z:Addr) (H:Hp) (b:Bk) (x:Str) (ds:List LDr) (v:V) (q pf:Addr) (n:Nat) (H3:Hp):Prop where
 bx:But2 q tb H H3
 bag:Bag z H3
 rep:Rep z H3 v (bkD b)
 pds:PDs z H3 q (it0 b x ds n).ds
 lam:LamTb tb H3
 fv:∃fv,H3 pf=some (.lst fv)∧Reps z H3 fv ((it0 b x ds n).ss.map stD)
theorem zkE {tb z:Addr}{H:Hp}{b:Bk}{x:Str}{ds:List LDr}{v:V}{q pf:Addr}{n:Nat}{H3 H4:Hp}{fv:List V}{p:Addr}(htok:∀t∈b,TgOk b.length t) (hb1:1≤b.length) (hbk:LdBk b ds) (hlt:(it0 b x ds n).at_<x.length)
  (hqz:q≠z) (hpfz:pf≠z) (hqf:q≠pf) (npf:H pf=none) (W:zgl tb z H b x ds v q pf n H3) (hf3:H3 pf=some (.lst fv)) (RF:Reps z H3 fv ((it0 b x ds n).ss.map stD)) (s4:But2 q tb H3 H4) (np:H3 p=none)
  (hp:H4 p=some (.tup (stV (stepL b (it0 b x ds n).ds x (it0 b x ds n).at_ (bestL b (it0 b x ds n).ds x (it0 b x ds n).at_)).1))) (D4:PDs z H4 q (stepL b (it0 b x ds n).ds x (it0 b x ds n).at_ (bestL b (it0 b x ds n).ds x (it0 b x ds n).at_)).2) (T4:LamTb tb H4) :
  H4 pf=some (.lst fv)∧zgl tb z H b x ds v q pf (n+1) (upd H4 pf (.lst (fv++[.ref p])))∧upd H4 pf (.lst (fv++[.ref p])) p=some (.tup (stV (stepL b (it0 b x ds n).ds x (it0 b x ds n).at_ (bestL b (it0 b x ds n).ds x (it0 b x ds n).at_)).1)):=by
 obtain ⟨s3,hB3,R3,D3,T3,_⟩:=W
 have iok:ItOk2 b x ds (it0 b x ds n):=zkz (x:=x) htok hb1 hbk n
 obtain ⟨p1,p2,p3,p4,p5,p6⟩:=za4 (ds:=(it0 b x ds n).ds) (x:=x) htok iok.bk hb1 hlt
 obtain ⟨dv3,hq3,_⟩:=D3
 obtain ⟨ps,ht3⟩:=T3.tbl
 have R4:=Rep.but2 hq3 ht3 s4 R3 (.tup (zbp b))
 have RF4:=Reps.but2 hq3 ht3 s4 RF (za5 _)
 have hf4:=s4 _ _ hqf.symm (zan hf3 ht3 (by intro q;cases q)) hf3
 have hB4:Bag z H4:=by
  obtain ⟨c1,c2,e⟩:=hB3
  exact ⟨c1,c2,s4 _ _ hqz.symm (zan e ht3 (by intro q;cases q)) e⟩
 have hpz:p≠z:=hB3.ne np
 have ess:(it0 b x ds (n+1)).ss=(it0 b x ds n).ss++[(stepL b (it0 b x ds n).ds x (it0 b x ds n).at_ (bestL b (it0 b x ds n).ds x (it0 b x ds n).at_)).1]:=by show (runIt b x _ (n+1)).ss=_;rw[zjd hlt]
 have eds:(it0 b x ds (n+1)).ds=(stepL b (it0 b x ds n).ds x (it0 b x ds n).at_ (bestL b (it0 b x ds n).ds x (it0 b x ds n).at_)).2:=by show (runIt b x _ (n+1)).ds=_;rw[zjd hlt]
 rw[←eds] at D4
 have rst:Rep z H4 (.ref p) (stD (stepL b (it0 b x ds n).ds x (it0 b x ds n).at_ (bestL b (it0 b x ds n).ds x (it0 b x ds n).at_)).1):=.tup hp hpz (.cons (.int _) (.cons (.int _) (.cons (.str _ (by omega)) (.cons (.int _) (.cons (.int _) .nil)))))
 refine ⟨hf4,⟨fun b' o h1 h2 e=>?_,?_,?_,?_,?_,_,zab,?_⟩,?_⟩
 ·rw[zaj (zad e npf)]
  exact s4 b' o h1 h2 (s3 b' o h1 h2 e)
 ·obtain ⟨c1,c2,e⟩:=hB4
  exact ⟨c1,c2,by rw[zaj hpfz.symm];exact e⟩
 ·exact Rep.updL hf4 R4 (.tup (zbp b))
 ·obtain ⟨dv,hq4,RD4⟩:=D4
  exact ⟨dv,by rw[zaj hqf];exact hq4,Reps.updL hf4 RD4 (zcm _)⟩
 ·exact T4.sameX hf4 SameX.refl.upd
 ·rw[ess,List.map_append]
  exact Reps.updL hf4 (RF4.append (.cons rst .nil)) ((za5 _).append (za5 [_]))
 ·rw[zaj (zan hp hf4 (by intro q;cases q))]
  exact hp
theorem scSureSteps:zav ["book","part","doors","told","place","step"] ["book","part","doors"] (zag zcV):=⟨rfl,rfl,rfl,by decide +kernel,rfl,by decide +kernel,by decide +kernel⟩
theorem zfr {f tb f1 f2:Addr}{fd fd1 fd2:FuncData}(F:Fun K "sure_steps" "sure_steps" zcV f fd) (T:TxtB mg)
  (k1:W.keepIn K (.ref f1)=true) (b1:Binds K fd1 ["book","text","place","doors"] []) (m1:mg "read_step"=some (.ref f1)) (G1:FnOk P w K mg base CX0 4 f1 fd1 ["book","text","place","doors"] (zdD tb))
  (k2:W.keepIn K (.ref f2)=true) (b2:Binds K fd2 ["book","part","place","doors"] []) (m2:mg "is_sure"=some (.ref f2)) (G2:FnOk P w K mg base CX0 3 f2 fd2 ["book","part","place","doors"] zgk):FnOk P w K mg base CX0 5 f fd ["book","part","doors"] (zbM tb):=by
 refine F.ok scSureSteps (fun vs H Q E h=>?_) (fun cdv A outer s H vs Q E hr h=>?_)
 ·obtain ⟨z,v,b,q,ds,x,rfl,_⟩:=h
  rfl
 ·obtain ⟨z,v,b,q,ds,x,rfl,hB,hqz,R0,hok,hD,hbk,hx,hT,k⟩:=h
  have nd:=scSureSteps.nd
  have hr3:Room 3 _:=hr.mono (by decide)
  obtain ⟨hb1,hb6,htok,_⟩:=id hok
  refine ⟨_,zac (zap (i:=3) nd rfl (Or.inl rfl) (zaF zae))
   (zac (zap (i:=4) nd rfl (Or.inl rfl) zaf)
   (zac (zcr PassesOwn.never (PW.pt (zdO (zaw zd9 (pv 4) (zaq zar (by rfl) T.len b_len (zaa (pv 1) zae)) (zaz _)) (zcM (zdN (zas G2 hr3 rfl m2 k2 b2 .nil pass0 (zaa (pv 0) (zaa (pv 1) (zaa (pv 4) (zaa (pv 2) zae)))))))))
    (zac (zap (i:=5) nd rfl (Or.inl rfl) (zas G1 hr rfl m1 k1 b1 .nil pass0 (zaa (pv 0) (zaa (pv 1) (zaa (pv 4) (zaa (pv 2) zae))))))
    (zac (zaO (zbU PySem.F.plainAttrs_list PySem.F.slot_list_append PySem.F.type_list_append zaK (pv 3) (zaa (pv 5) zae)))
    (zai (zjC (i:=4) nd rfl (Or.inl rfl) (zau ix_tup (pv 5) zaf (fun _ _=>rfl)) zjD)))))
   (zai (zax (pv 3))))),?_⟩
  dsimp only[cxOf,Cx.nox,Cx.wish]
  have big:=za6
  have big2:(100000:Nat)≤sizeLine:=by rw[sizeLine_eq];decide
  refine ⟨Nat.zero_le _,fun pf npf=>?_⟩
  have s1:=Same.new (o:=.lst []) npf
  have hpfz:pf≠z:=hB.ne npf
  have hqf:q≠pf:=zad hD.choose_spec.1 npf
  refine zcs (fun σ H3=>∃n u,σ=[some v,some (.str x),some (.ref q),some (.ref pf),some (.int (it0 b x ds n).at_),u]∧(∀j,j<n→(it0 b x ds j).at_<x.length∧sureB b (it0 b x ds j).ds x (it0 b x ds j).at_=true)∧zgl tb z H b x ds v q pf n H3)
   (fun σ H3=>match σ[4]? with|some (some (V.int i))=>x.length-i.toNat|_=>0) ⟨0,none,rfl,fun j h=>absurd h (Nat.not_lt_zero _),fun b' o _ _ e=>s1 b' o e,hB.same s1,R0.mono s1.x,hD.same s1,hT.same s1,[],zab,.nil⟩ ?_ ?_
  ·rintro σ H3' ⟨n,u,rfl,hall,W'⟩
   have iok:ItOk2 b x ds (it0 b x ds n):=zkz (x:=x) htok hb1 hbk n
   have hle:=iok.le
   refine ⟨_,rfl,_,rfl,x,rfl,by omega,_,_,rfl,rfl,_,rfl,?_⟩
   refine ite2 (fun hlt=>?_) (fun hlt=>?_)
   ·have hlt:(it0 b x ds n).at_<x.length:=by have:=of_decide_eq_true hlt;omega
    have hdl:=iok.dl
    have hsl:=iok.sl
    obtain ⟨s3',hB3',R3',D3',T3',fv',hf3',RF'⟩:=id W'
    refine ⟨_,rfl,_,rfl,_,rfl,_,rfl,z,v,b,q,(it0 b x ds n).ds,x,(it0 b x ds n).at_,rfl,hB3',R3',hok,D3',iok.bk.ok htok,by omega,by omega,fun H3 sS=>?_⟩
    have W:zgl tb z H b x ds v q pf n H3:=⟨fun b' o h1 h2 e=>sS b' o (s3' b' o h1 h2 e),hB3'.same sS,R3'.mono sS.x,D3'.same sS,T3'.same sS,fv',sS _ _ hf3',RF'.mono sS.x⟩
    refine ⟨_,rfl,?_⟩
    cases hsu:sureB b (it0 b x ds n).ds x (it0 b x ds n).at_ with
    |false=>
     refine iteF ?_
     obtain ⟨s3,hB3,R3,D3,T3,fv,hf3,RF⟩:=W
     exact ⟨_,rfl,k pf fv n H3 s3 npf hf3 hall (fun q=>by rw[hsu] at q;exact absurd q.2 (by decide)) RF D3 hB3 T3⟩
    |true=>
     refine iteT ?_
     obtain ⟨s3,hB3,R3,D3,T3,fv,hf3,RF⟩:=id W
     refine ⟨_,rfl,_,rfl,_,rfl,_,rfl,z,v,b,q,(it0 b x ds n).ds,x,(it0 b x ds n).at_,rfl,hB3,hqz,R3,hok,D3,iok.bk,hlt,by omega,by omega,T3,fun p H4 s4 np hp D4 T4=>?_⟩
     obtain ⟨hf4,W5,hp5⟩:=zkE htok hb1 hbk hlt hqz hpfz hqf npf W hf3 RF s4 np hp D4 T4
     have hfl:fv.length=(it0 b x ds n).ss.length:=by have:=RF.length;simpa using this
     refine ⟨_,rfl,.inl ⟨rfl,_,SqL.of hf4⟩,_,rfl,pf,fv,_,rfl,rfl,hf4,by omega,?_⟩
     generalize upd H4 pf (.lst (fv++[.ref p]))=H5 at W5 hp5
     refine ⟨_,rfl,_,rfl,p,_,1,_,rfl,rfl,SqT.of hp5,zah (j:=1) rfl,_,_,rfl,rfl,?_⟩
     obtain ⟨p1,p2,p3,p4,p5,p6⟩:=za4 (ds:=(it0 b x ds n).ds) (x:=x) htok iok.bk hb1 hlt
     have eat:((it0 b x ds n).at_:Int)+(stepL b (it0 b x ds n).ds x (it0 b x ds n).at_ (bestL b (it0 b x ds n).ds x (it0 b x ds n).at_)).1.2.1=((it0 b x ds (n+1)).at_:Int):=by
      have e1:(it0 b x ds (n+1)).at_=(it0 b x ds n).at_+(stepL b (it0 b x ds n).ds x (it0 b x ds n).at_ (bestL b (it0 b x ds n).ds x (it0 b x ds n).at_)).1.2.1.toNat:=by
       show (runIt b x _ (n+1)).at_=_
       rw[zjd hlt]
      rw[e1]
      omega
     refine ⟨⟨n+1,some (.ref p),?_,fun j hj=>?_,W5⟩,?_⟩
     ·show [some v,some (.str x),some (.ref q),some (.ref pf),some (V.int (((it0 b x ds n).at_:Int)+(stepL b (it0 b x ds n).ds x (it0 b x ds n).at_ (bestL b (it0 b x ds n).ds x (it0 b x ds n).at_)).1.2.1)),some (.ref p)]=_
      rw[eat]
     ·rcases Nat.lt_succ_iff_lt_or_eq.mp hj with h|h
      ·exact hall j h
      ·rw[h];exact ⟨hlt,hsu⟩
     ·show x.length-(((it0 b x ds n).at_:Int)+(stepL b (it0 b x ds n).ds x (it0 b x ds n).at_ (bestL b (it0 b x ds n).ds x (it0 b x ds n).at_)).1.2.1).toNat<x.length-((it0 b x ds n).at_:Int).toNat
      omega
   ·have hge:¬(it0 b x ds n).at_<x.length:=fun q=>hlt (decide_eq_true (by omega))
    refine iteF ?_
    obtain ⟨s3,hB3,R3,D3,T3,fv,hf3,RF⟩:=W'
    exact ⟨_,rfl,k pf fv n H3' s3 npf hf3 hall (fun q=>hge q.1) RF D3 hB3 T3⟩
  ·rintro σ H3 Q1 Q2 hq ⟨v1,e1,v2,e2,x2,e3,h4,i1,i2,e5,e6,b1,e7,h⟩
   refine ⟨v1,e1,v2,e2,x2,e3,h4,i1,i2,e5,e6,b1,e7,?_⟩
   cases b1 with
   |false=>exact hq _ _ h
   |true=>
    obtain ⟨a1,g1,a2,g2,a3,g3,a4,g4,z',v',b',q',ds',x',j',g5,g6,g7,g8,g9,g10,g11,g12,g13⟩:=h
    refine ⟨a1,g1,a2,g2,a3,g3,a4,g4,z',v',b',q',ds',x',j',g5,g6,g7,g8,g9,g10,g11,g12,fun H' hs=>?_⟩
    obtain ⟨c,ec,h⟩:=g13 H' hs
    exact ⟨c,ec,hq _ _ h⟩
theorem zcE (a c:Str):(a++c).cps.toList=a.cps.toList++c.cps.toList:=by
 show (a.cps++c.cps).toList=_
 simp
theorem zfL (a c:Str):(a++c).length=a.length+c.length:=by rw[←zam,zcE,List.length_append,zam,zam]
theorem SamePd.poss {b:Bk}{ds ds':List LDr}(h:SamePd ds ds'):possL b ds=possL b ds':=by
 unfold possL lastL
 have e:∀l:List LDr,((l.drop (l.length-1)).map (fun d=>((d.2.2,none):Mk)))=((l.map (·.2)).drop (l.length-1)).map (fun d=>(d.2,none)):=fun l=>by
  rw[←List.map_drop,List.map_map]
  rfl
 rw[h.tongue,e ds,e ds',h,h.len]
theorem SamePd.sure {b:Bk}{ds ds':List LDr}(h:SamePd ds ds') (y:Str) (j:Nat):sureB b ds y j=sureB b ds' y j:=by
 unfold sureB
 rw[h.tongue,h.poss]
theorem zcF {y:Str}{j:Nat}(h:j≤y.length):(restS y j).cps.toList=y.cps.toList.drop j:=zcd y h
theorem zjh {b:Bk}{ds:List LDr}{y:Str}{j:Nat}(h:j≤y.length):sureB b ds y j=true↔(y.cps.toList.drop j≠(b.getD (zal ds).toNat tg0).1.cps.toList∧∀m∈someL b ds,¬((y.cps.toList.drop j).length<m.length∧y.cps.toList.drop j <+: m.cps.toList)):=by
 have hr:=zcF h
 unfold sureB
 simp only[Bool.and_eq_true,Bool.not_eq_true',decide_eq_false_iff_not]
 rw[List.any_eq_false]
 constructor
 ·rintro ⟨h1,h2⟩
  refine ⟨fun e=>h1 (zco (by rw[hr];exact e)),fun m hm q=>?_⟩
  obtain ⟨p,hp,rfl⟩:=zcC hm
  apply h2 p hp
  rw[Bool.and_eq_true]
  refine ⟨decide_eq_true (by rw[←zam,hr];exact q.1),?_⟩
  rw[zcc (Nat.zero_le _),zdE,hr,List.drop_zero]
  exact q.2
 ·rintro ⟨h1,h2⟩
  refine ⟨fun e=>h1 (by rw[←hr,e]),fun p hp q=>?_⟩
  rw[Bool.and_eq_true] at q
  refine h2 p.1 (zb2 hp) ⟨?_,?_⟩
  ·have:=of_decide_eq_true q.1
   rwa [←zam,hr] at this
  ·have:=q.2
   rw[zcc (Nat.zero_le _),zdE,hr,List.drop_zero] at this
   exact this
theorem zkF {b:Bk}(htok:∀t∈b,TgOk b.length t){tN:Nat}(h:tN<b.length):(b.getD tN tg0).1.length≤1:=by
 have tok:=htok _ (zaI tg0 h)
 have:=tok.1
 unfold escD at this
 simp at this
 exact this.1
theorem zd0 {b:Bk}{ds:List LDr}{y rs:Str}{pre:List Nat}{off j:Nat}(hy:y.cps.toList=pre++rs.cps.toList) (hoff:pre.length=off) (hj:j≤rs.length):sureB b ds y (off+j)=sureB b ds rs j:=by
 have hl:y.length=off+rs.length:=by rw[←zam,hy,List.length_append,hoff,zam]
 have e:restS y (off+j)=restS rs j:=zco (by rw[zcF (by omega),zcF hj,hy,←List.drop_drop,←hoff,List.drop_left])
 unfold sureB
 rw[e]
structure SureN (b:Bk) (x:Str) (n:Nat):Prop where
 all:∀j,j<n→(runF b x j).at_<x.length∧sureB b (runF b x j).ds x (runF b x j).at_=true
 stop:¬((runF b x n).at_<x.length∧sureB b (runF b x n).ds x (runF b x n).at_=true)
theorem mv0 (s:Stp):mvS ((0:Nat):Int) s=s:=by
 unfold mvS
 have:s.1+((0:Nat):Int)=s.1:=by omega
 rw[this]
theorem mv0s (ss:List Stp):ss.map (mvS ((0:Nat):Int))=ss:=by
 have:(mvS ((0:Nat):Int))=id:=funext mv0
 rw[this,List.map_id]
theorem zbH {b:Bk}{y y':Str}{more:List Nat}{n:Nat}(hy:y'.cps.toList=y.cps.toList++more) (h:∀j,j<n→(runF b y j).at_<y.length∧sureB b (runF b y j).ds y (runF b y j).at_=true):∀j,j≤n→(runF b y' j).at_=(runF b y j).at_∧SamePd (runF b y' j).ds (runF b y j).ds∧(runF b y' j).ss=(runF b y j).ss:=fun j hj=>by
 have R:=zcX (b:=b) (x:=y') (y:=y) (pre:=[]) (more:=more) (off:=0) (S0:=[]) (R:=⟨0,[],[]⟩) (r:=⟨0,[],[]⟩) (by rw[hy];rfl) rfl ⟨rfl,rfl,rfl⟩ j (fun i hi=>by rw[←zew];exact ⟨(h i (by omega)).1,.inr (h i (by omega)).2⟩)
 rw[←zew,←zew] at R
 exact ⟨by rw[R.at_,Nat.zero_add],R.pd,by rw[R.ss,mv0s];rfl⟩
abbrev st0:Stp:=(0,0,⟨#[]⟩,0,0)
theorem zkG {z:Addr}{H:Hp}{v:V}{d:Stp}(r:Rep z H v (stD d)):∃a,v=.ref a∧a≠z∧H a=some (.tup (stV d))∧d.2.2.1.length≤1000:=by
 cases r with
 |tup h hz r=>
  cases r with
  |cons r1 r=>
   cases r with
   |cons r2 r=>
    cases r with
    |cons r3 r=>
     cases r with
     |cons r4 r=>
      cases r with
      |cons r5 r=>
       cases r
       cases r1
       cases r2
       cases r4
       cases r5
       cases r3 with
       |str _ h3=>exact ⟨_,rfl,hz,h,h3⟩
theorem zkH {z:Addr}{H:Hp}{fv:List V}{ss:List Stp}{t:Nat}(R:Reps z H fv (ss.map stD)) (h:t<ss.length):Rep z H (fv.getD t .non) (stD (ss.getD t st0)):=by
 have:=R.get (i:=t) (by simp;omega)
 simpa [h] using this
theorem zls (s:Stp):NoL (stD s):=.tup (.cons (.int _) (.cons (.int _) (.cons (.str _) (.cons (.int _) (.cons (.int _) .nil)))))
theorem zh6 {z p:Addr}{H:Hp}{d:Stp}(h:H p=some (.tup (stV d))) (hz:p≠z) (hl:d.2.2.1.length≤1000):Rep z H (.ref p) (stD d):=.tup h hz (.cons (.int _) (.cons (.int _) (.cons (.str _ hl) (.cons (.int _) (.cons (.int _) .nil)))))
theorem zji {α:Type}(f:Stp→α) (ss:List Stp):(List.range ss.length).map (fun i=>f (ss.getD i st0))=ss.map f:=by
 refine List.ext_getElem (by simp) fun i h1 h2=>?_
 have h3:i<ss.length:=by simpa using h2
 simp[h3]
def zdf (b:Bk) (ds:List LDr) (x:Str) (i:Nat) (st:Stp) (ds':List LDr):Prop:=
 ((⟨#[x.cps.getD i 0]⟩:Str)=(b.getD (zal ds).toNat tg0).1∧ds'=ds∧((i+1=x.length∧st=((i:Int),1,Str.ofString "cut",zal ds,(ds.length:Int)))∨(i+1<x.length∧st=((i:Int),2,Str.ofString "escape",zal ds,(ds.length:Int))))) ∨
 ((⟨#[x.cps.getD i 0]⟩:Str)≠(b.getD (zal ds).toNat tg0).1∧fitL b ds x i=[]∧ds'=ds∧st=((i:Int),1,Str.ofString "sign",zal ds,(ds.length:Int))) ∨
 ((⟨#[x.cps.getD i 0]⟩:Str)≠(b.getD (zal ds).toNat tg0).1∧fitL b ds x i≠[]∧ds≠[]∧bestL b ds x i=(ds.getD (ds.length-1) ld0).2.2∧ds'=ds.dropLast∧st=((i:Int),((bestL b ds x i).length:Int),Str.ofString "close",zal ds.dropLast,(ds.length:Int)-1)) ∨
 ((⟨#[x.cps.getD i 0]⟩:Str)≠(b.getD (zal ds).toNat tg0).1∧fitL b ds x i≠[]∧∃d,(b.getD (zal ds).toNat tg0).2.filter (fun d=>d.1==bestL b ds x i)=[d]∧ds'=ds++[((i:Int),d.2.1,d.2.2)]∧st=((i:Int),((bestL b ds x i).length:Int),Str.ofString "open",zal ds,(ds.length:Int)))
theorem zd1 {m:Str}:∀ {ds:List Dr},(zaD ds).Nodup→m∈zaD ds→∃d,ds.filter (fun d=>d.1==m)=[d]
 |[],_,h=>nomatch h
 |d::r,nd,h=>by
  have nd':=List.nodup_cons.mp (show (d.1::zaD r).Nodup from nd)
  by_cases e:d.1=m
  ·refine ⟨d,?_⟩
   rw[List.filter_cons_of_pos (by rw[e];exact beq_self_eq_true _)]
   congr 1
   rw[List.filter_eq_nil_iff]
   intro c hc q
   have:c.1=m:=by simpa using q
   apply nd'.1
   rw[e,←this]
   exact List.mem_map_of_mem hc
  ·have hm:m∈zaD r:=by
    rcases List.mem_cons.mp (show m∈d.1::zaD r from h) with h|h
    ·exact absurd h.symm e
    ·exact h
   obtain ⟨c,hc⟩:=zd1 nd'.2 hm
   exact ⟨c,by rw[List.filter_cons_of_neg (by simpa using e)];exact hc⟩
theorem zh7 {b:Bk}{ds:List LDr}{x:Str}{i:Nat}(hb:BkOk b) (hd:LdBk b ds) (hi:i<x.length):zdf b ds x i (stepL b ds x i (bestL b ds x i)).1 (stepL b ds x i (bestL b ds x i)).2:=by
 obtain ⟨hb1,hb6,htok,hbB⟩:=id hb
 have hok:=hd.ok htok
 obtain ⟨tN,htN,htl⟩:=za8 hok hb1
 have htoN:(zal ds).toNat=tN:=by rw[htN];rfl
 have hsm:=zcW (x:=x) (i:=i) htok hok
 have nodup:(zaD (b.getD tN tg0).2).Nodup:=by
  unfold bookB at hbB
  simp only[Bool.and_eq_true,Bool.not_eq_true'] at hbB
  exact of_decide_eq_true (List.all_eq_true.mp hbB.1.1 _ (zaI tg0 htl))
 unfold zdf
 rw[htoN]
 unfold stepL
 rw[htoN]
 by_cases hc:(⟨#[x.cps.getD i 0]⟩:Str)=(b.getD tN tg0).1
 ·have hne:(b.getD tN tg0).1≠Str.ofString "":=by
   rw[←hc,za3]
   intro q
   have:=congrArg Str.length q
   have:(1:Nat)=0:=this
   omega
  rw[if_pos ⟨hne,hc⟩]
  refine .inl ⟨hc,?_,?_⟩
  ·split<;>rfl
  ·by_cases h1:i+1=x.length
   ·rw[if_pos h1]
    exact .inl ⟨h1,rfl⟩
   ·rw[if_neg h1]
    exact .inr ⟨by omega,rfl⟩
 ·rw[if_neg (fun q=>hc q.2)]
  refine .inr ?_
  rcases zbG (l:=fitL b ds x i) (fun m hm=>hsm m (List.mem_filter.mp hm).1) with ⟨h1,h2⟩|⟨h1,h2⟩
  ·have e:bestL b ds x i=Str.ofString "":=by rw[za3];exact h2
   rw[if_pos e]
   exact .inl ⟨hc,h1,rfl,rfl⟩
  ·have hfne:fitL b ds x i≠[]:=fun q=>by rw[q] at h1;cases h1
   have hm1:bestL b ds x i∈someL b ds:=(List.mem_filter.mp h1).1
   have hml:=(hsm _ hm1).1
   have hne:bestL b ds x i≠Str.ofString "":=fun e=>by
    rw[e,za3] at hml
    have:(1:Nat)≤0:=hml
    omega
   rw[if_neg hne]
   by_cases h3:ds≠[]∧bestL b ds x i=(ds.getD (ds.length-1) ld0).2.2
   ·rw[if_pos h3]
    exact .inr (.inl ⟨hc,hfne,h3.1,h3.2,rfl,rfl⟩)
   ·rw[if_neg h3]
    have hop:bestL b ds x i∈zaD (b.getD tN tg0).2:=by
     unfold someL at hm1
     rw[htoN] at hm1
     rcases List.mem_append.mp hm1 with hm1|hm1
     ·exact hm1
     ·exfalso
      obtain ⟨d,hd',e⟩:=List.mem_map.mp hm1
      apply h3
      have hpos:ds≠[]:=fun q=>by
       rw[q] at hd'
       cases hd'
      refine ⟨hpos,?_⟩
      have hlen:0<ds.length:=List.length_pos_iff.mpr hpos
      have:lastL ds=[ds.getD (ds.length-1) ld0]:=by
       unfold lastL
       rw[List.drop_eq_getElem_cons (by omega),List.drop_eq_nil_of_le (by omega),List.getD_eq_getElem?_getD,List.getElem?_eq_getElem (by omega)]
       rfl
      rw[this] at hd'
      rw[←e,List.mem_singleton.mp hd']
    obtain ⟨d,hd1⟩:=zd1 nodup hop
    rw[hd1]
    exact .inr (.inr ⟨hc,hfne,d,rfl,rfl,rfl⟩)
theorem zh8 {fv:List V}{m:Nat}{a:V}(h:fv.length=m+1) (e:fv.getD m .non=a):atI fv (-1)=some a:=by
 have e1:ixN fv.length (-1)=some (fv.length-1):=by
  unfold ixN
  rw[if_neg (by decide),if_pos (by omega)]
  congr 1
  omega
 unfold atI
 rw[e1]
 show fv[fv.length-1]?=_
 have e2:fv.length-1=m:=by omega
 rw[e2,←e,List.getD_eq_getElem?_getD]
 have:m<fv.length:=by omega
 rw[List.getElem?_eq_getElem this]
 rfl
abbrev zh9:Stmt:=za0 zca 0
abbrev zey:Stmt:=za0 zca 1
abbrev zfM:Stmt:=za0 zca 2
abbrev zez:Stmt:=za0 zca 3
abbrev Rws:=Nat×Int×Str
inductive Stands (tab:List Rws):Nat→List (Int×Str)→Prop where
 |zero:Stands tab 0 []
 |suc {k:Nat} {r:Rws} {ds:List (Int×Str)} (h:tab[k]?=some r) (hk:r.1≤k) (t:Stands tab r.1 ds):Stands tab (k+1) (ds++[r.2])
theorem Stands.mono {tab:List Rws}{k:Nat}{ds:List (Int×Str)}(h:Stands tab k ds) (more:List Rws):Stands (tab++more) k ds:=by
 induction h with
 |zero=>exact .zero
 |suc h hk _ ih=>exact .suc (by rw[List.getElem?_append_left (List.getElem?_eq_some_iff.mp h).1];exact h) hk ih
theorem Stands.inj {tab:List Rws}{k:Nat}{ds es:List (Int×Str)}(h:Stands tab k ds) (g:Stands tab k es):ds=es:=by
 induction h generalizing es with
 |zero=>cases g;rfl
 |suc h hk _ ih=>
  cases g with
  |suc h' _ t'=>
   rw[h] at h'
   cases h'
   rw[ih t']
theorem Stands.le {tab:List Rws}{k:Nat}{ds:List (Int×Str)}(h:Stands tab k ds):k≤tab.length:=by
 cases h with
 |zero=>exact Nat.zero_le _
 |suc h _ _=>exact (List.getElem?_eq_some_iff.mp h).1
theorem Stands.nil {tab:List Rws}{k:Nat}(h:Stands tab k []):k=0:=by
 generalize e:([]:List (Int×Str))=ds at h
 cases h with
 |zero=>rfl
 |suc _ _ _=>simp at e
theorem Stands.uniq {tab:List Rws}(nod:tab.Nodup){k:Nat}{ds:List (Int×Str)}(h:Stands tab k ds):∀ {k':Nat},Stands tab k' ds→k=k':=by
 induction h with
 |zero=>exact fun g=>g.nil.symm
 |suc h hk _ ih=>
  intro k' g
  generalize e:_++[_]=es at g
  cases g with
  |zero=>simp at e
  |suc h' hk' t'=>
   obtain ⟨e1,e2⟩:=List.append_inj' e rfl
   rw[←e1] at t'
   have e3:=ih t'
   injection e2 with e2
   have er:=Prod.ext e3 e2
   rw[←er] at h'
   have:=(List.getElem?_inj (List.getElem?_eq_some_iff.mp h).1 nod).mp (h.trans h'.symm)
   omega
def pdP (d:Int×Str):D:=.tup [.int d.1,.str d.2]
def rowD (r:Rws):D:=.tup [.int r.1,pdP r.2]
theorem zfN (d:Int×Str):NoL (pdP d):=.tup (.cons (.int _) (.cons (.str _) .nil))
theorem zeA:∀tab:List Rws,NoLs (tab.map rowD)
 |[]=>.nil
 |r::t=>.cons (.tup (.cons (.int _) (.cons (zfN _) .nil))) (zeA t)
theorem zdg:∀ds:List (Int×Str),NoLs (ds.map pdP)
 |[]=>.nil
 |r::t=>.cons (zfN r) (zdg t)
def skey (r:Rws):List NKey:=[.inl (.inl r.1),.inr [.inl r.2.1,.inr r.2.2]]
theorem zjj {r s:Rws}(h:skey r=skey s):r=s:=by
 obtain ⟨a,b,c⟩:=r
 obtain ⟨a',b',c'⟩:=s
 unfold skey at h
 simp only[List.cons.injEq,Sum.inl.injEq,Sum.inr.injEq,and_true] at h
 obtain ⟨h1,h2,h3⟩:=h
 have h1:a=a':=by omega
 subst h1
 subst h2
 subst h3
 rfl
abbrev shS:List Bool:=[true,false]
def kvsN:Nat→List Rws→List Addr→List NEnt
 |n,r::tab,a::as=>(skey r,a,.int ((n+1:Nat):Int))::kvsN (n+1) tab as
 |_,[],_=>[]
 |_,_::_,[]=>[]
theorem zeB (r:Rws) (a:Addr):∀(n:Nat) (tab:List Rws) (as:List Addr),tab.length=as.length→kvsN n (tab++[r]) (as++[a])=kvsN n tab as++[(skey r,a,.int ((n+tab.length+1:Nat):Int))]
 |n,[],[],_=>rfl
 |n,s::tab,b::as,h=>by
  show _::kvsN (n+1) (tab++[r]) (as++[a])=_::(kvsN (n+1) tab as++_)
  rw[zeB r a (n+1) tab as (by simpa using h)]
  have e:n+1+tab.length+1=n+(s::tab).length+1:=by rw[List.length_cons];omega
  rw[e]
 |n,[],_::_,h=>by simp at h
 |n,_::_,[],h=>by simp at h
theorem zia:∀(n:Nat) (tab:List Rws) (as:List Addr),(kvsN n tab as).length≤tab.length
 |n,[],_=>Nat.le_refl _
 |n,_::_,[]=>Nat.zero_le _
 |n,r::tab,a::as=>by
  have:=zia (n+1) tab as
  show (kvsN (n+1) tab as).length+1≤tab.length+1
  omega
theorem zb3 (p:NEnt) (l:List NEnt) (k:List NKey):nval (p::l) k=if p.1=k then some p.2.2 else nval l k:=by
 unfold nval
 by_cases e:p.1=k
 ·rw[if_pos e,List.find?_cons_of_pos (by simpa using e)]
  rfl
 ·rw[if_neg e,List.find?_cons_of_neg (by simpa using e)]
theorem zfs {r:Rws}{v:V}:∀(n:Nat) (tab:List Rws) (as:List Addr),nval (kvsN n tab as) (skey r)=some v→∃j:Nat,tab[j]?=some r∧v=.int ((n+j+1:Nat):Int)
 |n,[],_,h=>by simp[kvsN,nval] at h
 |n,_::_,[],h=>by simp[kvsN,nval] at h
 |n,s::tab,a::as,h=>by
  have h:nval ((skey s,a,.int ((n+1:Nat):Int))::kvsN (n+1) tab as) (skey r)=some v:=h
  rw[zb3] at h
  by_cases e:skey s=skey r
  ·rw[if_pos e] at h
   exact ⟨0,by rw[zjj e];rfl,(Option.some.inj h).symm⟩
  ·rw[if_neg e] at h
   obtain ⟨j,h1,h2⟩:=zfs (n+1) tab as h
   exact ⟨j+1,h1,by rw[h2];congr 2;omega⟩
theorem zft {r:Rws}:∀(n:Nat) (tab:List Rws) (as:List Addr),tab.length=as.length→nval (kvsN n tab as) (skey r)=none→¬r∈tab
 |n,[],_,_,_=>by simp
 |n,_::_,[],h,_=>by simp at h
 |n,s::tab,a::as,hl,h=>by
  have h:nval ((skey s,a,.int ((n+1:Nat):Int))::kvsN (n+1) tab as) (skey r)=none:=h
  rw[zb3] at h
  by_cases e:skey s=skey r
  ·rw[if_pos e] at h;cases h
  ·rw[if_neg e] at h
   have:=zft (n+1) tab as (by simpa using hl) h
   intro q
   rcases List.mem_cons.mp q with q|q
   ·exact e (by rw[q])
   ·exact this q
theorem zjk {k:List NKey}{p:NEnt}(l:List NEnt) (h:nval l k=none) (e:p.1=k):nval (l++[p]) k=some p.2.2:=by
 induction l with
 |nil=>rw[List.nil_append,zb3,if_pos e]
 |cons q l ih=>
  rw[zb3] at h
  by_cases g:q.1=k
  ·rw[if_pos g] at h;cases h
  ·rw[if_neg g] at h
   rw[List.cons_append,zb3,if_neg g]
   exact ih h
theorem zfO {z:Addr}{H:Hp}{v:V}{r:Rws}(h:Rep z H v (rowD r)):∃a d,v=.ref a∧a≠z∧d≠z∧H a=some (.tup [.int r.1,.ref d])∧H d=some (.tup [.int r.2.1,.str r.2.2])∧r.2.2.length≤1000:=by
 have h:Rep z H v (.tup [.int r.1,.tup [.int r.2.1,.str r.2.2]]):=h
 cases h with
 |tup h hz r1=>
  cases r1 with
  |cons r1 r2=>
   cases r2 with
   |cons r2 r3=>
    cases r3
    cases r1
    cases r2 with
    |tup h2 hz2 r4=>
     cases r4 with
     |cons r4 r5=>
      cases r5 with
      |cons r5 r6=>
       cases r6
       cases r4
       cases r5 with
       |str _ hl=>exact ⟨_,_,rfl,hz,hz2,h,h2,hl⟩
theorem zfP {z a:Addr}{H:Hp}{r:Rws}(h:Rep z H (.ref a) (rowD r)):zdw H (skey r) a:=by
 obtain ⟨a',d,e,_,_,h1,h2,_⟩:=zfO h
 cases e
 exact ⟨_,h1,.cons rfl (.cons ⟨d,rfl,h2⟩ .nil)⟩
theorem zdG {z:Addr}{H:Hp}:∀(n:Nat) (tab:List Rws) (as:List Addr),Reps z H (as.map V.ref) (tab.map rowD)→zfb H shS (kvsN n tab as)
 |n,[],_,_=>fun p hp=>nomatch hp
 |n,_::_,[],_=>fun p hp=>nomatch hp
 |n,r::tab,a::as,h=>fun p hp=>by
  cases h with
  |cons h1 h2=>
   rcases List.mem_cons.mp (show p∈(skey r,a,V.int ((n+1:Nat):Int))::kvsN (n+1) tab as from hp) with e|hp
   ·rw[e];exact ⟨zfP h1,rfl⟩
   ·exact zdG (n+1) tab as h2 p hp
theorem zbh (f g:Str) (v:V) (r:List (Str×V)):((g,v)::r).lookup f=if f=g then some v else r.lookup f:=by
 rw[List.lookup_cons]
 by_cases h:f=g
 ·have hb:(f==g)=true:=beq_iff_eq.mpr h
  rw[hb,if_pos h]
 ·have hb:(f==g)=false:=beq_eq_false_iff_ne.mpr h
  rw[hb,if_neg h]
def stF (pr pn:Addr):List (Str×V):=[("rows",.ref pr),("numbers",.ref pn)]
theorem q1:¬(("rows":Str)="numbers"):=by decide +kernel
theorem zeC (pr pn:Addr):(stF pr pn).lookup ("rows":Str)=some (.ref pr):=by unfold stF;rw[zbh,if_pos rfl]
theorem zeD (pr pn:Addr):(stF pr pn).lookup ("numbers":Str)=some (.ref pn):=by unfold stF;rw[zbh,if_neg (Ne.symm q1),zbh,if_pos rfl]
structure StdS (P:Program) (w:World) (z CS:Addr) (H:Hp) (so dxs pr pn:Addr) (tab:List Rws):Prop where
 ins:H so=some (.ins CS dxs (stF pr pn))
 ex:∃as:List Addr,H pr=some (.lst (.non::as.map V.ref))∧Reps z H (as.map V.ref) (tab.map rowD)∧H pn=some (dN P w shS pn (kvsN 0 tab as))
 prz:pr≠z
 wf:∀(j:Nat) (r:Rws),tab[j]?=some r→r.1≤j
 nod:tab.Nodup
theorem zlG {P:Program}{w:World}{H:Hp}{a b:Addr}{l:List V}{kvs:List NEnt}(h:H a=some (.lst l)) (g:H b=some (dN P w shS b kvs)):a≠b:=zan h g (by intro q;cases q)
theorem StdS.keep {P:Program}{w:World}{z CS:Addr}{H H':Hp}{so dxs pr pn:Addr}{tab:List Rws}(h:StdS P w z CS H so dxs pr pn tab){S:Addr→Prop}(k:KeepE S H H') (n:NoTup S H) (h1:¬S so) (h2:¬S pr) (h3:¬S pn):StdS P w z CS H' so dxs pr pn tab:=by
 obtain ⟨as,e1,e2,e3⟩:=h.ex
 exact ⟨k _ _ h1 h.ins,⟨as,k _ _ h2 e1,Reps.keep k n e2 (zeA _),k _ _ h3 e3⟩,h.prz,h.wf,h.nod⟩
theorem StdS.same {P:Program}{w:World}{z CS:Addr}{H H':Hp}{so dxs pr pn:Addr}{tab:List Rws}(h:StdS P w z CS H so dxs pr pn tab) (s:Same H H'):StdS P w z CS H' so dxs pr pn tab:=
 h.keep (S:=fun _=>False) (fun b o _ e=>s b o e) (fun _ _ q=>q.elim) id id id
structure TxtS (K:W.Frag) (mg:Str→Option Value) (C:Addr):Prop where
 cl:Cls K C
 nR:NoAttr K C "rows"
 nN:NoAttr K C "numbers"
theorem sm1:∀m∈([("__init__":Str),"within","around","doors_by"]:List Str),¬m="rows"∧¬m="numbers":=by decide +kernel
theorem zeE {pr pn:Addr}{m:Str}(h:m∈([("__init__":Str),"within","around","doors_by"]:List Str)):(stF pr pn).lookup m=none:=by
 obtain ⟨h1,h2⟩:=sm1 m h
 unfold stF
 rw[zbh,if_neg h1,zbh,if_neg h2]
 rfl
inductive zeF (P:Program) (w:World) (CS:Addr):List V→Hp→VK→XK→Prop where
 |mk {vs:List V} {H:Hp} {Q:VK} {E:XK} (r dx:Addr) (c1:vs=[.ref r]) (c2:H r=some (.ins CS dx [])) (c3:∀pr pn H',H pr=none→H pn=none→pr≠pn→SameX r H H'→H' r=some (.ins CS dx (stF pr pn))→H' pr=some (.lst [.non])→H' pn=some (dN P w shS pn [])→Q .non H'):zeF P w CS vs H Q E
inductive zcG (P:Program) (w:World) (CS:Addr):List V→Hp→VK→XK→Prop where
 |mk {vs:List V} {H:Hp} {Q:VK} {E:XK} (z so dxs pr pn dd:Addr) (tab:List Rws) (o:Nat) (d:Int×Str) (c1:vs=[.ref so,.int o,.ref dd]) (c2:Bag z H) (c3:StdS P w z CS H so dxs pr pn tab) (c4:dd≠z) (c5:H dd=some (.tup [.int d.1,.str d.2])) (c6:d.2.length≤1000) (c7:o≤tab.length) (c8:tab.length<8000000)
   (c9:∀k tab' H',(tab'=tab∨tab'=tab++[(o,d)])→tab'[k]?=some (o,d)→o≤k→KeepE (fun b=>b=pr∨b=pn) H H'→StdS P w z CS H' so dxs pr pn tab'→Q (.int ((k+1:Nat):Int)) H'):zcG P w CS vs H Q E
inductive zdh (P:Program) (w:World) (CS:Addr):List V→Hp→VK→XK→Prop where
 |mk {vs:List V} {H:Hp} {Q:VK} {E:XK} (z so dxs pr pn:Addr) (tab:List Rws) (k:Nat) (r:Rws) (c1:vs=[.ref so,.int ((k+1:Nat):Int)]) (c2:StdS P w z CS H so dxs pr pn tab) (c3:tab[k]?=some r) (c4:Q (.int r.1) H):zdh P w CS vs H Q E
inductive zb4 (P:Program) (w:World) (CS:Addr):List V→Hp→VK→XK→Prop where
 |mk {vs:List V} {H:Hp} {Q:VK} {E:XK} (z so dxs pr pn:Addr) (tab:List Rws) (k:Nat) (ds:List (Int×Str)) (c1:vs=[.ref so,.int k]) (c2:Bag z H) (c3:StdS P w z CS H so dxs pr pn tab) (c4:Stands tab k ds) (c5:ds.length≤20000)
   (c6:∀p dv H',Same H H'→H p=none→H' p=some (.lst dv)→Reps z H' dv (ds.map pdP)→Q (.ref p) H'):zb4 P w CS vs H Q E
theorem zjV {as:List Addr}{j:Nat}{a:Addr}(h:as[j]?=some a):(V.non::as.map V.ref)[j+1]?=some (.ref a):=by
 rw[List.getElem?_cons_succ,List.getElem?_map,h]
 rfl
theorem zeG {z:Addr}{H:Hp}{as:List Addr}{tab:List Rws}{j:Nat}{r:Rws}(R:Reps z H (as.map V.ref) (tab.map rowD)) (h:tab[j]?=some r):∃a,as[j]?=some a∧Rep z H (.ref a) (rowD r):=by
 have hj:=(List.getElem?_eq_some_iff.mp h).1
 have hl:=R.length
 rw[List.length_map,List.length_map] at hl
 have g:=R.get (i:=j) (by simpa using hj)
 have ha:j<as.length:=by omega
 refine ⟨as[j],List.getElem?_eq_getElem ha,?_⟩
 have e1:(as.map V.ref).getD j .non=.ref as[j]:=by simp[ha]
 have e2:(tab.map rowD).getD j .non=rowD r:=by
  rw[List.getD_eq_getElem?_getD,List.getElem?_map,h]
  rfl
 rw[e1,e2] at g
 exact g
theorem zkI:zav ["self"] ["self"] (zag zh9):=⟨rfl,rfl,rfl,by decide +kernel,rfl,by decide +kernel,by decide +kernel⟩
theorem zjl {f C:Addr}{fd:FuncData}(F:Fun K "__init__" "Standings.__init__" zh9 f fd) (T3:TxtS K mg C):FnOk P w K mg base CX0 1 f fd ["self"] (zeF P w C):=by
 refine F.ok zkI (fun vs H Q E h=>?_) (fun cdv A outer s H vs Q E hr h=>?_)
 ·obtain ⟨r,dx,rfl,_⟩:=h
  rfl
 ·obtain ⟨r,dx,rfl,hr0,k⟩:=h
  refine ⟨_,zac (zbT (pv 0) (zaF (pa_K zdM zae)) rfl) (zai (zbT (pv 0) (ziX shS) rfl)),?_⟩
  dsimp only[cxOf,Cx.nox,Cx.wish]
  have big:=za6
  refine ⟨by show (1:Nat)≤_;omega,fun pr npr=>?_⟩
  have hrp:r≠pr:=zad hr0 npr
  refine ⟨_,rfl,r,C,dx,_,rfl,by rw[zaj hrp];exact hr0,T3.cl,T3.nR,by show (0:Nat)<1000;decide,?_⟩
  intro pn npn
  have npn1:upd H pr (.lst [.non]) pn=none:=by
   by_cases q:pn=r
   ·rw[q,zab] at npn;cases npn
   ·rwa [zaj q] at npn
  have hnr:pn≠r:=fun q=>by rw[q,zaj hrp,hr0] at npn1;cases npn1
  have hnp:pn≠pr:=fun q=>by rw[q,zab] at npn1;cases npn1
  have npn0:H pn=none:=by rwa [zaj hnp] at npn1
  refine ⟨_,rfl,r,C,dx,_,rfl,by rw[zaj hnr.symm,zab],T3.cl,T3.nN,by show (1:Nat)<1000;decide,?_⟩
  refine k pr pn _ npr npn0 hnp.symm (fun b o hb e=>?_) ?_ ?_ ?_
  ·rw[zaj hb,zaj (zad e npn0),zaj hb,zaj (zad e npr)]
   exact e
  ·rw[zab]
   show some (HO.ins C dx (if ("rows":Str)="numbers" then _ else _::[(("numbers":Str),V.ref pn)]))=_
   rw[if_neg q1]
   rfl
  ·rw[zaj hrp.symm,zaj hnp.symm,zaj hrp.symm,zab]
  ·rw[zaj hnr,zab]
theorem scWithinS:zav ["self","number","door","row"] ["self","number","door"] (zag zey):=⟨rfl,rfl,rfl,by decide +kernel,rfl,by decide +kernel,by decide +kernel⟩
theorem zgO {f C:Addr}{fd:FuncData}(F:Fun K "within" "Standings.within" zey f fd) (T:TxtB mg) (T3:TxtS K mg C):FnOk P w K mg base CX0 1 f fd ["self","number","door"] (zcG P w C):=by
 refine F.ok scWithinS (fun vs H Q E h=>?_) (fun cdv A outer s H vs Q E hr h=>?_)
 ·obtain ⟨z,so,dxs,pr,pn,dd,tab,o,d,rfl,_⟩:=h
  rfl
 ·obtain ⟨z,so,dxs,pr,pn,dd,tab,o,d,rfl,hB,hS,hdz,hd,hdl,ho,hlen,k⟩:=h
  have nd:=scWithinS.nd
  have hu:(A.deeper (PyProof.Rows.envOfC "Standings.within" (zag zey) s.heap.objs.size f cdv)).units+6<cLine:=by have:=hr.un;omega
  refine ⟨_,zac (zap (i:=3) nd rfl (Or.inl rfl) (za2 (zaa (pv 1) (zaa (pv 2) zae))))
   (zac (zaW (zk0 (zht hu shS (pv 3) (zaH (pv 0) rfl)))
    (zac (zbq (zaq zaC (by rfl) T.len b_len (zaa (zaH (pv 0) rfl) zae)) (zfW (zaH (pv 0) rfl) (pv 3) (zlC hu shS)))
    (zai (zaO (zbU PySem.F.plainAttrs_list PySem.F.slot_list_append PySem.F.type_list_append zaK (zaH (pv 0) rfl) (zaa (pv 3) zae))))) zaA)
   (zai (zax (zlh hu shS (zaH (pv 0) rfl) (pv 3) (fun _ _=>rfl))))),?_⟩
  dsimp only[cxOf,Cx.nox,Cx.wish]
  have big:=za6
  have big2:(8000002:Nat)≤sizeLine:=by rw[sizeLine_eq];decide
  refine ⟨_,rfl,_,rfl,by show (2:Nat)≤_;omega,fun pt npt=>?_⟩
  have s1:=Same.new (o:=.tup [.int o,.ref dd]) npt
  have hpt:upd H pt (.tup [.int o,.ref dd]) pt=some (.tup [.int o,.ref dd]):=zab
  have hptz:pt≠z:=hB.ne npt
  have hS1:=hS.same s1
  have hd1:=s1 _ _ hd
  generalize upd H pt (.tup [.int o,.ref dd])=H1 at s1 hpt hS1 hd1
  obtain ⟨as,hr1,RR,hn1⟩:=hS1.ex
  have hal:as.length=tab.length:=by have:=RR.length;simpa using this
  have kk:=zdG 0 tab as RR
  have hrow:Rep z H1 (.ref pt) (rowD (o,d)):=.tup hpt hptz (.cons (.int _) (.cons (.tup hd1 hdz (.cons (.int _) (.cons (.str _ hdl) .nil))) .nil))
  have hkey:=zfP hrow
  refine ⟨_,rfl,_,rfl,so,C,dxs,_,_,rfl,hS1.ins,T3.cl,T3.nN,zeD pr pn,pt,pn,skey (o,d),_,rfl,rfl,hn1,kk,hkey,rfl,_,rfl,?_⟩
  cases hv:nval (kvsN 0 tab as) (skey (o,d)) with
  |some v=>
   refine iteF ?_
   obtain ⟨j,h1,h2⟩:=zfs 0 tab as hv
   refine ⟨_,rfl,so,C,dxs,_,_,rfl,hS1.ins,T3.cl,T3.nN,zeD pr pn,_,rfl,pn,pt,skey (o,d),_,v,rfl,rfl,hn1,kk,hkey,rfl,hv,?_⟩
   rw[h2,Nat.zero_add]
   exact k j tab H1 (.inl rfl) h1 (hS.wf _ _ h1) (fun b o _ e=>s1 b o e) hS1
  |none=>
   refine iteT ?_
   refine ⟨_,rfl,so,C,dxs,_,_,rfl,hS1.ins,T3.cl,T3.nR,zeC pr pn,pr,_,rfl,.inl (SqL.of hr1),_,rfl,so,C,dxs,_,_,rfl,hS1.ins,T3.cl,T3.nN,zeD pr pn,_,rfl,pn,pt,skey (o,d),_,rfl,rfl,hn1,kk,hkey,rfl,hv,?_,?_⟩
   ·have:=zia 0 tab as
    omega
   have hprn:pr≠pn:=zlG hr1 hn1
   have hson:so≠pn:=zan hS1.ins hn1 (by intro q;cases q)
   have hsor:so≠pr:=zan hS1.ins hr1 (by intro q;cases q)
   have elen:((V.non::as.map V.ref).length:Int)=((0+tab.length+1:Nat):Int):=by rw[List.length_cons,List.length_map,hal];omega
   rw[elen,←zeB (o,d) pt 0 tab as hal.symm]
   refine ⟨_,rfl,so,C,dxs,_,_,rfl,by rw[zaj hson];exact hS1.ins,T3.cl,T3.nR,zeC pr pn,.inl ⟨rfl,_,SqL.of (by rw[zaj hprn];exact hr1)⟩,_,rfl,pr,_,_,rfl,rfl,by rw[zaj hprn];exact hr1,by rw[List.length_cons,List.length_map];omega,?_⟩
   have k2:KeepE (fun b=>b=pr∨b=pn) H1 (upd (upd H1 pn (dN P w shS pn (kvsN 0 (tab++[(o,d)]) (as++[pt])))) pr (.lst ((V.non::as.map V.ref)++[.ref pt]))):=fun b u n e=>by
    rw[zaj (fun q=>n (.inl q)),zaj (fun q=>n (.inr q))]
    exact e
   have nt:NoTup (fun b=>b=pr∨b=pn) H1:=fun b xs q e=>by
    rcases q with q|q
    ·rw[q,hr1] at e;cases e
    ·rw[q,hn1] at e;cases e
   have hin:=k2 so _ (fun q=>q.elim hsor hson) hS1.ins
   have hRn:Reps z (upd (upd H1 pn (dN P w shS pn (kvsN 0 (tab++[(o,d)]) (as++[pt])))) pr (.lst ((V.non::as.map V.ref)++[.ref pt]))) ((as++[pt]).map V.ref) ((tab++[(o,d)]).map rowD):=by
    rw[List.map_append,List.map_append]
    exact (Reps.keep k2 nt RR (zeA _)).append (.cons (Rep.keep k2 nt hrow (.tup (.cons (.int _) (.cons (zfN _) .nil)))) .nil)
   have hrn:upd (upd H1 pn (dN P w shS pn (kvsN 0 (tab++[(o,d)]) (as++[pt])))) pr (.lst ((V.non::as.map V.ref)++[.ref pt])) pr=some (.lst (.non::(as++[pt]).map V.ref)):=by
    rw[zab,List.map_append]
    rfl
   have hnn:upd (upd H1 pn (dN P w shS pn (kvsN 0 (tab++[(o,d)]) (as++[pt])))) pr (.lst ((V.non::as.map V.ref)++[.ref pt])) pn=some (dN P w shS pn (kvsN 0 (tab++[(o,d)]) (as++[pt]))):=by rw[zaj hprn.symm,zab]
   generalize upd (upd H1 pn (dN P w shS pn (kvsN 0 (tab++[(o,d)]) (as++[pt])))) pr (.lst ((V.non::as.map V.ref)++[.ref pt]))=H2 at k2 hin hRn hrn hnn
   have hv2:nval (kvsN 0 (tab++[(o,d)]) (as++[pt])) (skey (o,d))=some (.int ((0+tab.length+1:Nat):Int)):=by
    rw[zeB (o,d) pt 0 tab as hal.symm]
    exact zjk _ hv rfl
   have hget:(tab++[(o,d)])[tab.length]?=some (o,d):=by rw[List.getElem?_append_right (Nat.le_refl _),Nat.sub_self];rfl
   obtain ⟨a',ha',Ra'⟩:=zeG hRn hget
   have epa:a'=pt:=by
    rw[←hal,List.getElem?_append_right (Nat.le_refl _),Nat.sub_self] at ha'
    exact (Option.some.inj ha').symm
   subst epa
   refine ⟨_,rfl,so,C,dxs,_,_,rfl,hin,T3.cl,T3.nN,zeD pr pn,_,rfl,pn,a',skey (o,d),_,_,rfl,rfl,hnn,zdG 0 _ _ hRn,zfP Ra',rfl,hv2,?_⟩
   have e2:0+tab.length+1=tab.length+1:=by omega
   rw[e2]
   exact k tab.length (tab++[(o,d)]) H2 (.inr rfl) hget ho (fun b u n e=>k2 b u n (s1 b u e)) ⟨hin,⟨as++[a'],hrn,hRn,hnn⟩,hS.prz,fun j r h=>by
    by_cases hj:j<tab.length
    ·rw[List.getElem?_append_left hj] at h
     exact hS.wf j r h
    ·rw[List.getElem?_append_right (by omega)] at h
     have e0:j-tab.length=0:=by
      have:=(List.getElem?_eq_some_iff.mp h).1
      simp at this
      omega
     rw[e0] at h
     have:r=(o,d):=(Option.some.inj h).symm
     rw[this]
     show o≤j
     omega,List.nodup_append.mpr ⟨hS.nod,by simp,fun u hu u' hu' e=>zft 0 tab as hal.symm hv (by rw[List.mem_singleton.mp hu'] at e;rw[←e];exact hu)⟩⟩
theorem Reps.reverse {z:Addr}{H:Hp}:∀ {vs:List V}{ds:List D},Reps z H vs ds→Reps z H vs.reverse ds.reverse
 |_,_,.nil=>.nil
 |_,_,.cons h t=>by
  rw[List.reverse_cons,List.reverse_cons]
  exact (Reps.reverse t).append (.cons h .nil)
theorem scAround:zav ["self","number","outer","door"] ["self","number"] (zag zfM):=⟨rfl,rfl,rfl,by decide +kernel,rfl,by decide +kernel,by decide +kernel⟩
theorem zib {f C:Addr}{fd:FuncData}(F:Fun K "around" "Standings.around" zfM f fd) (T3:TxtS K mg C):FnOk P w K mg base CX0 1 f fd ["self","number"] (zdh P w C):=by
 refine F.ok scAround (fun vs H Q E h=>?_) (fun cdv A outer s H vs Q E hr h=>?_)
 ·obtain ⟨z,so,dxs,pr,pn,tab,k,r,rfl,_⟩:=h
  rfl
 ·obtain ⟨z,so,dxs,pr,pn,tab,k,r,rfl,hS,hk,q⟩:=h
  have nd:=scAround.nd
  refine ⟨_,zac (zbq (zau ix_list (zaH (pv 0) rfl) (pv 1) (fun _ _=>rfl)) (zbu rfl (zat (zao (i:=2) nd rfl (Or.inl rfl)) (zat (zao (i:=3) nd rfl (Or.inl rfl)) za1)))) (zai (zax (pv 2))),?_⟩
  dsimp only[cxOf,Cx.nox,Cx.wish]
  obtain ⟨as,h1,RR,hn⟩:=hS.ex
  obtain ⟨a,ha,Ra⟩:=zeG RR hk
  obtain ⟨a',d,ea,_,_,g1,g2,_⟩:=zfO Ra
  cases ea
  exact ⟨_,rfl,so,C,dxs,_,_,rfl,hS.ins,T3.cl,T3.nR,zeC pr pn,_,rfl,pr,_,_,_,rfl,rfl,SqL.of h1,zah (zjV ha),a,_,rfl,SqT.of g1,rfl,_,_,rfl,_,_,rfl,rfl,_,rfl,q⟩
theorem scDoorsBy:zav ["self","number","doors","door"] ["self","number"] (zag zez):=⟨rfl,rfl,rfl,by decide +kernel,rfl,by decide +kernel,by decide +kernel⟩
theorem zgP {f C:Addr}{fd:FuncData}(F:Fun K "doors_by" "Standings.doors_by" zez f fd) (T3:TxtS K mg C):FnOk P w K mg base CX0 1 f fd ["self","number"] (zb4 P w C):=by
 refine F.ok scDoorsBy (fun vs H Q E h=>?_) (fun cdv A outer s H vs Q E hr h=>?_)
 ·obtain ⟨z,so,dxs,pr,pn,tab,k,ds,rfl,_⟩:=h
  rfl
 ·obtain ⟨z,so,dxs,pr,pn,tab,k,ds,rfl,hB,hS,hk,hdl,q⟩:=h
  have nd:=scDoorsBy.nd
  refine ⟨_,zac (zap (i:=2) nd rfl (Or.inl rfl) (zaF zae))
   (zac (zcr PassesOwn.never (zaw zd8 (pv 1) zaf (zaz _))
    (zac (zbq (zau ix_list (zaH (pv 0) rfl) (pv 1) (fun _ _=>rfl)) (zbu rfl (zat (zao (i:=1) nd rfl (Or.inl rfl)) (zat (zao (i:=3) nd rfl (Or.inl rfl)) za1))))
    (zai (zaO (zbU PySem.F.plainAttrs_list PySem.F.slot_list_append PySem.F.type_list_append zaK (pv 2) (zaa (pv 3) zae))))))
   (zac (zaO (ze1 PySem.F.plainAttrs_list PySem.F.slot_list_reverse PySem.F.type_list_reverse zgz (pv 2)))
   (zai (zax (pv 2))))),?_⟩
  dsimp only[cxOf,Cx.nox,Cx.wish]
  have big2:(100000:Nat)≤sizeLine:=by rw[sizeLine_eq];decide
  refine ⟨Nat.zero_le _,fun p np=>?_⟩
  have s1:=Same.new (o:=.lst []) np
  have hpz:p≠z:=hB.ne np
  dsimp only
  refine zak fun U hU=>?_
  refine zcs (fun σ H2=>∃(k':Nat) (ds' es:List (Int×Str)) (dv:List V) (u3:Option V),σ=[some (.ref so),some (.int k'),some (.ref p),u3]∧Same H H2∧Stands tab k' ds'∧ds=ds'++es.reverse∧H2 p=some (.lst dv)∧Reps z H2 dv (es.map pdP))
   (fun σ _=>match σ[1]? with|some (some (V.int i))=>i.toNat|_=>0) ⟨k,ds,[],[],none,rfl,s1,hk,by simp,zab,.nil⟩ ?_ ?_
  ·rintro σ H2 ⟨k',ds',es,dv,u3,rfl,s2,hk',hds,hp2,RE⟩
   refine ⟨_,rfl,rfl,_,rfl,?_⟩
   have hS2:=hS.same s2
   cases hk' with
   |zero=>
    refine iteF (hU _ _ ?_)
    refine ⟨_,rfl,.inl ⟨rfl,_,SqL.of hp2⟩,p,dv,rfl,rfl,hp2,_,rfl,?_⟩
    have hr3:Reps z (upd H2 p (.lst dv.reverse)) dv.reverse (ds.map pdP):=by
     rw[hds,List.nil_append,List.map_reverse]
     exact Reps.updL hp2 (Reps.reverse RE) (by rw[←List.map_reverse];exact zdg _)
    exact q p dv.reverse _ (fun b o e=>by rw[zaj (zad e np)];exact s2 b o e) np zab hr3
   |@suc k0 r ds0 h hk0 t=>
    refine ite2 (fun _=>?_) (fun g=>absurd g ?_)
    ·obtain ⟨as,h1,RR,hn⟩:=hS2.ex
     obtain ⟨a,ha,Ra⟩:=zeG RR h
     obtain ⟨a',d,ea,_,hdz,g1,g2,gl⟩:=zfO Ra
     cases ea
     have hes:es.length≤ds.length:=by rw[hds];simp;omega
     have hdv:dv.length=es.length:=by have:=RE.length;simpa using this
     refine ⟨_,rfl,so,C,dxs,_,_,rfl,hS2.ins,T3.cl,T3.nR,zeC pr pn,_,rfl,pr,_,_,_,rfl,rfl,SqL.of h1,zah (zjV ha),a,_,rfl,SqT.of g1,rfl,_,_,rfl,_,_,rfl,rfl,?_⟩
     refine ⟨_,rfl,.inl ⟨rfl,_,SqL.of hp2⟩,_,rfl,p,dv,_,rfl,rfl,hp2,by omega,⟨r.1,ds0,es++[r.2],dv++[.ref d],_,rfl,fun b o e=>by rw[zaj (zad e np)];exact s2 b o e,t,?_,zab,?_⟩,?_⟩
     ·rw[hds,List.reverse_append,List.append_assoc]
      rfl
     ·rw[List.map_append]
      exact Reps.updL hp2 (RE.append (.cons (.tup g2 hdz (.cons (.int _) (.cons (.str _ gl) .nil))) .nil)) ((zdg _).append (zdg [_]))
     ·show ((r.1:Int)).toNat<(((k0+1:Nat):Int)).toNat
      omega
    ·have:¬(V.int ((k0+1:Nat):Int)=V.int 0):=fun e=>by injection e with e;omega
     rw[decide_eq_false this]
     simp
  ·rintro σ H3 Q1 Q2 hq ⟨v1,e1,h2,b1,e3,h⟩
   exact ⟨v1,e1,h2,b1,e3,hq _ _ h⟩
abbrev zic:Stmt:=za0 sPage 0
abbrev zfQ:Stmt:=za0 sPage 1
abbrev zid:Stmt:=za0 sPage 3
abbrev zfR:Stmt:=za0 sPage 4
abbrev mPut:Stmt:=za0 sPage 6
abbrev mAnew:Stmt:=za0 sPage 7
abbrev zeH:Stmt:=za0 sPage 8
abbrev zfS:Stmt:=za0 sPage 9
abbrev zcY:Stmt:=za0 sPage 10
abbrev zdi:Stmt:=za0 sPage 11
abbrev zcZ:Stmt:=za0 sPage 12
abbrev zcp:Stmt:=za0 sPage 13
def pgF (v:V) (x:Str) (pt ps so pw:Addr):List (Str×V):=[("book",v),("signs",.str x),("told",.ref pt),("stands",.ref ps),("standings",.ref so),("ways_back",.ref pw)]
theorem zaP {f g:Str}{v:V}{r:List (Str×V)}(h:¬f=g):((g,v)::r).lookup f=r.lookup f:=by rw[zbh,if_neg h]
theorem zd2 {f:Str}{v:V}{r:List (Str×V)}:((f,v)::r).lookup f=some v:=by rw[zbh,if_pos rfl]
theorem zbA {f g:Str}{v x:V}{r:List (Str×V)}(h:¬g=f):putF f v ((g,x)::r)=(g,x)::putF f v r:=if_neg h
theorem zkJ {f:Str}{v x:V}{r:List (Str×V)}:putF f v ((f,x)::r)=(f,v)::r:=if_pos rfl
section
variable (v:V) (x x':Str) (pt ps so pw pt' ps':Addr)
theorem zie:(pgF v x pt ps so pw).lookup ("book":Str)=some v:=zd2
theorem zbk:(pgF v x pt ps so pw).lookup ("signs":Str)=some (.str x):=(zaP (by decide +kernel)).trans zd2
theorem zcq:(pgF v x pt ps so pw).lookup ("told":Str)=some (.ref pt):=(zaP (by decide +kernel)).trans ((zaP (by decide +kernel)).trans zd2)
theorem zcH:(pgF v x pt ps so pw).lookup ("stands":Str)=some (.ref ps):=(zaP (by decide +kernel)).trans ((zaP (by decide +kernel)).trans ((zaP (by decide +kernel)).trans zd2))
theorem zby:(pgF v x pt ps so pw).lookup ("standings":Str)=some (.ref so):=(zaP (by decide +kernel)).trans ((zaP (by decide +kernel)).trans ((zaP (by decide +kernel)).trans ((zaP (by decide +kernel)).trans zd2)))
theorem zeI:(pgF v x pt ps so pw).lookup ("ways_back":Str)=some (.ref pw):=(zaP (by decide +kernel)).trans ((zaP (by decide +kernel)).trans ((zaP (by decide +kernel)).trans ((zaP (by decide +kernel)).trans ((zaP (by decide +kernel)).trans zd2))))
theorem zjm:putF "signs" (.str x') (pgF v x pt ps so pw)=pgF v x' pt ps so pw:=(zbA (by decide +kernel)).trans (congrArg _ zkJ)
theorem zkK:putF "told" (.ref pt') (pgF v x pt ps so pw)=pgF v x pt' ps so pw:=(zbA (by decide +kernel)).trans (congrArg _ ((zbA (by decide +kernel)).trans (congrArg _ zkJ)))
theorem zif:putF "stands" (.ref ps') (pgF v x pt ps so pw)=pgF v x pt ps' so pw:=(zbA (by decide +kernel)).trans (congrArg _ ((zbA (by decide +kernel)).trans (congrArg _ ((zbA (by decide +kernel)).trans (congrArg _ zkJ)))))
end
theorem pm1:∀m∈([("__init__":Str),"change","text","steps","put","read_anew","goes_on","stand_behind","beginning","numbers_by_beginnings","count_sure","count_ended"]:List Str),¬m="book"∧¬m="signs"∧¬m="told"∧¬m="stands"∧¬m="standings"∧¬m="ways_back":=by decide +kernel
theorem zaV {v:V}{x:Str}{pt ps so pw:Addr}{m:Str}(h:m∈([("__init__":Str),"change","text","steps","put","read_anew","goes_on","stand_behind","beginning","numbers_by_beginnings","count_sure","count_ended"]:List Str)):(pgF v x pt ps so pw).lookup m=none:=by
 obtain ⟨h1,h2,h3,h4,h5,h6⟩:=pm1 m h
 unfold pgF
 rw[zaP h1,zaP h2,zaP h3,zaP h4,zaP h5,zaP h6]
 rfl
structure TxtP (K:W.Frag) (mg:Str→Option Value) (C:Addr):Prop where
 cl:Cls K C
 nB:NoAttr K C "book"
 nX:NoAttr K C "signs"
 nT:NoAttr K C "told"
 nS:NoAttr K C "stands"
 nG:NoAttr K C "standings"
 nW:NoAttr K C "ways_back"
theorem zfT (b:Bk) (ds:List LDr) (x:Str) (i:Nat) (m:Str):(stepL b ds x i m).1.1=(i:Int):=by
 unfold stepL
 split
 ·split<;>rfl
 ·split
  ·rfl
  ·split
   ·rfl
   ·split<;>rfl
abbrev za9 (b:Bk) (x:Str) (j:Nat):Stp:=(stepL b (runF b x j).ds x (runF b x j).at_ (bestL b (runF b x j).ds x (runF b x j).at_)).1
structure RunN (b:Bk) (x:Str) (N:Nat):Prop where
 at_:(runF b x N).at_=x.length
 lt:∀j,j<N→(runF b x j).at_<x.length
theorem RunN.len {b:Bk}{x:Str}{N:Nat}(h:RunN b x N):∀j,j≤N→(runF b x j).ss.length=j
 |0,_=>rfl
 |j+1,hj=>by
  have h1:=h.lt j (by omega)
  rw[zb1 h1,List.length_append,h.len j (by omega)]
  rfl
theorem RunN.get {b:Bk}{x:Str}{N:Nat}(h:RunN b x N):∀n,n≤N→∀j,j<n→(runF b x n).ss[j]?=some (za9 b x j)
 |0,_,j,hj=>absurd hj (Nat.not_lt_zero _)
 |n+1,hn,j,hj=>by
  have h1:=h.lt n (by omega)
  have hl:=h.len n (by omega)
  rw[zb1 h1]
  by_cases q:j<n
  ·rw[List.getElem?_append_left (by omega)]
   exact h.get n (by omega) j q
  ·have e:j=n:=by omega
   subst e
   rw[List.getElem?_append_right (by omega),hl,Nat.sub_self]
   rfl
theorem RunN.take {b:Bk}{x:Str}{N:Nat}(h:RunN b x N){n:Nat}(hn:n≤N):(runF b x n).ss=(runF b x N).ss.take n:=by
 refine List.ext_getElem? fun j=>?_
 by_cases q:j<n
 ·rw[h.get n hn j q,List.getElem?_take_of_lt q,h.get N (Nat.le_refl _) j (by omega)]
 ·rw[List.getElem?_eq_none (by rw[h.len n hn];omega),List.getElem?_eq_none (by rw[List.length_take];omega)]
theorem RunN.next {b:Bk}{x:Str}{N:Nat}(h:RunN b x N) (hb:BkOk b){j:Nat}(hj:j<N):((runF b x (j+1)).at_:Int)=((runF b x j).at_:Int)+(za9 b x j).2.1∧1≤(za9 b x j).2.1∧(za9 b x j).2.1≤4∧(za9 b x j).1=((runF b x j).at_:Int):=by
 obtain ⟨hb1,hb6,htok,_⟩:=id hb
 have h1:=h.lt j hj
 have rok:=zbn (x:=x) htok hb1 j
 obtain ⟨p1,p2,p3,p4,p5,p6⟩:=za4 (x:=x) htok rok.bk hb1 h1
 refine ⟨?_,p1,p2,zfT _ _ _ _ _⟩
 rw[zfk h1]
 have e:∀(a:Nat) (k:Int),1≤k→((a+k.toNat:Nat):Int)=(a:Int)+k:=fun a k hk=>by omega
 exact e _ _ p1
theorem RunN.mono {b:Bk}{x:Str}{N:Nat}(h:RunN b x N) (hb:BkOk b){i:Nat}:∀ {j:Nat},i<j→j≤N→(runF b x i).at_<(runF b x j).at_
 |0,hi,_=>absurd hi (Nat.not_lt_zero _)
 |j+1,hi,hj=>by
  obtain ⟨h1,h2,_⟩:=h.next hb (j:=j) (by omega)
  by_cases q:i=j
  ·subst q;omega
  ·have:=h.mono hb (i:=i) (j:=j) (by omega) (by omega)
   omega
structure PgS (P:Program) (w:World) (z CP CS:Addr) (H:Hp) (r dx:Addr) (v:V) (b:Bk) (x:Str) (pt ps so dxs pr pn pw:Addr) (tab:List Rws) (N:Nat) (ks:List Nat):Prop where
 ins:H r=some (.ins CP dx (pgF v x pt ps so pw))
 rb:Rep z H v (bkD b)
 ok:BkOk b
 run:RunN b x N
 told:∃tv,H pt=some (.lst tv)∧Reps z H tv ((runF b x N).ss.map stD)
 stands:H ps=some (.lst (ks.map fun k:Nat=>V.int (k:Int)))
 kl:ks.length=N+1
 st:∀j,j≤N→∃k,ks[j]?=some k∧Stands tab k ((runF b x j).ds.map (·.2))
 sd:StdS P w z CS H so dxs pr pn tab
 xl:x.length≤2000
 nes:(pt≠pr∧ps≠pr∧pw≠pr)∧(pt≠z∧ps≠z∧pw≠z)∧(pw≠pt∧pw≠ps)
inductive zbN (P:Program) (w:World) (CP CS:Addr):List V→Hp→VK→XK→Prop where
 |mk {vs:List V} {H:Hp} {Q:VK} {E:XK} (z r dx:Addr) (v:V) (b:Bk) (x:Str) (pt ps so dxs pr pn pw:Addr) (tab:List Rws) (N:Nat) (ks:List Nat) (n:Nat) (c1:vs=[.ref r,.int n]) (c2:PgS P w z CP CS H r dx v b x pt ps so dxs pr pn pw tab N ks) (c3:n≤N) (c4:Q (.int (runF b x n).at_) H):zbN P w CP CS vs H Q E
theorem zjn:zav ["self","number"] ["self","number"] (zag zcY):=⟨rfl,rfl,rfl,by decide +kernel,rfl,by decide +kernel,by decide +kernel⟩
theorem zig {f CP CS:Addr}{fd:FuncData}(F:Fun K "beginning" "Page.beginning" zcY f fd) (T:TxtB mg) (T3:TxtP K mg CP):FnOk P w K mg base CX0 1 f fd ["self","number"] (zbN P w CP CS):=by
 refine F.ok zjn (fun vs H Q E h=>?_) (fun cdv A outer s H vs Q E hr h=>?_)
 ·obtain ⟨z,r,dx,v,b,x,pt,ps,so,dxs,pr,pn,pw,tab,N,ks,n,rfl,_⟩:=h
  rfl
 ·obtain ⟨z,r,dx,v,b,x,pt,ps,so,dxs,pr,pn,pw,tab,N,ks,n,rfl,hP,hn,k⟩:=h
  refine ⟨_,zac (zaW (zaw zcg (pv 1) (zaq zaC (by rfl) T.len b_len (zaa (zaH (pv 0) rfl) zae)) (zaz _)) (zai (zax (zaq zar (by rfl) T.len b_len (zaa (zaH (pv 0) rfl) zae)))) zaA)
   (zai (zax (zau ix_tup (zau ix_list (zaH (pv 0) rfl) (pv 1) (fun _ _=>rfl)) zaf (fun _ _=>rfl)))),?_⟩
  dsimp only[cxOf,Cx.nox,Cx.wish]
  have big2:(100000:Nat)≤sizeLine:=by rw[sizeLine_eq];decide
  obtain ⟨tv,hpt,RT⟩:=hP.told
  have hxl:=hP.xl
  have htl:tv.length=N:=by
   have:=RT.length
   rw[List.length_map,hP.run.len N (Nat.le_refl _)] at this
   exact this
  refine ⟨_,rfl,_,rfl,r,CP,dx,_,_,rfl,hP.ins,T3.cl,T3.nT,zcq v x pt ps so pw,pt,tv,rfl,.inl (SqL.of hpt),rfl,_,rfl,?_⟩
  by_cases e:n=N
  ·subst e
   have e1:decide (V.int (n:Int)=V.int (tv.length:Int))=true:=by rw[htl];simp
   rw[e1]
   refine iteT ⟨_,rfl,r,CP,dx,_,_,rfl,hP.ins,T3.cl,T3.nX,zbk v x pt ps so pw,x,rfl,by omega,?_⟩
   rw[←hP.run.at_]
   exact k
  ·have e1:decide (V.int (n:Int)=V.int (tv.length:Int))=false:=decide_eq_false fun q=>by injection q with q;omega
   rw[e1]
   have hlt:n<N:=by omega
   have hg:=hP.run.get N (Nat.le_refl _) n hlt
   obtain ⟨_,_,_,hpl⟩:=hP.run.next hP.ok hlt
   have Rn:Rep z H (tv.getD n .non) (stD (za9 b x n)):=by
    have:=RT.get (i:=n) (by rw[List.length_map,hP.run.len N (Nat.le_refl _)];exact hlt)
    have e2:((runF b x N).ss.map stD).getD n .non=stD (za9 b x n):=by
     rw[List.getD_eq_getElem?_getD,List.getElem?_map,hg]
     rfl
    rw[e2] at this
    exact this
   obtain ⟨ay,xs,ey,hay⟩:∃ay xs,tv.getD n .non=.ref ay∧H ay=some (.tup (.int (za9 b x n).1::xs)):=by
    have Rn:Rep z H (tv.getD n .non) (.tup [.int (za9 b x n).1,.int (za9 b x n).2.1,.str (za9 b x n).2.2.1,.int (za9 b x n).2.2.2.1,.int (za9 b x n).2.2.2.2]):=Rn
    generalize tv.getD n .non=vv at Rn
    cases Rn with
    |tup h _ r1=>
     cases r1 with
     |cons r1 r2=>
      cases r1
      exact ⟨_,_,rfl,h⟩
   have etv:tv[n]?=some (.ref ay):=by
    have h1:n<tv.length:=by omega
    have h2:tv.getD n .non=tv[n]:=by simp[h1]
    rw[List.getElem?_eq_getElem h1,←h2,ey]
   refine iteF ⟨_,rfl,r,CP,dx,_,_,rfl,hP.ins,T3.cl,T3.nT,zcq v x pt ps so pw,_,rfl,pt,tv,n,_,rfl,rfl,SqL.of hpt,zah etv,ay,_,0,_,rfl,rfl,SqT.of hay,zah (j:=0) rfl,?_⟩
   rw[hpl]
   exact k
theorem zih {b:Bk}{ds:List LDr}{y:Str}{j:Nat}(hb:BkOk b) (hd:LdBk b ds) (hj:j+4≤y.length):sureB b ds y j=true:=by
 obtain ⟨hb1,hb6,htok,_⟩:=id hb
 obtain ⟨tN,htN,htl⟩:=za8 (hd.ok htok) hb1
 have htoN:(zal ds).toNat=tN:=by rw[htN];rfl
 have he:=zkF htok htl
 have hlen:(y.cps.toList.drop j).length=y.length-j:=by rw[List.length_drop,zam]
 rw[zjh (by omega),htoN]
 refine ⟨fun e=>?_,fun m hm q=>?_⟩
 ·have:=congrArg List.length e
  rw[hlen,zam] at this
  omega
 ·have h1:=zcW (x:=y) (i:=j) htok (hd.ok htok) m hm
  have h2:=q.1
  have h3:=h1.2
  rw[hlen] at h2
  omega
theorem zeJ {b:Bk}{x y:Str}{more:List Nat}{N far:Nat}(hb:BkOk b) (hx:x.cps.toList=y.cps.toList++more) (run:RunN b x N) (hf:far≤N) (h:far=0∨(runF b x far).at_+4≤y.length) :
  ∀n,n≤far→∀j,j<n→(runF b y j).at_<y.length∧sureB b (runF b y j).ds y (runF b y j).at_=true
 |0,_,j,hj=>absurd hj (Nat.not_lt_zero _)
 |n+1,hn,j,hj=>by
  have ih:=zeJ hb hx run hf h n (by omega)
  by_cases q:j<n
  ·exact ih j q
  ·have e:j=n:=by omega
   subst e
   obtain ⟨hb1,hb6,htok,_⟩:=id hb
   obtain ⟨e1,_,_⟩:=zbH hx ih j (Nat.le_refl _)
   have h1:=run.mono hb (i:=j) (j:=far) (by omega) hf
   have h2:(runF b x far).at_+4≤y.length:=by
    rcases h with h|h
    ·omega
    ·exact h
   exact ⟨by omega,zih hb (zbn (x:=y) htok hb1 j).bk (by omega)⟩
theorem zii {b:Bk}{x y near:Str}{more pre:List Nat}{N far n:Nat}(hb:BkOk b) (hx:x.cps.toList=y.cps.toList++more) (run:RunN b x N) (hf:far≤N) (h:far=0∨(runF b x far).at_+4≤y.length)
  (hy:y.cps.toList=pre++near.cps.toList) (hp:pre.length=(runF b x far).at_)
  (hall:∀j,j<n→(it0 b near (runF b x far).ds j).at_<near.length∧sureB b (it0 b near (runF b x far).ds j).ds near (it0 b near (runF b x far).ds j).at_=true) :
  ∀j,j<far+n→(runF b y j).at_<y.length∧sureB b (runF b y j).ds y (runF b y j).at_=true:=fun j hj=>by
 have F:=zeJ hb hx run hf h far (Nat.le_refl _)
 by_cases q:j<far
 ·exact F j q
 ·obtain ⟨i,rfl⟩:∃i,j=far+i:=⟨j-far,by omega⟩
  obtain ⟨e1,e2,e3⟩:=zbH hx F far (Nat.le_refl _)
  have R:=zcX (b:=b) (x:=y) (y:=near) (pre:=pre) (more:=[]) (off:=(runF b x far).at_) (S0:=(runF b y far).ss) (R:=runF b y far) (r:=⟨0,(runF b x far).ds,[]⟩) (by rw[hy,List.append_nil]) hp ⟨by rw[e1];rfl,e2.symm,by show _=_++[];rw[List.append_nil]⟩ i (fun l hl=>⟨(hall l (by omega)).1,.inl rfl⟩)
  rw[←zde] at R
  have hyl:y.length=(runF b x far).at_+near.length:=by rw[←zam,hy,List.length_append,hp,zam]
  obtain ⟨g1,g2⟩:=hall i (by omega)
  have e4:(runF b y (far+i)).at_=(runF b x far).at_+(it0 b near (runF b x far).ds i).at_:=R.at_
  have e5:SamePd (runF b y (far+i)).ds (it0 b near (runF b x far).ds i).ds:=R.pd
  refine ⟨by omega,?_⟩
  rw[e4,e5.sure,zd0 hy hp (by omega)]
  exact g2
theorem zij {b:Bk}{x y near:Str}{more pre:List Nat}{N far n:Nat}(hb:BkOk b) (hx:x.cps.toList=y.cps.toList++more) (run:RunN b x N) (hf:far≤N) (h:far=0∨(runF b x far).at_+4≤y.length)
  (hy:y.cps.toList=pre++near.cps.toList) (hp:pre.length=(runF b x far).at_)
  (hall:∀j,j<n→(it0 b near (runF b x far).ds j).at_<near.length∧sureB b (it0 b near (runF b x far).ds j).ds near (it0 b near (runF b x far).ds j).at_=true)
  (hstop:¬((it0 b near (runF b x far).ds n).at_<near.length∧sureB b (it0 b near (runF b x far).ds n).ds near (it0 b near (runF b x far).ds n).at_=true)) :
  ¬((runF b y (far+n)).at_<y.length∧sureB b (runF b y (far+n)).ds y (runF b y (far+n)).at_=true):=fun q=>by
 have F:=zeJ hb hx run hf h far (Nat.le_refl _)
 obtain ⟨e1,e2,e3⟩:=zbH hx F far (Nat.le_refl _)
 have R:=zcX (b:=b) (x:=y) (y:=near) (pre:=pre) (more:=[]) (off:=(runF b x far).at_) (S0:=(runF b y far).ss) (R:=runF b y far) (r:=⟨0,(runF b x far).ds,[]⟩) (by rw[hy,List.append_nil]) hp ⟨by rw[e1];rfl,e2.symm,by show _=_++[];rw[List.append_nil]⟩ n (fun l hl=>⟨(hall l (by omega)).1,.inl rfl⟩)
 rw[←zde] at R
 have hyl:y.length=(runF b x far).at_+near.length:=by rw[←zam,hy,List.length_append,hp,zam]
 have e4:(runF b y (far+n)).at_=(runF b x far).at_+(it0 b near (runF b x far).ds n).at_:=R.at_
 have e5:SamePd (runF b y (far+n)).ds (it0 b near (runF b x far).ds n).ds:=R.pd
 obtain ⟨q1,q2⟩:=q
 rw[e4,e5.sure,zd0 hy hp (by omega)] at q2
 exact hstop ⟨by omega,q2⟩
theorem zik {b:Bk}{x x' y:Str}{more more':List Nat}{K:Nat}(hx:x.cps.toList=y.cps.toList++more) (hx':x'.cps.toList=y.cps.toList++more') (h:∀j,j<K→(runF b y j).at_<y.length∧sureB b (runF b y j).ds y (runF b y j).at_=true) :
  ∀j,j≤K→(runF b x' j).at_=(runF b x j).at_∧SamePd (runF b x' j).ds (runF b x j).ds∧(runF b x' j).ss=(runF b x j).ss:=fun j hj=>by
 obtain ⟨a1,a2,a3⟩:=zbH hx h j hj
 obtain ⟨c1,c2,c3⟩:=zbH hx' h j hj
 exact ⟨c1.trans a1.symm,Eq.trans c2 a2.symm,c3.trans a3.symm⟩
theorem zlH {d e f:Int}(h:f=d+e) (ss:List Stp):(ss.map (mvS d)).map (mvS e)=ss.map (mvS f):=by
 rw[List.map_map]
 refine List.map_congr_left fun s _=>?_
 show ((s.1+d)+e,s.2)=(s.1+f,s.2)
 rw[h,Int.add_assoc]
theorem zjo {b:Bk}{x x':Str}{N n M:Nat}(run:RunN b x N) (hn:n≤N) (he:x'.cps.toList.drop (runF b x' M).at_=x.cps.toList.drop (runF b x n).at_) (hpd:SamePd (runF b x' M).ds (runF b x n).ds)
  (hl:(runF b x' M).at_≤x'.length) (hl0:(runF b x n).at_≤x.length) (lt':∀j,j<M→(runF b x' j).at_<x'.length) :
  RunN b x' (M+(N-n))∧(∀k,k≤N-n→(runF b x' (M+k)).at_+(runF b x n).at_=(runF b x (n+k)).at_+(runF b x' M).at_∧SamePd (runF b x' (M+k)).ds (runF b x (n+k)).ds) ∧
   (runF b x' (M+(N-n))).ss=(runF b x' M).ss++((runF b x N).ss.drop n).map (mvS (((runF b x' M).at_:Int)-((runF b x n).at_:Int))):=by
 have hy:=zcF (y:=x) hl0
 have hyl:(restS x (runF b x n).at_).length=x.length-(runF b x n).at_:=by rw[←zam,hy,List.length_drop,zam]
 have hx1:x.cps.toList=x.cps.toList.take (runF b x n).at_++(restS x (runF b x n).at_).cps.toList++[]:=by rw[hy,List.append_nil,List.take_append_drop]
 have hx2:x'.cps.toList=x'.cps.toList.take (runF b x' M).at_++(restS x (runF b x n).at_).cps.toList++[]:=by rw[hy,←he,List.append_nil,List.take_append_drop]
 have hp1:(x.cps.toList.take (runF b x n).at_).length=(runF b x n).at_:=by rw[List.length_take,zam];omega
 have hp2:(x'.cps.toList.take (runF b x' M).at_).length=(runF b x' M).at_:=by rw[List.length_take,zam];omega
 generalize restS x (runF b x n).at_=y at hy hyl hx1 hx2
 have R1:=fun k (hk:∀j,j<k→(it0 b y (runF b x n).ds j).at_<y.length)=>zcX (b:=b) (x:=x) (y:=y) hx1 hp1 (S0:=(runF b x n).ss) (R:=runF b x n) (r:=⟨0,(runF b x n).ds,[]⟩) ⟨rfl,rfl,by show _=_++[];rw[List.append_nil]⟩ k (fun l hl=>⟨hk l hl,.inl rfl⟩)
 have R2:=fun k (hk:∀j,j<k→(it0 b y (runF b x n).ds j).at_<y.length)=>zcX (b:=b) (x:=x') (y:=y) hx2 hp2 (S0:=(runF b x' M).ss) (R:=runF b x' M) (r:=⟨0,(runF b x n).ds,[]⟩) ⟨rfl,hpd,by show _=_++[];rw[List.append_nil]⟩ k (fun l hl=>⟨hk l hl,.inl rfl⟩)
 simp only[←zde] at R1 R2
 have hall:∀k,k≤N-n→∀j,j<k→(it0 b y (runF b x n).ds j).at_<y.length:=fun k=>by
  induction k with
  |zero=>intro _ j hj;omega
  |succ k ih=>
   intro hk j hj
   by_cases q:j<k
   ·exact ih (by omega) j q
   ·have e:j=k:=by omega
    subst e
    have a1:(runF b x (n+j)).at_=(runF b x n).at_+(it0 b y (runF b x n).ds j).at_:=(R1 j (ih (by omega))).at_
    have a2:=run.lt (n+j) (by omega)
    omega
 have P:∀k,k≤N-n→(runF b x' (M+k)).at_+(runF b x n).at_=(runF b x (n+k)).at_+(runF b x' M).at_∧SamePd (runF b x' (M+k)).ds (runF b x (n+k)).ds:=fun k hk=>by
  have r1:=R1 k (hall k hk)
  have r2:=R2 k (hall k hk)
  have a1:=r1.at_
  have a2:=r2.at_
  exact ⟨by omega,Eq.trans r2.pd r1.pd.symm⟩
 have hxl':x'.length+(runF b x n).at_=x.length+(runF b x' M).at_:=by
  have e:=congrArg List.length he
  rw[List.length_drop,List.length_drop,zam,zam] at e
  omega
 refine ⟨⟨?_,fun j hj=>?_⟩,P,?_⟩
 ·have a1:=(P (N-n) (Nat.le_refl _)).1
  rw[show n+(N-n)=N by omega] at a1
  have a2:=run.at_
  omega
 ·by_cases q:j<M
  ·exact lt' j q
  ·have a1:=(P (j-M) (by omega)).1
   rw[show M+(j-M)=j by omega] at a1
   have a2:=run.lt (n+(j-M)) (by omega)
   omega
 ·have r1:=R1 (N-n) (hall _ (Nat.le_refl _))
  have r2:=R2 (N-n) (hall _ (Nat.le_refl _))
  rw[show n+(N-n)=N by omega] at r1
  have s1:=r1.ss
  rw[r2.ss,s1,List.drop_left' (run.len n hn),zlH (f:=((runF b x' M).at_:Int)) (by omega)]
inductive zeK (P:Program) (w:World) (CP CS:Addr):List V→Hp→VK→XK→Prop where
 |mk {vs:List V} {H:Hp} {Q:VK} {E:XK} (z r dx:Addr) (v:V) (b:Bk) (x:Str) (pt ps so dxs pr pn pw:Addr) (tab:List Rws) (N:Nat) (ks:List Nat) (i:Int) (c1:vs=[.ref r,.int i]) (c2:PgS P w z CP CS H r dx v b x pt ps so dxs pr pn pw tab N ks)
  (c3:∀n:Nat,n≤N→(n=0∨((runF b x n).at_:Int)≤i)→(∀j,n<j→j≤N→i<((runF b x j).at_:Int))→Q (.int n) H):zeK P w CP CS vs H Q E
inductive zdj (CP:Addr):List V→Hp→VK→XK→Prop where
 |mk {vs:List V} {H:Hp} {Q:VK} {E:XK} (r dx:Addr) (v:V) (x:Str) (pt ps so pw el:Addr) (ks:List Nat) (kvs:List (Key×V)) (i:Nat) (k:Nat) (c1:vs=[.ref r,.int i,.ref el,.int k]) (c2:H r=some (.ins CP dx (pgF v x pt ps so pw)))
  (c3:H ps=some (.lst (ks.map fun k:Nat=>V.int (k:Int)))) (c4:H el=some (.dK kvs)) (c5:∀u,valV kvs (.inl (i:Int))=some u→∃n kn:Nat,u=.int n∧ks[n]?=some kn)
  (c6:∀g:Bool,(g=true↔∃n:Nat,valV kvs (.inl (i:Int))=some (.int n)∧ks[n]?=some k)→Q (.bl g) H):zdj CP vs H Q E
structure EldK (b:Bk) (x:Str) (e d:Int) (M:Nat) (kvs:List (Key×V)):Prop where
 has:∀n:Nat,n<M→e≤((runF b x n).at_:Int)→valV kvs (.inl (((runF b x n).at_:Int)+d))=some (.int n)
 all:∀(k:Key) (u:V),valV kvs k=some u→∃n:Nat,n<M∧e≤((runF b x n).at_:Int)∧u=.int n∧k=.inl (((runF b x n).at_:Int)+d)
inductive zcI (P:Program) (w:World) (CP CS:Addr):List V→Hp→VK→XK→Prop where
 |mk {vs:List V} {H:Hp} {Q:VK} {E:XK} (z r dx:Addr) (v:V) (b:Bk) (x:Str) (pt ps so dxs pr pn pw:Addr) (tab:List Rws) (N:Nat) (ks:List Nat) (e d:Int) (c1:vs=[.ref r,.int e,.int d]) (c2:PgS P w z CP CS H r dx v b x pt ps so dxs pr pn pw tab N ks)
  (c3:∀p kvs H',Same H H'→H p=none→H' p=some (.dK kvs)→EldK b x e d (N+1) kvs→Q (.ref p) H'):zcI P w CP CS vs H Q E
theorem PgS.toldN {P:Program}{w:World}{z CP CS:Addr}{H:Hp}{r dx:Addr}{v:V}{b:Bk}{x:Str}{pt ps so dxs pr pn pw:Addr}{tab:List Rws}{N:Nat}{ks:List Nat}(h:PgS P w z CP CS H r dx v b x pt ps so dxs pr pn pw tab N ks):∃tv,H pt=some (.lst tv)∧Reps z H tv ((runF b x N).ss.map stD)∧tv.length=N:=by
 obtain ⟨tv,hpt,RT⟩:=h.told
 refine ⟨tv,hpt,RT,?_⟩
 have:=RT.length
 rw[List.length_map,h.run.len N (Nat.le_refl _)] at this
 exact this
theorem PgS.nle {P:Program}{w:World}{z CP CS:Addr}{H:Hp}{r dx:Addr}{v:V}{b:Bk}{x:Str}{pt ps so dxs pr pn pw:Addr}{tab:List Rws}{N:Nat}{ks:List Nat}(h:PgS P w z CP CS H r dx v b x pt ps so dxs pr pn pw tab N ks):N≤2000:=by
 obtain ⟨hb1,hb6,htok,_⟩:=id h.ok
 have h1:=(zbn (x:=x) htok hb1 N).sl
 have h2:=h.run.len N (Nat.le_refl _)
 have h3:=h.run.at_
 have h4:=h.xl
 omega
theorem PgS.same {P:Program}{w:World}{z CP CS:Addr}{H H':Hp}{r dx:Addr}{v:V}{b:Bk}{x:Str}{pt ps so dxs pr pn pw:Addr}{tab:List Rws}{N:Nat}{ks:List Nat}(h:PgS P w z CP CS H r dx v b x pt ps so dxs pr pn pw tab N ks) (s:Same H H'):PgS P w z CP CS H' r dx v b x pt ps so dxs pr pn pw tab N ks:=by
 obtain ⟨tv,h1,h2⟩:=h.told
 exact ⟨s _ _ h.ins,h.rb.mono s.x,h.ok,h.run,⟨tv,s _ _ h1,h2.mono s.x⟩,s _ _ h.stands,h.kl,h.st,h.sd.same s,h.xl,h.nes⟩
theorem EldK.nil {b:Bk}{x:Str}{e d:Int}:EldK b x e d 0 []:=⟨fun n hn=>absurd hn (Nat.not_lt_zero _),fun k u h=>by rw[ziS] at h;cases h⟩
theorem EldK.skip {b:Bk}{x:Str}{e d:Int}{M:Nat}{kvs:List (Key×V)}(h:EldK b x e d M kvs) (g:¬e≤((runF b x M).at_:Int)):EldK b x e d (M+1) kvs:=
 ⟨fun n hn he=>by
  by_cases q:n=M
  ·rw[q] at he;exact absurd he g
  ·exact h.has n (by omega) he,fun k u hk=>by
  obtain ⟨n,h1,h2⟩:=h.all k u hk
  exact ⟨n,by omega,h2⟩⟩
theorem EldK.put {b:Bk}{x:Str}{e d:Int}{M N:Nat}{kvs:List (Key×V)}(run:RunN b x N) (hb:BkOk b) (hM:M≤N) (h:EldK b x e d M kvs) (g:e≤((runF b x M).at_:Int)):EldK b x e d (M+1) (putK kvs (.inl (((runF b x M).at_:Int)+d)) (.int M)):=
 ⟨fun n hn he=>by
  rw[zf7]
  by_cases q:n=M
  ·rw[q,if_pos rfl]
  ·have:=run.mono hb (i:=n) (j:=M) (by omega) hM
   rw[if_neg (by intro c;injection c with c;omega)]
   exact h.has n (by omega) he,fun k u hk=>by
  rw[zf7] at hk
  by_cases q:k=.inl (((runF b x M).at_:Int)+d)
  ·rw[if_pos q] at hk
   injection hk with hk
   exact ⟨M,by omega,g,hk.symm,q⟩
  ·rw[if_neg q] at hk
   obtain ⟨n,h1,h2⟩:=h.all k u hk
   exact ⟨n,by omega,h2⟩⟩
theorem scEnded:zav ["self","place","least","most","middle"] ["self","place"] (zag zcp):=⟨rfl,rfl,rfl,by decide +kernel,rfl,by decide +kernel,by decide +kernel⟩
theorem zjp:zav ["self","place","elder","stand"] ["self","place","elder","stand"] (zag zeH):=⟨rfl,rfl,rfl,by decide +kernel,rfl,by decide +kernel,by decide +kernel⟩
theorem scNumbers:zav ["self","end","longer","numbers","number"] ["self","end","longer"] (zag zdi):=⟨rfl,rfl,rfl,by decide +kernel,rfl,by decide +kernel,by decide +kernel⟩
theorem zjq {f g1 CP CS:Addr}{fd gd1:FuncData}(F:Fun K "count_ended" "Page.count_ended" zcp f fd) (T:TxtB mg) (T3:TxtP K mg CP)
  (n1:Meth K CP "beginning" g1) (b1:Binds K gd1 ["self","number"] []) (G1:FnOk P w K mg base CX0 1 g1 gd1 ["self","number"] (zbN P w CP CS)):FnOk P w K mg base CX0 2 f fd ["self","place"] (zeK P w CP CS):=by
 refine F.ok scEnded (fun vs H Q E h=>?_) (fun cdv A outer s H vs Q E hr h=>?_)
 ·obtain ⟨z,r,dx,v,b,x,pt,ps,so,dxs,pr,pn,pw,tab,N,ks,i,rfl,_⟩:=h
  rfl
 ·obtain ⟨z,r,dx,v,b,x,pt,ps,so,dxs,pr,pn,pw,tab,N,ks,i,rfl,hP,k⟩:=h
  have nd:=scEnded.nd
  have hr1:Room 1 _:=hr.mono (by decide)
  refine ⟨_,zac (zap (i:=2) nd rfl (Or.inl rfl) zaf)
   (zac (zap (i:=3) nd rfl (Or.inl rfl) (zaq zaC (by rfl) T.len b_len (zaa (zaH (pv 0) rfl) zae)))
   (zac (zcr PassesOwn.never (zaw zd9 (pv 2) (pv 3) (zaz _))
    (zac (zap (i:=4) nd rfl (Or.inl rfl) (zaB zd7 (zaB zaQ (zaB zaQ (pv 2) (pv 3)) zaf) zaf))
    (zai (zaW (zaw ziA (zaZ (pv 0) T3.cl n1 G1 hr1 b1 .nil pass0 (zaa (pv 4) zae)) (pv 1) (zaz _))
     (zai (zap (i:=2) nd rfl (Or.inl rfl) (pv 4)))
     (zai (zap (i:=3) nd rfl (Or.inl rfl) (zaB zc1 (pv 4) zaf)))))))
   (zai (zax (pv 2))))),?_⟩
  dsimp only[cxOf,Cx.nox,Cx.wish]
  have big2:(100000:Nat)≤sizeLine:=by rw[sizeLine_eq];decide
  obtain ⟨tv,hpt,RT,htl⟩:=hP.toldN
  have hnl:=hP.nle
  refine ⟨_,rfl,r,CP,dx,_,_,rfl,hP.ins,T3.cl,T3.nT,zcq v x pt ps so pw,pt,tv,rfl,.inl (SqL.of hpt),?_⟩
  rw[htl]
  dsimp only
  refine zak fun U hU=>?_
  refine zcs (fun σ H2=>∃(l m:Nat) (u4:Option V),σ=[some (.ref r),some (.int i),some (.int l),some (.int m),u4]∧H2=H∧l≤m∧m≤N∧(l=0∨((runF b x l).at_:Int)≤i)∧(∀j,m<j→j≤N→i<((runF b x j).at_:Int)))
   (fun σ _=>match σ[2]?,σ[3]? with|some (some (V.int l)),some (some (V.int m))=>(m-l).toNat|_,_=>0) ⟨0,N,none,rfl,rfl,Nat.zero_le _,Nat.le_refl _,.inl rfl,fun j h1 h2=>by omega⟩ ?_ ?_
  ·rintro σ H2 ⟨l,m,u4,rfl,rfl,hlm,hmN,hl,hm⟩
   refine ⟨_,rfl,_,rfl,_,_,rfl,rfl,_,rfl,?_⟩
   refine ite2 (fun hlt=>?_) (fun hlt=>?_)
   ·have hlt:l<m:=by have:=of_decide_eq_true hlt;omega
    obtain ⟨c,ec,hc1,hc2⟩:∃c:Nat,((l:Int)+(m:Int)+1) / 2=(c:Int)∧l<c∧c≤m:=⟨(l+m+1) / 2,by omega,by omega,by omega⟩
    show (tSeq _ _) _ _ _
    refine zbg fun D1 hD1 _ _ _=>zak fun U1 hV=>?_
    refine ⟨_,rfl,_,rfl,_,_,rfl,rfl,_,_,rfl,rfl,_,_,rfl,rfl,⟨by decide,by decide⟩,?_⟩
    dsimp only
    rw[ec]
    refine hV _ _ ?_
    refine ⟨_,rfl,r,dx,_,rfl,hP.ins,zaV (by simp),_,rfl,z,r,dx,v,b,x,pt,ps,so,dxs,pr,pn,pw,tab,N,ks,c,rfl,hP,by omega,?_⟩
    refine ⟨_,rfl,_,_,rfl,rfl,_,rfl,?_⟩
    refine ite2 (fun g=>?_) (fun g=>?_)
    ·have g:=of_decide_eq_true g
     refine ⟨_,rfl,hD1 _ _ ⟨⟨c,m,_,rfl,rfl,hc2,hmN,.inr g,hm⟩,?_⟩⟩
     show ((m:Int)-(c:Int)).toNat<((m:Int)-(l:Int)).toNat
     omega
    ·have g:i<((runF b x c).at_:Int):=by
      have:¬((runF b x c).at_:Int)≤i:=fun q=>g (decide_eq_true q)
      omega
     refine ⟨_,rfl,_,_,rfl,rfl,?_⟩
     dsimp only
     rw[show ((c:Int)-1)=((c-1:Nat):Int) by omega]
     refine hD1 _ _ ⟨⟨l,c-1,_,rfl,rfl,by omega,by omega,hl,fun j h1 h2=>?_⟩,?_⟩
     ·by_cases q:j=c
      ·rw[q];exact g
      ·have:=hP.run.mono hP.ok (i:=c) (j:=j) (by omega) h2
       omega
     ·show (((c-1:Nat):Int)-(l:Int)).toNat<((m:Int)-(l:Int)).toNat
      omega
   ·have hlt:¬l<m:=fun q=>hlt (decide_eq_true (by omega))
    have e:l=m:=by omega
    subst e
    exact hU _ _ ⟨_,rfl,k l hmN hl hm⟩
  ·rintro σ H3 Q1 Q2 hq ⟨v1,e1,v2,e2,i1,i2,e3,e4,b1,e5,h⟩
   exact ⟨v1,e1,v2,e2,i1,i2,e3,e4,b1,e5,hq _ _ h⟩
theorem zil {f CP:Addr}{fd:FuncData}(F:Fun K "goes_on" "Page.goes_on" zeH f fd) (T3:TxtP K mg CP):FnOk P w K mg base CX0 1 f fd ["self","place","elder","stand"] (zdj CP):=by
 refine F.ok zjp (fun vs H Q E h=>?_) (fun cdv A outer s H vs Q E hr h=>?_)
 ·obtain ⟨r,dx,v,x,pt,ps,so,pw,el,ks,kvs,i,k,rfl,_⟩:=h
  rfl
 ·obtain ⟨r,dx,v,x,pt,ps,so,pw,el,ks,kvs,i,k,rfl,hi,hp,he,hv,q⟩:=h
  have hu:(A.deeper (PyProof.Rows.envOfC (Str.ofString "Page.goes_on") (zag zeH) s.heap.objs.size f cdv)).units+1<cLine:=by have:=hr.un;omega
  refine ⟨_,zai (zax (zgW (zkZ (zlf hu (pv 1) (pv 2))) (zgV (zcN zcg (zau ix_list (zaH (pv 0) rfl) (zhp hu (pv 2) (pv 1) (fun _ _=>rfl)) (fun _ _=>rfl)) (pv 3) (zaz _))))),?_⟩
  dsimp only[cxOf,Cx.nox,Cx.wish]
  refine ⟨_,rfl,_,rfl,el,_,rfl,DGet.k (k:=.inl (i:Int)) he,?_⟩
  refine ⟨_,rfl,?_⟩
  cases hv':valV kvs (.inl (i:Int)) with
  |none=>exact q false ⟨fun h=>(by cases h),fun ⟨n,h,_⟩=>by rw[hv'] at h;cases h⟩
  |some u=>
   obtain ⟨n,kn,rfl,hkn⟩:=hv u hv'
   have hg:DGet H el (.int (i:Int)) (some (.int (n:Int))):=by rw[←hv'];exact DGet.k (k:=.inl (i:Int)) he
   refine ⟨_,rfl,r,CP,dx,_,_,rfl,hi,T3.cl,T3.nS,zcH v x pt ps so pw,_,rfl,_,rfl,el,_,rfl,hg,ps,_,n,_,rfl,rfl,SqL.of hp,zah (by rw[List.getElem?_map,hkn];rfl),_,rfl,rfl,q _ ?_⟩
   constructor
   ·intro h
    have h:=of_decide_eq_true h
    injection h with h
    exact ⟨n,hv',by rw[hkn];congr 1;omega⟩
   ·rintro ⟨n',e,h⟩
    rw[hv'] at e
    injection e with e
    injection e with e
    have e:n=n':=by omega
    subst e
    rw[hkn] at h
    injection h with h
    rw[h]
    exact decide_eq_true rfl
theorem zgQ {f g1 CP CS:Addr}{fd gd1:FuncData}(F:Fun K "numbers_by_beginnings" "Page.numbers_by_beginnings" zdi f fd) (T:TxtB mg) (T3:TxtP K mg CP)
  (n1:Meth K CP "beginning" g1) (b1:Binds K gd1 ["self","number"] []) (G1:FnOk P w K mg base CX0 1 g1 gd1 ["self","number"] (zbN P w CP CS)):FnOk P w K mg base CX0 2 f fd ["self","end","longer"] (zcI P w CP CS):=by
 refine F.ok scNumbers (fun vs H Q E h=>?_) (fun cdv A outer s H vs Q E hr h=>?_)
 ·obtain ⟨z,r,dx,v,b,x,pt,ps,so,dxs,pr,pn,pw,tab,N,ks,e,d,rfl,_⟩:=h
  rfl
 ·obtain ⟨z,r,dx,v,b,x,pt,ps,so,dxs,pr,pn,pw,tab,N,ks,e,d,rfl,hP,k⟩:=h
  have nd:=scNumbers.nd
  have hr1:Room 1 _:=hr.mono (by decide)
  have hu:(A.deeper (PyProof.Rows.envOfC (Str.ofString "Page.numbers_by_beginnings") (zag zdi) s.heap.objs.size f cdv)).units+1<cLine:=by have:=hr.un;omega
  refine ⟨_,zac (zap (i:=3) nd rfl (Or.inl rfl) ziW)
   (zac (zbO PassesOwn.never rfl (zbm rfl T.range (pa_B (zaB zaQ (zaq zaC (by rfl) T.len b_len (zaa (zaH (pv 0) rfl) zae)) zaf) zae)) (zao (i:=4) nd rfl (Or.inl rfl))
    (zai (zaW (zaw zlv (zaZ (pv 0) T3.cl n1 G1 hr1 b1 .nil pass0 (zaa (pv 4) zae)) (pv 1) (zaz _))
     (zai (zkg hu (pv 3) (zaB zaQ (zaZ (pv 0) T3.cl n1 G1 hr1 b1 .nil pass0 (zaa (pv 4) zae)) (pv 2)) (pv 4) rfl)) zaA)))
   (zai (zax (pv 3)))),?_⟩
  dsimp only[cxOf,Cx.nox,Cx.wish]
  have big2:(100000:Nat)≤sizeLine:=by rw[sizeLine_eq];decide
  have hnl:=hP.nle
  refine fun p np=>?_
  have s1:=Same.new (o:=.dK []) np
  have hP1:=hP.same s1
  obtain ⟨tv,hpt,RT,htl⟩:=hP1.toldN
  dsimp only
  refine zak fun U hU=>?_
  refine ⟨_,rfl,r,CP,dx,_,_,rfl,hP1.ins,T3.cl,T3.nT,zcq v x pt ps so pw,pt,tv,rfl,.inl (SqL.of hpt),_,_,rfl,rfl,((N:Int)+1),?_,by omega,by omega,?_⟩
  ·rw[htl]
  refine zbB (fun t σ H3=>∃(kvs:List (Key×V)) (u4:Option V),σ=[some (.ref r),some (.int e),some (.int d),some (.ref p),u4]∧Same H H3∧H3 p=some (.dK kvs)∧EldK b x e d t kvs∧kvs.length≤t)
   ⟨[],none,rfl,s1,zab,.nil,Nat.le_refl _⟩ ?_ ?_
  ·rintro t σ H3 ht ⟨kvs,u4,rfl,s3,hp3,hE,hl⟩
   have htN:t≤N:=by omega
   have hP3:=hP.same s3
   show (tIfS _ _ _) _ _ _
   refine zbg fun D1 hD1 _ _ _=>?_
   refine ⟨_,rfl,r,dx,_,rfl,hP3.ins,zaV (by simp),_,rfl,z,r,dx,v,b,x,pt,ps,so,dxs,pr,pn,pw,tab,N,ks,t,by simp,hP3,htN,?_⟩
   refine ⟨_,rfl,_,_,rfl,rfl,_,rfl,?_⟩
   refine ite2 (fun g=>?_) (fun g=>?_)
   ·have g:e≤((runF b x t).at_:Int):=of_decide_eq_true g
    refine ⟨_,rfl,_,rfl,_,rfl,r,dx,_,rfl,hP3.ins,zaV (by simp),_,rfl,z,r,dx,v,b,x,pt,ps,so,dxs,pr,pn,pw,tab,N,ks,t,by simp,hP3,htN,?_⟩
    refine ⟨_,rfl,_,_,rfl,rfl,p,_,rfl,DPut.k (k:=.inl (((runF b x t).at_:Int)+d)) hp3 (by omega),hD1 _ _ ⟨_,_,rfl,fun b' o e'=>by rw[zaj (zad e' np)];exact s3 b' o e',zab,?_,?_⟩⟩
    ·have:=hE.put hP.run hP.ok htN g
     simpa using this
    ·have:=zcj kvs (.inl (((runF b x t).at_:Int)+d)) (.int t)
     simp at this ⊢
     omega
   ·have g:¬e≤((runF b x t).at_:Int):=fun q=>g (decide_eq_true q)
    exact hD1 _ _ ⟨kvs,_,rfl,s3,hp3,hE.skip g,by omega⟩
  ·rintro σ H3 ⟨kvs,u4,rfl,s3,hp3,hE,hl⟩
   refine hU _ _ ⟨_,rfl,k p kvs _ s3 np hp3 ?_⟩
   have e1:((N:Int)+1).toNat=N+1:=by omega
   rw[e1] at hE
   exact hE
inductive zdk (P:Program) (w:World) (CP CS:Addr):List V→Hp→VK→XK→Prop where
 |mk {vs:List V} {H:Hp} {Q:VK} {E:XK} (z r dx:Addr) (v:V) (b:Bk) (x y:Str) (pt ps so dxs pr pn pw p q:Addr) (tab:List Rws) (i k:Nat) (ds ds':List LDr) (st:Stp) (c1:vs=[.ref r,.int k,.ref p,.ref q]) (c2:H r=some (.ins CP dx (pgF v x pt ps so pw)))
  (c3:H p=some (.tup (stV st))) (c4:PDs z H q ds') (c5:Bag z H) (c6:StdS P w z CS H so dxs pr pn tab) (c7:Stands tab k (ds.map (·.2))) (c8:zdf b ds y i st ds') (c9:ds'.length≤2000) (c10:tab.length<8000000)
  (c11:∀k' tab' H',(tab'=tab∨∃r,tab'=tab++[r])→Stands tab' k' (ds'.map (·.2))→KeepE (fun b=>b=pr∨b=pn) H H'→StdS P w z CS H' so dxs pr pn tab'→Q (.int (k':Nat)) H'):zdk P w CP CS vs H Q E
theorem nOpen:∀s∈([("cut":Str),"escape","sign","close"]:List Str),¬V.str s=V.str "open":=by
 intro s hs e
 injection e with e
 subst e
 revert hs
 decide +kernel
theorem zlt:∀s∈([("cut":Str),"escape","sign","open"]:List Str),¬V.str s=V.str "close":=by
 intro s hs e
 injection e with e
 subst e
 revert hs
 decide +kernel
theorem zkL {z:Addr}{H:Hp}{v:V}{d:LDr}(r:Rep z H v (pdD d)):d.2.2.length≤1000:=by
 have r:Rep z H v (.tup [.int d.2.1,.str d.2.2]):=r
 cases r with
 |tup h hz r=>
  cases r with
  |cons r1 r2=>
   cases r2 with
   |cons r3 r4=>
    cases r3
    assumption
theorem zjr {z:Addr}{H:Hp}{ds:List LDr}{d:LDr}{vs:List V}(RD:Reps z H vs ((ds++[d]).map pdD)):∃ad,atI vs (-1)=some (.ref ad)∧ad≠z∧H ad=some (.tup [.int d.2.1,.str d.2.2])∧d.2.2.length≤1000:=by
 have hvl:vs.length=ds.length+1:=by have:=RD.length;simpa using this
 have r0:=zhV (ds:=ds++[d]) (i:=ds.length) RD (by simp)
 have e0:(ds++[d]).getD ds.length ld0=d:=by simp
 rw[e0] at r0
 obtain ⟨ad,ed,hadz,had⟩:=zjQ r0
 exact ⟨ad,zh8 hvl ed,hadz,had,zkL r0⟩
theorem scStandB:zav ["self","stand","step","doors"] ["self","stand","step","doors"] (zag zfS):=⟨rfl,rfl,rfl,by decide +kernel,rfl,by decide +kernel,by decide +kernel⟩
theorem zim {f g1 g2 CP CS:Addr}{fd gd1 gd2:FuncData}(F:Fun K "stand_behind" "Page.stand_behind" zfS f fd) (T3:TxtP K mg CP) (T4:TxtS K mg CS)
  (n1:Meth K CS "within" g1) (b1:Binds K gd1 ["self","number","door"] []) (G1:FnOk P w K mg base CX0 1 g1 gd1 ["self","number","door"] (zcG P w CS))
  (n2:Meth K CS "around" g2) (b2:Binds K gd2 ["self","number"] []) (G2:FnOk P w K mg base CX0 1 g2 gd2 ["self","number"] (zdh P w CS)):FnOk P w K mg base CX0 2 f fd ["self","stand","step","doors"] (zdk P w CP CS):=by
 refine F.ok scStandB (fun vs H Q E h=>?_) (fun cdv A outer s H vs Q E hr h=>?_)
 ·obtain ⟨z,r,dx,v,b,x,y,pt,ps,so,dxs,pr,pn,pw,p,q,tab,i,k,ds,ds',st,rfl,_⟩:=h
  rfl
 ·obtain ⟨z,r,dx,v,b,x,y,pt,ps,so,dxs,pr,pn,pw,p,q,tab,i,k,ds,ds',st,rfl,hi,hp,hq,hB,hS,hk,hc,hl,htl,g⟩:=h
  have nd:=scStandB.nd
  have hr1:Room 1 _:=hr.mono (by decide)
  refine ⟨_,zac (zaW (zaw zcg (zau ix_tup (pv 2) zaf (fun _ _=>rfl)) zay (zaz _))
    (zai (zax (zaZ (zaH (pv 0) rfl) T4.cl n1 G1 hr1 b1 .nil pass0 (zaa (pv 1) (zaa (zau ix_list (pv 3) (zbP zbf zaf) (fun _ _=>rfl)) zae))))) zaA)
   (zac (zaW (zaw zcg (zau ix_tup (pv 2) zaf (fun _ _=>rfl)) zay (zaz _))
    (zai (zax (zaZ (zaH (pv 0) rfl) T4.cl n2 G2 hr1 b2 .nil pass0 (zaa (pv 1) zae)))) zaA)
   (zai (zax (pv 1)))),?_⟩
  dsimp only[cxOf,Cx.nox,Cx.wish]
  refine zbg fun D1 _ hR1 _ _=>zak fun U hU=>?_
  refine ⟨_,rfl,p,_,2,_,rfl,rfl,SqT.of hp,zah (j:=2) rfl,rfl,_,rfl,?_⟩
  unfold zdf at hc
  have plain:st.2.2.1∈([("cut":Str),"escape","sign"]:List Str)→ds'=ds→U [some (.ref r),some (.int k),some (.ref p),some (.ref q)] H:=fun hw hds=>by
   refine hU _ _ (zak fun U2 hV=>?_)
   refine ⟨_,rfl,p,_,2,_,rfl,rfl,SqT.of hp,zah (j:=2) rfl,rfl,_,rfl,?_⟩
   refine ite2 (fun e=>absurd (of_decide_eq_true e) (zlt _ (List.mem_append_left [("open":Str)] hw))) (fun _=>hV _ _ ⟨_,rfl,hR1 _ _ (g k tab H (.inl rfl) (by rw[hds];exact hk) (fun _ _ _ e=>e) hS)⟩)
  rcases hc with ⟨_,hds,⟨_,hst⟩|⟨_,hst⟩⟩|⟨_,_,hds,hst⟩|⟨_,_,hne,_,hds,hst⟩|⟨_,_,d,_,hds,hst⟩
  ·have hw:st.2.2.1="cut":=by rw[hst]
   exact ite2 (fun e=>absurd (of_decide_eq_true e) (nOpen _ (by rw[hw];simp))) (fun _=>plain (by rw[hw];simp) hds)
  ·have hw:st.2.2.1="escape":=by rw[hst]
   exact ite2 (fun e=>absurd (of_decide_eq_true e) (nOpen _ (by rw[hw];simp))) (fun _=>plain (by rw[hw];simp) hds)
  ·have hw:st.2.2.1="sign":=by rw[hst]
   exact ite2 (fun e=>absurd (of_decide_eq_true e) (nOpen _ (by rw[hw];simp))) (fun _=>plain (by rw[hw];simp) hds)
  ·have hw:st.2.2.1="close":=by rw[hst]
   refine ite2 (fun e=>absurd (of_decide_eq_true e) (nOpen _ (by rw[hw];simp))) (fun _=>hU _ _ (zak fun U2 hV=>?_))
   refine ⟨_,rfl,p,_,2,_,rfl,rfl,SqT.of hp,zah (j:=2) rfl,rfl,_,rfl,?_⟩
   refine ite2 (fun _=>?_) (fun e=>absurd (decide_eq_true (by rw[hw])) e)
   generalize el:ds.map (·.2)=l at hk
   cases hk with
   |zero=>
    exfalso
    have:=congrArg List.length el
    rw[List.length_map] at this
    exact hne (List.eq_nil_of_length_eq_zero this)
   |@suc k0 r0 l0 h1 h2 h3=>
    refine ⟨_,rfl,r,CP,dx,_,_,rfl,hi,T3.cl,T3.nG,zby v x pt ps so pw,so,dxs,_,rfl,hS.ins,zeE (by simp),_,rfl,z,so,dxs,pr,pn,tab,k0,r0,rfl,hS,h1,hR1 _ _ (g r0.1 tab H (.inl rfl) ?_ (fun _ _ _ e=>e) hS)⟩
    rw[hds,List.map_dropLast,el,List.dropLast_concat]
    exact h3
  ·have hw:st.2.2.1="open":=by rw[hst]
   refine ite2 (fun _=>?_) (fun e=>absurd (decide_eq_true (by rw[hw])) e)
   obtain ⟨dv,hq1,RD⟩:=hq
   rw[hds] at RD
   obtain ⟨ad,hat,hadz,had,hal⟩:=zjr RD
   have hko:=hk.le
   refine ⟨_,rfl,r,CP,dx,_,_,rfl,hi,T3.cl,T3.nG,zby v x pt ps so pw,so,dxs,_,rfl,hS.ins,zeE (by simp),_,rfl,_,rfl,1,rfl,q,dv,-1,_,rfl,rfl,SqL.of hq1,hat,z,so,dxs,pr,pn,ad,tab,k,(d.2.1,d.2.2),rfl,hB,hS,hadz,had,hal,hko,htl,fun k1 tab' H' ht h1 h2 h3 h4=>hR1 _ _ (g (k1+1) tab' H' ?_ ?_ h3 h4)⟩
   ·rcases ht with e|e
    ·exact .inl e
    ·exact .inr ⟨_,e⟩
   ·rw[hds,List.map_append]
    refine .suc h1 h2 ?_
    rcases ht with e|e
    ·rw[e];exact hk
    ·rw[e];exact hk.mono _
theorem PgS.keep {P:Program}{w:World}{z CP CS:Addr}{H H':Hp}{r dx:Addr}{v:V}{b:Bk}{x:Str}{pt ps so dxs pr pn pw:Addr}{tab:List Rws}{N:Nat}{ks:List Nat}(h:PgS P w z CP CS H r dx v b x pt ps so dxs pr pn pw tab N ks){S:Addr→Prop}(k:KeepE S H H') (n:NoTup S H)
  (h1:¬S r) (h2:¬S pt) (h3:¬S ps) (h4:¬S so) (h5:¬S pr) (h6:¬S pn):PgS P w z CP CS H' r dx v b x pt ps so dxs pr pn pw tab N ks:=by
 obtain ⟨tv,g1,g2⟩:=h.told
 exact ⟨k _ _ h1 h.ins,Rep.keep k n h.rb (.tup (zbp _)),h.ok,h.run,⟨tv,k _ _ h2 g1,Reps.keep k n g2 (za5 _)⟩,k _ _ h3 h.stands,h.kl,h.st,h.sd.keep k n h4 h5 h6,h.xl,h.nes⟩
theorem PgS.butX {P:Program}{w:World}{z CP CS tb:Addr}{H H':Hp}{r dx:Addr}{v:V}{b:Bk}{x:Str}{pt ps so dxs pr pn pw:Addr}{tab:List Rws}{N:Nat}{ks:List Nat}(h:PgS P w z CP CS H r dx v b x pt ps so dxs pr pn pw tab N ks) (k:ButX tb H H') (L:LamTb tb H):PgS P w z CP CS H' r dx v b x pt ps so dxs pr pn pw tab N ks:=by
 obtain ⟨ps0,ht⟩:=L.tbl
 obtain ⟨tv,g1,g2⟩:=h.told
 obtain ⟨as,e1,e2,e3⟩:=h.sd.ex
 exact h.keep (S:=fun a=>a=tb) (fun b o hb e=>k b o hb e) (fun b xs hb e=>by rw[show b=tb from hb,ht] at e;cases e) (zan h.ins ht (by intro q;cases q)) (zan g1 ht (by intro q;cases q)) (zan h.stands ht (by intro q;cases q))
  (zan h.sd.ins ht (by intro q;cases q)) (zan e1 ht (by intro q;cases q)) (zan e3 ht (by intro q;cases q))
theorem zjW {z:Addr}{H:Hp}{p:Addr}{dv:List V}{ds:List LDr}(h:H p=some (.lst dv)) (R:Reps z H dv ((ds.map (·.2)).map pdP)):PDs z H p ds:=by
 rw[List.map_map] at R
 exact ⟨dv,h,R⟩
theorem zjX {b:Bk}{y:Str}{ds:List LDr}:∀ {n:Nat},(∀j,j<n→(it0 b y ds j).at_<y.length)→(it0 b y ds n).ss.length=n
 |0,_=>rfl
 |n+1,h=>by
  have ih:=zjX (n:=n) fun j hj=>h j (by omega)
  show (zaM b y (it0 b y ds n)).ss.length=_
  unfold zaM
  rw[if_pos (h n (by omega))]
  show ((it0 b y ds n).ss++[_]).length=_
  rw[List.length_append,ih]
  rfl
def KeptS (b:Bk) (x:Str) (i K:Nat):Prop:=∀y:Str,y.cps.toList=x.cps.toList.take i→SureN b y K
inductive zdl (P:Program) (w:World) (tb CP CS:Addr):List V→Hp→VK→XK→Prop where
 |mk {vs:List V} {H:Hp} {Q:VK} {E:XK} (z r dx:Addr) (v:V) (b:Bk) (x:Str) (pt ps so dxs pr pn pw:Addr) (tab:List Rws) (N:Nat) (ks:List Nat) (i:Nat) (c1:vs=[.ref r,.int i]) (c2:PgS P w z CP CS H r dx v b x pt ps so dxs pr pn pw tab N ks) (c3:Bag z H) (c4:LamTb tb H) (c5:i≤x.length)
  (c6:∀K H',K≤N→(runF b x K).at_≤i→KeptS b x i K→ButX tb H H'→Bag z H'→LamTb tb H'→Q (.int (K:Nat)) H'):zdl P w tb CP CS vs H Q E
theorem scCountS:zav ["self","begin","far","near"] ["self","begin"] (zag zcZ):=⟨rfl,rfl,rfl,by decide +kernel,rfl,by decide +kernel,by decide +kernel⟩
theorem zin {f g1 g2 g4 f3 tb CP CS:Addr}{fd gd1 gd2 gd4 fd3:FuncData}{uL:Value}(F:Fun K "count_sure" "Page.count_sure" zcZ f fd) (T:TxtB mg) (T3:TxtP K mg CP) (T4:TxtS K mg CS) (hLM:mg "LONGEST_MARK"=some uL) (rLM:RelV (.int 4) uL)
  (n1:Meth K CP "count_ended" g1) (b1:Binds K gd1 ["self","place"] []) (G1:FnOk P w K mg base CX0 2 g1 gd1 ["self","place"] (zeK P w CP CS))
  (n2:Meth K CP "beginning" g2) (b2:Binds K gd2 ["self","number"] []) (G2:FnOk P w K mg base CX0 1 g2 gd2 ["self","number"] (zbN P w CP CS))
  (k3:W.keepIn K (.ref f3)=true) (b3:Binds K fd3 ["book","part","doors"] []) (m3:mg "sure_steps"=some (.ref f3)) (G3:FnOk P w K mg base CX0 5 f3 fd3 ["book","part","doors"] (zbM tb))
  (n4:Meth K CS "doors_by" g4) (b4:Binds K gd4 ["self","number"] []) (G4:FnOk P w K mg base CX0 1 g4 gd4 ["self","number"] (zb4 P w CS)):FnOk P w K mg base CX0 6 f fd ["self","begin"] (zdl P w tb CP CS):=by
 refine F.ok scCountS (fun vs H Q E h=>?_) (fun cdv A outer s H vs Q E hr h=>?_)
 ·obtain ⟨z,r,dx,v,b,x,pt,ps,so,dxs,pr,pn,pw,tab,N,ks,i,rfl,_⟩:=h
  rfl
 ·obtain ⟨z,r,dx,v,b,x,pt,ps,so,dxs,pr,pn,pw,tab,N,ks,i,rfl,hP,hB,hL,hi,k⟩:=h
  have nd:=scCountS.nd
  have hr1:Room 1 _:=hr.mono (by decide)
  have hr2:Room 2 _:=hr.mono (by decide)
  refine ⟨_,zac (zap (i:=2) nd rfl (Or.inl rfl) (zaZ (pv 0) T3.cl n1 G1 hr2 b1 .nil pass0 (zaa (zaB zc1 (pv 1) (zd6 rfl hLM rLM)) zae)))
   (zac (zap (i:=3) nd rfl (Or.inl rfl) (zaT zcz (zaH (pv 0) rfl) (zaS (zaZ (pv 0) T3.cl n2 G2 hr1 b2 .nil pass0 (zaa (pv 2) zae))) (zaS (pv 1))))
   (zai (zax (zaB zaQ (pv 2) (zaq zaC (by rfl) T.len b_len (zaa (zas G3 hr rfl m3 k3 b3 .nil pass0 (zaa (zaH (pv 0) rfl) (zaa (pv 3) (zaa (zaZ (zaH (pv 0) rfl) T4.cl n4 G4 hr1 b4 .nil pass0 (zaa (zau ix_list (zaH (pv 0) rfl) (pv 2) (fun _ _=>rfl)) zae)) zae)))) zae)))))),?_⟩
  dsimp only[cxOf,Cx.nox,Cx.wish]
  have big2:(100000:Nat)≤sizeLine:=by rw[sizeLine_eq];decide
  have hnl:=hP.nle
  have hxl:=hP.xl
  obtain ⟨hb1,hb6,htok,_⟩:=id hP.ok
  refine zbg fun D1 _ hR1 _ _=>zak fun U hU=>?_
  refine ⟨_,rfl,r,dx,_,rfl,hP.ins,zaV (by simp),_,rfl,_,_,rfl,rfl,z,r,dx,v,b,x,pt,ps,so,dxs,pr,pn,pw,tab,N,ks,(i:Int)-4,rfl,hP,fun far hfN hf1 hf2=>hU _ _ (zak fun U hU=>?_)⟩
  have hfar:far=0∨(runF b x far).at_+4≤i:=by
   rcases hf1 with h|h
   ·exact .inl h
   ·exact .inr (by omega)
  have hfi:(runF b x far).at_≤i:=by
   rcases hfar with h|h
   ·rw[h];exact Nat.zero_le _
   ·omega
  refine ⟨_,rfl,r,CP,dx,_,_,rfl,hP.ins,T3.cl,T3.nX,zbk v x pt ps so pw,_,rfl,r,dx,_,rfl,hP.ins,zaV (by simp),_,rfl,z,r,dx,v,b,x,pt,ps,so,dxs,pr,pn,pw,tab,N,ks,far,rfl,hP,hfN,_,rfl,_,rfl,_,rfl,x,rfl,by omega,?_⟩
  have ecut:cutS x (some ((runF b x far).at_:Int)) (some (i:Int))=cutS x (some ((runF b x far).at_:Int)) (some (((runF b x far).at_:Int)+((i-(runF b x far).at_:Nat):Int))):=by
   congr 2
   omega
  have hnear:=zcD x (runF b x far).at_ (i-(runF b x far).at_)
  rw[←ecut] at hnear
  clear ecut
  generalize cutS x (some ((runF b x far).at_:Int)) (some (i:Int))=near at hnear
  refine hU _ _ ?_
  have hnl2:near.length=i-(runF b x far).at_:=by rw[←zam,hnear,List.length_take,List.length_drop,zam];omega
  obtain ⟨kf,hkf,hst⟩:=hP.st far hfN
  have rok:=zbn (x:=x) htok hb1 far
  have hdl:=rok.dl
  refine ⟨_,rfl,_,rfl,r,CP,dx,_,_,rfl,hP.ins,T3.cl,T3.nB,zie v x pt ps so pw,_,rfl,_,rfl,r,CP,dx,_,_,rfl,hP.ins,T3.cl,T3.nG,zby v x pt ps so pw,so,dxs,_,rfl,hP.sd.ins,zeE (by simp),?_⟩
  refine ⟨_,rfl,r,CP,dx,_,_,rfl,hP.ins,T3.cl,T3.nS,zcH v x pt ps so pw,_,rfl,ps,_,far,_,rfl,rfl,SqL.of hP.stands,zah (by rw[List.getElem?_map,hkf];rfl),z,so,dxs,pr,pn,tab,kf,(runF b x far).ds.map (·.2),rfl,hB,hP.sd,hst,by rw[List.length_map];omega,fun p dv H1 s1 np hp R1=>?_⟩
  have hpz:p≠z:=hB.ne np
  refine ⟨z,v,b,p,(runF b x far).ds,near,rfl,hB.same s1,hpz,hP.rb.mono s1.x,hP.ok,zjW hp R1,rok.bk,by omega,hL.same s1,fun pf fv n H2 b2 npf hpf hall hstop RF D2 B2 L2=>?_⟩
  have hfl:fv.length=n:=by
   have:=RF.length
   rw[List.length_map,zjX (fun j hj=>(hall j hj).1)] at this
   exact this
  refine ⟨pf,fv,rfl,.inl (SqL.of hpf),_,_,rfl,rfl,hR1 _ _ ?_⟩
  have hkept:KeptS b x i (far+n):=fun y hy=>by
   have hyl:y.length=i:=by rw[←zam,hy,List.length_take,zam];omega
   have hy2:y.cps.toList=x.cps.toList.take (runF b x far).at_++near.cps.toList:=by
    rw[hy,hnear,←List.take_add]
    congr 1
    omega
   have hp2:(x.cps.toList.take (runF b x far).at_).length=(runF b x far).at_:=by
    rw[List.length_take,zam]
    omega
   exact ⟨zii hP.ok (x:=x) (y:=y) (near:=near) (more:=x.cps.toList.drop i) (pre:=x.cps.toList.take (runF b x far).at_) (by rw[hy,List.take_append_drop]) hP.run hfN (by rw[hyl];exact hfar) hy2 hp2 hall,
    zij hP.ok (x:=x) (y:=y) (near:=near) (more:=x.cps.toList.drop i) (pre:=x.cps.toList.take (runF b x far).at_) (by rw[hy,List.take_append_drop]) hP.run hfN (by rw[hyl];exact hfar) hy2 hp2 hall hstop⟩
  obtain ⟨y,hy⟩:∃y:Str,y.cps.toList=x.cps.toList.take i:=⟨⟨(x.cps.toList.take i).toArray⟩,by simp⟩
  have hyl:y.length=i:=by rw[←zam,hy,List.length_take,zam];omega
  have hst:=zbH (b:=b) (y:=y) (y':=x) (more:=x.cps.toList.drop i) (n:=far+n) (by rw[hy,List.take_append_drop]) (hkept y hy).all
  have hKN:far+n≤N:=by
   by_cases q:far+n≤N
   ·exact q
   ·exfalso
    have h1:=(hst N (by omega)).1
    have h2:=((hkept y hy).all N (by omega)).1
    have h3:=hP.run.at_
    omega
  have hle:(runF b x (far+n)).at_≤i:=by
   rw[(hst _ (Nat.le_refl _)).1,←hyl]
   exact (zbn (x:=y) htok hb1 (far+n)).le
  have e:(far:Int)+(fv.length:Int)=((far+n:Nat):Int):=by omega
  show Q (.int ((far:Int)+(fv.length:Int))) H2
  rw[e]
  exact k (far+n) H2 hKN hle hkept (fun b' o hb' e'=>b2 b' o (zad e' np) hb' (s1 b' o e')) B2 L2
end T1
namespace L2
open PySem PySem.Spec PyProof.Rows
theorem zkM {P:Program}{w:World}{sh:List Bool}{a c:Addr}{kvs:List NEnt}{q:Str}:¬dN P w sh a kvs=cdO c q:=by
 intro e
 unfold dN cdO at e
 injection e with e
 obtain ⟨o,hd⟩:∃o:Obj,o={ cls:=.type "dict",data:=.fields #[.none,.str q 0] }:=⟨_,rfl⟩
 have hg:(⟨Array.replicate (c+1) o,{}⟩:Heap).get? c=some o:=by
  unfold Heap.get?
  rw[show (⟨Array.replicate (c+1) o,{}⟩:Heap).objs=Array.replicate (c+1) o from rfl,Array.getElem?_replicate,if_pos (Nat.lt_succ_self c),hd]
 have g:(⟨Array.replicate (c+1) o,{}⟩:Heap).CodeRec (.ref c) q:=⟨c,o,#[.none,.str q 0],_,rfl,hg,by rw[hd],rfl⟩
 have e:=congrFun e (⟨Array.replicate (c+1) o,{}⟩:Heap)
 rw[←e] at g
 obtain ⟨_,_,xs,_,o2,es,ep,ho,_,hd2,_⟩:=g
 have h2:o2=o:=by
  unfold Heap.get? at ho
  rw[show (⟨Array.replicate (c+1) o,{}⟩:Heap).objs=Array.replicate (c+1) o from rfl,Array.getElem?_replicate] at ho
  by_cases q2:a<c+1
  ·rw[if_pos q2,hd] at ho
   rw[hd]
   injection ho with ho
   exact ho.symm
  ·rw[if_neg q2] at ho
   cases ho
 rw[h2,hd] at hd2
 cases hd2
end L2
namespace T1
open PySem L2
variable {P:Program}{w:World}{K:W.Frag}{mg:Str→Option Value}{base:Heap}
structure PgM (P:Program) (w:World) (z CP CS:Addr) (H:Hp) (r dx:Addr) (v:V) (b:Bk) (x x':Str) (pt ps so dxs pr pn pw:Addr) (tab:List Rws) (N:Nat) (ks:List Nat):Prop where
 ins:H r=some (.ins CP dx (pgF v x' pt ps so pw))
 rb:Rep z H v (bkD b)
 ok:BkOk b
 run:RunN b x N
 told:∃tv,H pt=some (.lst tv)∧Reps z H tv ((runF b x N).ss.map stD)
 stands:H ps=some (.lst (ks.map fun k:Nat=>V.int (k:Int)))
 kl:ks.length=N+1
 st:∀j,j≤N→∃k,ks[j]?=some k∧Stands tab k ((runF b x j).ds.map (·.2))
 sd:StdS P w z CS H so dxs pr pn tab
 xl:x.length≤2000
 xl':x'.length≤2000
 nes:(pt≠pr∧ps≠pr∧pw≠pr)∧(pt≠z∧ps≠z∧pw≠z)∧(pw≠pt∧pw≠ps)
structure RaC (z CP:Addr) (H:Hp) (r dx:Addr) (v:V) (b:Bk) (x x':Str) (pt ps so pw el:Addr) (N:Nat) (ks:List Nat) (kvs:List (Key×V)):Prop where
 ins:H r=some (.ins CP dx (pgF v x' pt ps so pw))
 rb:Rep z H v (bkD b)
 told:∃tv,H pt=some (.lst tv)∧Reps z H tv ((runF b x N).ss.map stD)
 stands:H ps=some (.lst (ks.map fun k:Nat=>V.int (k:Int)))
 eld:H el=some (.dK kvs)
theorem RaC.keep {z CP:Addr}{H H':Hp}{r dx:Addr}{v:V}{b:Bk}{x x':Str}{pt ps so pw el:Addr}{N:Nat}{ks:List Nat}{kvs:List (Key×V)}(h:RaC z CP H r dx v b x x' pt ps so pw el N ks kvs){S:Addr→Prop}(k:KeepE S H H') (n:NoTup S H) (h1:¬S r) (h2:¬S pt) (h3:¬S ps) (h4:¬S el):RaC z CP H' r dx v b x x' pt ps so pw el N ks kvs:=by
 obtain ⟨tv,g1,g2⟩:=h.told
 exact ⟨k _ _ h1 h.ins,Rep.keep k n h.rb (.tup (zbp _)),⟨tv,k _ _ h2 g1,Reps.keep k n g2 (za5 _)⟩,k _ _ h3 h.stands,k _ _ h4 h.eld⟩
structure NewS (b:Bk) (x':Str) (tab:List Rws) (j:Nat) (ks:List Nat):Prop where
 len:ks.length=j+1
 st:∀l,l≤j→∃k,ks[l]?=some k∧Stands tab k ((runF b x' l).ds.map (·.2))
theorem NewS.mono {b:Bk}{x':Str}{tab:List Rws}{j:Nat}{ks:List Nat}(h:NewS b x' tab j ks) (more:List Rws):NewS b x' (tab++more) j ks:=⟨h.len,fun l hl=>by
 obtain ⟨k,e,s⟩:=h.st l hl
 exact ⟨k,e,s.mono more⟩⟩
theorem NewS.snoc {b:Bk}{x':Str}{tab:List Rws}{j k:Nat}{ks:List Nat}(h:NewS b x' tab j ks) (s:Stands tab k ((runF b x' (j+1)).ds.map (·.2))):NewS b x' tab (j+1) (ks++[k]):=⟨by rw[List.length_append,h.len];rfl,fun l hl=>by
 by_cases q:l≤j
 ·obtain ⟨k',e,s'⟩:=h.st l q
  exact ⟨k',by rw[List.getElem?_append_left (by rw[h.len];omega)];exact e,s'⟩
 ·have e:l=j+1:=by omega
  subst e
  exact ⟨k,by rw[List.getElem?_append_right (by rw[h.len];omega),h.len,Nat.sub_self];rfl,s⟩⟩
structure RaS (P:Program) (w:World) (tb z CP CS:Addr) (H0 H:Hp) (r dx:Addr) (v:V) (b:Bk) (x x':Str) (pt ps so dxs pr pn pw el:Addr) (tab0 tab:List Rws) (N:Nat) (ks:List Nat) (kvs:List (Key×V)) (pT pS q:Addr) (K j i:Nat) (ks':List Nat):Prop where
 core:RaC z CP H r dx v b x x' pt ps so pw el N ks kvs
 bag:Bag z H
 lam:LamTb tb H
 keep:KeepE (fun a=>a=pr∨a=pn∨a=tb) H0 H
 sd:StdS P w z CS H so dxs pr pn tab
 ext:∃more,tab=tab0++more∧more.length≤i-K
 new:∃fv,H pT=some (.lst fv)∧Reps z H fv ((runF b x' j).ss.map stD)
 hS:H pS=some (.lst (ks'.map fun k:Nat=>V.int (k:Int)))
 ns:NewS b x' tab i ks'
 ds:PDs z H q (runF b x' j).ds
 jK:K≤i
structure Fresh3 (H0:Hp) (pT pS q:Addr):Prop where
 t:H0 pT=none
 s:H0 pS=none
 u:H0 q=none
 ts:pT≠pS
 tq:pT≠q
 sq:pS≠q
theorem zce {tb:Addr}{H H':Hp}{S:Addr→Prop}(h:LamTb tb H) (k:KeepE S H H') (h1:¬S tb) (h2:∀a,S a→∀c q,H a≠some (cdO c q)):LamTb tb H':=by
 rcases h with h|⟨c',h,g⟩
 ·exact .inl (k _ _ h1 h)
 ·exact .inr ⟨c',k _ _ h1 h,k _ _ (fun e=>h2 c' e _ _ g) g⟩
theorem zdH {tb a:Addr}{H:Hp}{l l':List V}(h:LamTb tb H) (ha:H a=some (.lst l)):LamTb tb (upd H a (.lst l')):=by
 obtain ⟨ps,ht⟩:=h.tbl
 refine zce h (S:=fun b=>b=a) (fun b o hb e=>by rw[zaj hb];exact e) (fun e=>(zan ht ha (by intro q;cases q)) e) (fun b hb c q e=>?_)
 rw[show b=a from hb,ha] at e
 cases e
theorem zaE {H:Hp}{a:Addr}{o:HO}(h:H a=some o) (n:∀xs,o≠.tup xs):NoTup (fun b=>b=a) H:=fun b xs e g=>by
 rw[show b=a from e,h] at g
 injection g with g
 exact n xs g
theorem zbl {H:Hp}{S T:Addr→Prop}(h:NoTup S H) (g:NoTup T H):NoTup (fun b=>S b∨T b) H:=fun b xs e=>e.elim (h b xs) (g b xs)
theorem zaN {H:Hp}{a:Addr}{o:HO}:KeepE (fun b=>b=a) H (upd H a o):=fun b o' hb e=>by rw[zaj hb];exact e
theorem Fresh3.ne {H0:Hp}{pT pS q a:Addr}{o:HO}(F:Fresh3 H0 pT pS q) (h:H0 a=some o):a≠pT∧a≠pS∧a≠q:=⟨zad h F.t,zad h F.s,zad h F.u⟩
structure At0 (P:Program) (w:World) (tb z CP CS:Addr) (H0:Hp) (r dx:Addr) (v:V) (b:Bk) (x x':Str) (pt ps so dxs pr pn pw el:Addr) (tab0:List Rws) (N:Nat) (ks:List Nat) (kvs:List (Key×V)) (pT pS q:Addr):Prop where
 core:RaC z CP H0 r dx v b x x' pt ps so pw el N ks kvs
 bag:Bag z H0
 lam:LamTb tb H0
 sd:StdS P w z CS H0 so dxs pr pn tab0
 ok:BkOk b
 fr:Fresh3 H0 pT pS q
 npr:pt≠pr∧ps≠pr
section
variable {P:Program}{w:World}{tb z CP CS:Addr}{H0 H:Hp}{r dx:Addr}{v:V}{b:Bk}{x x':Str}{pt ps so dxs pr pn pw el:Addr}{tab0 tab:List Rws}{N:Nat}{ks:List Nat}{kvs:List (Key×V)}{pT pS q:Addr}{K j i:Nat}{ks':List Nat}
theorem At0.nes (A:At0 P w tb z CP CS H0 r dx v b x x' pt ps so dxs pr pn pw el tab0 N ks kvs pT pS q):(r≠pT∧r≠pS∧r≠q)∧(pt≠pT∧pt≠pS∧pt≠q)∧(ps≠pT∧ps≠pS∧ps≠q)∧(el≠pT∧el≠pS∧el≠q)∧(so≠pT∧so≠pS∧so≠q)∧(pr≠pT∧pr≠pS∧pr≠q)∧(pn≠pT∧pn≠pS∧pn≠q)∧(tb≠pT∧tb≠pS∧tb≠q)∧(z≠pT∧z≠pS∧z≠q):=by
 obtain ⟨tv,g1,_⟩:=A.core.told
 obtain ⟨as,e1,_,e3⟩:=A.sd.ex
 obtain ⟨ps0,ht⟩:=A.lam.tbl
 obtain ⟨c,d,hz⟩:=A.bag
 exact ⟨A.fr.ne A.core.ins,A.fr.ne g1,A.fr.ne A.core.stands,A.fr.ne A.core.eld,A.fr.ne A.sd.ins,A.fr.ne e1,A.fr.ne e3,A.fr.ne ht,A.fr.ne hz⟩
theorem RaS.read (A:At0 P w tb z CP CS H0 r dx v b x x' pt ps so dxs pr pn pw el tab0 N ks kvs pT pS q) (W:RaS P w tb z CP CS H0 H r dx v b x x' pt ps so dxs pr pn pw el tab0 tab N ks kvs pT pS q K j i ks') (hlt:(runF b x' j).at_<x'.length)
  {p:Addr} {H4:Hp} (s4:But2 q tb H H4) (np:H p=none) (hp:H4 p=some (.tup (stV (za9 b x' j)))) (D4:PDs z H4 q (stepL b (runF b x' j).ds x' (runF b x' j).at_ (bestL b (runF b x' j).ds x' (runF b x' j).at_)).2) (L4:LamTb tb H4) {fv:List V} (hT:H pT=some (.lst fv)) (RT:Reps z H fv ((runF b x' j).ss.map stD)) :
  H4 pT=some (.lst fv)∧RaS P w tb z CP CS H0 (upd H4 pT (.lst (fv++[.ref p]))) r dx v b x x' pt ps so dxs pr pn pw el tab0 tab N ks kvs pT pS q K (j+1) i ks'∧upd H4 pT (.lst (fv++[.ref p])) p=some (.tup (stV (za9 b x' j))):=by
 obtain ⟨⟨r1,r2,r3⟩,⟨t1,t2,t3⟩,⟨s1,s2,s3⟩,⟨e1,e2,e3⟩,⟨o1,o2,o3⟩,⟨p1,p2,p3⟩,⟨n1,n2,n3⟩,⟨b1,b2,b3⟩,z1,z2,z3⟩:=A.nes
 obtain ⟨ps0,ht⟩:=W.lam.tbl
 obtain ⟨tv,g1,_⟩:=W.core.told
 obtain ⟨as,a1,_,a3⟩:=W.sd.ex
 obtain ⟨dv,hq,_⟩:=id W.ds
 obtain ⟨hb1,hb6,htok,_⟩:=id A.ok
 have k4:KeepE (fun a=>a=q∨a=tb) H H4:=fun b o hb e=>s4 b o (fun c=>hb (.inl c)) (fun c=>hb (.inr c)) e
 have n4:NoTup (fun a=>a=q∨a=tb) H:=zbl (zaE hq (by intro xs c;cases c)) (zaE ht (by intro xs c;cases c))
 have no:∀ {a:Addr},a≠q→a≠tb→¬(a=q∨a=tb):=fun h g c=>c.elim h g
 have hT4:H4 pT=some (.lst fv):=s4 _ _ A.fr.tq b1.symm hT
 have C4:=W.core.keep k4 n4 (no r3 (zan W.core.ins ht (by intro c;cases c))) (no t3 (zan g1 ht (by intro c;cases c))) (no s3 (zan W.core.stands ht (by intro c;cases c))) (no e3 (zan W.core.eld ht (by intro c;cases c)))
 have S4:=W.sd.keep k4 n4 (no o3 (zan W.sd.ins ht (by intro c;cases c))) (no p3 (zan a1 ht (by intro c;cases c))) (no n3 (zan a3 ht (by intro c;cases c)))
 have nT:=zaE hT4 (by intro xs c;cases c)
 have R4:=Reps.keep k4 n4 RT (za5 _)
 have hpz:p≠z:=W.bag.ne np
 have hpT:p≠pT:=(zad hT np).symm
 obtain ⟨q1,q2,q3,q4,q5,q6⟩:=za4 (x:=x') htok (zbn (x:=x') htok hb1 j).bk hb1 hlt
 have hp5:upd H4 pT (.lst (fv++[.ref p])) p=some (.tup (stV (za9 b x' j))):=by rw[zaj hpT];exact hp
 refine ⟨hT4,⟨C4.keep zaN nT r1 t1 s1 e1,?_,?_,?_,S4.keep zaN nT o1 p1 n1,W.ext,⟨_,zab,?_⟩,?_,W.ns,?_,W.jK⟩,hp5⟩
 ·obtain ⟨c,d,hz⟩:=W.bag
  exact ⟨c,d,by rw[zaj z1];exact s4 _ _ z3 (zan hz ht (by intro c;cases c)) hz⟩
 ·exact zdH L4 hT4
 ·intro a o ha e
  have h1:=W.keep a o ha e
  obtain ⟨f1,f2,f3⟩:=A.fr.ne e
  rw[zaj f1]
  exact s4 a o f3 (fun c=>ha (.inr (.inr c))) h1
 ·rw[zb1 hlt,List.map_append]
  refine Reps.updL hT4 (R4.append (.cons ?_ .nil)) ((za5 _).append (za5 [_]))
  exact zh6 hp hpz (by omega)
 ·rw[zaj A.fr.ts.symm]
  exact s4 _ _ A.fr.sq b2.symm W.hS
 ·rw[zdC hlt]
  obtain ⟨dv4,h1,h2⟩:=D4
  exact ⟨dv4,by rw[zaj A.fr.tq.symm];exact h1,Reps.updL hT4 h2 (zcm _)⟩
theorem RaS.behind (A:At0 P w tb z CP CS H0 r dx v b x x' pt ps so dxs pr pn pw el tab0 N ks kvs pT pS q) (W:RaS P w tb z CP CS H0 H r dx v b x x' pt ps so dxs pr pn pw el tab0 tab N ks kvs pT pS q K (j+1) j ks')
  {k':Nat} {tab':List Rws} {H6:Hp} (ht:tab'=tab∨∃r,tab'=tab++[r]) (s:Stands tab' k' ((runF b x' (j+1)).ds.map (·.2))) (k6:KeepE (fun a=>a=pr∨a=pn) H H6) (S6:StdS P w z CS H6 so dxs pr pn tab') :
  H6 pS=some (.lst (ks'.map fun k:Nat=>V.int (k:Int)))∧RaS P w tb z CP CS H0 (upd H6 pS (.lst ((ks'++[k']).map fun k:Nat=>V.int (k:Int)))) r dx v b x x' pt ps so dxs pr pn pw el tab0 tab' N ks kvs pT pS q K (j+1) (j+1) (ks'++[k']):=by
 obtain ⟨⟨r1,r2,r3⟩,⟨t1,t2,t3⟩,⟨s1,s2,s3⟩,⟨e1,e2,e3⟩,⟨o1,o2,o3⟩,⟨p1,p2,p3⟩,⟨n1,n2,n3⟩,⟨b1,b2,b3⟩,z1,z2,z3⟩:=A.nes
 obtain ⟨ps0,hb⟩:=W.lam.tbl
 obtain ⟨tv,g1,_⟩:=W.core.told
 obtain ⟨as,a1,_,a3⟩:=W.sd.ex
 obtain ⟨fv,hT,RT⟩:=W.new
 obtain ⟨dv,hq,RD⟩:=W.ds
 obtain ⟨more,em,hm⟩:=W.ext
 have n6:NoTup (fun a=>a=pr∨a=pn) H:=zbl (zaE a1 (by intro xs c;cases c)) (zaE a3 (by intro xs c;cases c))
 have no:∀ {a:Addr},a≠pr→a≠pn→¬(a=pr∨a=pn):=fun h g c=>c.elim h g
 have C6:=W.core.keep k6 n6 (no (zan W.core.ins a1 (by intro c;cases c)) (zan W.core.ins a3 (by intro c;cases c))) (no A.npr.1 (zan g1 a3 (by intro c;cases c))) (no A.npr.2 (zan W.core.stands a3 (by intro c;cases c))) (no (zan W.core.eld a1 (by intro c;cases c)) (zan W.core.eld a3 (by intro c;cases c)))
 have hS6:H6 pS=some (.lst (ks'.map fun k:Nat=>V.int (k:Int))):=k6 _ _ (no p2.symm n2.symm) W.hS
 have nS:=zaE hS6 (by intro xs c;cases c)
 obtain ⟨c,d,hz⟩:=W.bag
 have L6:LamTb tb H6:=zce W.lam k6 (no (zan hb a1 (by intro c;cases c)) (zan hb a3 (by intro c;cases c))) (fun a ha c q e=>by
  rcases ha with ha|ha
  ·rw[ha,a1] at e;cases e
  ·rw[ha,a3] at e;injection e with e;exact zkM e)
 refine ⟨hS6,C6.keep zaN nS r2 t2 s2 e2,⟨c,d,by rw[zaj z2];exact k6 _ _ (no W.sd.prz.symm (zan hz a3 (by intro c;cases c))) hz⟩,zdH L6 hS6,fun a o ha e=>?_,S6.keep zaN nS o2 p2 n2,?_,⟨fv,?_,?_⟩,zab,?_,⟨dv,?_,?_⟩,Nat.le_succ_of_le W.jK⟩
 ·obtain ⟨f1,f2,f3⟩:=A.fr.ne e
  rw[zaj f2]
  exact k6 a o (fun c=>ha (c.elim .inl fun c=>.inr (.inl c))) (W.keep a o ha e)
 ·have hjK:=W.jK
  rcases ht with e|⟨rr,e⟩
  ·exact ⟨more,by rw[e,em],by omega⟩
  ·exact ⟨more++[rr],by rw[e,em,List.append_assoc],by rw[List.length_append];show more.length+1≤_;omega⟩
 ·rw[zaj A.fr.ts]
  exact k6 _ _ (no p1.symm n1.symm) hT
 ·exact Reps.updL hS6 (Reps.keep k6 n6 RT (za5 _)) (za5 _)
 ·rcases ht with e|⟨rr,e⟩
  ·rw[e] at s ⊢
   exact W.ns.snoc s
  ·rw[e] at s ⊢
   exact (W.ns.mono [rr]).snoc s
 ·rw[zaj A.fr.sq.symm]
  exact k6 _ _ (no p3.symm n3.symm) hq
 ·exact Reps.updL hS6 (Reps.keep k6 n6 RD (zcm _)) (zcm _)
end
theorem zgm (xs:List V){k:Nat}(h:k≤xs.length):cutV xs none (some (k:Int))=xs.take k:=by
 unfold cutV
 rw[HT.sIx_nat,HT.sIx_none,List.drop_zero,Nat.min_eq_left h,Nat.sub_zero]
theorem zgn (xs:List V){k:Nat}(h:k≤xs.length):cutV xs (some (k:Int)) none=xs.drop k:=by
 unfold cutV
 rw[HT.sIx_nat,HT.sIx_none,Nat.min_eq_left h]
 exact List.take_of_length_le (by rw[List.length_drop];exact Nat.le_refl _)
theorem zdI {b:Bk}{x:Str}:∀ {j:Nat},(∀l,l<j→(runF b x l).at_<x.length)→(runF b x j).ss.length=j
 |0,_=>rfl
 |j+1,h=>by
  rw[zb1 (h j (by omega)),List.length_append,zdI (j:=j) fun l hl=>h l (by omega)]
  rfl
theorem zjs {b:Bk}{x x':Str}{N n j:Nat}{d:Int}(ok:BkOk b) (run:RunN b x N) (hn:n≤N) (lt:∀l,l<j→(runF b x' l).at_<x'.length) (hat:((runF b x' j).at_:Int)=(runF b x n).at_+d) (he:x'.cps.toList.drop (runF b x' j).at_=x.cps.toList.drop (runF b x n).at_)
  (hor:n=N∨SamePd (runF b x' j).ds (runF b x n).ds) (hxl:(x'.length:Int)=x.length+d):RunN b x' (j+(N-n))∧(runF b x' (j+(N-n))).ss=(runF b x' j).ss++((runF b x N).ss.drop n).map (mvS d)∧∀k,1≤k→k≤N-n→SamePd (runF b x' (j+k)).ds (runF b x (n+k)).ds:=by
 obtain ⟨hb1,hb6,htok,_⟩:=id ok
 rcases hor with h|h
 ·subst h
  have h1:=run.at_
  have hl:=run.len n (Nat.le_refl _)
  rw[Nat.sub_self,Nat.add_zero,List.drop_eq_nil_of_le (by omega)]
  exact ⟨⟨by omega,lt⟩,by simp,fun k h1 h2=>by omega⟩
 ·obtain ⟨a1,a2,a3⟩:=zjo run hn he h (zbn (x:=x') htok hb1 j).le (zbn (x:=x) htok hb1 n).le lt
  refine ⟨a1,?_,fun k _ hk=>(a2 k hk).2⟩
  rw[a3]
  congr 3
  omega
theorem zkN {CS dxs CP dx pr pn:Addr}{v:V}{x:Str}{pt ps so pw:Addr}:¬HO.ins CS dxs (stF pr pn)=HO.ins CP dx (pgF v x pt ps so pw):=fun q=>by
 injection q with _ _ q
 have:(2:Nat)=6:=congrArg List.length q
 omega
def GoAt (b:Bk) (x x':Str) (N:Nat) (e d:Int) (l:Nat):Prop:=∃n:Nat,n≤N∧e≤((runF b x n).at_:Int)∧((runF b x' l).at_:Int)=(runF b x n).at_+d∧SamePd (runF b x' l).ds (runF b x n).ds
inductive zgo (P:Program) (w:World) (tb CP CS:Addr):List V→Hp→VK→XK→Prop where
 |mk {vs:List V} {H:Hp} {Q:VK} {E:XK} (z r dx:Addr) (v:V) (b:Bk) (x x':Str) (pt ps so dxs pr pn pw el:Addr) (tab:List Rws) (N:Nat) (ks:List Nat) (kvs:List (Key×V)) (K:Nat) (e d:Int)
  (c1:vs=[.ref r,.int K,.int (runF b x K).at_,.ref el,.int d]) (c2:PgM P w z CP CS H r dx v b x x' pt ps so dxs pr pn pw tab N ks) (c3:Bag z H) (c4:LamTb tb H) (c5:H el=some (.dK kvs)) (c6:EldK b x e d (N+1) kvs) (c7:K≤N)
  (c8:∀j,j≤K→(runF b x' j).at_=(runF b x j).at_∧SamePd (runF b x' j).ds (runF b x j).ds∧(runF b x' j).ss=(runF b x j).ss)
  (c9:(x'.length:Int)=x.length+d) (c10:∀a a':Nat,e≤(a:Int)→(a':Int)=a+d→x'.cps.toList.drop a'=x.cps.toList.drop a) (c11:e≤(x.length:Int)) (c12:tab.length+2000<8000000) (c13:∃wl,H pw=some (.lst wl))
  (c14:∀M n pt' ps' ks' tab' H',K≤M→n≤N→((runF b x' M).at_:Int)=(runF b x n).at_+d→e≤((runF b x n).at_:Int)→(n=N∨SamePd (runF b x' M).ds (runF b x n).ds)→(∀l,K≤l→l<M→¬GoAt b x x' N e d l)→(runF b x' (M+(N-n))).ss=(runF b x' M).ss++((runF b x N).ss.drop n).map (mvS d) →
   PgS P w z CP CS H' r dx v b x' pt' ps' so dxs pr pn pw tab' (M+(N-n)) ks'→tab'.length≤tab.length+2000→KeepE (fun a=>a=r∨a=pr∨a=pn∨a=tb) H H'→Bag z H'→LamTb tb H'→H pt'=none→H ps'=none→Q (.int (runF b x' M).at_) H'):zgo P w tb CP CS vs H Q E
theorem scAnew:zav ["self","kept","first","elder","longer","told","stands","doors","place","step","number"] ["self","kept","first","elder","longer"] (zag mAnew):=⟨rfl,rfl,rfl,by decide +kernel,rfl,by decide +kernel,by decide +kernel⟩
theorem ndSL:(["step","longer"]:List Str).Nodup:=by decide +kernel
theorem zkO {f g4 g5 g6 f1 f7 tb CP CS:Addr}{fd gd4 gd5 gd6 fd1 fd7:FuncData}(F:Fun K "read_anew" "Page.read_anew" mAnew f fd) (T:TxtB mg) (T3:TxtP K mg CP) (T4:TxtS K mg CS)
  (k1:W.keepIn K (.ref f1)=true) (b1:Binds K fd1 ["book","text","place","doors"] []) (m1:mg "read_step"=some (.ref f1)) (G1:FnOk P w K mg base CX0 4 f1 fd1 ["book","text","place","doors"] (zdD tb))
  (n4:Meth K CS "doors_by" g4) (b4:Binds K gd4 ["self","number"] []) (G4:FnOk P w K mg base CX0 1 g4 gd4 ["self","number"] (zb4 P w CS))
  (n5:Meth K CP "goes_on" g5) (b5:Binds K gd5 ["self","place","elder","stand"] []) (G5:FnOk P w K mg base CX0 1 g5 gd5 ["self","place","elder","stand"] (zdj CP))
  (n6:Meth K CP "stand_behind" g6) (b6:Binds K gd6 ["self","stand","step","doors"] []) (G6:FnOk P w K mg base CX0 2 g6 gd6 ["self","stand","step","doors"] (zdk P w CP CS))
  (k7:W.keepIn K (.ref f7)=true) (b7:Binds K fd7 ["step","by"] []) (m7:mg "moved"=some (.ref f7)) (G7:FnOk P w K mg base CX0 1 f7 fd7 ["step","by"] zex) :
  FnOk P w K mg base CX0 5 f fd ["self","kept","first","elder","longer"] (zgo P w tb CP CS):=by
 refine F.ok scAnew (fun vs H Q E h=>?_) (fun cdv A outer s H vs Q E hr h=>?_)
 ·obtain ⟨z,r,dx,v,b,x,x',pt,ps,so,dxs,pr,pn,pw,el,tab,N,ks,kvs,K',e,d,rfl,_⟩:=h
  rfl
 ·obtain ⟨z,r,dx,v,b,x,x',pt,ps,so,dxs,pr,pn,pw,el,tab,N,ks,kvs,Kk,e,d,rfl,hM,hB,hL,hel,hE,hKN,hkb,hxl,htl,heN,htab,⟨wl,hpw⟩,k⟩:=h
  have nd:=scAnew.nd
  have hr1:Room 1 _:=hr.mono (by decide)
  have hr2:Room 2 _:=hr.mono (by decide)
  have hr4:Room 4 _:=hr.mono (by decide)
  have hu:(A.deeper (PyProof.Rows.envOfC (Str.ofString "Page.read_anew") (zag mAnew) s.heap.objs.size f cdv)).units+1<cLine:=by have:=hr.un;omega
  refine ⟨_,zac (zap (i:=5) nd rfl (Or.inl rfl) (zaT zcO (zaH (pv 0) rfl) zbo (zaS (pv 1))))
   (zac (zap (i:=6) nd rfl (Or.inl rfl) (zaT zcO (zaH (pv 0) rfl) zbo (zaS (zaB zaQ (pv 1) zaf))))
   (zac (zap (i:=7) nd rfl (Or.inl rfl) (zaZ (zaH (pv 0) rfl) T4.cl n4 G4 hr1 b4 .nil pass0 (zaa (zau ix_list (pv 6) (pv 1) (fun _ _=>rfl)) zae)))
   (zac (zap (i:=8) nd rfl (Or.inl rfl) (pv 2))
   (zac (zcr PassesOwn.never (PW.pt (zdO (zaw zd9 (pv 8) (zaq zar (by rfl) T.len b_len (zaa (zaH (pv 0) rfl) zae)) (zaz _)) (zcM (zdP (zdN (zaZ (pv 0) T3.cl n5 G5 hr1 b5 .nil pass0 (zaa (pv 8) (zaa (pv 3) (zaa (zau ix_list (pv 6) (zbP zbf zaf) (fun _ _=>rfl)) zae)))))))))
    (zac (zap (i:=9) nd rfl (Or.inl rfl) (zas G1 hr4 rfl m1 k1 b1 .nil pass0 (zaa (zaH (pv 0) rfl) (zaa (zaH (pv 0) rfl) (zaa (pv 8) (zaa (pv 7) zae))))))
    (zac (zaO (zbU PySem.F.plainAttrs_list PySem.F.slot_list_append PySem.F.type_list_append zaK (pv 5) (zaa (pv 9) zae)))
    (zac (zaO (zbU PySem.F.plainAttrs_list PySem.F.slot_list_append PySem.F.type_list_append zaK (pv 6) (zaa (zaZ (pv 0) T3.cl n6 G6 hr2 b6 .nil pass0 (zaa (zau ix_list (pv 6) (zbP zbf zaf) (fun _ _=>rfl)) (zaa (pv 9) (zaa (pv 7) zae)))) zae)))
    (zai (zjC (i:=8) nd rfl (Or.inl rfl) (zau ix_tup (pv 9) zaf (fun _ _=>rfl)) zjD))))))
   (zac (zap (i:=10) nd rfl (Or.inl rfl) (zhp hu (pv 3) (pv 8) (fun _ _=>rfl)))
   (zac (zbT (pv 0) (zaB zdS (pv 5) (zbr (N':=["step","longer"]) (js:=[none,some 4]) rfl rfl (zbx (zag mAnew) (by decide +kernel)) ⟨rfl,Or.inr (Or.inl rfl),rfl,trivial⟩ (zbR (zaT zcO (zaH (pv 0) rfl) (zaS (pv 10)) zbo)) (fun cl s H fp=>zao (i:=0) ndSL rfl (Or.inl rfl)) (fun cl s H fp=>zbV) (fun cl s H fp=>zas G7 hr1 rfl m7 k7 b7 .nil pass0 (zaa (pv 0) (zaa (pv 1) zae))))) rfl)
   (zac (zbT (pv 0) (zaB zdS (pv 6) (zaT zcO (zaH (pv 0) rfl) (zaS (zaB zaQ (pv 10) zaf)) zbo)) rfl)
   (zai (zax (pv 8)))))))))),?_⟩
  dsimp only[cxOf,Cx.nox,Cx.wish]
  have big2:(100000:Nat)≤sizeLine:=by rw[sizeLine_eq];decide
  obtain ⟨tv,hpt,RT⟩:=hM.told
  refine zbg fun D1 _ hR1 _ _=>zak fun U hU=>?_
  obtain ⟨hb1,hb6,htok,_⟩:=id hM.ok
  have hxl0:=hM.xl
  have hxl1:=hM.xl'
  have hNl:(runF b x N).ss.length=N:=hM.run.len N (Nat.le_refl _)
  have htvl:tv.length=N:=by have:=RT.length;rw[List.length_map,hNl] at this;exact this
  have hks:=hM.kl
  have hN2:N≤2000:=by
   have h1:=(zbn (x:=x) htok hb1 N).sl
   have h2:=hM.run.at_
   omega
  refine ⟨_,rfl,r,CP,dx,_,_,rfl,hM.ins,T3.cl,T3.nT,zcq v x' pt ps so pw,_,rfl,_,rfl,pt,tv,rfl,SqL.of hpt,fun pT nT=>hU _ _ (zak fun U hU=>?_)⟩
  rw[zgm tv (by omega:Kk≤tv.length)] at *
  have s1:=Same.new (o:=.lst (tv.take Kk)) nT
  have hT1:upd H pT (.lst (tv.take Kk)) pT=some (.lst (tv.take Kk)):=zab
  generalize upd H pT (.lst (tv.take Kk))=H1 at s1 hT1
  refine ⟨_,rfl,r,CP,dx,_,_,rfl,s1 _ _ hM.ins,T3.cl,T3.nS,zcH v x' pt ps so pw,_,rfl,_,_,rfl,rfl,_,rfl,ps,_,rfl,SqL.of (s1 _ _ hM.stands),fun pS nS=>hU _ _ (zak fun U hU=>?_)⟩
  have ecs:cutV (ks.map fun k:Nat=>V.int (k:Int)) none (some ((Kk:Int)+1))=(ks.take (Kk+1)).map fun k:Nat=>V.int (k:Int):=by
   have:=zgm (ks.map fun k:Nat=>V.int (k:Int)) (k:=Kk+1) (by rw[List.length_map];omega)
   rw[List.map_take]
   exact this
  rw[ecs]
  have s2:=Same.new (o:=.lst ((ks.take (Kk+1)).map fun k:Nat=>V.int (k:Int))) nS
  have hS2:upd H1 pS (.lst ((ks.take (Kk+1)).map fun k:Nat=>V.int (k:Int))) pS=some (.lst ((ks.take (Kk+1)).map fun k:Nat=>V.int (k:Int))):=zab
  generalize upd H1 pS (.lst ((ks.take (Kk+1)).map fun k:Nat=>V.int (k:Int)))=H2 at s2 hS2
  have s12:=s1.trans s2
  obtain ⟨kK,hkK,hstK⟩:=hM.st Kk hKN
  have rokK:=zbn (x:=x) htok hb1 Kk
  have hdlK:=rokK.dl
  have hleK:=rokK.le
  refine ⟨_,rfl,r,CP,dx,_,_,rfl,s12 _ _ hM.ins,T3.cl,T3.nG,zby v x' pt ps so pw,so,dxs,_,rfl,s12 _ _ hM.sd.ins,zeE (by simp),?_⟩
  have egK:((ks.take (Kk+1)).map fun k:Nat=>V.int (k:Int))[Kk]?=some (.int kK):=by
   rw[List.getElem?_map,List.getElem?_take_of_lt (Nat.lt_succ_self _),hkK]
   rfl
  refine ⟨_,rfl,_,rfl,pS,_,Kk,_,rfl,rfl,SqL.of hS2,zah egK,z,so,dxs,pr,pn,tab,kK,(runF b x Kk).ds.map (·.2),rfl,hB.same s12,hM.sd.same s12,hstK,by rw[List.length_map];omega,fun q dv H3 s3 nq hq R3=>hU _ _ (zak fun U hU=>?_)⟩
  have S3:=s12.trans s3
  refine ⟨_,rfl,hU _ _ ?_⟩
  have nq0:H q=none:=s12.free nq
  have nS0:H pS=none:=s1.free nS
  have A0:At0 P w tb z CP CS H r dx v b x x' pt ps so dxs pr pn pw el tab N ks kvs pT pS q:=⟨⟨hM.ins,hM.rb,hM.told,hM.stands,hel⟩,hB,hL,hM.sd,hM.ok,⟨nT,nS0,nq0,zad hT1 nS,zad (s2 _ _ hT1) nq,zad hS2 nq⟩,hM.nes.1.1,hM.nes.1.2.1⟩
  obtain ⟨kb1,kb2,kb3⟩:=hkb Kk (Nat.le_refl _)
  have W0:RaS P w tb z CP CS H H3 r dx v b x x' pt ps so dxs pr pn pw el tab tab N ks kvs pT pS q Kk Kk Kk (ks.take (Kk+1)):=by
   refine ⟨⟨S3 _ _ hM.ins,hM.rb.mono S3.x,⟨tv,S3 _ _ hpt,RT.mono S3.x⟩,S3 _ _ hM.stands,S3 _ _ hel⟩,hB.same S3,hL.same S3,fun a o _ e=>S3 a o e,hM.sd.same S3,⟨[],by simp,Nat.zero_le _⟩,⟨tv.take Kk,s3 _ _ (s2 _ _ hT1),?_⟩,s3 _ _ hS2,⟨?_,fun l hl=>?_⟩,?_,Nat.le_refl _⟩
   ·rw[kb3,hM.run.take hKN,List.map_take]
    exact (RT.mono S3.x).take Kk
   ·rw[List.length_take]
    omega
   ·obtain ⟨kl,h1,h2⟩:=hM.st l (by omega)
    exact ⟨kl,by rw[List.getElem?_take_of_lt (by omega)];exact h1,by rw[show (runF b x' l).ds.map (·.2)=(runF b x l).ds.map (·.2) from (hkb l hl).2.1];exact h2⟩
   ·rw[←show (runF b x' Kk).ds.map (·.2)=(runF b x Kk).ds.map (·.2) from kb2] at R3
    exact zjW hq R3
  have hlt0:∀l,l<Kk→(runF b x' l).at_<x'.length:=fun l hl=>by
   have h1:=(hkb l (by omega)).1
   have h3:=hM.run.mono hM.ok (i:=l) (j:=Kk) hl hKN
   have h4:=(zbn (x:=x') htok hb1 Kk).le
   omega
  have hzq:=(A0.nes).2.2.2.2.2.2.2.2.2.2.symm
  clear hkb egK ecs R3 hq s3 s2 s1 s12 hT1 hS2 nq nS hstK hkK
  refine zhk (J:=fun σ' H'=>∃(j n:Nat) (tab':List Rws) (ks':List Nat) (u9:Option V),σ'=[some (.ref r),some (.int Kk),some (.int (runF b x Kk).at_),some (.ref el),some (.int d),some (.ref pT),some (.ref pS),some (.ref q),some (.int (runF b x' j).at_),u9,none] ∧
   RaS P w tb z CP CS H H' r dx v b x x' pt ps so dxs pr pn pw el tab tab' N ks kvs pT pS q Kk j j ks'∧(∀l,l<j→(runF b x' l).at_<x'.length)∧n≤N∧e≤((runF b x n).at_:Int)∧((runF b x' j).at_:Int)=(runF b x n).at_+d∧valV kvs (.inl ((runF b x' j).at_:Int))=some (.int n)∧(n=N∨SamePd (runF b x' j).ds (runF b x n).ds)∧(∀l,Kk≤l→l<j→¬GoAt b x x' N e d l)) (fun U hU=>?g1) ?g2
  case g1=>
   refine zcs (fun σ' H'=>∃(j:Nat) (tab':List Rws) (ks':List Nat) (u9:Option V),σ'=[some (.ref r),some (.int Kk),some (.int (runF b x Kk).at_),some (.ref el),some (.int d),some (.ref pT),some (.ref pS),some (.ref q),some (.int (runF b x' j).at_),u9,none] ∧
    RaS P w tb z CP CS H H' r dx v b x x' pt ps so dxs pr pn pw el tab tab' N ks kvs pT pS q Kk j j ks'∧(∀l,l<j→(runF b x' l).at_<x'.length)∧(∀l,Kk≤l→l<j→¬GoAt b x x' N e d l))
    (fun σ _=>match σ[8]? with|some (some (V.int i))=>x'.length-i.toNat|_=>0) ⟨Kk,tab,ks.take (Kk+1),none,by rw[kb1];rfl,W0,hlt0,fun l h1 h2=>by omega⟩ ?_ ?_
   ·rintro σ' H4 ⟨j,tab',ks',u9,rfl,W,hlt,hno⟩
    have rok:=zbn (x:=x') htok hb1 j
    have hle:=rok.le
    have hdl:=rok.dl
    have hsl:=rok.sl
    have hjc:=zdI hlt
    refine ⟨_,rfl,_,rfl,r,CP,dx,_,_,rfl,W.core.ins,T3.cl,T3.nX,zbk v x' pt ps so pw,x',rfl,by omega,_,_,rfl,rfl,_,rfl,?_⟩
    refine ite2 (fun g=>?_) (fun g=>?_)
    ·have g:(runF b x' j).at_<x'.length:=by have:=of_decide_eq_true g;omega
     obtain ⟨kj,hkj,hstj⟩:=W.ns.st j (Nat.le_refl _)
     have elast:atI (ks'.map fun k:Nat=>V.int (k:Int)) (-1)=some (.int (kj:Int)):=zh8 (m:=j) (by rw[List.length_map,W.ns.len]) (by rw[List.getD_eq_getElem?_getD,List.getElem?_map,hkj];rfl)
     refine ⟨_,rfl,r,dx,_,rfl,W.core.ins,zaV (by simp),_,rfl,_,rfl,_,rfl,1,rfl,pS,_,-1,_,rfl,rfl,SqL.of W.hS,elast,r,dx,v,x',pt,ps,so,pw,el,ks,kvs,(runF b x' j).at_,kj,rfl,W.core.ins,W.core.stands,W.core.eld,fun u hu'=>?_,fun gg hgg=>?_⟩
     ·obtain ⟨n,h1,h2,h3,h4⟩:=hE.all _ _ hu'
      exact ⟨n,ks[n],h3,by rw[List.getElem?_eq_getElem (by omega)]⟩
     ·refine ⟨_,rfl,?_⟩
      cases gg with
      |true=>
       refine iteF (hU _ _ ?_)
       obtain ⟨n,h1,h2⟩:=hgg.mp rfl
       obtain ⟨n',g1,g2,g3,g4⟩:=hE.all _ _ h1
       injection g3 with g3
       have e1:n=n':=by omega
       subst e1
       injection g4 with g4
       refine ⟨j,n,tab',ks',u9,rfl,W,hlt,by omega,g2,g4,h1,.inr ?_,hno⟩
       obtain ⟨kn,hkn,hsn⟩:=hM.st n (by omega)
       rw[h2] at hkn
       injection hkn with hkn
       subst hkn
       obtain ⟨more,em,_⟩:=W.ext
       rw[em] at hstj
       exact hstj.inj (hsn.mono more)
      |false=>
       have hno2:¬GoAt b x x' N e d j:=fun ⟨n,q1,q2,q3,q4⟩=>by
        have v1:=hE.has n (by omega) q2
        rw[←q3] at v1
        obtain ⟨kn,hkn,hsn⟩:=hM.st n q1
        obtain ⟨more,em,_⟩:=W.ext
        have q4:(runF b x' j).ds.map (·.2)=(runF b x n).ds.map (·.2):=q4
        rw[q4] at hstj
        have e1:kj=kn:=Stands.uniq W.sd.nod hstj (by rw[em];exact hsn.mono more)
        exact absurd (hgg.mpr ⟨n,v1,by rw[hkn,e1]⟩) (by decide)
       refine iteT ?_
       show (tSeq _ _) _ _ _
       refine zbg fun D2 hD2 _ _ _=>zak fun U1 hV=>?_
       refine ⟨_,rfl,r,CP,dx,_,_,rfl,W.core.ins,T3.cl,T3.nB,zie v x' pt ps so pw,_,rfl,r,CP,dx,_,_,rfl,W.core.ins,T3.cl,T3.nX,zbk v x' pt ps so pw,_,rfl,_,rfl,?_⟩
       refine ⟨z,v,b,q,(runF b x' j).ds,x',(runF b x' j).at_,rfl,W.bag,hzq,W.core.rb,hM.ok,W.ds,rok.bk,g,by omega,by omega,W.lam,fun p H5 s5 np hp D5 L5=>hV _ _ (zak fun U1 hV=>?_)⟩
       obtain ⟨fv,hT4,RF⟩:=W.new
       obtain ⟨hT5,W6,hp6⟩:=W.read A0 g s5 np hp D5 L5 hT4 RF
       have hfl:fv.length=(runF b x' j).ss.length:=by have:=RF.length;simpa using this
       refine ⟨_,rfl,.inl ⟨rfl,_,SqL.of hT5⟩,_,rfl,pT,fv,_,rfl,rfl,hT5,by omega,hV _ _ (zak fun U1 hV=>?_)⟩
       generalize upd H5 pT (.lst (fv++[.ref p]))=H6 at W6 hp6
       clear D5 L5 hp s5 np hT4 hT5 RF W
       have hcase:=zh7 hM.ok rok.bk g
       rw[←zdC g] at hcase
       obtain ⟨more,em,hml⟩:=W6.ext
       have hdl2:=(zbn (x:=x') htok hb1 (j+1)).dl
       have hle2:=(zbn (x:=x') htok hb1 (j+1)).le
       have htl2:tab'.length<8000000:=by rw[em,List.length_append];omega
       refine ⟨_,rfl,.inl ⟨rfl,_,SqL.of W6.hS⟩,?_⟩
       refine ⟨_,rfl,r,dx,_,rfl,W6.core.ins,zaV (by simp),_,rfl,1,rfl,pS,_,-1,_,rfl,rfl,SqL.of W6.hS,elast,_,rfl,_,rfl,?_⟩
       refine ⟨z,r,dx,v,b,x',x',pt,ps,so,dxs,pr,pn,pw,p,q,tab',(runF b x' j).at_,kj,(runF b x' j).ds,(runF b x' (j+1)).ds,za9 b x' j,rfl,W6.core.ins,hp6,W6.ds,W6.bag,W6.sd,hstj,hcase,by omega,htl2,fun k' tab'' H7 ht7 st7 k7 S7=>?_⟩
       obtain ⟨hS7,W8⟩:=W6.behind A0 ht7 st7 k7 S7
       obtain ⟨as,a1,_,a3⟩:=W6.sd.ex
       have hp7:=k7 _ _ (fun c=>c.elim (zan hp6 a1 (by intro c;cases c)) (zan hp6 a3 (by intro c;cases c))) hp6
       have hp8:upd H7 pS (.lst ((ks'++[k']).map fun k:Nat=>V.int (k:Int))) p=some (.tup (stV (za9 b x' j))):=by rw[zaj (zan hp7 hS7 (by intro c;cases c))];exact hp7
       have hksl:=W6.ns.len
       have emap:(ks'.map fun k:Nat=>V.int (k:Int))++[V.int (k':Int)]=(ks'++[k']).map fun k:Nat=>V.int (k:Int):=by rw[List.map_append];rfl
       refine ⟨pS,_,_,rfl,rfl,hS7,by rw[List.length_map];omega,?_⟩
       rw[emap]
       refine hV _ _ ?_
       generalize upd H7 pS (.lst ((ks'++[k']).map fun k:Nat=>V.int (k:Int)))=H8 at W8 hp8
       obtain ⟨p1,p2,p3,p4,p5,p6⟩:=za4 (x:=x') htok rok.bk hb1 g
       have eat:((runF b x' j).at_:Int)+(za9 b x' j).2.1=((runF b x' (j+1)).at_:Int):=by
        have e0:∀(a:Nat) (k:Int),1≤k→((a+k.toNat:Nat):Int)=(a:Int)+k:=fun a k hk=>by omega
        rw[zfk g]
        exact (e0 _ _ p1).symm
       refine ⟨_,rfl,_,rfl,p,_,1,_,rfl,rfl,SqT.of hp8,zah (j:=1) rfl,_,_,rfl,rfl,?_⟩
       dsimp only
       rw[eat]
       refine hD2 _ _ ⟨⟨j+1,tab'',ks'++[k'],_,rfl,W8,fun l hl=>?_,fun l h1 h2=>?_⟩,?_⟩
       ·by_cases q2:l=j
        ·rw[q2];exact g
        ·exact hlt l (by omega)
       ·by_cases q2:l=j
        ·rw[q2];exact hno2
        ·exact hno l h1 (by omega)
       ·show x'.length-((runF b x' (j+1)).at_:Int).toNat<x'.length-((runF b x' j).at_:Int).toNat
        have e1:1≤(za9 b x' j).2.1:=p1
        omega
    ·have hge:(runF b x' j).at_=x'.length:=by
      have:¬(runF b x' j).at_<x'.length:=fun q=>g (decide_eq_true (by omega))
      omega
     have hNa:=hM.run.at_
     have hvN:=hE.has N (by omega) (by omega)
     refine iteF (hU _ _ ⟨j,N,tab',ks',u9,rfl,W,hlt,Nat.le_refl _,by omega,by omega,?_,.inl rfl,hno⟩)
     rw[show ((runF b x' j).at_:Int)=((runF b x N).at_:Int)+d by omega]
     exact hvN
   ·rintro σ H3 Q1 Q2 hq ⟨v1,e1,v2,e2,a1,C1,d1,fs1,u1,f1,f2,f3,f4,f5,x2,e3,h4,i1,i2,e5,e6,b1,e7,h⟩
    refine ⟨v1,e1,v2,e2,a1,C1,d1,fs1,u1,f1,f2,f3,f4,f5,x2,e3,h4,i1,i2,e5,e6,b1,e7,?_⟩
    cases b1 with
    |false=>exact hq _ _ h
    |true=>
     obtain ⟨w1,g1,w2,w3,w4,g2,g3,g4,w5,g5,w6,g6,w7,g7,w8,g8,w9,w10,w11,w12,g9,g10,g11,g12,y1,y2,y3,y4,y5,y6,y7,y8,y9,y10,y11,y12,y13,c1,c2,c3,c4,c5,c6⟩:=h
     refine ⟨w1,g1,w2,w3,w4,g2,g3,g4,w5,g5,w6,g6,w7,g7,w8,g8,w9,w10,w11,w12,g9,g10,g11,g12,y1,y2,y3,y4,y5,y6,y7,y8,y9,y10,y11,y12,y13,c1,c2,c3,c4,c5,fun gg hg=>?_⟩
     obtain ⟨c,ec,h⟩:=c6 gg hg
     exact ⟨c,ec,hq _ _ h⟩
  case g2=>
   rintro σ' H4 ⟨j,n,tab',ks',u9,rfl,W,hlt,hn,hen,hat,hval,hor,hno⟩
   have rok:=zbn (x:=x') htok hb1 j
   have hle:=rok.le
   have hsl:=rok.sl
   have hjc:=zdI hlt
   obtain ⟨run',hss,hpd⟩:=zjs hM.ok hM.run hn hlt hat (htl _ _ hen hat) hor hxl
   have hg:DGet H4 el (.int ((runF b x' j).at_:Int)) (some (.int (n:Int))):=by rw[←hval];exact DGet.k (k:=.inl ((runF b x' j).at_:Int)) W.core.eld
   refine zak fun U hU=>?_
   refine ⟨_,rfl,_,rfl,el,_,rfl,hg,hU _ _ (zak fun U hU=>?_)⟩
   obtain ⟨tv4,hpt4,RT4⟩:=W.core.told
   have htv4:tv4.length=N:=by have:=RT4.length;rw[List.length_map,hNl] at this;exact this
   obtain ⟨fv,hT4,RF⟩:=W.new
   have hfl:fv.length=j:=by have:=RF.length;rw[List.length_map,hjc] at this;exact this
   refine ⟨_,rfl,_,rfl,r,CP,dx,_,_,rfl,W.core.ins,T3.cl,T3.nT,zcq v x' pt ps so pw,_,rfl,_,rfl,pt,tv4,rfl,SqL.of hpt4,fun pl npl=>?_⟩
   rw[zgn tv4 (by omega:n≤tv4.length)]
   have s5:=Same.new (o:=.lst (tv4.drop n)) npl
   have hl5:upd H4 pl (.lst (tv4.drop n)) pl=some (.lst (tv4.drop n)):=zab
   generalize upd H4 pl (.lst (tv4.drop n))=H5 at s5 hl5
   have RD5:Reps z H5 (tv4.drop n) (((runF b x N).ss.drop n).map stD):=by
    rw[List.map_drop]
    exact (RT4.mono s5.x).drop n
   refine ⟨pl,rfl,⟨_,SqL.of hl5⟩,fun pc npc=>?_⟩
   have hlc:pl≠pc:=zad hl5 npc
   have hdl:(tv4.drop n).length=((runF b x N).ss.drop n).length:=by have:=RD5.length;simpa using this
   refine zdZ (z:=z) (fun _=>true) (fun i=>stD (mvS d (((runF b x N).ss.drop n).getD i st0))) (fun σ=>∃u,σ=[u,some (.int d)]) ⟨none,rfl⟩ npc (by rw[List.length_drop];omega) (zb7 (xs:=tv4.drop n) (by rw[zaj hlc];exact hl5) hlc) (fun i=>zls _) (fun i σ H6 Ct Cf hi ⟨w1,hw⟩ s6 hCt _=>?_) (fun σ H6 vs s6 hC RC=>?_)
   ·subst hw
    obtain ⟨ay,e1,hayz,hay,hwl⟩:=zkG ((zkH (t:=i) RD5 (by omega)).mono s6.x)
    rw[e1]
    dsimp only[tYes,gName]
    rw[if_pos rfl]
    refine ⟨_,rfl,_,rfl,ay,d,((runF b x N).ss.drop n).getD i st0,rfl,hay,fun pm H7 s7 nm hm=>?_⟩
    exact hCt rfl _ (.ref pm) H7 ⟨_,rfl⟩ s7 (zh6 hm (((W.bag.same s5).same s6).ne nm) hwl)
   ·rw[List.filter_eq_self.mpr (fun _ _=>rfl),hdl,zji (fun s=>stD (mvS d s)) ((runF b x N).ss.drop n)] at RC
    have S6:=s5.trans s6
    have hvl:vs.length=N-n:=by
     have:=RC.length
     rw[List.length_map,List.length_drop,hNl] at this
     exact this
    refine ⟨pT,pc,fv,vs,rfl,rfl,S6 _ _ hT4,hC,by omega,fun p2 np2=>?_⟩
    have s7:=Same.new (o:=.lst (fv++vs)) np2
    have S7:=S6.trans s7
    have hp2:upd H6 p2 (.lst (fv++vs)) p2=some (.lst (fv++vs)):=zab
    have RN:Reps z (upd H6 p2 (.lst (fv++vs))) (fv++vs) ((runF b x' (j+(N-n))).ss.map stD):=by
     rw[hss,List.map_append]
     refine Reps.append (RF.mono S7.x) ?_
     rw[List.map_map]
     exact RC.mono s7.x
    have np2':=S6.free np2
    generalize upd H6 p2 (.lst (fv++vs))=H7 at s7 S7 hp2 RN
    refine ⟨_,rfl,r,CP,dx,_,rfl,S7 _ _ W.core.ins,T3.cl,T3.nT,by show (6:Nat)<1000;decide,?_⟩
    rw[zkK]
    have hr7:=S7 _ _ W.core.ins
    have kr:KeepE (fun a=>a=r) H7 (upd H7 r (.ins CP dx (pgF v x' p2 ps so pw))):=zaN
    have nr:NoTup (fun a=>a=r) H7:=zaE hr7 (by intro xs c;cases c)
    have hp28:upd H7 r (.ins CP dx (pgF v x' p2 ps so pw)) p2=some (.lst (fv++vs)):=by rw[zaj (zan hp2 hr7 (by intro c;cases c))];exact hp2
    have RN8:=Reps.keep kr nr RN (za5 _)
    have C7:RaC z CP H7 r dx v b x x' pt ps so pw el N ks kvs:=W.core.keep (S:=fun _=>False) (fun a o _ e=>S7 a o e) (fun _ _ h=>h.elim) id id id id
    have hps8:upd H7 r (.ins CP dx (pgF v x' p2 ps so pw)) ps=some (.lst (ks.map fun k:Nat=>V.int (k:Int))):=by rw[zaj (zan C7.stands hr7 (by intro c;cases c))];exact C7.stands
    have hS7:=S7 _ _ W.hS
    have hS8:upd H7 r (.ins CP dx (pgF v x' p2 ps so pw)) pS=some (.lst (ks'.map fun k:Nat=>V.int (k:Int))):=by rw[zaj (zan hS7 hr7 (by intro c;cases c))];exact hS7
    have rb8:=Rep.keep kr nr C7.rb (.tup (zbp _))
    have sd7:=W.sd.same S7
    obtain ⟨as,a1,_,a3⟩:=id sd7.ex
    have sd8:=sd7.keep kr nr (zan sd7.ins hr7 zkN) (zan a1 hr7 (by intro c;cases c)) (zan a3 hr7 (by intro c;cases c))
    have k8:KeepE (fun a=>a=r∨a=pr∨a=pn∨a=tb) H (upd H7 r (.ins CP dx (pgF v x' p2 ps so pw))):=fun a o ha e=>by
     rw[zaj (fun c=>ha (.inl c))]
     exact S7 a o (W.keep a o (fun c=>ha (.inr c)) e)
    have B8:Bag z (upd H7 r (.ins CP dx (pgF v x' p2 ps so pw))):=by
     obtain ⟨c,d',hz⟩:=W.bag.same S7
     exact ⟨c,d',by rw[zaj (zan hz hr7 (by intro c;cases c))];exact hz⟩
    have L8:LamTb tb (upd H7 r (.ins CP dx (pgF v x' p2 ps so pw))):=by
     obtain ⟨ps0,ht⟩:=(W.lam.same S7).tbl
     refine zce (W.lam.same S7) kr (zan ht hr7 (by intro c;cases c)) (fun a ha c q' e=>?_)
     rw[show a=r from ha,hr7] at e
     cases e
    have hr8:upd H7 r (.ins CP dx (pgF v x' p2 ps so pw)) r=some (.ins CP dx (pgF v x' p2 ps so pw)):=zab
    refine hU _ _ (zak fun U hU=>?_)
    generalize upd H7 r (.ins CP dx (pgF v x' p2 ps so pw))=H8 at *
    refine ⟨_,rfl,_,rfl,r,CP,dx,_,_,rfl,hr8,T3.cl,T3.nS,zcH v x' p2 ps so pw,_,rfl,_,_,rfl,rfl,_,rfl,ps,_,rfl,SqL.of hps8,fun pl2 npl2=>?_⟩
    have ecd:cutV (ks.map fun k:Nat=>V.int (k:Int)) (some ((n:Int)+1)) none=(ks.drop (n+1)).map fun k:Nat=>V.int (k:Int):=by
     have:=zgn (ks.map fun k:Nat=>V.int (k:Int)) (k:=n+1) (by rw[List.length_map];omega)
     rw[List.map_drop]
     exact this
    rw[ecd]
    have s9:=Same.new (o:=.lst ((ks.drop (n+1)).map fun k:Nat=>V.int (k:Int))) npl2
    have hl9:upd H8 pl2 (.lst ((ks.drop (n+1)).map fun k:Nat=>V.int (k:Int))) pl2=some (.lst ((ks.drop (n+1)).map fun k:Nat=>V.int (k:Int))):=zab
    generalize upd H8 pl2 (.lst ((ks.drop (n+1)).map fun k:Nat=>V.int (k:Int)))=H9 at s9 hl9
    have hksl:=W.ns.len
    refine ⟨pS,pl2,_,_,rfl,rfl,s9 _ _ hS8,hl9,by rw[List.length_map,List.length_map,List.length_drop];omega,fun p3 np3=>?_⟩
    have ecat:(ks'.map fun k:Nat=>V.int (k:Int))++((ks.drop (n+1)).map fun k:Nat=>V.int (k:Int))=(ks'++ks.drop (n+1)).map fun k:Nat=>V.int (k:Int):=by rw[List.map_append]
    rw[ecat]
    have s10:=s9.trans (Same.new (o:=.lst ((ks'++ks.drop (n+1)).map fun k:Nat=>V.int (k:Int))) np3)
    have hp3:upd H9 p3 (.lst ((ks'++ks.drop (n+1)).map fun k:Nat=>V.int (k:Int))) p3=some (.lst ((ks'++ks.drop (n+1)).map fun k:Nat=>V.int (k:Int))):=zab
    have np3':=s9.free np3
    generalize upd H9 p3 (.lst ((ks'++ks.drop (n+1)).map fun k:Nat=>V.int (k:Int)))=H10 at s10 hp3
    have hr10:=s10 _ _ hr8
    refine ⟨_,rfl,r,CP,dx,_,rfl,hr10,T3.cl,T3.nS,by show (6:Nat)<1000;decide,?_⟩
    rw[zif]
    have kr2:KeepE (fun a=>a=r) H10 (upd H10 r (.ins CP dx (pgF v x' p2 p3 so pw))):=zaN
    have nr2:NoTup (fun a=>a=r) H10:=zaE hr10 (by intro xs c;cases c)
    have hp210:=s10 _ _ hp28
    have sd10:=sd8.same s10
    obtain ⟨as8,c1,_,c3⟩:=id sd8.ex
    obtain ⟨as10,d1,_,d3⟩:=id sd10.ex
    obtain ⟨⟨w1,w2,w3⟩,⟨w4,w5,w6⟩,w7,w8⟩:=hM.nes
    obtain ⟨as0,h1,_,h3⟩:=id hM.sd.ex
    obtain ⟨ps0,ht0⟩:=hL.tbl
    have hpw4:H4 pw=some (.lst wl):=W.keep _ _ (fun c=>c.elim w3 fun c=>c.elim (zan hpw h3 (by intro c;cases c)) (zan hpw ht0 (by intro c;cases c))) hpw
    have hpw8:H8 pw=some (.lst wl):=k8 _ _ (fun c=>c.elim (zan hpw hM.ins (by intro c;cases c)) fun c=>c.elim w3 fun c=>c.elim (zan hpw h3 (by intro c;cases c)) (zan hpw ht0 (by intro c;cases c))) hpw
    obtain ⟨as4,f1',_,f3'⟩:=id W.sd.ex
    obtain ⟨more,em,hml⟩:=W.ext
    have hjK:=W.jK
    refine hU _ _ ⟨_,rfl,hR1 _ _ (k j n p2 p3 (ks'++ks.drop (n+1)) tab' _ hjK hn hat hen hor hno hss ⟨zab,Rep.keep kr2 nr2 (rb8.mono s10.x) (.tup (zbp _)),hM.ok,run',⟨fv++vs,by rw[zaj (zan hp210 hr10 (by intro c;cases c))];exact hp210,Reps.keep kr2 nr2 (RN8.mono s10.x) (za5 _)⟩,by rw[zaj (zan hp3 hr10 (by intro c;cases c))];exact hp3,by rw[List.length_append,List.length_drop];omega,fun l hl=>?_,sd10.keep kr2 nr2 (zan sd10.ins hr10 zkN) (zan d1 hr10 (by intro c;cases c)) (zan d3 hr10 (by intro c;cases c)),hM.xl',⟨⟨(zad f1' np2').symm,(zad c1 np3').symm,w3⟩,⟨W.bag.ne np2',B8.ne np3',w6⟩,zad hpw4 np2',zad hpw8 np3'⟩⟩ ?_ (fun a o ha e=>?_) ?_ ?_ ?_ ?_)⟩
    ·by_cases q2:l≤j
     ·obtain ⟨kl,g1,g2⟩:=W.ns.st l q2
      exact ⟨kl,by rw[List.getElem?_append_left (by omega)];exact g1,g2⟩
     ·obtain ⟨m,rfl⟩:∃m,l=j+m:=⟨l-j,by omega⟩
      obtain ⟨kl,g1,g2⟩:=hM.st (n+m) (by omega)
      refine ⟨kl,?_,?_⟩
      ·rw[List.getElem?_append_right (by omega),List.getElem?_drop,hksl]
       rw[show n+1+(j+m-(j+1))=n+m by omega]
       exact g1
      ·rw[em,show (runF b x' (j+m)).ds.map (·.2)=(runF b x (n+m)).ds.map (·.2) from hpd m (by omega) (by omega)]
       exact g2.mono more
    ·rw[em,List.length_append]
     omega
    ·rw[zaj (fun c=>ha (.inl c))]
     exact s10 a o (k8 a o ha e)
    ·obtain ⟨c,d',hz⟩:=B8.same s10
     exact ⟨c,d',by rw[zaj (zan hz hr10 (by intro c;cases c))];exact hz⟩
    ·obtain ⟨ps1,ht⟩:=(L8.same s10).tbl
     refine zce (L8.same s10) kr2 (zan ht hr10 (by intro c;cases c)) (fun a ha c q' e=>?_)
     rw[show a=r from ha,hr10] at e
     cases e
    ·cases q':H p2 with
     |none=>rfl
     |some o=>
      exfalso
      have h1':=W.keep p2 o (fun c=>?_) q'
      ·rw[h1'] at np2';cases np2'
      ·rcases c with c|c|c
       ·rw[c,f1'] at np2';cases np2'
       ·rw[c,f3'] at np2';cases np2'
       ·obtain ⟨ps4,ht4⟩:=W.lam.tbl
        rw[c,ht4] at np2';cases np2'
    ·cases q':H p3 with
     |none=>rfl
     |some o=>
      exfalso
      have h1':=k8 p3 o (fun c=>?_) q'
      ·rw[h1'] at np3';cases np3'
      ·rcases c with c|c|c|c
       ·rw[c,hr8] at np3';cases np3'
       ·rw[c,c1] at np3';cases np3'
       ·rw[c,c3] at np3';cases np3'
       ·obtain ⟨ps4,ht4⟩:=L8.tbl
        rw[c,ht4] at np3';cases np3'
theorem zfU (y:Str){k:Nat}(h:k≤y.length):(cutS y none (some (k:Int))).cps.toList=y.cps.toList.take k:=by
 have:=zcD y 0 k
 rw[List.drop_zero] at this
 rw[←this]
 unfold cutS
 rw[HT.sIx_none]
 have e1:HT.sIx y.length 0 (some ((0:Nat):Int))=0:=by rw[HT.sIx_nat];omega
 have e2:((0:Nat):Int)+(k:Int)=(k:Int):=by omega
 rw[e1,e2]
structure PutR (b:Bk) (x x':Str) (bg en:Nat) (t:Str) (N K M n:Nat) (d:Int):Prop where
 tx:x'.cps.toList=x.cps.toList.take bg++t.cps.toList++x.cps.toList.drop en
 dd:d=(t.length:Int)-((en:Int)-(bg:Int))
 kN:K≤N
 at_:(runF b x K).at_≤bg
 ak:(runF b x' K).at_=(runF b x K).at_
 sk:(runF b x' K).ss=(runF b x K).ss
 kM:K≤M
 nN:n≤N
 am:((runF b x' M).at_:Int)=(runF b x n).at_+d
 enn:(en:Int)≤((runF b x n).at_:Int)
 ss:(runF b x' (M+(N-n))).ss=(runF b x' M).ss++((runF b x N).ss.drop n).map (mvS d)
 sure:KeptS b x bg K
 hor:n=N∨SamePd (runF b x' M).ds (runF b x n).ds
 no:∀l,K≤l→l<M→¬GoAt b x x' N en d l
inductive spPut (P:Program) (w:World) (tb CP CS:Addr):List V→Hp→VK→XK→Prop where
 |mk {vs:List V} {H:Hp} {Q:VK} {E:XK} (z r dx:Addr) (v:V) (b:Bk) (x:Str) (pt ps so dxs pr pn pw:Addr) (tab:List Rws) (N:Nat) (ks:List Nat) (bg en:Nat) (t:Str)
  (c1:vs=[.ref r,.int bg,.int en,.str t]) (c2:PgS P w z CP CS H r dx v b x pt ps so dxs pr pn pw tab N ks) (c3:Bag z H) (c4:LamTb tb H) (c5:bg≤en) (c6:en≤x.length) (c7:x.length-(en-bg)+t.length≤2000) (c8:tab.length+2000<8000000) (c9:∃wl,H pw=some (.lst wl))
  (c10:∀p x' K M n d pt' ps' ks' tab' H',PutR b x x' bg en t N K M n d→PgS P w z CP CS H' r dx v b x' pt' ps' so dxs pr pn pw tab' (M+(N-n)) ks'→tab'.length≤tab.length+2000→KeepE (fun a=>a=r∨a=pr∨a=pn∨a=tb) H H'→Bag z H'→LamTb tb H'→H p=none→H' p=some (.tup [.int (runF b x K).at_,.int (runF b x' M).at_])→H pt'=none→H ps'=none→Q (.ref p) H'):spPut P w tb CP CS vs H Q E
theorem scPut:zav ["self","begin","end","text","kept","first","longer","elder","last"] ["self","begin","end","text"] (zag mPut):=⟨rfl,rfl,rfl,by decide +kernel,rfl,by decide +kernel,by decide +kernel⟩
theorem zlu {f g1 g2 g4 g5 tb CP CS:Addr}{fd gd1 gd2 gd4 gd5:FuncData}(F:Fun K "put" "Page.put" mPut f fd) (T:TxtB mg) (T3:TxtP K mg CP)
  (n1:Meth K CP "count_sure" g1) (b1:Binds K gd1 ["self","begin"] []) (G1:FnOk P w K mg base CX0 6 g1 gd1 ["self","begin"] (zdl P w tb CP CS))
  (n2:Meth K CP "beginning" g2) (b2:Binds K gd2 ["self","number"] []) (G2:FnOk P w K mg base CX0 1 g2 gd2 ["self","number"] (zbN P w CP CS))
  (n4:Meth K CP "numbers_by_beginnings" g4) (b4:Binds K gd4 ["self","end","longer"] []) (G4:FnOk P w K mg base CX0 2 g4 gd4 ["self","end","longer"] (zcI P w CP CS))
  (n5:Meth K CP "read_anew" g5) (b5:Binds K gd5 ["self","kept","first","elder","longer"] []) (G5:FnOk P w K mg base CX0 5 g5 gd5 ["self","kept","first","elder","longer"] (zgo P w tb CP CS)):FnOk P w K mg base CX0 7 f fd ["self","begin","end","text"] (spPut P w tb CP CS):=by
 refine F.ok scPut (fun vs H Q E h=>?_) (fun cdv A outer s H vs Q E hr h=>?_)
 ·obtain ⟨z,r,dx,v,b,x,pt,ps,so,dxs,pr,pn,pw,tab,N,ks,bg,en,t,rfl,_⟩:=h
  rfl
 ·obtain ⟨z,r,dx,v,b,x,pt,ps,so,dxs,pr,pn,pw,tab,N,ks,bg,en,t,rfl,hP,hB,hL,hbe,hex,hnew,htab,⟨wl,hpw⟩,k⟩:=h
  have nd:=scPut.nd
  have hr1:Room 1 _:=hr.mono (by decide)
  have hr2:Room 2 _:=hr.mono (by decide)
  have hr5:Room 5 _:=hr.mono (by decide)
  refine ⟨_,zac (zap (i:=4) nd rfl (Or.inl rfl) (zaZ (pv 0) T3.cl n1 G1 hr b1 .nil pass0 (zaa (pv 1) zae)))
   (zac (zap (i:=5) nd rfl (Or.inl rfl) (zaZ (pv 0) T3.cl n2 G2 hr1 b2 .nil pass0 (zaa (pv 4) zae)))
   (zac (zap (i:=6) nd rfl (Or.inl rfl) (zaB zc1 (zaq zar (by rfl) T.len b_len (zaa (pv 3) zae)) (zaB zc1 (pv 2) (pv 1))))
   (zac (zap (i:=7) nd rfl (Or.inl rfl) (zaZ (pv 0) T3.cl n4 G4 hr2 b4 .nil pass0 (zaa (pv 2) (zaa (pv 6) zae))))
   (zac (zbT (pv 0) (zaB za7 (zaB za7 (zaT zcz (zaH (pv 0) rfl) zbo (zaS (pv 1))) (pv 3)) (zaT zcz (zaH (pv 0) rfl) (zaS (pv 2)) zbo)) rfl)
   (zac (zap (i:=8) nd rfl (Or.inl rfl) (zaZ (pv 0) T3.cl n5 G5 hr5 b5 .nil pass0 (zaa (pv 4) (zaa (pv 5) (zaa (pv 7) (zaa (pv 6) zae))))))
   (zai (zax (za2 (zaa (pv 5) (zaa (pv 8) zae)))))))))),?_⟩
  dsimp only[cxOf,Cx.nox,Cx.wish]
  have big2:(100000:Nat)≤sizeLine:=by rw[sizeLine_eq];decide
  have hxl:=hP.xl
  refine zbg fun D1 _ hR1 _ _=>zak fun U hU=>?_
  refine ⟨_,rfl,r,dx,_,rfl,hP.ins,zaV (by simp),_,rfl,z,r,dx,v,b,x,pt,ps,so,dxs,pr,pn,pw,tab,N,ks,bg,rfl,hP,hB,hL,by omega,fun Kk H1 hKN hKat hkept x1 hB1 hL1=>hU _ _ (zak fun U hU=>?_)⟩
  have hP1:=hP.butX x1 hL
  refine ⟨_,rfl,r,dx,_,rfl,hP1.ins,zaV (by simp),_,rfl,z,r,dx,v,b,x,pt,ps,so,dxs,pr,pn,pw,tab,N,ks,Kk,rfl,hP1,hKN,hU _ _ (zak fun U hU=>?_)⟩
  refine ⟨_,rfl,t,rfl,by omega,_,rfl,_,rfl,_,_,rfl,rfl,_,_,rfl,rfl,hU _ _ (zak fun U hU=>?_)⟩
  refine ⟨_,rfl,r,dx,_,rfl,hP1.ins,zaV (by simp),_,rfl,_,rfl,z,r,dx,v,b,x,pt,ps,so,dxs,pr,pn,pw,tab,N,ks,en,(t.length:Int)-((en:Int)-(bg:Int)),rfl,hP1,fun el kvs H2 s2 nel hel hE=>hU _ _ (zak fun U hU=>?_)⟩
  have hP2:=hP1.same s2
  have hB2:=hB1.same s2
  have hL2:=hL1.same s2
  have l1:(cutS x none (some (bg:Int))).length=bg:=by rw[←zam,zfU x (by omega),List.length_take,zam];omega
  have l2:(cutS x (some (en:Int)) none).length=x.length-en:=by rw[←zam,zcd x hex,List.length_drop,zam]
  have l3:(cutS x none (some (bg:Int))++t).length=bg+t.length:=by rw[zfL,l1]
  refine ⟨_,rfl,r,CP,dx,_,_,rfl,hP2.ins,T3.cl,T3.nX,zbk v x pt ps so pw,_,rfl,_,rfl,x,rfl,by omega,_,rfl,_,_,rfl,rfl,by omega,_,rfl,r,CP,dx,_,_,rfl,hP2.ins,T3.cl,T3.nX,zbk v x pt ps so pw,_,rfl,_,rfl,x,rfl,by omega,_,_,rfl,rfl,by omega,_,rfl,r,CP,dx,_,rfl,hP2.ins,T3.cl,T3.nX,by show (6:Nat)<1000;decide,?_⟩
  rw[zjm]
  obtain ⟨x',ex'⟩:∃x',x'=cutS x none (some (bg:Int))++t++cutS x (some (en:Int)) none:=⟨_,rfl⟩
  rw[←ex']
  have hx':x'.cps.toList=x.cps.toList.take bg++t.cps.toList++x.cps.toList.drop en:=by rw[ex',zcE,zcE,zfU x (by omega),zcd x hex]
  have hxl':x'.length=bg+t.length+(x.length-en):=by rw[ex',zfL,l3,l2]
  have htk:(x.cps.toList.take bg).length=bg:=by rw[List.length_take,zam];omega
  have kr:KeepE (fun a=>a=r) H2 (upd H2 r (.ins CP dx (pgF v x' pt ps so pw))):=zaN
  have nr:NoTup (fun a=>a=r) H2:=zaE hP2.ins (by intro xs c;cases c)
  obtain ⟨tv,hpt,RT⟩:=hP2.told
  obtain ⟨as,a1,_,a3⟩:=id hP2.sd.ex
  have hM:PgM P w z CP CS (upd H2 r (.ins CP dx (pgF v x' pt ps so pw))) r dx v b x x' pt ps so dxs pr pn pw tab N ks:=⟨zab,Rep.keep kr nr hP2.rb (.tup (zbp _)),hP2.ok,hP2.run,⟨tv,kr _ _ (zan hpt hP2.ins (by intro c;cases c)) hpt,Reps.keep kr nr RT (za5 _)⟩,kr _ _ (zan hP2.stands hP2.ins (by intro c;cases c)) hP2.stands,hP2.kl,hP2.st,hP2.sd.keep kr nr (zan hP2.sd.ins hP2.ins zkN) (zan a1 hP2.ins (by intro c;cases c)) (zan a3 hP2.ins (by intro c;cases c)),hxl,by omega,hP2.nes⟩
  have B3:Bag z (upd H2 r (.ins CP dx (pgF v x' pt ps so pw))):=by
   obtain ⟨c,d',hz⟩:=hB2
   exact ⟨c,d',kr _ _ (zan hz hP2.ins (by intro c;cases c)) hz⟩
  have L3:LamTb tb (upd H2 r (.ins CP dx (pgF v x' pt ps so pw))):=by
   obtain ⟨ps0,ht⟩:=hL2.tbl
   refine zce hL2 kr (zan ht hP2.ins (by intro c;cases c)) (fun a ha c q' e=>?_)
   rw[show a=r from ha,hP2.ins] at e
   cases e
  have hel3:=kr _ _ (zan hel hP2.ins (by intro c;cases c)) hel
  obtain ⟨ps0,ht0⟩:=hL.tbl
  have hpw2:=s2 _ _ (x1 _ _ (zan hpw ht0 (by intro c;cases c)) hpw)
  have hpw3:=kr _ _ (zan hpw2 hP2.ins (by intro c;cases c)) hpw2
  have k3:KeepE (fun a=>a=r∨a=pr∨a=pn∨a=tb) H (upd H2 r (.ins CP dx (pgF v x' pt ps so pw))):=fun a o ha e=>by
   rw[zaj (fun c=>ha (.inl c))]
   exact s2 a o (x1 a o (fun c=>ha (.inr (.inr (.inr c)))) e)
  have hr3':upd H2 r (.ins CP dx (pgF v x' pt ps so pw)) r=some (.ins CP dx (pgF v x' pt ps so pw)):=zab
  have s23:∀ {a:Addr},upd H2 r (.ins CP dx (pgF v x' pt ps so pw)) a=none→H a=none:=fun {a} n=>by
   cases q:H a with
   |none=>rfl
   |some o=>
    exfalso
    by_cases c:a=r
    ·rw[c,hr3'] at n;cases n
    ·rw[zaj c] at n
     by_cases c2:a=tb
     ·obtain ⟨ps2,ht2⟩:=hL2.tbl
      rw[c2,ht2] at n;cases n
     ·rw[s2 a o (x1 a o c2 q)] at n;cases n
  obtain ⟨y,hy⟩:∃y:Str,y.cps.toList=x.cps.toList.take bg:=⟨⟨(x.cps.toList.take bg).toArray⟩,by simp⟩
  have hkb:=zik (b:=b) (x:=x) (x':=x') (y:=y) (more:=x.cps.toList.drop bg) (more':=t.cps.toList++x.cps.toList.drop en) (K:=Kk) (by rw[hy,List.take_append_drop]) (by rw[hy,hx',List.append_assoc]) (hkept y hy).all
  refine hU _ _ (zak fun U hU=>?_)
  generalize upd H2 r (.ins CP dx (pgF v x' pt ps so pw))=H3 at *
  refine ⟨_,rfl,r,dx,_,rfl,hM.ins,zaV (by simp),_,rfl,_,rfl,_,rfl,_,rfl,z,r,dx,v,b,x,x',pt,ps,so,dxs,pr,pn,pw,el,tab,N,ks,kvs,Kk,en,(t.length:Int)-((en:Int)-(bg:Int)),rfl,hM,B3,L3,hel3,hE,hKN,hkb,by omega,fun a a' h1 h2=>?_,by omega,htab,⟨wl,hpw3⟩,fun M n pt' ps' ks' tab' H4 hKM hn hat hen hor hno hss hP4 ht4 k4 B4 L4 fpt fps=>hU _ _ ?_⟩
  ·have h3:(x.cps.toList.take bg++t.cps.toList).length=bg+t.length:=by rw[List.length_append,htk,zam]
   rw[hx',List.drop_append,h3,List.drop_eq_nil_of_le (by rw[h3];omega),List.nil_append,List.drop_drop]
   congr 1
   omega
  ·refine ⟨_,rfl,_,rfl,by show (2:Nat)≤_;omega,fun p np=>hR1 _ _ (k p x' Kk M n _ pt' ps' ks' tab' _ ⟨hx',rfl,hKN,hKat,(hkb Kk (Nat.le_refl _)).1,(hkb Kk (Nat.le_refl _)).2.2,hKM,hn,hat,hen,hss,hkept,hor,hno⟩ (hP4.same (Same.new np)) ht4 (fun a o ha e=>Same.new np _ _ (k4 a o ha (k3 a o ha e))) (B4.same (Same.new np)) (L4.same (Same.new np)) ?_ zab ?_ ?_)⟩
   rotate_left
   ·exact s23 fpt
   ·exact s23 fps
   cases q:H p with
   |none=>rfl
   |some o=>
    exfalso
    obtain ⟨as4,c1,_,c3⟩:=id hP4.sd.ex
    obtain ⟨ps4,ht4'⟩:=L4.tbl
    have h1:=k4 p o (fun c=>?_) (k3 p o (fun c=>?_) q)
    ·rw[h1] at np;cases np
    all_goals
     rcases c with c|c|c|c
     ·rw[c,hP4.ins] at np;cases np
     ·rw[c,c1] at np;cases np
     ·rw[c,c3] at np;cases np
     ·rw[c,ht4'] at np;cases np
inductive zeL (P:Program) (w:World) (CP CS:Addr):List V→Hp→VK→XK→Prop where
 |mk {vs:List V} {H:Hp} {Q:VK} {E:XK} (z r dx:Addr) (v:V) (b:Bk) (x:Str) (pt ps so dxs pr pn pw:Addr) (tab:List Rws) (N:Nat) (ks:List Nat) (c1:vs=[.ref r]) (c2:PgS P w z CP CS H r dx v b x pt ps so dxs pr pn pw tab N ks) (c3:Q (.str x) H):zeL P w CP CS vs H Q E
inductive zcJ (P:Program) (w:World) (tb CP CS:Addr):List V→Hp→VK→XK→Prop where
 |mk {vs:List V} {H:Hp} {Q:VK} {E:XK} (z r dx:Addr) (v:V) (b:Bk) (x:Str) (pt ps so dxs pr pn pw:Addr) (tab:List Rws) (N:Nat) (ks:List Nat) (bg en:Nat) (t:Str) (wl:List V)
  (c1:vs=[.ref r,.int bg,.int en,.str t]) (c2:PgS P w z CP CS H r dx v b x pt ps so dxs pr pn pw tab N ks) (c3:Bag z H) (c4:LamTb tb H) (c5:bg≤en) (c6:en≤x.length) (c7:x.length-(en-bg)+t.length≤2000) (c8:tab.length+2000<8000000) (c9:H pw=some (.lst wl)) (c9':wl.length≤1000)
  (c10:∀p wv x' K M n d pt' ps' ks' tab' H',PutR b x x' bg en t N K M n d→PgS P w z CP CS H' r dx v b x' pt' ps' so dxs pr pn pw tab' (M+(N-n)) ks'→tab'.length≤tab.length+2000→KeepE (fun a=>a=pw∨a=r∨a=pr∨a=pn∨a=tb) H H'→Bag z H'→LamTb tb H'→H' pw=some (.lst (wl++[wv]))→(∃pq,wv=.ref pq∧pq≠z∧H' pq=some (.tup [.int bg,.int ((bg:Int)+(t.length:Int)),.str (cutS x (some (bg:Int)) (some (en:Int)))]))→H p=none→H' p=some (.tup [.int (runF b x K).at_,.int (runF b x' M).at_])→H pt'=none→H ps'=none→Q (.ref p) H'):zcJ P w tb CP CS vs H Q E
theorem zkP:zav ["self"] ["self"] (zag zid):=⟨rfl,rfl,rfl,by decide +kernel,rfl,by decide +kernel,by decide +kernel⟩
theorem scChange:zav ["self","begin","end","text"] ["self","begin","end","text"] (zag zfQ):=⟨rfl,rfl,rfl,by decide +kernel,rfl,by decide +kernel,by decide +kernel⟩
theorem zjt {f CP CS:Addr}{fd:FuncData}(F:Fun K "text" "Page.text" zid f fd) (T3:TxtP K mg CP):FnOk P w K mg base CX0 1 f fd ["self"] (zeL P w CP CS):=by
 refine F.ok zkP (fun vs H Q E h=>?_) (fun cdv A outer s H vs Q E hr h=>?_)
 ·obtain ⟨z,r,dx,v,b,x,pt,ps,so,dxs,pr,pn,pw,tab,N,ks,rfl,_⟩:=h
  rfl
 ·obtain ⟨z,r,dx,v,b,x,pt,ps,so,dxs,pr,pn,pw,tab,N,ks,rfl,hP,k⟩:=h
  refine ⟨_,zai (zax (zaH (pv 0) rfl)),?_⟩
  dsimp only[cxOf,Cx.nox,Cx.wish]
  exact ⟨_,rfl,r,CP,dx,_,_,rfl,hP.ins,T3.cl,T3.nX,zbk v x pt ps so pw,k⟩
theorem zio {f g1 tb CP CS:Addr}{fd gd1:FuncData}{uM:Value}(F:Fun K "change" "Page.change" zfQ f fd) (T:TxtB mg) (T3:TxtP K mg CP) (hMS:mg "MOST_SIGNS"=some uM) (rMS:RelV (.int 2000) uM)
  (n1:Meth K CP "put" g1) (b1:Binds K gd1 ["self","begin","end","text"] []) (G1:FnOk P w K mg base CX0 7 g1 gd1 ["self","begin","end","text"] (spPut P w tb CP CS)):FnOk P w K mg base CX0 8 f fd ["self","begin","end","text"] (zcJ P w tb CP CS):=by
 refine F.ok scChange (fun vs H Q E h=>?_) (fun cdv A outer s H vs Q E hr h=>?_)
 ·obtain ⟨z,r,dx,v,b,x,pt,ps,so,dxs,pr,pn,pw,tab,N,ks,bg,en,t,wl,rfl,_⟩:=h
  rfl
 ·obtain ⟨z,r,dx,v,b,x,pt,ps,so,dxs,pr,pn,pw,tab,N,ks,bg,en,t,wl,rfl,hP,hB,hL,hbe,hex,hnew,htab,hpw,hwl,k⟩:=h
  have nd:=scChange.nd
  refine ⟨_,zac (zaW (zdP (zhq ziA ziA ziA zaf (pv 1) (pv 2) (zaq zar (by rfl) T.len b_len (zaa (zaH (pv 0) rfl) zae)))) zbQ zaA)
   (zac (zaW (zaw ziB (zaB zaQ (zaB zc1 (zaq zar (by rfl) T.len b_len (zaa (zaH (pv 0) rfl) zae)) (zaB zc1 (pv 2) (pv 1))) (zaq zar (by rfl) T.len b_len (zaa (pv 3) zae))) (zd6 rfl hMS rMS) (zaz _)) zbQ zaA)
   (zac (zaO (zbU PySem.F.plainAttrs_list PySem.F.slot_list_append PySem.F.type_list_append zaK (zaH (pv 0) rfl) (zaa (za2 (zaa (pv 1) (zaa (zaB zaQ (pv 1) (zaq zar (by rfl) T.len b_len (zaa (pv 3) zae))) (zaa (zaT zcz (zaH (pv 0) rfl) (zaS (pv 1)) (zaS (pv 2))) zae)))) zae)))
   (zai (zax (zaZ (pv 0) T3.cl n1 G1 hr b1 .nil pass0 (zaa (pv 1) (zaa (pv 2) (zaa (pv 3) zae)))))))),?_⟩
  dsimp only[cxOf,Cx.nox,Cx.wish]
  have big2:(100000:Nat)≤sizeLine:=by rw[sizeLine_eq];decide
  have hxl:=hP.xl
  refine zbg fun D1 _ hR1 _ _=>zak fun U hU=>?_
  have hins:=hP.ins
  have d1:decide ((0:Int)≤(bg:Int))=true:=decide_eq_true (by omega)
  have d2:decide ((bg:Int)≤(en:Int))=true:=decide_eq_true (by omega)
  have d3:decide ((en:Int)≤(x.length:Int))=true:=decide_eq_true (by omega)
  have d4:decide ((2000:Int)<((x.length:Int)-((en:Int)-(bg:Int)))+(t.length:Int))=false:=decide_eq_false (by omega)
  refine ⟨_,rfl,_,_,rfl,rfl,_,rfl,ite2 (fun _=>?_) (fun g=>absurd d1 g)⟩
  refine ⟨_,rfl,_,_,rfl,rfl,_,rfl,ite2 (fun _=>?_) (fun g=>absurd d2 g)⟩
  refine ⟨_,rfl,r,CP,dx,_,_,rfl,hins,T3.cl,T3.nX,zbk v x pt ps so pw,x,rfl,by omega,_,_,rfl,rfl,_,rfl,?_⟩
  refine ite2 (fun g=>absurd g (by rw[d3];decide)) (fun _=>hU _ _ (zak fun U hU=>?_))
  refine ⟨_,rfl,r,CP,dx,_,_,rfl,hins,T3.cl,T3.nX,zbk v x pt ps so pw,x,rfl,by omega,_,rfl,_,rfl,_,_,rfl,rfl,_,_,rfl,rfl,_,rfl,t,rfl,by omega,_,_,rfl,rfl,_,_,rfl,rfl,_,rfl,?_⟩
  refine ite2 (fun g=>absurd g (by rw[d4];decide)) (fun _=>hU _ _ (zak fun U hU=>?_))
  refine ⟨_,rfl,r,CP,dx,_,_,rfl,hins,T3.cl,T3.nW,zeI v x pt ps so pw,.inl ⟨rfl,_,SqL.of hpw⟩,?_⟩
  refine ⟨_,rfl,_,rfl,_,rfl,t,rfl,by omega,_,_,rfl,rfl,_,rfl,r,CP,dx,_,_,rfl,hins,T3.cl,T3.nX,zbk v x pt ps so pw,_,rfl,_,rfl,_,rfl,_,rfl,x,rfl,by omega,by show (3:Nat)≤_;omega,fun pq npq=>?_⟩
  have s1:=Same.new (o:=.tup [V.int bg,V.int ((bg:Int)+(t.length:Int)),V.str (cutS x (some (bg:Int)) (some (en:Int)))]) npq
  have hpw1:=s1 _ _ hpw
  have hP1:=hP.same s1
  have B1:=hB.same s1
  have L1:=hL.same s1
  refine ⟨pw,wl,_,rfl,rfl,hpw1,by omega,hU _ _ ?_⟩
  have hpq1:upd H pq (.tup [V.int bg,(fun i j=>V.int (i+j)) (bg:Int) (t.length:Int),V.str (cutS x (some (bg:Int)) (some (en:Int)))]) pq=some (.tup [.int bg,.int ((bg:Int)+(t.length:Int)),.str (cutS x (some (bg:Int)) (some (en:Int)))]):=zab
  have hpqz:=hB.ne npq
  generalize upd H pq (.tup [V.int bg,(fun i j=>V.int (i+j)) (bg:Int) (t.length:Int),V.str (cutS x (some (bg:Int)) (some (en:Int)))])=H1 at *
  have kw:KeepE (fun a=>a=pw) H1 (upd H1 pw (.lst (wl++[.ref pq]))):=zaN
  have nw:NoTup (fun a=>a=pw) H1:=zaE hpw1 (by intro xs c;cases c)
  obtain ⟨⟨w1,w2,w3⟩,⟨w4,w5,w6⟩,w7,w8⟩:=hP.nes
  obtain ⟨as,a1,_,a3⟩:=id hP1.sd.ex
  obtain ⟨ps0,ht⟩:=L1.tbl
  have hP2:=hP1.keep kw nw (zan hP1.ins hpw1 (by intro c;cases c)) w7.symm w8.symm (zan hP1.sd.ins hpw1 (by intro c;cases c)) w3.symm (zan a3 hpw1 (by intro c;cases c))
  have B2:Bag z (upd H1 pw (.lst (wl++[.ref pq]))):=by
   obtain ⟨c,d',hz⟩:=B1
   exact ⟨c,d',kw _ _ w6.symm hz⟩
  have L2:=zdH (l':=wl++[.ref pq]) L1 hpw1
  have hpw2:upd H1 pw (.lst (wl++[.ref pq])) pw=some (.lst (wl++[.ref pq])):=zab
  have hpq2:upd H1 pw (.lst (wl++[.ref pq])) pq=some (.tup [.int bg,.int ((bg:Int)+(t.length:Int)),.str (cutS x (some (bg:Int)) (some (en:Int)))]):=kw _ _ (zan hpq1 hpw1 (by intro c;cases c)) hpq1
  have k2:KeepE (fun a=>a=pw) H (upd H1 pw (.lst (wl++[.ref pq]))):=fun a o ha e=>kw a o ha (s1 a o e)
  have fr2:∀ {a:Addr},upd H1 pw (.lst (wl++[.ref pq])) a=none→H a=none:=fun {a} n=>by
   cases q:H a with
   |none=>rfl
   |some o=>
    exfalso
    by_cases c:a=pw
    ·rw[c,hpw2] at n;cases n
    ·rw[k2 a o c q] at n;cases n
  generalize upd H1 pw (.lst (wl++[.ref pq]))=H2 at *
  refine ⟨_,rfl,r,dx,_,rfl,hP2.ins,zaV (by simp),_,rfl,_,rfl,_,rfl,z,r,dx,v,b,x,pt,ps,so,dxs,pr,pn,pw,tab,N,ks,bg,en,t,rfl,hP2,B2,L2,hbe,hex,hnew,htab,⟨_,hpw2⟩,fun p x' Kk M n d pt' ps' ks' tab' H3 hR hP3 ht3 k3 B3 L3 np hp fpt fps=>hR1 _ _ (k p (.ref pq) x' Kk M n d pt' ps' ks' tab' H3 hR hP3 ht3 (fun a o ha e=>k3 a o (fun c=>ha (.inr c)) (k2 a o (fun c=>ha (.inl c)) e)) B3 L3 ?_ ⟨pq,rfl,hpqz,?_⟩ (fr2 np) hp (fr2 fpt) (fr2 fps))⟩
  ·exact k3 _ _ (fun c=>c.elim (zan hpw1 hP1.ins (by intro c;cases c)) fun c=>c.elim w3 fun c=>c.elim (zan hpw1 a3 (by intro c;cases c)) (zan hpw1 ht (by intro c;cases c))) hpw2
  ·exact k3 _ _ (fun c=>c.elim (zan hpq1 hP1.ins (by intro c;cases c)) fun c=>c.elim (zan hpq1 a1 (by intro c;cases c)) fun c=>c.elim (zan hpq1 a3 (by intro c;cases c)) (zan hpq1 ht (by intro c;cases c))) hpq2
inductive zcK (P:Program) (w:World) (CP CS:Addr):List V→Hp→VK→XK→Prop where
 |mk {vs:List V} {H:Hp} {Q:VK} {E:XK} (z r dx:Addr) (v:V) (b:Bk) (x:Str) (pt ps so dxs pr pn pw:Addr) (tab:List Rws) (N:Nat) (ks:List Nat) (c1:vs=[.ref r]) (c2:PgS P w z CP CS H r dx v b x pt ps so dxs pr pn pw tab N ks)
  (c3:∀p tv H',Same H H'→H p=none→H' p=some (.lst tv)→Reps z H' tv ((runF b x N).ss.map stD)→Q (.ref p) H'):zcK P w CP CS vs H Q E
inductive zeM (P:Program) (w:World) (tb CP CS:Addr):List V→Hp→VK→XK→Prop where
 |mk {vs:List V} {H:Hp} {Q:VK} {E:XK} (z r dx:Addr) (v:V) (b:Bk) (t:Str) (c1:vs=[.ref r,v,.str t]) (c2:H r=some (.ins CP dx [])) (c3:Bag z H) (c4:LamTb tb H) (c5:Rep z H v (bkD b)) (c6:BkOk b) (c7:t.length≤2000)
  (c8:∀pt ps so dxs pr pn pw tab N ks H',PgS P w z CP CS H' r dx v b t pt ps so dxs pr pn pw tab N ks→tab.length≤2000→KeepE (fun a=>a=r∨a=tb) H H'→Bag z H'→LamTb tb H'→H' pw=some (.lst [])→H pr=none→H pn=none→H pw=none→H pt=none→H ps=none→Q .non H'):zeM P w tb CP CS vs H Q E
theorem zbI (f:Str) (v:V):∀fs:List (Str×V),(putF f v fs).length≤fs.length+1
 |[]=>Nat.le_refl _
 |(g,x)::r=>by
  show (if g=f then (g,v)::r else (g,x)::putF f v r).length≤_
  split
  ·show r.length+1≤r.length+1+1
   omega
  ·have:=zbI f v r
   show (putF f v r).length+1≤r.length+1+1
   omega
theorem zju (v:V) (x:Str) (pt ps so pw:Addr):putF "ways_back" (.ref pw) (putF "standings" (.ref so) (putF "stands" (.ref ps) (putF "told" (.ref pt) (putF "signs" (.str x) (putF "book" v [])))))=pgF v x pt ps so pw:=by
 have e1:putF "signs" (.str x) (putF "book" v [])=[(("book":Str),v),("signs",.str x)]:=zbA (by decide +kernel)
 rw[e1]
 have e2:putF "told" (.ref pt) [(("book":Str),v),("signs",.str x)]=[(("book":Str),v),("signs",.str x),("told",.ref pt)]:=(zbA (by decide +kernel)).trans (congrArg _ (zbA (by decide +kernel)))
 rw[e2]
 have e3:putF "stands" (.ref ps) [(("book":Str),v),("signs",.str x),("told",.ref pt)]=[(("book":Str),v),("signs",.str x),("told",.ref pt),("stands",.ref ps)]:=(zbA (by decide +kernel)).trans (congrArg _ ((zbA (by decide +kernel)).trans (congrArg _ (zbA (by decide +kernel)))))
 rw[e3]
 have e4:putF "standings" (.ref so) [(("book":Str),v),("signs",.str x),("told",.ref pt),("stands",.ref ps)]=[(("book":Str),v),("signs",.str x),("told",.ref pt),("stands",.ref ps),("standings",.ref so)]:=(zbA (by decide +kernel)).trans (congrArg _ ((zbA (by decide +kernel)).trans (congrArg _ ((zbA (by decide +kernel)).trans (congrArg _ (zbA (by decide +kernel)))))))
 rw[e4]
 exact (zbA (by decide +kernel)).trans (congrArg _ ((zbA (by decide +kernel)).trans (congrArg _ ((zbA (by decide +kernel)).trans (congrArg _ ((zbA (by decide +kernel)).trans (congrArg _ (zbA (by decide +kernel)))))))))
theorem ziq:zav ["self"] ["self"] (zag zfR):=⟨rfl,rfl,rfl,by decide +kernel,rfl,by decide +kernel,by decide +kernel⟩
theorem scPInit:zav ["self","book","text"] ["self","book","text"] (zag zic):=⟨rfl,rfl,rfl,by decide +kernel,rfl,by decide +kernel,by decide +kernel⟩
theorem zgR {f CP CS:Addr}{fd:FuncData}(F:Fun K "steps" "Page.steps" zfR f fd) (T2:Txt2 mg) (T3:TxtP K mg CP):FnOk P w K mg base CX0 1 f fd ["self"] (zcK P w CP CS):=by
 refine F.ok ziq (fun vs H Q E h=>?_) (fun cdv A outer s H vs Q E hr h=>?_)
 ·obtain ⟨z,r,dx,v,b,x,pt,ps,so,dxs,pr,pn,pw,tab,N,ks,rfl,_⟩:=h
  rfl
 ·obtain ⟨z,r,dx,v,b,x,pt,ps,so,dxs,pr,pn,pw,tab,N,ks,rfl,hP,k⟩:=h
  refine ⟨_,zai (zax (zbD zc3 (by rfl) T2.list zjJ (zaa (zaH (pv 0) rfl) zae))),?_⟩
  dsimp only[cxOf,Cx.nox,Cx.wish]
  obtain ⟨tv,hpt,RT⟩:=hP.told
  exact ⟨_,rfl,r,CP,dx,_,_,rfl,hP.ins,T3.cl,T3.nT,zcq v x pt ps so pw,pt,tv,rfl,.inl (SqL.of hpt),fun l nl=>k l tv _ (Same.new nl) nl zab (RT.mono (Same.new nl).x)⟩
theorem zjv {f g1 g2 tb CP CS:Addr}{fd gd1 gd2:FuncData}{uM:Value}(F:Fun K "__init__" "Page.__init__" zic f fd) (T:TxtB mg) (T3:TxtP K mg CP) (hMS:mg "MOST_SIGNS"=some uM) (rMS:RelV (.int 2000) uM)
  (n1:Meth K CP "put" g1) (b1:Binds K gd1 ["self","begin","end","text"] []) (G1:FnOk P w K mg base CX0 7 g1 gd1 ["self","begin","end","text"] (spPut P w tb CP CS))
  (M2:L2.Mk K CS g2) (hC:mg "Standings"=some (.ref CS)) (b2:Binds K gd2 ["self"] []) (G2:FnOk P w K mg base CX0 1 g2 gd2 ["self"] (zeF P w CS)):FnOk P w K mg base CX0 8 f fd ["self","book","text"] (zeM P w tb CP CS):=by
 refine F.ok scPInit (fun vs H Q E h=>?_) (fun cdv A outer s H vs Q E hr h=>?_)
 ·obtain ⟨z,r,dx,v,b,t,rfl,_⟩:=h
  rfl
 ·obtain ⟨z,r,dx,v,b,t,rfl,hins,hB,hL,hv,hok,htl,k⟩:=h
  have nd:=scPInit.nd
  have hr2:Room 2 _:=hr.mono (by decide)
  refine ⟨_,zac (zaW (zaw ziB (zaq zar (by rfl) T.len b_len (zaa (pv 2) zae)) (zd6 rfl hMS rMS) (zaz _)) zbQ zaA)
   (zac (zbT (pv 0) (pv 1) rfl)
   (zac (zbT (pv 0) zay rfl)
   (zac (zbT (pv 0) (zaF zae) rfl)
   (zac (zbT (pv 0) (zaF (zaa zaf zae)) rfl)
   (zac (zbT (pv 0) (ziE M2 G2 hr2 rfl hC b2 .nil pass0) rfl)
   (zac (zbT (pv 0) (zaF zae) rfl)
   (zai (zaO (zaZ (pv 0) T3.cl n1 G1 hr b1 .nil pass0 (zaa zaf (zaa zaf (zaa (pv 2) zae)))))))))))),?_⟩
  dsimp only[cxOf,Cx.nox,Cx.wish]
  have big2:(100000:Nat)≤sizeLine:=by rw[sizeLine_eq];decide
  have d1:decide ((2000:Int)<(t.length:Int))=false:=decide_eq_false (by omega)
  refine zbg fun D1 hD1 _ _ _=>zak fun U hU=>?_
  refine ⟨_,rfl,t,rfl,by omega,_,_,rfl,rfl,_,rfl,ite2 (fun g=>absurd g (by rw[d1];decide)) (fun _=>hU _ _ (zak fun U hU=>?_))⟩
  refine ⟨_,rfl,_,rfl,r,CP,dx,_,rfl,hins,T3.cl,T3.nB,by show (0:Nat)<1000;decide,?_⟩
  have nrT:NoTup (fun a=>a=r) H:=zaE hins (by intro xs c;cases c)
  have hr1:upd H r (.ins CP dx (putF "book" v [])) r=some (.ins CP dx (putF "book" v [])):=zab
  have k1:KeepE (fun a=>a=r) H (upd H r (.ins CP dx (putF "book" v []))):=zaN
  refine hU _ _ (zak fun U hU=>?_)
  generalize upd H r (.ins CP dx (putF "book" v []))=H1 at hr1 k1
  refine ⟨_,rfl,r,CP,dx,_,rfl,hr1,T3.cl,T3.nX,by show (1:Nat)<1000;decide,hU _ _ (zak fun U hU=>?_)⟩
  have hr2:upd H1 r (.ins CP dx (putF "signs" (.str (Str.ofString "")) (putF "book" v []))) r=some (.ins CP dx (putF "signs" (.str (Str.ofString "")) (putF "book" v []))):=zab
  have k2:KeepE (fun a=>a=r) H (upd H1 r (.ins CP dx (putF "signs" (.str (Str.ofString "")) (putF "book" v [])))):=fun a o ha e=>zaN a o ha (k1 a o ha e)
  generalize upd H1 r (.ins CP dx (putF "signs" (.str (Str.ofString "")) (putF "book" v [])))=H2 at hr2 k2
  refine ⟨Nat.zero_le _,fun pt npt=>?_⟩
  have s2:=Same.new (o:=.lst []) npt
  have hpt2:upd H2 pt (.lst []) pt=some (.lst []):=zab
  generalize upd H2 pt (.lst [])=H2' at s2 hpt2
  have l2:(putF "signs" (.str (Str.ofString "")) (putF "book" v [])).length≤2:=Nat.le_trans (zbI _ _ _) (Nat.succ_le_succ (zbI _ _ _))
  refine ⟨_,rfl,r,CP,dx,_,rfl,s2 _ _ hr2,T3.cl,T3.nT,by omega,hU _ _ (zak fun U hU=>?_)⟩
  have hr2':=s2 _ _ hr2
  have l3:=Nat.le_trans (zbI "told" (.ref pt) (putF "signs" (.str (Str.ofString "")) (putF "book" v []))) (Nat.succ_le_succ l2)
  generalize e3:putF "told" (.ref pt) (putF "signs" (.str (Str.ofString "")) (putF "book" v []))=F3 at *
  have hr3:upd H2' r (.ins CP dx F3) r=some (.ins CP dx F3):=zab
  have kr3:KeepE (fun a=>a=r) H2' (upd H2' r (.ins CP dx F3)):=zaN
  have hpt3:=kr3 _ _ (zan hpt2 hr2' (by intro c;cases c)) hpt2
  have k3:KeepE (fun a=>a=r) H (upd H2' r (.ins CP dx F3)):=fun a o ha e=>kr3 a o ha (s2 a o (k2 a o ha e))
  generalize upd H2' r (.ins CP dx F3)=H3 at hr3 hpt3 k3
  refine ⟨by show (1:Nat)≤_;omega,fun ps nps=>?_⟩
  have s3:=Same.new (o:=.lst [.int 0]) nps
  have hps3':upd H3 ps (.lst [.int 0]) ps=some (.lst [.int 0]):=zab
  have hr3':=s3 _ _ hr3
  refine ⟨_,rfl,r,CP,dx,_,rfl,hr3',T3.cl,T3.nS,by omega,hU _ _ (zak fun U hU=>?_)⟩
  generalize upd H3 ps (.lst [.int 0])=H3' at s3 hps3' hr3'
  have l4:=Nat.le_trans (zbI "stands" (.ref ps) F3) (Nat.succ_le_succ l3)
  generalize e4:putF "stands" (.ref ps) F3=F4 at *
  have hr4:upd H3' r (.ins CP dx F4) r=some (.ins CP dx F4):=zab
  have kr4:KeepE (fun a=>a=r) H3' (upd H3' r (.ins CP dx F4)):=zaN
  have hps4:=kr4 _ _ (zan hps3' hr3' (by intro c;cases c)) hps3'
  have hpt4:=kr4 _ _ (zan (s3 _ _ hpt3) hr3' (by intro c;cases c)) (s3 _ _ hpt3)
  have k4:KeepE (fun a=>a=r) H (upd H3' r (.ins CP dx F4)):=fun a o ha e=>kr4 a o ha (s3 a o (k3 a o ha e))
  generalize upd H3' r (.ins CP dx F4)=H4 at hr4 hps4 hpt4 k4
  intro so dxs nso ndx hne
  have s4:Same H4 (upd H4 dxs (.own so)):=Same.new ndx
  have nso':upd H4 dxs (.own so) so=none:=by rw[zaj hne.symm];exact nso
  have s4':=s4.trans (Same.new (o:=.ins CS dxs []) nso')
  refine ⟨so,dxs,rfl,zab,fun pr pn H5 npr npn hpp sx5 hso5 hpr5 hpn5=>⟨rfl,?_⟩⟩
  have k5:∀a o,H4 a=some o→H5 a=some o:=fun a o e=>sx5 a o (zad e nso) (s4' a o e)
  have npr4:H4 pr=none:=s4'.free npr
  have npn4:H4 pn=none:=s4'.free npn
  have hr5:=k5 _ _ hr4
  refine ⟨_,rfl,r,CP,dx,_,rfl,hr5,T3.cl,T3.nG,by omega,hU _ _ (zak fun U hU=>?_)⟩
  have l5:=Nat.le_trans (zbI "standings" (.ref so) F4) (Nat.succ_le_succ l4)
  generalize e5:putF "standings" (.ref so) F4=F5 at *
  have hrn:r≠so:=zad hr4 nso
  have kr6:KeepE (fun a=>a=r) H5 (upd H5 r (.ins CP dx F5)):=zaN
  have hr6:upd H5 r (.ins CP dx F5) r=some (.ins CP dx F5):=zab
  have hps6:=kr6 _ _ (zan (k5 _ _ hps4) hr5 (by intro c;cases c)) (k5 _ _ hps4)
  have hpt6:=kr6 _ _ (zan (k5 _ _ hpt4) hr5 (by intro c;cases c)) (k5 _ _ hpt4)
  have hso6:=kr6 _ _ hrn.symm hso5
  have hpr6:=kr6 _ _ (zan hpr5 hr5 (by intro c;cases c)) hpr5
  have hpn6:=kr6 _ _ (zan hpn5 hr5 (by intro c;cases c)) hpn5
  have k6:KeepE (fun a=>a=r) H (upd H5 r (.ins CP dx F5)):=fun a o ha e=>kr6 a o ha (k5 a o (k4 a o ha e))
  generalize upd H5 r (.ins CP dx F5)=H6 at hr6 hps6 hpt6 hso6 hpr6 hpn6 k6
  refine ⟨Nat.zero_le _,fun pw npw=>?_⟩
  have s6:=Same.new (o:=.lst []) npw
  have hpw6:upd H6 pw (.lst []) pw=some (.lst []):=zab
  have hr6':=s6 _ _ hr6
  refine ⟨_,rfl,r,CP,dx,_,rfl,hr6',T3.cl,T3.nW,by omega,hU _ _ ?_⟩
  generalize upd H6 pw (.lst [])=H6' at s6 hpw6 hr6'
  have e6:putF "ways_back" (.ref pw) F5=pgF v (Str.ofString "") pt ps so pw:=by rw[←e5,←e4,←e3,zju]
  rw[e6]
  have kr7:KeepE (fun a=>a=r) H6' (upd H6' r (.ins CP dx (pgF v (Str.ofString "") pt ps so pw))):=zaN
  have hr7:upd H6' r (.ins CP dx (pgF v (Str.ofString "") pt ps so pw)) r=some (.ins CP dx (pgF v (Str.ofString "") pt ps so pw)):=zab
  have hps7:=kr7 _ _ (zan (s6 _ _ hps6) hr6' (by intro c;cases c)) (s6 _ _ hps6)
  have hpt7:=kr7 _ _ (zan (s6 _ _ hpt6) hr6' (by intro c;cases c)) (s6 _ _ hpt6)
  have hso7:=kr7 _ _ hrn.symm (s6 _ _ hso6)
  have hpr7:=kr7 _ _ (zan (s6 _ _ hpr6) hr6' (by intro c;cases c)) (s6 _ _ hpr6)
  have hpn7:=kr7 _ _ (zan (s6 _ _ hpn6) hr6' (by intro c;cases c)) (s6 _ _ hpn6)
  have hpw7:=kr7 _ _ (zan hpw6 hr6' (by intro c;cases c)) hpw6
  have k7:KeepE (fun a=>a=r) H (upd H6' r (.ins CP dx (pgF v (Str.ofString "") pt ps so pw))):=fun a o ha e=>kr7 a o ha (s6 a o (k6 a o ha e))
  generalize upd H6' r (.ins CP dx (pgF v (Str.ofString "") pt ps so pw))=H7 at hr7 hps7 hpt7 hso7 hpr7 hpn7 hpw7 k7
  obtain ⟨c,d,hz⟩:=hB
  obtain ⟨ps0,ht⟩:=hL.tbl
  have hrz:z≠r:=zan hz hins (by intro c;cases c)
  have hz4:=k4 _ _ hrz hz
  have hz6:=k6 _ _ hrz hz
  have B7:Bag z H7:=⟨c,d,k7 _ _ hrz hz⟩
  have hbr:tb≠r:=zan ht hins (by intro c;cases c)
  have L7:LamTb tb H7:=zce hL k7 hbr (fun a ha c q e=>by rw[show a=r from ha,hins] at e;cases e)
  have len0:(Str.ofString "").length=0:=by rw[za3];rfl
  have hz2:=k2 _ _ hrz hz
  have hz3:=k3 _ _ hrz hz
  have hP:PgS P w z CP CS H7 r dx v b (Str.ofString "") pt ps so dxs pr pn pw [] 0 [0]:=by
   refine ⟨hr7,Rep.keep k7 nrT hv (.tup (zbp _)),hok,⟨by rw[len0];rfl,fun j hj=>absurd hj (Nat.not_lt_zero _)⟩,⟨[],hpt7,.nil⟩,hps7,rfl,fun j hj=>?_,⟨hso7,⟨[],hpr7,.nil,hpn7⟩,(zad hz4 npr4).symm,fun j r' h=>by simp at h,List.nodup_nil⟩,by omega,⟨⟨zad hpt4 npr4,zad hps4 npr4,(zad hpr6 npw).symm⟩,⟨(zad hz2 npt).symm,(zad hz3 nps).symm,(zad hz6 npw).symm⟩,(zad hpt6 npw).symm,(zad hps6 npw).symm⟩⟩
   have e0:j=0:=by omega
   subst e0
   exact ⟨0,rfl,.zero⟩
  refine ⟨_,rfl,r,dx,_,rfl,hr7,zaV (by simp),_,rfl,z,r,dx,v,b,Str.ofString "",pt,ps,so,dxs,pr,pn,pw,[],0,[0],0,0,t,rfl,hP,B7,L7,Nat.le_refl _,Nat.zero_le _,by omega,by show 0+2000<8000000;decide,⟨_,hpw7⟩,fun p x' Kk M n d' pt' ps' ks' tab' H8 hR hP8 ht8 k8 B8 L8 np hp fpt fps=>hD1 _ _ ?_⟩
  have ex:x'=t:=zco (by rw[hR.tx,List.take_zero,List.nil_append,List.drop_zero,za3];exact List.append_nil _)
  subst ex
  have fr:∀ {G:Hp} {o':HO} {a:Addr},KeepE (fun a=>a=r) H G→G r=some o'→G a=none→H a=none:=fun {G o' a} kk hr na=>by
   cases q:H a with
   |none=>rfl
   |some o=>
    exfalso
    by_cases c:a=r
    ·rw[c,hr] at na;cases na
    ·rw[kk a o c q] at na;cases na
  refine k pt' ps' so dxs pr pn pw tab' _ ks' H8 hP8 (by simpa using ht8) (fun a o ha e=>?_) B8 L8 ?_ (fr k4 hr4 npr4) (fr k4 hr4 npn4) (fr k6 hr6 npw) (fr k7 hr7 fpt) (fr k7 hr7 fps)
  ·have h4:=k4 a o (fun c=>ha (.inl c)) e
   refine k8 a o (fun c=>?_) (k7 a o (fun c=>ha (.inl c)) e)
   rcases c with c|c|c|c
   ·exact ha (.inl c)
   ·rw[c,npr4] at h4;cases h4
   ·rw[c,npn4] at h4;cases h4
   ·exact ha (.inr c)
  ·refine k8 _ _ (fun c=>?_) hpw7
   rcases c with c|c|c|c
   ·exact zan hpw6 hr6' (by intro c;cases c) c
   ·exact (zad hpr6 npw).symm c
   ·exact (zad hpn6 npw).symm c
   ·exact (zad (k6 _ _ hbr ht) npw).symm c
theorem zeN {z tb:Addr}{H H':Hp}(L:LamTb tb H) (B:Bag z H) (A:Aft z H H'):LamTb tb H':=by
 obtain ⟨c,d,hz⟩:=B
 exact L.sameX hz A.1
abbrev zcL:Stmt:=za0 sPage 2
inductive zgp (P:Program) (w:World) (tb CP CS:Addr):List V→Hp→VK→XK→Prop where
 |mk {vs:List V} {H:Hp} {Q:VK} {E:XK} (z r dx:Addr) (v:V) (b:Bk) (x:Str) (pt ps so dxs pr pn pw pq:Addr) (tab:List Rws) (N:Nat) (ks:List Nat) (bg en:Nat) (t:Str) (wl:List V)
  (c1:vs=[.ref r]) (c2:PgS P w z CP CS H r dx v b x pt ps so dxs pr pn pw tab N ks) (c3:Bag z H) (c4:LamTb tb H) (c5:bg≤en) (c6:en≤x.length) (c7:x.length-(en-bg)+t.length≤2000) (c8:tab.length+2000<8000000) (c9:H pw=some (.lst (wl++[.ref pq]))) (c9':H pq=some (.tup [.int bg,.int en,.str t]))
  (c10:∀x' K M n d pt' ps' ks' tab' H',PutR b x x' bg en t N K M n d→PgS P w z CP CS H' r dx v b x' pt' ps' so dxs pr pn pw tab' (M+(N-n)) ks'→tab'.length≤tab.length+2000→KeepE (fun a=>a=pw∨a=r∨a=pr∨a=pn∨a=tb) H H'→Bag z H'→LamTb tb H'→H' pw=some (.lst wl)→H pt'=none→H ps'=none→Q .non H'):zgp P w tb CP CS vs H Q E
theorem scBack:zav ["self","begin","end","text"] ["self"] (zag zcL):=⟨rfl,rfl,rfl,by decide +kernel,rfl,by decide +kernel,by decide +kernel⟩
theorem zkQ {f g1 tb CP CS:Addr}{fd gd1:FuncData}(F:Fun K "take_back" "Page.take_back" zcL f fd) (T3:TxtP K mg CP)
  (n1:Meth K CP "put" g1) (b1:Binds K gd1 ["self","begin","end","text"] []) (G1:FnOk P w K mg base CX0 7 g1 gd1 ["self","begin","end","text"] (spPut P w tb CP CS)):FnOk P w K mg base CX0 8 f fd ["self"] (zgp P w tb CP CS):=by
 refine F.ok scBack (fun vs H Q E h=>?_) (fun cdv A outer s H vs Q E hr h=>?_)
 ·obtain ⟨z,r,dx,v,b,x,pt,ps,so,dxs,pr,pn,pw,pq,tab,N,ks,bg,en,t,wl,rfl,_⟩:=h
  rfl
 ·obtain ⟨z,r,dx,v,b,x,pt,ps,so,dxs,pr,pn,pw,pq,tab,N,ks,bg,en,t,wl,rfl,hP,hB,hL,hbe,hex,hnew,htab,hpw,hpq,k⟩:=h
  have nd:=scBack.nd
  refine ⟨_,zac (zaW (zdP (zcu (zaH (pv 0) rfl) (fun _=>rfl))) zbQ zaA)
   (zac (zbq (ze1 PySem.F.plainAttrs_list PySem.F.slot_list_pop PySem.F.type_list_pop zf0 (zaH (pv 0) rfl)) (zbu rfl (zat (zao (i:=1) nd rfl (Or.inl rfl)) (zat (zao (i:=2) nd rfl (Or.inl rfl)) (zat (zao (i:=3) nd rfl (Or.inl rfl)) za1)))))
   (zai (zaO (zaZ (pv 0) T3.cl n1 G1 hr b1 .nil pass0 (zaa (pv 1) (zaa (pv 2) (zaa (pv 3) zae))))))),?_⟩
  dsimp only[cxOf,Cx.nox,Cx.wish]
  have big2:(100000:Nat)≤sizeLine:=by rw[sizeLine_eq];decide
  have hxl:=hP.xl
  have hins:=hP.ins
  refine zbg fun D1 hD1 _ _ _=>zak fun U hU=>?_
  have hne:(!(wl++[V.ref pq]).isEmpty)=true:=by cases wl<;>rfl
  refine ⟨_,rfl,r,CP,dx,_,_,rfl,hins,T3.cl,T3.nW,zeI v x pt ps so pw,_,.inl ⟨_,SqL.of hpw,rfl⟩,?_⟩
  rw[hne]
  refine iteF (hU _ _ (zak fun U hU=>?_))
  have kw:KeepE (fun a=>a=pw) H (upd H pw (.lst wl)):=zaN
  have nw:NoTup (fun a=>a=pw) H:=zaE hpw (by intro xs c;cases c)
  obtain ⟨⟨w1,w2,w3⟩,⟨w4,w5,w6⟩,w7,w8⟩:=hP.nes
  obtain ⟨as,a1,_,a3⟩:=id hP.sd.ex
  obtain ⟨ps0,ht⟩:=hL.tbl
  have hP2:=hP.keep kw nw (zan hP.ins hpw (by intro c;cases c)) w7.symm w8.symm (zan hP.sd.ins hpw (by intro c;cases c)) w3.symm (zan a3 hpw (by intro c;cases c))
  have B2:Bag z (upd H pw (.lst wl)):=by
   obtain ⟨c,d',hz⟩:=hB
   exact ⟨c,d',kw _ _ w6.symm hz⟩
  have L2:=zdH (l':=wl) hL hpw
  have hpw2:upd H pw (.lst wl) pw=some (.lst wl):=zab
  have hpq2:=kw _ _ (zan hpq hpw (by intro c;cases c)) hpq
  have fr2:∀ {a:Addr},upd H pw (.lst wl) a=none→H a=none:=fun {a} n=>by
   by_cases c:a=pw
   ·rw[c,hpw2] at n;cases n
   ·rw[zaj c] at n;exact n
  refine ⟨_,rfl,r,CP,dx,_,_,rfl,hins,T3.cl,T3.nW,zeI v x pt ps so pw,.inl ⟨rfl,_,SqL.of hpw⟩,pw,wl++[.ref pq],.ref pq,rfl,rfl,hpw,by simp,?_⟩
  rw[show (wl++[V.ref pq]).dropLast=wl by simp]
  generalize upd H pw (.lst wl)=H2 at *
  refine ⟨pq,_,rfl,SqT.of hpq2,rfl,_,_,rfl,_,_,rfl,_,_,rfl,rfl,hU _ _ ?_⟩
  refine ⟨_,rfl,r,dx,_,rfl,hP2.ins,zaV (by simp),_,rfl,_,rfl,_,rfl,z,r,dx,v,b,x,pt,ps,so,dxs,pr,pn,pw,tab,N,ks,bg,en,t,rfl,hP2,B2,L2,hbe,hex,hnew,htab,⟨_,hpw2⟩,fun p x' Kk M n d pt' ps' ks' tab' H3 hR hP3 ht3 k3 B3 L3 np hp fpt fps=>hD1 _ _ (k x' Kk M n d pt' ps' ks' tab' H3 hR hP3 ht3 (fun a o ha e=>k3 a o (fun c=>ha (.inr c)) (kw a o (fun c=>ha (.inl c)) e)) B3 L3 ?_ (fr2 fpt) (fr2 fps))⟩
  exact k3 _ _ (fun c=>c.elim (zan hpw2 hP2.ins (by intro c;cases c)) fun c=>c.elim w3 fun c=>c.elim (zan hpw a3 (by intro c;cases c)) (zan hpw ht (by intro c;cases c))) hpw2
inductive zeO (CP CN:Addr):List V→Hp→VK→XK→Prop where
 |mk {vs:List V} {H:Hp} {Q:VK} {E:XK} (r dx:Addr) (v:V) (x:Str) (pt ps so pw:Addr) (c1:vs=[.ref r]) (c2:H r=some (.ins CP dx (pgF v x pt ps so pw))) (c3:H pw=some (.lst [])) (c4:E (.ref CN) none H):zeO CP CN vs H Q E
theorem zjw {f CP CN:Addr}{fd:FuncData}(F:Fun K "take_back" "Page.take_back" zcL f fd) (T3:TxtP K mg CP) (hx:W.excIn K CN bmVE "ValueError.__new__"=true) (hN:mg "Nothing"=some (.ref CN)) :
  FnOk P w K mg base (CXE P w) 1 f fd ["self"] (zeO CP CN):=by
 refine F.okX scBack (fun vs H Q E h=>?_) (fun cdv A outer s H vs Q E hr h=>?_)
 ·obtain ⟨r,dx,v,x,pt,ps,so,pw,rfl,_⟩:=h
  rfl
 ·obtain ⟨r,dx,v,x,pt,ps,so,pw,rfl,hins,hpw,hE⟩:=h
  refine ⟨_,zac (zaW (zdP (zcu (zaH (pv 0) rfl) (fun _=>rfl))) (zai (zi0 hx rfl rfl hN (zaa zay zae) zlD)) zaA) zbQ,?_⟩
  dsimp only[cxOf]
  refine ⟨_,rfl,r,CP,dx,_,_,rfl,hins,T3.cl,T3.nW,zeI v x pt ps so pw,_,.inl ⟨_,SqL.of hpw,rfl⟩,?_⟩
  refine iteT ?_
  exact ⟨by simp[sizeLine_eq],hE⟩
inductive Backs (H:Hp):List V→List Str→Str→Prop where
 |nil (x:Str):Backs H [] [] x
 |snoc {wl:List V} {xs:List Str} {y x t:Str} {pq:Addr} {bg en:Nat} (h:Backs H wl xs y) (e:H pq=some (.tup [.int bg,.int en,.str t])) (h1:bg≤en) (h2:en≤x.length) (h3:x.length-(en-bg)+t.length≤2000) (h4:y.cps.toList=x.cps.toList.take bg++t.cps.toList++x.cps.toList.drop en):Backs H (wl++[.ref pq]) (xs++[y]) x
theorem Backs.keep {H H':Hp}{S:Addr→Prop}(k:KeepE S H H') (n:NoTup S H){wl:List V}{xs:List Str}{x:Str}(h:Backs H wl xs x):Backs H' wl xs x:=by
 induction h with
 |nil x=>exact .nil x
 |snoc h e h1 h2 h3 h4 ih=>exact .snoc ih (k _ _ (fun c=>n _ _ c e) e) h1 h2 h3 h4
theorem Backs.len {H:Hp}{wl:List V}{xs:List Str}{x:Str}(h:Backs H wl xs x):wl.length=xs.length:=by
 induction h with
 |nil=>rfl
 |snoc _ _ _ _ _ _ ih=>rw[List.length_append,List.length_append,ih];rfl
theorem Backs.last {H:Hp}{wl:List V}{xs:List Str}{x:Str}(h:Backs H wl xs x) (hne:xs≠[]):∃wl' xs' y t pq,∃bg en:Nat,wl=wl'++[.ref pq]∧xs=xs'++[y]∧Backs H wl' xs' y∧H pq=some (.tup [.int bg,.int en,.str t])∧bg≤en∧en≤x.length∧x.length-(en-bg)+t.length≤2000∧y.cps.toList=x.cps.toList.take bg++t.cps.toList++x.cps.toList.drop en:=by
 cases h with
 |nil=>exact absurd rfl hne
 |snoc h e h1 h2 h3 h4=>exact ⟨_,_,_,_,_,_,_,rfl,rfl,h,e,h1,h2,h3,h4⟩
theorem zkR {x x' t o:Str}{bg en:Nat}(hbe:bg≤en) (hen:en≤x.length) (hx:x'.cps.toList=x.cps.toList.take bg++t.cps.toList++x.cps.toList.drop en) (ho:o=cutS x (some (bg:Int)) (some (en:Int))) :
  bg+t.length≤x'.length∧x'.length-(bg+t.length-bg)+o.length=x.length∧x.cps.toList=x'.cps.toList.take bg++o.cps.toList++x'.cps.toList.drop (bg+t.length):=by
 have hl:=congrArg List.length hx
 rw[List.length_append,List.length_append,List.length_take,List.length_drop,zam,zam,zam] at hl
 have ec:cutS x (some (bg:Int)) (some (en:Int))=cutS x (some (bg:Int)) (some ((bg:Int)+((en-bg:Nat):Int))):=by congr 2;omega
 have hol:o.cps.toList=(x.cps.toList.drop bg).take (en-bg):=by rw[ho,ec,zcD]
 have hol2:o.length=en-bg:=by rw[←zam,hol,List.length_take,List.length_drop,zam];omega
 have hmin:min bg x.length=bg:=by omega
 rw[hmin] at hl
 have htk:(x.cps.toList.take bg).length=bg:=by rw[List.length_take,zam];omega
 refine ⟨by omega,by omega,?_⟩
 rw[hx,hol]
 have h1:(x.cps.toList.take bg++t.cps.toList++x.cps.toList.drop en).take bg=x.cps.toList.take bg:=by rw[List.append_assoc,List.take_append_of_le_length (by omega),List.take_of_length_le (by omega)]
 have h2:(x.cps.toList.take bg++t.cps.toList++x.cps.toList.drop en).drop (bg+t.length)=x.cps.toList.drop en:=List.drop_left' (by rw[List.length_append,htk,zam])
 rw[h1,h2,List.append_assoc]
 have h3:(x.cps.toList.drop bg).take (en-bg)++x.cps.toList.drop en=x.cps.toList.drop bg:=by
  have:x.cps.toList.drop en=(x.cps.toList.drop bg).drop (en-bg):=by rw[List.drop_drop];congr 1;omega
  rw[this,List.take_append_drop]
 rw[h3,List.take_append_drop]
end T1
namespace L2
open PySem PySem.Spec PyProof.Rows
theorem zir {ea:Addr}{ecl:Value}{lo:Int}{n:Nat}{H0:Hp}{p:Addr}(h:H0 ea=some (exH ea ecl)) (hp:ea≠p):ItOk (ItrU ea ecl lo n) n (fun i=>.int (lo+i)) H0 p where
 go:=fun i H h _=>h
 stop:=fun H k=>⟨Nat.le_refl _,k ea _ hp h⟩
 yld:=fun i H x H' _ _ q=>q
theorem zb5 {X:Cx}{a:Expr}{ta:TE}{T:Str}{D:Addr}{p1 p2 pos:Pos}(hm:X.mg "isinstance"=none) (hm2:X.mg T=some (.ref D)) (ha:PE X a ta) (hg:Gl X "isinstance":=by rfl) (hg2:Gl X T:=by rfl)
  (hs:starEach [a,.Name T p2] X.env=(false,eval a X.env)::starEach [.Name T p2] X.env:=by rfl) (hpl:(backTo pos (starEach [.Name T p2] X.env)).any (·.1)=false:=by rfl) (hd:(T==("__debug__":Str))=false:=by decide) :
  PE X (.Call (.Name "isinstance" p1) [a,.Name T p2] [] pos) (tCB (rIsX X.K) (tCons ta (tCons (tC (.ref D)) tNil))):=
 zaq (p:=p1) (pos:=pos) (X:=X) zf9 hg hm T1.b_isinst (zaa ha (zaa (zd6 (v:=.ref D) (pos:=p2) hg2 hm2 rfl hd) zae) hs) (by decide) (by decide) hs hpl
theorem zkS {X:Cx}{a:Expr}{ta:TE}{T:Str}{n:String}{p1 p2 pos:Pos}(hm:X.mg "isinstance"=none) (hm2:X.mg T=none) (hb:bootBuiltins T=some (.type n)) (ha:PE X a ta) (hg:Gl X "isinstance":=by rfl) (hg2:Gl X T:=by rfl)
  (hs:starEach [a,.Name T p2] X.env=(false,eval a X.env)::starEach [.Name T p2] X.env:=by rfl) (hpl:(backTo pos (starEach [.Name T p2] X.env)).any (·.1)=false:=by rfl) (hn:T≠"__name__":=by decide) (hd:(T==("__debug__":Str))=false:=by decide) :
  PE X (.Call (.Name "isinstance" p1) [a,.Name T p2] [] pos) (tCB (rIsX X.K) (tCons ta (tCons (tC (.ty n)) tNil))):=
 zaq (p:=p1) (pos:=pos) (X:=X) zf9 hg hm T1.b_isinst (zaa ha (zaa (zjZ (v:=.ty n) (pos:=p2) hg2 hm2 hb rfl hn hd) zae) hs) (by decide) (by decide) hs hpl
end L2
namespace T1
open PySem L2
variable {P:Program}{w:World}{K:W.Frag}{mg:Str→Option Value}{base:Heap}
structure TxtE (mg:Str→Option Value) (c1 c2 c3 c4 c5 c6 c7 c8:Addr):Prop where
 e1:mg "NoDoor"=some (.ref c1)
 e2:mg "NoPlace"=some (.ref c2)
 e3:mg "NoRow"=some (.ref c3)
 e4:mg "NoText"=some (.ref c4)
 e5:mg "NoTongue"=some (.ref c5)
 e6:mg "NoWay"=some (.ref c6)
 e7:mg "Nothing"=some (.ref c7)
 e8:mg "TooMany"=some (.ref c8)
 ve:mg "ValueError"=none
abbrev kWords:List Str:=["NoDoor","NoPlace","NoRow","NoText","NoTongue","NoWay","Nothing","TooMany","+"]
def kList (bs:List Bool) (n:Nat):List Str:=(List.range n).filterMap fun i=>if bs.getD i false=true then some (kWords.getD i "") else none
def zeP (bs:List Bool):Str:=PySem.Builtin.Str.glued (Str.ofString "") (kList bs 9)
theorem zd3 (bs:List Bool):∀n,flatN (fun i=>(if bs.getD i false=true then some (V.str (kWords.getD i "")) else none).toList) n=(kList bs n).map V.str
 |0=>rfl
 |n+1=>by
  show flatN _ n++_=_
  rw[zd3 bs n]
  unfold kList
  rw[List.range_succ,List.filterMap_append,List.map_append]
  congr 1
  by_cases h:bs.getD n false=true
  ·show (if bs.getD n false=true then some (V.str (kWords.getD n "")) else none).toList=_
   rw[if_pos h,List.filterMap_cons,if_pos h]
   rfl
  ·show (if bs.getD n false=true then some (V.str (kWords.getD n "")) else none).toList=_
   rw[if_neg h,List.filterMap_cons,if_neg h]
   rfl
theorem zis (bs:List Bool) (n:Nat):(kList bs n).length≤n:=by
 have:=List.length_filterMap_le (fun i=>if bs.getD i false=true then some (kWords.getD i "") else none) (List.range n)
 rw[List.length_range] at this
 exact this
theorem zfV {bs:List Bool}{n:Nat}{y:Str}(h:y∈kList bs n):y.length≤100:=by
 obtain ⟨i,_,hi⟩:=List.mem_filterMap.mp h
 have all:∀j,(kWords.getD j "").length≤100:=by
  intro j
  rcases j with _|_|_|_|_|_|_|_|_|j
  all_goals first|decide +kernel|exact (by decide +kernel:(Str.ofString "").length≤100)
 split at hi
 ·cases hi
  exact all i
 ·cases hi
inductive zdJ (K:W.Frag) (c1 c2 c3 c4 c5 c6 c7 c8:Addr):Addr→List V→Hp→VK→XK→Prop where
 |mk {ea:Addr} {vs:List V} {H:Hp} {Q:VK} {E:XK} (C:Addr) (b1 b2 b3 b4 b5 b6 b7 b8 b9:Bool) (h1:vs=[.ref ea]) (h2:H ea=some (exH ea (.ref C))) (h3:ExCls K C)
  (k1:W.kitOne K (.ref C) (.ref c1)=some b1) (k2:W.kitOne K (.ref C) (.ref c2)=some b2) (k3:W.kitOne K (.ref C) (.ref c3)=some b3) (k4:W.kitOne K (.ref C) (.ref c4)=some b4)
  (k5:W.kitOne K (.ref C) (.ref c5)=some b5) (k6:W.kitOne K (.ref C) (.ref c6)=some b6) (k7:W.kitOne K (.ref C) (.ref c7)=some b7) (k8:W.kitOne K (.ref C) (.ref c8)=some b8)
  (k9:W.kitOne K (.ref C) (.type "ValueError")=some b9) (q:∀H',Same H H'→Q (.str (zeP [b1,b2,b3,b4,b5,b6,b7,b8,b9])) H'):zdJ K c1 c2 c3 c4 c5 c6 c7 c8 ea vs H Q E
theorem b_ve:bootBuiltins "ValueError"=some (.type "ValueError"):=by decide +kernel
theorem scKinds:zav ["e","some","words"] ["e"] (zag zgf):=⟨rfl,rfl,rfl,by decide +kernel,rfl,by decide +kernel,by decide +kernel⟩
theorem ndKWS:(["k","words","some"]:List Str).Nodup:=by decide +kernel
theorem zjx {f c1 c2 c3 c4 c5 c6 c7 c8:Addr}{fd:FuncData}(F:Fun K "_law_kinds" "_law_kinds" zgf f fd) (T:TxtB mg) (TE:TxtE mg c1 c2 c3 c4 c5 c6 c7 c8):FnOkU P w K mg base 1 f fd ["e"] (zdJ K c1 c2 c3 c4 c5 c6 c7 c8):=by
 refine F.okU scKinds (fun ea vs H Q E h=>?_) (fun cdv A outer s H vs Q E ea hr hh h=>?_)
 ·obtain ⟨C,b1,b2,b3,b4,b5,b6,b7,b8,b9,rfl,_⟩:=h
  rfl
 ·obtain ⟨C,b1,b2,b3,b4,b5,b6,b7,b8,b9,rfl,hea,hx,k1,k2,k3,k4,k5,k6,k7,k8,k9,q⟩:=h
  have nd:=scKinds.nd
  refine ⟨_,zac (zap (i:=1) nd rfl (Or.inr rfl) (zaF (zaa (zb5 T.isinst TE.e1 (pv 0)) (zaa (zb5 T.isinst TE.e2 (pv 0)) (zaa (zb5 T.isinst TE.e3 (pv 0)) (zaa (zb5 T.isinst TE.e4 (pv 0)) zae))))))
   (zac (zap (i:=1) nd rfl (Or.inr rfl) (zaB zdS (pv 1) (zaF (zaa (zb5 T.isinst TE.e5 (pv 0)) (zaa (zb5 T.isinst TE.e6 (pv 0)) (zaa (zb5 T.isinst TE.e7 (pv 0)) (zaa (zb5 T.isinst TE.e8 (pv 0)) zae)))))))
   (zac (zaO (zbU PySem.F.plainAttrs_list PySem.F.slot_list_append PySem.F.type_list_append zaK (pv 1) (zaa (zkS T.isinst TE.ve b_ve (pv 0)) zae)))
   (zac (zap (i:=2) nd rfl (Or.inr rfl) (zaF (zaa zay (zaa zay (zaa zay (zaa zay (zaa zay (zaa zay (zaa zay (zaa zay (zaa zay zae)))))))))))
   (zai (zax (zbU PySem.F.plainAttrs_str PySem.F.slot_str_join PySem.F.type_str_join zkh zay (zaa
    (zhA (ea:=ea) (ecl:=.ref C) (N':=["k","words","some"]) (js:=[none,some 2,some 1]) rfl hh (zbx (zag zgf) (by decide +kernel)) ⟨rfl,Or.inr (Or.inl rfl),rfl,rfl,Or.inr (Or.inl rfl),rfl,trivial⟩ (zgE rfl T.range (zaa zaf zae))
     (fun cl s H fp=>zao (i:=0) ndKWS rfl (Or.inl rfl)) (fun cl s H fp=>zcR (zdN (zau zef (pv 2) (pv 0) (fun _ _=>rfl)))) (fun cl s H fp=>zau zef (pv 1) (pv 0) (fun _ _=>rfl))) zae))))))),?_⟩
  dsimp only[cxOfU,cxOf]
  have big:(1000:Nat)≤sizeLine:=by rw[sizeLine_eq];decide
  refine zak fun U hU=>?_
  refine ⟨_,rfl,ea,C,V.ref c1,_,Value.ref c1,rfl,rfl,(fun _ z=>z),hea,hx,k1,_,rfl,ea,C,V.ref c2,_,Value.ref c2,rfl,rfl,(fun _ z=>z),hea,hx,k2,_,rfl,ea,C,V.ref c3,_,Value.ref c3,rfl,rfl,(fun _ z=>z),hea,hx,k3,_,rfl,ea,C,V.ref c4,_,Value.ref c4,rfl,rfl,(fun _ z=>z),hea,hx,k4,by simp only[List.length_cons,List.length_nil];omega,fun p np=>hU _ _ (zak fun U hU=>?_)⟩
  have s1:Same H (upd H p (.lst [.bl b1,.bl b2,.bl b3,.bl b4])):=Same.new np
  have hp1:upd H p (.lst [.bl b1,.bl b2,.bl b3,.bl b4]) p=some (.lst [.bl b1,.bl b2,.bl b3,.bl b4]):=zab
  have he1:=s1 _ _ hea
  generalize upd H p (.lst [.bl b1,.bl b2,.bl b3,.bl b4])=H1 at *
  refine ⟨_,rfl,_,rfl,ea,C,V.ref c5,_,Value.ref c5,rfl,rfl,(fun _ z=>z),he1,hx,k5,_,rfl,ea,C,V.ref c6,_,Value.ref c6,rfl,rfl,(fun _ z=>z),he1,hx,k6,_,rfl,ea,C,V.ref c7,_,Value.ref c7,rfl,rfl,(fun _ z=>z),he1,hx,k7,_,rfl,ea,C,V.ref c8,_,Value.ref c8,rfl,rfl,(fun _ z=>z),he1,hx,k8,by simp only[List.length_cons,List.length_nil];omega,fun p2 np2=>?_⟩
  have s2:Same H1 (upd H1 p2 (.lst [.bl b5,.bl b6,.bl b7,.bl b8])):=Same.new np2
  have hp12:=s2 _ _ hp1
  have hp22:upd H1 p2 (.lst [.bl b5,.bl b6,.bl b7,.bl b8]) p2=some (.lst [.bl b5,.bl b6,.bl b7,.bl b8]):=zab
  have he2:=s2 _ _ he1
  have t2:=s1.trans s2
  generalize upd H1 p2 (.lst [.bl b5,.bl b6,.bl b7,.bl b8])=H2 at *
  refine ⟨p,p2,_,_,rfl,rfl,hp12,hp22,by simp only[List.length_cons,List.length_nil];omega,fun p3 np3=>hU _ _ (zak fun U hU=>?_)⟩
  have s3:Same H2 (upd H2 p3 (.lst ([.bl b1,.bl b2,.bl b3,.bl b4]++[.bl b5,.bl b6,.bl b7,.bl b8]))):=Same.new np3
  have hp3:upd H2 p3 (.lst ([.bl b1,.bl b2,.bl b3,.bl b4]++[.bl b5,.bl b6,.bl b7,.bl b8])) p3=some (.lst ([.bl b1,.bl b2,.bl b3,.bl b4]++[.bl b5,.bl b6,.bl b7,.bl b8])):=zab
  have he3:=s3 _ _ he2
  have t3:=t2.trans s3
  have n3:H p3=none:=by
   cases c:H p3 with
   |none=>rfl
   |some o=>rw[t2 _ _ c] at np3;cases np3
  generalize upd H2 p3 (.lst ([.bl b1,.bl b2,.bl b3,.bl b4]++[.bl b5,.bl b6,.bl b7,.bl b8]))=H3 at *
  refine ⟨_,rfl,.inl ⟨rfl,_,SqL.of hp3⟩,_,rfl,ea,C,V.ty "ValueError",_,Value.type "ValueError",rfl,rfl,(fun _ z=>z),he3,hx,k9,p3,_,_,rfl,rfl,hp3,by simp only[List.length_cons,List.length_nil,List.length_append];omega,hU _ _ (zak fun U hU=>?_)⟩
  have t4:Same H (upd H3 p3 (.lst ([.bl b1,.bl b2,.bl b3,.bl b4]++[.bl b5,.bl b6,.bl b7,.bl b8]++[.bl b9]))):=SameX.of_new n3 (SameX.upd t3.x)
  have hp4:upd H3 p3 (.lst ([.bl b1,.bl b2,.bl b3,.bl b4]++[.bl b5,.bl b6,.bl b7,.bl b8]++[.bl b9])) p3=some (.lst ([.bl b1,.bl b2,.bl b3,.bl b4]++[.bl b5,.bl b6,.bl b7,.bl b8]++[.bl b9])):=zab
  have he4:=t4 _ _ hea
  generalize upd H3 p3 (.lst ([.bl b1,.bl b2,.bl b3,.bl b4]++[.bl b5,.bl b6,.bl b7,.bl b8]++[.bl b9]))=H4 at *
  refine ⟨by simp only[List.length_cons,List.length_nil];omega,fun p4 np4=>hU _ _ ?_⟩
  have s5:Same H4 (upd H4 p4 (.lst (kWords.map V.str))):=Same.new np4
  have t5:=t4.trans s5
  have he5:=s5 _ _ he4
  have hp35:=s5 _ _ hp4
  have hp45:upd H4 p4 (.lst (kWords.map V.str)) p4=some (.lst (kWords.map V.str)):=zab
  have hg:upd H4 p4 (.lst (kWords.map V.str))=upd H4 p4 (.lst [.str "NoDoor",.str "NoPlace",.str "NoRow",.str "NoText",.str "NoTongue",.str "NoWay",.str "Nothing",.str "TooMany",.str "+"]):=rfl
  rw[←hg]
  clear hg
  generalize upd H4 p4 (.lst (kWords.map V.str))=H5 at *
  refine ⟨rfl,9,rfl,by decide,by decide,fun pD npD=>?_⟩
  have hne:ea≠pD:=zad he5 npD
  refine zbw (fun i=>if ([b1,b2,b3,b4,b5,b6,b7,b8,b9]:List Bool).getD i false=true then some (V.str (kWords.getD i "")) else none) (fun σ=>∃u,σ=[u,some (.ref p4),some (.ref p3)]) ⟨none,rfl⟩ npD (by decide) (zir (by rw[zaj hne];exact he5) hne) (fun j σ H6 C hj ⟨u,hu⟩ s6 hC=>?_) (fun σ H6 s6 hC6=>?_)
  ·subst hu
   have hj:j<9:=hj
   have e0:(0:Int)+(j:Int)=(j:Int):=by omega
   have a1:atI ([.bl b1,.bl b2,.bl b3,.bl b4]++[.bl b5,.bl b6,.bl b7,.bl b8]++[.bl b9]) (j:Int)=some (V.bl (([b1,b2,b3,b4,b5,b6,b7,b8,b9]:List Bool).getD j false)):=by
    refine zah ?_
    rcases j with _|_|_|_|_|_|_|_|_|j
    all_goals first|rfl|omega
   have a2:atI (kWords.map V.str) (j:Int)=some (V.str (kWords.getD j "")):=by
    refine zah ?_
    rcases j with _|_|_|_|_|_|_|_|_|j
    all_goals first|rfl|omega
   dsimp only[gName]
   rw[e0]
   refine ⟨_,rfl,_,rfl,p3,_,_,_,rfl,rfl,SqL.of (s6 _ _ hp35),a1,_,rfl,?_⟩
   refine ite2 (fun g=>?_) (fun g=>?_)
   ·rw[if_pos g] at hC
    exact ⟨_,rfl,_,rfl,p4,_,_,_,rfl,rfl,SqL.of (s6 _ _ hp45),a2,hC _ _ ⟨_,rfl⟩ (Same.refl _)⟩
   ·rw[if_neg g] at hC
    exact hC _ _ ⟨_,rfl⟩ (Same.refl _)
  ·rw[zd3] at hC6
   exact ⟨_,pD,_,rfl,rfl,SqL.of hC6,Nat.le_trans (zis _ _) (by decide),by decide +kernel,fun y hy=>zfV hy,q _ (t5.trans s6)⟩
structure TxtN (mg:Str→Option Value) (cN c1 c2 c3 c4 c5 c6 c7 c8:Addr):Prop extends TxtE mg c1 c2 c3 c4 c5 c6 c7 c8 where
 e0:mg "NestError"=some (.ref cN)
theorem zeQ {K:W.Frag}{cN c1 c2 c3 c4 c5 c6 c7 c8 C ea:Addr}{b1 b2 b3 b4 b5 b6 b7 b8:Bool}{H:Hp}{Q:VK}{E:XK}(X:ErrC K cN [c1,c2,c3,c4,c5,c6,c7,c8] C [b1,b2,b3,b4,b5,b6,b7,b8]) (h2:H ea=some (exH ea (.ref C)))
  (q:∀H',Same H H'→Q (.str (zeP [b1,b2,b3,b4,b5,b6,b7,b8,true])) H'):zdJ K c1 c2 c3 c4 c5 c6 c7 c8 ea [.ref ea] H Q E:=by
 have ks:=X.ks
 simp only[List.map_cons,List.map_nil,List.cons.injEq,and_true] at ks
 obtain ⟨k1,k2,k3,k4,k5,k6,k7,k8⟩:=ks
 exact ⟨C,_,_,_,_,_,_,_,_,_,rfl,h2,X.xc,k1,k2,k3,k4,k5,k6,k7,k8,X.kv,q⟩
theorem kN:zeP [false,false,false,false,false,false,true,false,true]=Str.ofString "Nothing+":=by decide +kernel
def zit (K:W.Frag) (yN y1 y2 y3 y4 y5 y6 y7 y8:Addr) (Q:VK):XK:=fun cls _ H1=>∃C b1 b2 b3 b4 b5 b6 b7 b8,cls=.ref C∧ErrC K yN [y1,y2,y3,y4,y5,y6,y7,y8] C [b1,b2,b3,b4,b5,b6,b7,b8]∧∀H2,Same H1 H2→∀p,H2 p=none→Q (.ref p) (upd H2 p (.lst [.str (zeP [b1,b2,b3,b4,b5,b6,b7,b8,true]),.non]))
def Told (Q:VK):VK:=fun v H1=>∀p,H1 p=none→Q (.ref p) (upd H1 p (.lst [.str "",v]))
inductive zcf (K:W.Frag) (CP yN y1 y2 y3 y4 y5 y6 y7 y8:Addr) (s1 s2 s3:Sp):List V→Hp→VK→XK→Prop where
 |ch {vs:List V} {H:Hp} {Q:VK} {E:XK} (r dx pd:Addr) (fs:List (Str×V)) (x y u:V) (c1:vs=[.ref r,.ref pd]) (c2:H r=some (.ins CP dx fs)) (c3:fs.lookup ("change":Str)=none) (c4:H pd=some (.lst [.str "change",x,y,u])) (q:∀Q' E',(∀v H1,Told Q v H1→Q' v H1)→(∀c o H1,zit K yN y1 y2 y3 y4 y5 y6 y7 y8 Q c o H1→E' c o H1)→s1 [.ref r,x,y,u] H Q' E'):zcf K CP yN y1 y2 y3 y4 y5 y6 y7 y8 s1 s2 s3 vs H Q E
 |at {vs:List V} {H:Hp} {Q:VK} {E:XK} (r dx pd:Addr) (fs:List (Str×V)) (x:V) (c1:vs=[.ref r,.ref pd]) (c2:H r=some (.ins CP dx fs)) (c3:fs.lookup ("standing_at":Str)=none) (c4:H pd=some (.lst [.str "at",x])) (q:∀Q' E',(∀v H1,Told Q v H1→Q' v H1)→(∀c o H1,zit K yN y1 y2 y3 y4 y5 y6 y7 y8 Q c o H1→E' c o H1)→s2 [.ref r,x] H Q' E'):zcf K CP yN y1 y2 y3 y4 y5 y6 y7 y8 s1 s2 s3 vs H Q E
 |bk {vs:List V} {H:Hp} {Q:VK} {E:XK} (r dx pd:Addr) (fs:List (Str×V)) (c1:vs=[.ref r,.ref pd]) (c2:H r=some (.ins CP dx fs)) (c3:fs.lookup ("take_back":Str)=none) (c4:H pd=some (.lst [.str "back"])) (q:∀Q' E',(∀v H1,Told Q v H1→Q' v H1)→(∀c o H1,zit K yN y1 y2 y3 y4 y5 y6 y7 y8 Q c o H1→E' c o H1)→s3 [.ref r] H Q' E'):zcf K CP yN y1 y2 y3 y4 y5 y6 y7 y8 s1 s2 s3 vs H Q E
theorem wch1:decide (V.str (Str.ofString "at")=V.str (Str.ofString "change"))=false:=by decide +kernel
theorem wch2:decide (V.str (Str.ofString "back")=V.str (Str.ofString "change"))=false:=by decide +kernel
theorem wch3:decide (V.str (Str.ofString "back")=V.str (Str.ofString "at"))=false:=by decide +kernel
theorem scTriedP:zav ["page","deed","kind","told","e"] ["page","deed"] (zag zhQ):=⟨rfl,rfl,rfl,by decide +kernel,rfl,by decide +kernel,by decide +kernel⟩
theorem ziu {f CP yN y1 y2 y3 y4 y5 y6 y7 y8 g1 g2 g3 f5:Addr}{fd gd1 gd2 gd3 fd5:FuncData}{s1 s2 s3:Sp}(F:Fun K "_law_tried" "_law_tried" zhQ f fd) (TN:TxtN mg yN y1 y2 y3 y4 y5 y6 y7 y8) (cl:Cls K CP)
  (n1:Meth K CP "change" g1) (b1:Binds K gd1 ["self","begin","end","text"] []) (G1:FnOk P w K mg base (CXE P w) 8 g1 gd1 ["self","begin","end","text"] s1)
  (n2:Meth K CP "standing_at" g2) (b2:Binds K gd2 ["self","place"] []) (G2:FnOk P w K mg base (CXE P w) 8 g2 gd2 ["self","place"] s2)
  (n3:Meth K CP "take_back" g3) (b3:Binds K gd3 ["self"] []) (G3:FnOk P w K mg base (CXE P w) 8 g3 gd3 ["self"] s3)
  (k5:W.keepIn K (.ref f5)=true) (b5:Binds K fd5 ["e"] []) (m5:mg "_law_kinds"=some (.ref f5)) (G5:FnOkU P w K mg base 1 f5 fd5 ["e"] (zdJ K y1 y2 y3 y4 y5 y6 y7 y8)):FnOk P w K mg base CX0 9 f fd ["page","deed"] (zcf K CP yN y1 y2 y3 y4 y5 y6 y7 y8 s1 s2 s3):=by
 refine F.ok scTriedP (fun vs H Q E h=>?_) (fun cdv A outer s H vs Q E hr h=>?_)
 ·cases h with
  |ch r dx pd fs x y u c1=>subst c1;rfl
  |«at» r dx pd fs x c1=>subst c1;rfl
  |bk r dx pd fs c1=>subst c1;rfl
 ·have nd:=scTriedP.nd
  have hrU:RoomU 1 _:=(hr.mono (by decide:1≤8)).soft
  have big:=za6
  refine ⟨_,zac (zap (i:=2) nd rfl (Or.inl rfl) zay)
   (zac (zap (i:=3) nd rfl (Or.inl rfl) zdM)
   (zac (zi1 (i:=4) nd rfl rfl rfl rfl rfl TN.e0
    (zdy (zll (zaw zcg (zau ix_list (pv 1) zaf (fun _ _=>rfl)) zay (zaz _))
     (zdy (zhx (i:=3) nd rfl (Or.inl rfl) (zf8 (pv 0) cl n1 G1 hr b1 .nil (zaa (zau ix_list (pv 1) zaf (fun _ _=>rfl)) (zaa (zau ix_list (pv 1) zaf (fun _ _=>rfl)) (zaa (zau ix_list (pv 1) zaf (fun _ _=>rfl)) zae))))))
    (zdy (zll (zaw zcg (zau ix_list (pv 1) zaf (fun _ _=>rfl)) zay (zaz _))
     (zdy (zhx (i:=3) nd rfl (Or.inl rfl) (zf8 (pv 0) cl n2 G2 hr b2 .nil (zaa (zau ix_list (pv 1) zaf (fun _ _=>rfl)) zae))))
    (zdy (zhx (i:=3) nd rfl (Or.inl rfl) (zhw (pv 0) cl n3 G3 hr b3 .nil)))))))
    (fun a=>zai (zap (i:=2) nd rfl (Or.inl rfl) (zi3 G5 ⟨hrU.dp,hrU.un⟩ rfl rfl m5 k5 b5 .nil (zaa (pv 4) zae)))))
   (zai (zax (zaF (zaa (pv 2) (zaa (pv 3) zae))))))),?_⟩
  dsimp only[cxOf,Cx.nox,Cx.wish]
  have two:∀ {x y:V},[x,y].length≤sizeLine:=fun {x y}=>by show (2:Nat)≤_;omega
  cases h with
  |ch r dx pd fs x y u c1 hins hl hd q=>
   subst c1
   refine ⟨_,rfl,pd,_,0,_,rfl,rfl,SqL.of hd,zah (j:=0) rfl,rfl,_,rfl,iteT ?_⟩
   refine ⟨_,rfl,r,dx,fs,rfl,hins,hl,_,rfl,pd,_,1,_,rfl,rfl,SqL.of hd,zah (j:=1) rfl,_,rfl,pd,_,2,_,rfl,rfl,SqL.of hd,zah (j:=2) rfl,_,rfl,pd,_,3,_,rfl,rfl,SqL.of hd,zah (j:=3) rfl,?_⟩
   refine q _ _ (fun v H1 h=>⟨_,rfl,_,rfl,two,fun p np=>h p np⟩) (fun c o H1 h=>?_)
   obtain ⟨C,b1,b2,b3,b4,b5,b6,b7,b8,rfl,XC,h⟩:=h
   exact ⟨XC.m,fun a na=>⟨_,rfl,zeQ XC zab fun H' s'=>⟨_,rfl,_,rfl,two,fun p np=>h H' ((Same.new na).trans s') p np⟩⟩⟩
  |«at» r dx pd fs x c1 hins hl hd q=>
   subst c1
   refine ⟨_,rfl,pd,_,0,_,rfl,rfl,SqL.of hd,zah (j:=0) rfl,rfl,_,rfl,?_⟩
   rw[wch1]
   refine iteF ⟨_,rfl,pd,_,0,_,rfl,rfl,SqL.of hd,zah (j:=0) rfl,rfl,_,rfl,iteT ?_⟩
   refine ⟨_,rfl,r,dx,fs,rfl,hins,hl,_,rfl,pd,_,1,_,rfl,rfl,SqL.of hd,zah (j:=1) rfl,?_⟩
   refine q _ _ (fun v H1 h=>⟨_,rfl,_,rfl,two,fun p np=>h p np⟩) (fun c o H1 h=>?_)
   obtain ⟨C,b1,b2,b3,b4,b5,b6,b7,b8,rfl,XC,h⟩:=h
   exact ⟨XC.m,fun a na=>⟨_,rfl,zeQ XC zab fun H' s'=>⟨_,rfl,_,rfl,two,fun p np=>h H' ((Same.new na).trans s') p np⟩⟩⟩
  |bk r dx pd fs c1 hins hl hd q=>
   subst c1
   refine ⟨_,rfl,pd,_,0,_,rfl,rfl,SqL.of hd,zah (j:=0) rfl,rfl,_,rfl,?_⟩
   rw[wch2]
   refine iteF ⟨_,rfl,pd,_,0,_,rfl,rfl,SqL.of hd,zah (j:=0) rfl,rfl,_,rfl,?_⟩
   rw[wch3]
   refine iteF ⟨_,rfl,r,dx,fs,rfl,hins,hl,?_⟩
   refine q _ _ (fun v H1 h=>⟨_,rfl,_,rfl,two,fun p np=>h p np⟩) (fun c o H1 h=>?_)
   obtain ⟨C,b1,b2,b3,b4,b5,b6,b7,b8,rfl,XC,h⟩:=h
   exact ⟨XC.m,fun a na=>⟨_,rfl,zeQ XC zab fun H' s'=>⟨_,rfl,_,rfl,two,fun p np=>h H' ((Same.new na).trans s') p np⟩⟩⟩
theorem ziv {v:V}{x:Str}{pt ps so pw:Addr}:(pgF v x pt ps so pw).lookup ("take_back":Str)=none:=by
 unfold pgF
 rw[zaP (by decide +kernel),zaP (by decide +kernel),zaP (by decide +kernel),zaP (by decide +kernel),zaP (by decide +kernel),zaP (by decide +kernel)]
 rfl
abbrev zjy:Stmt:=za0 sPage 5
mutual
theorem Rep.rebag {z y:Addr}{H:Hp}(hB:Bag y H):∀ {v:V}{d:D},Rep z H v d→NoL d→Rep y H v d
 |_,_,.non,_=>.non
 |_,_,.bl b,_=>.bl b
 |_,_,.int i,_=>.int i
 |_,_,.str x h,_=>.str x h
 |_,_,.tup h hz r,.tup k=>by
  obtain ⟨c1,c2,e⟩:=id hB
  exact .tup h (zan h e (by intro q;cases q)) (Reps.rebag hB r k)
theorem Reps.rebag {z y:Addr}{H:Hp}(hB:Bag y H):∀ {vs:List V}{ds:List D},Reps z H vs ds→NoLs ds→Reps y H vs ds
 |_,_,.nil,_=>.nil
 |_,_,.cons h k,.cons h' k'=>.cons (Rep.rebag hB h h') (Reps.rebag hB k k')
end
inductive zeR:List V→Hp→VK→XK→Prop where
 |mk {vs:List V} {H:Hp} {Q:VK} {E:XK} (z:Addr) (v:V) (b:Bk) (x:Str) (c1:vs=[.ref z,v,.str x]) (c2:Bag z H) (c3:Rep z H v (bkD b)) (c4:BkOk b) (c5:x.length≤20000)
  (c6:∀(bg en:Nat) (t:Str) p H',Aft z H H'→H' p=some (.lst [.int bg,.int en,.str t])→bg≤en→en≤x.length→t.length≤12→(200≤x.length→t.length≤4)→Q (.ref p) H'):zeR vs H Q E
theorem scSmall:zav ["bag","book","text","begin","end","put"] ["bag","book","text"] (zag zb0):=⟨rfl,rfl,rfl,by decide +kernel,rfl,by decide +kernel,by decide +kernel⟩
theorem zjz {f f1 f2:Addr}{fd fd1 fd2:FuncData}(F:Fun K "_law_small_change" "_law_small_change" zb0 f fd) (T:TxtB mg) (T2:Txt2 mg)
  (k1:W.keepIn K (.ref f1)=true) (b1:Binds K fd1 ["bag","many"] []) (m1:mg "_law_take"=some (.ref f1)) (G1:FnOk P w K mg base CX0 1 f1 fd1 ["bag","many"] zc5)
  (k2:W.keepIn K (.ref f2)=true) (b2:Binds K fd2 ["bag","book","most"] []) (m2:mg "_law_text"=some (.ref f2)) (G2:FnOk P w K mg base CX0 2 f2 fd2 ["bag","book","most"] zfi):FnOk P w K mg base CX0 3 f fd ["bag","book","text"] zeR:=by
 refine F.ok scSmall (fun vs H Q E h=>?_) (fun cdv A outer s H vs Q E hr h=>?_)
 ·obtain ⟨z,v,b,x,rfl,_⟩:=h
  rfl
 ·obtain ⟨z,v,b,x,rfl,hB,hv,hok,hxl,k⟩:=h
  have nd:=scSmall.nd
  have hr1:Room 1 _:=hr.mono (by decide)
  have hr2:Room 2 _:=hr.mono (by decide)
  refine ⟨_,zac (zap (i:=3) nd rfl (Or.inl rfl) (zas G1 hr1 rfl m1 k1 b1 .nil pass0 (zaa (pv 0) (pa_B (zaB zaQ (zaq zar (by rfl) T.len b_len (zaa (pv 2) zae)) zaf) zae))))
   (zac (zap (i:=4) nd rfl (Or.inl rfl) (zaq (zg2 rfl) (by rfl) T2.min zlx (zaa (zaq zar (by rfl) T.len b_len (zaa (pv 2) zae)) (pa_B (zaB zaQ (pv 3) (zau ix_list (zaF (pa_K zaf (pa_K zaf (pa_K zaf (pa_K zaf zae))))) (zas G1 hr1 rfl m1 k1 b1 .nil pass0 (zaa (pv 0) (pa_K zaf zae))) (fun _ _=>rfl))) zae))))
   (zac (zap (i:=5) nd rfl (Or.inl rfl) (zas G2 hr2 rfl m2 k2 b2 .nil pass0 (zaa (pv 0) (zaa (pv 1) (zaa (zau ix_list (zaF (pa_K zaf (pa_K zaf zae))) (zbD zeU (by rfl) T.int zla (zaa (zcN zd9 (zaq zar (by rfl) T.len b_len (zaa (pv 2) zae)) zaf (zaz _)) zae)) (fun _ _=>rfl)) zae)))))
   (zai (zax (zaF (zaa (pv 3) (zaa (pv 4) (zaa (pv 5) zae)))))))),?_⟩
  dsimp only[cxOf,Cx.nox,Cx.wish]
  have big2:(100000:Nat)≤sizeLine:=by rw[sizeLine_eq];decide
  refine zbg fun D1 _ hR1 _ _=>zak fun U hU=>?_
  refine ⟨_,rfl,_,rfl,x,rfl,by omega,_,_,rfl,rfl,z,(x.length:Int)+1,rfl,hB,by omega,by omega,fun bg H1 hbg a1=>hU _ _ (zak fun U hU=>?_)⟩
  refine ⟨_,rfl,x,rfl,by omega,_,rfl,by show (4:Nat)≤_;omega,fun p1 np1=>?_⟩
  have A3:=a1.new (o:=.lst [.int 0,.int 1,.int 2,.int 40]) np1
  have hp1:upd H1 p1 (.lst [.int 0,.int 1,.int 2,.int 40]) p1=some (.lst [.int 0,.int 1,.int 2,.int 40]):=zab
  have hp1z:p1≠z:=a1.2.ne np1
  generalize upd H1 p1 (.lst [.int 0,.int 1,.int 2,.int 40])=H3 at A3 hp1
  refine ⟨_,rfl,z,4,rfl,A3.2,by decide,by decide,fun r2 H4 hr2' a4=>?_⟩
  have A4:=A3.trans a4
  obtain ⟨w1,ew⟩:∃w1:Nat,([.int 0,.int 1,.int 2,.int 40]:List V)[r2]?=some (.int (w1:Int)):=by
   rcases (by omega:r2=0∨r2=1∨r2=2∨r2=3) with rfl|rfl|rfl|rfl
   ·exact ⟨0,rfl⟩
   ·exact ⟨1,rfl⟩
   ·exact ⟨2,rfl⟩
   ·exact ⟨40,rfl⟩
  refine ⟨p1,_,r2,_,rfl,rfl,SqL.of (a4.1 _ _ hp1z hp1),zah ew,_,_,rfl,rfl,_,_,rfl,?_⟩
  obtain ⟨en,een,hbe,hex⟩:∃en:Nat,(if (bg:Int)+(w1:Int)<(x.length:Int) then (bg:Int)+(w1:Int) else (x.length:Int))=(en:Int)∧bg≤en∧en≤x.length:=by
   by_cases h:bg+w1<x.length
   ·exact ⟨bg+w1,by rw[if_pos (by omega)];omega,by omega,by omega⟩
   ·exact ⟨x.length,by rw[if_neg (by omega)],by omega,Nat.le_refl _⟩
  dsimp only
  rw[een]
  refine hU _ _ (zak fun U hU=>?_)
  clear een ew hp1 A3 a4
  refine ⟨_,rfl,_,rfl,by show (2:Nat)≤_;omega,fun p2 np2=>?_⟩
  have A5:=A4.new (o:=.lst [.int 2,.int 4]) np2
  have hp2:upd H4 p2 (.lst [.int 2,.int 4]) p2=some (.lst [.int 2,.int 4]):=zab
  generalize upd H4 p2 (.lst [.int 2,.int 4])=H5 at A5 hp2
  refine ⟨_,rfl,x,rfl,by omega,_,_,rfl,rfl,.inr ⟨_,rfl,?_⟩⟩
  have fin:∀(t:Str) H6,Aft z H5 H6→t.length≤12→(200≤x.length→t.length≤4)→U [some (.ref z),some v,some (.str x),some (.int bg),some (.int en),some (.str t)] H6:=fun t H6 a6 h1 h2=>by
   refine hU _ _ ⟨_,rfl,_,rfl,_,rfl,by show (3:Nat)≤_;omega,fun p np=>hR1 _ _ (k bg en t p _ ((A5.trans a6).new np) zab hbe hex h1 h2)⟩
  by_cases c:(x.length:Int)<200
  ·refine ⟨p2,_,1,.int 4,rfl,by rw[decide_eq_true c];rfl,SqL.of hp2,zah (j:=1) rfl,z,v,b,4,rfl,A5.2,hv.mono A5.1,hok,by decide,by decide,fun t H6 a6 ht=>fin t H6 a6 (by omega) (by omega)⟩
  ·refine ⟨p2,_,0,.int 2,rfl,by rw[decide_eq_false c];rfl,SqL.of hp2,zah (j:=0) rfl,z,v,b,2,rfl,A5.2,hv.mono A5.1,hok,by decide,by decide,fun t H6 a6 ht=>fin t H6 a6 (by omega) (by omega)⟩
theorem zkT {J:It}{g:TG}{tt:TT}{te:TE}{Qe:St→Hp→Prop}{σ0:St}{H0:Hp}{p:Addr}{n:Nat}{item:Nat→V}(R:V→Hp→Prop) (hR:∀v H H',SameX p H H'→R v H→R v H') (Pσ:St→Prop) (hσ:Pσ σ0) (hp:H0 p=none) (hn:n≤100000) (ok:ItOk J n item (upd H0 p (.lst [])) p)
  (turn:∀i σ H (C:V→St→Hp→Prop),i<n→Pσ σ→Same H0 H→(∃l,H p=some (.lst l))→(∀σ2 v H4,Pσ σ2→Same H H4→R v H4→C v σ2 H4) →
   g (item i) σ H fun σ2 H2=>tt σ2 H2 fun b H3=>if b=true then te σ2 H3 fun v H4=>C v σ2 H4 else False)
  (hQ:∀σ H vs,Same H0 H→H p=some (.lst vs)→vs.length=n→(∀v∈vs,R v H)→Qe σ H)
  (hm:∀x σ H (Q Q':St→Hp→Prop),(∀σ H,Q σ H→Q' σ H)→g x σ H Q→g x σ H Q') (hm2:∀σ H (Q Q':Bool→Hp→Prop),(∀b H,Q b H→Q' b H)→tt σ H Q→tt σ H Q'):tLoop J g tt (tApp p te) Qe σ0 (upd H0 p (.lst [])):=by
 have s0:Same H0 (upd H0 p (.lst [])):=Same.new hp
 have up:∀ {H},SameX p (upd H0 p (.lst [])) H→Same H0 H:=fun {H} h b o e=>h b o (zad e hp) (s0 b o e)
 refine ⟨fun i m σ H=>m=n-i∧i≤n∧Pσ σ∧SameX p (upd H0 p (.lst [])) H∧∃vs,H p=some (.lst vs)∧vs.length=i∧∀v∈vs,R v H,⟨n,rfl,Nat.zero_le _,hσ,.refl,[],zab,rfl,fun v h=>nomatch h⟩,?_⟩
 rintro i m σ H ⟨rfl,hi,hP,hS,vs,hv,hl,R0⟩
 by_cases hlt:i<n
 ·refine .inr ⟨ok.go i H hlt hS,fun σ' H'=>Pσ σ'∧SameX p (upd H0 p (.lst [])) H'∧∃vs,H' p=some (.lst vs)∧vs.length=i+1∧∀v∈vs,R v H',fun σ' H' ⟨a,b,c⟩=>⟨n-(i+1),by omega,rfl,hlt,a,b,c⟩,fun x H' y=>?_⟩
  obtain ⟨rfl,rfl⟩:=ok.yld i H x H' hlt hS y
  refine hm _ _ _ _ _ (fun σ2 H2 h=>hm2 _ _ _ _ (fun b H3 h=>?_) h) (turn i σ H' (fun v σ2 H4=>∃ys,H4 p=some (.lst ys)∧ys.length<sizeLine∧(Pσ σ2∧SameX p (upd H0 p (.lst [])) (upd H4 p (.lst (ys++[v])))∧∃vs,upd H4 p (.lst (ys++[v])) p=some (.lst vs)∧vs.length=i+1∧∀v'∈vs,R v' (upd H4 p (.lst (ys++[v]))))) hlt hP (up hS) ⟨vs,hv⟩ fun σ2 v H4 hP2 hS2 R2=>?_)
  ·cases b with
   |true=>
    rw[if_pos rfl] at h ⊢
    exact h
   |false=>exact h.elim
  ·have h4:=hS2 _ _ hv
   have big:(100000:Nat)<sizeLine:=by rw[sizeLine_eq];decide
   refine ⟨vs,h4,by omega,hP2,(hS.trans hS2.x).upd,vs++[v],zab,by rw[List.length_append];show vs.length+1=_;omega,fun v' hv'=>?_⟩
   have sx:SameX p H4 (upd H4 p (.lst (vs++[v]))):=SameX.refl.upd
   rcases List.mem_append.mp hv' with h|h
   ·exact hR _ _ _ sx (hR _ _ _ hS2.x (R0 v' h))
   ·rw[List.mem_singleton.mp h]
    exact hR _ _ _ sx R2
 ·have e:i=n:=by omega
  subst e
  exact .inl ⟨ok.stop H hS,hQ σ H vs (up hS) hv hl R0⟩
structure S26 (P:Program) (w:World) (tb CP CS z0 r dx:Addr) (v:V) (b:Bk) (so dxs pr pn pw pl pb:Addr) (zs:List Addr) (H:Hp) (x:Str) (pt ps:Addr) (tab:List Rws) (N:Nat) (ks:List Nat) (wl:List V) (xs tl:List Str):Prop where
 pg:PgS P w z0 CP CS H r dx v b x pt ps so dxs pr pn pw tab N ks
 B0:Bag z0 H
 L:LamTb tb H
 hpw:H pw=some (.lst wl)
 bk:Backs H wl xs x
 hpl:H pl=some (.lst (tl.map V.str))
 hpb:H pb=some (.lst (zs.map V.ref))
 nl:pl≠z0∧pl≠pt∧pl≠ps∧pl≠pr∧pl≠pw
 nb:pb≠z0∧pb≠pt∧pb≠ps∧pb≠pr∧pb≠pw∧pb≠pl
 hz:∀y∈zs,Bag y H
 nz:∀y∈zs,y≠z0∧y≠pt∧y≠ps∧y≠pr∧y≠pw∧y≠pl∧y≠pb
section
variable {P:Program}{w:World}{tb CP CS z0 r dx:Addr}{v:V}{b:Bk}{so dxs pr pn pw pl pb:Addr}{zs:List Addr}{H H':Hp}{x:Str}{pt ps:Addr}{tab:List Rws}{N:Nat}{ks:List Nat}{wl:List V}{xs tl:List Str}
theorem S26.keep {S:Addr→Prop}(h:S26 P w tb CP CS z0 r dx v b so dxs pr pn pw pl pb zs H x pt ps tab N ks wl xs tl) (k:KeepE S H H') (n:NoTup S H) (h1:¬S r) (h2:¬S pt) (h3:¬S ps) (h4:¬S so) (h5:¬S pr) (h6:¬S pn) (h7:¬S pw) (h8:¬S pl) (h9:¬S pb) (B:Bag z0 H') (L:LamTb tb H') (hz:∀y∈zs,Bag y H') :
  S26 P w tb CP CS z0 r dx v b so dxs pr pn pw pl pb zs H' x pt ps tab N ks wl xs tl:=
 ⟨h.pg.keep k n h1 h2 h3 h4 h5 h6,B,L,k _ _ h7 h.hpw,h.bk.keep k n,k _ _ h8 h.hpl,k _ _ h9 h.hpb,h.nl,h.nb,hz,h.nz⟩
theorem S26.same (h:S26 P w tb CP CS z0 r dx v b so dxs pr pn pw pl pb zs H x pt ps tab N ks wl xs tl) (s:Same H H'):S26 P w tb CP CS z0 r dx v b so dxs pr pn pw pl pb zs H' x pt ps tab N ks wl xs tl:=
 h.keep (S:=fun _=>False) (fun a o _ e=>s a o e) (fun _ _ q=>q.elim) id id id id id id id id id (h.B0.same s) (h.L.same s) fun y hy=>(h.hz y hy).same s
theorem S26.aft {y:Addr}(h:S26 P w tb CP CS z0 r dx v b so dxs pr pn pw pl pb zs H x pt ps tab N ks wl xs tl) (hy:y∈zs) (A:Aft y H H'):S26 P w tb CP CS z0 r dx v b so dxs pr pn pw pl pb zs H' x pt ps tab N ks wl xs tl:=by
 obtain ⟨c,d,e⟩:=id (h.hz y hy)
 obtain ⟨n0,n1,n2,n3,n4,n5,n6⟩:=h.nz y hy
 obtain ⟨as,e1,_,e3⟩:=id h.pg.sd.ex
 refine h.keep (S:=fun a=>a=y) (fun a o ha e=>A.1 a o ha e) (zaE e (by intro xs q;cases q)) (zan h.pg.ins e (by intro q;cases q)) n1.symm n2.symm (zan h.pg.sd.ins e (by intro q;cases q)) n3.symm (zan e3 e (by intro q;cases q)) n4.symm n5.symm n6.symm ?_ (zeN h.L (h.hz y hy) A) fun y' hy'=>?_
 ·obtain ⟨c',d',e'⟩:=id h.B0
  exact ⟨c',d',A.1 _ _ n0.symm e'⟩
 ·by_cases q:y'=y
  ·subst q;exact A.2
  ·obtain ⟨c',d',e'⟩:=id (h.hz y' hy')
   exact ⟨c',d',A.1 _ _ q e'⟩
theorem S26.aft0 (h:S26 P w tb CP CS z0 r dx v b so dxs pr pn pw pl pb zs H x pt ps tab N ks wl xs tl) (A:Aft z0 H H'):S26 P w tb CP CS z0 r dx v b so dxs pr pn pw pl pb zs H' x pt ps tab N ks wl xs tl:=by
 obtain ⟨c,d,e⟩:=id h.B0
 obtain ⟨as,e1,_,e3⟩:=id h.pg.sd.ex
 obtain ⟨_,⟨w4,w5,w6⟩,_⟩:=id h.pg.nes
 refine h.keep (S:=fun a=>a=z0) (fun a o ha e=>A.1 a o ha e) (zaE e (by intro xs q;cases q)) (zan h.pg.ins e (by intro q;cases q)) w4 w5 (zan h.pg.sd.ins e (by intro q;cases q)) h.pg.sd.prz (zan e3 e (by intro q;cases q)) w6 h.nl.1 h.nb.1 A.2 (zeN h.L h.B0 A) fun y' hy'=>?_
 obtain ⟨c',d',e'⟩:=id (h.hz y' hy')
 exact ⟨c',d',A.1 _ _ (h.nz y' hy').1 e'⟩
theorem S26.app (h:S26 P w tb CP CS z0 r dx v b so dxs pr pn pw pl pb zs H x pt ps tab N ks wl xs tl) (tl':List Str):S26 P w tb CP CS z0 r dx v b so dxs pr pn pw pl pb zs (upd H pl (.lst (tl'.map V.str))) x pt ps tab N ks wl xs tl':=by
 obtain ⟨n0,n1,n2,n3,n4⟩:=h.nl
 obtain ⟨m0,m1,m2,m3,m4,m5⟩:=h.nb
 obtain ⟨as,e1,_,e3⟩:=id h.pg.sd.ex
 have k:KeepE (fun a=>a=pl) H (upd H pl (.lst (tl'.map V.str))):=zaN
 have n:NoTup (fun a=>a=pl) H:=zaE h.hpl (by intro xs q;cases q)
 refine ⟨h.pg.keep k n (zan h.pg.ins h.hpl (by intro q;cases q)) n1.symm n2.symm (zan h.pg.sd.ins h.hpl (by intro q;cases q)) n3.symm (zan e3 h.hpl (by intro q;cases q)),?_,zdH h.L h.hpl,k _ _ n4.symm h.hpw,h.bk.keep k n,zab,k _ _ m5 h.hpb,h.nl,h.nb,fun y hy=>?_,h.nz⟩
 ·obtain ⟨c',d',e'⟩:=id h.B0
  exact ⟨c',d',k _ _ n0.symm e'⟩
 ·obtain ⟨c',d',e'⟩:=id (h.hz y hy)
  exact ⟨c',d',k _ _ (h.nz y hy).2.2.2.2.2.1 e'⟩
theorem S26.put (h:S26 P w tb CP CS z0 r dx v b so dxs pr pn pw pl pb zs H x pt ps tab N ks wl xs tl){x':Str}{pt' ps':Addr}{tab':List Rws}{N':Nat}{ks':List Nat}{wl':List V}{xs':List Str}(hP:PgS P w z0 CP CS H' r dx v b x' pt' ps' so dxs pr pn pw tab' N' ks')
  (k:KeepE (fun a=>a=pw∨a=r∨a=pr∨a=pn∨a=tb) H H') (B:Bag z0 H') (L:LamTb tb H') (hpw:H' pw=some (.lst wl')) (bk:Backs H' wl' xs' x') (npt:H pt'=none) (nps:H ps'=none):S26 P w tb CP CS z0 r dx v b so dxs pr pn pw pl pb zs H' x' pt' ps' tab' N' ks' wl' xs' tl:=by
 obtain ⟨n0,n1,n2,n3,n4⟩:=h.nl
 obtain ⟨m0,m1,m2,m3,m4,m5⟩:=h.nb
 obtain ⟨as,e1,_,e3⟩:=id h.pg.sd.ex
 obtain ⟨ps0,ht⟩:=h.L.tbl
 have keepL:∀ {a:Addr} {l:List V},H a=some (.lst l)→a≠pw→a≠pr→H' a=some (.lst l):=fun {a l} e c1 c2=>k a _ (fun c=>by
  rcases c with c|c|c|c|c
  ·exact c1 c
  ·exact zan e h.pg.ins (by intro q;cases q) c
  ·exact c2 c
  ·exact zan e e3 (by intro q;cases q) c
  ·exact zan e ht (by intro q;cases q) c) e
 refine ⟨hP,B,L,hpw,bk,keepL h.hpl n4 n3,keepL h.hpb m4 m3,⟨n0,zad h.hpl npt,zad h.hpl nps,n3,n4⟩,⟨m0,zad h.hpb npt,zad h.hpb nps,m3,m4,m5⟩,fun y hy=>?_,fun y hy=>?_⟩
 ·obtain ⟨c',d',e'⟩:=id (h.hz y hy)
  obtain ⟨q0,q1,q2,q3,q4,q5,q6⟩:=h.nz y hy
  exact ⟨c',d',keepL e' q4 q3⟩
 ·obtain ⟨c',d',e'⟩:=id (h.hz y hy)
  obtain ⟨q0,q1,q2,q3,q4,q5,q6⟩:=h.nz y hy
  exact ⟨q0,zad e' npt,zad e' nps,q3,q4,q5,q6⟩
end
def zeS (K:W.Frag) (tb:Addr):Sp:=fun vs H Q _=>∃a,∃ns:List Int,vs=[.ref a]∧SqL K H a (ns.map V.int)∧LamTb tb H∧∀H',Q (.bl true) H'
abbrev spBk (P:Program) (w:World) (tb CP CS CN:Addr):Sp:=fun vs H Q E=>zgp P w tb CP CS vs H Q E∨zeO CP CN vs H Q E
theorem scLaw26:zav ["script","first","book","texts","page","bags","k","begin","end","put"] ["script"] (zag lLaw):=⟨rfl,rfl,rfl,by decide +kernel,rfl,by decide +kernel,by decide +kernel⟩
theorem ndKS:(["k","script"]:List Str).Nodup:=by decide +kernel
theorem zjA {f tb CP CS yN y1 y2 y3 y4 y5 y6 y7 y8 f1 f2 f3 f4 f6 f7 f8 g1 g2 g3:Addr}{fd fd1 fd2 fd3 fd4 fd6 fd7 fd8 gd1 gd2 gd3:FuncData}{s2:Sp}(F:Fun K "law" "law" lLaw f fd) (T:TxtB mg) (T2:Txt2 mg) (T3:TxtP K mg CP) (hC:mg "Page"=some (.ref CP)) (M:L2.Mk K CP g1)
  (X7:ErrC K yN [y1,y2,y3,y4,y5,y6,y7,y8] y7 [false,false,false,false,false,false,true,false])
  (k1:W.keepIn K (.ref f1)=true) (b1:Binds K fd1 ["script","k"] []) (m1:mg "_law_bag"=some (.ref f1)) (G1:FnOk P w K mg base CX0 1 f1 fd1 ["script","k"] (spBag K))
  (k2:W.keepIn K (.ref f2)=true) (b2:Binds K fd2 ["bag"] []) (m2:mg "_law_book"=some (.ref f2)) (G2:FnOk P w K mg base CX0 3 f2 fd2 ["bag"] zge)
  (k3:W.keepIn K (.ref f3)=true) (b3:Binds K fd3 ["bag","book","most"] []) (m3:mg "_law_text"=some (.ref f3)) (G3:FnOk P w K mg base CX0 2 f3 fd3 ["bag","book","most"] zfi)
  (k4:W.keepIn K (.ref f4)=true) (b4:Binds K fd4 ["bag","many"] []) (m4:mg "_law_take"=some (.ref f4)) (G4:FnOk P w K mg base CX0 1 f4 fd4 ["bag","many"] zc5)
  (k6:W.keepIn K (.ref f6)=true) (b6:Binds K fd6 ["page","deed"] []) (m6:mg "_law_tried"=some (.ref f6)) (G6:FnOk P w K mg base CX0 9 f6 fd6 ["page","deed"] (zcf K CP yN y1 y2 y3 y4 y5 y6 y7 y8 (zcJ P w tb CP CS) s2 (spBk P w tb CP CS y7)))
  (k7:W.keepIn K (.ref f7)=true) (b7:Binds K fd7 ["book","text"] []) (m7:mg "_law_steps"=some (.ref f7)) (G7:FnOk P w K mg base CX0 2 f7 fd7 ["book","text"] zes)
  (k8:W.keepIn K (.ref f8)=true) (b8:Binds K fd8 ["bag","book","text"] []) (m8:mg "_law_small_change"=some (.ref f8)) (G8:FnOk P w K mg base CX0 3 f8 fd8 ["bag","book","text"] zeR)
  (c1:Binds K gd1 ["self","book","text"] []) (I1:FnOk P w K mg base CX0 8 g1 gd1 ["self","book","text"] (zeM P w tb CP CS))
  (n2:Meth K CP "steps" g2) (c2:Binds K gd2 ["self"] []) (I2:FnOk P w K mg base CX0 1 g2 gd2 ["self"] (zcK P w CP CS))
  (n3:Meth K CP "text" g3) (c3:Binds K gd3 ["self"] []) (I3:FnOk P w K mg base CX0 1 g3 gd3 ["self"] (zeL P w CP CS)):FnOk P w K mg base CX0 10 f fd ["script"] (zeS K tb):=by
 refine F.ok scLaw26 (fun vs H Q E h=>?_) (fun cdv A outer s H vs Q E hr h=>?_)
 ·obtain ⟨a,ns,rfl,_⟩:=h
  rfl
 ·obtain ⟨a,ns,rfl,hS,hT,k⟩:=h
  have nd:=scLaw26.nd
  have hr1:Room 1 _:=hr.mono (by decide)
  have hr2:Room 2 _:=hr.mono (by decide)
  have hr3:Room 3 _:=hr.mono (by decide)
  have hr5:Room 5 _:=hr.mono (by decide)
  refine ⟨_,zac (zap (i:=1) nd rfl (Or.inl rfl) (zas G1 hr1 rfl m1 k1 b1 .nil pass0 (zaa (pv 0) (pa_K zaf zae))))
   (zac (zap (i:=2) nd rfl (Or.inl rfl) (zas G2 hr3 rfl m2 k2 b2 .nil pass0 (zaa (pv 1) zae)))
   (zac (zap (i:=3) nd rfl (Or.inl rfl) (zaF (zaa (zas G3 hr2 rfl m3 k3 b3 .nil pass0 (zaa (pv 1) (zaa (pv 2) (pa_K zaf zae)))) zae)))
   (zac (zap (i:=4) nd rfl (Or.inl rfl) (zj4 M I1 hr rfl hC c1 .nil pass0 (zaa (pv 2) (zaa (zau ix_list (pv 3) zaf (fun _ _=>rfl)) zae))))
   (zac (zbK (i:=5) (N':=["k","script"]) (js:=[none,some 0]) rfl rfl nd rfl (Or.inl rfl) (zbx (zag lLaw) (by decide +kernel)) ⟨rfl,Or.inr (Or.inl rfl),rfl,trivial⟩ (zbm rfl T.range (zaa zaf zae))
    (fun cl s H fp=>zao (i:=0) ndKS rfl (Or.inl rfl)) (fun cl s H fp=>zbV) (fun cl s H fp=>zas G1 hr1 rfl m1 k1 b1 .nil pass0 (zaa (pv 1) (pa_B (zaB zaQ zaf (pv 0)) zae))))
   (zac (zbO PassesOwn.never rfl (zbm rfl T.range (pa_K zaf zae)) (zao (i:=6) nd rfl (Or.inl rfl))
    (zac (zbq (zas G8 hr3 rfl m8 k8 b8 .nil pass0 (zaa (zau ix_list (pv 5) (zaB zch (pv 6) zaf) (fun _ _=>rfl)) (zaa (pv 2) (zaa (zau ix_list (pv 3) (zbP zbf zaf) (fun _ _=>rfl)) zae)))) (zkf rfl (zat (zao (i:=7) nd rfl (Or.inl rfl)) (zat (zao (i:=8) nd rfl (Or.inl rfl)) (zat (zao (i:=9) nd rfl (Or.inl rfl)) za1)))))
    (zac (zaW (zaw zd8 (zau ix_list (zas G6 hr rfl m6 k6 b6 .nil pass0 (zaa (pv 4) (pa_L (zaF (pa_K zay (zaa (pv 7) (zaa (pv 8) (zaa (pv 9) zae))))) zae))) zaf (fun _ _=>rfl)) zay (zaz _)) (zai (zax zd5)) zaA)
    (zac (zaO (zbU PySem.F.plainAttrs_list PySem.F.slot_list_append PySem.F.type_list_append zaK (pv 3) (pa_B (zaB za7 (zaB za7 (zaT zcz (zau ix_list (pv 3) (zbP zbf zaf) (fun _ _=>rfl)) zbo (zaS (pv 7))) (pv 9)) (zaT zcz (zau ix_list (pv 3) (zbP zbf zaf) (fun _ _=>rfl)) (zaS (pv 8)) zbo)) zae)))
    (zai (zaW (zaw zcg (zaB zch (pv 6) zaf) zaf (zaz _))
     (zai (zaW (PW.pt (zk1 (zaw zd8 (zc7 (pv 4) T3.cl n3 I3 hr1 c3 .nil pass0) (zau ix_list (pv 3) (zbP zbf zaf) (fun _ _=>rfl)) (zaz _)) (zjB (zaw (zdT hr5) (zc7 (pv 4) T3.cl n2 I2 hr1 c2 .nil pass0) (zau ix_list (zas G7 hr2 rfl m7 k7 b7 .nil pass0 (zaa (pv 2) (zaa (zau ix_list (pv 3) (zbP zbf zaf) (fun _ _=>rfl)) zae))) zaf (fun _ _=>rfl)) (zaz _))))) (zai (zax zd5)) zaA)) zaA))))))
   (zac (zaW (zaw zcg (zas G4 hr1 rfl m4 k4 b4 .nil pass0 (zaa (pv 1) (pa_K zaf zae))) zaf (zaz _))
    (zac (zbO PassesOwn.never rfl (zbm rfl T.range (pa_K zaf zae)) (zao (i:=6) nd rfl (Or.inl rfl))
     (zac (zaO (ze1 PySem.F.plainAttrs_list PySem.F.slot_list_pop PySem.F.type_list_pop zf0 (pv 3)))
     (zai (zaW (PW.pt (zk1 (zaw (zdT hr5) (zas G6 hr rfl m6 k6 b6 .nil pass0 (zaa (pv 4) (pa_L (zaF (pa_K zay zae)) zae))) (zaF (pa_K zay (pa_K zdM zae))) (zaz _)) (zjB (zaw zd8 (zc7 (pv 4) T3.cl n3 I3 hr1 c3 .nil pass0) (zau ix_list (pv 3) (zbP zbf zaf) (fun _ _=>rfl)) (zaz _))))) (zai (zax zd5)) zaA))))
    (zai (zax (zgW (zcN (zdU hr5) (zas G6 hr rfl m6 k6 b6 .nil pass0 (zaa (pv 4) (pa_L (zaF (pa_K zay zae)) zae))) (zaF (pa_K zay (pa_K zdM zae))) (zaz _)) (zgV (zcN (zdU hr5) (zc7 (pv 4) T3.cl n2 I2 hr1 c2 .nil pass0) (zau ix_list (zas G7 hr2 rfl m7 k7 b7 .nil pass0 (zaa (pv 2) (zaa (zau ix_list (pv 3) zaf (fun _ _=>rfl)) zae))) zaf (fun _ _=>rfl)) (zaz _))))))) zaA)
   (zai (zax zd5)))))))),?_⟩
  dsimp only[cxOf,Cx.nox,Cx.wish]
  have big2:(100000:Nat)≤sizeLine:=by rw[sizeLine_eq];decide
  refine zbg fun D0 hD0 hR0 _ _=>zak fun U hU=>?_
  refine ⟨_,rfl,a,ns,0,rfl,hS,by decide,fun z H1 nz s1 hB1=>hU _ _ (zak fun U hU=>?_)⟩
  have hT1:=hT.same s1
  have hS1:SqL K H1 a (ns.map V.int):=by
   rcases hS with (h|⟨o,h⟩)|h
   ·exact .inl (.inl (s1 _ _ h))
   ·exact .inl (.inr ⟨o,s1 _ _ h⟩)
   ·exact .inr h
  refine ⟨_,rfl,z,rfl,hB1,fun v b H2 A2 Rb okb=>hU _ _ (zak fun U hU=>?_)⟩
  have hT2:=zeN hT1 hB1 A2
  have sqA:∀ {H3:Hp},(∀b' o,b'≠z→b'≠tb→H b'=some o→H3 b'=some o)→SqL K H3 a (ns.map V.int):=fun {H3} h=>by
   obtain ⟨ps0,ht0⟩:=hT.tbl
   rcases hS with (q|⟨o,q⟩)|q
   ·exact .inl (.inl (h _ _ (zad q nz) (zan q ht0 (by intro c;cases c)) q))
   ·exact .inl (.inr ⟨o,h _ _ (zad q nz) (zan q ht0 (by intro c;cases c)) q⟩)
   ·exact .inr q
  refine ⟨_,rfl,_,rfl,z,v,b,40,rfl,A2.2,Rb,okb,by decide,by decide,fun t0 H3 a3 htl0=>⟨by show (1:Nat)≤_;omega,fun pl npl=>hU _ _ (zak fun U hU=>?_)⟩⟩
  have A3:=A2.trans a3
  have hT3:=zeN hT2 A2.2 a3
  have Rb3:=Rb.mono a3.1
  have s3:=Same.new (o:=.lst [.str t0]) npl
  have hpl3:upd H3 pl (.lst [.str t0]) pl=some (.lst [.str t0]):=zab
  have hplz:pl≠z:=A3.2.ne npl
  have B3:=A3.2.same s3
  have L3:=hT3.same s3
  have R3:=Rb3.mono s3.x
  have k3:∀b' o,b'≠z→H b'=some o→upd H3 pl (.lst [.str t0]) b'=some o:=fun b' o h e=>s3 b' o (A3.1 b' o h (s1 b' o e))
  generalize upd H3 pl (.lst [.str t0])=H4 at *
  clear A3 hT3 Rb3 s3 npl a3 hT2 Rb A2 hT1 hS1 hB1
  refine ⟨_,rfl,_,rfl,pl,_,0,_,rfl,rfl,SqL.of hpl3,zah (j:=0) rfl,fun r dx nr ndx hne=>?_⟩
  have s4:Same H4 (upd H4 dx (.own r)):=Same.new ndx
  have nr':upd H4 dx (.own r) r=none:=by rw[zaj hne.symm];exact nr
  have s4':=s4.trans (Same.new (o:=.ins CP dx []) nr')
  refine ⟨z,r,dx,v,b,t0,rfl,zab,B3.same s4',L3.same s4',R3.mono s4'.x,okb,by omega,fun pt ps so dxs pr pn pw tab N ks H5 hP htb5 k5 B5 L5 hpw npr npn npw npt nps=>⟨rfl,hU _ _ (zak fun U hU=>?_)⟩⟩
  have hpl4:=s4' _ _ hpl3
  have hpl5:H5 pl=some (.lst [.str t0]):=k5 _ _ (fun c=>c.elim (zad hpl3 nr) (by obtain ⟨ps0,ht0⟩:=L3.tbl;exact zan hpl3 ht0 (by intro q;cases q))) hpl4
  have k5':∀b' o,b'≠z→b'≠tb→H b'=some o→H5 b'=some o:=fun b' o h1 h2 e=>k5 b' o (fun c=>c.elim (zad (k3 b' o h1 e) nr) h2) (s4' b' o (k3 b' o h1 e))
  refine ⟨62,rfl,by decide,by decide,fun pb npb=>?_⟩
  have hplb:pl≠pb:=zad hpl5 npb
  refine zkT (fun u H'=>∃y,u=.ref y∧y≠pb∧H5 y=none∧Bag y H') (fun u H' H'' sx ⟨y,e1,e2,e3,c,d,e4⟩=>⟨y,e1,e2,e3,c,d,sx _ _ e2 e4⟩) (fun σ=>∃u,σ=[u,some (.ref a)]) ⟨none,rfl⟩ npb (by decide) ziM (fun j σ H6 C hj ⟨u,hu⟩ s6 hp6 hC=>?_) (fun σ H6 zvs s6 hpb6 hzl hzv=>?_) (fun _ _ _ _ _ h q=>h _ _ q) (fun _ _ _ _ h q=>h _ _ q)
  ·subst hu
   have hj:j<62:=hj
   dsimp only[tYes,gName]
   rw[if_pos rfl]
   obtain ⟨l6,hp6⟩:=hp6
   refine ⟨_,rfl,_,rfl,_,_,rfl,rfl,a,ns,1+j,?_,?_,by omega,fun y H7 ny s7 hB7=>hC _ _ _ ⟨_,rfl⟩ s7 ⟨y,rfl,(zad hp6 ny).symm,s6.free ny,hB7⟩⟩
   ·show [V.ref a,V.int (1+(0+(j:Int)))]=[V.ref a,V.int ((1+j:Nat):Int)]
    rw[show (1:Int)+(0+(j:Int))=((1+j:Nat):Int) by omega]
   ·exact sqA fun b' o h1 h2 e=>s6 b' o (k5' b' o h1 h2 e)
  obtain ⟨zs,rfl,hzs⟩:∃zs:List Addr,zvs=zs.map V.ref∧∀y∈zs,y≠pb∧H5 y=none∧Bag y H6:=by
   clear hpb6 hzl
   induction zvs with
   |nil=>exact ⟨[],rfl,fun y h=>nomatch h⟩
   |cons u us ih=>
    obtain ⟨y,rfl,h2,h3,h4⟩:=hzv u List.mem_cons_self
    obtain ⟨zs,rfl,hzs⟩:=ih fun v' hv'=>hzv v' (List.mem_cons_of_mem _ hv')
    refine ⟨y::zs,rfl,fun y' hy'=>?_⟩
    rcases List.mem_cons.mp hy' with rfl|h
    ·exact ⟨h2,h3,h4⟩
    ·exact hzs y' h
  rw[List.length_map] at hzl
  refine hU _ _ (zak fun U hU=>?_)
  have hP6:=hP.same s6
  obtain ⟨⟨w1,w2,w3⟩,⟨w4,w5,w6⟩,w7,w8⟩:=hP.nes
  obtain ⟨tv,hpt5,_⟩:=id hP.told
  obtain ⟨as,hpr5,_,hpn5⟩:=id hP.sd.ex
  have n4:∀ {q:Addr},upd (upd H4 dx (.own r)) r (.ins CP dx []) q=none→pl≠q:=fun h=>zad hpl4 h
  have S6:S26 P w tb CP CS z r dx v b so dxs pr pn pw pl pb zs H6 t0 pt ps tab N ks [] [] [t0]:=
   ⟨hP6,B5.same s6,L5.same s6,s6 _ _ hpw,.nil t0,s6 _ _ hpl5,hpb6,⟨hplz,n4 npt,n4 nps,n4 npr,n4 npw⟩,
    ⟨(B5.ne npb),(zad hpt5 npb).symm,(zad hP.stands npb).symm,(zad hpr5 npb).symm,(zad hpw npb).symm,hplb.symm⟩,fun y hy=>(hzs y hy).2.2,fun y hy=>by
     obtain ⟨g1,g2,_⟩:=hzs y hy
     exact ⟨B5.ne g2,(zad hpt5 g2).symm,(zad hP.stands g2).symm,(zad hpr5 g2).symm,(zad hpw g2).symm,(zad hpl5 g2).symm,g1⟩⟩
  clear hP6 hP hpt5 hpr5 hpn5 w1 w2 w3 w4 w5 w6 w7 w8 n4 hzs hzv s6 npb hplb hpb6 k5' hpl5 hpl4 npr npn npw npt nps hpw k5 B5 L5 nr nr' ndx hne s4 s4' k3 hplz B3 L3 R3 hpl3 sqA
  refine ⟨300,rfl,by decide,by decide,?_⟩
  refine zbB (fun i σ H9=>∃(x:Str) (pt ps:Addr) (tab:List Rws) (N:Nat) (ks:List Nat) (wl:List V) (xs:List Str) (w6 w7 w8 w9:Option V),σ=[some (.ref a),some (.ref z),some v,some (.ref pl),some (.ref r),some (.ref pb),w6,w7,w8,w9]∧S26 P w tb CP CS z r dx v b so dxs pr pn pw pl pb zs H9 x pt ps tab N ks wl xs (xs++[x])∧xs.length=i∧tab.length≤2000*(i+1)∧x.length≤212+4*i)
   ⟨t0,pt,ps,tab,N,ks,[],[],_,_,_,_,rfl,S6,rfl,by omega,by omega⟩ ?_ ?_
  ·clear S6 htb5
   rintro i σ H9 hi ⟨x,pt,ps,tab,N,ks,wl,xs,w6,w7,w8,w9,rfl,S9,hxs,htab,hxl⟩
   have hi:i<300:=hi
   have hwl:=S9.bk.len
   show (tSeq _ _) _ _ _
   refine zbg fun D1 hD1 hR1 _ _=>zak fun U hU=>?_
   have em:∀l:List Str,∀y:Str,(l++[y]).map V.str=l.map V.str++[V.str y]:=fun l y=>by rw[List.map_append];rfl
   have hzi:i % 62<zs.length:=by omega
   obtain ⟨y,ey⟩:∃y,zs[i % 62]=y:=⟨_,rfl⟩
   have hy:y∈zs:=by rw[←ey];exact List.getElem_mem hzi
   have ey2:(zs.map V.ref)[i % 62]?=some (.ref y):=by rw[List.getElem?_map,List.getElem?_eq_getElem hzi,ey];rfl
   have eix:(0+(i:Int)) % 62=((i % 62:Nat):Int):=by omega
   have hpl9:H9 pl=some (.lst (xs.map V.str++[V.str x])):=by rw[←em];exact S9.hpl
   refine ⟨_,rfl,_,rfl,_,_,rfl,rfl,by show (0:Int)<62;decide,pb,_,_,_,rfl,rfl,SqL.of S9.hpb,by rw[eix];exact zah ey2,_,rfl,_,rfl,1,rfl,pl,_,-1,_,rfl,rfl,SqL.of hpl9,zbJ _ _,y,v,b,x,rfl,S9.hz y hy,Rep.rebag (S9.hz y hy) S9.pg.rb (.tup (zbp b)),okb,by omega,fun bg en t p H10 A10 hp hbe hex ht1 ht2=>?_⟩
   refine ⟨p,_,rfl,SqL.of hp,rfl,_,_,rfl,_,_,rfl,_,_,rfl,rfl,hU _ _ (zak fun U hU=>?_)⟩
   have S10:=S9.aft hy A10
   clear S9 A10 hpl9 hp
   refine ⟨_,rfl,_,rfl,_,rfl,_,rfl,by show (4:Nat)≤_;omega,fun pd npd=>?_⟩
   have s11:=Same.new (o:=.lst [.str "change",.int bg,.int en,.str t]) npd
   have hpd:upd H10 pd (.lst [.str "change",.int bg,.int en,.str t]) pd=some (.lst [.str "change",.int bg,.int en,.str t]):=zab
   generalize upd H10 pd (.lst [.str "change",.int bg,.int en,.str t])=H11 at *
   have S11:=S10.same s11
   clear S10 s11 npd
   refine .ch r dx pd _ (.int bg) (.int en) (.str t) rfl S11.pg.ins (zaV (by simp)) hpd fun Q' E' hQ hE=>?_
   refine ⟨z,r,dx,v,b,x,pt,ps,so,dxs,pr,pn,pw,tab,N,ks,bg,en,t,wl,rfl,S11.pg,S11.B0,S11.L,hbe,hex,by omega,by omega,S11.hpw,by omega,fun pq wv x' Kk M' m d pt' ps' ks' tab' H12 hR hP12 htab12 k12 B12 L12 hpw12 hwv npq hpq npt nps=>hQ _ _ fun p np=>?_⟩
   obtain ⟨qw,rfl,_,hqw⟩:=hwv
   obtain ⟨as,e1,_,e3⟩:=id S11.pg.sd.ex
   obtain ⟨ps0,ht0⟩:=S11.L.tbl
   have nT:NoTup (fun a=>a=pw∨a=r∨a=pr∨a=pn∨a=tb) H11:=zbl (zaE S11.hpw (by intro xs c;cases c)) (zbl (zaE S11.pg.ins (by intro xs c;cases c)) (zbl (zaE e1 (by intro xs c;cases c)) (zbl (zaE e3 (by intro xs c;cases c)) (zaE ht0 (by intro xs c;cases c)))))
   obtain ⟨g1,g2,g3⟩:=zkR hbe hex hR.tx rfl
   have hxl0:=S11.pg.xl
   have bk12:Backs H12 (wl++[.ref qw]) (xs++[x]) x':=.snoc (S11.bk.keep k12 nT) (by rw[hqw];congr 3) (Nat.le_add_right bg t.length) g1 (by omega) g3
   have S12:=S11.put hP12 k12 B12 L12 hpw12 bk12 npt nps
   have xlen:x'.length+(en-bg)=x.length+t.length:=by
    have h1:=congrArg List.length hR.tx
    rw[List.length_append,List.length_append,List.length_take,List.length_drop,zam,zam,zam] at h1
    omega
   have s13:=Same.new (o:=.lst [.str "",.ref pq]) np
   have S13:=S12.same s13
   refine ⟨p,_,0,_,rfl,rfl,SqL.of zab,zah (j:=0) rfl,rfl,_,rfl,iteNS rfl (hU _ _ (zak fun U hU=>?_))⟩
   generalize upd H12 p (.lst [.str "",.ref pq])=H13 at *
   clear S11 S12 s13 np k12 nT bk12 hqw hpq npq hpw12 hP12 B12 L12 e1 e3 ht0 hpd npt nps
   have hpl13:H13 pl=some (.lst (xs.map V.str++[V.str x])):=by rw[←em];exact S13.hpl
   have c1':=zeo x none (some (bg:Int))
   have c2':=zeo x (some (en:Int)) none
   have ecut:cutS x none (some (bg:Int))++t++cutS x (some (en:Int)) none=x':=zco (by rw[hR.tx,zcE,zcE,zfU x (by omega),zcd x (by omega)])
   have hxsl:(xs.map V.str++[V.str x]).length=xs.length+1:=by rw[List.length_append,List.length_map];rfl
   refine ⟨_,rfl,.inl ⟨rfl,_,SqL.of hpl13⟩,_,rfl,1,rfl,pl,_,-1,_,rfl,rfl,SqL.of hpl13,zbJ _ _,_,rfl,_,rfl,x,rfl,by omega,_,rfl,_,_,rfl,rfl,by omega,_,rfl,1,rfl,pl,_,-1,_,rfl,rfl,SqL.of hpl13,zbJ _ _,_,rfl,_,rfl,x,rfl,by omega,_,_,rfl,rfl,by rw[zfL];omega,pl,_,_,rfl,rfl,hpl13,by omega,hU _ _ ?_⟩
   rw[ecut]
   have S14:=S13.app (xs++[x]++[x'])
   have e14:(xs++[x]++[x']).map V.str=xs.map V.str++[V.str x]++[V.str x']:=by rw[em,em]
   rw[e14] at S14
   have hpl14:upd H13 pl (.lst (xs.map V.str++[V.str x]++[V.str x'])) pl=some (.lst (xs.map V.str++[V.str x]++[V.str x'])):=zab
   generalize upd H13 pl (.lst (xs.map V.str++[V.str x]++[V.str x']))=H14 at *
   have fin:∀H15,Same H14 H15→D1.nx [some (.ref a),some (.ref z),some v,some (.ref pl),some (.ref r),some (.ref pb),some (.int (0+i)),some (.int bg),some (.int en),some (.str t)] H15:=fun H15 s15=>hD1 _ _ ⟨x',pt',ps',tab',_,ks',wl++[.ref qw],xs++[x],_,_,_,_,rfl,S14.same s15,by rw[List.length_append];show xs.length+1=_;omega,by omega,by omega⟩
   refine ⟨_,rfl,_,_,rfl,rfl,by show (0:Int)<20;decide,rfl,_,rfl,ite2 (fun _=>?_) (fun _=>fin _ (Same.refl _))⟩
   have ne2:¬(!decide (V.str x'=V.str x'))=true:=by simp
   have hP14:=S14.pg
   refine ⟨_,rfl,r,dx,_,rfl,hP14.ins,zaV (by simp),z,r,dx,v,b,x',pt',ps',so,dxs,pr,pn,pw,tab',_,ks',rfl,hP14,_,rfl,1,rfl,pl,_,-1,_,rfl,rfl,SqL.of hpl14,zbJ _ _,rfl,_,rfl,ite2 (fun g=>absurd g ne2) (fun _=>?_)⟩
   refine ⟨_,rfl,r,dx,_,rfl,hP14.ins,zaV (by simp),z,r,dx,v,b,x',pt',ps',so,dxs,pr,pn,pw,tab',_,ks',rfl,hP14,fun p6 ev6 H15 s15 np6 hp6 R6=>?_⟩
   have S15:=S14.same s15
   refine ⟨_,rfl,_,rfl,1,rfl,pl,_,-1,_,rfl,rfl,SqL.of (s15 _ _ hpl14),zbJ _ _,z,v,b,x',rfl,S15.B0,S15.pg.rb,okb,by omega,fun pl2 pf pd2 n1 H16 s16 hpl2 hat1 RF LD=>?_⟩
   refine ⟨pl2,_,0,_,rfl,rfl,SqL.of hpl2,zah (j:=0) rfl,?_⟩
   rw[zjU hat1 S15.pg.run.at_] at RF
   exact ⟨z,z,_,.lst (s16 _ _ hp6) (S14.B0.ne np6) (R6.mono s16.x),RF,zfK 3 _,_,rfl,iteF (fin _ (s15.trans s16))⟩
  ·clear S6 htb5
   rintro σ H9 ⟨x,pt,ps,tab,N,ks,wl,xs,w6,w7,w8,w9,rfl,S9,hxs,htab,hxl⟩
   have hxs:xs.length=300:=hxs
   have htab:tab.length≤2000*301:=htab
   have em:∀l:List Str,∀y:Str,(l++[y]).map V.str=l.map V.str++[V.str y]:=fun l y=>by rw[List.map_append];rfl
   refine hU _ _ ?_
   refine ⟨_,rfl,z,2,rfl,S9.B0,by decide,by decide,fun rn H10 hrn a10=>⟨rfl,_,rfl,ite2 (fun _=>?_) (fun _=>hR0 _ _ (k _))⟩⟩
   have S10:=S9.aft0 a10
   clear S9 a10
   show (tSeq _ _) _ _ _
   refine zbg fun D2 hD2 hR2 _ _=>zak fun U hU=>?_
   refine ⟨300,rfl,by decide,by decide,?_⟩
   refine zbB (fun i σ H9=>∃(x:Str) (pt ps:Addr) (tab:List Rws) (N:Nat) (ks:List Nat) (wl:List V) (xs:List Str) (w6 w7 w8 w9:Option V),σ=[some (.ref a),some (.ref z),some v,some (.ref pl),some (.ref r),some (.ref pb),w6,w7,w8,w9]∧S26 P w tb CP CS z r dx v b so dxs pr pn pw pl pb zs H9 x pt ps tab N ks wl xs (xs++[x])∧xs.length+i=300∧tab.length≤2000*(301+i))
    ⟨x,pt,ps,tab,N,ks,wl,xs,_,_,_,_,rfl,S10,hxs,htab⟩ ?_ ?_
   ·clear S10 htab hxl hxs
    rintro i σ H9 hi ⟨x,pt,ps,tab,N,ks,wl,xs,w6,w7,w8,w9,rfl,S9,hxs,htab⟩
    have hi:i<300:=hi
    obtain ⟨wl',xs',y,t,pq,bg,en,rfl,rfl,bk',hq,h1,h2,h3,h4⟩:=S9.bk.last (fun e=>by rw[e] at hxs;simp at hxs;omega)
    show (tSeq _ _) _ _ _
    refine zbg fun D1 hD1 hR1 _ _=>zak fun U hU=>?_
    have hpl9:H9 pl=some (.lst ((xs'++[y]).map V.str++[V.str x])):=by rw[←em];exact S9.hpl
    refine ⟨_,rfl,.inl ⟨rfl,_,SqL.of hpl9⟩,pl,_,.str x,rfl,rfl,hpl9,by simp,hU _ _ ?_⟩
    rw[List.dropLast_concat]
    have S10:=S9.app (xs'++[y])
    have hq10:upd H9 pl (.lst ((xs'++[y]).map V.str)) pq=some (.tup [.int bg,.int en,.str t]):=by rw[zaj (zan hq hpl9 (by intro c;cases c))];exact hq
    generalize upd H9 pl (.lst ((xs'++[y]).map V.str))=H10 at *
    clear S9 hpl9 hq
    refine ⟨_,rfl,by show (1:Nat)≤_;omega,fun pd npd=>?_⟩
    have s11:=Same.new (o:=.lst [.str "back"]) npd
    have hpd:upd H10 pd (.lst [.str "back"]) pd=some (.lst [.str "back"]):=zab
    generalize upd H10 pd (.lst [.str "back"])=H11 at *
    have S11:=S10.same s11
    have hq11:=s11 _ _ hq10
    clear S10 s11 npd hq10
    have hxl0:=S11.pg.xl
    obtain ⟨as,e1,_,e3⟩:=id S11.pg.sd.ex
    obtain ⟨ps0,ht0⟩:=S11.L.tbl
    have nT:NoTup (fun a=>a=pw∨a=r∨a=pr∨a=pn∨a=tb) H11:=zbl (zaE S11.hpw (by intro xs c;cases c)) (zbl (zaE S11.pg.ins (by intro xs c;cases c)) (zbl (zaE e1 (by intro xs c;cases c)) (zbl (zaE e3 (by intro xs c;cases c)) (zaE ht0 (by intro xs c;cases c)))))
    have bk11:Backs H11 wl' xs' y:=by
     obtain ⟨wl2,xs2,y2,t2,pq2,bg2,en2,f1,f2,f3,_⟩:=S11.bk.last (fun e=>by simp at e)
     obtain ⟨g1,_⟩:=List.append_inj' f1 rfl
     obtain ⟨g2,g3⟩:=List.append_inj' f2 rfl
     cases g3
     rw[g1,g2]
     exact f3
    refine .bk r dx pd _ rfl S11.pg.ins ziv hpd fun Q' E' hQ hE=>.inl ?_
    refine ⟨z,r,dx,v,b,x,pt,ps,so,dxs,pr,pn,pw,pq,tab,N,ks,bg,en,t,wl',rfl,S11.pg,S11.B0,S11.L,h1,h2,h3,by omega,S11.hpw,hq11,fun x' Kk M' m d pt' ps' ks' tab' H12 hR hP12 htab12 k12 B12 L12 hpw12 npt nps=>hQ _ _ fun p np=>?_⟩
    have exy:x'=y:=zco (by rw[hR.tx,h4])
    subst exy
    have S12:=S11.put hP12 k12 B12 L12 hpw12 (bk11.keep k12 nT) npt nps
    have s13:=Same.new (o:=.lst [.str "",.non]) np
    refine ⟨by show (2:Nat)≤_;omega,fun p2 np2=>?_⟩
    have s14:=Same.new (o:=.lst [.str "",.non]) np2
    have rr:Reps z (upd (upd H12 p (.lst [.str "",.non])) p2 (.lst [.str "",.non])) [.str "",.non] [.str "",.non]:=.cons (.str _ (by decide +kernel)) (.cons .non .nil)
    have S14:=(S12.same s13).same s14
    refine ⟨z,z,[.str "",.non],.lst (s14 _ _ zab) (S12.B0.ne np) rr,.lst zab ((S12.B0.same s13).ne np2) rr,.cons (.str _ _) (.cons (.non _) (.nil _)),_,rfl,iteF ?_⟩
    generalize upd (upd H12 p (.lst [.str "",.non])) p2 (.lst [.str "",.non])=H14 at *
    have hpl14:H14 pl=some (.lst (xs'.map V.str++[V.str x'])):=by rw[←em];exact S14.hpl
    have ne2:¬(!decide (V.str x'=V.str x'))=true:=by simp
    have hP14:=S14.pg
    refine ⟨_,rfl,r,dx,_,rfl,hP14.ins,zaV (by simp),z,r,dx,v,b,x',pt',ps',so,dxs,pr,pn,pw,tab',_,ks',rfl,hP14,_,rfl,1,rfl,pl,_,-1,_,rfl,rfl,SqL.of hpl14,zbJ _ _,rfl,_,rfl,ite2 (fun g=>absurd g ne2) (fun _=>hD1 _ _ ?_)⟩
    exact ⟨x',pt',ps',tab',_,ks',wl',xs',_,_,_,_,rfl,S14,by rw[List.length_append] at hxs;have:xs'.length+1+i=300:=hxs;omega,by omega⟩
   ·clear S10 htab hxl hxs
    rintro σ H9 ⟨x,pt,ps,tab,N,ks,wl,xs,w6,w7,w8,w9,rfl,S9,hxs,htab⟩
    have hxs:xs.length+300=300:=hxs
    have exs:xs=[]:=List.eq_nil_of_length_eq_zero (by omega)
    subst exs
    have ewl:wl=[]:=List.eq_nil_of_length_eq_zero (by rw[S9.bk.len];rfl)
    subst ewl
    refine hU _ _ ?_
    refine ⟨_,rfl,by show (1:Nat)≤_;omega,fun pd npd=>?_⟩
    have s11:=Same.new (o:=.lst [.str "back"]) npd
    have hpd:upd H9 pd (.lst [.str "back"]) pd=some (.lst [.str "back"]):=zab
    generalize upd H9 pd (.lst [.str "back"])=H11 at *
    have S11:=S9.same s11
    clear S9 s11 npd
    refine .bk r dx pd _ rfl S11.pg.ins ziv hpd fun Q' E' hQ hE=>.inr ?_
    refine ⟨r,dx,v,x,pt,ps,so,pw,rfl,S11.pg.ins,S11.hpw,hE _ _ _ ⟨y7,false,false,false,false,false,false,true,false,rfl,X7,fun H2 s2 p np=>?_⟩⟩
    rw[kN]
    refine ⟨by show (2:Nat)≤_;omega,fun p2 np2=>?_⟩
    have s13:=Same.new (o:=.lst [.str "Nothing+",.non]) np
    have s14:=Same.new (o:=.lst [.str "Nothing+",.non]) np2
    have rr:Reps z (upd (upd H2 p (.lst [.str "Nothing+",.non])) p2 (.lst [.str "Nothing+",.non])) [.str "Nothing+",.non] [.str "Nothing+",.non]:=.cons (.str _ (by decide +kernel)) (.cons .non .nil)
    have S2:=S11.same s2
    have S14:=(S2.same s13).same s14
    refine ⟨z,z,[.str "Nothing+",.non],.lst (s14 _ _ zab) (S2.B0.ne np) rr,.lst zab ((S2.B0.same s13).ne np2) rr,.cons (.str _ _) (.cons (.non _) (.nil _)),_,rfl,iteT ?_⟩
    generalize upd (upd H2 p (.lst [.str "Nothing+",.non])) p2 (.lst [.str "Nothing+",.non])=H14 at *
    have hP14:=S14.pg
    have hxl0:=hP14.xl
    refine ⟨_,rfl,r,dx,_,rfl,hP14.ins,zaV (by simp),z,r,dx,v,b,x,pt,ps,so,dxs,pr,pn,pw,tab,N,ks,rfl,hP14,fun p6 ev6 H15 s15 np6 hp6 R6=>?_⟩
    have S15:=S14.same s15
    refine ⟨_,rfl,_,rfl,pl,_,0,_,rfl,rfl,SqL.of S15.hpl,zah (j:=0) rfl,z,v,b,x,rfl,S15.B0,S15.pg.rb,okb,by omega,fun pl2 pf pd2 n1 H16 s16 hpl2 hat1 RF LD=>?_⟩
    refine ⟨pl2,_,0,_,rfl,rfl,SqL.of hpl2,zah (j:=0) rfl,?_⟩
    rw[zjU hat1 S15.pg.run.at_] at RF
    exact ⟨z,z,_,.lst (s16 _ _ hp6) (S14.B0.ne np6) (R6.mono s16.x),RF,zfK 3 _,hR2 _ _ (hR0 _ _ (k _))⟩
/-! ### what the top has written,and the law's own head -/
theorem all_mk {l:W.OpenLaw}{w:World}{K:W.Frag}{h:Heap}{mg:Str→Option Value}{fa cc C1 h1 h2 h3 h4 C2 h5 h6 h7 h8 h9 h10 h11 h12 h13 h14 h15 h16 h17 h18 f1 f2 f3 f4 f5 f6 f7 f8 f9 f10 f11 f12 f13 f14 f15 f16 f17 f18 f19 f20 f21 f22 f23 yN y1 y2 y3 y4 y5 y6 y7 y8:Addr}{d1 d2 d3 d4 d5 d7 d8 d9 d10 d11 d12 d13 d14 d15 d16 d17 d18 d19 d20 d21 d22 d23 e1 e2 e3 e4 e5 e6 e7 e8 e9 e10 e11 e12 e13 e14 e15 e16 e17 e18:FuncData}{od an:Option Addr}{sl:Array (Option Value)}{oc kV dc pm ct:Value}{tI1:Tok}{tI2:Tok}(X:K.In h) (G:h.Ns mainGlobals mg) (hfa:mg "law"=some (.ref fa))
  (A1:FK K "tongue_within" zfF f1 d1)
  (A2:FK K "possible_marks" sPoss f2 d2)
  (A3:FK K "fitting_marks" zdb f3 d3)
  (A4:FK K "take_mark" zhM f4 d4)
  (A5:FK K "read_plain" zfG f5 d5)
  (a6:W.nsIn K mainGlobals "read_step"=some (some (.ref f6))) (l6:K.lookup f6=some ⟨oc,od,.func (W.fnOf "read_step" "read_step" (zbz sStep) (zba sStep) (zag sStep) .none kV dc pm an (.ref cc) ct),sl⟩) (c6:W.codeIn K (.ref cc) "read_step"=true) (k6:W.keepIn K (.ref f6)=true)
  (A7:FK K "moved" zhN f7 d7)
  (A8:FK K "is_sure" zdA f8 d8)
  (A9:FK K "sure_steps" zcV f9 d9)
  (A10:FK K "_law_bag" lBag f10 d10)
  (A11:FK K "_law_take" lTake f11 d11)
  (A12:FK K "_law_mark" lMk f12 d12)
  (A13:FK K "_law_fits_book" lFits f13 d13)
  (A14:FK K "_law_book" lBook f14 d14)
  (A15:FK K "_law_marks" zhO f15 d15)
  (A16:FK K "_law_text" lText f16 d16)
  (A17:FK K "_law_fitting" zcb f17 d17)
  (A18:FK K "_law_step" lStep f18 d18)
  (A19:FK K "_law_steps" zhP f19 d19)
  (A20:FK K "_law_tried" zhQ f20 d20)
  (A21:FK K "_law_kinds" zgf f21 d21)
  (A22:FK K "_law_small_change" zb0 f22 d22)
  (A23:FK K "law" lLaw f23 d23)
  (hd:W.codeHdIn K cc 158=true) (hp:K.lookup 158=none)
  (aC1:W.nsIn K mainGlobals "Standings"=some (some (.ref C1)))
  (B1:MK K C1 "__init__" "Standings.__init__" zh9 h1 e1)
  (B2:MK K C1 "within" "Standings.within" zey h2 e2)
  (B3:MK K C1 "around" "Standings.around" zfM h3 e3)
  (B4:MK K C1 "doors_by" "Standings.doors_by" zez h4 e4)
  (cpg1:W.plainGet K C1 Str.empty=true) (chd1:W.hasDictIn K C1=true) (cpo1:W.plainOver K C1=true) (csa1:W.findIn K (.ref C1) "__setattr__"=some (some (.builtin "object.__setattr__"))) (cmk1:W.makesIn K C1=true) (ckc1:W.keepIn K (.ref C1)=true)
  (nA1_1:W.findIn K (.ref C1) "rows"=some none)
  (nA1_2:W.findIn K (.ref C1) "numbers"=some none)
  (aC2:W.nsIn K mainGlobals "Page"=some (some (.ref C2)))
  (B5:MK K C2 "__init__" "Page.__init__" zic h5 e5)
  (B6:MK K C2 "change" "Page.change" zfQ h6 e6)
  (B7:MK K C2 "text" "Page.text" zid h7 e7)
  (B8:MK K C2 "steps" "Page.steps" zfR h8 e8)
  (B9:MK K C2 "put" "Page.put" mPut h9 e9)
  (B10:MK K C2 "read_anew" "Page.read_anew" mAnew h10 e10)
  (B11:MK K C2 "goes_on" "Page.goes_on" zeH h11 e11)
  (B12:MK K C2 "stand_behind" "Page.stand_behind" zfS h12 e12)
  (B13:MK K C2 "beginning" "Page.beginning" zcY h13 e13)
  (B14:MK K C2 "numbers_by_beginnings" "Page.numbers_by_beginnings" zdi h14 e14)
  (B15:MK K C2 "count_sure" "Page.count_sure" zcZ h15 e15)
  (B16:MK K C2 "count_ended" "Page.count_ended" zcp h16 e16)
  (B17:MK K C2 "take_back" "Page.take_back" zcL h17 e17)
  (B18:MK K C2 "standing_at" "Page.standing_at" zjy h18 e18)
  (cpg2:W.plainGet K C2 Str.empty=true) (chd2:W.hasDictIn K C2=true) (cpo2:W.plainOver K C2=true) (csa2:W.findIn K (.ref C2) "__setattr__"=some (some (.builtin "object.__setattr__"))) (cmk2:W.makesIn K C2=true) (ckc2:W.keepIn K (.ref C2)=true)
  (nA2_1:W.findIn K (.ref C2) "book"=some none)
  (nA2_2:W.findIn K (.ref C2) "signs"=some none)
  (nA2_3:W.findIn K (.ref C2) "told"=some none)
  (nA2_4:W.findIn K (.ref C2) "stands"=some none)
  (nA2_5:W.findIn K (.ref C2) "standings"=some none)
  (nA2_6:W.findIn K (.ref C2) "ways_back"=some none)
  (z1:W.nsIn K mainGlobals "len"=some none)
  (z2:W.nsIn K mainGlobals "ord"=some none)
  (z3:W.nsIn K mainGlobals "all"=some none)
  (z4:W.nsIn K mainGlobals "any"=some none)
  (z5:W.nsIn K mainGlobals "isinstance"=some none)
  (z6:W.nsIn K mainGlobals "str"=some none)
  (z7:W.nsIn K mainGlobals "int"=some none)
  (z8:W.nsIn K mainGlobals "bool"=some none)
  (z9:W.nsIn K mainGlobals "tuple"=some none)
  (z10:W.nsIn K mainGlobals "range"=some none)
  (z11:W.nsIn K mainGlobals "sorted"=some none)
  (z12:W.nsIn K mainGlobals "max"=some none)
  (z13:W.nsIn K mainGlobals "list"=some none)
  (z14:W.nsIn K mainGlobals "set"=some none)
  (z15:W.nsIn K mainGlobals "min"=some none)
  (z16:W.nsIn K mainGlobals "ValueError"=some none)
  (gi1:W.nsIn K mainGlobals "LONGEST_MARK"=some (some (.int 4 tI1)))
  (gi2:W.nsIn K mainGlobals "MOST_SIGNS"=some (some (.int 2000 tI2)))
  (aE0:W.nsIn K mainGlobals "NestError"=some (some (.ref yN)))
  (aE1:W.nsIn K mainGlobals "NoDoor"=some (some (.ref y1)))
  (aE2:W.nsIn K mainGlobals "NoPlace"=some (some (.ref y2)))
  (aE3:W.nsIn K mainGlobals "NoRow"=some (some (.ref y3)))
  (aE4:W.nsIn K mainGlobals "NoText"=some (some (.ref y4)))
  (aE5:W.nsIn K mainGlobals "NoTongue"=some (some (.ref y5)))
  (aE6:W.nsIn K mainGlobals "NoWay"=some (some (.ref y6)))
  (aE7:W.nsIn K mainGlobals "Nothing"=some (some (.ref y7)))
  (aE8:W.nsIn K mainGlobals "TooMany"=some (some (.ref y8)))
  (xE7:errB K yN [y1,y2,y3,y4,y5,y6,y7,y8] y7 [false,false,false,false,false,false,true,false]=true) :
  ∃(fd:FuncData) (c:Addr),W.codeHdIn K c 158=true∧K.lookup 158=none∧(∀(s:Shared) (v:Value),BindsTo s fd ⟨[v],[]⟩ [("script",v)])∧∀base:Heap,K.In base→base.Ns mainGlobals mg→base.BuiltinsAt mg 158→FnOk l.prog w K mg base CX0 10 fa fd ["script"] (zeS K 158):=by
 have e:=A23.law X G hfa
 subst e
 have T:TxtB mg:=⟨W.mg_none_of X G z1,W.mg_none_of X G z2,W.mg_none_of X G z3,W.mg_none_of X G z4,W.mg_none_of X G z5,W.mg_none_of X G z6,W.mg_none_of X G z7,W.mg_none_of X G z8,W.mg_none_of X G z9,W.mg_none_of X G z10,W.mg_none_of X G z11,W.mg_none_of X G z12⟩
 have T2:Txt2 mg:=⟨W.mg_none_of X G z13,W.mg_none_of X G z14,W.mg_none_of X G z15⟩
 have hve:=W.mg_none_of X G z16
 have hI1:=W.mg_of X G gi1
 have hI2:=W.mg_of X G gi2
 have TC1:Cls K C1:=⟨cpg1,chd1,cpo1,csa1⟩
 have bM1:=bn1 (p:="self") B1.F fun _ _ _ _ _ _ _=>rfl
 have bM2:=bn3 (p:="self") (p2:="number") (p3:="door") B2.F fun _ _ _ _ _ _ _ _ _=>rfl
 have bM3:=bn2 (p:="self") (p2:="number") B3.F fun _ _ _ _ _ _ _ _=>rfl
 have bM4:=bn2 (p:="self") (p2:="number") B4.F fun _ _ _ _ _ _ _ _=>rfl
 have TC2:Cls K C2:=⟨cpg2,chd2,cpo2,csa2⟩
 have bM5:=bn3 (p:="self") (p2:="book") (p3:="text") B5.F fun _ _ _ _ _ _ _ _ _=>rfl
 have bM6:=bn4 (p:="self") (p2:="begin") (p3:="end") (p4:="text") B6.F fun _ _ _ _ _ _ _ _ _ _=>rfl
 have bM7:=bn1 (p:="self") B7.F fun _ _ _ _ _ _ _=>rfl
 have bM8:=bn1 (p:="self") B8.F fun _ _ _ _ _ _ _=>rfl
 have bM9:=bn4 (p:="self") (p2:="begin") (p3:="end") (p4:="text") B9.F fun _ _ _ _ _ _ _ _ _ _=>rfl
 have bM10:=bn5 (p:="self") (p2:="kept") (p3:="first") (p4:="elder") (p5:="longer") B10.F fun _ _ _ _ _ _ _ _ _ _ _=>rfl
 have bM11:=bn4 (p:="self") (p2:="place") (p3:="elder") (p4:="stand") B11.F fun _ _ _ _ _ _ _ _ _ _=>rfl
 have bM12:=bn4 (p:="self") (p2:="stand") (p3:="step") (p4:="doors") B12.F fun _ _ _ _ _ _ _ _ _ _=>rfl
 have bM13:=bn2 (p:="self") (p2:="number") B13.F fun _ _ _ _ _ _ _ _=>rfl
 have bM14:=bn3 (p:="self") (p2:="end") (p3:="longer") B14.F fun _ _ _ _ _ _ _ _ _=>rfl
 have bM15:=bn2 (p:="self") (p2:="begin") B15.F fun _ _ _ _ _ _ _ _=>rfl
 have bM16:=bn2 (p:="self") (p2:="place") B16.F fun _ _ _ _ _ _ _ _=>rfl
 have bM17:=bn1 (p:="self") B17.F fun _ _ _ _ _ _ _=>rfl
 have bM18:=bn2 (p:="self") (p2:="place") B18.F fun _ _ _ _ _ _ _ _=>rfl
 have b1:=bn1 (p:="doors") A1.F fun _ _ _ _ _ _ _=>rfl
 have b2:=bn2 (p:="book") (p2:="doors") A2.F fun _ _ _ _ _ _ _ _=>rfl
 have b3:=bn4 (p:="book") (p2:="text") (p3:="place") (p4:="doors") A3.F fun _ _ _ _ _ _ _ _ _ _=>rfl
 have b4:=bn4 (p:="mark") (p2:="door") (p3:="place") (p4:="doors") A4.F fun _ _ _ _ _ _ _ _ _ _=>rfl
 have b5:=bn4 (p:="book") (p2:="text") (p3:="place") (p4:="doors") A5.F fun _ _ _ _ _ _ _ _ _ _=>rfl
 have F6:=zg9 (st:=sStep) l6 c6 k6
 have m6:=W.mg_of X G a6
 have b6:=bn4 (p:="book") (p2:="text") (p3:="place") (p4:="doors") F6 fun _ _ _ _ _ _ _ _ _ _=>rfl
 have b7:=bn2 (p:="step") (p2:="by") A7.F fun _ _ _ _ _ _ _ _=>rfl
 have b8:=bn4 (p:="book") (p2:="part") (p3:="place") (p4:="doors") A8.F fun _ _ _ _ _ _ _ _ _ _=>rfl
 have b9:=bn3 (p:="book") (p2:="part") (p3:="doors") A9.F fun _ _ _ _ _ _ _ _ _=>rfl
 have b10:=bn2 (p:="script") (p2:="k") A10.F fun _ _ _ _ _ _ _ _=>rfl
 have b11:=bn2 (p:="bag") (p2:="many") A11.F fun _ _ _ _ _ _ _ _=>rfl
 have b12:=bn2 (p:="bag") (p2:="signs") A12.F fun _ _ _ _ _ _ _ _=>rfl
 have b13:=bn1 (p:="book") A13.F fun _ _ _ _ _ _ _=>rfl
 have b14:=bn1 (p:="bag") A14.F fun _ _ _ _ _ _ _=>rfl
 have b15:=bn1 (p:="book") A15.F fun _ _ _ _ _ _ _=>rfl
 have b16:=bn3 (p:="bag") (p2:="book") (p3:="most") A16.F fun _ _ _ _ _ _ _ _ _=>rfl
 have b17:=bn4 (p:="book") (p2:="doors") (p3:="text") (p4:="place") A17.F fun _ _ _ _ _ _ _ _ _ _=>rfl
 have b18:=bn5 (p:="book") (p2:="doors") (p3:="text") (p4:="place") (p5:="mark") A18.F fun _ _ _ _ _ _ _ _ _ _ _=>rfl
 have b19:=bn2 (p:="book") (p2:="text") A19.F fun _ _ _ _ _ _ _ _=>rfl
 have b20:=bn2 (p:="page") (p2:="deed") A20.F fun _ _ _ _ _ _ _ _=>rfl
 have b21:=bn1 (p:="e") A21.F fun _ _ _ _ _ _ _=>rfl
 have b22:=bn3 (p:="bag") (p2:="book") (p3:="text") A22.F fun _ _ _ _ _ _ _ _ _=>rfl
 refine ⟨_,cc,hd,hp,bnl A23.F fun _ _ _ _ _ _ s v=>.of_eq rfl,fun base _ _ hBA=>?_⟩
 have G1:FnOk l.prog w K mg base CX0 1 f1 _ ["doors"] zbL:=zhX A1.F 
 have G2:FnOk l.prog w K mg base CX0 2 f2 _ ["book","doors"] zfl:=zkx A2.F A1.F.kp b1 (A1.m X G) G1
 have G3:FnOk l.prog w K mg base CX0 3 f3 _ ["book","text","place","doors"] zgi:=zky A3.F A2.F.kp b2 (A2.m X G) G2
 have G4:FnOk l.prog w K mg base CX0 2 f4 _ ["mark","door","place","doors"] zeu:=zja A4.F T A1.F.kp b1 (A1.m X G) G1
 have G5:FnOk l.prog w K mg base CX0 2 f5 _ ["book","text","place","doors"] zdd:=zh1 A5.F T A1.F.kp b1 (A1.m X G) G1
 have G6:FnOk l.prog w K mg base CX0 4 f6 _ ["book","text","place","doors"] (zdD 158):=zjc F6 rfl hd hBA T T.max A3.F.kp b3 (A3.m X G) G3 A5.F.kp b5 (A5.m X G) G5 A4.F.kp b4 (A4.m X G) G4
 have G7:FnOk l.prog w K mg base CX0 1 f7 _ ["step","by"] zex:=zjg A7.F 
 have G8:FnOk l.prog w K mg base CX0 3 f8 _ ["book","part","place","doors"] zgk:=zkD A8.F T A1.F.kp b1 (A1.m X G) G1 A2.F.kp b2 (A2.m X G) G2
 have G9:FnOk l.prog w K mg base CX0 5 f9 _ ["book","part","doors"] (zbM 158):=zfr A9.F T k6 b6 m6 G6 A8.F.kp b8 (A8.m X G) G8
 have G10:FnOk l.prog w K mg base CX0 1 f10 _ ["script","k"] (spBag K):=zlp A10.F T 
 have G11:FnOk l.prog w K mg base CX0 1 f11 _ ["bag","many"] zc5:=zks A11.F 
 have G12:FnOk l.prog w K mg base CX0 2 f12 _ ["bag","signs"] spMk:=zlF A12.F T A11.F.kp b11 (A11.m X G) G11
 have G13:FnOk l.prog w K mg base CX0 1 f13 _ ["book"] zgb:=zkt A13.F T T2 
 have G14:FnOk l.prog w K mg base CX0 3 f14 _ ["bag"] zge:=zi7 A14.F T T2 A11.F.kp b11 (A11.m X G) G11 A12.F.kp b12 (A12.m X G) G12 A13.F.kp b13 (A13.m X G) G13
 have G15:FnOk l.prog w K mg base CX0 1 f15 _ ["book"] zdc:=zhR A15.F 
 have G16:FnOk l.prog w K mg base CX0 2 f16 _ ["bag","book","most"] zfi:=zkv A16.F T A11.F.kp b11 (A11.m X G) G11 A15.F.kp b15 (A15.m X G) G15
 have G17:FnOk l.prog w K mg base CX0 1 f17 _ ["book","doors","text","place"] zcB:=zgJ A17.F T 
 have G18:FnOk l.prog w K mg base CX0 1 f18 _ ["book","doors","text","place","mark"] zgg:=zi9 A18.F T 
 have G19:FnOk l.prog w K mg base CX0 2 f19 _ ["book","text"] zes:=zhU A19.F T A17.F.kp b17 (A17.m X G) G17 A18.F.kp b18 (A18.m X G) G18
 have G22:FnOk l.prog w K mg base CX0 3 f22 _ ["bag","book","text"] zeR:=zjz A22.F T T2 A11.F.kp b11 (A11.m X G) G11 A16.F.kp b16 (A16.m X G) G16
 have TN:TxtN mg yN y1 y2 y3 y4 y5 y6 y7 y8:=⟨⟨W.mg_of X G aE1,W.mg_of X G aE2,W.mg_of X G aE3,W.mg_of X G aE4,W.mg_of X G aE5,W.mg_of X G aE6,W.mg_of X G aE7,W.mg_of X G aE8,hve⟩,W.mg_of X G aE0⟩
 have XE7:=zkn xE7
 have TS:TxtS K mg C1:=⟨TC1,nA1_1,nA1_2⟩
 have TP:TxtP K mg C2:=⟨TC2,nA2_1,nA2_2,nA2_3,nA2_4,nA2_5,nA2_6⟩
 have GM1:FnOk l.prog w K mg base CX0 1 h1 _ ["self"] (zeF l.prog w C1):=zjl B1.F TS
 have GM2:FnOk l.prog w K mg base CX0 1 h2 _ ["self","number","door"] (zcG l.prog w C1):=zgO B2.F T TS
 have GM3:FnOk l.prog w K mg base CX0 1 h3 _ ["self","number"] (zdh l.prog w C1):=zib B3.F TS
 have GM4:FnOk l.prog w K mg base CX0 1 h4 _ ["self","number"] (zb4 l.prog w C1):=zgP B4.F TS
 have GM13:FnOk l.prog w K mg base CX0 1 h13 _ ["self","number"] (zbN l.prog w C2 C1):=zig B13.F T TP
 have GM16:FnOk l.prog w K mg base CX0 2 h16 _ ["self","place"] (zeK l.prog w C2 C1):=zjq B16.F T TP B13.M bM13 GM13
 have GM11:FnOk l.prog w K mg base CX0 1 h11 _ ["self","place","elder","stand"] (zdj C2):=zil B11.F TP
 have GM12:FnOk l.prog w K mg base CX0 2 h12 _ ["self","stand","step","doors"] (zdk l.prog w C2 C1):=zim B12.F TP TS B2.M bM2 GM2 B3.M bM3 GM3
 have GM14:FnOk l.prog w K mg base CX0 2 h14 _ ["self","end","longer"] (zcI l.prog w C2 C1):=zgQ B14.F T TP B13.M bM13 GM13
 have GM15:FnOk l.prog w K mg base CX0 6 h15 _ ["self","begin"] (zdl l.prog w 158 C2 C1):=zin B15.F T TP TS hI1 ⟨_,rfl⟩ B16.M bM16 GM16 B13.M bM13 GM13 A9.F.kp b9 (A9.m X G) G9 B4.M bM4 GM4
 have GM10:FnOk l.prog w K mg base CX0 5 h10 _ ["self","kept","first","elder","longer"] (zgo l.prog w 158 C2 C1):=zkO B10.F T TP TS k6 b6 m6 G6 B4.M bM4 GM4 B11.M bM11 GM11 B12.M bM12 GM12 A7.F.kp b7 (A7.m X G) G7
 have GM9:FnOk l.prog w K mg base CX0 7 h9 _ ["self","begin","end","text"] (spPut l.prog w 158 C2 C1):=zlu B9.F T TP B15.M bM15 GM15 B13.M bM13 GM13 B14.M bM14 GM14 B10.M bM10 GM10
 have GM6:FnOk l.prog w K mg base CX0 8 h6 _ ["self","begin","end","text"] (zcJ l.prog w 158 C2 C1):=zio B6.F T TP hI2 ⟨_,rfl⟩ B9.M bM9 GM9
 have GM17:FnOk l.prog w K mg base CX0 8 h17 _ ["self"] (zgp l.prog w 158 C2 C1):=zkQ B17.F TP B9.M bM9 GM9
 have GX17:FnOk l.prog w K mg base (CXE l.prog w) 1 h17 _ ["self"] (zeO C2 y7):=zjw B17.F TP XE7.ex TN.e7
 have GM7:FnOk l.prog w K mg base CX0 1 h7 _ ["self"] (zeL l.prog w C2 C1):=zjt B7.F TP
 have GM8:FnOk l.prog w K mg base CX0 1 h8 _ ["self"] (zcK l.prog w C2 C1):=zgR B8.F T2 TP
 have GM5:FnOk l.prog w K mg base CX0 8 h5 _ ["self","book","text"] (zeM l.prog w 158 C2 C1):=zjv B5.F T TP hI2 ⟨_,rfl⟩ B9.M bM9 GM9 ⟨cmk1,B1.M.1,B1.M.2,ckc1⟩ (W.mg_of X G aC1) bM1 GM1
 have GK:FnOkU l.prog w K mg base 1 f21 _ ["e"] (zdJ K y1 y2 y3 y4 y5 y6 y7 y8):=zjx A21.F T TN.toTxtE
 have GT:FnOk l.prog w K mg base CX0 9 f20 _ ["page","deed"] (zcf K C2 yN y1 y2 y3 y4 y5 y6 y7 y8 (zcJ l.prog w 158 C2 C1) (fun _ _ _ _=>False) (spBk l.prog w 158 C2 C1 y7)):=ziu A20.F TN TC2 B6.M bM6 GM6.cx B18.M bM18 FnOk.never B17.M bM17 (FnOk.or GM17.cx (GX17.up (by decide))) A21.F.kp b21 (A21.m X G) GK
 exact zjA A23.F T T2 TP (W.mg_of X G aC2) ⟨cmk2,B5.M.1,B5.M.2,ckc2⟩ XE7 A10.F.kp b10 (A10.m X G) G10 A14.F.kp b14 (A14.m X G) G14 A16.F.kp b16 (A16.m X G) G16 A11.F.kp b11 (A11.m X G) G11 A20.F.kp b20 (A20.m X G) GT A19.F.kp b19 (A19.m X G) G19 A22.F.kp b22 (A22.m X G) G22 bM5 GM5 B8.M bM8 GM8 B7.M bM7 GM7
theorem walk {l:W.OpenLaw}{q:Program}{loose:List Str}{XP:(Str→Option Value)→Heap→Prop}{YP:World→Heap→Prop}{d:DefRec}{K:Params→W.Frag}(hn:l.most=some 63) (hdf:d.params.defaults=[])
  (hY:∀(w:World) (h:Heap),YP w h→(K w.params).In h∧h.get? 158=some (W.tabObj #[]))
  (F:∀(w:World) (mg:Str→Option Value) (fa:Addr) (h:Heap),(K w.params).In h→h.Ns mainGlobals mg→mg d.name=some (.ref fa) →
   ∃(fd:FuncData) (c:Addr),W.codeHdIn (K w.params) c 158=true∧(K w.params).lookup 158=none∧(∀(s:Shared) (u:Value),BindsTo s fd ⟨[u],[]⟩ [("script",u)])∧∀base:Heap,(K w.params).In base→base.Ns mainGlobals mg→base.BuiltinsAt mg 158→FnOk l.prog w (K w.params) mg base CX0 10 fa fd ["script"] (zeS (K w.params) 158)) :
  W.WalkO q loose XP YP l.row.toRowW d [] (fun f vs=>PySem.call f vs):=
 L2.walk_ofT (n:=63) (k:=10) (x:="script") (tb:=158) (CX:=fun _=>CX0) (sp:=fun w=>zeS (K w.params) 158) hn (by decide) hdf ⟨rfl,by decide,by decide⟩ hY F (fun _ _ a ns hl hT hS=>⟨a,ns,rfl,hS,.inl hT,fun _=>rfl⟩) fun _ _ _ _ _ z=>z
end T1
open PySem PySem.W PyProof.Rows
local macro_rules|`(tactic| walk_at "own def")=>`(tactic| (refine' T1.fk ?k1 ?k2 ?k3 ?k4;(case k1=>k_is);(case k2=>k_is);(case k3=>k_is);(case k4=>k_is)))
local macro_rules|`(tactic| walk_at "own method")=>`(tactic| (refine' T1.mkm ?k1 ?k2 ?k3 ?k4 ?k5;(case k1=>k_is);(case k2=>k_is);(case k3=>k_is);(case k4=>k_is);(case k5=>k_is)))
def PySem.W.Fast.tw17339639263360152353 : Nat := 0
def PySem.W.Fast.tw6333276856793676950 : Nat := 0
def PySem.W.Fast.tw10679358820557734346 : Nat := 0
def PySem.W.Fast.tw12645934154109377329 : Nat := 0
def PySem.W.Fast.tw4759488363108694170 : Nat := 0
def PySem.W.Fast.tw384461230324208371 : Nat := 0
def PySem.W.Fast.tw18443444411772592851 : Nat := 0
def PySem.W.Fast.tw8588451003787441881 : Nat := 0
def PySem.W.Fast.tw7968824007509409518 : Nat := 0
def PySem.W.Fast.tw11613125648418671335 : Nat := 0
def PySem.W.Fast.tw17676825713491970176 : Nat := 0
def PySem.W.Fast.tw4906978928583869987 : Nat := 0
def PySem.W.Fast.tw6890032158961136333 : Nat := 0
def PySem.W.Fast.tw6938192954274352377 : Nat := 0
def PySem.W.Fast.tw3952743928360068393 : Nat := 0
def PySem.W.Fast.tw9386665139896492270 : Nat := 0
def PySem.W.Fast.tw1421336751148343176 : Nat := 0
def PySem.W.Fast.tw11333355351628881362 : Nat := 0
def PySem.W.Fast.tw18096870523234218175 : Nat := 0
def PySem.W.Fast.tw13668647292444334666 : Nat := 0
def PySem.W.Fast.tw3307264665368764176 : Nat := 0
def PySem.W.Fast.tw156861991209131860 : Nat := 0
def PySem.W.Fast.tw4361496669489006146 : Nat := 0
def PySem.W.Fast.tw2510707836767879688 : Nat := 0
def PySem.W.Fast.tw4787098458154836166 : Nat := 0
def PySem.W.Fast.tw18000017150517460642 : Nat := 0
def PySem.W.Fast.tw17992607590708380247 : Nat := 0
def PySem.W.Fast.tw11128744444430931927 : Nat := 0
def PySem.W.Fast.tw11202146011096540746 : Nat := 0
def PySem.W.Fast.tw3498537589592447984 : Nat := 0
def PySem.W.Fast.tw3885811570435661327 : Nat := 0
def PySem.W.Fast.tw3956499623423635724 : Nat := 0
def PySem.W.Fast.tw5458604990165050792 : Nat := 0
def PySem.W.Fast.tw17671636809034981783 : Nat := 0
def PySem.W.Fast.tw4570586979733496927 : Nat := 0
def PySem.W.Fast.tw7032554379497941581 : Nat := 0
def PySem.W.Fast.tw10387225082100880282 : Nat := 0
def PySem.W.Fast.tw2522616625125911311 : Nat := 0
def PySem.W.Fast.tw9304821113322344791 : Nat := 0
def PySem.W.Fast.tw13560816913777898388 : Nat := 0
def PySem.W.Fast.tw4992649548079910780 : Nat := 0
def PySem.W.Fast.tw6708846934386002678 : Nat := 0
def PySem.W.Fast.tw2861123545656318473 : Nat := 0
def PySem.W.Fast.tw11410228103825325137 : Nat := 0
def PySem.W.Fast.tw6551816359804674869 : Nat := 0
def PySem.W.Fast.tw5198278691195210733 : Nat := 0
def PySem.W.Fast.tw10966347260457739459 : Nat := 0
def PySem.W.Fast.tw2625432627467761711 : Nat := 0
def PySem.W.Fast.tw10048448299278136985 : Nat := 0
def PySem.W.Fast.tw12063228847557000369 : Nat := 0
def PySem.W.Fast.tw11060070866011340320 : Nat := 0
def PySem.W.Fast.tw10136070407035087358 : Nat := 0
def PySem.W.Fast.tw1674179360567211591 : Nat := 0
def PySem.W.Fast.tw18198306995145600583 : Nat := 0
def PySem.W.Fast.tw5156112845515511829 : Nat := 0
def PySem.W.Fast.tw17347263515523767656 : Nat := 0
def PySem.W.Fast.tw14927604338135190425 : Nat := 0
def PySem.W.Fast.tw16311737780243588659 : Nat := 0
def PySem.W.Fast.tw15586351087692755758 : Nat := 0
def PySem.W.Fast.tw2885517207074606471 : Nat := 0
def PySem.W.Fast.tw3146540214673350099 : Nat := 0
def PySem.W.Fast.tw17297829328427712259 : Nat := 0
def PySem.W.Fast.tw1455961630395350190 : Nat := 0
def PySem.W.Fast.tw7691473500884831034 : Nat := 0
def PySem.W.Fast.tw16742072845011336568 : Nat := 0
def PySem.W.Fast.tw4004399934933752176 : Nat := 0
def PySem.W.Fast.tw6448813789266447533 : Nat := 0
def PySem.W.Fast.tw4120749551119483368 : Nat := 0
def PySem.W.Fast.tw11814254462211582841 : Nat := 0
def PySem.W.Fast.tw2890239645480839227 : Nat := 0
def PySem.W.Fast.tw5517199011137165805 : Nat := 0
def PySem.W.Fast.tw2002606013121818071 : Nat := 0
def PySem.W.Fast.tw17516295264407260787 : Nat := 0
def PySem.W.Fast.tw6413324786138213709 : Nat := 0
def PySem.W.Fast.tw14314948544408163890 : Nat := 0
def PySem.W.Fast.tw7207695016689518533 : Nat := 0
def PySem.W.Fast.tw7515761645371442617 : Nat := 0
def PySem.W.Fast.tw6735414618639953887 : Nat := 0
def PySem.W.Fast.tw11163331296316451630 : Nat := 0
def PySem.W.Fast.tw17954905211450519054 : Nat := 0
def PySem.W.Fast.tw8018568415991478850 : Nat := 0
def PySem.W.Fast.tw9694857988057987486 : Nat := 0
def PySem.W.Fast.tw7429451662348556204 : Nat := 0
def PySem.W.Fast.tw8126567178783041745 : Nat := 0
def PySem.W.Fast.tw15883020283144839535 : Nat := 0
def PySem.W.Fast.tw5577940775711171540 : Nat := 0
def PySem.W.Fast.tw13109864907349053416 : Nat := 0
def PySem.W.Fast.tw10489360998451317128 : Nat := 0
def PySem.W.Fast.tw4843530423304111338 : Nat := 0
def PySem.W.Fast.tw12872183386021936870 : Nat := 0
def PySem.W.Fast.tw9249524207331924901 : Nat := 0
def PySem.W.Fast.tw15866336597486943731 : Nat := 0
def PySem.W.Fast.tw10091068234865825581 : Nat := 0
def PySem.W.Fast.tw13707273679809683715 : Nat := 0
def PySem.W.Fast.tw5091483214234754329 : Nat := 0
def PySem.W.Fast.tw13345939409607540834 : Nat := 0
def PySem.W.Fast.tw15685159340169550910 : Nat := 0
def PySem.W.Fast.tw5928538388404109855 : Nat := 0
def PySem.W.Fast.tw13464208192496489704 : Nat := 0
def PySem.W.Fast.tw3742012922686791781 : Nat := 0
def PySem.W.Fast.tw8772658803813780582 : Nat := 0
def PySem.W.Fast.tw3674696026377814200 : Nat := 0
def PySem.W.Fast.tw8960222356121304192 : Nat := 0
def PySem.W.Fast.tw11495701494748824145 : Nat := 0
def PySem.W.Fast.tw4812535332081412202 : Nat := 0
def PySem.W.Fast.tw2502237646886312258 : Nat := 0
def PySem.W.Fast.tw18129206579941895983 : Nat := 0
def PySem.W.Fast.tw11100674385369610382 : Nat := 0
def PySem.W.Fast.tw17740613082473224676 : Nat := 0
def PySem.W.Fast.tw1650824039197618820 : Nat := 0
def PySem.W.Fast.tw12625358688761049526 : Nat := 0
def PySem.W.Fast.tw11841623621015294958 : Nat := 0
def PySem.W.Fast.tw12077277914283994841 : Nat := 0
def PySem.W.Fast.tw7984710644857452630 : Nat := 0
def PySem.W.Fast.tw9542321122562632288 : Nat := 0
def PySem.W.Fast.tw5590581562940476427 : Nat := 0
def PySem.W.Fast.tw11069380707815542657 : Nat := 0
def PySem.W.Fast.tw9357939858712021533 : Nat := 0
def PySem.W.Fast.tw4708373992529699786 : Nat := 0
def PySem.W.Fast.tw12159082246295200777 : Nat := 0
def PySem.W.Fast.tw443707623138558922 : Nat := 0
set_option maxRecDepth 100000 in
set_option maxHeartbeats 0 in
theorem PySem.Challenge.cw_tonguenest_k26_whole_hundreds_of_changes_holds : PySem.Challenge.rw_tonguenest_k26_whole_hundreds_of_changes.Holds := by
  w_on; o_law; k_head; (case hw => w_witness2)
  k_fill
  refine T1.walk (l := PySem.Challenge.rw_tonguenest_k26_whole_hundreds_of_changes) rfl rfl (fun w h Y => ⟨PySem.W.km_in_of Y, PySem.W.km_tabs_of Y 158 (by simp)⟩) ?F
  case F =>
    intro w mg fa h KX G hmg
    refine' T1.all_mk KX G hmg ?A1 ?A2 ?A3 ?A4 ?A5 ?a6 ?l6 ?c6 ?k6 ?A7 ?A8 ?A9 ?A10 ?A11 ?A12 ?A13 ?A14 ?A15 ?A16 ?A17 ?A18 ?A19 ?A20 ?A21 ?A22 ?A23 ?hd ?hp ?aC1 ?B1 ?B2 ?B3 ?B4 ?cpg1 ?chd1 ?cpo1 ?csa1 ?cmk1 ?ckc1 ?nA1_1 ?nA1_2 ?aC2 ?B5 ?B6 ?B7 ?B8 ?B9 ?B10 ?B11 ?B12 ?B13 ?B14 ?B15 ?B16 ?B17 ?B18 ?cpg2 ?chd2 ?cpo2 ?csa2 ?cmk2 ?ckc2 ?nA2_1 ?nA2_2 ?nA2_3 ?nA2_4 ?nA2_5 ?nA2_6 ?z1 ?z2 ?z3 ?z4 ?z5 ?z6 ?z7 ?z8 ?z9 ?z10 ?z11 ?z12 ?z13 ?z14 ?z15 ?z16 ?gi1 ?gi2 ?aE0 ?aE1 ?aE2 ?aE3 ?aE4 ?aE5 ?aE6 ?aE7 ?aE8 ?xE7
    (case A1 => walk_at "own def")
    (case A2 => walk_at "own def")
    (case A3 => walk_at "own def")
    (case A4 => walk_at "own def")
    (case A5 => walk_at "own def")
    (case a6 => k_is)
    (case l6 => k_is)
    (case c6 => k_is)
    (case k6 => k_is)
    (case A7 => walk_at "own def")
    (case A8 => walk_at "own def")
    (case A9 => walk_at "own def")
    (case A10 => walk_at "own def")
    (case A11 => walk_at "own def")
    (case A12 => walk_at "own def")
    (case A13 => walk_at "own def")
    (case A14 => walk_at "own def")
    (case A15 => walk_at "own def")
    (case A16 => walk_at "own def")
    (case A17 => walk_at "own def")
    (case A18 => walk_at "own def")
    (case A19 => walk_at "own def")
    (case A20 => walk_at "own def")
    (case A21 => walk_at "own def")
    (case A22 => walk_at "own def")
    (case A23 => walk_at "own def")
    (case hd => kernel_rfl)
    (case hp => kernel_rfl)
    (case aC1 => k_is)
    (case B1 => walk_at "own method")
    (case B2 => walk_at "own method")
    (case B3 => walk_at "own method")
    (case B4 => walk_at "own method")
    (case cpg1 => k_is)
    (case chd1 => k_is)
    (case cpo1 => k_is)
    (case csa1 => k_is)
    (case cmk1 => k_is)
    (case ckc1 => k_is)
    (case nA1_1 => k_is)
    (case nA1_2 => k_is)
    (case aC2 => k_is)
    (case B5 => walk_at "own method")
    (case B6 => walk_at "own method")
    (case B7 => walk_at "own method")
    (case B8 => walk_at "own method")
    (case B9 => walk_at "own method")
    (case B10 => walk_at "own method")
    (case B11 => walk_at "own method")
    (case B12 => walk_at "own method")
    (case B13 => walk_at "own method")
    (case B14 => walk_at "own method")
    (case B15 => walk_at "own method")
    (case B16 => walk_at "own method")
    (case B17 => walk_at "own method")
    (case B18 => walk_at "own method")
    (case cpg2 => k_is)
    (case chd2 => k_is)
    (case cpo2 => k_is)
    (case csa2 => k_is)
    (case cmk2 => k_is)
    (case ckc2 => k_is)
    (case nA2_1 => k_is)
    (case nA2_2 => k_is)
    (case nA2_3 => k_is)
    (case nA2_4 => k_is)
    (case nA2_5 => k_is)
    (case nA2_6 => k_is)
    (case z1 => k_is)
    (case z2 => k_is)
    (case z3 => k_is)
    (case z4 => k_is)
    (case z5 => k_is)
    (case z6 => k_is)
    (case z7 => k_is)
    (case z8 => k_is)
    (case z9 => k_is)
    (case z10 => k_is)
    (case z11 => k_is)
    (case z12 => k_is)
    (case z13 => k_is)
    (case z14 => k_is)
    (case z15 => k_is)
    (case z16 => k_is)
    (case gi1 => k_is)
    (case gi2 => k_is)
    (case aE0 => k_is)
    (case aE1 => k_is)
    (case aE2 => k_is)
    (case aE3 => k_is)
    (case aE4 => k_is)
    (case aE5 => k_is)
    (case aE6 => k_is)
    (case aE7 => k_is)
    (case aE8 => k_is)
    (case xE7 => kernel_rfl)
