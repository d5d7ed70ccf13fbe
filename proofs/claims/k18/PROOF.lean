import PyProof.Rows.All
import Wide.All
import OpenK.AllK
import Wide.FinOn
import Lean
import PyProof.EqAt
import PyProof.EqKinds
import PyProof.TupleCall
import PyProof.NeKinds
import KE.KSortKey
import KE.KMinKey
import PyProof.StrBlockG
import PyProof.StrBlockI
import KE.KRevSl
import PyProof.MeetsStr
import KE.KLam
import KE.KNestM
import PyProof.Rows.ZipForRows
import PyProof.Rows.FactsT2
import PyProof.StrOps2
import PyProof.Rows.SumAny
import KE.KDictSum
import PyProof.WalkInts
import PyProof.Rows.MinMaxN
import PyProof.StrCalls6
import PyProof.StrLawsOccR
import PyProof.MeetsStr2
import PyProof.Rows.Range3
import KE.KIntText
import PyProof.Rows.StrWeight
import PyProof.SliceStr2
import PyProof.StrLawsIn
import PyProof.ListMulRoad
import PyProof.StrLawsReplace
import PyProof.Rows.StrSplitAre
import PySem.Challenge.RW_tonguenest_k18_books_as_texts
set_option maxHeartbeats 0
set_option Elab.async false
set_option linter.all false
set_option maxRecDepth 100000
-- CHANGE: your row's module here,as the last of these rows
namespace L2
open PySem PySem.Spec PyProof.Rows
abbrev Key:=Sum Int Str
def keyIs:Key→Value→Bool
 |.inl k,v=>Value.isInt k v
 |.inr x,v=>Value.isStrOf x v
def keyH (w:World):Key→Int
 |.inl k=>hashInt k
 |.inr x=>hashStr w x
theorem zaQ:∀ {k:Key}{v:Value},keyIs k v=true→(∃i t,k=Sum.inl i∧v=Value.int i t)∨(∃x t,k=Sum.inr x∧v=Value.str x t)
 |.inl i,v,h=>by
  obtain ⟨t,e⟩:=Value.isInt_shape (k:=i) (v:=v) h
  exact .inl ⟨i,t,rfl,e⟩
 |.inr x,v,h=>by
  obtain ⟨t,e⟩:=Value.isStrOf_shape (x:=x) (v:=v) h
  exact .inr ⟨x,t,rfl,e⟩
theorem zgz (i:Int) (t:Tok):keyIs (.inl i) (.int i t)=true:=by simp[keyIs,Value.isInt]
theorem zgA (x:Str) (t:Tok):keyIs (.inr x) (.str x t)=true:=by simp[keyIs,Value.isStrOf]
theorem zj0 (a b:Int):decide ((Sum.inl a:Key)=Sum.inl b)=(a==b):=by
 by_cases e:a=b
 ·subst e;simp
 ·have h:¬(Sum.inl a:Key)=Sum.inl b:=fun q=>e (Sum.inl.inj q)
  rw[decide_eq_false h]
  exact (beq_eq_false_iff_ne.mpr e).symm
theorem zj1 (a b:Str):decide ((Sum.inr a:Key)=Sum.inr b)=decide (a=b):=by
 by_cases e:a=b
 ·subst e;simp
 ·have h:¬(Sum.inr a:Key)=Sum.inr b:=fun q=>e (Sum.inr.inj q)
  rw[decide_eq_false h,decide_eq_false e]
theorem zj2 (a:Int) (b:Str):decide ((Sum.inl a:Key)=Sum.inr b)=false:=decide_eq_false (fun q=>nomatch q)
theorem zj3 (a:Str) (b:Int):decide ((Sum.inr a:Key)=Sum.inl b)=false:=decide_eq_false (fun q=>nomatch q)
def zaX (prog:Program) (w:World):PySem.KeyKind prog w Key where
 is:=keyIs
 hash:=keyH w
 inj:=fun v a b ha hb=>by
  rcases zaQ ha with ⟨i,t,rfl,rfl⟩|⟨x,t,rfl,rfl⟩
  ·rcases zaQ hb with ⟨j,u,rfl,e⟩|⟨y,u,rfl,e⟩
   ·injection e with e1 _;rw[e1]
   ·exact nomatch e
  ·rcases zaQ hb with ⟨j,u,rfl,e⟩|⟨y,u,rfl,e⟩
   ·exact nomatch e
   ·injection e with e1 _;rw[e1]
 byValue:=fun k v h=>by
  rcases zaQ h with ⟨i,t,rfl,rfl⟩|⟨x,t,rfl,rfl⟩<;>rfl
 pyHash:=fun hv h=>by
  rcases zaQ hv with ⟨i,t,rfl,rfl⟩|⟨x,t,rfl,rfl⟩
  ·exact wpAny_pyHash_int h
  ·exact wpAny_pyHash_str h
 eqBool:=fun hu hv h=>by
  rcases zaQ hu with ⟨i,t,rfl,rfl⟩|⟨x,t,rfl,rfl⟩
  ·rcases zaQ hv with ⟨j,u,rfl,rfl⟩|⟨y,u,rfl,rfl⟩
   ·rw[zj0] at h;exact wpAny_eqBool_int h
   ·rw[zj2] at h;exact SeqAt.EqAt.int_str i t y u _ _ _ _ h
  ·rcases zaQ hv with ⟨j,u,rfl,rfl⟩|⟨y,u,rfl,rfl⟩
   ·rw[zj3] at h;exact SeqAt.EqAt.str_int x t j u _ _ _ _ h
   ·rw[zj1] at h;exact wpAny_eqBool_str h
 «strs»:=fun k x t v h=>by
  rcases zaQ h with ⟨i,u,rfl,e⟩|⟨y,u,rfl,e⟩
  ·exact nomatch e
  ·injection e with e1 _
   subst e1
   cases v<;>rfl
theorem ze0 (prog:Program) (w:World) (i:Int) (t:Tok):(zaX prog w).is (.inl i) (.int i t)=true:=zgz i t
theorem ze1 (prog:Program) (w:World) (x:Str) (t:Tok):(zaX prog w).is (.inr x) (.str x t)=true:=zgA x t
inductive V where
 |non|bl (b:Bool)|int (i:Int)|str (x:Str)|byt (b:Array UInt8)|flt (b:UInt64)|ref (a:Addr)|ty (n:String)
 deriving DecidableEq
def RelV:V→Value→Prop
 |.non,u=>u=Value.none
 |.bl b,u=>u=Value.bool b
 |.int i,u=>∃t,u=Value.int i t
 |.str x,u=>∃t,u=Value.str x t
 |.byt b,u=>∃t,u=Value.bytes b t
 |.flt b,u=>∃t,u=Value.float b t
 |.ref a,u=>u=Value.ref a
 |.ty n,u=>u=Value.type n
abbrev Vals:List V→List Value→Prop:=Paired RelV
theorem Vals.length {xs:List V}{us:List Value}(r:Vals xs us):xs.length=us.length:=Paired.length r
theorem Vals.get:∀ {xs:List V}{us:List Value}{i:Nat}{x:V},Vals xs us→xs[i]?=some x→∃u,us[i]?=some u∧RelV x u
 |_,_,_,_,.nil,e=>by simp at e
 |_,_,0,_,.cons r _,e=>by simp at e;subst e;exact ⟨_,rfl,r⟩
 |_,_,i+1,x,.cons _ t,e=>by
  obtain ⟨u,h1,h2⟩:=Vals.get (i:=i) (x:=x) t (by simpa using e)
  exact ⟨u,by simpa using h1,h2⟩
theorem Vals.set {x:V}{u:Value}(r:RelV x u):∀ {xs:List V}{us:List Value}(i:Nat),Vals xs us→Vals (xs.set i x) (us.set i u)
 |_,_,_,.nil=>.nil
 |_,_,0,.cons _ t=>.cons r t
 |_,_,i+1,.cons q t=>.cons q (Vals.set r i t)
theorem Vals.append:∀ {xs ys:List V}{us ws:List Value},Vals xs us→Vals ys ws→Vals (xs++ys) (us++ws)
 |_,_,_,_,.nil,s=>s
 |_,_,_,_,.cons r t,s=>.cons r (Vals.append t s)
theorem Vals.take:∀ {xs:List V}{us:List Value}(n:Nat),Vals xs us→Vals (xs.take n) (us.take n)
 |_,_,0,_=>.nil
 |_,_,_+1,.nil=>.nil
 |_,_,n+1,.cons r t=>.cons r (Vals.take n t)
theorem Vals.drop:∀ {xs:List V}{us:List Value}(n:Nat),Vals xs us→Vals (xs.drop n) (us.drop n)
 |_,_,0,r=>r
 |_,_,_+1,.nil=>.nil
 |_,_,n+1,.cons _ t=>Vals.drop n t
def RelO:Option V→Option Value→Prop
 |some v,some u=>RelV v u
 |none,none=>True
 |_,_=>False
def KV {κ:Type}:List (κ×V)→List (κ×Value)→Prop:=Paired fun (p:κ×V) (q:κ×Value)=>p.1=q.1∧RelV p.2 q.2
def kV:Key→V
 |.inl i=>.int i
 |.inr x=>.str x
inductive HO where
 /-- a list -/
 |lst (xs:List V)
 /-- a tuple (never changes) -/
 |tup (xs:List V)
 /-- a dict whose keys are ints and texts;one whose keys are tuples of ints and texts (the empty one is both) -/
 |dK (kvs:List (Key×V))|dT (kvs:List (List Key×V))
 /-- a set of ints: its members,its size -/
 |set (S:Int→Bool) (n:Nat)
 /-- an instance of the class at C,its dict at dx,its attributes -/
 |ins (C dx:Addr) (fs:List (Str×V))
 /-- the dict of the instance at x -/
 |own (x:Addr)
 /-- the dict of an exception -/
 |xd (fs:List (Str×V))
 /-- a bound method,f of x -/
 |met (f x:Addr)
 /-- a range object lo,lo+1,.. below hi -/
 |rng (lo hi:Int)
 /-- a thing that is known to the object (the script;a dict while a loop walks it): read,never written while it is so -/
 |frz (o:Obj) (u:HO)
 /-- a code object's table -/
 |tbl (ps:Array Value)
 /-- any other thing,by what is true of its one object (a def of one's own: SetO a S n:=HO.ext fun h=>..) -/
 |ext (φ:Heap→Prop)
abbrev Hp:=Addr→Option HO
def upd (H:Hp) (a:Addr) (o:HO):Hp:=fun b=>if b=a then some o else H b
theorem zac {H:Hp}{a:Addr}{o:HO}:upd H a o a=some o:=by unfold upd;rw[if_pos rfl]
theorem zat {H:Hp}{a b:Addr}{o:HO}(h:b≠a):upd H a o b=H b:=by unfold upd;rw[if_neg h]
theorem zc7 {H:Hp}{a b:Addr}{o u:HO}(h:H a=some o) (h':H b=some u) (d:o≠u):a≠b:=by
 intro e;subst e;rw[h] at h';exact d (Option.some.inj h')
theorem zae {H:Hp}{a b:Addr}{o:HO}(h:H a=some o) (h':H b=none):a≠b:=by
 intro e;subst e;rw[h] at h';cases h'
section
variable (P:Program) (w:World)
def ObjOk (H:Hp) (h:Heap) (a:Addr):HO→Prop
 |.lst xs=>xs.length≤sizeLine∧∃(its:List Value) (n:Nat),Vals xs its∧h.get? a=some { cls:=.type "list",data:=.seq its.toArray n }
 |.tup xs=>xs.length≤sizeLine∧∃its:List Value,Vals xs its∧IsTup h a its.toArray
 |.dK kvs=>kvs.length≤sizeLine∧(a==sysModules)=false∧∃vs,KV kvs vs∧h.DictOf (zaX P w) a vs
 |.dT kvs=>kvs.length≤sizeLine∧(a==sysModules)=false∧∃xs:List (List Key×Addr×Value),
   Paired (fun (p:List Key×V) (q:List Key×Addr×Value)=>p.1=q.1∧H q.2.1=some (.tup (p.1.map kV))∧RelV p.2 q.2.2) kvs xs ∧
   ∃o es ep,h.get? a=some o∧o.ExactDict∧o.data=.dict es ep∧es.toList=xs.map (entryOfKey (tupleKind (zaX P w)))∧(xs.map (·.1)).Nodup
 |.set S n=>h.SetOf (intKind P w) a S n
 |.ins C dx fs=>H dx=some (.own a)∧fs.length≤1000∧dx≠a∧h.get? a=some (W.instObj C dx) ∧
   ∃mA,h.Ns1 dx mA∧(∀f,RelO (fs.lookup f) (mA f))∧PySem.Within mA (fs.map (·.1))
 |.own _=>∃o,h.get? a=some o
 |.xd fs=>∃mA,h.Ns1 a mA∧∀f,RelO (fs.lookup f) (mA f)
 |.rng lo hi=>∃t u v,h.get? a=some { cls:=.type "range",data:=.fields #[.int lo t,.int hi u,.int 1 v] }
 |.frz o u=>h.get? a=some o∧ObjOk H h a u
 |.tbl ps=>h.get? a=some { cls:=.none,data:=.fields ps }
 |.met f x=>h.get? a=some (W.methodObj (.ref f) (.ref x))
 |.ext φ=>φ h∧(∃o,h.get? a=some o)∧∀h1 h2:Heap,φ h1→(∀o,h1.get? a=some o→h2.get? a=some o)→φ h2
def HOk (H:Hp) (h:Heap):Prop:=∀a o,H a=some o→ObjOk P w H h a o
end
section
variable {P:Program}{w:World}{H H':Hp}{h h':Heap}{a:Addr}{o:HO}
theorem ObjOk.lt (x:ObjOk P w H h a o):a<h.objs.size:=by
 cases o with
 |lst xs=>obtain ⟨_,_,_,_,e⟩:=x;exact Heap.lt_size e
 |tup xs=>obtain ⟨_,_,_,p⟩:=x;exact p.lt
 |dK kvs=>obtain ⟨_,_,_,_,o,_,_,e,_⟩:=x;exact Heap.lt_size e
 |dT kvs=>obtain ⟨_,_,_,_,o,_,_,e,_⟩:=x;exact Heap.lt_size e
 |set S n=>obtain ⟨o,_,_,_,e,_⟩:=x;exact Heap.lt_size e
 |ins C dx fs=>obtain ⟨_,_,_,e,_⟩:=x;exact Heap.lt_size e
 |own y=>obtain ⟨_,e⟩:=x;exact Heap.lt_size e
 |xd fs=>obtain ⟨_,⟨_,_,_,e,_⟩,_⟩:=x;exact Heap.lt_size e
 |rng lo hi=>obtain ⟨_,_,_,e⟩:=x;exact Heap.lt_size e
 |frz ob u=>obtain ⟨e,_⟩:=x;exact Heap.lt_size e
 |tbl ps=>exact Heap.lt_size (show h.get? a=some _ from x)
 |met f y=>exact Heap.lt_size (show h.get? a=some _ from x)
 |ext φ=>obtain ⟨_,⟨_,e⟩,_⟩:=x;exact Heap.lt_size e
theorem Paired.mapP {α β:Type}{F G:α→β→Prop}:∀ {l₁:List α}{l₂:List β},Paired F l₁ l₂→(∀a b,F a b→G a b)→Paired G l₁ l₂
 |_,_,.nil,_=>.nil
 |_,_,.cons r t,f=>.cons (f _ _ r) (Paired.mapP t f)
theorem ObjOk.stay (x:ObjOk P w H h a o) (k:∀b u,(b=a∨H b=some (.own a))→h.get? b=some u→h'.get? b=some u)
  (ho:∀b,H b=some (.own a)→H' b=some (.own a)) (ht:∀b xs,H b=some (.tup xs)→H' b=some (.tup xs)):ObjOk P w H' h' a o:=by
 induction o with
 |lst xs=>obtain ⟨z,its,n,r,e⟩:=x;exact ⟨z,its,n,r,k _ _ (.inl rfl) e⟩
 |tup xs=>obtain ⟨z,its,r,ob,e,c⟩:=x;exact ⟨z,its,r,ob,k _ _ (.inl rfl) e,c⟩
 |dK kvs=>obtain ⟨z,y,vs,r,ob,es,ep,e,c⟩:=x;exact ⟨z,y,vs,r,ob,es,ep,k _ _ (.inl rfl) e,c⟩
 |dT kvs=>
  obtain ⟨z,y,xs,r,ob,es,ep,e,c⟩:=x
  exact ⟨z,y,xs,Paired.mapP r fun p q z=>⟨z.1,ht _ _ z.2.1,z.2.2⟩,ob,es,ep,k _ _ (.inl rfl) e,c⟩
 |set S n=>obtain ⟨ob,es,ep,t,e,c⟩:=x;exact ⟨ob,es,ep,t,k _ _ (.inl rfl) e,c⟩
 |ins C dx fs=>
  obtain ⟨d,z,ne,e,mA,⟨od,es,ep,e2,c⟩,r⟩:=x
  exact ⟨ho _ d,z,ne,k _ _ (.inl rfl) e,mA,⟨od,es,ep,k _ _ (.inr d) e2,c⟩,r⟩
 |own y=>obtain ⟨ob,e⟩:=x;exact ⟨ob,k _ _ (.inl rfl) e⟩
 |xd fs=>obtain ⟨mA,⟨od,es,ep,e,c⟩,r⟩:=x;exact ⟨mA,⟨od,es,ep,k _ _ (.inl rfl) e,c⟩,r⟩
 |rng lo hi=>obtain ⟨t,u,v,e⟩:=x;exact ⟨t,u,v,k _ _ (.inl rfl) e⟩
 |frz ob u ih=>obtain ⟨e,q⟩:=x;exact ⟨k _ _ (.inl rfl) e,ih q⟩
 |tbl ps=>
  have e:h.get? a=some { cls:=.none,data:=.fields ps }:=x
  show h'.get? a=some { cls:=.none,data:=.fields ps }
  exact k a _ (.inl rfl) e
 |met f y=>
  have e:h.get? a=some (W.methodObj (.ref f) (.ref y)):=x
  show h'.get? a=some (W.methodObj (.ref f) (.ref y))
  exact k a _ (.inl rfl) e
 |ext φ=>obtain ⟨p,⟨o,e⟩,st⟩:=x;exact ⟨st _ _ p fun o q=>k _ _ (.inl rfl) q,⟨o,k _ _ (.inl rfl) e⟩,st⟩
theorem HOk.lt (x:HOk P w H h) (e:H a=some o):a<h.objs.size:=(x a o e).lt
theorem HOk.fresh (x:HOk P w H h) (e:h.objs.size≤a):H a=none:=by
 cases q:H a with
 |none=>rfl
 |some u=>exact absurd (Nat.lt_of_lt_of_le (x.lt q) e) (Nat.lt_irrefl _)
theorem HOk.kept (x:HOk P w H h) (k:∀b u,h.get? b=some u→h'.get? b=some u):HOk P w H h':=fun a o e=>
 (x a o e).stay (fun b u _ q=>k b u q) (fun _ q=>q) fun _ _ q=>q
theorem HOk.laid (x:HOk P w H h) (k:∀b u,h.get? b=some u→h'.get? b=some u) (hp:h.objs.size≤a) (new:ObjOk P w (upd H a o) h' a o):HOk P w (upd H a o) h':=fun b u e=>by
 have hn:=x.fresh hp
 by_cases hb:b=a
 ·subst hb;rw[zac] at e;cases e;exact new
 ·rw[zat hb] at e
  exact (x b u e).stay (fun c v _ q=>k c v q) (fun c q=>by rw[zat (zae q hn)];exact q) fun c xs q=>by rw[zat (zae q hn)];exact q
end
def Rd (H:Hp) (a:Addr) (u:HO):Prop:=H a=some u∨∃o,H a=some (.frz o u)
theorem Rd.ok {P:Program}{w:World}{H:Hp}{h:Heap}{a:Addr}{u:HO}(r:Rd H a u) (x:HOk P w H h):ObjOk P w H h a u:=by
 rcases r with r|⟨o,r⟩
 ·exact x a u r
 ·obtain ⟨_,q⟩:=x a _ r
  exact q
def Mut:Option HO→Prop
 |some (.lst _)=>True
 |some (.dK _)=>True
 |some (.dT _)=>True
 |some (.set _ _)=>True
 |some (.ins _ _ _)=>True
 |some (.ext _)=>True
 |_=>False
section
variable {P:Program}{w:World}{H:Hp}{h h':Heap}{x e:Addr}{o':HO}
theorem HOk.write (ok:HOk P w H h) (mu:Mut (H x)) (he:e=x∨H e=some (.own x)) (k:∀b u,b≠e→h.get? b=some u→h'.get? b=some u) (heo:∃u,h'.get? e=some u)
  (new:ObjOk P w (upd H x o') h' x o'):HOk P w (upd H x o') h':=fun b u q=>by
 have nown:∀c y,H c=some (.own y)→c≠x:=fun c y r z=>by subst z;rw[r] at mu;exact mu
 have ntup:∀c xs,H c=some (.tup xs)→c≠x:=fun c xs r z=>by subst z;rw[r] at mu;exact mu
 by_cases hb:b=x
 ·subst hb;rw[zac] at q;cases q;exact new
 ·rw[zat hb] at q
  by_cases hbe:b=e
  ·have q':H b=some (.own x):=by
    rcases he with z|z
    ·exact absurd (hbe.trans z) hb
    ·rw[hbe];exact z
   rw[q] at q';cases q'
   obtain ⟨v,hv⟩:=heo
   exact ⟨v,by rw[hbe];exact hv⟩
  ·refine (ok b u q).stay (fun c v hc r=>k c v ?_ r) (fun c r=>by rw[zat (nown c b r)];exact r) fun c xs r=>by rw[zat (ntup c xs r)];exact r
   rcases hc with rfl|hc
   ·exact hbe
   ·rintro rfl
    rcases he with z|z
    ·exact nown c b hc z
    ·rw[hc] at z;cases z;exact hb rfl
end
structure Un (fs ex:List Addr) (H H':Hp) (h h':Heap):Prop where
 keep:∀b o,h.get? b=some o→H b=none→b∉fs→b∉ex→h'.get? b=some o
 slot:∀b o,h.get? b=some o→H b=none→b∈fs→b∉ex→∃sl,h'.get? b=some { o with slots:=sl }
 free:∀b o,h.get? b=some o→H b=none→b∉ex→H' b=none
 there:∀b o,h.get? b=some o→b∉ex→∃o',h'.get? b=some o'
 tups:∀b xs,H b=some (.tup xs)→H' b=some (.tup xs)
 frzs:∀b o u,H b=some (.frz o u)→H' b=some (.frz o u)
 tbls:∀b ps,H b=some (.tbl ps)→∃more,H' b=some (.tbl (ps++more))
section
variable {fs fs' ex ex':List Addr}{H H1 H2:Hp}{h h1 h2 h':Heap}{a x e:Addr}{o:HO}
theorem Un.any (u:Un fs ex H H1 h h1){b:Addr}{ob:Obj}(q:h.get? b=some ob) (n:H b=none) (hx:b∉ex):∃sl,h1.get? b=some { ob with slots:=sl }:=by
 by_cases hb:b∈fs
 ·exact u.slot b ob q n hb hx
 ·exact ⟨ob.slots,u.keep b ob q n hb hx⟩
theorem Un.trans (a:Un fs ex H H1 h h1) (b:Un fs ex H1 H2 h1 h2):Un fs ex H H2 h h2 where
 keep:=fun c ob q n hc hx=>b.keep c ob (a.keep c ob q n hc hx) (a.free c ob q n hx) hc hx
 slot:=fun c ob q n hc hx=>by
  obtain ⟨sl,e1⟩:=a.slot c ob q n hc hx
  obtain ⟨sl',e2⟩:=b.slot c _ e1 (a.free c ob q n hx) hc hx
  exact ⟨sl',e2⟩
 free:=fun c ob q n hx=>by
  obtain ⟨o',e1⟩:=a.there c ob q hx
  exact b.free c o' e1 (a.free c ob q n hx) hx
 there:=fun c ob q hx=>by
  obtain ⟨o',e1⟩:=a.there c ob q hx
  exact b.there c o' e1 hx
 tups:=fun c xs q=>b.tups c xs (a.tups c xs q)
 frzs:=fun c ob xs q=>b.frzs c ob xs (a.frzs c ob xs q)
 tbls:=fun c ps q=>by
  obtain ⟨m1,e1⟩:=a.tbls c ps q
  obtain ⟨m2,e2⟩:=b.tbls c _ e1
  exact ⟨m1++m2,by rw[e2,Array.append_assoc]⟩
theorem Un.kept (k:∀b u,h.get? b=some u→h'.get? b=some u):Un fs ex H H h h':=
 ⟨fun b ob q _ _ _=>k b ob q,fun b ob q _ _ _=>⟨ob.slots,k b ob q⟩,fun _ _ _ n _=>n,fun b ob q _=>⟨ob,k b ob q⟩,fun _ _ q=>q,fun _ _ _ q=>q,fun _ ps q=>⟨#[],by rw[q];simp⟩⟩
theorem Un.refl:Un fs ex H H h h:=Un.kept fun _ _ q=>q
theorem Un.laid (k:∀b u,h.get? b=some u→h'.get? b=some u) (hp:h.objs.size≤a) (hn:H a=none):Un fs ex H (upd H a o) h h' where
 keep:=fun b u q _ _ _=>k b u q
 slot:=fun b u q _ _ _=>⟨u.slots,k b u q⟩
 free:=fun b u q n _=>by rw[zat (Nat.ne_of_lt (Nat.lt_of_lt_of_le (Heap.lt_size q) hp))];exact n
 there:=fun b u q _=>⟨u,k b u q⟩
 tups:=fun b xs q=>by rw[zat (zae q hn)];exact q
 frzs:=fun b u xs q=>by rw[zat (zae q hn)];exact q
 tbls:=fun b ps q=>⟨#[],by rw[zat (zae q hn),q];simp⟩
theorem Un.write (mu:Mut (H x)) (he:e=x∨H e=some (.own x)) (k:∀b u,b≠e→h.get? b=some u→h'.get? b=some u) (heo:∃u,h'.get? e=some u):Un fs ex H (upd H x o) h h':=by
 have hx:∀b,H b=none→b≠x:=fun b n z=>by subst z;rw[n] at mu;exact mu
 have hb:∀b,H b=none→b≠e:=fun b n z=>by
  subst z
  rcases he with r|r
  ·exact hx b n r
  ·rw[n] at r;cases r
 have hm:∀b u,H b=some u→¬Mut (some u)→b≠x:=fun b u q nm z=>by subst z;rw[q] at mu;exact nm mu
 refine ⟨fun b u q n _ _=>k b u (hb b n) q,fun b u q n _ _=>⟨u.slots,k b u (hb b n) q⟩,fun b u q n _=>by rw[zat (hx b n)];exact n,fun b u q _=>?_,
  fun b xs q=>by rw[zat (hm b _ q fun z=>z)];exact q,fun b u xs q=>by rw[zat (hm b _ q fun z=>z)];exact q,fun b ps q=>⟨#[],by rw[zat (hm b _ q fun z=>z),q];simp⟩⟩
 by_cases hbe:b=e
 ·subst hbe;exact heo
 ·exact ⟨u,k b u hbe q⟩
end
def trk (h:Heap) (H:Hp):List Addr:=(List.range h.objs.size).filter fun a=>(H a).isSome
def hidT (h:Heap) (H:Hp):Heap:=W.hideAll h (trk h H)
theorem zgB (h:Heap) (H:Hp):(hidT h H).objs.size=h.objs.size:=W.hideAll_size _ _
theorem zhW {h:Heap}{H:Hp}{b:Addr}{o:Obj}(e:h.get? b=some o) (n:H b=none):(hidT h H).get? b=some o:=
 W.hideAll_get _ e fun hm=>by
  have q:(H b).isSome=true:=(List.mem_filter.mp hm).2
  rw[n] at q;simp at q
theorem ziY {h:Heap}{H:Hp}{b:Addr}{o:Obj}(e:(hidT h H).get? b=some o):h.get? b=some o∧H b=none:=by
 have e':h.get? b=some o:=W.of_hideAll (trk h H) e
 refine ⟨e',?_⟩
 cases q:H b with
 |none=>rfl
 |some x=>
  have hm:b∈trk h H:=List.mem_filter.mpr ⟨List.mem_range.mpr (Heap.lt_size e'),by simp[q]⟩
  have z:(hidT h H).get? b=none:=W.hideAll_none (trk h H) hm
  rw[z] at e;cases e
structure Mod (K:W.Frag) (mg:Str→Option Value) (base:Heap):Prop where
 kin:K.In base
 glob:base.Ns mainGlobals mg
 blt:∃mb,base.Ns builtinsNs mb∧∀x:Str,x≠"__name__"→mb x=bootBuiltins x
 nolimit:base.NoLimit
structure Cx where
 prog:Program
 w:World
 K:W.Frag
 mg:Str→Option Value
 base:Heap
 A:Around
 N:List Str
 s₀:Shared
 H₀:Hp
 env:Env
 outer:List Env
 stack:List Env
 ex:List Addr
 fn:Str→Bool
 calm:Bool
 pn:List (Addr×Obj)
 xe:Value→Shared→Prop
 t0:Nat
def frs (l:List Env):List Addr:=l.filterMap (·.frame)
abbrev Cx.fs (X:Cx):List Addr:=frs X.outer
def Vis (sc:Scope) (x:Str):Prop:=sc.names.lookup x=some .local∨sc.names.lookup x=some .cell∨sc.names.lookup x=some .free
def Loc (sc:Scope) (x:Str):Prop:=sc.names.lookup x=some .local∨sc.names.lookup x=some .cell
def Look (env:Env) (h:Heap) (m:Str→Option Value) (x:Str) (u:Value):Prop:=
 (env.kindOf x=some .local∧m x=some u)∨((env.kindOf x=some .cell∨env.kindOf x=some .free)∧∃c,env.cells.lookup x=some c∧h.IsCell c (some u))
structure Cx.Ok (X:Cx):Prop where
 mod:Mod X.K X.mg X.base
 kind:X.env.scope.kind=.function
 glob:X.env.globals=mainGlobals
 blt:X.env.builtins=builtinsNs
 above:X.s₀.heap.objs.size≤X.env.locals
 inj:∀x y c,X.env.cells.lookup x=some c→X.env.cells.lookup y=some c→x=y
 has:∀x,(X.env.kindOf x=some .cell∨X.env.kindOf x=some .free)→∃c,X.env.cells.lookup x=some c
 cab:∀x c,X.fn x=true→X.env.cells.lookup x=some c→X.s₀.heap.objs.size≤c
 hd:X.calm=true→X.A.handled=none
 frames:X.A.frames=some X.stack
 stk:X.stack=X.outer∨(X.stack=X.env::X.outer∧X.env.frame=some X.env.locals)
 exf:∀b∈X.ex,b≠X.env.locals∧∀x c,X.env.cells.lookup x=some c→c≠b
 bs:∀b o,X.base.get? b=some o→X.s₀.heap.get? b=some o∧X.H₀ b=none
 bsz:X.base.objs.size≤X.s₀.heap.objs.size
 noex:∀b o,X.base.get? b=some o→b∉X.ex
 exfs:∀b∈X.ex,b∉X.fs
 funs:X.s₀.heap.FunFrames X.base X.outer
 frf:∀b∈X.fs,X.H₀ b=none
structure Inv (X:Cx) (pins:List (Addr×Obj)) (σ:List (Option V)) (H:Hp) (s:Shared):Prop where
 ok:X.Ok
 os:s.os=X.s₀.os
 bare:AllBare s.gens
 base:Un X.fs X.ex X.H₀ H X.s₀.heap s.heap
 loc:∃m,s.heap.Ns X.env.locals m∧∀(i:Nat) (x:Str) (v:V),X.N[i]?=some x→σ[i]?=some (some v)→Vis X.env.scope x→∃u,RelV v u∧Look X.env s.heap m x u
 cell:∀x c,X.env.cells.lookup x=some c→∃v,s.heap.IsCell c v
 free:H X.env.locals=none
 freeC:∀x c,X.env.cells.lookup x=some c→H c=none
 pin:∀p∈X.pn++pins,s.heap.get? p.1=some p.2∧H p.1=none∧p.1≠X.env.locals∧p.1∉X.fs∧∀v,p.2.data≠.cell v
 hok:HOk X.prog X.w H s.heap
 len:σ.length=X.N.length
 tk:X.t0≤s.toks
section
variable {X:Cx}{pins:List (Addr×Obj)}{σ:List (Option V)}{H H':Hp}{s:Shared}{h':Heap}
theorem Cx.Ok.nofr (ok:X.Ok){b:Addr}{o:Obj}(e:X.base.get? b=some o):b∉X.fs:=fun hb=>by
 have:=(ok.funs.mem hb).1
 rw[e] at this;cases this
theorem Inv.bs (I:Inv X pins σ H s):∀b o,X.base.get? b=some o→s.heap.get? b=some o∧H b=none:=fun b o e=>
 ⟨I.base.keep b o (I.ok.bs b o e).1 (I.ok.bs b o e).2 (I.ok.nofr e) (I.ok.noex b o e),I.base.free b o (I.ok.bs b o e).1 (I.ok.bs b o e).2 (I.ok.noex b o e)⟩
theorem Inv.bk (I:Inv X pins σ H s):∀b o,X.base.get? b=some o→s.heap.get? b=some o:=fun b o e=>(I.bs b o e).1
theorem Inv.mod (I:Inv X pins σ H s):Mod X.K X.mg X.base:=I.ok.mod
theorem Inv.kIn (I:Inv X pins σ H s):X.K.In s.heap:=I.ok.mod.kin.keeps I.bk
theorem Inv.lt (I:Inv X pins σ H s):X.env.locals<s.heap.objs.size:=let ⟨_,hn,_⟩:=I.loc;hn.lt
theorem Inv.sz (I:Inv X pins σ H s):X.s₀.heap.objs.size≤s.heap.objs.size:=Nat.le_trans I.ok.above (Nat.le_of_lt I.lt)
theorem Inv.nofs (I:Inv X pins σ H s){a:Addr}(h:s.heap.objs.size≤a):a∉X.fs:=fun hb=>by
 obtain ⟨_,o,ho,_⟩:=I.ok.funs.mem hb
 exact absurd (Nat.lt_of_lt_of_le (Heap.lt_size ho) (Nat.le_trans I.sz h)) (Nat.lt_irrefl _)
theorem Inv.cne (I:Inv X pins σ H s):∀x c,X.env.cells.lookup x=some c→c≠X.env.locals:=fun x c e z=>by
 obtain ⟨v,o,ho,hd⟩:=I.cell x c e
 obtain ⟨m,⟨o',es,ep,ho',hd',_⟩,_⟩:=I.loc
 rw[z,ho'] at ho;cases ho;rw[hd'] at hd;cases hd
theorem Inv.funs (I:Inv X pins σ H s):s.heap.FunFrames X.base X.outer:=by
 have all:∀(l:List Env),(∀b∈frs l,b∈X.fs)→X.s₀.heap.FunFrames X.base l→s.heap.FunFrames X.base l:=by
  intro l
  induction l with
  |nil=>intro _ _;trivial
  |cons env r ih=>
   intro hs hl
   obtain ⟨hk,⟨L,o,hf,hn,ho,hd⟩,hr⟩:=hl
   have hL:L∈X.fs:=hs L (by unfold frs;rw[List.filterMap_cons,hf];exact List.mem_cons_self)
   obtain ⟨sl,e⟩:=I.base.slot L o ho (I.ok.frf L hL) hL fun z=>I.ok.exfs L z hL
   exact ⟨hk,⟨L,_,hf,hn,e,hd⟩,ih (fun b hb=>hs b (by unfold frs;rw[List.filterMap_cons,hf];exact List.mem_cons_of_mem _ hb)) hr⟩
 exact all X.outer (fun _ hb=>hb) I.ok.funs
theorem Inv.stack (I:Inv X pins σ H s):s.heap.FunFrames X.base X.stack:=by
 rcases I.ok.stk with e|⟨e,hf⟩
 ·rw[e];exact I.funs
 ·rw[e]
  obtain ⟨m,hn,_⟩:=I.loc
  refine .cons (by rw[I.ok.kind];decide) hf hn ?_ I.funs
  exact Heap.get?_none_of_le (Nat.le_trans I.ok.bsz I.ok.above)
theorem Inv.stkSub (I:Inv X pins σ H s):∀b∈frs X.stack,b∈X.env.locals::X.fs:=fun b hb=>by
 rcases I.ok.stk with e|⟨e,hf⟩
 ·rw[e] at hb;exact List.mem_cons_of_mem _ hb
 ·rw[e] at hb
  unfold frs at hb
  rw[List.filterMap_cons,hf] at hb
  exact hb
theorem Inv.stkFree (I:Inv X pins σ H s):∀b∈frs X.stack,H b=none:=fun b hb=>by
 rcases List.mem_cons.mp (I.stkSub b hb) with e|hb
 ·rw[e];exact I.free
 ·obtain ⟨_,o,ho,_⟩:=I.ok.funs.mem hb
  exact I.base.free b o ho (I.ok.frf b hb) fun z=>I.ok.exfs b z hb
theorem Inv.step {g':Array GenState}{t':Nat}{d':Drawn}{ch:List Addr}(I:Inv X pins σ H s)
  (hch:∀b∈ch,(b∈X.ex∨X.s₀.heap.objs.size≤b)∧b≠X.env.locals∧(∀x c,X.env.cells.lookup x=some c→c≠b)∧∀p∈X.pn++pins,p.1≠b)
  (keep:∀b o,b≠X.env.locals→b∉X.fs→b∉ch→s.heap.get? b=some o→H b=none→h'.get? b=some o)
  (slot:∀b o,b≠X.env.locals→b∈X.fs→b∉ch→s.heap.get? b=some o→H b=none→∃sl,h'.get? b=some { o with slots:=sl }) (free:∀b o,b∉ch→s.heap.get? b=some o→H b=none→H' b=none)
  (there:∀b o,b∉ch→s.heap.get? b=some o→∃o',h'.get? b=some o')
  (tups:∀b xs,H b=some (.tup xs)→H' b=some (.tup xs)) (frzs:∀b o u,H b=some (.frz o u)→H' b=some (.frz o u)) (tbls:∀b ps,H b=some (.tbl ps)→∃more,H' b=some (.tbl (ps++more)))
  (ns:∀m,s.heap.Ns X.env.locals m→h'.Ns X.env.locals m) (hok:HOk X.prog X.w H' h') (hg:AllBare g') (ht:X.t0≤t':=by first|assumption|exact Inv.tk (by assumption)|(have q:=Inv.tk (by assumption);omega)) :
  Inv X pins σ H' { s with heap:=h',gens:=g',drawn:=d',toks:=t' }:=by
 have neL:∀b o,X.s₀.heap.get? b=some o→b≠X.env.locals:=fun b o e=>Nat.ne_of_lt (Nat.lt_of_lt_of_le (Heap.lt_size e) I.ok.above)
 have neC:∀b o,X.s₀.heap.get? b=some o→b∉X.ex→b∉ch:=fun b o e hx hb=>by
  rcases (hch b hb).1 with z|z
  ·exact hx z
  ·exact absurd (Nat.lt_of_lt_of_le (Heap.lt_size e) z) (Nat.lt_irrefl _)
 have cellK:∀x c,X.env.cells.lookup x=some c→∀v,s.heap.IsCell c v→h'.IsCell c v:=fun x c e v ⟨o,ho,hd⟩=>by
  have nch:c∉ch:=fun z=>(hch c z).2.2.1 x c e rfl
  by_cases hc:c∈X.fs
  ·obtain ⟨sl,q⟩:=slot c o (I.cne x c e) hc nch ho (I.freeC x c e)
   exact ⟨_,q,hd⟩
  ·exact ⟨o,keep c o (I.cne x c e) hc nch ho (I.freeC x c e),hd⟩
 refine ⟨I.ok,I.os,hg,⟨fun b o e n hb hx=>?_,fun b o e n hb hx=>?_,fun b o e n hx=>?_,fun b o e hx=>?_,fun b xs e=>tups b xs (I.base.tups b xs e),fun b o xs e=>frzs b o xs (I.base.frzs b o xs e),fun b ps e=>?_⟩,?_,fun x c e=>?_,?_,fun x c e=>?_,fun p hp=>?_,hok,I.len,ht⟩
 ·exact keep b o (neL b o e) hb (neC b o e hx) (I.base.keep b o e n hb hx) (I.base.free b o e n hx)
 ·obtain ⟨sl,e1⟩:=I.base.slot b o e n hb hx
  obtain ⟨sl',e2⟩:=slot b _ (neL b o e) hb (neC b o e hx) e1 (I.base.free b o e n hx)
  exact ⟨sl',e2⟩
 ·obtain ⟨o',e1⟩:=I.base.there b o e hx
  exact free b o' (neC b o e hx) e1 (I.base.free b o e n hx)
 ·obtain ⟨o',e1⟩:=I.base.there b o e hx
  exact there b o' (neC b o e hx) e1
 ·obtain ⟨m1,e1⟩:=I.base.tbls b ps e
  obtain ⟨m2,e2⟩:=tbls b _ e1
  exact ⟨m1++m2,by rw[e2,Array.append_assoc]⟩
 ·obtain ⟨m,hn,hl⟩:=I.loc
  refine ⟨m,ns m hn,fun i x v e1 e2 e3=>?_⟩
  obtain ⟨u,r,l⟩:=hl i x v e1 e2 e3
  refine ⟨u,r,?_⟩
  rcases l with l|⟨k,c,e,z⟩
  ·exact .inl l
  ·exact .inr ⟨k,c,e,cellK x c e _ z⟩
 ·obtain ⟨v,z⟩:=I.cell x c e
  exact ⟨v,cellK x c e v z⟩
 ·obtain ⟨m,⟨o,_,_,ho,_⟩,_⟩:=I.loc
  exact free _ o (fun z=>(hch _ z).2.1 rfl) ho I.free
 ·obtain ⟨v,o,ho,hd⟩:=I.cell x c e
  exact free c o (fun z=>(hch c z).2.2.1 x c e rfl) ho (I.freeC x c e)
 ·obtain ⟨e,n,ne,nf,d⟩:=I.pin p hp
  have nch:p.1∉ch:=fun z=>(hch p.1 z).2.2.2 p hp rfl
  exact ⟨keep p.1 p.2 ne nf nch e n,free p.1 p.2 nch e n,ne,nf,d⟩
theorem Inv.un {t':Nat}(I:Inv X pins σ H s) (u:Un X.fs [] H H' s.heap h') (hok:HOk X.prog X.w H' h') (ht:X.t0≤t':=by first|assumption|exact Inv.tk (by assumption)|(have q:=Inv.tk (by assumption);omega)):Inv X pins σ H' { s with heap:=h',toks:=t' }:=by
 obtain ⟨m,⟨o,es,ep,ho,r⟩,_⟩:=id I.loc
 obtain ⟨sl,hL⟩:=u.any ho I.free (by simp)
 exact I.step (g':=s.gens) (d':=s.drawn) (ch:=[]) (fun _ z=>nomatch z) (fun b o _ hb _ e n=>u.keep b o e n hb (by simp)) (fun b o _ hb _ e n=>u.slot b o e n hb (by simp)) (fun b o _ e n=>u.free b o e n (by simp)) (fun b o _ e=>u.there b o e (by simp)) u.tups u.frzs u.tbls (fun m' hm=>by
  obtain ⟨o',es',ep',ho',r'⟩:=hm
  rw[ho] at ho';cases ho'
  exact ⟨_,es',ep',hL,r'⟩) hok I.bare ht
theorem Inv.call {g':Array GenState}{t':Nat}{d':Drawn}{ch:List Addr}(I:Inv X pins σ H s) (u:Un (frs X.stack) ch H H' s.heap h') (hok:HOk X.prog X.w H' h') (hg:AllBare g')
  (hch:∀b∈ch,(b∈X.ex∨X.s₀.heap.objs.size≤b)∧b≠X.env.locals∧(∀x c,X.env.cells.lookup x=some c→c≠b)∧∀p∈X.pn++pins,p.1≠b) (ht:X.t0≤t':=by first|assumption|exact Inv.tk (by assumption)|(have q:=Inv.tk (by assumption);omega)) :
  Inv X pins σ H' { s with heap:=h',gens:=g',drawn:=d',toks:=t' }:=by
 obtain ⟨m,⟨o,es,ep,ho,r⟩,_⟩:=id I.loc
 obtain ⟨sl,hL⟩:=u.any ho I.free fun z=>(hch _ z).2.1 rfl
 exact I.step (ch:=ch) hch (fun b o hL hb hc e n=>u.keep b o e n (fun z=>(List.mem_cons.mp (I.stkSub b z)).elim hL hb) hc) (fun b o _ _ hc e n=>u.any e n hc) (fun b o hc e n=>u.free b o e n hc) (fun b o hc e=>u.there b o e hc) u.tups u.frzs u.tbls (fun m' hm=>by
  obtain ⟨o',es',ep',ho',r'⟩:=hm
  rw[ho] at ho';cases ho'
  exact ⟨_,es',ep',hL,r'⟩) hok hg ht
theorem Inv.turned {t':Nat}{it:Addr}(I:Inv X pins σ H s) (k:∀b o,b≠it→s.heap.get? b=some o→h'.get? b=some o) (hn:H it=none) (hL:it≠X.env.locals)
  (h1:it∈X.ex∨X.s₀.heap.objs.size≤it) (h2:∀x c,X.env.cells.lookup x=some c→c≠it) (h3:∀p∈X.pn++pins,p.1≠it) (ht:X.t0≤t':=by first|assumption|exact Inv.tk (by assumption)|(have q:=Inv.tk (by assumption);omega)):Inv X pins σ H { s with heap:=h',toks:=t' }:=by
 have nit:∀b u,H b=some u→b≠it:=fun b u e z=>by rw[z,hn] at e;cases e
 refine I.step (g':=s.gens) (d':=s.drawn) (ch:=[it]) (fun b hb=>?_) (fun b o _ _ hc e _=>k b o (fun z=>hc (by simp[z])) e) (fun b o _ _ hc e _=>⟨o.slots,k b o (fun z=>hc (by simp[z])) e⟩) (fun _ _ _ _ n=>n)
  (fun b o hc e=>⟨o,k b o (fun z=>hc (by simp[z])) e⟩) (fun _ _ e=>e) (fun _ _ _ e=>e) (fun b ps e=>⟨#[],by rw[e];simp⟩) (fun m hm=>?_) (fun b u e=>?_) I.bare ht
 ·have e:b=it:=by simpa using hb
  subst e
  exact ⟨h1,hL,h2,h3⟩
 ·obtain ⟨o,es,ep,ho,r⟩:=hm
  exact ⟨o,es,ep,k _ o (Ne.symm hL) ho,r⟩
 ·refine (I.hok b u e).stay (fun c v hc q=>k c v ?_ q) (fun _ q=>q) fun _ _ q=>q
  rcases hc with z|z
  ·rw[z];exact nit b u e
  ·exact nit c _ z
theorem Inv.tok (I:Inv X pins σ H s) (t:Nat) (ht:X.t0≤t:=by first|assumption|exact Inv.tk (by assumption)|(have q:=Inv.tk (by assumption);omega)):Inv X pins σ H { s with toks:=t }:=I.un (h':=s.heap) (t':=t) Un.refl I.hok ht
theorem Inv.kept {t':Nat}(I:Inv X pins σ H s) (k:∀b u,s.heap.get? b=some u→h'.get? b=some u) (ht:X.t0≤t':=by first|assumption|exact Inv.tk (by assumption)|(have q:=Inv.tk (by assumption);omega)):Inv X pins σ H { s with heap:=h',toks:=t' }:=I.un (Un.kept k) (I.hok.kept k) ht
theorem Inv.laid {a:Addr}{o:HO}{t':Nat}(I:Inv X pins σ H s) (k:∀b u,s.heap.get? b=some u→h'.get? b=some u) (hp:s.heap.objs.size≤a) (new:ObjOk X.prog X.w (upd H a o) h' a o) (ht:X.t0≤t':=by first|assumption|exact Inv.tk (by assumption)|(have q:=Inv.tk (by assumption);omega)) :
  Inv X pins σ (upd H a o) { s with heap:=h',toks:=t' }:=I.un (Un.laid k hp (I.hok.fresh hp)) (I.hok.laid k hp new) ht
theorem Inv.write {x e:Addr}{o:HO}{t':Nat}(I:Inv X pins σ H s) (mu:Mut (H x)) (he:e=x∨H e=some (.own x)) (k:∀b u,b≠e→s.heap.get? b=some u→h'.get? b=some u) (heo:∃u,h'.get? e=some u)
  (new:ObjOk X.prog X.w (upd H x o) h' x o) (ht:X.t0≤t':=by first|assumption|exact Inv.tk (by assumption)|(have q:=Inv.tk (by assumption);omega)):Inv X pins σ (upd H x o) { s with heap:=h',toks:=t' }:=I.un (Un.write mu he k heo) (I.hok.write mu he k heo new) ht
theorem Inv.pins_of {pins':List (Addr×Obj)}(I:Inv X pins σ H s) (h:∀p∈pins',s.heap.get? p.1=some p.2∧H p.1=none∧p.1≠X.env.locals∧p.1∉X.fs∧∀v,p.2.data≠.cell v):Inv X pins' σ H s:=
 ⟨I.ok,I.os,I.bare,I.base,I.loc,I.cell,I.free,I.freeC,fun p hp=>(List.mem_append.mp hp).elim (fun z=>I.pin p (List.mem_append_left _ z)) (h p),I.hok,I.len,I.tk⟩
theorem zdO {N:List Str}(hN:N.Nodup){i j:Nat}{x:Str}(a:N[i]?=some x) (b:N[j]?=some x):i=j:=by
 obtain ⟨h1,e1⟩:=List.getElem?_eq_some_iff.mp a
 obtain ⟨h2,e2⟩:=List.getElem?_eq_some_iff.mp b
 exact (List.getElem_inj hN).mp (e1.trans e2.symm)
theorem zes {M:Model}{A:Around}{E:Value→Shared→Prop}{i:Nat}{x:Str}{v:V}{u:Value}{Q:Unit→Shared→Prop}(I:Inv X pins σ H s) (hN:X.N.Nodup) (hi:X.N[i]?=some x) (hx:Loc X.env.scope x) (r:RelV v u)
  (h:∀s',Inv X pins (σ.set i (some v)) H s'→(∃a,Heap.SameBut a s.heap s'.heap∧(a=X.env.locals∨X.env.cells.lookup x=some a))→Q () s') (hf:X.fn x=true∨X.env.scope.names.lookup x=some .local:=by first|exact .inl rfl|exact .inr rfl|assumption):wpAny M A (storeName X.env x u) Q E s:=by
 obtain ⟨m,hn,hl⟩:=id I.loc
 have hcls:(X.env.scope.kind==.class || (X.env.scope.kind==.module&&X.env.locals != X.env.globals))=false:=by rw[I.ok.kind];rfl
 have hiσ:i<σ.length:=by rw[I.len];exact (List.getElem?_eq_some_iff.mp hi).1
 have cne:=I.cne
 have tracked:∀ {a:Addr} {h':Heap},(∃o,s.heap.get? a=some o∧H a=none)→Heap.SameBut a s.heap h'→HOk X.prog X.w H h':=fun {a h'} ha hs b ob e=>by
  obtain ⟨_,_,hfree⟩:=ha
  refine (I.hok b ob e).stay (fun c w' hc q=>(hs.2 c ?_).trans q) (fun _ q=>q) fun _ _ q=>q
  rintro rfl
  rcases hc with rfl|hc
  ·rw[hfree] at e;cases e
  ·rw[hfree] at hc;cases hc
 rcases hx with hk|hk
 ·refine wpAny_storeName_local hk hn (fun h' hn' hs=>?_) hcls
  obtain ⟨oL,_,_,hoL,_⟩:=id hn
  refine h _ ⟨I.ok,I.os,I.bare,⟨fun b o e n hb hx=>?_,fun b o e n hb hx=>?_,I.base.free,fun b o e hx=>?_,I.base.tups,I.base.frzs,I.base.tbls⟩,⟨_,hn',fun j y v' e1 e2 e3=>?_⟩,fun y c e=>?_,I.free,I.freeC,fun p hp=>?_,tracked ⟨oL,hoL,I.free⟩ hs,by simpa using I.len,(by have q:=I.tk;first|exact q|exact Nat.le_succ_of_le q)⟩ ⟨_,hs,.inl rfl⟩
  ·exact (hs.2 b (Nat.ne_of_lt (Nat.lt_of_lt_of_le (Heap.lt_size e) I.ok.above))).trans (I.base.keep b o e n hb hx)
  ·obtain ⟨sl,e1⟩:=I.base.slot b o e n hb hx
   exact ⟨sl,(hs.2 b (Nat.ne_of_lt (Nat.lt_of_lt_of_le (Heap.lt_size e) I.ok.above))).trans e1⟩
  ·obtain ⟨o',e1⟩:=I.base.there b o e hx
   exact ⟨o',(hs.2 b (Nat.ne_of_lt (Nat.lt_of_lt_of_le (Heap.lt_size e) I.ok.above))).trans e1⟩
  ·by_cases hj:j=i
   ·subst hj
    rw[hi] at e1;cases e1
    rw[List.getElem?_set_self hiσ] at e2
    cases e2
    exact ⟨u,r,.inl ⟨hk,by simp⟩⟩
   ·rw[List.getElem?_set_ne (Ne.symm hj)] at e2
    obtain ⟨u',r',q⟩:=hl j y v' e1 e2 e3
    refine ⟨u',r',?_⟩
    rcases q with ⟨k,e⟩|⟨k,c,e,z⟩
    ·refine .inl ⟨k,?_⟩
     have:y≠x:=fun e=>hj (zdO hN e1 (e ▸ hi))
     simp[this,e]
    ·exact .inr ⟨k,c,e,z.sameBut hs (cne y c e)⟩
  ·obtain ⟨w',z⟩:=I.cell y c e
   exact ⟨w',z.sameBut hs (cne y c e)⟩
  ·obtain ⟨e,n,ne,nf,d⟩:=I.pin p hp
   exact ⟨(hs.2 p.1 ne).trans e,n,ne,nf,d⟩
 ·have hfn:X.fn x=true:=by
   rcases hf with z|z
   ·exact z
   ·rw[z] at hk;cases hk
  obtain ⟨c,hc⟩:=I.ok.has x (.inl hk)
  obtain ⟨w',z⟩:=I.cell x c hc
  refine wpAny_storeName_cell I.ok.kind hk hc z (fun h' hc' hs=>?_)
  obtain ⟨oc,hoc,hocd⟩:=id z
  refine h { s with heap:=h' } ⟨I.ok,I.os,I.bare,⟨fun b o e n hb hx=>?_,fun b o e n hb hx=>?_,I.base.free,fun b o e hx=>?_,I.base.tups,I.base.frzs,I.base.tbls⟩,⟨m,hn.sameBut hs (Ne.symm (cne x c hc)),fun j y v' e1 e2 e3=>?_⟩,fun y c' e=>?_,I.free,I.freeC,fun p hp=>?_,tracked ⟨oc,hoc,I.freeC x c hc⟩ hs,by simpa using I.len,(by have q:=I.tk;first|exact q|exact Nat.le_succ_of_le q)⟩ ⟨c,hs,.inr hc⟩
  ·exact (hs.2 b (Nat.ne_of_lt (Nat.lt_of_lt_of_le (Heap.lt_size e) (I.ok.cab x c hfn hc)))).trans (I.base.keep b o e n hb hx)
  ·obtain ⟨sl,e1⟩:=I.base.slot b o e n hb hx
   exact ⟨sl,(hs.2 b (Nat.ne_of_lt (Nat.lt_of_lt_of_le (Heap.lt_size e) (I.ok.cab x c hfn hc)))).trans e1⟩
  ·obtain ⟨o',e1⟩:=I.base.there b o e hx
   exact ⟨o',(hs.2 b (Nat.ne_of_lt (Nat.lt_of_lt_of_le (Heap.lt_size e) (I.ok.cab x c hfn hc)))).trans e1⟩
  ·by_cases hj:j=i
   ·subst hj
    rw[hi] at e1;cases e1
    rw[List.getElem?_set_self hiσ] at e2
    cases e2
    exact ⟨u,r,.inr ⟨.inl hk,c,hc,hc'⟩⟩
   ·rw[List.getElem?_set_ne (Ne.symm hj)] at e2
    obtain ⟨u',r',q⟩:=hl j y v' e1 e2 e3
    refine ⟨u',r',?_⟩
    rcases q with q|⟨k,c',e,z'⟩
    ·exact .inl q
    ·refine .inr ⟨k,c',e,z'.sameBut hs ?_⟩
     rintro rfl
     exact hj (zdO hN e1 (I.ok.inj _ _ _ e hc ▸ hi))
  ·by_cases hcc:c'=c
   ·subst hcc;exact ⟨_,hc'⟩
   ·obtain ⟨w2,z2⟩:=I.cell y c' e
    exact ⟨w2,z2.sameBut hs hcc⟩
  ·obtain ⟨e,n,ne,nf,d⟩:=I.pin p hp
   refine ⟨(hs.2 p.1 ?_).trans e,n,ne,nf,d⟩
   intro q
   rw[q,hoc] at e
   have q':oc=p.2:=Option.some.inj e
   exact d w' (by rw[←q'];exact hocd)
theorem zcl {M:Model}{A:Around}{E:Value→Shared→Prop}{i:Nat}{x:Str}{v:V}{u:Value}{Q:Unit→Shared→Prop}(I:Inv X pins σ H s) (hN:X.N.Nodup) (hi:X.N[i]?=some x) (hx:Loc X.env.scope x) (r:RelV v u)
  (h:∀s',Inv X pins (σ.set i (some v)) H s'→Q () s') (hf:X.fn x=true∨X.env.scope.names.lookup x=some .local:=by first|exact .inl rfl|exact .inr rfl|assumption):wpAny M A (storeName X.env x u) Q E s:=
 zes I hN hi hx r (fun s' I' _=>h s' I') hf
theorem Inv.call' {s':Shared}{ch:List Addr}(I:Inv X pins σ H s) (ho:s'.os=s.os) (ht:X.t0≤s'.toks) (u:Un (frs X.stack) ch H H' s.heap s'.heap) (hok:HOk X.prog X.w H' s'.heap) (hg:AllBare s'.gens)
  (hch:∀b∈ch,(b∈X.ex∨X.s₀.heap.objs.size≤b)∧b≠X.env.locals∧(∀x c,X.env.cells.lookup x=some c→c≠b)∧∀p∈X.pn++pins,p.1≠b):Inv X pins σ H' s':=by
 obtain ⟨h',g',d',t',o'⟩:=s'
 have e:o'=s.os:=ho
 subst e
 exact I.call (g':=g') (t':=t') (d':=d') u hok hg hch ht
end
abbrev XK:=Value→Option Addr→Hp→Prop
abbrev St:=List (Option V)
abbrev VK:=V→Hp→Prop
abbrev TE:=St→Hp→VK→Prop
abbrev TT:=St→Hp→(Bool→Hp→Prop)→Prop
abbrev TA:=St→Hp→(List V→Hp→Prop)→Prop
structure Ends where
 nx:St→Hp→Prop
 rt:VK
 bk:St→Hp→Prop:=fun _ _=>False
 ct:St→Hp→Prop:=fun _ _=>False
abbrev TS:=Ends→St→Hp→Prop
def EP (X:Cx) (pins:List (Addr×Obj)) (σ:St) (Q:VK) (u:Value) (s':Shared):Prop:=∃v H',Inv X pins σ H' s'∧RelV v u∧Q v H'
def TP (X:Cx) (pins:List (Addr×Obj)) (σ:St) (Q:Bool→Hp→Prop) (b:Bool) (s':Shared):Prop:=∃H',Inv X pins σ H' s'∧Q b H'
def AP (X:Cx) (pins:List (Addr×Obj)) (σ:St) (Q:List V→Hp→Prop) (us:List Value) (s':Shared):Prop:=∃vs H',Inv X pins σ H' s'∧Vals vs us∧Q vs H'
def SP (X:Cx) (pins:List (Addr×Obj)) (D:Ends) (f:Flow) (s':Shared):Prop:=
 match f with
 |.next=>∃σ' H',Inv X pins σ' H' s'∧D.nx σ' H'
 |.brk=>∃σ' H',Inv X pins σ' H' s'∧D.bk σ' H'
 |.cont=>∃σ' H',Inv X pins σ' H' s'∧D.ct σ' H'
 |.ret u=>∃v σ' H',Inv X pins σ' H' s'∧RelV v u∧D.rt v H'
def PE (X:Cx) (e:Expr) (t:TE):Prop:=
 ∀(pins:List (Addr×Obj)) (s:Shared) (σ:St) (H:Hp) (Q:VK),Inv X pins σ H s→t σ H Q→wpAny (model X.prog X.w) X.A (eval e X.env) (EP X pins σ Q) X.xe s
def PT (X:Cx) (e:Expr) (t:TT):Prop:=
 ∀(pins:List (Addr×Obj)) (s:Shared) (σ:St) (H:Hp) (Q:Bool→Hp→Prop),Inv X pins σ H s→t σ H Q→wpAny (model X.prog X.w) X.A (isTrue e X.env (eval e X.env)) (TP X pins σ Q) X.xe s
def PW (X:Cx) (e:Expr) (t:TT):Prop:=
 ∀(whole:Sem Value) (pins:List (Addr×Obj)) (s:Shared) (σ:St) (H:Hp) (Q:Bool→Hp→Prop),Inv X pins σ H s→t σ H Q→wpAny (model X.prog X.w) X.A (isTrue e X.env whole) (TP X pins σ Q) X.xe s
theorem PW.pt {X:Cx}{e:Expr}{t:TT}(h:PW X e t):PT X e t:=h _
def PA (X:Cx) (es:List Expr) (t:TA):Prop:=
 ∀(pos:Pos) (pins:List (Addr×Obj)) (s:Shared) (σ:St) (H:Hp) (Q:List V→Hp→Prop),Inv X pins σ H s→t σ H Q→wpAny (model X.prog X.w) X.A (spliced (backTo pos (starEach es X.env))) (AP X pins σ Q) X.xe s
def PS (X:Cx) (st:Stmt) (t:TS):Prop:=
 ∀(pins:List (Addr×Obj)) (s:Shared) (σ:St) (H:Hp) (D:Ends),Inv X pins σ H s→t D σ H→wpAny (model X.prog X.w) X.A (exec st X.env) (SP X pins D) X.xe s
def PSs (X:Cx) (st:List Stmt) (t:TS):Prop:=
 ∀(pins:List (Addr×Obj)) (s:Shared) (σ:St) (H:Hp) (D:Ends),Inv X pins σ H s→t D σ H→wpAny (model X.prog X.w) X.A (execs st X.env) (SP X pins D) X.xe s
theorem thn {α:Type}{t:Sem α}{Q Q':α→Shared→Prop}{M:Model}{A:Around}{E:Value→Shared→Prop}{s:Shared}(h:wpAny M A t Q E s) (hQ:∀a s,Q a s→Q' a s):wpAny M A t Q' E s:=wpAny_mono h hQ fun _ _ x=>x
section
variable {X:Cx}
theorem bin {a b:Expr}{ta tb:TE}(ha:PE X a ta) (hb:PE X b tb){pins:List (Addr×Obj)}{s:Shared}{σ:St}{H:Hp}{R:V→V→Hp→Prop}(I:Inv X pins σ H s) (h:ta σ H fun x H1=>tb σ H1 fun y H2=>R x y H2)
  {α:Type} {Q:α→Shared→Prop} {f:Value→Value→Sem α}
  (hf:∀v u s2 x y H2,Inv X pins σ H2 s2→RelV x v→RelV y u→R x y H2→wpAny (model X.prog X.w) X.A (f v u) Q X.xe s2) :
  wpAny (model X.prog X.w) X.A (eval a X.env) (fun v s₁=>wpAny (model X.prog X.w) X.A (eval b X.env) (fun u s₂=>wpAny (model X.prog X.w) X.A (f v u) Q X.xe s₂) X.xe s₁) X.xe s:=by
 refine thn (ha pins s σ H _ I h) fun v s1 ⟨x,H1,I1,r1,q1⟩=>?_
 refine thn (hb pins s1 σ H1 _ I1 q1) fun u s2 ⟨y,H2,I2,r2,q2⟩=>?_
 exact hf v u s2 x y H2 I2 r1 r2 q2
def tVar (i:Nat):TE:=fun σ H Q=>∃v,σ[i]?=some (some v)∧Q v H
def tC (v:V):TE:=fun _ H Q=>Q v H
theorem zj4 {i:Nat}{x:Str}{pos:Pos}(hN:X.N[i]?=some x) (hv:Vis X.env.scope x) (hd:(x==("__debug__":Str))=false:=by decide) (hcd:(x==("__classdict__":Str))=false:=by decide):PE X (.Name x pos) (tVar i):=by
 intro pins s σ H Q I h
 obtain ⟨v,e,h⟩:=h
 obtain ⟨m,hn,hl⟩:=I.loc
 obtain ⟨u,r,l⟩:=hl i x v hN e hv
 have fin:EP X pins σ Q u s:=⟨v,H,I,r,h⟩
 rcases l with ⟨hk,hm⟩|⟨hk,c,hc,hcell⟩
 ·exact wpAny_Name (wpAny_loadName_local I.ok.kind hk hn hm fin) hd
 ·rcases hk with hk|hk
  ·exact wpAny_Name (wpAny_loadName_cell I.ok.kind hk hc hcell fin) hd
  ·exact wpAny_Name (wpAny_loadName_free I.ok.kind hk hc hcell fin hcd) hd
theorem zah {i j pos}:PE X (.Constant (.int i) j pos) (tC (.int i)):=fun _ _ _ H _ I h=>wpAny_Constant_int ⟨.int i,H,I.tok _,⟨_,rfl⟩,h⟩
theorem zbN {b j pos}:PE X (.Constant (.bool b) j pos) (tC (.bl b)):=fun _ _ _ H _ I h=>Constant_bool ⟨.bl b,H,I,rfl,h⟩
theorem zbr {j pos}:PE X (.Constant .none j pos) (tC .non):=fun _ _ _ H _ I h=>Constant_none ⟨.non,H,I,rfl,h⟩
theorem zai {x j pos}:PE X (.Constant (.str x) j pos) (tC (.str x)):=fun _ _ _ H _ I h=>Calls.Constant_str ⟨.str x,H,I.tok _,⟨_,rfl⟩,h⟩
def Gl (X:Cx) (x:Str):Prop:=X.env.kindOf x=some .globalImplicit
theorem zcK {E:Value→Shared→Prop}{pins:List (Addr×Obj)}{s:Shared}{σ:St}{H:Hp}{x:Str}{u:Value}{pos:Pos}{Q:Value→Shared→Prop}(I:Inv X pins σ H s) (hg:Gl X x) (hm:X.mg x=some u) (h:Q u s)
  (hd:(x==("__debug__":Str))=false:=by decide):wpAny (model X.prog X.w) X.A (eval (.Name x pos) X.env) Q E s:=
 Calls.Name_function_global I.ok.kind hg (Calls.loadGlobal_global (by rw[I.ok.glob];exact I.mod.glob.keeps I.bk) hm h) hd
theorem zc8 {E:Value→Shared→Prop}{pins:List (Addr×Obj)}{s:Shared}{σ:St}{H:Hp}{x:Str}{u:Value}{pos:Pos}{Q:Value→Shared→Prop}(I:Inv X pins σ H s) (hg:Gl X x) (hm:X.mg x=none) (hv:bootBuiltins x=some u) (h:Q u s)
  (hn:x≠"__name__":=by decide) (hd:(x==("__debug__":Str))=false:=by decide):wpAny (model X.prog X.w) X.A (eval (.Name x pos) X.env) Q E s:=by
 obtain ⟨mb,h1,h2⟩:=I.mod.blt
 exact Calls.Name_function_global I.ok.kind hg (Calls.loadGlobal_builtin (by rw[I.ok.glob];exact I.mod.glob.keeps I.bk) hm (by rw[I.ok.blt];exact h1.keeps I.bk) ((h2 x hn).trans hv) h) hd
theorem zcc {x:Str}{v:V}{u:Value}{pos:Pos}(hg:Gl X x) (hm:X.mg x=some u) (r:RelV v u) (hd:(x==("__debug__":Str))=false:=by decide):PE X (.Name x pos) (tC v):=
 fun _ _ _ H _ I h=>zcK I hg hm ⟨v,H,I,r,h⟩ hd
theorem zgC {x:Str}{v:V}{u:Value}{pos:Pos}(hg:Gl X x) (hm:X.mg x=none) (hv:bootBuiltins x=some u) (r:RelV v u) (hn:x≠"__name__":=by decide) (hd:(x==("__debug__":Str))=false:=by decide):PE X (.Name x pos) (tC v):=
 fun _ _ _ H _ I h=>zc8 I hg hm hv ⟨v,H,I,r,h⟩ hn hd
def t2I (ta tb:TE) (k:Int→Int→Hp→Prop):St→Hp→Prop:=fun σ H=>ta σ H fun x H1=>tb σ H1 fun y H2=>∃i j,x=.int i∧y=.int j∧k i j H2
def tMul (ta tb:TE):TE:=fun σ H Q=>t2I ta tb (fun i j H2=>(-(2 ^ 64)<i∧i<2 ^ 64)∧Q (.int (i*j)) H2) σ H
variable {a b:Expr}{ta tb:TE}{pos:Pos}
theorem zlj (ha:PE X a ta) (hb:PE X b tb):PE X (.BinOp a .Mult b pos) (tMul ta tb):=by
 intro pins s σ H Q I h
 refine wpAny_BinOp (bin ha hb I h fun v u s2 x y H2 I2 rx ry q=>?_)
 obtain ⟨i,j,rfl,rfl,⟨q1,q2⟩,q⟩:=q
 obtain ⟨t,rfl⟩:=rx
 obtain ⟨t',rfl⟩:=ry
 exact mul_int ⟨.int _,H2,I2.tok _,⟨_,rfl⟩,q⟩ (.of_left (intBits_le_64 q1 q2))
def PC (X:Cx) (op:CmpOp) (a b:Expr) (t:TE):Prop:=
 ∀(pins:List (Addr×Obj)) (s:Shared) (σ:St) (H:Hp) (Q:VK),Inv X pins σ H s→t σ H Q →
  wpAny (model X.prog X.w) X.A (eval a X.env) (fun v s₁=>wpAny (model X.prog X.w) X.A (eval b X.env) (fun u s₂=>wpAny (model X.prog X.w) X.A (compareOp op v u) (EP X pins σ Q) X.xe s₂) X.xe s₁) X.xe s
def tB (t:TE):TT:=fun σ H Q=>t σ H fun x H1=>∃c,x=.bl c∧Q c H1
theorem zlk {op:CmpOp}{t:TE}(h:PC X op a b t) (h1:behindInMarks op b=false:=by first|exact nobehind _ (by decide) (by decide)|rfl):PT X (.Compare a [op] [b] pos) (tB t):=by
 intro pins s σ H Q I hw
 refine wpAny_isTrue_Compare1 (thn (h pins s σ H _ I hw) fun v s1 h1=>thn h1 fun u s2 h2=>thn h2 fun c s3 ⟨x,H1,I1,r1,q1⟩=>?_) h1
 obtain ⟨d,rfl,q⟩:=q1
 cases r1
 exact wpAny_truthy_bool ⟨H1,I1,q⟩
theorem zbb {e:Expr}{t:TE}(h:PE X e t) (he:∀whole,isTrue e X.env whole=(do let v ← whole;standAt e.pos;holding [v] (truthy v)):=by intro _;rfl):PT X e (tB t):=by
 intro pins s σ H Q I hw
 refine isTrue_plain (thn (h pins s σ H _ I hw) fun v s1 ⟨x,H1,I1,r1,q1⟩=>?_) (he _)
 obtain ⟨d,rfl,q⟩:=q1
 cases r1
 exact wpAny_truthy_bool ⟨H1,I1,q⟩
variable {tA tB':TT}{rest:List Expr}
def tAnd (t u:TT):TT:=fun σ H Q=>t σ H fun c H1=>if c=true then u σ H1 Q else Q false H1
def tOr (t u:TT):TT:=fun σ H Q=>t σ H fun c H1=>if c=true then Q true H1 else u σ H1 Q
def tNot (t:TT):TT:=fun σ H Q=>t σ H fun c H1=>Q (!c) H1
theorem ze2 (ha:PT X a tA):PW X (.BoolOp .And [a] pos) tA:=by
 intro wh pins s σ H Q I h
 refine isTrue_and (thn (ha pins s σ H Q I h) fun c s1 e=>?_)
 cases c with
 |true=>exact isTrue_and_nil e
 |false=>exact e
theorem zbK (ha:PT X a tA):PW X (.BoolOp .Or [a] pos) tA:=by
 intro wh pins s σ H Q I h
 refine isTrue_or (thn (ha pins s σ H Q I h) fun c s1 e=>?_)
 cases c with
 |false=>exact isTrue_or_nil e
 |true=>exact e
theorem zgD (ha:PT X a tA) (hb:PW X (.BoolOp .And (b::rest) pos) tB'):PW X (.BoolOp .And (a::b::rest) pos) (tAnd tA tB'):=by
 intro wh pins s σ H Q I h
 refine isTrue_and (thn (ha pins s σ H _ I h) fun c s1 ⟨H1,I1,q1⟩=>?_)
 cases c with
 |true=>exact hb wh pins s1 σ H1 Q I1 q1
 |false=>exact ⟨H1,I1,q1⟩
theorem zcm (ha:PT X a tA) (hb:PW X (.BoolOp .Or (b::rest) pos) tB'):PW X (.BoolOp .Or (a::b::rest) pos) (tOr tA tB'):=by
 intro wh pins s σ H Q I h
 refine isTrue_or (thn (ha pins s σ H _ I h) fun c s1 ⟨H1,I1,q1⟩=>?_)
 cases c with
 |true=>exact ⟨H1,I1,q1⟩
 |false=>exact hb wh pins s1 σ H1 Q I1 q1
theorem zbj (ha:PT X a tA):PT X (.UnaryOp .Not a pos) (tNot tA):=by
 intro pins s σ H Q I h
 exact isTrue_not (ha pins s σ H (fun c H1=>Q (!c) H1) I h)
def tAndV (ta tb:TE):TE:=fun σ H Q=>ta σ H fun x H1=>∃c,x=.bl c∧if c=true then tb σ H1 Q else Q (.bl false) H1
def tOrV (ta tb:TE):TE:=fun σ H Q=>ta σ H fun x H1=>∃c,x=.bl c∧if c=true then Q (.bl true) H1 else tb σ H1 Q
def tNotV (ta:TE):TE:=fun σ H Q=>ta σ H fun x H1=>∃c,x=.bl c∧Q (.bl (!c)) H1
theorem zet {op}{t:TE}(h:PE X a t):PE X (.BoolOp op [a] pos) t:=fun pins s σ H Q I hw=>BoolOp_one (h pins s σ H Q I hw)
theorem zgE (ha:PE X a ta) (hb:PE X (.BoolOp .And (b::rest) pos) tb):PE X (.BoolOp .And (a::b::rest) pos) (tAndV ta tb):=by
 intro pins s σ H Q I h
 refine BoolOp_and (thn (ha pins s σ H _ I h) fun v s1 ⟨x,H1,I1,r1,q1⟩=>?_)
 obtain ⟨c,rfl,q1⟩:=q1
 cases r1
 refine wpAny_truthy_bool ?_
 cases c with
 |true=>exact hb pins s1 σ H1 Q I1 q1
 |false=>exact ⟨.bl false,H1,I1,rfl,q1⟩
theorem zj5 (ha:PE X a ta) (hb:PE X (.BoolOp .Or (b::rest) pos) tb):PE X (.BoolOp .Or (a::b::rest) pos) (tOrV ta tb):=by
 intro pins s σ H Q I h
 refine BoolOp_or (thn (ha pins s σ H _ I h) fun v s1 ⟨x,H1,I1,r1,q1⟩=>?_)
 obtain ⟨c,rfl,q1⟩:=q1
 cases r1
 refine wpAny_truthy_bool ?_
 cases c with
 |false=>exact hb pins s1 σ H1 Q I1 q1
 |true=>exact ⟨.bl true,H1,I1,rfl,q1⟩
theorem zj6 (ha:PE X a ta):PE X (.UnaryOp .Not a pos) (tNotV ta):=by
 intro pins s σ H Q I h
 refine UnaryOp_ (thn (ha pins s σ H _ I h) fun v s1 ⟨x,H1,I1,r1,q1⟩=>?_)
 obtain ⟨c,rfl,q1⟩:=q1
 cases r1
 exact not_of (wpAny_truthy_bool ⟨.bl (!c),H1,I1,rfl,q1⟩)
def tIf (t:TT) (ta tb:TE):TE:=fun σ H Q=>t σ H fun c H1=>if c=true then ta σ H1 Q else tb σ H1 Q
theorem zfG {c:Expr}(hc:PT X c tA) (ha:PE X a ta) (hb:PE X b tb):PE X (.IfExp c a b pos) (tIf tA ta tb):=by
 intro pins s σ H Q I h
 refine wpAny_IfExp (thn (hc pins s σ H _ I h) fun d s1 ⟨H1,I1,q1⟩=>?_)
 cases d with
 |true=>exact ha pins s1 σ H1 Q I1 q1
 |false=>exact hb pins s1 σ H1 Q I1 q1
end
def SqL (K:W.Frag) (H:Hp) (a:Addr) (xs:List V):Prop:=
 Rd H a (.lst xs) ∨
  ∃(o:Obj) (its:Array Value) (n:Nat),K.lookup a=some o∧o.cls=.type "list"∧o.dict=none∧o.data=.seq its n∧its.size≤sizeLine∧Vals xs its.toList
def SqT (K:W.Frag) (H:Hp) (a:Addr) (xs:List V):Prop:=
 Rd H a (.tup xs) ∨
  ∃(o:Obj) (its:Array Value) (n:Nat),K.lookup a=some o∧o.cls=.type "tuple"∧o.data=.seq its n∧its.size≤sizeLine∧Vals xs its.toList
def absV:Value→Option V
 |.none=>some .non
 |.bool b=>some (.bl b)
 |.int i _=>some (.int i)
 |.str x _=>some (.str x)
 |.bytes b _=>some (.byt b)
 |.float b _=>some (.flt b)
 |.ref a=>some (.ref a)
 |.type n=>some (.ty n)
 |_=>none
theorem RelV.abs {x:V}{u:Value}(r:RelV x u):absV u=some x:=by
 cases x with
 |non=>cases r;rfl
 |bl _=>cases r;rfl
 |int _=>obtain ⟨t,rfl⟩:=r;rfl
 |str _=>obtain ⟨t,rfl⟩:=r;rfl
 |byt _=>obtain ⟨t,rfl⟩:=r;rfl
 |flt _=>obtain ⟨t,rfl⟩:=r;rfl
 |ref _=>cases r;rfl
 |ty _=>cases r;rfl
theorem RelV.inj {x y:V}{u:Value}(r:RelV x u) (q:RelV y u):x=y:=Option.some.inj (r.abs.symm.trans q.abs)
theorem Vals.inj:∀ {xs ys:List V}{us:List Value},Vals xs us→Vals ys us→xs=ys
 |_,_,_,.nil,.nil=>rfl
 |_,_,_,.cons r t,.cons r' t'=>by rw[r.inj r',Vals.inj t t']
section
variable {X:Cx}{pins:List (Addr×Obj)}{σ:St}{H:Hp}{s:Shared}{a:Addr}{xs ys:List V}
theorem SqL.of {K:W.Frag}(h:H a=some (.lst xs)):SqL K H a xs:=.inl (.inl h)
theorem SqT.of {K:W.Frag}(h:H a=some (.tup xs)):SqT K H a xs:=.inl (.inl h)
theorem Inv.list (I:Inv X pins σ H s) (h:SqL X.K H a xs):∃its:List Value,Vals xs its∧PlainL s.heap a its.toArray∧xs.length≤sizeLine:=by
 rcases h with h|⟨o,its,n,hk,hc,hd,hs,hz,r⟩
 ·obtain ⟨z,its,n,r,e⟩:=h.ok I.hok
  exact ⟨its,r,⟨_,n,e,rfl,rfl,rfl⟩,z⟩
 ·refine ⟨its.toList,r,⟨o,n,I.kIn a o hk,hc,hd,by simpa using hs⟩,?_⟩
  have e:=r.length
  simp only[Array.length_toList] at e
  omega
theorem Inv.tuple (I:Inv X pins σ H s) (h:SqT X.K H a xs):∃its:List Value,Vals xs its∧IsTup s.heap a its.toArray∧xs.length≤sizeLine:=by
 rcases h with h|⟨o,its,n,hk,hc,hs,hz,r⟩
 ·obtain ⟨z,its,r,p⟩:=h.ok I.hok
  exact ⟨its,r,p,z⟩
 ·refine ⟨its.toList,r,⟨o,I.kIn a o hk,hc,n,by simpa using hs⟩,?_⟩
  have e:=r.length
  simp only[Array.length_toList] at e
  omega
theorem Inv.list_inj (I:Inv X pins σ H s) (h:SqL X.K H a xs) (h':SqL X.K H a ys):xs=ys:=by
 obtain ⟨its,r,⟨o,n,e,_,_,d⟩,_⟩:=I.list h
 obtain ⟨its',r',⟨o',n',e',_,_,d'⟩,_⟩:=I.list h'
 rw[e] at e';cases e'
 rw[d] at d'
 injection d' with d1 _
 have:its=its':=by simpa using congrArg Array.toList d1
 subst this
 exact r.inj r'
theorem Inv.tuple_inj (I:Inv X pins σ H s) (h:SqT X.K H a xs) (h':SqT X.K H a ys):xs=ys:=by
 obtain ⟨its,r,⟨o,e,_,n,d⟩,_⟩:=I.tuple h
 obtain ⟨its',r',⟨o',e',_,n',d'⟩,_⟩:=I.tuple h'
 rw[e] at e';cases e'
 rw[d] at d'
 injection d' with d1 _
 have:its=its':=by simpa using congrArg Array.toList d1
 subst this
 exact r.inj r'
end
abbrev Cx.wish (X:Cx) (E:Value→Shared→Prop):Cx:={ X with xe:=E }
abbrev Cx.nox (X:Cx):Cx:=X.wish fun _ _=>False
theorem Cx.Ok.wish {X:Cx}(ok:X.Ok) (E:Value→Shared→Prop):(X.wish E).Ok:=
 ⟨ok.mod,ok.kind,ok.glob,ok.blt,ok.above,ok.inj,ok.has,ok.cab,ok.hd,ok.frames,ok.stk,ok.exf,ok.bs,ok.bsz,ok.noex,ok.exfs,ok.funs,ok.frf⟩
theorem Cx.Ok.unwish {X:Cx}{E:Value→Shared→Prop}(ok:(X.wish E).Ok):X.Ok:=
 ⟨ok.mod,ok.kind,ok.glob,ok.blt,ok.above,ok.inj,ok.has,ok.cab,ok.hd,ok.frames,ok.stk,ok.exf,ok.bs,ok.bsz,ok.noex,ok.exfs,ok.funs,ok.frf⟩
section
variable {X:Cx}{pins:List (Addr×Obj)}{σ:St}{H:Hp}{s:Shared}{E:Value→Shared→Prop}
theorem Inv.wish (I:Inv X pins σ H s) (E:Value→Shared→Prop):Inv (X.wish E) pins σ H s:=⟨I.ok.wish E,I.os,I.bare,I.base,I.loc,I.cell,I.free,I.freeC,I.pin,I.hok,I.len,I.tk⟩
theorem Inv.unwish (I:Inv (X.wish E) pins σ H s):Inv X pins σ H s:=⟨I.ok.unwish,I.os,I.bare,I.base,I.loc,I.cell,I.free,I.freeC,I.pin,I.hok,I.len,I.tk⟩
theorem SP.unwish {D:Ends}{f:Flow}{s':Shared}(h:SP (X.wish E) pins D f s'):SP X pins D f s':=by
 cases f with
 |next=>obtain ⟨σ',H',I,q⟩:=h;exact ⟨σ',H',I.unwish,q⟩
 |brk=>obtain ⟨σ',H',I,q⟩:=h;exact ⟨σ',H',I.unwish,q⟩
 |cont=>obtain ⟨σ',H',I,q⟩:=h;exact ⟨σ',H',I.unwish,q⟩
 |ret u=>obtain ⟨v,σ',H',I,r,q⟩:=h;exact ⟨v,σ',H',I.unwish,r,q⟩
theorem PSs.nox {st:List Stmt}{t:TS}(h:PSs X.nox st t):PSs X st t:=fun pins s σ H D I hw=>
 wpAny_mono (h pins s σ H D (I.wish _) hw) (fun _ _ q=>q.unwish) fun _ _ z=>False.elim z
end
section
variable {X:Cx}{st:Stmt}{rest:List Stmt}{t u:TS}{e:Expr}{te:TE}{pos:Pos}
def tNext:TS:=fun D σ H=>D.nx σ H
def tSeq (t u:TS):TS:=fun D σ H=>t { D with nx:=u D } σ H
theorem zau:PSs X [] tNext:=fun _ _ σ H _ I h=>wpAny_execs_nil ⟨σ,H,I,h⟩
theorem zad (h1:PS X st t) (h2:PSs X rest u):PSs X (st::rest) (tSeq t u):=by
 intro pins s σ H D I h
 refine wpAny_execs_cons (thn (h1 pins s σ H { D with nx:=u D } I h) fun f s1 q=>?_)
 cases f with
 |next=>
  obtain ⟨σ',H',I',q⟩:=q
  exact h2 pins s1 σ' H' D I' q
 |ret v=>exact q
 |brk=>exact q
 |cont=>exact q
theorem zaf (h1:PS X st t):PSs X [st] t:=by
 intro pins s σ H D I h
 refine wpAny_execs_cons (thn (h1 pins s σ H D I h) fun f s1 q=>?_)
 cases f with
 |next=>exact wpAny_execs_nil q
 |ret v=>exact q
 |brk=>exact q
 |cont=>exact q
theorem Inv.quiet {pins:List (Addr×Obj)}{σ:St}{H:Hp}{s:Shared}(I:Inv X pins σ H s):interactive X.env=false:=by simp[interactive,I.ok.kind]
def tDrop (te:TE):TS:=fun D σ H=>te σ H fun _ H1=>D.nx σ H1
theorem zbP (he:PE X e te) (hs:swapsWith e none pos.line X.env=pure false:=by rfl):PS X (.Expr e pos) (tDrop te):=by
 intro pins s σ H D I h
 exact wpAny_Expr_any (thn (he pins s σ H _ I h) fun v s1 ⟨x,H1,I1,r1,q1⟩=>⟨σ,H1,I1,q1⟩) I.quiet hs
def tRet (te:TE):TS:=fun D σ H=>te σ H D.rt
theorem zam (he:PE X e te):PS X (.Return (some e) pos) (tRet te):=by
 intro pins s σ H D I h
 exact wpAny_Return_some (thn (he pins s σ H _ I h) fun v s1 ⟨x,H1,I1,r1,q1⟩=>⟨x,σ,H1,I1,r1,q1⟩)
def tIfS (c:TT) (t u:TS):TS:=fun D σ H=>c σ H fun b H1=>if b=true then t D σ H1 else u D σ H1
theorem zaL {c:Expr}{a b:List Stmt}{tc:TT}(hc:PT X c tc) (ha:PSs X a t) (hb:PSs X b u):PS X (.If c a b pos) (tIfS tc t u):=by
 intro pins s σ H D I h
 refine wpAny_If (thn (hc pins s σ H _ I h) fun d s1 ⟨H1,I1,q1⟩=>?_)
 cases d with
 |true=>exact ha pins s1 σ H1 D I1 q1
 |false=>exact hb pins s1 σ H1 D I1 q1
end
abbrev TG:=V→St→Hp→(St→Hp→Prop)→Prop
abbrev TGs:=List V→St→Hp→(St→Hp→Prop)→Prop
def PG (X:Cx) (target:Expr) (t:TG):Prop:=
 ∀(pins:List (Addr×Obj)) (s:Shared) (σ:St) (H:Hp) (v:V) (u:Value) (Q:St→Hp→Prop),Inv X pins σ H s→RelV v u→t v σ H Q →
  wpAny (model X.prog X.w) X.A (assign target X.env u) (fun _ s'=>∃σ' H',Inv X pins σ' H' s'∧Q σ' H') X.xe s
def PGs (X:Cx) (ts:List Expr) (t:TGs):Prop:=
 ∀(pins:List (Addr×Obj)) (s:Shared) (σ:St) (H:Hp) (vs:List V) (us:List Value) (Q:St→Hp→Prop),Inv X pins σ H s→Vals vs us→t vs σ H Q →
  wpAny (model X.prog X.w) X.A (assignInOrder ((assignEach ts X.env).map (·.2)) us) (fun _ s'=>∃σ' H',Inv X pins σ' H' s'∧Q σ' H') X.xe s
abbrev TSet:=V→V→V→Hp→(Hp→Prop)→Prop
def PSet (X:Cx) (t:TSet):Prop:=
 ∀(pins:List (Addr×Obj)) (s:Shared) (σ:St) (H:Hp) (o i v:V) (ov iv u:Value) (Q:Hp→Prop),Inv X pins σ H s→RelV o ov→RelV i iv→RelV v u→t o i v H Q →
  wpAny (model X.prog X.w) X.A (setItem ov iv u) (fun _ s'=>∃H',Inv X pins σ H' s'∧Q H') X.xe s
section
variable {X:Cx}{pos:Pos}
def gName (i:Nat):TG:=fun v σ H Q=>Q (σ.set i (some v)) H
theorem zal {i:Nat}{x:Str}(hN:X.N.Nodup) (hi:X.N[i]?=some x) (hx:Loc X.env.scope x) (hf:X.fn x=true∨X.env.scope.names.lookup x=some .local:=by first|exact .inl rfl|exact .inr rfl|assumption):PG X (.Name x pos) (gName i):=by
 intro pins s σ H v u Q I r h
 exact wpAny_assign_Name (zcl I hN hi hx r (fun s' I'=>⟨_,H,I',h⟩) hf)
def gNil:TGs:=fun vs σ H Q=>vs=[]∧Q σ H
def gCons (t:TG) (u:TGs):TGs:=fun vs σ H Q=>∃v r,vs=v::r∧t v σ H fun σ' H'=>u r σ' H' Q
theorem za2:PGs X [] gNil:=by
 intro pins s σ H vs us Q I r h
 obtain ⟨e,h⟩:=h
 subst e
 cases r
 exact assignInOrder_nil ⟨σ,H,I,h⟩
theorem zao {e:Expr}{es:List Expr}{t:TG}{u:TGs}(h1:PG X e t) (h2:PGs X es u)
  (hs:(assignEach (e::es) X.env).map (·.2)=assign e X.env::(assignEach es X.env).map (·.2):=by rfl):PGs X (e::es) (gCons t u):=by
 intro pins s σ H vs us Q I r h
 obtain ⟨v,vr,e1,h⟩:=h
 subst e1
 cases r with
 |cons r rr=>
  rw[hs]
  refine assignInOrder_cons (thn (h1 pins s σ H _ _ _ I r h) fun _ s1 ⟨σ1,H1,I1,q1⟩=>?_)
  exact h2 pins s1 σ1 H1 _ _ Q I1 rr q1
def gTup (K:W.Frag) (n:Nat) (t:TGs):TG:=fun v σ H Q=>∃a xs,v=.ref a∧SqT K H a xs∧xs.length=n∧t xs σ H Q
theorem zbQ {es:List Expr}{k:Nat}{t:TGs}{n:Nat}(hc:X.calm=true) (h:PGs X es t)
  (hn:(assignEach es X.env).length=n:=by rfl) (hst:(assignEach es X.env).findIdx? (·.1)=none:=by rfl):PG X (.Tuple es k pos) (gTup X.K n t):=by
 intro pins s σ H v u Q I r hw
 obtain ⟨a,xs,e1,hq,hl,hw⟩:=hw
 subst e1
 cases r
 obtain ⟨its,rv,ht,hz⟩:=I.tuple hq
 refine assign_Tuple_tuple (I.ok.hd hc) ht (by simp[hn,←hl,rv.length]) hst fun h' hx=>?_
 have I1:Inv X pins σ H { s with heap:=h' }:=I.kept (t':=s.toks) fun b o e=>hx b o (Nat.ne_of_lt (Heap.lt_size e)) e
 exact h pins _ σ H xs _ Q I1 (by simpa using rv) hw
def gSub (to ti:TE) (t:TSet):TG:=fun v σ H Q=>to σ H fun o H1=>ti σ H1 fun i H2=>t o i v H2 fun H3=>Q σ H3
theorem zgF {o i:Expr}{to ti:TE}{t:TSet}(ho:PE X o to) (hi:PE X i ti) (hs:PSet X t)
  (ha:∀v,assign (.Subscript o i pos) X.env v=(do
   let ov ← holding [v] (eval o X.env)
   let iv ← holding [v,ov] (eval i X.env)
   standAt pos
   holding [v,ov,iv] (setItem ov iv v)
   release [v,ov,iv] []):=by intro _;rfl):PG X (.Subscript o i pos) (gSub to ti t):=by
 intro pins s σ H v u Q I r h
 rw[ha]
 refine wpAny_bind (wpAny_holding (thn (ho pins s σ H _ I h) fun ov s1 ⟨x,H1,I1,r1,q1⟩=>?_))
 refine wpAny_bind (wpAny_holding (thn (hi pins s1 σ H1 _ I1 q1) fun iv s2 ⟨y,H2,I2,r2,q2⟩=>?_))
 refine wpAny_bind (wpAny_standAt (wpAny_bind (wpAny_holding (thn (hs pins s2 σ H2 x y v ov iv u _ I2 r1 r2 r q2) fun _ s3 ⟨H3,I3,q3⟩=>?_))))
 exact wpAny_release ⟨σ,H3,I3,q3⟩
def tAsg (te:TE) (g:TG):TS:=fun D σ H=>te σ H fun x H1=>g x σ H1 D.nx
theorem zdz {tg e:Expr}{te:TE}{g:TG}(he:PE X e te) (hg:PG X tg g) (hs:swapsWithSole [tg] e pos.line X.env=pure false:=by rfl) (hw:swappedStores [tg] e X.env=pure none:=by rfl)
  (h1:(assignEach [tg] X.env).map (·.2)=[assign tg X.env]:=by rfl):PS X (.Assign [tg] e pos) (tAsg te g):=by
 intro pins s σ H D I h
 refine wpAny_Assign_stores (thn (he pins s σ H _ I h) fun v s1 ⟨x,H1,I1,r1,q1⟩=>?_) hs hw
 rw[h1]
 exact thn (hg pins s1 σ H1 x v _ I1 r1 q1) fun _ s2 q=>q
theorem zas {i:Nat}{x:Str}{e:Expr}{te:TE}{pos':Pos}(hN:X.N.Nodup) (hi:X.N[i]?=some x) (hx:Loc X.env.scope x) (he:PE X e te) (hs:swapsWith e (some (.Name x pos')) pos.line X.env=pure false:=by rfl) (hf:X.fn x=true∨X.env.scope.names.lookup x=some .local:=by first|exact .inl rfl|exact .inr rfl|assumption) :
  PS X (.Assign [.Name x pos'] e pos) (tAsg te (gName i)):=by
 intro pins s σ H D I h
 refine wpAny_Assign_Name (thn (he pins s σ H _ I h) fun v s1 ⟨y,H1,I1,r1,q1⟩=>?_) hs
 exact zcl I1 hN hi hx r1 (fun s2 I2=>⟨_,H1,I2,q1⟩) hf
end
section
variable {X:Cx}{pos:Pos}
def ziD (c:TT) (tb:TS):TS:=fun D σ H=>∃W:Nat→St→Hp→Prop,(∃m,W m σ H)∧∀m σ H,W m σ H →
 c σ H fun b H1=>if b=true then ∃N:St→Hp→Prop,(∀σ' H',N σ' H'→∃m',m'<m∧W m' σ' H')∧tb { D with nx:=N,ct:=N,bk:=D.nx } σ H1 else D.nx σ H1
theorem zhX {c:Expr}{body:List Stmt}{tc:TT}{tb:TS}(hp:PassesOwn (model X.prog X.w) X.A X.env X.xe) (hc:PT X c tc) (hb:PSs X body tb):PS X (.While c body [] pos) (ziD tc tb):=by
 intro pins s σ H D I h
 obtain ⟨W,⟨m0,w0⟩,turn⟩:=h
 refine wpAny_While (codeAny_whileLoop (fun n s'=>∃σ' H',Inv X pins σ' H' s'∧W n σ' H') ?_ m0 ⟨σ,H,I,w0⟩)
 rintro n s1 ⟨σ1,H1,I1,w1⟩
 refine wpAny_passesOwn hp (thn (hc pins s1 σ1 H1 _ I1 (turn n σ1 H1 w1)) fun b s2 ⟨H2,I2,q2⟩=>?_)
 cases b with
 |true=>
  obtain ⟨N,hN,q2⟩:=q2
  rw[if_pos rfl]
  refine wpAny_passesOwn hp (thn (hb pins s2 σ1 H2 _ I2 q2) fun f s3 q3=>?_)
  cases f with
  |next=>
   obtain ⟨σ3,H3,I3,n3⟩:=q3
   obtain ⟨m',hm,w3⟩:=hN σ3 H3 n3
   exact ⟨m',hm,σ3,H3,I3,w3⟩
  |cont=>
   obtain ⟨σ3,H3,I3,n3⟩:=q3
   obtain ⟨m',hm,w3⟩:=hN σ3 H3 n3
   exact ⟨m',hm,σ3,H3,I3,w3⟩
  |brk=>exact q3
  |ret v=>exact q3
 |false=>
  rw[if_neg Bool.false_ne_true]
  exact wpAny_execs_nil ⟨σ1,H2,I2,q2⟩
end
structure It where
 go:Nat→Hp→Prop
 yld:Nat→Hp→V→Hp→Prop
 stop:Nat→Hp→Prop
def FpOk (X:Cx) (pins:List (Addr×Obj)) (H:Hp) (b:Addr):Prop:=
 H b=none∧b≠X.env.locals∧b∉X.fs∧(b∈X.ex∨X.s₀.heap.objs.size≤b)∧(∀x c,X.env.cells.lookup x=some c→c≠b)∧∀p∈X.pn++pins,p.1≠b
theorem Inv.fpOk {X:Cx}{pins:List (Addr×Obj)}{σ:St}{H H':Hp}{s:Shared}{b:Addr}(I:Inv X pins σ H s) (hb:s.heap.objs.size≤b) (hn:H' b=none):FpOk X pins H' b:=by
 refine ⟨hn,Nat.ne_of_gt (Nat.lt_of_lt_of_le I.lt hb),I.nofs hb,.inr (Nat.le_trans I.sz hb),fun x c e z=>?_,fun p hp z=>?_⟩
 ·obtain ⟨v,q⟩:=I.cell x c e
  exact absurd (Nat.lt_of_lt_of_le q.lt (by rw[z];exact hb)) (Nat.lt_irrefl _)
 ·exact absurd (Nat.lt_of_lt_of_le (Heap.lt_size (I.pin p hp).1) (by rw[z];exact hb)) (Nat.lt_irrefl _)
structure Turn (P:Program) (w:World) (K:W.Frag) (tg:Expr) (J:It) (fp:List Addr) (it:Addr) (tn:Nat→Heap→Prop):Prop where
 mem:it∈fp
 obj:∀i h,tn i h→∀b∈fp,∃o,h.get? b=some o∧∀v,o.data≠.cell v
 keep:∀i h h',tn i h→(∀b∈fp,∀o,h.get? b=some o→h'.get? b=some o)→tn i h'
 item:∀(X:Cx),X.prog=P→X.w=w→X.K=K→X.calm=true→∀(i:Nat) (pins:List (Addr×Obj)) (s:Shared) (σ:St) (H:Hp) (E:Value→Shared→Prop),Inv X pins σ H s→(∀b∈fp,FpOk X pins H b)→tn i s.heap→J.go i H →
  wpAny (model P w) X.A (pyNext (.ref it)) (fun r s1=>∃u,r=some u ∧
   wpAny (model P w) X.A (letOwnedTupleGo tg (.ref it) u) (fun _ s2=>∃x H',Inv X pins σ H' s2∧RelV x u∧J.yld i H x H'∧tn (i+1) s2.heap∧∀b∈fp,H' b=none) E s1) E s
 done:∀(X:Cx),X.prog=P→X.w=w→X.K=K→X.calm=true→∀(i:Nat) (pins:List (Addr×Obj)) (s:Shared) (σ:St) (H:Hp) (E:Value→Shared→Prop),Inv X pins σ H s→(∀b∈fp,FpOk X pins H b)→tn i s.heap→J.stop i H →
  wpAny (model P w) X.A (pyNext (.ref it)) (fun r s1=>r=none∧Inv X pins σ H s1) E s
 self:∀(A:Around) (i:Nat) (s:Shared) (Q:Value→Shared→Prop) (E:Value→Shared→Prop),tn i s.heap→Q (.ref it) s→wpAny (model P w) A (pyIter (.ref it)) Q E s
abbrev TI:=St→Hp→(It→Hp→Prop)→Prop
def PIE (X:Cx) (pins:List (Addr×Obj)) (σ:St) (tg:Expr) (R:It→Hp→Prop) (itv:Value) (s2:Shared):Prop:=
 ∃(it:Addr) (fp:List Addr) (tn:Nat→Heap→Prop) (J:It) (H':Hp),itv=.ref it∧Inv X pins σ H' s2∧Turn X.prog X.w X.K tg J fp it tn∧tn 0 s2.heap∧(∀b∈fp,FpOk X pins H' b)∧R J H'
def PI (X:Cx) (tg iter:Expr) (wi:TI):Prop:=
 ∀(pins:List (Addr×Obj)) (s:Shared) (σ:St) (H:Hp) (R:It→Hp→Prop),Inv X pins σ H s→wi σ H R →
  wpAny (model X.prog X.w) X.A (eval iter X.env) (fun v s1=>wpAny (model X.prog X.w) X.A (pyIter v) (PIE X pins σ tg R) X.xe s1) X.xe s
theorem ze3 {M:Model}{A:Around}{E:Value→Shared→Prop}{s:Shared}{tg:Expr}{it:Addr}{u:Value}{o:Obj}{n:String}{vs:Array Value}{Q:Unit→Shared→Prop}(ho:s.heap.get? it=some o) (hc:o.cls=.type n) (hd:o.data=.fields vs)
  (hn:["enumerate","zip","dict_itemiterator","dict_reverseitemiterator","odict_iterator","itertools.zip_longest","itertools.pairwise"].contains n=false) (hQ:Q () s):wpAny M A (letOwnedTupleGo tg (.ref it) u) Q E s:=by
 unfold letOwnedTupleGo
 cases tg<;>first
  |exact wpAny_pure hQ
  |(cases u<;>first
    |exact wpAny_pure hQ
    |(refine wpAny_bind (wpAny_load ho ?_)
      rw[hc,hd]
      show wpAny M A (if (["enumerate","zip","dict_itemiterator","dict_reverseitemiterator","odict_iterator","itertools.zip_longest","itertools.pairwise"].contains n&&vs[0]?==some (rawInt _))=true then _ else _) Q E s
      rw[if_neg (by intro h;rw[hn,Bool.false_and] at h;cases h)]
      exact wpAny_pure hQ))
def Itl (K:W.Frag) (a:Addr):It:=
 ⟨fun i H=>∃xs x,SqL K H a xs∧xs[i]?=some x,fun i H x H'=>H'=H∧∀xs,SqL K H a xs→xs[i]?=some x,fun i H=>∃xs,SqL K H a xs∧xs.length≤i⟩
def Itt (K:W.Frag) (a:Addr):It:=
 ⟨fun i H=>∃xs x,SqT K H a xs∧xs[i]?=some x,fun i H x H'=>H'=H∧∀xs,SqT K H a xs→xs[i]?=some x,fun i H=>∃xs,SqT K H a xs∧xs.length≤i⟩
def Itr (lo:Int) (n:Nat):It:=⟨fun i _=>i<n,fun i H x H'=>H'=H∧x=.int (lo+i),fun i _=>n≤i⟩
theorem zgG {P:Program}{w:World}{K:W.Frag}{tg:Expr}(a it:Addr):Turn P w K tg (Itl K a) [it] it (fun i h=>h.IsListIter it a i) where
 mem:=by simp
 obj:=fun i h st b hb=>by
  have e:b=it:=by simpa using hb
  subst e
  obtain ⟨o,e,c,d⟩:=st
  exact ⟨o,e,fun v z=>by rw[d] at z;cases z⟩
 keep:=fun i h h' st k=>st.at fun o e=>k it (by simp) o e
 item:=by
  intro X hP hw hK hc i pins s σ H E I hf st hg
  subst hP hw hK
  obtain ⟨xs,x,hq,hx⟩:=hg
  obtain ⟨its,rv,p,hz⟩:=I.list hq
  obtain ⟨u,hu,ru⟩:=rv.get hx
  obtain ⟨f0,f1,f2,f3,f4,f5⟩:=hf it (by simp)
  refine wpAny_pyNext_list_item st p.isList (x:=u) (by simpa using hu) fun h' st' sb=>?_
  have I1:Inv X pins σ H { s with heap:=h' }:=I.turned (t':=s.toks) (fun b o hb e=>(sb.2 b hb).trans e) f0 f1 f3 f4 f5
  obtain ⟨o,e,c,d⟩:=id st'
  exact ⟨u,rfl,ze3 (s:={ s with heap:=h' }) e c d (by decide) ⟨x,H,I1,ru,⟨rfl,fun ys hy=>by rw[I.list_inj hy hq];exact hx⟩,st',fun b hb=>(hf b hb).1⟩⟩
 done:=by
  intro X hP hw hK hc i pins s σ H E I hf st hg
  subst hP hw hK
  obtain ⟨xs,hq,hx⟩:=hg
  obtain ⟨its,rv,p,hz⟩:=I.list hq
  obtain ⟨f0,f1,f2,f3,f4,f5⟩:=hf it (by simp)
  have hl:=rv.length
  exact wpAny_pyNext_list_end (I.ok.hd hc) st p.isList (by simp;omega) fun h' eb=>⟨rfl,I.turned (t':=s.toks) (fun b o hb e=>eb b o hb e) f0 f1 f3 f4 f5⟩
 self:=fun _ _ _ _ _ st h=>wpAny_pyIter_listiter st h
theorem zgg {P:Program}{w:World}{K:W.Frag}{tg:Expr}(a it:Addr):Turn P w K tg (Itt K a) [it] it (fun i h=>h.IsTupleIter it a i) where
 mem:=by simp
 obj:=fun i h st b hb=>by
  have e:b=it:=by simpa using hb
  subst e
  obtain ⟨o,e,c,d⟩:=st
  exact ⟨o,e,fun v z=>by rw[d] at z;cases z⟩
 keep:=fun i h h' st k=>st.at fun o e=>k it (by simp) o e
 item:=by
  intro X hP hw hK hc i pins s σ H E I hf st hg
  subst hP hw hK
  obtain ⟨xs,x,hq,hx⟩:=hg
  obtain ⟨its,rv,p,hz⟩:=I.tuple hq
  obtain ⟨u,hu,ru⟩:=rv.get hx
  obtain ⟨f0,f1,f2,f3,f4,f5⟩:=hf it (by simp)
  refine wpAny_pyNext_tuple_item st (show s.heap.IsTuple a its.toArray from p) (x:=u) (by simpa using hu) fun h' st' sb=>?_
  have I1:Inv X pins σ H { s with heap:=h' }:=I.turned (t':=s.toks) (fun b o hb e=>(sb.2 b hb).trans e) f0 f1 f3 f4 f5
  obtain ⟨o,e,c,d⟩:=id st'
  exact ⟨u,rfl,ze3 (s:={ s with heap:=h' }) e c d (by decide) ⟨x,H,I1,ru,⟨rfl,fun ys hy=>by rw[I.tuple_inj hy hq];exact hx⟩,st',fun b hb=>(hf b hb).1⟩⟩
 done:=by
  intro X hP hw hK hc i pins s σ H E I hf st hg
  subst hP hw hK
  obtain ⟨xs,hq,hx⟩:=hg
  obtain ⟨its,rv,p,hz⟩:=I.tuple hq
  obtain ⟨f0,f1,f2,f3,f4,f5⟩:=hf it (by simp)
  have hl:=rv.length
  exact wpAny_pyNext_tuple_end (I.ok.hd hc) st (show s.heap.IsTuple a its.toArray from p) (by simp;omega) fun h' eb=>⟨rfl,I.turned (t':=s.toks) (fun b o hb e=>eb b o hb e) f0 f1 f3 f4 f5⟩
 self:=fun _ _ _ _ _ st h=>wpAny_pyIter_tupleiter st h
theorem zgh {P:Program}{w:World}{K:W.Frag}{tg:Expr}(it:Addr) (lo:Int) (n:Nat):Turn P w K tg (Itr lo n) [it] it (fun i h=>IsRangeIter h it (lo+(i:Nat)*1) ((n:Int)-(i:Nat)) 1) where
 mem:=by simp
 obj:=fun i h st b hb=>by
  have e:b=it:=by simpa using hb
  subst e
  exact ⟨_,st,fun v z=>by
   have z':Data.fields _=Data.cell v:=z
   cases z'⟩
 keep:=fun i h h' st k=>k it (by simp) _ st
 item:=by
  intro X hP hw hK hc i pins s σ H E I hf st hg
  subst hP hw hK
  obtain ⟨f0,f1,f2,f3,f4,f5⟩:=hf it (by simp)
  have W:=Walks.range (prog:=X.prog) (w:=X.w) (I.ok.hd hc) it lo 1 n
  refine wpAny_with_toks (n:=X.t0) I.tk ?_
  refine W.item i s _ _ hg st fun v h' tk hv st' kk htk=>?_
  have htk:X.t0≤tk:=htk
  obtain ⟨t,rfl⟩:=hv
  have I1:Inv X pins σ H { s with heap:=h',toks:=tk }:=I.turned (fun b o hb e=>kk b o (by simpa using hb) e) f0 f1 f3 f4 f5
  refine ⟨_,rfl,ze3 (s:={ s with heap:=h',toks:=tk }) (n:="range_iterator") st' rfl rfl (by decide) ⟨.int (lo+i),H,I1,⟨t,?_⟩,⟨rfl,rfl⟩,st',fun b hb=>(hf b hb).1⟩⟩
  rw[Int.mul_one]
 done:=by
  intro X hP hw hK hc i pins s σ H E I hf st hg
  subst hP hw hK
  obtain ⟨f0,f1,f2,f3,f4,f5⟩:=hf it (by simp)
  exact wpAny_pyNext_range_end (I.ok.hd hc) st (by have:n≤i:=hg;omega) fun h' eb=>⟨rfl,I.turned (t':=s.toks) (fun b o hb e=>eb b o hb e) f0 f1 f3 f4 f5⟩
 self:=fun _ _ _ _ _ st h=>wpAny_pyIter_rangeiter st h
section
variable {X:Cx}{tg:Expr}
def iList (K:W.Frag) (tl:TE):TI:=fun σ H R=>tl σ H fun x H1=>∃a,x=.ref a∧(∃xs,SqL K H1 a xs)∧R (Itl K a) H1
def iTup (K:W.Frag) (tl:TE):TI:=fun σ H R=>tl σ H fun x H1=>∃a,x=.ref a∧(∃xs,SqT K H1 a xs)∧R (Itt K a) H1
theorem zbR {l:Expr}{tl:TE}(hl:PE X l tl):PI X tg l (iList X.K tl):=by
 intro pins s σ H R I h
 refine thn (hl pins s σ H _ I h) fun v s1 ⟨x,H1,I1,r1,q1⟩=>?_
 obtain ⟨a,e,⟨xs,hq⟩,q⟩:=q1
 subst e
 cases r1
 obtain ⟨its,rv,p,hz⟩:=I1.list hq
 refine wpAny_pyIter_list p.isList ?_
 refine ⟨s1.heap.objs.size,[s1.heap.objs.size],_,_,H1,rfl,I1.kept (t':=s1.toks) fun b o e=>Heap.get?_push_of_some _ e,zgG a _,⟨_,Heap.get?_push_size _ rfl,rfl,rfl⟩,fun b hb=>?_,q⟩
 have e:b=s1.heap.objs.size:=by simpa using hb
 subst e
 exact I1.fpOk (Nat.le_refl _) (I1.hok.fresh (Nat.le_refl _))
theorem za6 {l:Expr}{tl:TE}(hl:PE X l tl):PI X tg l (iTup X.K tl):=by
 intro pins s σ H R I h
 refine thn (hl pins s σ H _ I h) fun v s1 ⟨x,H1,I1,r1,q1⟩=>?_
 obtain ⟨a,e,⟨xs,hq⟩,q⟩:=q1
 subst e
 cases r1
 obtain ⟨its,rv,p,hz⟩:=I1.tuple hq
 refine wpAny_pyIter_tuple (show s1.heap.IsTuple a its.toArray from p) ?_
 refine ⟨s1.heap.objs.size,[s1.heap.objs.size],_,_,H1,rfl,I1.kept (t':=s1.toks) fun b o e=>Heap.get?_push_of_some _ e,zgg a _,⟨_,Heap.get?_push_size _ rfl,rfl,rfl⟩,fun b hb=>?_,q⟩
 have e:b=s1.heap.objs.size:=by simpa using hb
 subst e
 exact I1.fpOk (Nat.le_refl _) (I1.hok.fresh (Nat.le_refl _))
theorem zfH {pins:List (Addr×Obj)}{σ:St}{H:Hp}{s:Shared}{R:It→Hp→Prop}{E:Value→Shared→Prop}{lo hi:Int}{t u v:Tok}{tk:Nat}(I:Inv X pins σ H s) (h1:-(2 ^ 62)≤lo) (h2:lo<2 ^ 62) (h3:-(2 ^ 62)≤hi) (h4:hi<2 ^ 62)
  (q:R (Itr lo (hi-lo).toNat) H) (ht:X.t0≤tk:=by first|assumption|exact Inv.tk (by assumption)|(have q:=Inv.tk (by assumption);omega)):wpAny (model X.prog X.w) X.A (pyIter (.ref s.heap.objs.size)) (PIE X pins σ tg R) E { s with heap:=s.heap.push { cls:=.type "range",data:=.fields #[.int lo t,.int hi u,.int 1 v] },toks:=tk }:=by
 refine wpAny_pyIter_range (IsRange.new ..) (small_one h1 h2 h3 h4) ?_
 have I1:Inv X pins σ H { s with heap:=s.heap.push { cls:=.type "range",data:=.fields #[.int lo t,.int hi u,.int 1 v] },toks:=tk }:=I.kept fun b o e=>Heap.get?_push_of_some _ e
 refine ⟨(s.heap.push { cls:=.type "range",data:=.fields #[.int lo t,.int hi u,.int 1 v] }).objs.size,[(s.heap.push { cls:=.type "range",data:=.fields #[.int lo t,.int hi u,.int 1 v] }).objs.size],_,_,H,rfl,
  I1.kept (t':=tk) fun b o e=>Heap.get?_push_of_some _ e,zgh _ lo (hi-lo).toNat,?_,fun b hb=>?_,q⟩
 ·have e1:lo+((0:Nat):Int)*1=lo:=by simp
  have e2:(((hi-lo).toNat:Nat):Int)-((0:Nat):Int)=Builtin.Range.rangeSize lo hi 1:=by rw[rangeSize_one];split<;>omega
  show IsRangeIter _ _ (lo+((0:Nat):Int)*1) ((((hi-lo).toNat:Nat):Int)-((0:Nat):Int)) 1
  rw[e1,e2]
  exact Heap.get?_push_size _ rfl
 ·have e:b=(s.heap.push { cls:=.type "range",data:=.fields #[.int lo t,.int hi u,.int 1 v] }).objs.size:=by simpa using hb
  subst e
  exact I1.fpOk (Nat.le_refl _) (I1.hok.fresh (Nat.le_refl _))
def iRng1 (ta:TA):TI:=fun σ H R=>ta σ H fun vs H1=>∃j:Int,vs=[.int j]∧-(2 ^ 62)≤j∧j<2 ^ 62∧R (Itr 0 j.toNat) H1
theorem zbS {a:Expr}{ta:TA}{p pos:Pos}(hg:Gl X "range") (hm:X.mg "range"=none) (ha:PA X [a] ta) (hs:starEach [a] X.env=[(false,eval a X.env)]:=by rfl):PI X tg (.Call (.Name "range" p) [a] [] pos) (iRng1 ta):=by
 intro pins s σ H R I h
 refine Call_ (zc8 I hg hm boot_range (PyProof.Rows.callWith_type1 (thn (ha pos pins s σ H _ I h) fun us s1 ⟨vs,H1,I1,r1,q1⟩=>?_) hs rfl))
 obtain ⟨j,e,q1,q2,q⟩:=q1
 subst e
 cases r1 with
 |cons r rr=>
  cases rr
  obtain ⟨t,rfl⟩:=r
  exact call_range_1 (zfH I1 (by omega) (by omega) q1 q2 (by simpa using q))
def tFor (wi:TI) (g:TG) (tb:TS):TS:=fun D σ H=>wi σ H fun J H1=>∃W:Nat→Nat→St→Hp→Prop,(∃m,W 0 m σ H1)∧∀i m σ H,W i m σ H →
 (J.stop i H∧D.nx σ H)∨(J.go i H∧∃N:St→Hp→Prop,(∀σ' H',N σ' H'→∃m',m'<m∧W (i+1) m' σ' H')∧∀x H',J.yld i H x H'→g x σ H' fun σ2 H2=>tb { D with nx:=N,ct:=N,bk:=D.nx } σ2 H2)
def zc9 (fp:List Addr) (h:Heap):List (Addr×Obj):=fp.filterMap fun b=>(h.get? b).map fun o=>(b,o)
theorem za7 {fp:List Addr}{h:Heap}{b:Addr}{o:Obj}(hb:b∈fp) (e:h.get? b=some o):(b,o)∈zc9 fp h:=List.mem_filterMap.mpr ⟨b,hb,by rw[e];rfl⟩
theorem zgH {fp:List Addr}{h:Heap}{p:Addr×Obj}(hp:p∈zc9 fp h):p.1∈fp∧h.get? p.1=some p.2:=by
 obtain ⟨b,hb,e⟩:=List.mem_filterMap.mp hp
 cases q:h.get? b with
 |none=>rw[q] at e;cases e
 |some o=>
  rw[q] at e
  have e':(b,o)=p:=Option.some.inj e
  subst e'
  exact ⟨hb,q⟩
theorem Inv.pinned {pins:List (Addr×Obj)}{σ:St}{H:Hp}{s:Shared}{fp:List Addr}(I:Inv X pins σ H s) (hf:∀b∈fp,FpOk X pins H b) (ho:∀b∈fp,∃o,s.heap.get? b=some o∧∀v,o.data≠.cell v):Inv X (pins++zc9 fp s.heap) σ H s:=
 I.pins_of fun p hp=>(List.mem_append.mp hp).elim (fun z=>I.pin p (List.mem_append_right _ z)) fun z=>by
  obtain ⟨hb,e⟩:=zgH z
  obtain ⟨f0,f1,f2,_⟩:=hf p.1 hb
  obtain ⟨o,e',d⟩:=ho p.1 hb
  rw[e] at e';cases e'
  exact ⟨e,f0,f1,f2,d⟩
theorem Inv.unpinned {pins pl:List (Addr×Obj)}{σ:St}{H:Hp}{s:Shared}(I:Inv X (pins++pl) σ H s):Inv X pins σ H s:=I.pins_of fun p hp=>I.pin p (List.mem_append_right _ (List.mem_append_left _ hp))
theorem zbm {iter:Expr}{body:List Stmt}{wi:TI}{g:TG}{tb:TS}{pos:Pos}(hp:PassesOwn (model X.prog X.w) X.A X.env X.xe) (hc:X.calm=true) (hi:PI X tg iter wi) (hg:PG X tg g) (hb:PSs X body tb)
  (hs:∀x,foldedSetIterable iter X.env x=pure x:=by intro _;rfl):PS X (.For tg iter body [] pos) (tFor wi g tb):=by
 intro pins s σ H D I h
 refine wpAny_For (thn (hi pins s σ H _ I h) fun v s1 h1=>thn h1 fun itv s2 h2=>?_) hs
 obtain ⟨it,fp,tn,J,H2,e,I2,T,st2,f2,W,⟨m0,w0⟩,turn⟩:=h2
 subst e
 -- what stays true of the iterator's objects through the loop
 have stat:∀ {H':Hp},(∀b∈fp,H' b=none)→∀b∈fp,FpOk X pins H' b:=fun hn b hb=>⟨hn b hb,(f2 b hb).2⟩
 refine codeAny_forLoop_any (fun n s'=>∃i σ' H',Inv X pins σ' H' s'∧tn i s'.heap∧(∀b∈fp,H' b=none)∧W i n σ' H') ?_ m0 ⟨0,σ,H2,I2,st2,fun b hb=>(f2 b hb).1,w0⟩
 rintro n s3 ⟨i,σ3,H3,I3,st3,fr3,w3⟩
 rcases turn i n σ3 H3 w3 with ⟨stop,qn⟩|⟨go,N,hN,step⟩
 ·refine wpAny_passesOwn hp (thn (T.done X rfl rfl rfl hc i pins s3 σ3 H3 X.xe I3 (stat fr3) st3 stop) fun r s4 ⟨hr,I4⟩=>?_)
  subst hr
  exact wpAny_execs_nil ⟨σ3,H3,I4,qn⟩
 ·refine wpAny_passesOwn hp (thn (T.item X rfl rfl rfl hc i pins s3 σ3 H3 X.xe I3 (stat fr3) st3 go) fun r s4 ⟨u,hr,h4⟩=>?_)
  subst hr
  refine wpAny_passesOwn hp (thn h4 fun _ s5 ⟨x,H5,I5,r5,y5,st5,fr5⟩=>?_)
  have I5':=I5.pinned (stat fr5) (T.obj _ _ st5)
  refine wpAny_passesOwn hp (thn (hg _ s5 σ3 H5 x u _ I5' r5 (step x H5 y5)) fun _ s6 ⟨σ6,H6,I6,q6⟩=>?_)
  refine wpAny_passesOwn hp (thn (hb _ s6 σ6 H6 _ I6 q6) fun f s7 q7=>?_)
  have again:∀ {σ7:St} {H7:Hp},Inv X (pins++zc9 fp s5.heap) σ7 H7 s7→N σ7 H7→∃m,m<n∧∃i σ' H',Inv X pins σ' H' s7∧tn i s7.heap∧(∀b∈fp,H' b=none)∧W i m σ' H':=fun {σ7 H7} I7 n7=>by
   obtain ⟨m',hm,w7⟩:=hN σ7 H7 n7
   refine ⟨m',hm,i+1,σ7,H7,I7.unpinned,T.keep _ _ _ st5 fun b hb o e=>(I7.pin (b,o) (List.mem_append_right _ (List.mem_append_right _ (za7 hb e)))).1,fun b hb=>?_,w7⟩
   obtain ⟨o,e,d⟩:=T.obj _ _ st5 b hb
   exact (I7.pin (b,o) (List.mem_append_right _ (List.mem_append_right _ (za7 hb e)))).2.1
  cases f with
  |next=>obtain ⟨σ7,H7,I7,n7⟩:=q7;exact again I7 n7
  |cont=>obtain ⟨σ7,H7,I7,n7⟩:=q7;exact again I7 n7
  |brk=>obtain ⟨σ7,H7,I7,q7⟩:=q7;exact ⟨σ7,H7,I7.unpinned,q7⟩
  |ret v=>obtain ⟨x7,σ7,H7,I7,r7,q7⟩:=q7;exact ⟨x7,σ7,H7,I7.unpinned,r7,q7⟩
end
theorem zdP {K:W.Frag}{a:Addr}{xs:List V}{g:TG}{tb:TS}{D:Ends}{σ:St}{H:Hp}(Pv:Nat→St→Hp→Prop) (h0:Pv 0 σ H) (hl:∀i σ H,i≤xs.length→Pv i σ H→SqL K H a xs)
  (hs:∀i x σ H,xs[i]?=some x→Pv i σ H→g x σ H fun σ2 H2=>tb { D with nx:=Pv (i+1),ct:=Pv (i+1),bk:=D.nx } σ2 H2) (hd:∀σ H,Pv xs.length σ H→D.nx σ H) :
  ∃W:Nat→Nat→St→Hp→Prop,(∃m,W 0 m σ H)∧∀i m σ H,W i m σ H →
   ((Itl K a).stop i H∧D.nx σ H)∨((Itl K a).go i H∧∃N:St→Hp→Prop,(∀σ' H',N σ' H'→∃m',m'<m∧W (i+1) m' σ' H')∧∀x H',(Itl K a).yld i H x H'→g x σ H' fun σ2 H2=>tb { D with nx:=N,ct:=N,bk:=D.nx } σ2 H2):=by
 refine ⟨fun i m σ H=>m=xs.length-i∧i≤xs.length∧Pv i σ H,⟨xs.length,by simp,Nat.zero_le _,h0⟩,?_⟩
 rintro i m σ H ⟨rfl,hi,p⟩
 have q:=hl i σ H hi p
 by_cases hlt:i<xs.length
 ·refine .inr ⟨⟨xs,xs[i],q,by simp[hlt]⟩,Pv (i+1),fun σ' H' p'=>⟨xs.length-(i+1),by omega,rfl,hlt,p'⟩,fun x H' y=>?_⟩
  obtain ⟨e,y⟩:=y
  subst e
  exact hs i x σ _ (y xs q) p
 ·have e:i=xs.length:=by omega
  subst e
  exact .inl ⟨⟨xs,q,Nat.le_refl _⟩,hd σ H p⟩
theorem zcd {K:W.Frag}{a:Addr}{xs:List V}{g:TG}{tb:TS}{D:Ends}{σ:St}{H:Hp}(Pv:Nat→St→Hp→Prop) (h0:Pv 0 σ H) (hl:∀i σ H,i≤xs.length→Pv i σ H→SqT K H a xs)
  (hs:∀i x σ H,xs[i]?=some x→Pv i σ H→g x σ H fun σ2 H2=>tb { D with nx:=Pv (i+1),ct:=Pv (i+1),bk:=D.nx } σ2 H2) (hd:∀σ H,Pv xs.length σ H→D.nx σ H) :
  ∃W:Nat→Nat→St→Hp→Prop,(∃m,W 0 m σ H)∧∀i m σ H,W i m σ H →
   ((Itt K a).stop i H∧D.nx σ H)∨((Itt K a).go i H∧∃N:St→Hp→Prop,(∀σ' H',N σ' H'→∃m',m'<m∧W (i+1) m' σ' H')∧∀x H',(Itt K a).yld i H x H'→g x σ H' fun σ2 H2=>tb { D with nx:=N,ct:=N,bk:=D.nx } σ2 H2):=by
 refine ⟨fun i m σ H=>m=xs.length-i∧i≤xs.length∧Pv i σ H,⟨xs.length,by simp,Nat.zero_le _,h0⟩,?_⟩
 rintro i m σ H ⟨rfl,hi,p⟩
 have q:=hl i σ H hi p
 by_cases hlt:i<xs.length
 ·refine .inr ⟨⟨xs,xs[i],q,by simp[hlt]⟩,Pv (i+1),fun σ' H' p'=>⟨xs.length-(i+1),by omega,rfl,hlt,p'⟩,fun x H' y=>?_⟩
  obtain ⟨e,y⟩:=y
  subst e
  exact hs i x σ _ (y xs q) p
 ·have e:i=xs.length:=by omega
  subst e
  exact .inl ⟨⟨xs,q,Nat.le_refl _⟩,hd σ H p⟩
theorem zcn {lo:Int}{n:Nat}{g:TG}{tb:TS}{D:Ends}{σ:St}{H:Hp}(Pv:Nat→St→Hp→Prop) (h0:Pv 0 σ H)
  (hs:∀i σ H,i<n→Pv i σ H→g (.int (lo+i)) σ H fun σ2 H2=>tb { D with nx:=Pv (i+1),ct:=Pv (i+1),bk:=D.nx } σ2 H2) (hd:∀σ H,Pv n σ H→D.nx σ H) :
  ∃W:Nat→Nat→St→Hp→Prop,(∃m,W 0 m σ H)∧∀i m σ H,W i m σ H →
   ((Itr lo n).stop i H∧D.nx σ H)∨((Itr lo n).go i H∧∃N:St→Hp→Prop,(∀σ' H',N σ' H'→∃m',m'<m∧W (i+1) m' σ' H')∧∀x H',(Itr lo n).yld i H x H'→g x σ H' fun σ2 H2=>tb { D with nx:=N,ct:=N,bk:=D.nx } σ2 H2):=by
 refine ⟨fun i m σ H=>m=n-i∧i≤n∧Pv i σ H,⟨n,by simp,Nat.zero_le _,h0⟩,?_⟩
 rintro i m σ H ⟨rfl,hi,p⟩
 by_cases hlt:i<n
 ·refine .inr ⟨hlt,Pv (i+1),fun σ' H' p'=>⟨n-(i+1),by omega,rfl,hlt,p'⟩,fun x H' y=>?_⟩
  obtain ⟨e,y⟩:=y
  subst e y
  exact hs i σ _ hlt p
 ·have e:i=n:=by omega
  subst e
  exact .inl ⟨Nat.le_refl _,hd σ H p⟩
theorem zhY {c:TT}{tb:TS}{D:Ends}{σ:St}{H:Hp}(Pv:St→Hp→Prop) (μ:St→Hp→Nat) (h0:Pv σ H)
  (hs:∀σ H,Pv σ H→c σ H fun b H1=>if b=true then tb { D with nx:=fun σ' H'=>Pv σ' H'∧μ σ' H'<μ σ H,ct:=fun σ' H'=>Pv σ' H'∧μ σ' H'<μ σ H,bk:=D.nx } σ H1 else D.nx σ H1)
  (mono:∀σ H Q Q',(∀b H1,Q b H1→Q' b H1)→c σ H Q→c σ H Q'):ziD c tb D σ H:=by
 refine ⟨fun m σ H=>m=μ σ H∧Pv σ H,⟨_,rfl,h0⟩,?_⟩
 rintro m σ H ⟨rfl,p⟩
 refine mono σ H _ _ (fun b H1 q=>?_) (hs σ H p)
 cases b with
 |true=>exact ⟨_,fun σ' H' ⟨p',l⟩=>⟨_,l,rfl,p'⟩,q⟩
 |false=>exact q
abbrev R2:=V→V→Hp→VK→Prop
def OpR (X:Cx) (f:Value→Value→Sem Value) (r:R2):Prop:=
 ∀(pins:List (Addr×Obj)) (s:Shared) (σ:St) (H:Hp) (x y:V) (v u:Value) (Q:VK),Inv X pins σ H s→RelV x v→RelV y u→r x y H Q →
  wpAny (model X.prog X.w) X.A (f v u) (EP X pins σ Q) X.xe s
def UnR (X:Cx) (f:Value→Sem Value) (r:V→Hp→VK→Prop):Prop:=
 ∀(pins:List (Addr×Obj)) (s:Shared) (σ:St) (H:Hp) (x:V) (v:Value) (Q:VK),Inv X pins σ H s→RelV x v→r x H Q →
  wpAny (model X.prog X.w) X.A (f v) (EP X pins σ Q) X.xe s
def CallR (X:Cx) (f:Value) (r:List V→Hp→VK→Prop):Prop:=
 ∀(pins:List (Addr×Obj)) (s:Shared) (σ:St) (H:Hp) (xs:List V) (us:List Value) (Q:VK),Inv X pins σ H s→Vals xs us→r xs H Q →
  wpAny (model X.prog X.w) X.A (call f us) (EP X pins σ Q) X.xe s
def TruR (X:Cx) (r:V→Hp→(Bool→Hp→Prop)→Prop):Prop:=
 ∀(pins:List (Addr×Obj)) (s:Shared) (σ:St) (H:Hp) (x:V) (v:Value) (Q:Bool→Hp→Prop),Inv X pins σ H s→RelV x v→r x H Q →
  wpAny (model X.prog X.w) X.A (truthy v) (TP X pins σ Q) X.xe s
def tOp (r:R2) (ta tb:TE):TE:=fun σ H Q=>ta σ H fun x H1=>tb σ H1 fun y H2=>r x y H2 Q
def tUn (r:V→Hp→VK→Prop) (ta:TE):TE:=fun σ H Q=>ta σ H fun x H1=>r x H1 Q
def rI (C:Int→Int→Prop) (g:Int→Int→V):R2:=fun x y H Q=>∃i j,x=.int i∧y=.int j∧C i j∧Q (g i j) H
def rI0 (g:Int→Int→V):R2:=fun x y H Q=>∃i j,x=.int i∧y=.int j∧Q (g i j) H
def rU (g:Int→V):V→Hp→VK→Prop:=fun x H Q=>∃i,x=.int i∧Q (g i) H
section
variable {X:Cx}{a b c:Expr}{ta tb tc:TE}{pos:Pos}
theorem binT (ha:PE X a ta) (hb:PE X b tb){pins:List (Addr×Obj)}{s:Shared}{σ:St}{H:Hp}{R:V→V→Hp→Prop}(I:Inv X pins σ H s)
  (h:ta σ H fun x H1=>tb σ H1 fun y H2=>R x y H2) {Q:Value→Shared→Prop} {f:Value→Value→Sem Value}
  (hf:∀v u s2 x y H2,Inv X pins σ H2 s2→RelV x v→RelV y u→R x y H2→wpAny (model X.prog X.w) X.A (f v u) Q X.xe s2) :
  wpAny (model X.prog X.w) X.A (eval a X.env) (fun v s₁=>wpAny (model X.prog X.w) X.A (eval b X.env) (fun u s₂=>wpAny (model X.prog X.w) X.A (f v u) Q X.xe s₂) X.xe s₁) X.xe s:=by
 refine thn (ha pins s σ H _ I h) fun v s1 ⟨x,H1,I1,r1,q1⟩=>?_
 refine thn (hb pins s1 σ H1 _ I1 q1) fun u s2 ⟨y,H2,I2,r2,q2⟩=>?_
 exact hf v u s2 x y H2 I2 r1 r2 q2
theorem zaw {op:Operator}{r:R2}(ho:OpR X (binaryOp op) r) (ha:PE X a ta) (hb:PE X b tb):PE X (.BinOp a op b pos) (tOp r ta tb):=by
 intro pins s σ H Q I h
 exact wpAny_BinOp (binT ha hb I h fun v u s2 x y H2 I2 rx ry q=>ho pins s2 σ H2 x y v u Q I2 rx ry q)
theorem ziZ {op:UnaryOp}{r:V→Hp→VK→Prop}(ho:UnR X (unaryOp op) r) (ha:PE X a ta):PE X (.UnaryOp op a pos) (tUn r ta):=by
 intro pins s σ H Q I h
 exact UnaryOp_ (thn (ha pins s σ H _ I h) fun v s1 ⟨x,H1,I1,r1,q1⟩=>ho pins s1 σ H1 x v Q I1 r1 q1)
theorem opI {f:Value→Value→Sem Value}{C:Int→Int→Prop}{g:Int→Int→Int}
  (rule:∀(i j:Int) (t u:Tok) (s:Shared) (Q:Value→Shared→Prop) (E:Value→Shared→Prop),C i j→Q (.int (g i j) s.toks) { s with toks:=s.toks+1 }→wpAny (model X.prog X.w) X.A (f (.int i t) (.int j u)) Q E s) :
  OpR X f (rI C fun i j=>.int (g i j)):=by
 intro pins s σ H x y v u Q I rx ry h
 obtain ⟨i,j,rfl,rfl,hc,q⟩:=h
 obtain ⟨t,rfl⟩:=rx
 obtain ⟨t',rfl⟩:=ry
 exact rule i j t t' s _ _ hc ⟨.int (g i j),H,I.tok _,⟨_,rfl⟩,q⟩
theorem opI0 {f:Value→Value→Sem Value}{g:Int→Int→Int}
  (rule:∀(i j:Int) (t u:Tok) (s:Shared) (Q:Value→Shared→Prop) (E:Value→Shared→Prop),Q (.int (g i j) s.toks) { s with toks:=s.toks+1 }→wpAny (model X.prog X.w) X.A (f (.int i t) (.int j u)) Q E s) :
  OpR X f (rI0 fun i j=>.int (g i j)):=by
 intro pins s σ H x y v u Q I rx ry h
 obtain ⟨i,j,rfl,rfl,q⟩:=h
 obtain ⟨t,rfl⟩:=rx
 obtain ⟨t',rfl⟩:=ry
 exact rule i j t t' s _ _ ⟨.int (g i j),H,I.tok _,⟨_,rfl⟩,q⟩
theorem opB0 {f:Value→Value→Sem Value}{g:Int→Int→Bool}
  (rule:∀(i j:Int) (t u:Tok) (s:Shared) (Q:Value→Shared→Prop) (E:Value→Shared→Prop),Q (.bool (g i j)) s→wpAny (model X.prog X.w) X.A (f (.int i t) (.int j u)) Q E s) :
  OpR X f (rI0 fun i j=>.bl (g i j)):=by
 intro pins s σ H x y v u Q I rx ry h
 obtain ⟨i,j,rfl,rfl,q⟩:=h
 obtain ⟨t,rfl⟩:=rx
 obtain ⟨t',rfl⟩:=ry
 exact rule i j t t' s _ _ ⟨.bl (g i j),H,I,rfl,q⟩
def CDiv (i j:Int):Prop:=0<j∧j<1073741824
def CPow (i j:Int):Prop:=0≤j∧j≤1000000∧i.natAbs<2 ^ 64
def CMul (i j:Int):Prop:=(-(2 ^ 64)<i∧i<2 ^ 64)∨(-(2 ^ 64)<j∧j<2 ^ 64)
theorem CMul.ok {i j:Int}(h:CMul i j):IntMulOk i j:=by
 rcases h with ⟨h1,h2⟩|⟨h1,h2⟩
 ·exact .of_left (intBits_le_64 h1 h2)
 ·exact .of_right (intBits_le_64 h1 h2)
theorem zaK:OpR X (binaryOp .Add) (rI0 fun i j=>.int (i+j)):=opI0 fun _ _ _ _ _ _ _ q=>add_int q
theorem zj7:OpR X (binaryOp .Sub) (rI0 fun i j=>.int (i-j)):=opI0 fun _ _ _ _ _ _ _ q=>sub_int q
theorem zda:OpR X (binaryOp .Mult) (rI CMul fun i j=>.int (i*j)):=opI fun _ _ _ _ _ _ _ hc q=>mul_int q hc.ok
theorem ze4:OpR X (binaryOp .FloorDiv) (rI CDiv fun i j=>.int (i / j)):=opI fun i j _ _ _ _ _ hc q=>by
 have h1:(0:Int)<j:=hc.1
 have h2:j<1073741824:=hc.2
 exact floordiv_int (by omega) (by rw[Int.fdiv_eq_ediv_of_nonneg i (by omega)];exact q) (.inl (PyProof.noPylong_small (by omega)))
theorem zco:OpR X (binaryOp .Mod) (rI (fun _ j=>0<j) fun i j=>.int (i % j)):=opI fun i j _ _ _ _ _ hc q=>by
 have h1:(0:Int)<j:=hc
 exact mod_int' (by omega) (by rw[Int.fmod_eq_emod_of_nonneg i (by omega)];exact q)
theorem ziE:OpR X (binaryOp .Pow) (rI CPow fun i j=>.int (i ^ j.toNat)):=opI fun _ _ _ _ _ _ _ hc q=>pow_int_small hc.1 hc.2.1 hc.2.2 q
theorem unI {f:Value→Sem Value}{g:Int→Int}
  (rule:∀(i:Int) (t:Tok) (s:Shared) (Q:Value→Shared→Prop) (E:Value→Shared→Prop),Q (.int (g i) s.toks) { s with toks:=s.toks+1 }→wpAny (model X.prog X.w) X.A (f (.int i t)) Q E s) :
  UnR X f (rU fun i=>.int (g i)):=by
 intro pins s σ H x v Q I rx h
 obtain ⟨i,rfl,q⟩:=h
 obtain ⟨t,rfl⟩:=rx
 exact rule i t s _ _ ⟨.int (g i),H,I.tok _,⟨_,rfl⟩,q⟩
theorem zgI:UnR X (unaryOp .USub) (rU fun i=>.int (-i)):=unI fun _ _ _ _ _ q=>neg_int q
end
def scal:V→V→Bool
 |.non,.non=>true|.non,.int _=>true|.int _,.non=>true|.non,.bl _=>true|.bl _,.non=>true|.non,.str _=>true|.str _,.non=>true
 |.int _,.int _=>true|.bl _,.bl _=>true|.str _,.str _=>true|.byt _,.byt _=>true
 |.int _,.str _=>true|.str _,.int _=>true|.bl _,.str _=>true|.str _,.bl _=>true
 |_,_=>false
def rEq:R2:=fun x y H Q=>scal x y=true∧Q (.bl (decide (x=y))) H
def rNe:R2:=fun x y H Q=>scal x y=true∧Q (.bl (!decide (x=y))) H
theorem zgJ {i j:Int}:decide (V.int i=V.int j)=(i==j):=by
 rw[Bool.eq_iff_iff]
 simp
theorem ziF {i j:Bool}:decide (V.bl i=V.bl j)=(i==j):=by
 rw[Bool.eq_iff_iff]
 simp
theorem zgK {i j:Str}:decide (V.str i=V.str j)=(i==j):=by
 rw[Bool.eq_iff_iff]
 simp
theorem zgL {i j:Array UInt8}:decide (V.byt i=V.byt j)=(i.toList==j.toList):=by
 rw[Bool.eq_iff_iff]
 cases i
 cases j
 simp
section
variable {X:Cx}{a b c:Expr}{ta tb tc:TE}{pos:Pos}
theorem zaE {pins:List (Addr×Obj)}{σ:St}{H:Hp}{s:Shared}{Q:VK}{k k':Bool}(I:Inv X pins σ H s) (q:Q (.bl k) H) (e:k=k'):EP X pins σ Q (.bool k') s:=by
 subst e
 exact ⟨.bl k,H,I,rfl,q⟩
theorem zbw:OpR X (compareOp .Eq) rEq:=by
 intro pins s σ H x y v u Q I rx ry h
 obtain ⟨hs,q⟩:=h
 cases x with
 |non=>
  cases rx
  cases y with
  |non=>cases ry;exact PySem.EqNone.eq_none_none (zaE I q (by simp))
  |bl j=>cases ry;exact PySem.EqNone.eq_none_bool (zaE I q (by simp))
  |int j=>obtain ⟨t',rfl⟩:=ry;exact PySem.EqNone.eq_none_int (zaE I q (by simp))
  |str j=>obtain ⟨t',rfl⟩:=ry;exact PySem.EqNone.eq_none_str (zaE I q (by simp))
  |_=>exact absurd (show false=true from hs) Bool.false_ne_true
 |bl i=>
  cases rx
  cases y with
  |non=>cases ry;exact PySem.EqNone.eq_bool_none (zaE I q (by simp))
  |bl j=>cases ry;exact eq_bool (zaE I q ziF)
  |str j=>obtain ⟨t',rfl⟩:=ry;exact PySem.EqMixed.eq_bool_str (zaE I q (by simp))
  |_=>exact absurd (show false=true from hs) Bool.false_ne_true
 |int i=>
  obtain ⟨t,rfl⟩:=rx
  cases y with
  |non=>cases ry;exact PySem.EqNone.eq_int_none (zaE I q (by simp))
  |int j=>obtain ⟨t',rfl⟩:=ry;exact eq_int (zaE I q zgJ)
  |str j=>obtain ⟨t',rfl⟩:=ry;exact PySem.EqMixed.eq_int_str (zaE I q (by simp))
  |_=>exact absurd (show false=true from hs) Bool.false_ne_true
 |str i=>
  obtain ⟨t,rfl⟩:=rx
  cases y with
  |non=>cases ry;exact PySem.EqNone.eq_str_none (zaE I q (by simp))
  |bl j=>cases ry;exact PySem.EqMixed.eq_str_bool (zaE I q (by simp))
  |int j=>obtain ⟨t',rfl⟩:=ry;exact PySem.EqMixed.eq_str_int (zaE I q (by simp))
  |str j=>obtain ⟨t',rfl⟩:=ry;exact eq_str (zaE I q zgK)
  |_=>exact absurd (show false=true from hs) Bool.false_ne_true
 |byt i=>
  obtain ⟨t,rfl⟩:=rx
  cases y with
  |byt j=>obtain ⟨t',rfl⟩:=ry;exact W.eq_bytes (zaE I q zgL)
  |_=>exact absurd (show false=true from hs) Bool.false_ne_true
 |_=>cases y<;>exact absurd (show false=true from hs) Bool.false_ne_true
theorem zdx:OpR X (compareOp .NotEq) rNe:=by
 intro pins s σ H x y v u Q I rx ry h
 obtain ⟨hs,q⟩:=h
 cases x with
 |non=>
  cases rx
  cases y with
  |non=>cases ry;exact PySem.EqNone.ne_none_none (zaE I q (by simp))
  |bl j=>cases ry;exact PySem.EqNone.ne_none_bool (zaE I q (by simp))
  |int j=>obtain ⟨t',rfl⟩:=ry;exact PySem.EqNone.ne_none_int (zaE I q (by simp))
  |str j=>obtain ⟨t',rfl⟩:=ry;exact PySem.EqNone.ne_none_str (zaE I q (by simp))
  |_=>exact absurd (show false=true from hs) Bool.false_ne_true
 |bl i=>
  cases rx
  cases y with
  |non=>cases ry;exact PySem.EqNone.ne_bool_none (zaE I q (by simp))
  |bl j=>cases ry;exact ne_bool (zaE I q (congrArg not ziF))
  |str j=>obtain ⟨t',rfl⟩:=ry;exact PySem.EqMixed.ne_bool_str (zaE I q (by simp))
  |_=>exact absurd (show false=true from hs) Bool.false_ne_true
 |int i=>
  obtain ⟨t,rfl⟩:=rx
  cases y with
  |non=>cases ry;exact PySem.EqNone.ne_int_none (zaE I q (by simp))
  |int j=>obtain ⟨t',rfl⟩:=ry;exact ne_int (zaE I q (congrArg not zgJ))
  |str j=>obtain ⟨t',rfl⟩:=ry;exact PySem.EqMixed.ne_int_str (zaE I q (by simp))
  |_=>exact absurd (show false=true from hs) Bool.false_ne_true
 |str i=>
  obtain ⟨t,rfl⟩:=rx
  cases y with
  |non=>cases ry;exact PySem.EqNone.ne_str_none (zaE I q (by simp))
  |bl j=>cases ry;exact PySem.EqMixed.ne_str_bool (zaE I q (by simp))
  |int j=>obtain ⟨t',rfl⟩:=ry;exact PySem.EqMixed.ne_str_int (zaE I q (by simp))
  |str j=>obtain ⟨t',rfl⟩:=ry;exact ne_str (zaE I q (congrArg not zgK))
  |_=>exact absurd (show false=true from hs) Bool.false_ne_true
 |byt i=>
  obtain ⟨t,rfl⟩:=rx
  cases y with
  |byt j=>obtain ⟨t',rfl⟩:=ry;exact W.ne_bytes (zaE I q (congrArg not zgL))
  |_=>exact absurd (show false=true from hs) Bool.false_ne_true
 |_=>cases y<;>exact absurd (show false=true from hs) Bool.false_ne_true
theorem zgi:OpR X (compareOp .Lt) (rI0 fun i j=>.bl (decide (i<j))):=opB0 fun _ _ _ _ _ _ _ q=>lt_int q
theorem ze5:OpR X (compareOp .LtE) (rI0 fun i j=>.bl (decide (i≤j))):=opB0 fun _ _ _ _ _ _ _ q=>le_int q
theorem zhZ:OpR X (compareOp .Gt) (rI0 fun i j=>.bl (decide (j<i))):=opB0 fun _ _ _ _ _ _ _ q=>gt_int q
theorem zeu:OpR X (compareOp .In) (fun x y H Q=>∃i j,x=.str i∧y=.str j∧Q (.bl (!(Builtin.Str.occurrences j i 0 j.length 1).isEmpty)) H):=by
 intro pins s σ H x y v u Q I rx ry h
 obtain ⟨i,j,rfl,rfl,q⟩:=h
 obtain ⟨t,rfl⟩:=rx
 obtain ⟨t',rfl⟩:=ry
 exact in_str (zaE I q rfl)
theorem zj8:OpR X (compareOp .Is) (fun x y H Q=>y=.non∧Q (.bl (decide (x=.non))) H):=by
 intro pins s σ H x y v u Q I rx ry h
 obtain ⟨rfl,q⟩:=h
 cases ry
 refine is_none_gen (zaE I q ?_)
 cases x<;>first
  |(cases rx;rfl)
  |(obtain ⟨t,rfl⟩:=rx;rfl)
theorem zev:OpR X (compareOp .NotIn) (fun x y H Q=>∃i j,x=.str i∧y=.str j∧Q (.bl (!(!(Builtin.Str.occurrences j i 0 j.length 1).isEmpty))) H):=by
 intro pins s σ H x y v u Q I rx ry h
 obtain ⟨i,j,rfl,rfl,q⟩:=h
 obtain ⟨t,rfl⟩:=rx
 obtain ⟨t',rfl⟩:=ry
 exact notIn_str (zaE I q rfl)
theorem zax (b:Expr){op:CmpOp}(h:op≠.In:=by decide) (h2:op≠.NotIn:=by decide):behindInMarks op b=false:=by
 have e1:(op==CmpOp.In)=false:=by cases op<;>first|rfl|exact absurd rfl h
 have e2:(op==CmpOp.NotIn)=false:=by cases op<;>first|rfl|exact absurd rfl h2
 cases b<;>simp[behindInMarks,e1,e2]
theorem zbT {op:CmpOp}{r:R2}(ho:OpR X (compareOp op) r) (ha:PE X a ta) (hb:PE X b tb) (hm:behindInMarks op b=false):PE X (.Compare a [op] [b] pos) (tOp r ta tb):=by
 intro pins s σ H Q I h
 exact wpAny_Compare1 (binT ha hb I h fun v u s2 x y H2 I2 rx ry q=>ho pins s2 σ H2 x y v u Q I2 rx ry q) hm
def tTest (t:TE):TT:=fun σ H Q=>t σ H fun x H'=>∃k,x=.bl k∧Q k H'
theorem zaq {op:CmpOp}{r:R2}(ho:OpR X (compareOp op) r) (ha:PE X a ta) (hb:PE X b tb) (hm:behindInMarks op b=false):PT X (.Compare a [op] [b] pos) (tTest (tOp r ta tb)):=by
 intro pins s σ H Q I h
 refine wpAny_isTrue_Compare1 (thn (ha pins s σ H _ I h) fun v s1 ⟨x,H1,I1,r1,q1⟩=>thn (hb pins s1 σ H1 _ I1 q1) fun u s2 ⟨y,H2,I2,r2,q2⟩=>
  thn (ho pins s2 σ H2 x y v u _ I2 r1 r2 q2) fun c s3 ⟨z,H3,I3,r3,k,e,q3⟩=>?_) hm
 subst e
 cases r3
 exact wpAny_truthy_bool ⟨H3,I3,q3⟩
def ziG (r r':R2) (ta tb tc:TE):TE:=fun σ H Q=>ta σ H fun x H1=>tb σ H1 fun y H2=>r x y H2 fun z H3=>∃k,z=.bl k ∧
 (if k=true then tc σ H3 fun w' H4=>r' y w' H4 Q else Q (.bl false) H3)
theorem zfI {op op':CmpOp}{r r':R2}(ho:OpR X (compareOp op) r) (ho':OpR X (compareOp op') r') (ha:PE X a ta) (hb:PE X b tb) (hc:PE X c tc)
  (hm:lastMarks [op,op'] [b,c]=false:=by with_unfolding_all rfl):PE X (.Compare a [op,op'] [b,c] pos) (ziG r r' ta tb tc):=by
 intro pins s σ H Q I h
 refine Compare_chain (thn (ha pins s σ H _ I h) fun v s1 ⟨x,H1,I1,r1,q1⟩=>chain_link (thn (hb pins s1 σ H1 _ I1 q1) fun u s2 ⟨y,H2,I2,r2,q2⟩=>
  thn (ho pins s2 σ H2 x y v u _ I2 r1 r2 q2) fun d s3 ⟨z,H3,I3,r3,k,e,q3⟩=>?_)) hm
 subst e
 cases r3
 refine wpAny_truthy_bool ?_
 cases k with
 |false=>exact ite_ff ⟨.bl false,H3,I3,rfl,q3⟩
 |true=>exact ite_tt (chain_last (thn (hc pins s3 σ H3 _ I3 q3) fun w' s4 ⟨z',H4,I4,r4,q4⟩=>ho' pins s4 σ H4 y z' u w' Q I4 r2 r4 q4))
theorem zdQ {op op':CmpOp}{r r':R2}(ho:OpR X (compareOp op) r) (ho':OpR X (compareOp op') r') (ha:PE X a ta) (hb:PE X b tb) (hc:PE X c tc)
  (hm:lastMarks [op,op'] [b,c]=false:=by with_unfolding_all rfl):PT X (.Compare a [op,op'] [b,c] pos) (tTest (ziG r r' ta tb tc)):=by
 intro pins s σ H Q I h
 refine isTrue_chain (thn (ha pins s σ H _ I h) fun v s1 ⟨x,H1,I1,r1,q1⟩=>test_link (thn (hb pins s1 σ H1 _ I1 q1) fun u s2 ⟨y,H2,I2,r2,q2⟩=>
  thn (ho pins s2 σ H2 x y v u _ I2 r1 r2 q2) fun d s3 ⟨z,H3,I3,r3,k,e,q3⟩=>?_)) hm
 subst e
 cases r3
 refine wpAny_truthy_bool ?_
 cases k with
 |false=>
  obtain ⟨k',e',q'⟩:=q3
  cases e'
  exact ite_ff ⟨H3,I3,q'⟩
 |true=>
  refine ite_tt (test_last (thn (hc pins s3 σ H3 _ I3 q3) fun w' s4 ⟨z',H4,I4,r4,q4⟩=>thn (ho' pins s4 σ H4 y z' u w' _ I4 r2 r4 q4) fun d' s5 ⟨z2,H5,I5,r5,k2,e2,q5⟩=>?_))
  subst e2
  cases r5
  exact wpAny_truthy_bool ⟨H5,I5,q5⟩
def TruV (K:W.Frag) (x:V) (H:Hp) (k:Bool):Prop:=
 match x with
 |.non=>k=false
 |.bl b=>k=b
 |.int i=>k=(i != 0)
 |.str y=>y.length≤sizeLine∧k=((y.length:Int) != 0)
 |.byt y=>y.size≤sizeLine∧k=((y.size:Int) != 0)
 |.ref p=>(∃xs,SqL K H p xs∧k=!xs.isEmpty)∨(∃xs,SqT K H p xs∧k=!xs.isEmpty)∨∃kvs,H p=some (.dK kvs)∧k=!kvs.isEmpty
 |_=>False
theorem zgj {κ:Type}{kvs:List (κ×V)}{vs:List (κ×Value)}(r:KV kvs vs):(!vs.isEmpty)=!kvs.isEmpty:=by
 cases r<;>rfl
theorem zdA {xs:List V}{its:List Value}(r:Vals xs its):(!its.toArray.isEmpty)=!xs.isEmpty:=by
 cases r<;>simp
theorem zdb:(sizeLine:Nat)<2 ^ 63:=by rw[sizeLine_eq];decide
theorem zll:TruR X (fun x H Q=>∃k,TruV X.K x H k∧Q k H):=by
 intro pins s σ H x v Q I rx h
 obtain ⟨k,e,q⟩:=h
 have hl:=zdb
 have hs:sizeLine=16777216:=sizeLine_eq
 cases x with
 |non=>
  cases rx
  have e':k=false:=e
  subst e'
  exact truthy_none ⟨H,I,q⟩
 |bl b=>
  cases rx
  have e':k=b:=e
  subst e'
  exact wpAny_truthy_bool ⟨H,I,q⟩
 |int i=>
  obtain ⟨t,rfl⟩:=rx
  have e':k=(i != 0):=e
  subst e'
  exact PySem.P.truthy_int ⟨H,I,q⟩
 |str y=>
  obtain ⟨t,rfl⟩:=rx
  obtain ⟨hy,e'⟩:y.length≤sizeLine∧k=((y.length:Int) != 0):=e
  subst e'
  exact PySem.P.truthy_str (by omega) ⟨H,I.tok _,q⟩
 |byt y=>
  obtain ⟨t,rfl⟩:=rx
  obtain ⟨hy,e'⟩:y.size≤sizeLine∧k=((y.size:Int) != 0):=e
  subst e'
  exact W.truthy_bytes (by omega) ⟨H,I.tok _,q⟩
 |ref p=>
  cases rx
  have e':(∃xs,SqL X.K H p xs∧k=!xs.isEmpty)∨(∃xs,SqT X.K H p xs∧k=!xs.isEmpty)∨∃kvs,H p=some (.dK kvs)∧k=!kvs.isEmpty:=e
  rcases e' with ⟨xs,hx,e'⟩|⟨xs,hx,e'⟩|⟨kvs,hx,e'⟩
  ·subst e'
   obtain ⟨its,r,pl,hz⟩:=I.list hx
   have hlen:=r.length
   exact wpAny_truthy_list pl.isList (by simp only[List.size_toArray];omega) ⟨H,I.tok _,by rw[zdA r];exact q⟩
  ·subst e'
   obtain ⟨its,r,pl,hz⟩:=I.tuple hx
   have hlen:=r.length
   exact truthy_tuple pl (by simp only[List.size_toArray];omega) ⟨H,I.tok _,by rw[zdA r];exact q⟩
  ·subst e'
   obtain ⟨hz,hS,vs,r,m⟩:kvs.length≤sizeLine∧(p==sysModules)=false∧∃vs,KV kvs vs∧s.heap.DictOf (zaX X.prog X.w) p vs:=I.hok p _ hx
   have hlen:kvs.length=vs.length:=Paired.length r
   exact wpAny_truthy_dict hS m (by omega) ⟨H,I.tok _,by rw[zgj r];exact q⟩
 |_=>exact (show False from e).elim
theorem zaF:OpR X (binaryOp .Add) (fun x y H Q=>∃i j,x=.str i∧y=.str j∧i.length+j.length≤sizeLine∧Q (.str (i++j)) H):=by
 intro pins s σ H x y v u Q I rx ry h
 obtain ⟨i,j,rfl,rfl,hz,q⟩:=h
 obtain ⟨t,rfl⟩:=rx
 obtain ⟨t',rfl⟩:=ry
 exact wpAny_with_toks (n:=X.t0) I.tk (add_str (fun t' tk ht=>⟨.str (i++j),H,I.tok _ ht,⟨_,rfl⟩,q⟩) hz)
theorem vals1 {x:V}{us:List Value}(r:Vals [x] us):∃u,us=[u]∧RelV x u:=by
 cases r with
 |cons r1 r2=>cases r2;exact ⟨_,rfl,r1⟩
theorem vals2 {x y:V}{us:List Value}(r:Vals [x,y] us):∃u w',us=[u,w']∧RelV x u∧RelV y w':=by
 cases r with
 |cons r1 r2=>
  cases r2 with
  |cons r3 r4=>cases r4;exact ⟨_,_,rfl,r1,r3⟩
theorem zgM (hc:X.calm=true):CallR X (.builtin "min") (fun xs H Q=>∃i j,xs=[.int i,.int j]∧Q (.int (if j<i then j else i)) H):=by
 intro pins s σ H xs us Q I r h
 obtain ⟨i,j,rfl,q⟩:=h
 obtain ⟨u,w',rfl,⟨t,rfl⟩,⟨t',rfl⟩⟩:=vals2 r
 refine wpAny_with_toks (n:=X.t0) I.tk (min_two_ints (I.ok.hd hc) fun h' tk k ht=>⟨_,H,I.kept k ht,?_,q⟩)
 by_cases hj:j<i
 ·rw[if_pos hj,if_pos hj];exact ⟨_,rfl⟩
 ·rw[if_neg hj,if_neg hj];exact ⟨_,rfl⟩
theorem zdc:CallR X (.type "int") (fun xs H Q=>(∃i,xs=[.int i]∧Q (.int i) H)∨∃k,xs=[.bl k]∧Q (.int (if k then 1 else 0)) H):=by
 intro pins s σ H xs us Q I r h
 rcases h with ⟨i,rfl,q⟩|⟨k,rfl,q⟩
 ·obtain ⟨u,rfl,t,rfl⟩:=vals1 r
  exact call_int_int ⟨.int i,H,I,⟨_,rfl⟩,q⟩
 ·obtain ⟨u,rfl,r1⟩:=vals1 r
  cases r1
  exact call_int_bool ⟨.int (if k then 1 else 0),H,I.tok _,⟨_,rfl⟩,q⟩
theorem zbU:CallR X (.type "str") (fun xs H Q=>∃i,xs=[.int i]∧i.natAbs.log2<1920∧Q (.str (toString i)) H):=by
 intro pins s σ H xs us Q I r h
 obtain ⟨i,rfl,hz,q⟩:=h
 obtain ⟨u,rfl,t,rfl⟩:=vals1 r
 exact PySem.P.str_of_int hz ⟨.str _,H,I.tok _,⟨_,rfl⟩,q⟩
theorem zh0:CallR X (.builtin "ord") (fun xs H Q=>∃x,xs=[.str x]∧x.length=1∧Q (.int (x.cps.getD 0 0:Nat)) H):=by
 intro pins s σ H xs us Q I r h
 obtain ⟨x,rfl,hz,q⟩:=h
 obtain ⟨u,rfl,t,rfl⟩:=vals1 r
 exact ord_of_one hz ⟨.int _,H,I.tok _,⟨_,rfl⟩,q⟩
end
structure ObjM (h:Heap) (x dx C:Addr) (mA:Str→Option Value):Prop where
 obj:h.get? x=some (W.instObj C dx)
 ns:h.Ns1 dx mA
 ne:dx≠x
theorem zgN {h:Heap}{dx:Addr}{mA:Str→Option Value}(n:h.Ns1 dx mA):∃od,h.get? dx=some od∧∀name,W.lookIn name od=some (mA name):=by
 obtain ⟨o,es,ep,ho,hd,hk,_,hm⟩:=n
 refine ⟨o,ho,fun name=>?_⟩
 have e:=hm name
 unfold nsFind findBy at e
 rw[←Array.find?_toList] at e
 unfold W.lookIn
 rw[hd]
 dsimp only
 split
 ·rename_i y q
  rw[q] at e
  exact congrArg some e
 ·rename_i q
  rw[q] at e
  have a:es.toList.any (·.refKey)=false:=by
   rw[List.any_eq_false]
   intro y hy
   obtain ⟨z,t,hkey⟩:=hk y (Array.mem_toList_iff.mp hy)
   simp[DictEntry.refKey,hkey]
  have a':¬es.toList.any (·.refKey)=true:=by rw[a];exact Bool.false_ne_true
  rw[if_neg a']
  exact congrArg some e
theorem ObjM.look {h:Heap}{x dx C:Addr}{mA:Str→Option Value}(I:ObjM h x dx C mA):∃od,W.InstAt h x (W.instObj C dx) C (some od)∧∀name,W.lookIn name od=some (mA name):=
 let ⟨od,ho,hl⟩:=zgN I.ns
 ⟨od,⟨I.obj,rfl,rfl,ho⟩,hl⟩
section
variable {prog:Program}{w:World}{A:Around}{E:Value→Shared→Prop}{s:Shared}{K:W.Frag}{x dx C f:Addr}{mA:Str→Option Value}{name:Str}{v:Value}
end
theorem RelO.some_of {v:V}{o:Option Value}(r:RelO (some v) o):∃u,o=some u∧RelV v u:=by
 cases o with
 |none=>exact (show False from r).elim
 |some u=>exact ⟨u,rfl,r⟩
section
variable {P:Program}{w:World}{H H':Hp}{h h':Heap}{a C dx:Addr}{fs fs':List (Str×V)}
theorem zi0 (hok:HOk P w H h) (e:H a=some (.ins C dx fs)):∃mA,ObjM h a dx C mA∧(∀f,RelO (fs.lookup f) (mA f))∧PySem.Within mA (fs.map (·.1))∧fs.length≤1000∧H dx=some (.own a):=by
 obtain ⟨d,z,ne,ob,mA,n,r,q⟩:=(show ObjOk P w H h a (.ins C dx fs) from hok a _ e)
 exact ⟨mA,⟨ob,n,ne⟩,r,q,z,d⟩
end
structure Cls (K:W.Frag) (C:Addr):Prop where
 pg:W.plainGet K C Str.empty=true
 hd:W.hasDictIn K C=true
 po:W.plainOver K C=true
 sa:W.findIn K (.ref C) "__setattr__"=some (some (.builtin "object.__setattr__"))
theorem Cls.get {K:W.Frag}{C:Addr}(c:Cls K C) (f:Str):W.plainGet K C f=true:=c.pg
section
variable {X:Cx}{pins:List (Addr×Obj)}{σ:St}{H:Hp}{s:Shared}{a C dx:Addr}{fs:List (Str×V)}{f:Str}{v:V}{A:Around}{E:Value→Shared→Prop}
end
section
variable {X:Cx}{o e value:Expr}{f:Str}{pos pos' tpos:Pos}{ta tv:TE}
end
section
variable {X:Cx}{pins:List (Addr×Obj)}{σ:St}{H:Hp}{s:Shared}{A:Around}{E:Value→Shared→Prop}{Q:Value→Shared→Prop}{c:Value}{b:Bool}
inductive TyOf (K:W.Frag) (H:Hp):V→Value→Prop where
 |non:TyOf K H .non (.type "NoneType")
 |bl (x:Bool):TyOf K H (.bl x) (.type "bool")
 |int (i:Int):TyOf K H (.int i) (.type "int")
 |str (x:Str):TyOf K H (.str x) (.type "str")
 |flt (x:UInt64):TyOf K H (.flt x) (.type "float")
 |lst {a:Addr} {xs:List V} (e:H a=some (.lst xs)):TyOf K H (.ref a) (.type "list")
 |frz {a:Addr} {o:Obj} {xs:List V} (e:H a=some (.frz o (.lst xs))):TyOf K H (.ref a) (.type "list")
 |tup {a:Addr} {xs:List V} (e:H a=some (.tup xs)):TyOf K H (.ref a) (.type "tuple")
 |dK {a:Addr} {kvs:List (Key×V)} (e:H a=some (.dK kvs)):TyOf K H (.ref a) (.type "dict")
 |dT {a:Addr} {kvs:List (List Key×V)} (e:H a=some (.dT kvs)):TyOf K H (.ref a) (.type "dict")
 |ins {a C dx:Addr} {fs:List (Str×V)} (e:H a=some (.ins C dx fs)) (cl:Cls K C) (ha:W.findIn K (.ref C) "__class__"=some (some (.builtin "object.__class__")))
   (hn:W.specialIn K (.builtin "object.__class__") "__get__"=some (some (.builtin "getset_descriptor.__get__"))) (htk:W.takesIn K (.builtin "object.__class__")=some true)
   (hm:W.mroIn K C (.type "object")=some true):TyOf K H (.ref a) (.ref C)
theorem zgO {x:V}{u t:Value}(I:Inv X pins σ H s) (rx:RelV x u) (ty:TyOf X.K H x t) (e:W.kitOne X.K t c=some b) (h:∀tk,Q (.bool b) { s with toks:=tk }) :
  wpAny (model X.prog X.w) A (call (.builtin "isinstance") [u,c]) Q E s:=by
 cases ty with
 |non=>cases (show u=Value.none from rx);exact W.kia_one W.kitx_none I.kIn True.intro e (fun z=>nomatch z) h
 |bl y=>cases (show u=Value.bool y from rx);exact W.kia_one W.kitx_bool I.kIn True.intro e (fun z=>nomatch z) h
 |int i=>obtain ⟨t,q⟩:=(show ∃t,u=Value.int i t from rx);cases q;exact W.kia_one W.kitx_int I.kIn True.intro e (fun z=>nomatch z) h
 |str y=>obtain ⟨t,q⟩:=(show ∃t,u=Value.str y t from rx);cases q;exact W.kia_one W.kitx_str I.kIn True.intro e (fun z=>nomatch z) h
 |flt y=>obtain ⟨t,q⟩:=(show ∃t,u=Value.float y t from rx);cases q;exact W.kia_one W.kitx_float I.kIn True.intro e (fun z=>nomatch z) h
 |@lst a xs ea=>
  cases (show u=Value.ref a from rx)
  obtain ⟨_,_,n,_,h1⟩:=(show ObjOk X.prog X.w H s.heap a (.lst xs) from I.hok a _ ea)
  exact W.kia_one W.kitx_list I.kIn ⟨_,h1,rfl⟩ e (fun z=>nomatch z) h
 |@frz a ob xs ea=>
  cases (show u=Value.ref a from rx)
  obtain ⟨_,_,_,n,_,h1⟩:=(show ObjOk X.prog X.w H s.heap a (.frz ob (.lst xs)) from I.hok a _ ea)
  exact W.kia_one W.kitx_list I.kIn ⟨_,h1,rfl⟩ e (fun z=>nomatch z) h
 |@tup a xs ea=>
  cases (show u=Value.ref a from rx)
  obtain ⟨_,_,_,p⟩:=(show ObjOk X.prog X.w H s.heap a (.tup xs) from I.hok a _ ea)
  obtain ⟨o,h1,h2,_⟩:=p
  exact W.kia_one W.kitx_tuple I.kIn ⟨o,h1,h2⟩ e (fun z=>nomatch z) h
 |@dK a kvs ea=>
  cases (show u=Value.ref a from rx)
  obtain ⟨_,_,vs,_,p⟩:=(show ObjOk X.prog X.w H s.heap a (.dK kvs) from I.hok a _ ea)
  obtain ⟨o,es,ep,h1,h2,_⟩:=p
  exact W.kia_one W.kitx_dict I.kIn ⟨o,h1,h2.1⟩ e (fun z=>nomatch z) h
 |@dT a kvs ea=>
  cases (show u=Value.ref a from rx)
  obtain ⟨_,_,xs,_,o,es,ep,h1,h2,_⟩:=(show ObjOk X.prog X.w H s.heap a (.dT kvs) from I.hok a _ ea)
  exact W.kia_one W.kitx_dict I.kIn ⟨o,h1,h2.1⟩ e (fun z=>nomatch z) h
 |@ins a C dx fs ea cl ha hn htk hm=>
  cases (show u=Value.ref a from rx)
  obtain ⟨mA,O,_⟩:=zi0 I.hok ea
  obtain ⟨od,J,_⟩:=O.look
  exact W.kia_one (W.kitx_own (cl.get _) cl.hd ha hn htk hm) I.kIn J e (fun z=>nomatch z) h
end
structure Room (k:Nat) (A:Around):Prop where
 hd:A.handled=none
 dp:A.depth+3*k+5<recursionLimit
 un:A.units+16*k+200<cLine
theorem Room.mono {j k:Nat}{A:Around}(r:Room k A) (h:j≤k):Room j A:=⟨r.hd,by have:=r.dp;omega,by have:=r.un;omega⟩
theorem Room.deeper {k:Nat}{A:Around}(r:Room (k+1) A) (env:Env):Room k (A.deeper env):=
 ⟨r.hd,by have:=r.dp;show A.depth+1+3*k+5<_;omega,by have:=r.un;show A.units+3+16*k+200<_;omega⟩
theorem Room.in1 {k:Nat}{A:Around}(r:Room (k+1) A):Room k A.in1:=
 ⟨r.hd,by have:=r.dp;show A.depth+3*k+5<_;omega,by have:=r.un;show A.units+1+16*k+200<_;omega⟩
theorem Room.depth {k:Nat}{A:Around}(r:Room k A):A.depth<recursionLimit:=by have:=r.dp;omega
theorem Room.units {k:Nat}{A:Around}(r:Room k A):A.units+64<cLine:=by have:=r.un;omega
theorem Room.units0 {k:Nat}{A:Around}(r:Room k A):A.units<cLine:=by have:=r.un;omega
def tNil:TA:=fun _ H Q=>Q [] H
def tCons (ta:TE) (tr:TA):TA:=fun σ H Q=>ta σ H fun x H1=>tr σ H1 fun xs H2=>Q (x::xs) H2
section
variable {X:Cx}{e:Expr}{es:List Expr}{te:TE}{t:TA}{pos:Pos}
theorem zab:PA X [] tNil:=fun _ _ _ _ H Q I h=>Calls.spliced_nil ⟨[],H,I,.nil,h⟩
theorem zaa (ha:PE X e te) (hr:PA X es t) (hs:starEach (e::es) X.env=(false,eval e X.env)::starEach es X.env:=by rfl):PA X (e::es) (tCons te t):=by
 intro pos pins s σ H Q I h
 rw[hs]
 show wpAny _ _ (spliced ((false,eval e X.env)::backTo pos (starEach es X.env))) _ _ s
 refine Calls.spliced_cons (thn (ha pins s σ H _ I h) fun u s1 ⟨x,H1,I1,r1,q1⟩=>?_)
 exact thn (hr pos pins s1 σ H1 _ I1 q1) fun us s2 ⟨xs,H2,I2,r2,q2⟩=>⟨x::xs,H2,I2,.cons r1 r2,q2⟩
def tTup (t:TA):TE:=fun σ H Q=>t σ H fun xs H1=>xs.length≤sizeLine∧∀p,H1 p=none→Q (.ref p) (upd H1 p (.tup xs))
def tLst (t:TA):TE:=fun σ H Q=>t σ H fun xs H1=>xs.length≤sizeLine∧∀p,H1 p=none→Q (.ref p) (upd H1 p (.lst xs))
theorem zcp {x1}(h:PA X es t):PE X (.Tuple es x1 pos) (tTup t):=by
 intro pins s σ H Q I hq
 refine wpAny_Tuple_spliced (thn (h pos pins s σ H _ I hq) fun us s1 ⟨xs,H1,I1,r,z,q⟩=>⟨by rw[←r.length];exact z,?_⟩)
 have hf:H1 s1.heap.objs.size=none:=I1.hok.fresh (Nat.le_refl _)
 refine ⟨.ref s1.heap.objs.size,upd H1 s1.heap.objs.size (.tup xs),I1.laid (t':=s1.toks) (fun b u e=>Heap.get?_push_of_some _ e) (Nat.le_refl _) ?_,rfl,q _ hf⟩
 exact ⟨z,us,r,⟨_,Heap.get?_push_size _ rfl,rfl,_,rfl⟩⟩
theorem zay (h:PA X es t):PE X (.List es pos) (tLst t):=by
 intro pins s σ H Q I hq
 refine wpAny_List_spliced (thn (h pos pins s σ H _ I hq) fun us s1 ⟨xs,H1,I1,r,z,q⟩=>⟨by rw[←r.length];exact z,?_⟩)
 have hf:H1 s1.heap.objs.size=none:=I1.hok.fresh (Nat.le_refl _)
 refine ⟨.ref s1.heap.objs.size,upd H1 s1.heap.objs.size (.lst xs),I1.laid (t':=s1.toks) (fun b u e=>Heap.get?_push_of_some _ e) (Nat.le_refl _) ?_,rfl,q _ hf⟩
 exact ⟨z,us,0,r,Heap.get?_push_size _ rfl⟩
end
abbrev Sp:=List V→Hp→VK→XK→Prop
abbrev CXT:=List Env→Hp→Shared→XK→Value→Shared→Prop
structure Env0T (t:Nat) (P:Program) (w:World) (K:W.Frag) (mg:Str→Option Value) (base:Heap) (A:Around) (outer:List Env) (s:Shared) (H:Hp):Prop where
 frames:A.frames=some outer
 mod:Mod K mg base
 bs:∀b o,base.get? b=some o→s.heap.get? b=some o∧H b=none
 bsz:base.objs.size≤s.heap.objs.size
 funs:s.heap.FunFrames base outer
 frf:∀b∈frs outer,H b=none
 hok:HOk P w H s.heap
 bare:AllBare s.gens
 tk:t≤s.toks
abbrev Env0:=Env0T 1
def CE (outer:List Env) (P:Program) (w:World) (H:Hp) (s:Shared) (Q:VK) (u:Value) (s':Shared):Prop:=
 ∃v H',s'.os=s.os∧AllBare s'.gens∧Un (frs outer) [] H H' s.heap s'.heap∧HOk P w H' s'.heap∧RelV v u∧Q v H'
def CR (CX:CXT) (outer:List Env) (P:Program) (w:World) (H:Hp) (s:Shared) (Q:VK) (E:XK) (r:Result) (s':Shared):Prop:=
 match r with
 |.ok (.ret u)=>CE outer P w H s Q u s'
 |.ok _=>False
 |.error e=>CX outer H s E e s'
structure FnOkT (t:Nat) (P:Program) (w:World) (K:W.Frag) (mg:Str→Option Value) (base:Heap) (CX:CXT) (k:Nat) (f:Addr) (fd:FuncData) (ps:List Str) (sp:Sp):Prop where
 len:∀vs H Q E,sp vs H Q E→vs.length=ps.length
 run:∀(A:Around) (outer:List Env) (s:Shared) (H:Hp) (args:Args) (us:List Value) (vs:List V) (Q:VK) (E:XK),Room k A→Env0T t P w K mg base A outer s H→BindsTo s fd args (ps.zip us)→Vals vs us→sp vs H Q E →
  codeAny (model P w) A (.call (.ref f) args) (CR CX outer P w H s Q E) s
abbrev FnOk:=FnOkT 1
section
variable {X:Cx}{pins:List (Addr×Obj)}{σ:St}{H:Hp}{s s':Shared}
theorem Inv.env0 (I:Inv X pins σ H s) (h1:1≤X.t0:=by first|assumption|exact Nat.le_refl 1):Env0 X.prog X.w X.K X.mg X.base X.A X.stack s H:=
 ⟨I.ok.frames,I.ok.mod,I.bs,Nat.le_trans I.ok.bsz I.sz,I.stack,I.stkFree,I.hok,I.bare,Nat.le_trans h1 I.tk⟩
theorem Inv.after {Q:VK}{u:Value}(I:Inv X pins σ H s) (h:CE X.stack X.prog X.w H s Q u s') (ht:X.t0≤s'.toks):EP X pins σ Q u s':=by
 obtain ⟨v,H',os,bare,un,hok,r,q⟩:=h
 obtain ⟨hh,g,d,t,os'⟩:=s'
 obtain rfl:os'=s.os:=os
 exact ⟨v,H',I.call (h':=hh) (g':=g) (d':=d) (t':=t) (ch:=[]) un hok bare (fun b z=>absurd z (by simp)) ht,r,q⟩
end
def tCall (sp:Sp) (dvs:List V) (E:XK) (t:TA):TE:=fun σ H Q=>t σ H fun vs H1=>sp (vs++dvs) H1 Q E
def Binds (K:W.Frag) (fd:FuncData) (ps:List Str) (ds:List Value):Prop:=
 ∀(s:Shared) (us:List Value),K.In s.heap→(us++ds).length=ps.length→BindsTo s fd ⟨us,[]⟩ (ps.zip (us++ds))
theorem Binds.all {K:W.Frag}{fd:FuncData}{ps:List Str}(h:∀us:List Value,us.length=ps.length→bindArgs fd ⟨us,[]⟩=pure (ps.zip us)):Binds K fd ps []:=fun s us _ hl=>by
 rw[List.append_nil] at hl ⊢
 exact .of_eq (h us hl)
def zgP (CX:CXT) (X:Cx) (E:XK):Prop:=∀(pins:List (Addr×Obj)) (σ:St) (H:Hp) (s:Shared) (e:Value) (s':Shared),Inv X pins σ H s→CX X.stack H s E e s'→X.xe e s'
section
variable {X:Cx}{CX:CXT}{k:Nat}{f C:Addr}{fd:FuncData}{ps:List Str}{sp:Sp}{dvs:List V}{ds:List Value}{E:XK}{x m:Str}{p pos apos:Pos}{e o:Expr}{es:List Expr}{ta:TE}{t:TA}
theorem zj9 {pins:List (Addr×Obj)}{σ:St}{H:Hp}{s:Shared}{Q:VK}{us:List Value}{vs:List V}(F:FnOk X.prog X.w X.K X.mg X.base CX k f fd ps sp) (hr:Room k X.A) (hb:Binds X.K fd ps ds) (hd:Vals dvs ds) (hx:zgP CX X E)
  (I:Inv X pins σ H s) (r:Vals vs us) (h:sp (vs++dvs) H Q E) (h1:1≤X.t0:=by first|assumption|exact Nat.le_refl 1):wpAny (model X.prog X.w) X.A (call (.ref f) us) (EP X pins σ Q) X.xe s:=by
 have r2:Vals (vs++dvs) (us++ds):=r.append hd
 have hl:(us++ds).length=ps.length:=by rw[←r2.length];exact F.len _ _ _ _ h
 refine wpAny_call (codeAny_mono (codeAny_toks_of I.tk (F.run X.A X.stack s H ⟨us,[]⟩ (us++ds) (vs++dvs) Q E hr (I.env0 h1) (hb s us I.kIn hl) r2 h)) fun r s' ⟨ht,hq⟩=>?_)
 cases r with
 |error e=>exact hx pins σ H s e s' I hq
 |ok fl=>
  cases fl with
  |ret u=>exact I.after hq ht
  |next=>exact False.elim hq
  |brk=>exact False.elim hq
  |cont=>exact False.elim hq
theorem zak (F:FnOk X.prog X.w X.K X.mg X.base CX k f fd ps sp) (hr:Room k X.A) (hg:Gl X x) (hm:X.mg x=some (.ref f)) (hk:W.keepIn X.K (.ref f)=true) (hb:Binds X.K fd ps ds) (hd:Vals dvs ds) (hx:zgP CX X E)
  (ha:PA X (e::es) t) (hdb:(x==("__debug__":Str))=false:=by decide) (he:starEach (e::es) X.env=(false,eval e X.env)::starEach es X.env:=by rfl) (hpl:(backTo pos (starEach es X.env)).any (·.1)=false:=by rfl) (h1:1≤X.t0:=by first|assumption|exact Nat.le_refl 1) :
  PE X (.Call (.Name x p) (e::es) [] pos) (tCall sp dvs E t):=by
 intro pins s σ H Q I h
 refine wpAny_Call_Name_kw (zcK I hg hm ?_ hdb)
 refine W.callWith_K (h₀:=X.base) I.ok.mod.kin hk (thn (ha pos pins s σ H _ I h) fun us s1 ⟨vs,H1,I1,r,q⟩=>⟨I1.kIn,?_⟩) he hpl
 exact zj9 (h1:=h1) F hr hb hd hx I1 r q
end
section
variable {X:Cx}{CX:CXT}{k:Nat}{f C:Addr}{fd:FuncData}{ps ks:List Str}{sp:Sp}{E:XK}{x m:Str}{p pos apos kpos:Pos}{e o:Expr}{es:List Expr}{kws:List Keyword}{te ta:TE}{t tk:TA}{nm:Option Str}
variable {g:List Value→List Value→List Value}{gV:List V→List V→List V}
end
structure zar (N P:List Str) (sc:Scope):Prop where
 kind:sc.kind=.function
 co:sc.isCoroutine=false
 gen:sc.isGenerator=false
 nd:N.Nodup
 pre:N.take P.length=P
 par:∀x∈P,sc.names.lookup x=some .local∨sc.names.lookup x=some .cell
 nofree:∀y∈sc.names,y.2≠.free
theorem zew {kindOf:Str→Option NameKind}{x:Str}:∀ {binds:List (Str×Value)}{m:Str→Option Value},(∀v,(x,v)∉binds)→bindL kindOf binds m x=m x
 |[],_,_=>rfl
 |(n,v)::r,m,h=>by
  unfold bindL
  rw[zew fun w hw=>h w (List.mem_cons_of_mem _ hw)]
  split
  ·have:x≠n:=by rintro rfl;exact h v List.mem_cons_self
   simp[this]
  ·rfl
theorem zex {kindOf:Str→Option NameKind}{x:Str}:∀ {binds:List (Str×Value)}{m:Str→Option Value},(∀v,(x,v)∉binds)→bindC kindOf binds m x=m x
 |[],_,_=>rfl
 |(n,v)::r,m,h=>by
  unfold bindC
  rw[zex fun w hw=>h w (List.mem_cons_of_mem _ hw)]
  split
  ·rfl
  ·have:x≠n:=by rintro rfl;exact h v List.mem_cons_self
   simp[this]
theorem zey {kindOf:Str→Option NameKind}{x:Str}{v:Value}:∀ {P:List Str}{vs:List Value}{i:Nat}{m:Str→Option Value},P.Nodup→P[i]?=some x→vs[i]?=some v→kindOf x=some .local →
  bindL kindOf (P.zip vs) m x=some v
 |[],_,_,_,_,h,_,_=>by simp at h
 |_::_,[],_,_,_,_,h,_=>by simp at h
 |p::P,w::vs,0,m,nd,h1,h2,hk=>by
  simp at h1 h2;subst h1;subst h2
  show bindL kindOf ((p,w)::P.zip vs) m p=_
  unfold bindL
  rw[zew fun v hv=>(List.nodup_cons.mp nd).1 (List.of_mem_zip hv).1,if_pos hk]
  simp
 |p::P,w::vs,i+1,m,nd,h1,h2,hk=>by
  show bindL kindOf ((p,w)::P.zip vs) m x=_
  unfold bindL
  exact zey (i:=i) (List.nodup_cons.mp nd).2 (by simpa using h1) (by simpa using h2) hk
theorem zez {kindOf:Str→Option NameKind}{x:Str}{v:Value}:∀ {P:List Str}{vs:List Value}{i:Nat}{m:Str→Option Value},P.Nodup→P[i]?=some x→vs[i]?=some v→kindOf x≠some .local →
  bindC kindOf (P.zip vs) m x=some v
 |[],_,_,_,_,h,_,_=>by simp at h
 |_::_,[],_,_,_,_,h,_=>by simp at h
 |p::P,w::vs,0,m,nd,h1,h2,hk=>by
  simp at h1 h2;subst h1;subst h2
  show bindC kindOf ((p,w)::P.zip vs) m p=_
  unfold bindC
  rw[zex fun v hv=>(List.nodup_cons.mp nd).1 (List.of_mem_zip hv).1,if_neg hk]
  simp
 |p::P,w::vs,i+1,m,nd,h1,h2,hk=>by
  show bindC kindOf ((p,w)::P.zip vs) m x=_
  unfold bindC
  exact zez (i:=i) (List.nodup_cons.mp nd).2 (by simpa using h1) (by simpa using h2) hk
def start (N:List Str) (vs:List V):St:=vs.map some++List.replicate (N.length-vs.length) none
def cxOf (CX:CXT) (P:Program) (w:World) (K:W.Frag) (mg:Str→Option Value) (base:Heap) (N:List Str) (qual:Str) (scope:Scope) (f:Addr) (cd:Value) (A:Around) (outer:List Env) (s:Shared) (H:Hp) (E:XK):Cx where
 prog:=P
 w:=w
 K:=K
 mg:=mg
 base:=base
 A:=A.deeper (envOfC qual scope s.heap.objs.size f cd)
 N:=N
 s₀:=s
 H₀:=H
 env:=envOfC qual scope s.heap.objs.size f cd
 outer:=outer
 stack:=envOfC qual scope s.heap.objs.size f cd::outer
 ex:=[]
 calm:=true
 fn:=fun _=>true
 pn:=[]
 xe:=fun e s'=>wpAny (model P w) (A.deeper (envOfC qual scope s.heap.objs.size f cd)) (leaving (envOfC qual scope s.heap.objs.size f cd) e) (fun _ s''=>CX outer H s E e s'') (fun e' s''=>CX outer H s E e' s'') s'
 t0:=1
theorem zfJ {sc:Scope}{n:Nat}{x:Str}(h:sc.names.lookup x=some .cell):∃c,(cellsFrom n sc.names []).lookup x=some c:=by
 have q:=W.cellsFrom_some sc.names n [] (.inl h)
 exact Option.isSome_iff_exists.mp q
theorem zeA {t₀:Nat}{CX:CXT}{P:Program}{w:World}{K:W.Frag}{mg:Str→Option Value}{base:Heap}{N ps:List Str}{qual:Str}{scope:Scope}{f:Addr}{cd:Value}{A:Around}{outer:List Env}{s s1:Shared}{H:Hp}{E:XK}{us:List Value}{vs:List V}
  (S:zar N ps scope) (hd:A.handled=none) (e0:Env0T t₀ P w K mg base A outer s H) (hl:vs.length=ps.length) (r:Vals vs us)
  (x:InCallC s s.heap.objs.size (bindL (envOfC qual scope s.heap.objs.size f cd).kindOf (ps.zip us) fun _=>none) (cellsFrom (s.heap.objs.size+1) scope.names []) (bindC (envOfC qual scope s.heap.objs.size f cd).kindOf (ps.zip us) fun _=>none) s1) (ht:t₀≤s1.toks) :
  Inv { cxOf CX P w K mg base N qual scope f cd A outer s H E with t0:=t₀ } [] (start N vs) H s1:=by
 have hpl:ps.length≤N.length:=by have:=congrArg List.length S.pre;rw[List.length_take] at this;omega
 obtain ⟨h1,tk,rfl,hk⟩:=x.done
 have noA:∀b:Addr,b∉(cxOf CX P w K mg base N qual scope f cd A outer s H E).ex:=fun b z=>absurd (show b∈([]:List Addr) from z) (by simp)
 refine ⟨⟨e0.mod,S.kind,rfl,rfl,Nat.le_refl _,fun y z c h1 h2=>?_,fun y hy=>?_,fun y c _ h=>?_,fun _=>hd,Around.frames_deeper e0.frames,.inr ⟨rfl,rfl⟩,fun b z=>absurd z (noA b),e0.bs,e0.bsz,fun b _ _=>noA b,fun b z=>absurd z (noA b),e0.funs,e0.frf⟩,
  rfl,e0.bare,Un.kept hk,⟨_,x.toInCall.ns,fun i y v h1 h2 h3=>?_⟩,fun y c h=>⟨_,x.cell y c h⟩,e0.hok.fresh (Nat.le_refl _),fun y c h=>?_,fun p hp=>absurd (show p∈([]:List (Addr×Obj)) from hp) (by simp),e0.hok.kept hk,?_,ht⟩
 ·exact name_of_addr x.apart (PySem.mem_of_lookup h1) (PySem.mem_of_lookup h2)
 ·have hy:scope.names.lookup y=some .cell∨scope.names.lookup y=some .free:=hy
  rcases hy with hy|hy
  ·exact zfJ hy
  ·exact absurd rfl (S.nofree _ (PySem.mem_of_lookup hy))
 ·exact Nat.le_of_lt (x.above y c (PySem.mem_of_lookup h))
 ·have hi:i<vs.length:=by
   unfold start at h2
   by_cases hi:i<vs.length
   ·exact hi
   ·rw[List.getElem?_append_right (by simpa using hi)] at h2
    rw[List.getElem?_replicate] at h2
    split at h2<;>cases h2
  have ha:vs[i]?=some v:=by
   unfold start at h2
   rw[List.getElem?_append_left (by simpa using hi),List.getElem?_map] at h2
   cases e:vs[i]? with
   |none=>rw[e] at h2;cases h2
   |some a=>rw[e] at h2;cases h2;rfl
  obtain ⟨u,hu,rv⟩:=r.get ha
  have hp:ps[i]?=some y:=by
   rw[←S.pre,List.getElem?_take_of_lt (by omega)];exact h1
  have ndP:ps.Nodup:=by rw[←S.pre];exact S.nd.sublist (List.take_sublist _ _)
  refine ⟨u,rv,?_⟩
  rcases S.par y (List.mem_of_getElem? hp) with k|k
  ·exact .inl ⟨k,zey ndP hp hu k⟩
  ·obtain ⟨c,e⟩:=zfJ (n:=s.heap.objs.size+1) k
   refine .inr ⟨.inl k,c,e,?_⟩
   have q:=x.cell y c e
   rw[zez ndP hp hu (by show scope.names.lookup y≠_;rw[k];decide)] at q
   exact q
 ·exact e0.hok.fresh (Nat.le_of_lt (x.above y c (PySem.mem_of_lookup h)))
 ·unfold start
  show _=N.length
  rw[List.length_append,List.length_map,List.length_replicate]
  omega
theorem ziH (t₀:Nat){CX:CXT}{P:Program}{w:World}{K:W.Frag}{mg:Str→Option Value}{base:Heap}{k:Nat}{f:Addr}{name qual:Str}{params:Arguments}{body:List Stmt}{scope:Scope}{dV kV doc pm cdv ct oc:Value}{an od:Option Addr}
  {osl:Array (Option Value)} {N ps:List Str} {sp:Sp} (lk:K.lookup f=some ⟨oc,od,.func (W.fnOf name qual params body scope dV kV doc pm an cdv ct),osl⟩) (hcd:W.codeIn K cdv qual=true) (S:zar N ps scope)
  (len:∀vs H Q E,sp vs H Q E→vs.length=ps.length)
  (hbody:∀(A:Around) (outer:List Env) (s:Shared) (H:Hp) (vs:List V) (Q:VK) (E:XK),Room k (A.deeper (envOfC qual scope s.heap.objs.size f cdv))→sp vs H Q E →
   ∃t,PSs { cxOf CX P w K mg base N qual scope f cdv A outer s H E with t0:=t₀ } body t∧t { nx:=fun _ H'=>Q .non H',rt:=Q } (start N vs) H) :
  FnOkT t₀ P w K mg base CX (k+1) f (W.fnOf name qual params body scope dV kV doc pm an cdv ct) ps sp:=by
 refine ⟨len,fun A outer s H args us vs Q E hr e0 hb r hsp=>?_⟩
 have hl:=len _ _ _ _ hsp
 have KX:K.In s.heap:=e0.mod.kin.keeps fun b o e=>(e0.bs b o e).1
 have lim:s.heap.NoLimit:=e0.mod.nolimit.keeps fun b o e=>(e0.bs b o e).1
 have hkind:∀y∈ps.zip us,scope.names.lookup y.1=some .local∨(scope.names.lookup y.1=some .cell∧((cellsFrom (s.heap.objs.size+1) scope.names []).lookup y.1).isSome=true):=fun ⟨n,v⟩ hy=>by
  rcases S.par n (List.of_mem_zip hy).1 with q|q
  ·exact .inl q
  ·exact .inr ⟨q,W.cellsFrom_some _ _ _ (.inl q)⟩
 refine codeAny_call_function hr.depth (KX _ _ lk) rfl S.co S.gen rfl (W.codeRec_of KX hcd) (hb _ _ _ _ ?_)
 refine wpAny_with_toks (n:=t₀) e0.tk (wpAny_newFunctionEnv_cells S.kind hkind fun env he s1 x ht1=>?_)
 subst he
 refine ⟨lim.keeps x.toInCall.keep,codeAny_func ?_⟩
 obtain ⟨t,ht,hq⟩:=hbody A outer s H vs Q E (hr.deeper _) hsp
 have I:Inv { cxOf CX P w K mg base N qual scope f cdv A outer s H E with t0:=t₀ } [] (start N vs) H s1:=zeA S hr.hd e0 hl r x ht1
 refine wpAny_mono (ht [] s1 (start N vs) H _ I hq) (fun fl s' hs=>?_) fun e s' hs=>hs
 have fin:∀ {σ':St} {H':Hp} {v:V} {u:Value},Inv { cxOf CX P w K mg base N qual scope f cdv A outer s H E with t0:=t₀ } [] σ' H' s'→RelV v u→Q v H'→CE outer P w H s Q u s':=
  fun {σ' H' v u} J rv q=>⟨v,H',J.os,J.bare,J.base,J.hok,rv,q⟩
 cases fl with
 |ret u=>
  obtain ⟨v,σ',H',J,rv,q⟩:=hs
  exact fin J rv q
 |next=>
  obtain ⟨σ',H',J,q⟩:=hs
  exact fin (v:=V.non) (u:=Value.none) J rfl q
 |brk=>
  obtain ⟨_,_,_,q⟩:=hs
  exact False.elim q
 |cont=>
  obtain ⟨_,_,_,q⟩:=hs
  exact False.elim q
theorem zka {CX:CXT}{P:Program}{w:World}{K:W.Frag}{mg:Str→Option Value}{base:Heap}{k:Nat}{f:Addr}{name qual:Str}{params:Arguments}{body:List Stmt}{scope:Scope}{dV kV doc pm cdv ct oc:Value}{an od:Option Addr}
  {osl:Array (Option Value)} {N ps:List Str} {sp:Sp} (lk:K.lookup f=some ⟨oc,od,.func (W.fnOf name qual params body scope dV kV doc pm an cdv ct),osl⟩) (hcd:W.codeIn K cdv qual=true) (S:zar N ps scope)
  (len:∀vs H Q E,sp vs H Q E→vs.length=ps.length)
  (hbody:∀(A:Around) (outer:List Env) (s:Shared) (H:Hp) (vs:List V) (Q:VK) (E:XK),Room k (A.deeper (envOfC qual scope s.heap.objs.size f cdv))→sp vs H Q E →
   ∃t,PSs (cxOf CX P w K mg base N qual scope f cdv A outer s H E) body t∧t { nx:=fun _ H'=>Q .non H',rt:=Q } (start N vs) H) :
  FnOk P w K mg base CX (k+1) f (W.fnOf name qual params body scope dV kV doc pm an cdv ct) ps sp:=ziH 1 lk hcd S len hbody
section
variable {X:Cx}{x:Str}{p pos:Pos}{e:Expr}{es:List Expr}{t:TA}{id T:String}{r:List V→Hp→VK→Prop}
def tCB (r:List V→Hp→VK→Prop) (t:TA):TE:=fun σ H Q=>t σ H fun vs H1=>r vs H1 Q
theorem zap (hc:CallR X (.builtin id) r) (hg:Gl X x) (hm:X.mg x=none) (hv:bootBuiltins x=some (.builtin id)) (ha:PA X (e::es) t) (hn:x≠"__name__":=by decide) (hdb:(x==("__debug__":Str))=false:=by decide)
  (he:starEach (e::es) X.env=(false,eval e X.env)::starEach es X.env:=by rfl) (hpl:(backTo pos (starEach es X.env)).any (·.1)=false:=by rfl):PE X (.Call (.Name x p) (e::es) [] pos) (tCB r t):=by
 intro pins s σ H Q I h
 refine wpAny_Call_Name_kw (zc8 I hg hm hv ?_ hn hdb)
 exact PyProof.Rows.callWith_builtin1 (thn (ha pos pins s σ H _ I h) fun us s1 ⟨vs,H1,I1,r1,q1⟩=>hc pins s1 σ H1 vs us Q I1 r1 q1) he hpl
theorem zaG (hc:CallR X (.type T) r) (hg:Gl X x) (hm:X.mg x=none) (hv:bootBuiltins x=some (.type T)) (ha:PA X (e::es) t) (hn:x≠"__name__":=by decide) (hdb:(x==("__debug__":Str))=false:=by decide)
  (he:starEach (e::es) X.env=(false,eval e X.env)::starEach es X.env:=by rfl) (hpl:(backTo pos (starEach es X.env)).any (·.1)=false:=by rfl):PE X (.Call (.Name x p) (e::es) [] pos) (tCB r t):=by
 intro pins s σ H Q I h
 refine wpAny_Call_Name_kw (zc8 I hg hm hv ?_ hn hdb)
 exact PyProof.Rows.callWith_type1 (thn (ha pos pins s σ H _ I h) fun us s1 ⟨vs,H1,I1,r1,q1⟩=>hc pins s1 σ H1 vs us Q I1 r1 q1) he hpl
end
end L2
namespace HT
open PySem PyProof.Rows
section
open PySem.SeqAt
open PySem.AutoSeq1 (wpAny_loadPart')
open PySem.MeetsSeq PySem.MeetsSeq2 PySem.MeetsSeq3
end
section
variable {prog:Program}{w:World}{A:Around}{E:Value→Shared→Prop}{s:Shared}
theorem cat_tup {t b:Addr}{vs ws:List Value}{Q:Value→Shared→Prop}(ht:IsTup s.heap t vs.toArray) (hb:IsTup s.heap b ws.toArray) (hv:vs≠[])
  (h1:ws=[]→Q (.ref t) s) (h2:ws≠[]→Q (.ref s.heap.objs.size) { s with heap:=s.heap.push { cls:=.type "tuple",data:=.seq (vs++ws).toArray } })
  (hsz:vs.length+ws.length≤sizeLine):wpAny (model prog w) A (binaryOp .Add (.ref t) (.ref b)) Q E s:=by
 obtain ⟨⟨cls,dd,data,sl⟩,ho,hc,n,hd⟩:=id ht
 obtain ⟨⟨cls2,dd2,data2,sl2⟩,ho2,hc2,n2,hd2⟩:=id hb
 simp only at hc hd hc2 hd2
 subst hc hd hc2 hd2
 have e:vs.toArray++ws.toArray=(vs++ws).toArray:=by simp
 by_cases hw:ws=[]
 ·exact concat_meets ⟨_,ho,rfl⟩ ⟨_,ho2,rfl⟩ noFill_tuple_add seq_tuple_add PySem.F.slot_tuple_add PySem.F.entry_tuple_add (PySem.F.args_tuple_add_2 _ _)
   (tuple_addW1 t b vs.toArray ws.toArray n n2 dd dd2 sl sl2 (by simpa using hv) (by simp[hw])) ⟨ho,ho2,h1 hw⟩
 ·refine concat_meets ⟨_,ho,rfl⟩ ⟨_,ho2,rfl⟩ noFill_tuple_add seq_tuple_add PySem.F.slot_tuple_add PySem.F.entry_tuple_add (PySem.F.args_tuple_add_2 _ _)
   (tuple_addW2 t b vs.toArray ws.toArray n n2 dd dd2 sl sl2 (by simpa using hv) (by simpa using hw) (by rw[List.size_toArray,List.size_toArray];exact hsz)) ⟨ho,ho2,?_⟩
  rw[e]
  exact h2 hw
def sIx (n d:Nat):Option Int→Nat
 |none=>d
 |some v=>if v<0 then (v+(n:Int)).toNat else min v.toNat n
theorem sIx_nat (n d k:Nat):sIx n d (some (k:Int))=min k n:=by
 show (if (k:Int)<0 then ((k:Int)+(n:Int)).toNat else min (k:Int).toNat n)=min k n
 rw[if_neg (by omega),Int.toNat_natCast]
theorem sIx_le (n d:Nat) (hd:d≤n) (o:Option Int):sIx n d o≤n:=by
 cases o with
 |none=>exact hd
 |some v=>
  show (if v<0 then (v+(n:Int)).toNat else min v.toNat n)≤n
  by_cases hv:v<0
  ·rw[if_pos hv];omega
  ·rw[if_neg hv];exact Nat.min_le_right _ _
end
end HT
namespace L2
open PySem PySem.Spec PyProof.Rows
abbrev TO:=St→Hp→(Option Int→Hp→Prop)→Prop
def PO (X:Cx) (e:Option Expr) (t:TO):Prop:=
 ∀(pins:List (Addr×Obj)) (s:Shared) (σ:St) (H:Hp) (Q:Option Int→Hp→Prop),Inv X pins σ H s→t σ H Q →
  wpAny (model X.prog X.w) X.A (evalPart e X.env) (fun u s'=>∃o H',Inv X pins σ H' s'∧IsPart u o∧Q o H') X.xe s
def zi1:TO:=fun _ H Q=>Q none H
def tPart (t:TE):TO:=fun σ H Q=>t σ H fun x H1=>∃i,x=.int i∧Q (some i) H1
section
variable {X:Cx}{e:Expr}{te:TE}{lo hi:Option Expr}{tl th:TO}{pos p2:Pos}
theorem zaM:PO X none zi1:=by
 intro pins s σ H Q I h
 rw[evalPart_none]
 exact wpAny_pure ⟨none,H,I,.none,h⟩
theorem zaB (h:PE X e te):PO X (some e) (tPart te):=by
 intro pins s σ H Q I hw
 rw[evalPart_some]
 refine thn (h pins s σ H _ I hw) fun u s1 ⟨x,H1,I1,r1,q1⟩=>?_
 obtain ⟨i,rfl,q⟩:=q1
 obtain ⟨t,rfl⟩:=r1
 exact ⟨some i,H1,I1,.int i t,q⟩
def SlR (X:Cx) (r:V→Option Int→Option Int→Hp→VK→Prop):Prop:=
 ∀(pins:List (Addr×Obj)) (s:Shared) (σ:St) (H:Hp) (x:V) (v vl vu:Value) (lo hi:Option Int) (sl:Addr) (Q:VK),Inv X pins σ H s→RelV x v→s.heap.IsSliceOf sl vl vu .none→IsPart vl lo→IsPart vu hi→r x lo hi H Q →
  ∃T id,typeLookup (.type T) "__getitem__"=pure (some (.builtin id))∧s.TypeIs v T∧wpAny (model X.prog X.w) X.A (getItem v (.ref sl)) (EP X pins σ Q) X.xe s
def tSl (r:V→Option Int→Option Int→Hp→VK→Prop) (te:TE) (tl th:TO):TE:=fun σ H Q=>te σ H fun x H1=>tl σ H1 fun l H2=>th σ H2 fun u H3=>r x l u H3 Q
theorem zaz {r:V→Option Int→Option Int→Hp→VK→Prop}(hr:SlR X r) (he:PE X e te) (hl:PO X lo tl) (hu:PO X hi th):PE X (.Subscript e (.Slice lo hi none p2) pos) (tSl r te tl th):=by
 intro pins s σ H Q I h
 refine Subscript_ (thn (he pins s σ H _ I h) fun v s1 ⟨x,H1,I1,r1,q1⟩=>?_)
 refine wpAny_Slice (thn (hl pins s1 σ H1 _ I1 q1) fun vl s2 ⟨l,H2,I2,pl,q2⟩=>thn (hu pins s2 σ H2 _ I2 q2) fun vu s3 ⟨u,H3,I3,pu,q3⟩=>?_)
 rw[evalPart_none]
 refine wpAny_pure ?_
 have I4:Inv X pins σ H3 { s3 with heap:=s3.heap.push { cls:=.type "slice",data:=.fields #[vl,vu,.none] } }:=I3.kept (t':=s3.toks) fun b ob q=>Heap.get?_push_of_some _ q
 obtain ⟨T,id,hT,ht,hg⟩:=hr pins { s3 with heap:=s3.heap.push { cls:=.type "slice",data:=.fields #[vl,vu,.none] } } σ H3 x v vl vu l u s3.heap.objs.size Q I4 r1 (Heap.IsSliceOf.new ..) pl pu q3
 show wpAny (model X.prog X.w) X.A (subscriptTail e (.Slice lo hi none p2) v (.ref s3.heap.objs.size)) (EP X pins σ Q) X.xe { s3 with heap:=s3.heap.push { cls:=.type "slice",data:=.fields #[vl,vu,.none] } }
 exact tail_any (ops:=[.ref s3.heap.objs.size,v]) ht hT hg (by with_unfolding_all rfl)
def cutV (xs:List V) (lo hi:Option Int):List V:=(xs.drop (HT.sIx xs.length 0 lo)).take (HT.sIx xs.length xs.length hi-HT.sIx xs.length 0 lo)
theorem zdd (xs:List V) (lo hi:Option Int):(cutV xs lo hi).length≤xs.length:=by
 unfold cutV
 rw[List.length_take,List.length_drop]
 omega
def rCatT (K:W.Frag):R2:=fun x y H Q=>∃a b xs ys,x=.ref a∧y=.ref b∧SqT K H a xs∧SqT K H b ys∧xs≠[]∧xs.length+ys.length≤sizeLine ∧
 (ys=[]→Q (.ref a) H)∧(ys≠[]→∀p,H p=none→Q (.ref p) (upd H p (.tup (xs++ys))))
theorem Vals.nil_iff {xs:List V}{us:List Value}(r:Vals xs us):us=[]↔xs=[]:=by
 cases r with
 |nil=>simp
 |cons _ _=>simp
theorem zi2:OpR X (binaryOp .Add) (rCatT X.K):=by
 intro pins s σ H x y v u Q I rx ry h
 obtain ⟨a,b,xs,ys,rfl,rfl,ha,hb,hx,hz,q1,q2⟩:=h
 cases rx
 cases ry
 obtain ⟨its,r1,p1,_⟩:=I.tuple ha
 obtain ⟨its2,r2,p2,_⟩:=I.tuple hb
 refine HT.cat_tup p1 p2 (fun z=>hx (r1.nil_iff.mp z)) (fun z=>⟨.ref a,H,I,rfl,q1 (r2.nil_iff.mp z)⟩) (fun z=>?_) (by rw[←r1.length,←r2.length];exact hz)
 refine ⟨.ref s.heap.objs.size,_,I.laid (t':=s.toks) (o:=.tup (xs++ys)) (fun b ob q=>Heap.get?_push_of_some _ q) (Nat.le_refl _) ?_,rfl,q2 (fun w=>z (r2.nil_iff.mpr w)) _ (I.hok.fresh (Nat.le_refl _))⟩
 exact ⟨by rw[List.length_append];exact hz,_,r1.append r2,IsTup.new _ _⟩
end
def ixN (n:Nat) (i:Int):Option Nat:=if 0≤i then (if i<n then some i.toNat else none) else if -(n:Int)≤i then some (i+n).toNat else none
def atI {α:Type}(xs:List α) (i:Int):Option α:=(ixN xs.length i).bind fun j=>xs[j]?
theorem zgQ {n:Nat}{i:Int}{j:Nat}(h:ixN n i=some j):seqIndex? i n=some j∧j<n∧-(n:Int)≤i∧i<n:=by
 unfold ixN at h
 by_cases h0:0≤i
 ·rw[if_pos h0] at h
  by_cases h1:i<n
  ·rw[if_pos h1] at h
   have e:i.toNat=j:=Option.some.inj h
   exact ⟨by rw[seqIndex_of h0 h1,e],by omega,by omega,h1⟩
  ·rw[if_neg h1] at h;cases h
 ·rw[if_neg h0] at h
  by_cases h1:-(n:Int)≤i
  ·rw[if_pos h1] at h
   have e:(i+n).toNat=j:=Option.some.inj h
   exact ⟨by rw[seqIndex_neg (by omega) h1,e],by omega,h1,by omega⟩
  ·rw[if_neg h1] at h;cases h
theorem ze6 {α:Type}{xs:List α}{i:Int}{v:α}(h:atI xs i=some v):∃j,seqIndex? i xs.length=some j∧xs[j]?=some v∧j<xs.length∧-(xs.length:Int)≤i∧i<xs.length:=by
 unfold atI at h
 cases e:ixN xs.length i with
 |none=>rw[e] at h;cases h
 |some j=>
  rw[e] at h
  obtain ⟨h1,h2,h3,h4⟩:=zgQ e
  exact ⟨j,h1,h,h2,h3,h4⟩
theorem zan {α:Type}{xs:List α}{j:Nat}{v:α}(h:xs[j]?=some v):atI xs (j:Int)=some v:=by
 have hj:j<xs.length:=(List.getElem?_eq_some_iff.mp h).1
 have e:ixN xs.length (j:Int)=some j:=by
  unfold ixN
  rw[if_pos (by omega),if_pos (by omega)];simp
 unfold atI;rw[e];exact h
def zi3 (b:Expr):Prop:=∀o i,subscripted b false o i=operate [o,i] (getItem o i)
def IxR (X:Cx) (r:R2):Prop:=
 ∀(value slice:Expr) (pins:List (Addr×Obj)) (s:Shared) (σ:St) (H:Hp) (x y:V) (v u:Value) (Q:VK),Inv X pins σ H s→RelV x v→RelV y u→r x y H Q →
  subscripted slice false v u=operate [v,u] (getItem v u)→wpAny (model X.prog X.w) X.A (subscriptTail value slice v u) (EP X pins σ Q) X.xe s
def MtR (X:Cx) (id:String) (r:V→List V→Hp→VK→Prop):Prop:=
 ∀(pins:List (Addr×Obj)) (s:Shared) (σ:St) (H:Hp) (x:V) (xs:List V) (v:Value) (us:List Value) (Q:VK),Inv X pins σ H s→RelV x v→Vals xs us→r x xs H Q →
  wpAny (model X.prog X.w) X.A (call (.builtin id) (v::us)) (EP X pins σ Q) X.xe s
section
variable {X:Cx}{a b:Expr}{ta tb:TE}{pos:Pos}
theorem IxR.or {r r':R2}(h:IxR X r) (h':IxR X r'):IxR X (fun x y H Q=>r x y H Q∨r' x y H Q):=by
 intro value slice pins s σ H x y v u Q I rx ry q hs
 rcases q with q|q
 ·exact h value slice pins s σ H x y v u Q I rx ry q hs
 ·exact h' value slice pins s σ H x y v u Q I rx ry q hs
theorem zaC {r:R2}(hr:IxR X r) (ha:PE X a ta) (hb:PE X b tb) (hs:zi3 b):PE X (.Subscript a b pos) (tOp r ta tb):=by
 intro pins s σ H Q I h
 exact Subscript_ (binT ha hb I h fun v u s2 x y H2 I2 rx ry q=>hr a b pins s2 σ H2 x y v u Q I2 rx ry q (hs _ _))
def rIxL (K:W.Frag):R2:=fun x y H Q=>∃p xs i v,x=.ref p∧y=.int i∧SqL K H p xs∧atI xs i=some v∧Q v H
def rIxT (K:W.Frag):R2:=fun x y H Q=>∃p xs i v,x=.ref p∧y=.int i∧SqT K H p xs∧atI xs i=some v∧Q v H
def rIxS:R2:=fun x y H Q=>∃z i c,x=.str z∧y=.int i∧z.length≤sizeLine∧atI z.cps.toList i=some c∧Q (.str ⟨#[c]⟩) H
theorem ix_list:IxR X (rIxL X.K):=by
 intro value slice pins s σ H x y v u Q I rx ry h hs
 obtain ⟨p,xs,i,z,rfl,rfl,hq,he,q⟩:=h
 cases rx
 obtain ⟨t,rfl⟩:=ry
 obtain ⟨its,r,pl,hz⟩:=I.list hq
 obtain ⟨j,h1,h2,h3,h4,h5⟩:=ze6 he
 obtain ⟨w,ew,rw'⟩:=r.get h2
 have hl:=r.length
 have hn:=zdb
 have fin:EP X pins σ Q w s:=⟨z,H,I,rw',q⟩
 by_cases h0:0≤i
 ·have hj:i.toNat=j:=by
   rw[seqIndex_of h0 h5] at h1
   exact Option.some.inj h1
  exact item_listR pl.isList h0 (by omega) (by rw[hj];simpa using ew) fin hs
 ·have hj:(i+(its.toArray.size:Int)).toNat=j:=by
   rw[seqIndex_neg (by omega) h4] at h1
   rw[List.size_toArray,←hl]
   exact Option.some.inj h1
  exact subscriptTail_builtinR (x:=w) pl.isList.typeIs slot_list_getitem.lookup
   (wpAny_getItem_list_neg (Q:=fun r s'=>r=w∧EP X pins σ Q r s') pl.isList (by omega) (by rw[List.size_toArray]<;>omega) (by omega) (by rw[hj];simpa using ew) ⟨rfl,fin⟩) hs
theorem ix_tup:IxR X (rIxT X.K):=by
 intro value slice pins s σ H x y v u Q I rx ry h hs
 obtain ⟨p,xs,i,z,rfl,rfl,hq,he,q⟩:=h
 cases rx
 obtain ⟨t,rfl⟩:=ry
 obtain ⟨its,r,pl,hz⟩:=I.tuple hq
 obtain ⟨j,h1,h2,h3,h4,h5⟩:=ze6 he
 obtain ⟨w,ew,rw'⟩:=r.get h2
 have hl:=r.length
 have hn:=zdb
 have fin:EP X pins σ Q w s:=⟨z,H,I,rw',q⟩
 exact subscriptTail_builtinR (x:=w) pl.typeIs slot_tuple_getitem.lookup
  (getItem_tuple (j:=j) (Q:=fun r s'=>r=w∧EP X pins σ Q r s') pl (by omega) (by omega) (by rw[List.size_toArray,←hl];exact h1) (by simpa using ew) ⟨rfl,fin⟩) hs
theorem zde:IxR X rIxS:=by
 intro value slice pins s σ H x y v u Q I rx ry h hs
 obtain ⟨z,i,c,rfl,rfl,hz,he,q⟩:=h
 obtain ⟨t,rfl⟩:=rx
 obtain ⟨t',rfl⟩:=ry
 obtain ⟨j,h1,h2,h3,h4,h5⟩:=ze6 he
 have hl:z.cps.toList.length=z.length:=by simp[Str.length]
 rw[hl] at h1 h4 h5
 have hn:=zdb
 exact tail_any (typeIs_str s z t) slot_str_getitem.lookup (getItem_str (c:=c) (by
  have e1:decide (i < -(2 ^ 63:Int))=false:=decide_eq_false (by omega)
  have e2:decide (i ≥ 2 ^ 63)=false:=decide_eq_false (by omega)
  rw[e1,e2,Bool.or_false]) (by rw[h1];simpa using h2) ⟨.str ⟨#[c]⟩,H,I.tok _,⟨_,rfl⟩,q⟩) hs
def rIx (K:W.Frag):R2:=fun x y H Q=>rIxL K x y H Q∨rIxT K x y H Q∨rIxS x y H Q
theorem zkb:IxR X (rIx X.K):=ix_list.or (ix_tup.or zde)
theorem zgk (its:List Value) (n j:Nat) (u:Value):Obj.mapSeq (·.setIfInBounds j u) { cls:=.type "list",data:=.seq its.toArray n }={ cls:=.type "list",data:=.seq (its.set j u).toArray n }:=by
 simp[Obj.mapSeq]
theorem Inv.lst {pins:List (Addr×Obj)}{σ:St}{H:Hp}{s:Shared}{p:Addr}{xs:List V}(I:Inv X pins σ H s) (h:H p=some (.lst xs)) :
  ∃(its:List Value) (n:Nat),Vals xs its∧s.heap.get? p=some { cls:=.type "list",data:=.seq its.toArray n }∧xs.length≤sizeLine:=by
 obtain ⟨z,its,n,r,e⟩:=I.hok p _ h
 exact ⟨its,n,r,e,z⟩
theorem Inv.lstUpd {pins:List (Addr×Obj)}{σ:St}{H:Hp}{s:Shared}{p:Addr}{xs ys:List V}{its its':List Value}{n n':Nat}{f:Obj→Obj}(I:Inv X pins σ H s) (h:H p=some (.lst xs))
  (ho:s.heap.get? p=some { cls:=.type "list",data:=.seq its.toArray n }) (hf:f { cls:=.type "list",data:=.seq its.toArray n }={ cls:=.type "list",data:=.seq its'.toArray n' }) (r:Vals ys its') (hz:ys.length≤sizeLine) (t:Nat) (ht:X.t0≤t:=by first|assumption|exact Inv.tk (by assumption)|(have q:=Inv.tk (by assumption);omega)) :
  Inv X pins σ (upd H p (.lst ys)) { s with heap:=s.heap.update p f,toks:=t }:=by
 have e:(s.heap.update p f).get? p=some { cls:=.type "list",data:=.seq its'.toArray n' }:=by
  rw[Heap.get?_update_self f ho (by rw[hf]<;>rfl),hf]
 refine I.write (x:=p) (e:=p) (by rw[h];trivial) (.inl rfl) (fun b u hb q=>(Heap.get?_update_other _ _ (Ne.symm hb)).trans q) ⟨_,e⟩ ?_
 exact ⟨hz,its',n',r,e⟩
def rSetL:V→V→V→Hp→(Hp→Prop)→Prop:=fun o i v H Q=>∃p xs k j,o=.ref p∧i=.int k∧H p=some (.lst xs)∧ixN xs.length k=some j∧Q (upd H p (.lst (xs.set j v)))
theorem zdR:PSet X rSetL:=by
 intro pins s σ H o i v ov iv u Q I ro ri rv h
 obtain ⟨p,xs,k,j,rfl,rfl,hp,hj,q⟩:=h
 cases ro
 obtain ⟨t,rfl⟩:=ri
 obtain ⟨its,n,r,ho,hz⟩:=I.lst hp
 obtain ⟨h1,h2,h3,h4⟩:=zgQ hj
 have hl:=r.length
 have hn:=zdb
 have I':Inv X pins σ (upd H p (.lst (xs.set j v))) { s with heap:=s.heap.update p (Obj.mapSeq (·.setIfInBounds j u)) }:=
  I.lstUpd hp ho (zgk its n j u) (r.set rv j) (by rw[List.length_set];exact hz) s.toks
 by_cases h0:0≤k
 ·have hk:k.toNat=j:=by
   rw[seqIndex_of h0 h4] at h1
   exact Option.some.inj h1
  exact W.ki_setAt ho h0 (by omega) (by rw[List.size_toArray,←hl];exact h4) (by rw[hk];exact ⟨_,I',q⟩)
 ·have hk:(k+(its.toArray.size:Int)).toNat=j:=by
   rw[seqIndex_neg (by omega) h3] at h1
   rw[List.size_toArray,←hl]
   exact Option.some.inj h1
  exact W.ki_setBack ho (by omega) (by rw[List.size_toArray,←hl];exact h3) (by omega) (by rw[hk];exact ⟨_,I',q⟩)
theorem zeB (lo hi:Option Int) (n:Nat):(sliceBounds lo hi none n).1=((HT.sIx n 0 lo:Nat):Int)∧(sliceBounds lo hi none n).2.1=((HT.sIx n n hi:Nat):Int)∧(sliceBounds lo hi none n).2.2=1:=by
 refine ⟨?_,?_,rfl⟩
 ·cases lo with
  |none=>simp[sliceBounds,HT.sIx]
  |some i=>
   simp only[sliceBounds,HT.sIx,Option.getD_none,show (1:Int)>0 by decide,if_true]
   by_cases h:i<0
   ·simp only[h,if_true]<;>omega
   ·simp only[h,if_false]<;>omega
 ·cases hi with
  |none=>simp[sliceBounds,HT.sIx]
  |some i=>
   simp only[sliceBounds,HT.sIx,Option.getD_none,show (1:Int)>0 by decide,if_true]
   by_cases h:i<0
   ·simp only[h,if_true]<;>omega
   ·simp only[h,if_false]<;>omega
theorem zdS (its:List Value) (lo hi:Option Int):slicePick its.toArray lo hi none=((its.drop (HT.sIx its.length 0 lo)).take (HT.sIx its.length its.length hi-HT.sIx its.length 0 lo)).toArray:=by
 obtain ⟨h1,h2,h3⟩:=zeB lo hi its.toArray.size
 unfold slicePick
 rw[h1,h2,h3]
 simp only[sliceRange_one,pick_run,List.size_toArray]<;>rfl
def rSlL (K:W.Frag):V→Option Int→Option Int→Hp→VK→Prop:=fun x lo hi H Q=>∃a xs,x=.ref a∧SqL K H a xs∧∀p,H p=none→Q (.ref p) (upd H p (.lst (cutV xs lo hi)))
theorem zbn:SlR X (rSlL X.K):=by
 intro pins s σ H x v vl vu lo hi sl Q I rx hs pl pu h
 obtain ⟨a,xs,rfl,hx,q⟩:=h
 cases rx
 obtain ⟨its,r,ht,hz⟩:=I.list hx
 have hlen:=r.length
 refine ⟨"list",_,slot_list_getitem.lookup,ht.isList.typeIs,?_⟩
 refine wpAny_getItem_list_slice ht.isList hs pl pu .none (by simp) ?_ (by rw[List.size_toArray]<;>omega)
 rw[zdS,←hlen]
 refine ⟨.ref s.heap.objs.size,_,I.laid (t':=s.toks) (o:=.lst (cutV xs lo hi)) (fun b ob q=>Heap.get?_push_of_some _ q) (Nat.le_refl _) ?_,rfl,q _ (I.hok.fresh (Nat.le_refl _))⟩
 exact ⟨Nat.le_trans (zdd xs lo hi) hz,_,0,(r.drop (HT.sIx xs.length 0 lo)).take (HT.sIx xs.length xs.length hi-HT.sIx xs.length 0 lo),Heap.get?_push_size _ rfl⟩
def flatV:V→Bool
 |.non=>true
 |.bl _=>true
 |.int _=>true
 |.str _=>true
 |_=>false
def eqV:V→V→Bool
 |.non,.non=>true
 |.bl a,.bl b=>a==b
 |.bl a,.int b=>(if a then 1 else 0)==b
 |.int a,.bl b=>a==(if b then 1 else 0)
 |.int a,.int b=>a==b
 |.str a,.str b=>a==b
 |_,_=>false
theorem zkc {A:Around}{s:Shared}{y x:V}{u v:Value}(ry:RelV y u) (rx:RelV x v) (fy:flatV y=true) (fx:flatV x=true):SeqAt.EqAt A s u v (eqV y x):=by
 cases y with
 |non=>
  cases ry
  cases x with
  |non=>cases rx;exact SeqAt.EqAt.same _
  |bl b=>cases rx;exact SeqAt.EqAt.none_bool b
  |int b=>obtain ⟨t,rfl⟩:=rx;exact SeqAt.EqAt.none_int b t
  |str b=>obtain ⟨t,rfl⟩:=rx;exact SeqAt.EqAt.none_str b t
  |_=>exact absurd (show false=true from fx) Bool.false_ne_true
 |bl a=>
  cases ry
  cases x with
  |non=>cases rx;exact SeqAt.EqAt.bool_none a
  |bl b=>cases rx;exact SeqAt.EqAt.bool_bool a b
  |int b=>obtain ⟨t,rfl⟩:=rx;exact SeqAt.EqAt.bool_int a b t
  |str b=>obtain ⟨t,rfl⟩:=rx;exact SeqAt.EqAt.bool_str a b t
  |_=>exact absurd (show false=true from fx) Bool.false_ne_true
 |int a=>
  obtain ⟨t',rfl⟩:=ry
  cases x with
  |non=>cases rx;exact SeqAt.EqAt.int_none a t'
  |bl b=>cases rx;exact SeqAt.EqAt.int_bool a t' b
  |int b=>obtain ⟨t,rfl⟩:=rx;exact SeqAt.EqAt.int_int a t' b t
  |str b=>obtain ⟨t,rfl⟩:=rx;exact SeqAt.EqAt.int_str a t' b t
  |_=>exact absurd (show false=true from fx) Bool.false_ne_true
 |str a=>
  obtain ⟨t',rfl⟩:=ry
  cases x with
  |non=>cases rx;exact SeqAt.EqAt.str_none a t'
  |bl b=>cases rx;exact SeqAt.EqAt.str_bool a t' b
  |int b=>obtain ⟨t,rfl⟩:=rx;exact SeqAt.EqAt.str_int a t' b t
  |str b=>obtain ⟨t,rfl⟩:=rx;exact SeqAt.EqAt.str_str a t' b t
  |_=>exact absurd (show false=true from fx) Bool.false_ne_true
 |_=>exact absurd (show false=true from fy) Bool.false_ne_true
def eqU (x:V) (u:Value):Bool:=match u with
 |.none=>eqV .non x
 |.bool b=>eqV (.bl b) x
 |.int i _=>eqV (.int i) x
 |.str z _=>eqV (.str z) x
 |_=>false
theorem ziI {x y:V}{u:Value}(r:RelV y u) (f:flatV y=true):eqU x u=eqV y x:=by
 cases y with
 |non=>cases r;rfl
 |bl b=>cases r;rfl
 |int i=>obtain ⟨t,rfl⟩:=r;rfl
 |str z=>obtain ⟨t,rfl⟩:=r;rfl
 |_=>exact absurd (show false=true from f) Bool.false_ne_true
theorem ze7 {x:V}:∀ {xs:List V}{us:List Value},Vals xs us→xs.all flatV=true→us.any (eqU x)=xs.any fun y=>eqV y x
 |_,_,.nil,_=>rfl
 |y::xs,u::us,.cons r t,f=>by
  rw[List.all_cons,Bool.and_eq_true] at f
  rw[List.any_cons,List.any_cons,ziI r f.1,ze7 t f.2]
theorem zdT {A:Around}{s:Shared}{x:V}{v:Value}(rx:RelV x v) (fx:flatV x=true):∀ {xs:List V}{us:List Value},Vals xs us→xs.all flatV=true→∀u∈us,SeqAt.EqAt A s u v (eqU x u)
 |_,_,.nil,_=>fun u hu=>by cases hu
 |y::xs,u::us,.cons r t,f=>fun u' hu=>by
  rw[List.all_cons,Bool.and_eq_true] at f
  rcases List.mem_cons.mp hu with rfl|hu
  ·rw[ziI r f.1];exact zkc r rx f.1 fx
  ·exact zdT rx fx t f.2 u' hu
def inV (x:V) (xs:List V):Bool:=xs.any fun y=>eqV y x
def rIn (K:W.Frag) (neg:Bool):R2:=fun x y H Q=>∃p xs,y=.ref p∧(SqL K H p xs∨SqT K H p xs)∧flatV x=true∧xs.all flatV=true∧Q (.bl (if neg then !inV x xs else inV x xs)) H
theorem zdf:OpR X (compareOp .In) (rIn X.K false):=by
 intro pins s σ H x y v u Q I rx ry h
 obtain ⟨p,xs,rfl,hq,fx,fs,q⟩:=h
 cases ry
 rcases hq with hq|hq
 ·obtain ⟨its,r,pl,hz⟩:=I.list hq
  refine SeqAt.in_listAt (eqU x) pl.isList (fun w hw=>zdT rx fx r fs w (by simpa using hw)) ⟨.bl _,H,I,rfl,?_⟩
  rw[show its.toArray.any (eqU x)=its.any (eqU x) by simp,ze7 r fs]
  exact q
 ·obtain ⟨its,r,pl,hz⟩:=I.tuple hq
  refine SeqAt.in_tupleAt (eqU x) pl (fun w hw=>zdT rx fx r fs w (by simpa using hw)) ⟨.bl _,H,I,rfl,?_⟩
  rw[show its.toArray.any (eqU x)=its.any (eqU x) by simp,ze7 r fs]
  exact q
theorem zav:CallR X (.builtin "len") (fun xs H Q=>∃p ys,xs=[.ref p]∧(SqL X.K H p ys∨SqT X.K H p ys)∧Q (.int ys.length) H):=by
 intro pins s σ H xs us Q I r h
 obtain ⟨p,ys,rfl,hq,q⟩:=h
 obtain ⟨u,rfl,rx⟩:=vals1 r
 cases rx
 have hn:=zdb
 rcases hq with hq|hq
 ·obtain ⟨its,r',pl,hz⟩:=I.list hq
  have hlen:=r'.length
  exact Calls.call_len_list pl.isList (by simp only[List.size_toArray]<;>omega) ⟨.int ys.length,H,I.tok _,⟨s.toks+1,by rw[List.size_toArray,hlen]⟩,q⟩
 ·obtain ⟨its,r',pl,hz⟩:=I.tuple hq
  have hlen:=r'.length
  exact len_tuple pl (by simp only[List.size_toArray]<;>omega) ⟨.int ys.length,H,I.tok _,⟨s.toks+1,by rw[List.size_toArray,hlen]⟩,q⟩
theorem zaP:CallR X (.builtin "len") (fun xs H Q=>∃z,xs=[.str z]∧z.length≤sizeLine∧Q (.int z.length) H):=by
 intro pins s σ H xs us Q I r h
 obtain ⟨z,rfl,hz,q⟩:=h
 obtain ⟨u,rfl,t,rfl⟩:=vals1 r
 have hn:=zdb
 exact len_str (by omega) ⟨.int z.length,H,I.tok _,⟨_,rfl⟩,q⟩
theorem zeC:CallR X (.type "list") (fun xs H Q=>∃p ys,xs=[.ref p]∧(SqL X.K H p ys∨SqT X.K H p ys)∧∀l,H l=none→Q (.ref l) (upd H l (.lst ys))):=by
 intro pins s σ H xs us Q I r h
 obtain ⟨p,ys,rfl,hq,q⟩:=h
 obtain ⟨u,rfl,rx⟩:=vals1 r
 cases rx
 have fin:∀(its:List Value),Vals ys its→ys.length≤sizeLine→∀(h':Heap) (c':Nat),(∀b o',s.heap.get? b=some o'→h'.get? b=some o') →
   h'.get? s.heap.objs.size=some { cls:=.type "list",dict:=none,data:=.seq its.toArray c',slots:=#[] }→EP X pins σ Q (.ref s.heap.objs.size) { s with heap:=h' }:=fun its r' hz h' c' kp e=>
  ⟨.ref s.heap.objs.size,_,I.laid (t':=s.toks) kp (Nat.le_refl _) (show ObjOk X.prog X.w _ h' _ (.lst ys) from ⟨hz,its,c',r',e⟩),rfl,q _ (I.hok.fresh (Nat.le_refl _))⟩
 rcases hq with hq|hq
 ·obtain ⟨its,r',pl,hz⟩:=I.list hq
  have hlen:=r'.length
  obtain ⟨o,ho,hc,n,hd⟩:=pl.isList
  exact call_list_seq p (.inl rfl) ho hc hd (fun h' c' kp e=>fin its r' hz h' c' kp e) (by simp only[List.size_toArray]<;>omega)
 ·obtain ⟨its,r',pl,hz⟩:=I.tuple hq
  have hlen:=r'.length
  obtain ⟨o,ho,hc,n,hd⟩:=pl
  exact call_list_seq p (.inr rfl) ho hc hd (fun h' c' kp e=>fin its r' hz h' c' kp e) (by simp only[List.size_toArray]<;>omega)
theorem za0:CallR X (.type "tuple") (fun xs H Q=>∃p ys,xs=[.ref p]∧((SqL X.K H p ys∧∀l,H l=none→Q (.ref l) (upd H l (.tup ys)))∨(SqT X.K H p ys∧Q (.ref p) H))):=by
 intro pins s σ H xs us Q I r h
 obtain ⟨p,ys,rfl,h⟩:=h
 obtain ⟨u,rfl,rx⟩:=vals1 r
 cases rx
 rcases h with ⟨hq,q⟩|⟨hq,q⟩
 ·obtain ⟨its,r',pl,hz⟩:=I.list hq
  have hlen:=r'.length
  refine call_tuple_list pl.isList (fun h' kp=>?_) (by simp only[List.size_toArray]<;>omega)
  have I1:Inv X pins σ H { s with heap:=h' }:=I.kept (t':=s.toks) kp
  have I2:Inv X pins σ (upd H h'.objs.size (.tup ys)) { s with heap:=h'.push { cls:=.type "tuple",data:=.seq its.toArray } }:=
   I1.laid (t':=s.toks) (fun b o e=>Heap.get?_push_of_some _ e) (Nat.le_refl _) (show ObjOk X.prog X.w _ _ _ (.tup ys) from ⟨hz,its,r',IsTup.new _ _⟩)
  exact ⟨.ref h'.objs.size,_,I2,rfl,q _ (I1.hok.fresh (Nat.le_refl _))⟩
 ·obtain ⟨its,r',pl,hz⟩:=I.tuple hq
  exact call_tuple_same pl ⟨.ref p,H,I,rfl,q⟩
def tyV (K:W.Frag) (T:String) (x:V) (H:Hp):Prop:=match x with
 |.str _=>T="str"
 |.int _=>T="int"
 |.ref p=>(T="list"∧∃xs,SqL K H p xs)∨(T="tuple"∧∃o,K.lookup p=some o∧o.cls=.type "tuple"∧o.dict=none) ∨
   (T="dict"∧((∃kvs,H p=some (.dK kvs))∨∃kvs,H p=some (.dT kvs)))∨(T="set"∧∃S n,H p=some (.set S n))
 |_=>False
theorem ziJ {pins:List (Addr×Obj)}{σ:St}{H:Hp}{s:Shared}{T:String}{x:V}{v:Value}(I:Inv X pins σ H s) (r:RelV x v) (ty:tyV X.K T x H) :
  s.TypeIs v T∧∀a,v=.ref a→∃ob,s.heap.get? a=some ob∧ob.dict=none:=by
 cases x with
 |str z=>
  obtain ⟨t,rfl⟩:=r
  cases (show T="str" from ty)
  exact ⟨typeIs_str s z t,fun _ e=>nomatch e⟩
 |int i=>
  obtain ⟨t,rfl⟩:=r
  cases (show T="int" from ty)
  exact ⟨typeIs_int s i t,fun _ e=>nomatch e⟩
 |ref p=>
  cases r
  rcases ty with ⟨rfl,xs,hq⟩|⟨rfl,o,hk,hc,hd⟩|⟨rfl,hk⟩|⟨rfl,S,n,hk⟩
  ·obtain ⟨its,_,pl,_⟩:=I.list hq
   refine ⟨pl.isList.typeIs,fun a e=>?_⟩
   cases e
   obtain ⟨o,n,e,c,hd,_⟩:=pl
   exact ⟨o,e,hd⟩
  ·refine ⟨⟨o,I.kIn p o hk,hc⟩,fun a e=>?_⟩
   cases e
   exact ⟨o,I.kIn _ o hk,hd⟩
  ·have z:∃o,s.heap.get? p=some o∧o.ExactDict:=by
    rcases hk with ⟨kvs,hk⟩|⟨kvs,hk⟩
    ·obtain ⟨_,_,_,_,o,_,_,e,ex,_⟩:=I.hok p _ hk
     exact ⟨o,e,ex⟩
    ·obtain ⟨_,_,_,_,o,_,_,e,ex,_⟩:=I.hok p _ hk
     exact ⟨o,e,ex⟩
   obtain ⟨o,e,ex⟩:=z
   refine ⟨⟨o,e,ex.1⟩,fun a e2=>?_⟩
   cases e2
   exact ⟨o,e,ex.2.1⟩
  ·obtain ⟨o,_,_,_,e,ex,_⟩:=I.hok p _ hk
   refine ⟨⟨o,e,ex.1⟩,fun a e2=>?_⟩
   cases e2
   exact ⟨o,e,ex.2.1⟩
 |_=>exact False.elim ty
def tBM (K:W.Frag) (T:String) (r:V→List V→Hp→VK→Prop) (to:TE) (t:TA):TE:=fun σ H Q=>to σ H fun x H1=>tyV K T x H1∧t σ H1 fun xs H2=>r x xs H2 Q
variable {o e:Expr}{es:List Expr}{to:TE}{t:TA}{name:Str}{apos cpos:Pos}{T id:String}{r:V→List V→Hp→VK→Prop}
theorem zbi (pa:PlainAttrs T) (slot:Slot T name id) (hty:typeOf (.builtin id)=pure (.type "method_descriptor")) (hm:MtR X id r) (ho:PE X o to) (ha:PA X (e::es) t)
  (hbase:attributeBase o name X.env (eval o X.env)=eval o X.env:=by rfl)
  (hfew:((backTo cpos (starEach (e::es) X.env)).all (fun x=>!x.1)&&(backToKw cpos (keywordEach [] X.env)).all (fun x=>x.1.isSome)
   && decide ((e::es).length+([]:List Keyword).length+(if ([]:List Keyword).isEmpty then 0 else 1)<30))=true:=by rfl)
  (hline:(apos.endLine==cpos.line)=true:=by rfl) (hs:starEach (e::es) X.env=(false,eval e X.env)::starEach es X.env:=by rfl) (hplain:(backTo cpos (starEach es X.env)).any (·.1)=false:=by rfl) :
  PE X (.Call (.Attribute o name apos) (e::es) [] cpos) (tBM X.K T r to t):=by
 intro pins s σ H Q I h
 refine wpAny_Call_method_late hbase hfew hline rfl (thn (ho pins s σ H _ I h) fun v s1 ⟨x,H1,I1,r1,ty,q1⟩=>?_)
 obtain ⟨h1,h2⟩:=ziJ I1 r1 ty
 refine ⟨T,id,pa,slot,hty,h1,h2,?_⟩
 have hA:=ha cpos pins s1 σ H1 _ I1 q1
 rw[hs] at hA ⊢
 refine Calls.callWith_builtin (by show (false || (backTo cpos (starEach es X.env)).any (·.1))=false;rw[hplain]<;>rfl) (Calls.evalArgs_plain ?_)
 exact thn hA fun us s2 ⟨vs,H2,I2,r2,q2⟩=>hm pins s2 σ H2 x vs v us Q I2 r1 r2 q2
end
def MtM (X:Cx) (id:String) (r:V→List V→Hp→VK→Prop):Prop:=
 ∀(pins:List (Addr×Obj)) (s:Shared) (σ:St) (H:Hp) (x:V) (xs:List V) (v:Value) (us:List Value) (Q:VK),Inv X pins σ H s→RelV x v→Vals xs us→r x xs H Q →
  wpAny (model X.prog X.w) X.A (call (.builtin id) (v::us)) (EP X pins σ Q) X.xe s
theorem Vals.one:∀ {x:V}{us:List Value},Vals [x] us→∃u,us=[u]∧RelV x u
 |_,_,.cons r .nil=>⟨_,rfl,r⟩
theorem Vals.reverse {xs:List V}{us:List Value}(h:Vals xs us):Vals xs.reverse us.reverse:=by
 induction h with
 |nil=>exact .nil
 |cons r t ih=>rw[List.reverse_cons,List.reverse_cons];exact Vals.append ih (.cons r .nil)
section
variable {X:Cx}{pins:List (Addr×Obj)}{σ:St}{H:Hp}{s:Shared}{l b:Addr}{xs ys zs:List V}
theorem Inv.lset {its its':List Value}{n:Nat}{f:Array Value→Array Value}{t':Nat}(I:Inv X pins σ H s) (hH:H l=some (.lst xs))
  (e:s.heap.get? l=some { cls:=.type "list",data:=.seq its.toArray n }) (hf:f its.toArray=its'.toArray) (hv:Vals ys its') (hz:ys.length≤sizeLine) (ht:X.t0≤t':=by first|assumption|exact Inv.tk (by assumption)|(have q:=Inv.tk (by assumption);omega)) :
  Inv X pins σ (upd H l (.lst ys)) { s with heap:=s.heap.update l (Obj.mapSeq f),toks:=t' }:=by
 have q:=PySem.IsL.update e f
 rw[hf] at q
 refine I.write (x:=l) (e:=l) (by rw[hH];exact trivial) (.inl rfl) (fun b' u hb hu=>(Heap.get?_update_other s.heap (Obj.mapSeq f) (Ne.symm hb)).trans hu) ⟨_,q⟩ ?_
 exact ⟨hz,its',_,hv,q⟩
theorem Inv.lnew {its:List Value}{t':Nat}(I:Inv X pins σ H s) (hv:Vals ys its) (hz:ys.length≤sizeLine) (ht:X.t0≤t':=by first|assumption|exact Inv.tk (by assumption)|(have q:=Inv.tk (by assumption);omega)) :
  Inv X pins σ (upd H s.heap.objs.size (.lst ys)) { s with heap:=s.heap.push { cls:=.type "list",data:=.seq its.toArray },toks:=t' }:=
 I.laid (fun _ _ q=>Heap.get?_push_of_some _ q) (Nat.le_refl _) ⟨hz,its,0,hv,Heap.get?_push_size _ rfl⟩
theorem Inv.fresh (I:Inv X pins σ H s):H s.heap.objs.size=none:=I.hok.fresh (Nat.le_refl _)
theorem Inv.lstM (I:Inv X pins σ H s) (hH:H l=some (.lst xs)):xs.length≤sizeLine∧∃(its:List Value) (n:Nat),Vals xs its∧xs.length=its.length∧s.heap.get? l=some { cls:=.type "list",data:=.seq its.toArray n }:=by
 obtain ⟨z,its,n,r,e⟩:=I.hok l _ hH
 exact ⟨z,its,n,r,r.length,e⟩
theorem zh1 {n:Nat}(h:n≤sizeLine):Builtin.List.listTooLong n=false:=by
 unfold Builtin.List.listTooLong
 exact decide_eq_false (by omega)
end
section
variable {X:Cx}
def zi4:V→List V→Hp→VK→Prop:=fun x vs H Q=>∃l xs y,x=.ref l∧vs=[y]∧H l=some (.lst xs)∧xs.length<sizeLine∧Q .non (upd H l (.lst (xs++[y])))
theorem zbd:MtM X "list.append" zi4:=by
 intro pins s σ H x vs v us Q I rx rv h
 obtain ⟨l,xs,y,rfl,rfl,hH,hz,q⟩:=h
 cases rx
 obtain ⟨u,rfl,ru⟩:=rv.one
 obtain ⟨z,its,n,r,hl,e⟩:=I.lstM hH
 refine call_meets F.slot_list_append ⟨_,e,rfl⟩ F.entry_list_append (F.args_list_append_2 _ _) (PySem.list_append l its.toArray n u (by rw[List.size_toArray];omega)) ⟨e,?_⟩
 refine ⟨.non,_,I.lset (its':=its++[u]) hH e (by simp) (r.append (.cons ru .nil)) ?_,rfl,q⟩
 rw[List.length_append,List.length_singleton]
 omega
def zi5:V→List V→Hp→VK→Prop:=fun x vs H Q=>∃l b xs zs,x=.ref l∧vs=[.ref b]∧H l=some (.lst xs)∧H b=some (.lst zs)∧xs.length+zs.length≤sizeLine∧Q .non (upd H l (.lst (xs++zs)))
theorem zgR:MtM X "list.extend" zi5:=by
 intro pins s σ H x vs v us Q I rx rv h
 obtain ⟨l,b,xs,zs,rfl,rfl,hH,hB,hz,q⟩:=h
 cases rx
 obtain ⟨u,rfl,ru⟩:=rv.one
 cases ru
 obtain ⟨z,its,n,r,hl,e⟩:=I.lstM hH
 obtain ⟨z2,its2,n2,r2,hl2,e2⟩:=I.lstM hB
 have hsz:its.toArray.size+its2.toArray.size≤sizeLine:=by rw[List.size_toArray,List.size_toArray];omega
 have hlong:¬(!its.toArray.isEmpty&&Builtin.List.listTooLong (its.toArray.size+its2.toArray.size))=true:=by
  rw[zh1 hsz,Bool.and_false]
  exact Bool.false_ne_true
 refine call_meets F.slot_list_extend ⟨_,e,rfl⟩ F.entry_list_extend (F.args_list_extend_2 _ _)
  (AutoSeq1.list_extend_list_list_0 l its.toArray n b its2.toArray n2 hlong (by rw[List.size_toArray];omega) (by omega)) ⟨e,e2,?_⟩
 refine ⟨.non,_,I.lset (its':=its++its2) hH e (by simp) (r.append r2) ?_,rfl,q⟩
 rw[List.length_append]
 omega
def rCat:R2:=fun x y H Q=>∃l b xs zs,x=.ref l∧y=.ref b∧H l=some (.lst xs)∧H b=some (.lst zs)∧xs.length+zs.length≤sizeLine∧∀p,H p=none→Q (.ref p) (upd H p (.lst (xs++zs)))
theorem zca:OpR X (binaryOp .Add) rCat:=by
 intro pins s σ H x y v u Q I rx ry h
 obtain ⟨l,b,xs,zs,rfl,rfl,hH,hB,hz,q⟩:=h
 cases rx
 cases ry
 obtain ⟨z,its,n,r,hl,e⟩:=I.lstM hH
 obtain ⟨z2,its2,n2,r2,hl2,e2⟩:=I.lstM hB
 refine PySem.P.add_list e e2 ?_ (by rw[List.size_toArray,List.size_toArray];omega)
 have ea:its.toArray++its2.toArray=(its++its2).toArray:=by simp
 rw[ea]
 exact ⟨.ref _,_,I.lnew (t':=s.toks) (r.append r2) (by rw[List.length_append];omega),rfl,q _ I.fresh⟩
end
section
variable {prog:Program}{w:World}{A:Around}{E:Value→Shared→Prop}{s:Shared}
end
section
variable {X:Cx}
end
end L2
namespace Att
open PySem PySem.W PySem.Calls PyProof.Rows
theorem zdg {P:Params}{h:Heap}:∀(ns:List Int) (vs:List Value),WellAll P h vs (ns.map WData.int)→IntsAre vs ns:=by
 intro ns
 induction ns with
 |nil=>
  intro vs w
  rw[List.map_nil] at w
  cases w
  exact .nil
 |cons n ns ih=>
  intro vs w
  rw[List.map_cons] at w
  cases w with
  |cons a b=>
   cases a
   exact .cons _ _ (ih _ b)
theorem zgS {l:OpenLaw}{n:Nat}(hn:l.most=some n){P:Params}{h:Heap}{args:List WData}{vals:List Value}
  (hpre:l.row.toRowW.claim.pre args=true) (hwl:WellAll P h vals args) :
  ∃a vs ns,vals=[Value.ref a]∧args=[WData.list (ns.map WData.int)]∧h.get? a=some { cls:=.type "list",data:=.seq vs.toArray }∧IntsAre vs ns∧ns.length≤n:=by
 have hsh:WShape.hasAll [] args [.list .int]=true:=(pre_splitW hpre).1
 have hc:l.pre.holds [] { args:=args }=true:=(pre_splitW hpre).2
 obtain ⟨d,r,rfl,h1,h2⟩:=hasAllW_cons hsh
 obtain rfl:=hasAllW_nil h2
 obtain ⟨xs,rfl,h3⟩:=hasW_list h1
 obtain ⟨ns,rfl⟩:=items_int h3
 have hlen:ns.length≤n:=by
  unfold OpenLaw.pre at hc
  have h4:(WTm.not (.lt (.lit (.int (n:Int))) (.len (.arg 0)))).holds [] { args:=[.list (ns.map .int)] }=true:=by
   have h4:=(holds_andW hc).1
   rw[hn] at h4
   exact h4
  have h5:=condW_of h4 (w_not (w_lt w_lit (w_len_list (w_arg rfl))))
  rw[List.length_map] at h5
  refine Nat.le_of_not_lt fun q=>?_
  have q':(n:Int)<((ns.length:Nat):Int):=by omega
  first
   |(rw[decide_eq_true q'] at h5;exact absurd h5 (by decide))
   |(simp at h5;omega)
 cases hwl with
 |cons w1 w2=>
  cases w2
  cases w1 with
  |list ho hall=>exact ⟨_,_,ns,rfl,rfl,ho,zdg ns _ hall,hlen⟩
theorem zgT (l:OpenLaw) (args:List WData):l.row.toRowW.claim.post args (.bool true) args=true:=
 postW_of (r:=l.row.toRowW) (X:=(true==true))
  (show WShape.has [] (.bool true) .bool=true by first|rfl|decide|simp[WShape.has,WShape.arms,WShape.armsAll])
  (show (WTm.eq .res (.lit (.bool true))).value [] { args:=args,res:=some (.bool true),after:=args }=some (.bool (true==true)) from w_eq_bool (w_res rfl) w_lit) rfl
theorem attach_call {l:OpenLaw}{n:Nat}{q:Program}{loose:List Str}{XP:(Str→Option Value)→Heap→Prop}{YP:World→Heap→Prop}{d:DefRec}
  (hn:l.most=some n) (hdf:d.params.defaults=[])
  (call:∀(w:World) (s₀ s₁:Shared) (mg mb:Str→Option Value) (fa:Addr) (o:Obj) (pm cd doc:Value) (a:Addr) (vs:List Value) (ns:List Int),
   Ground q loose [] XP w s₀ mg mb s₁.heap→YP w s₁.heap →
   s₁.heap.get? fa=some o→o.data=.func (docDef d.name d.params d.body d.scope pm cd doc)→s₁.heap.CodeRec cd d.name→mg d.name=some (.ref fa) →
   s₁.heap.get? a=some { cls:=.type "list",data:=.seq vs.toArray }→IntsAre vs ns→ns.length≤n→s₁.gens=#[] →
   codeAny (model l.prog w) callerA (.call (.ref fa) ⟨[.ref a],[]⟩) (fun r s'=>r=.ok (.ret (.bool true))∧OldK s₁.heap s'.heap∧s'.os=s₁.os∧AllBare s'.gens) s₁) :
  WalkO q loose XP YP l.row.toRowW d [] (fun f vs=>PySem.call f vs):=by
 intro w s₀ s₁ mg mb G Y fa o pm cd doc dV kV ho hd hcd hD hmg hg args vals as hpre hlay hrd hwl hlo
 obtain rfl:dV=.none:=Dflts.none hD hdf
 obtain rfl:kV=.none:=Dflts.noKw hD
 obtain ⟨a,vs,ns,rfl,rfl,hobj,hints,hlen⟩:=zgS hn hpre hwl
 refine enter_call (codeAny_mono (call w s₀ s₁ mg mb fa o pm cd doc a vs ns G Y ho (fd_plain hd) hcd hmg hobj hints hlen hg) fun r s' hq=>?_)
 obtain ⟨rfl,h2,h3,h4⟩:=hq
 exact ⟨.inl ⟨.bool true,.bool true,[],rfl,fun _=>rfl,.bool true,zgT l _,fun _=>⟨List.Pairwise.nil,fun _ hm=>(nomatch hm)⟩⟩,h2,h3,h4⟩
section
variable {prog:Program}{w:World}{A:Around}{E:Value→Shared→Prop}{s:Shared}{K:Frag}
end
end Att
namespace L2
open PySem PySem.Spec PyProof.Rows
theorem zeD:∀ {vs:List Value}{ns:List Int},IntsAre vs ns→Vals (ns.map V.int) vs
 |_,_,.nil=>.nil
 |_,_,.cons n t h=>.cons ⟨t,rfl⟩ (zeD h)
def Only (H:Hp):Prop:=∀b,H b=none∨∃o xs,H b=some (.frz o (.lst xs))
theorem zh2 {P:Program}{w:World}{K:W.Frag}{mg mb:Str→Option Value}{CX:CXT}{k:Nat}{fa a:Addr}{fd:FuncData}{x:Str}{sp:Sp}{s₁:Shared}{vs:List Value}{ns:List Int}
  (KX:K.In s₁.heap) (hns:s₁.heap.Ns mainGlobals mg) (hb:s₁.heap.Ns builtinsNs mb) (hbb:∀x:Str,x≠"__name__"→mb x=bootBuiltins x) (hlim:s₁.heap.NoLimit) (hg:s₁.gens=#[])
  (ha:s₁.heap.get? a=some { cls:=.type "list",data:=.seq vs.toArray }) (hi:IntsAre vs ns) (hl:ns.length≤sizeLine) (hr:Room k callerA)
  (F:∀base:Heap,K.In base→base.Ns mainGlobals mg→FnOkT 0 P w K mg base CX k fa fd [x] sp) (hbind:∀(s:Shared) (u:Value),BindsTo s fd ⟨[u],[]⟩ [(x,u)])
  (hsp:∀H:Hp,Only H→SqL K H a (ns.map V.int)→sp [.ref a] H (fun v _=>v=.bl true) fun _ _ _=>False)
  (hCX:∀H e s',CX [] H s₁ (fun _ _ _=>False) e s'→False) :
  codeAny (model P w) callerA (.call (.ref fa) ⟨[.ref a],[]⟩) (fun r s'=>r=.ok (.ret (.bool true))∧OldK s₁.heap s'.heap∧s'.os=s₁.os∧AllBare s'.gens) s₁:=by
 have rv:=zeD hi
 have lenV:=hi.length
 -- from an abstract heap in which nothing but the script may be tracked
 have core:∀H:Hp,Only H→SqL K H a (ns.map V.int)→HOk P w H s₁.heap→(∀b,H b≠none→b=a)→(H a≠none→K.lookup a=none) →
   codeAny (model P w) callerA (.call (.ref fa) ⟨[.ref a],[]⟩) (fun r s'=>r=.ok (.ret (.bool true))∧OldK s₁.heap s'.heap∧s'.os=s₁.os∧AllBare s'.gens) s₁:=by
  intro H hO hS hok hA hK
  have base_of:∀ {b:Addr} {o:Obj},s₁.heap.get? b=some o→H b=none→(hidT s₁.heap H).get? b=some o:=fun e n=>zhW e n
  have noA:∀ {b:Addr} {o:Obj} {es:Array DictEntry} {ep:Nat},s₁.heap.get? b=some o→o.data=.dict es ep→H b=none:=fun {b o es ep} e d=>by
   cases q:H b with
   |none=>rfl
   |some u=>
    have e':b=a:=hA b (by rw[q];simp)
    subst e'
    rw[ha] at e;cases e
    have d':Data.seq vs.toArray _=Data.dict es ep:=d
    cases d'
  have nsK:∀ {b:Addr} {m:Str→Option Value},s₁.heap.Ns b m→(hidT s₁.heap H).Ns b m:=fun {b m} ⟨o,es,ep,e,d,r⟩=>⟨o,es,ep,base_of e (noA e d),d,r⟩
  have hKb:K.In (hidT s₁.heap H):=fun b o e=>base_of (KX b o e) (by
   cases q:H b with
   |none=>rfl
   |some u=>
    have e':b=a:=hA b (by rw[q];simp)
    subst e'
    rw[hK (by rw[q];simp)] at e;cases e)
  have hM:Mod K mg (hidT s₁.heap H):=⟨hKb,nsK hns,⟨mb,nsK hb,hbb⟩,let ⟨mc,h1,h2⟩:=hlim;⟨mc,nsK h1,h2⟩⟩
  have e0:Env0T 0 P w K mg (hidT s₁.heap H) callerA [] s₁ H:=⟨rfl,hM,fun b o e=>ziY e,Nat.le_of_eq (zgB _ _),trivial,fun b hb=>absurd (show b∈([]:List Addr) from hb) (by simp),hok,.of_eq hg,Nat.zero_le _⟩
  refine codeAny_mono ((F _ hKb (nsK hns)).run callerA [] s₁ H ⟨[.ref a],[]⟩ [.ref a] [.ref a] _ _ hr e0 (hbind s₁ (.ref a)) (.cons rfl .nil) (hsp H hO hS)) fun r s' h=>?_
  cases r with
  |error e=>exact (hCX H e s' h).elim
  |ok fl=>
   cases fl with
   |next=>exact False.elim h
   |brk=>exact False.elim h
   |cont=>exact False.elim h
   |ret u=>
    obtain ⟨v,H',os,bare,un,hok',r',q⟩:=h
    have q':v=.bl true:=q
    subst q'
    obtain rfl:u=Value.bool true:=r'
    refine ⟨rfl,OldK.of_keep fun b o e=>?_,os,bare⟩
    cases q:H b with
    |none=>exact un.keep b o e q (by intro z;exact absurd (show b∈([]:List Addr) from z) (by simp)) (by simp)
    |some u=>
     rcases hO b with z|⟨ob,xs,z⟩
     ·rw[q] at z;cases z
     ·have z2:=un.frzs b ob _ z
      obtain ⟨e1,_⟩:=hok b _ z
      obtain ⟨e2,_⟩:=hok' b _ z2
      rw[e] at e1;cases e1
      exact e2
 cases hk:K.lookup a with
 |some o=>
  -- the script is one of the module's own objects
  have e:=KX a o hk
  rw[ha] at e
  cases e
  refine core (fun _=>none) (fun _=>.inl rfl) (.inr ⟨_,vs.toArray,_,hk,rfl,rfl,rfl,by rw[List.size_toArray,lenV];exact hl,by simpa using rv⟩) (fun b u z=>by have z':(none:Option HO)=some u:=z;cases z') (fun b z=>absurd rfl z) fun z=>absurd rfl z
 |none=>
  refine core (fun b=>if b=a then some (.frz { cls:=.type "list",data:=.seq vs.toArray } (.lst (ns.map V.int))) else none) (fun b=>?_) (.inl (.inr ⟨{ cls:=.type "list",data:=.seq vs.toArray },if_pos rfl⟩)) (fun b u z=>?_) (fun b z=>?_) fun _=>hk
  ·by_cases hb:b=a
   ·exact .inr ⟨_,_,if_pos hb⟩
   ·exact .inl (if_neg hb)
  ·by_cases hb:b=a
   ·have z':=(if_pos hb).symm.trans z
    cases z'
    subst hb
    exact ⟨ha,by rw[List.length_map];exact hl,vs,_,rv,ha⟩
   ·have z':=(if_neg hb).symm.trans z
    cases z'
  ·by_cases hb:b=a
   ·exact hb
   ·exact absurd (if_neg hb) z
theorem walk_of {l:W.OpenLaw}{n k:Nat}{q:Program}{loose:List Str}{XP:(Str→Option Value)→Heap→Prop}{YP:World→Heap→Prop}{d:DefRec}{K:Params→W.Frag}{CX:World→CXT}{sp:World→Sp}{x:Str}
  (hn:l.most=some n) (hn2:n≤sizeLine) (hdf:d.params.defaults=[]) (hr:Room k callerA)
  (hY:∀(w:World) (h:Heap),YP w h→(K w.params).In h)
  (F:∀(w:World) (mg:Str→Option Value) (fa:Addr) (h:Heap),(K w.params).In h→h.Ns mainGlobals mg→mg d.name=some (.ref fa) →
   ∃fd:FuncData,(∀(s:Shared) (u:Value),BindsTo s fd ⟨[u],[]⟩ [(x,u)]) ∧
    ∀base:Heap,(K w.params).In base→base.Ns mainGlobals mg→FnOkT 0 l.prog w (K w.params) mg base (CX w) k fa fd [x] (sp w))
  (hsp:∀(w:World) (H:Hp) (a:Addr) (ns:List Int),ns.length≤n→Only H→SqL (K w.params) H a (ns.map V.int)→sp w [.ref a] H (fun v _=>v=.bl true) fun _ _ _=>False)
  (hCX:∀(w:World) (H:Hp) (s:Shared) (e:Value) (s':Shared),CX w [] H s (fun _ _ _=>False) e s'→False) :
  W.WalkO q loose XP YP l.row.toRowW d [] (fun f vs=>PySem.call f vs):=by
 refine Att.attach_call hn hdf fun w s₀ s₁ mg mb fa o pm cd doc a vs ns G Y ho hd hcd hmg hobj hints hlen hg=>?_
 have KX:=hY w _ Y
 obtain ⟨fd,hb,hF⟩:=F w mg fa _ KX G.T.g hmg
 exact zh2 KX G.T.g G.T.b G.T.builtins G.T.nolimit hg hobj hints (Nat.le_trans hlen hn2) hr hF hb (fun H hO hS=>hsp w H a ns hlen hO hS) fun H e s'=>hCX w H s₁ e s'
def zce (s:Stmt):Arguments:=match s with
 |.FunctionDef _ a _ _ _ _ _ _ _ _=>a
 |_=>{ posonlyargs:=[],args:=[],vararg:=none,kwonlyargs:=[],kw_defaults:=[],kwarg:=none,defaults:=[] }
def zbo (s:Stmt):List Stmt:=match s with
 |.FunctionDef _ _ b _ _ _ _ _ _ _=>b
 |_=>[]
def zag (s:Stmt):Scope:=match s with
 |.FunctionDef _ _ _ _ _ _ sc _ _ _=>sc
 |_=>{ kind:=.function,names:=[],isGenerator:=false,isCoroutine:=false }
abbrev CX0:CXT:=fun _ _ _ _ _ _=>False
abbrev E0:XK:=fun _ _ _=>False
theorem pass0 {X:Cx}:zgP CX0 X E0:=fun _ _ _ _ _ _ _ h=>h.elim
structure Fun (K:W.Frag) (x qual:Str) (st:Stmt) (f:Addr) (fd:FuncData):Prop where
 ex:∃(oc:Value) (od:Option Addr) (kV doc pm:Value) (an:Option Addr) (cdv ct:Value) (osl:Array (Option Value)),
  fd=W.fnOf x qual (zce st) (zbo st) (zag st) .none kV doc pm an cdv ct∧K.lookup f=some ⟨oc,od,.func fd,osl⟩∧W.codeIn K cdv qual=true
 kp:W.keepIn K (.ref f)=true
section
variable {P:Program}{w:World}{K:W.Frag}{mg:Str→Option Value}{base:Heap}
theorem Fun.ok {x qual:Str}{st:Stmt}{f:Addr}{fd:FuncData}{N ps:List Str}{k:Nat}{sp:Sp}(F:Fun K x qual st f fd) (S:zar N ps (zag st)) (len:∀vs H Q E,sp vs H Q E→vs.length=ps.length)
  (hbody:∀(cdv:Value) (A:Around) (outer:List Env) (s:Shared) (H:Hp) (vs:List V) (Q:VK) (E:XK),Room k (A.deeper (envOfC qual (zag st) s.heap.objs.size f cdv))→sp vs H Q E →
   ∃t,PSs (cxOf CX0 P w K mg base N qual (zag st) f cdv A outer s H E).nox (zbo st) t∧t { nx:=fun _ H'=>Q .non H',rt:=Q } (start N vs) H):FnOk P w K mg base CX0 (k+1) f fd ps sp:=by
 obtain ⟨oc,od,kV,doc,pm,an,cdv,ct,osl,rfl,lk,hcd⟩:=F.ex
 refine zka lk hcd S len fun A outer s H vs Q E hr hsp=>?_
 obtain ⟨t,h,q⟩:=hbody cdv A outer s H vs Q E hr hsp
 exact ⟨t,h.nox,q⟩
theorem Fun.binds {x qual:Str}{st:Stmt}{f:Addr}{fd:FuncData}{ps:List Str}(F:Fun K x qual st f fd)
  (h:∀(kV doc pm:Value) (an:Option Addr) (cdv ct:Value) (us:List Value),us.length=ps.length→bindArgs (W.fnOf x qual (zce st) (zbo st) (zag st) .none kV doc pm an cdv ct) ⟨us,[]⟩=pure (ps.zip us)):Binds K fd ps []:=by
 obtain ⟨oc,od,kV,doc,pm,an,cdv,ct,osl,rfl,lk,hcd⟩:=F.ex
 exact .all (h kV doc pm an cdv ct)
theorem zkd {x qual:Str}{st:Stmt}{f:Addr}{oc:Value}{od an:Option Addr}{osl:Array (Option Value)}{kV doc pm cdv ct:Value}(l:K.lookup f=some ⟨oc,od,.func (W.fnOf x qual (zce st) (zbo st) (zag st) .none kV doc pm an cdv ct),osl⟩)
  (c:W.codeIn K cdv qual=true) (k:W.keepIn K (.ref f)=true):Fun K x qual st f (W.fnOf x qual (zce st) (zbo st) (zag st) .none kV doc pm an cdv ct):=⟨⟨oc,od,kV,doc,pm,an,cdv,ct,osl,rfl,l,c⟩,k⟩
end
theorem zke {A:Around}{k:Nat}(hr:Room k A):A.units+1<cLine:=Nat.lt_of_le_of_lt (Nat.add_le_add_left (by decide:1≤64) _) hr.units
section
variable {X:Cx}
theorem pv (i:Nat){x:Str}{pos:Pos}(hN:X.N[i]?=some x:=by rfl) (hv:Vis X.env.scope x:=by first|exact Or.inl rfl|exact Or.inr (Or.inl rfl)|exact Or.inr (Or.inr rfl)) (hd:(x==("__debug__":Str))=false:=by decide)
  (hcd:(x==("__classdict__":Str))=false:=by decide):PE X (.Name x pos) (tVar i):=zj4 hN hv hd hcd
end
theorem iteF {A B:Prop}(h:B):if false=true then A else B:=by
 rw[if_neg Bool.false_ne_true]
 exact h
theorem iteT {A B:Prop}(h:A):if true=true then A else B:=by
 rw[if_pos rfl]
 exact h
theorem ite2 {c A B:Prop} [Decidable c] (h1:c→A) (h2:¬c→B):if c then A else B:=by
 by_cases h:c
 ·rw[if_pos h]
  exact h1 h
 ·rw[if_neg h]
  exact h2 h
def Same (H H':Hp):Prop:=∀b o,H b=some o→H' b=some o
theorem Same.refl (H:Hp):Same H H:=fun _ _ h=>h
theorem Same.trans {H H1 H2:Hp}(a:Same H H1) (b:Same H1 H2):Same H H2:=fun c o h=>b c o (a c o h)
theorem Same.free {H H':Hp}(e:Same H H'){l:Addr}(h:H' l=Option.none):H l=Option.none:=by
 cases q:H l with
 |none=>rfl
 |some o=>
  rw[e l o q] at h
  cases h
theorem zcL (env:Env):∀(names:List (Str×NameKind)) (acc:List (Str×Addr)),(∀x∈names,x.2=.free→∃c,env.cells.lookup x.1=some c) →
  (∀x c,acc.lookup x=some c→env.cells.lookup x=some c) →
  ∃cl:List (Str×Addr),(forIn names acc (fun (x:Str×NameKind) r=>(if (x.2==.free)=true then cellOf env x.1 >>= fun a=>pure (ForInStep.yield ((x.1,a)::r)) else pure (ForInStep.yield r):Sem (ForInStep (List (Str×Addr))))))=pure cl ∧
   (∀x c,cl.lookup x=some c→env.cells.lookup x=some c)∧(∀x c,acc.lookup x=some c→∃d,cl.lookup x=some d)∧(∀x∈names,x.2=.free→∃c,cl.lookup x.1=some c)
 |[],acc,_,h2=>⟨acc,rfl,h2,fun x c e=>⟨c,e⟩,fun x hx=>by simp at hx⟩
 |(n,k)::r,acc,h1,h2=>by
  rw[List.forIn_cons]
  by_cases hk:k=.free
  ·subst hk
   obtain ⟨c,hc⟩:=h1 (n,.free) List.mem_cons_self rfl
   obtain ⟨cl,e,a1,a2,a3⟩:=zcL env r ((n,c)::acc) (fun x hx=>h1 x (List.mem_cons_of_mem _ hx)) (fun x d e=>by
    rw[List.lookup_cons] at e
    cases hb:x==n with
    |true=>
     rw[hb] at e
     have hxn:x=n:=by simpa using hb
     cases e
     rw[hxn];exact hc
    |false=>rw[hb] at e;exact h2 x d e)
   have hco:cellOf env n=pure c:=by unfold cellOf;simp only at hc;rw[hc]
   refine ⟨cl,?_,a1,fun x d e=>?_,fun x hx hf=>?_⟩
   ·simp only[beq_self_eq_true,if_true,hco,pure_bind]
    exact e
   ·by_cases hx:x=n
    ·subst hx;exact a2 x c (by simp[List.lookup_cons])
    ·exact a2 x d (by rw[List.lookup_cons];have:(x==n)=false:=by simpa using hx
                      rw[this];exact e)
   ·rcases List.mem_cons.mp hx with rfl|hx
    ·exact a2 n c (by simp[List.lookup_cons])
    ·exact a3 x hx hf
  ·obtain ⟨cl,e,a1,a2,a3⟩:=zcL env r acc (fun x hx=>h1 x (List.mem_cons_of_mem _ hx)) h2
   have hb:(k==NameKind.free)=false:=by simpa using hk
   refine ⟨cl,?_,a1,a2,fun x hx hf=>?_⟩
   ·simp only[hb,Bool.false_eq_true,if_false,pure_bind]
    exact e
   ·rcases List.mem_cons.mp hx with rfl|hx
    ·exact absurd hf hk
    ·exact a3 x hx hf
theorem zbA (env:Env) (sc:Scope) (h1:∀x∈sc.names,x.2=.free→∃c,env.cells.lookup x.1=some c) :
  ∃cl:List (Str×Addr),closureFor sc env=pure cl∧(∀x c,cl.lookup x=some c→env.cells.lookup x=some c)∧(∀x∈sc.names,x.2=.free→∃c,cl.lookup x.1=some c):=by
 obtain ⟨cl,e,a1,_,a3⟩:=zcL env sc.names [] h1 (fun x c e=>by simp at e)
 refine ⟨cl,?_,a1,a3⟩
 unfold closureFor
 simp only[bind_pure]
 exact e
def Cx.blk (X:Cx) (sc:Scope) (cl:List (Str×Addr)) (N':List Str) (s3:Shared) (H3:Hp) (ex:List Addr):Cx:=
 { X with N:=N',s₀:=s3,H₀:=H3,env:=compEnvC sc cl s3.heap.objs.size X.env,outer:=X.stack,stack:=X.stack,ex:=ex,fn:=fun _=>false,pn:=[],xe:=fun _ _=>False }
structure BlkOk (X:Cx) (sc:Scope):Prop where
 kind:sc.kind=.function
 names:∀x∈sc.names,x.2=.local→sc.names.lookup x.1=some .local
 nocell:∀x∈sc.names,x.2≠.cell
 free:∀x∈sc.names,x.2=.free→X.env.kindOf x.1=some .cell
theorem zba {names:List (Str×NameKind)}{x:Str}{k:NameKind}(h:names.lookup x=some k):(x,k)∈names:=PySem.mem_of_lookup h
theorem zaR {env:Env}:∀ {names:List (Str×NameKind)}{x:Str}{k:NameKind},
  (names.map fun (n,k)=>if (k==NameKind.free&&env.scope.kind==.function&&env.kindOf n==some .cell) then (n,NameKind.cell) else (n,k)).lookup x=some k →
  names.lookup x=some k∨(k=.cell∧names.lookup x=some .free)
 |[],_,_,h=>by simp at h
 |(n,k0)::r,x,k,h=>by
  have ih:=@zaR env r x k
  change List.lookup x ((if (k0==NameKind.free&&env.scope.kind==.function&&env.kindOf n==some .cell)=true then (n,NameKind.cell) else (n,k0))::_)=_ at h
  cases hx:x==n with
  |true=>
   by_cases hc:(k0==NameKind.free&&env.scope.kind==.function&&env.kindOf n==some .cell)=true
   ·rw[if_pos hc] at h
    simp only[List.lookup_cons,hx] at h
    have hk:k0=.free:=by simp only[Bool.and_eq_true,beq_iff_eq] at hc;exact hc.1.1
    cases h
    exact .inr ⟨rfl,by simp only[List.lookup_cons,hx,hk]⟩
   ·rw[if_neg hc] at h
    simp only[List.lookup_cons,hx] at h
    cases h
    exact .inl (by simp only[List.lookup_cons,hx])
  |false=>
   have h':List.lookup x (r.map fun (n,k)=>if (k==NameKind.free&&env.scope.kind==.function&&env.kindOf n==some .cell) then (n,NameKind.cell) else (n,k))=some k:=by
    by_cases hc:(k0==NameKind.free&&env.scope.kind==.function&&env.kindOf n==some .cell)=true
    ·rw[if_pos hc] at h;simp only[List.lookup_cons,hx] at h;exact h
    ·rw[if_neg hc] at h;simp only[List.lookup_cons,hx] at h;exact h
   simp only[List.lookup_cons,hx]
   exact ih h'
section
variable {X:Cx}{pins:List (Addr×Obj)}{σ σ':St}{H:Hp}{s:Shared}{sc:Scope}{cl:List (Str×Addr)}{N':List Str}{fp:List Addr}
theorem zcq (I:Inv X pins σ H s) (B:BlkOk X sc) (c1:∀x c,cl.lookup x=some c→X.env.cells.lookup x=some c) (c2:∀x∈sc.names,x.2=.free→∃c,cl.lookup x.1=some c)
  (hf:∀b∈fp,FpOk X pins H b∧b<s.heap.objs.size) (hlen:σ'.length=N'.length)
  (hcap:∀(i:Nat) (x:Str) (v:V),N'[i]?=some x→σ'[i]?=some (some v)→Vis (relabel sc X.env) x→∃j:Nat,X.N[j]?=some x∧σ[j]?=some (some v)∧Vis X.env.scope x∧sc.names.lookup x=some .free)
  {h':Heap} {tk:Nat} (hns:h'.Ns s.heap.objs.size (fun _=>none)) (hsb:Heap.SameBut s.heap.objs.size (s.heap.push { cls:=.type "dict",data:=.dict #[] }) h') (ht:X.t0≤tk) :
  Inv (X.blk sc cl N' s H fp) [] σ' H { s with heap:=h',toks:=tk }:=by
 have hk:∀b u,s.heap.get? b=some u→h'.get? b=some u:=fun b u e=>(hsb.2 b (Nat.ne_of_lt (Heap.lt_size e))).trans (Heap.get?_push_of_some _ e)
 have hcell:∀x c,cl.lookup x=some c→c<s.heap.objs.size:=fun x c e=>by
  obtain ⟨v,q⟩:=I.cell x c (c1 x c e)
  exact q.lt
 have cll:∀x c,cl.lookup x=some c→∃v,h'.IsCell c v:=fun x c e=>by
  obtain ⟨v,o,e1,e2⟩:=I.cell x c (c1 x c e)
  exact ⟨v,o,hk _ _ e1,e2⟩
 refine ⟨⟨I.ok.mod,B.kind,I.ok.glob,I.ok.blt,Nat.le_refl _,fun x y c e1 e2=>I.ok.inj x y c (c1 x c e1) (c1 y c e2),fun x hx=>?_,fun x c z=>(by cases z),I.ok.hd,I.ok.frames,.inl rfl,fun b hb=>⟨Nat.ne_of_lt (hf b hb).2,fun x c e=>(hf b hb).1.2.2.2.2.1 x c (c1 x c e)⟩,
  I.bs,?_,fun b o e hb=>?_,fun b hb hb'=>?_,I.stack,I.stkFree⟩,rfl,I.bare,Un.kept hk,⟨_,hns,fun i x v e1 e2 e3=>?_⟩,cll,I.hok.fresh (Nat.le_refl _),fun x c e=>I.freeC x c (c1 x c e),fun p hp=>absurd (show p∈([]:List (Addr×Obj)) from hp) (by simp),I.hok.kept hk,hlen,ht⟩
 ·have hx':(relabel sc X.env).names.lookup x=some .cell∨(relabel sc X.env).names.lookup x=some .free:=hx
  have:sc.names.lookup x=some .free:=by
   rcases hx' with h|h
   ·rcases zaR h with h|⟨_,h⟩
    ·exact absurd rfl (B.nocell _ (zba h))
    ·exact h
   ·rcases zaR h with h|⟨h0,h⟩
    ·exact h
    ·cases h0
  exact c2 (x,.free) (zba this) rfl
 ·exact Nat.le_trans I.ok.bsz I.sz
 ·have:=(hf b hb).1.2.2.2.1
  rcases this with z|z
  ·exact I.ok.noex b o e z
  ·exact absurd (Nat.lt_of_lt_of_le (Heap.lt_size e) (Nat.le_trans I.ok.bsz z)) (Nat.lt_irrefl _)
 ·have:=I.stkSub b hb'
  rcases List.mem_cons.mp this with z|z
  ·exact (hf b hb).1.2.1 z
  ·exact (hf b hb).1.2.2.1 z
 ·obtain ⟨j,e4,e5,e6,e7⟩:=hcap i x v e1 e2 e3
  obtain ⟨m,hn,hl⟩:=I.loc
  obtain ⟨u,r,l⟩:=hl j x v e4 e5 e6
  refine ⟨u,r,?_⟩
  have kf:=B.free (x,.free) (zba e7) rfl
  have kf':X.env.kindOf x=some .cell:=kf
  rcases l with ⟨k1,_⟩|⟨_,c,e8,e9⟩
  ·rw[kf'] at k1;cases k1
  ·obtain ⟨d,hd⟩:=c2 (x,.free) (zba e7) rfl
   have hd':cl.lookup x=some d:=hd
   have:=c1 x d hd'
   rw[e8] at this
   cases this
   refine .inr ⟨?_,c,hd',?_⟩
   ·rcases e3 with z|z|z
    ·rcases zaR z with h|⟨h0,h⟩
     ·rw[e7] at h;cases h
     ·cases h0
    ·exact .inl z
    ·exact .inr z
   ·obtain ⟨o,q1,q2⟩:=e9
    exact ⟨o,hk _ _ q1,q2⟩
theorem zdU {H':Hp}{σ'':St}{pins':List (Addr×Obj)}{s':Shared}{h'':Heap}(I:Inv X pins σ H s) (hf:∀b∈fp,FpOk X pins H b∧b<s.heap.objs.size) (J:Inv (X.blk sc cl N' s H fp) pins' σ'' H' s')
  (hsb:Heap.SameBut s.heap.objs.size s'.heap h''):Inv X pins σ H' { s' with heap:=h'' }:=by
 have ne:∀b o,s.heap.get? b=some o→b≠s.heap.objs.size:=fun b o e=>Nat.ne_of_lt (Heap.lt_size e)
 have hfree:H' s.heap.objs.size=none:=J.free
 have B:Un (frs X.stack) fp H H' s.heap s'.heap:=J.base
 refine I.call' (ch:=fp) (s':={ s' with heap:=h'' }) J.os J.tk ⟨fun b o e n hb hx=>?_,fun b o e n hb hx=>?_,B.free,fun b o e hx=>?_,B.tups,B.frzs,B.tbls⟩ (fun b o e=>?_) J.bare fun b hb=>?_
 ·exact (hsb.2 b (ne b o e)).trans (B.keep b o e n hb hx)
 ·obtain ⟨sl,q⟩:=B.slot b o e n hb hx
  exact ⟨sl,(hsb.2 b (ne b o e)).trans q⟩
 ·obtain ⟨o',q⟩:=B.there b o e hx
  exact ⟨o',(hsb.2 b (ne b o e)).trans q⟩
 ·refine (J.hok b o e).stay (fun c w' hc q=>(hsb.2 c ?_).trans q) (fun _ q=>q) fun _ _ q=>q
  rintro rfl
  rcases hc with rfl|hc
  ·rw[hfree] at e;cases e
  ·rw[hfree] at hc;cases hc
 ·obtain ⟨f0,f1,f2,f3,f4,f5⟩:=(hf b hb).1
  exact ⟨f3,f1,f4,f5⟩
end
abbrev TR:=St→Hp→(St→Hp→Prop)→Prop
def PR (X:Cx) (rest:Sem Unit) (t:TR):Prop:=
 ∀(pins:List (Addr×Obj)) (s:Shared) (σ:St) (H:Hp) (N:St→Hp→Prop),Inv X pins σ H s→t σ H N→wpAny (model X.prog X.w) X.A rest (fun _ s'=>∃σ' H',Inv X pins σ' H' s'∧N σ' H') X.xe s
def PTs (X:Cx) (ifs:List Expr) (t:TT):Prop:=
 ∀(pins:List (Addr×Obj)) (s:Shared) (σ:St) (H:Hp) (Q:Bool→Hp→Prop),Inv X pins σ H s→t σ H Q →
  wpAny (model X.prog X.w) X.A (forIn ifs true fun c r=>if r=true then do let ok ← isTrue c X.env (eval c X.env);pure (ForInStep.yield ok) else pure (ForInStep.yield r)) (TP X pins σ Q) X.xe s
def tYes:TT:=fun _ H Q=>Q true H
theorem zaS {X:Cx}:PTs X [] tYes:=fun _ _ _ H _ I h=>wpAny_tests_nil ⟨H,I,h⟩
theorem zdh {X:Cx}{c:Expr}{t:TT}(h:PT X c t):PTs X [c] t:=fun pins s σ H Q I q=>wpAny_tests_one (h pins s σ H Q I q)
def tLoop (J:It) (g:TG) (tt:TT) (tr:TR) (Qe:St→Hp→Prop) (σ:St) (H:Hp):Prop:=∃W:Nat→Nat→St→Hp→Prop,(∃m,W 0 m σ H)∧∀i m σ H,W i m σ H →
 (J.stop i H∧Qe σ H)∨(J.go i H∧∃N:St→Hp→Prop,(∀σ' H',N σ' H'→∃m',m'<m∧W (i+1) m' σ' H')∧∀x H',J.yld i H x H'→g x σ H' fun σ2 H2=>tt σ2 H2 fun b H3=>if b=true then tr σ2 H3 N else N σ2 H3)
theorem zcr {X:Cx}(hE:X.xe=fun _ _=>False) (hc:X.calm=true){e:Expr}{d:Nat}{tg iter:Expr}{ifs:List Expr}{acc:Value}{rest:Sem Unit}{g:TG}{tt:TT}{tr:TR}{J:It}{fp:List Addr}{it:Addr}{tn:Nat→Heap→Prop}
  (heq:compTurn e d (.ref it) acc X.env=(do
   standAt iter.pos
   match ← pyNext (.ref it) with
   |none=>pure (.done .next)
   |some v=>
    letOwnedTupleGo tg (.ref it) v
    assign tg X.env v
    let mut ok:=true
    for c in ifs do
     if ok then ok ← isTrue c X.env (eval c X.env)
    if ok then rest
    again (.compLoop e d (.ref it) acc X.env)))
  (hq:(Code.compLoop e d (.ref it) acc X.env).quiet=true) (hu:X.A.under (.compLoop e d (.ref it) acc X.env)=X.A) (hden:(model X.prog X.w).den (.compLoop e d (.ref it) acc X.env)=(compTurn e d (.ref it) acc X.env).onRaise (fun x=>do noteFrame x X.env;theTreesLotGoes x))
  (hg:PG X tg g) (ht:PTs X ifs tt) (hr:PR X rest tr) (T:Turn X.prog X.w X.K tg J fp it tn)
  {pins:List (Addr×Obj)} {σ:St} {H:Hp} {s:Shared} {Qe:St→Hp→Prop} {R:Result→Shared→Prop} (I:Inv X pins σ H s) (st:tn 0 s.heap) (f2:∀b∈fp,FpOk X pins H b) (h:tLoop J g tt tr Qe σ H)
  (hR:∀s' σ' H',Inv X pins σ' H' s'→Qe σ' H'→R (.ok .next) s') :
  codeAny (model X.prog X.w) X.A (.compLoop e d (.ref it) acc X.env) R s:=by
 obtain ⟨W,⟨m0,w0⟩,turn⟩:=h
 have stat:∀ {H':Hp},(∀b∈fp,H' b=none)→∀b∈fp,FpOk X pins H' b:=fun hn b hb=>⟨hn b hb,(f2 b hb).2⟩
 have no:∀ {α:Type} {t:Sem α} {Q:α→Shared→Prop} {s:Shared} {E:Value→Shared→Prop},wpAny (model X.prog X.w) X.A t Q X.xe s→wpAny (model X.prog X.w) X.A t Q E s:=fun {α t Q s E} h=>
  wpAny_mono h (fun _ _ x=>x) fun _ _ x=>by rw[hE] at x;exact x.elim
 refine codeAny_loop hq (fun n s'=>∃i σ' H',Inv X pins σ' H' s'∧tn i s'.heap∧(∀b∈fp,H' b=none)∧W i n σ' H') (fun n s3 hI=>?_) m0 ⟨0,σ,H,I,st,fun b hb=>(f2 b hb).1,w0⟩
 rw[hu,hden]
 refine wpAny_noted ?_
 rw[heq]
 obtain ⟨i,σ3,H3,I3,st3,fr3,w3⟩:=hI
 refine wpAny_bind (wpAny_standAt (wpAny_bind ?_))
 rcases turn i n σ3 H3 w3 with ⟨stop,qn⟩|⟨go,N,hN,step⟩
 ·refine no (thn (T.done X rfl rfl rfl hc i pins s3 σ3 H3 X.xe I3 (stat fr3) st3 stop) fun r s4 ⟨hr4,I4⟩=>?_)
  subst hr4
  exact wpAny_pure (hR _ _ _ I4 qn)
 ·refine no (thn (T.item X rfl rfl rfl hc i pins s3 σ3 H3 X.xe I3 (stat fr3) st3 go) fun r s4 ⟨u,hr4,h4⟩=>?_)
  subst hr4
  refine wpAny_bind (no (thn h4 fun _ s5 ⟨x,H5,I5,r5,y5,st5,fr5⟩=>?_))
  have I5':=I5.pinned (stat fr5) (T.obj _ _ st5)
  refine wpAny_bind (no (thn (hg _ s5 σ3 H5 x u _ I5' r5 (step x H5 y5)) fun _ s6 ⟨σ6,H6,I6,q6⟩=>?_))
  have again:∀ {σ7:St} {H7:Hp} {s7:Shared},Inv X (pins++zc9 fp s5.heap) σ7 H7 s7→N σ7 H7→∃m,m<n∧∃i σ' H',Inv X pins σ' H' s7∧tn i s7.heap∧(∀b∈fp,H' b=none)∧W i m σ' H':=fun {σ7 H7 s7} I7 n7=>by
   obtain ⟨m',hm,w7⟩:=hN σ7 H7 n7
   refine ⟨m',hm,i+1,σ7,H7,I7.unpinned,T.keep _ _ _ st5 fun b hb o e=>(I7.pin (b,o) (List.mem_append_right _ (List.mem_append_right _ (za7 hb e)))).1,fun b hb=>?_,w7⟩
   obtain ⟨o,e,dd⟩:=T.obj _ _ st5 b hb
   exact (I7.pin (b,o) (List.mem_append_right _ (List.mem_append_right _ (za7 hb e)))).2.1
  refine wpAny_bind (no (thn (ht _ s6 σ6 H6 _ I6 q6) fun ok s7 ⟨H7,I7,q7⟩=>?_))
  cases ok with
  |false=>
   rw[if_neg (by simp)] at q7
   exact wpAny_pure ⟨rfl,again I7 q7⟩
  |true=>
   rw[if_pos rfl] at q7
   refine wpAny_bind (no (thn (hr _ s7 σ6 H7 _ I7 q7) fun _ s8 ⟨σ8,H8,I8,q8⟩=>?_))
   exact wpAny_pure ⟨rfl,again I8 q8⟩
def tApp (p:Addr) (te:TE):TR:=fun σ H N=>te σ H fun v H5=>∃ys,H5 p=some (.lst ys)∧ys.length<sizeLine∧N σ (upd H5 p (.lst (ys++[v])))
theorem zgU {X:Cx}{elt:Expr}{te:TE}{p:Addr}(he:PE X elt te):PR X (do let _ ← call (.builtin "list.append") [.ref p,←eval elt X.env]) (tApp p te):=by
 intro pins s σ H N I h
 refine wpAny_bind (thn (he pins s σ H _ I h) fun u s1 ⟨v,H1,I1,r1,ys,hp,hl,q1⟩=>?_)
 refine wpAny_bind (thn (zbd pins s1 σ H1 (.ref p) [v] _ [u] (fun _ H2=>N σ H2) I1 rfl (.cons r1 .nil) ⟨p,ys,v,rfl,rfl,hp,hl,q1⟩) fun _ s2 ⟨_,H2,I2,_,q2⟩=>?_)
 exact wpAny_pure ⟨σ,H2,I2,q2⟩
def capSt (σ:St):List (Option Nat)→St
 |[]=>[]
 |none::js=>none::capSt σ js
 |some j::js=>(σ[j]?).join::capSt σ js
def CapsOk (X:Cx) (sc:Scope):List Str→List (Option Nat)→Prop
 |[],[]=>True
 |_::xs,none::js=>CapsOk X sc xs js
 |x::xs,some j::js=>X.N[j]?=some x∧Vis X.env.scope x∧sc.names.lookup x=some .free∧CapsOk X sc xs js
 |_,_=>False
theorem CapsOk.len {X:Cx}{sc:Scope}{σ:St}:∀ {N':List Str}{js:List (Option Nat)},CapsOk X sc N' js→(capSt σ js).length=N'.length
 |[],[],_=>rfl
 |_::xs,none::js,h=>by simp only[capSt,List.length_cons];rw[CapsOk.len (N':=xs) (js:=js) h]
 |x::xs,some j::js,h=>by simp only[capSt,List.length_cons];rw[CapsOk.len (N':=xs) (js:=js) h.2.2.2]
 |[],_::_,h=>by cases h
 |_::_,[],h=>by cases h
theorem CapsOk.get {X:Cx}{sc:Scope}{σ:St}:∀ {N':List Str}{js:List (Option Nat)}{i:Nat}{x:Str}{v:V},CapsOk X sc N' js→N'[i]?=some x→(capSt σ js)[i]?=some (some v) →
  ∃j:Nat,X.N[j]?=some x∧σ[j]?=some (some v)∧Vis X.env.scope x∧sc.names.lookup x=some .free
 |[],[],i,x,v,_,h1,_=>by simp at h1
 |y::xs,none::js,0,x,v,h,h1,h2=>by simp[capSt] at h2
 |y::xs,none::js,i+1,x,v,h,h1,h2=>CapsOk.get (N':=xs) (js:=js) (i:=i) h (by simpa using h1) (by simpa [capSt] using h2)
 |y::xs,some j::js,0,x,v,h,h1,h2=>by
  have e1:y=x:=by simpa using h1
  subst e1
  refine ⟨j,h.1,?_,h.2.1,h.2.2.1⟩
  have e2:(σ[j]?).join=some v:=by simpa [capSt] using h2
  cases q:σ[j]? with
  |none=>rw[q] at e2;cases e2
  |some o=>rw[q] at e2;exact congrArg some e2
 |y::xs,some j::js,i+1,x,v,h,h1,h2=>CapsOk.get (N':=xs) (js:=js) (i:=i) h.2.2.2 (by simpa using h1) (by simpa [capSt] using h2)
 |[],_::_,_,_,_,h,_,_=>by cases h
 |_::_,[],_,_,_,h,_,_=>by cases h
def tComp (js:List (Option Nat)) (wi:TI) (g:TG) (tt:TT) (te:TE):TE:=fun σ H Q=>wi σ H fun J H1=>∀p,H1 p=none→tLoop J g tt (tApp p te) (fun _ H'=>Q (.ref p) H') (capSt σ js) (upd H1 p (.lst []))
section
variable {X:Cx}{elt tg iter:Expr}{ifs:List Expr}{sc:Scope}{pos:Pos}{N':List Str}{js:List (Option Nat)}{wi:TI}{g:TG}{tt:TT}{te:TE}
theorem zdi (hc:X.calm=true) (B:BlkOk X sc) (C:CapsOk X sc N' js){cl:List (Str×Addr)}
  (c1:∀x c,cl.lookup x=some c→X.env.cells.lookup x=some c) (c2:∀x∈sc.names,x.2=.free→∃c,cl.lookup x.1=some c)
  (hg:∀cl s H fp,PG (X.blk sc cl N' s H fp) tg g) (ht:∀cl s H fp,PTs (X.blk sc cl N' s H fp) ifs tt) (he:∀cl s H fp,PE (X.blk sc cl N' s H fp) elt te)
  {pins:List (Addr×Obj)} {σ:St} {H:Hp} {s:Shared} {Qe:Addr→Hp→Prop} {it:Addr} {fp:List Addr} {tn:Nat→Heap→Prop} {J:It} {RR:Value→Addr→Result→Shared→Prop}
  (I:Inv X pins σ H s) (T:Turn X.prog X.w X.K tg J fp it tn) (st:tn 0 s.heap) (hf:∀b∈fp,FpOk X pins H b)
  (h:∀p,H p=none→tLoop J g tt (tApp p te) (fun _ H'=>Qe p H') (capSt σ js) (upd H p (.lst [])))
  (hRR:∀p C s' H',C≠p→(∀b o,s.heap.get? b=some o→b≠C)→H' C=none→(∃m,s'.heap.Ns C m)→Qe p H'→(∀h'',Heap.SameBut C s'.heap h''→Inv X pins σ H' { s' with heap:=h'' })→FpOk X pins H' C→RR (.ref p) C (.ok .next) s') :
  wpAny (model X.prog X.w) X.A (newList []) (fun acc s₃=>wpAny (model X.prog X.w) X.A (newFunctionEnv sc X.env.globals cl [] X.env.qual none .none (some X.env)) (fun cenv s₄=>
   codeAny (model X.prog X.w) X.A (.compStart (.ListComp elt [⟨tg,iter,ifs,0⟩] sc pos) 0 (.ref it) acc { cenv with scope:=relabel sc X.env }) (RR acc cenv.locals) s₄) X.xe s₃) X.xe s:=by
 refine wpAny_newObj_type ?_
 have I3:=I.lnew (ys:=[]) (its:=[]) (t':=s.toks) .nil (by simp)
 generalize hs3:({ s with heap:=s.heap.push { cls:=.type "list",data:=.seq ([]:List Value).toArray },toks:=s.toks }:Shared)=s3 at I3
 have hp:H s.heap.objs.size=none:=I.fresh
 have h3:=h _ hp
 have f3:∀b∈fp,FpOk X pins (upd H s.heap.objs.size (.lst [])) b∧b<s3.heap.objs.size:=fun b hb=>by
  obtain ⟨f0,f1⟩:=hf b hb
  obtain ⟨o,e,_⟩:=T.obj _ _ st b hb
  have lt:=Heap.lt_size e
  refine ⟨⟨by rw[zat (Nat.ne_of_lt lt)];exact f0,f1⟩,?_⟩
  rw[←hs3]
  show b<(s.heap.push _).objs.size
  rw[Heap.size_push]
  exact Nat.lt_succ_of_lt lt
 have hsz:s3.heap.objs.size=s.heap.objs.size+1:=by rw[←hs3];exact Heap.size_push ..
 have hst3:tn 0 s3.heap:=by rw[←hs3];exact T.keep _ _ _ st fun b hb o e=>Heap.get?_push_of_some _ e
 refine wpAny_newFunctionEnv B.nocell (by intro y hy;simp at hy) (fun h₁ hns₁ hsb₁=>?_) B.kind
 have J4:=zcq (cl:=cl) (N':=N') (σ':=capSt σ js) (tk:=s3.toks+([]:List (Str×Value)).length) (ht:=Nat.le_trans I3.tk (Nat.le_add_right _ _)) I3 B c1 c2 f3 C.len (fun i x v e1 e2 _=>C.get e1 e2) (show h₁.Ns s3.heap.objs.size (fun _=>none) from hns₁) (show Heap.SameBut s3.heap.objs.size (s3.heap.push { cls:=.type "dict",data:=.dict #[] }) h₁ from hsb₁)
 have hst4:tn 0 h₁:=T.keep _ _ _ hst3 fun b hb o e=>(hsb₁.2 b (Nat.ne_of_lt (Heap.lt_size e))).trans (Heap.get?_push_of_some _ e)
 have f4:∀b∈fp,FpOk (X.blk sc cl N' s3 (upd H s.heap.objs.size (.lst [])) fp) [] (upd H s.heap.objs.size (.lst [])) b:=fun b hb=>by
  obtain ⟨⟨g0,g1,g2,g3,g4,g5⟩,lt⟩:=f3 b hb
  refine ⟨g0,Nat.ne_of_lt lt,fun z=>?_,.inl hb,fun x c e=>g4 x c (c1 x c e),fun p hp=>absurd (show p∈([]:List (Addr×Obj)) from hp) (by simp)⟩
  rcases List.mem_cons.mp (I3.stkSub b z) with z|z
  ·exact g1 z
  ·exact g2 z
 have loop:codeAny (model X.prog X.w) X.A (.compLoop (.ListComp elt [⟨tg,iter,ifs,0⟩] sc pos) 0 (.ref it) (.ref s.heap.objs.size) (compEnvC sc cl s3.heap.objs.size X.env)) (RR (.ref s.heap.objs.size) s3.heap.objs.size) { s3 with heap:=h₁,toks:=s3.toks+([]:List (Str×Value)).length }:=by
  refine zcr (X:=X.blk sc cl N' s3 (upd H s.heap.objs.size (.lst [])) fp) rfl hc (compTurn_list ..) rfl rfl rfl (hg _ _ _ _) (ht _ _ _ _) (zgU (he _ _ _ _)) T J4 hst4 f4 h3 fun s' σ' H' J' q=>?_
  have hend:∀h'',Heap.SameBut s3.heap.objs.size s'.heap h''→Inv X pins σ H' { s' with heap:=h'' }:=fun h'' hs''=>zdU I3 f3 J' hs''
  obtain ⟨m,hn,_⟩:=J'.loc
  refine hRR _ _ _ H' (by rw[hsz];exact Nat.succ_ne_self _) (fun b o e=>?_) J'.free ⟨m,hn⟩ q hend (I3.fpOk (Nat.le_refl _) J'.free)
  rw[hsz]
  exact Nat.ne_of_lt (Nat.lt_succ_of_lt (Heap.lt_size e))
 exact codeAny_compStart_list loop (T.self _ 0 _ _ _ hst4 loop)
theorem za1 (hE:X.xe=fun _ _=>False) (hc:X.calm=true) (B:BlkOk X sc) (C:CapsOk X sc N' js) (hi:PI X tg iter wi) (hg:∀cl s H fp,PG (X.blk sc cl N' s H fp) tg g) (ht:∀cl s H fp,PTs (X.blk sc cl N' s H fp) ifs tt) (he:∀cl s H fp,PE (X.blk sc cl N' s H fp) elt te)
  (hs:∀x,foldedSetIterable iter X.env x=pure x:=by intro _;rfl):PE X (.ListComp elt [⟨tg,iter,ifs,0⟩] sc pos) (tComp js wi g tt te):=by
 intro pins s σ H Q I h
 obtain ⟨cl,hcl,c1,c2⟩:=zbA X.env sc fun x hx hfr=>I.ok.has x.1 (.inl (B.free x hx hfr))
 rw[eval_ListComp]
 refine wpAny_comprehension_free (use:=none) rfl hs hcl B.kind B.names (thn (hi pins s σ H _ I h) fun v s1 h1=>thn h1 fun itv s2 h2=>?_)
 obtain ⟨it,fp,tn,J,H2,e,I2,T,st2,f2,h2⟩:=h2
 subst e
 refine zdi (Qe:=fun p H'=>Q (.ref p) H') (RR:=fun acc C=>compPost (model X.prog X.w) X.A X.xe none (EP X pins σ Q) acc C) hc B C c1 c2 hg ht he I2 T st2 f2 h2 ?_
 intro p C s' H' hne hold hfree hns q hend _
 obtain ⟨m,hn⟩:=hns
 exact ⟨m,hn,fun h'' hs''=>⟨.ref p,H',hend h'' hs'',rfl,q⟩⟩
def zh3 (i:Nat) (js:List (Option Nat)) (wi:TI) (g:TG) (tt:TT) (te:TE):TS:=fun D σ H=>tComp js wi g tt te σ H fun v H'=>D.nx (σ.set i (some v)) H'
theorem zcf {i:Nat}{y:Str}{py spos:Pos}(hE:X.xe=fun _ _=>False) (hc:X.calm=true) (hN:X.N.Nodup) (hi':X.N[i]?=some y) (hx:Loc X.env.scope y) (B:BlkOk X sc) (C:CapsOk X sc N' js) (hi:PI X tg iter wi) (hg:∀cl s H fp,PG (X.blk sc cl N' s H fp) tg g) (ht:∀cl s H fp,PTs (X.blk sc cl N' s H fp) ifs tt) (he:∀cl s H fp,PE (X.blk sc cl N' s H fp) elt te)
  (hsw:swapsWith (.ListComp elt [⟨tg,iter,ifs,0⟩] sc pos) (some (.Name y py)) spos.line X.env=pure true:=by rfl)
  (hs:∀x,foldedSetIterable iter X.env x=pure x:=by intro _;rfl) (hf:X.fn y=true∨X.env.scope.names.lookup y=some .local:=by first|exact .inl rfl|exact .inr rfl|assumption):PS X (.Assign [.Name y py] (.ListComp elt [⟨tg,iter,ifs,0⟩] sc pos) spos) (zh3 i js wi g tt te):=by
 intro pins s σ H D I h
 obtain ⟨cl,hcl,c1,c2⟩:=zbA X.env sc fun x hx hfr=>I.ok.has x.1 (.inl (B.free x hx hfr))
 rw[exec_Assign_Name_used _ _ _ _ hsw]
 refine wpAny_bind (wpAny_standAt (wpAny_bind ?_))
 show wpAny _ X.A (do let _ ← comprehension (.ListComp elt [⟨tg,iter,ifs,0⟩] sc pos) sc X.env _ (newList []) false (eval iter X.env) (some (assign (.Name y py) X.env))) _ _ s
 refine wpAny_bind (thn (wpAny_comprehension_free (use:=some (assign (.Name y py) X.env)) (Q:=fun _ s'=>SP X pins D .next s') rfl hs hcl B.kind B.names (thn (hi pins s σ H _ I h) fun v s1 h1=>thn h1 fun itv s2 h2=>?_)) fun _ s' hq=>wpAny_pure (wpAny_pure hq))
 obtain ⟨it,fp,tn,J,H2,e,I2,T,st2,f2,h2⟩:=h2
 subst e
 refine zdi (Qe:=fun p H'=>D.nx (σ.set i (some (.ref p))) H') (RR:=fun acc C=>compPost (model X.prog X.w) X.A X.xe (some (assign (.Name y py) X.env)) (fun _ s'=>SP X pins D .next s') acc C) hc B C c1 c2 hg ht he I2 T st2 f2 h2 ?_
 intro p C s' H' hne hold hfree hns q hend fpC
 obtain ⟨m,hn⟩:=hns
 have I4:Inv X pins σ H' s':=hend s'.heap (.refl ..)
 obtain ⟨f0,f1,f2',f3,f4,f5⟩:=fpC
 show wpAny _ X.A (assign (.Name y py) X.env (.ref p)) _ _ s'
 refine wpAny_assign_Name (zes (v:=.ref p) I4 hN hi' hx rfl (fun s'' I5 ⟨a,hsa,ha⟩=>?_) hf)
 have hCa:C≠a:=by
  rcases ha with rfl|ha
  ·exact f1
  ·exact fun z=>f4 y a ha z.symm
 refine ⟨m,hn.sameBut hsa hCa,fun h'' hs''=>⟨_,H',I5.turned (t':=s''.toks) (it:=C) (fun b o hb e=>(hs''.2 b hb).trans e) f0 f1 f3 f4 f5,q⟩⟩
end
theorem zdV (elt tg iter tg2 iter2:Expr) (ifs ifs2:List Expr) (scope:Scope) (pos:Pos) (it acc:Value) (env:Env) :
  compTurn (.ListComp elt [⟨tg,iter,ifs,0⟩,⟨tg2,iter2,ifs2,0⟩] scope pos) 0 it acc env=(do
   standAt iter.pos
   match ← pyNext it with
   |none=>pure (.done .next)
   |some v=>
    letOwnedTupleGo tg it v
    assign tg env v
    let mut ok:=true
    for c in ifs do
     if ok then ok ← isTrue c env (eval c env)
    if ok then
     (do
      let x ← eval iter2 env
      standAt iter2.pos
      let x ← foldedSetIterable iter2 env x
      let _ ← runOwn (.compStart (.ListComp elt [⟨tg,iter,ifs,0⟩,⟨tg2,iter2,ifs2,0⟩] scope pos) 1 (← holding [x] (pyIter x)) acc env) env)
    again (.compLoop (.ListComp elt [⟨tg,iter,ifs,0⟩,⟨tg2,iter2,ifs2,0⟩] scope pos) 0 it acc env)):=by
 unfold compTurn
 simp only[List.getElem?_cons_zero,List.getElem?_cons_succ,Nat.zero_add,bind_assoc,pure_bind,bne_self_eq_false,Bool.false_eq_true,if_false]
 rfl
theorem zdW (elt tg iter tg2 iter2:Expr) (ifs ifs2:List Expr) (scope:Scope) (pos:Pos) (it acc:Value) (env:Env) :
  compTurn (.ListComp elt [⟨tg,iter,ifs,0⟩,⟨tg2,iter2,ifs2,0⟩] scope pos) 1 it acc env=(do
   standAt iter2.pos
   match ← pyNext it with
   |none=>pure (.done .next)
   |some v=>
    letOwnedTupleGo tg2 it v
    assign tg2 env v
    let mut ok:=true
    for c in ifs2 do
     if ok then ok ← isTrue c env (eval c env)
    if ok then
     (do let _ ← call (.builtin "list.append") [acc,←eval elt env])
    again (.compLoop (.ListComp elt [⟨tg,iter,ifs,0⟩,⟨tg2,iter2,ifs2,0⟩] scope pos) 1 it acc env)):=by rfl
theorem zbO {prog:Program}{w:World}{A:Around}{R:Result→Shared→Prop}{s:Shared}{elt tg iter tg2 iter2:Expr}{ifs ifs2:List Expr}{scope:Scope}{pos:Pos}{it acc:Value}{env:Env}
  (h0:codeAny (model prog w) A (.compLoop (.ListComp elt [⟨tg,iter,ifs,0⟩,⟨tg2,iter2,ifs2,0⟩] scope pos) 1 it acc env) R s)
  (h:wpAny (model prog w) A (pyIter it) (fun it' s'=>codeAny (model prog w) A (.compLoop (.ListComp elt [⟨tg,iter,ifs,0⟩,⟨tg2,iter2,ifs2,0⟩] scope pos) 1 it' acc env) R s')
   (notedBy (model prog w) A env fun x s'=>R (.error x) s') s) :
  codeAny (model prog w) A (.compStart (.ListComp elt [⟨tg,iter,ifs,0⟩,⟨tg2,iter2,ifs2,0⟩] scope pos) 1 it acc env) R s:=by
 refine codeAny_of_tree ?_
 show wpAny _ _ ((compStart (.ListComp elt [⟨tg,iter,ifs,0⟩,⟨tg2,iter2,ifs2,0⟩] scope pos) 1 it acc env).onRaise (fun x=>do noteFrame x env;standAt theWindowsPlace)) _ _ s
 refine wpAny_notedAt ?_
 unfold compStart
 show wpAny _ _ (ask >>= _) _ _ s
 refine wpAny_bind (wpAny_askSetting (wpAny_ite ?_))
 split
 ·first
   |exact wpAny_bind (wpAny_pure (wpAny_pure (And.intro rfl h0)))
   |exact wpAny_pure (And.intro rfl h0)
 ·first
   |exact wpAny_bind (wpAny_rule (wpAny_bind (wpAny_standAt (wpAny_bind (wpAny_mono h (fun it' s' h'=>wpAny_pure (And.intro rfl h')) fun _ _ x=>x)))))
   |(refine wpAny_bind (wpAny_rule ?_);show wpAny _ _ (standAt iter2.pos >>= _) _ _ s;exact wpAny_bind (wpAny_standAt (wpAny_bind (wpAny_mono h (fun it' s' h'=>wpAny_pure (And.intro rfl h')) fun _ _ x=>x))))
def tIn2 (wi:TI) (g:TG) (tt:TT) (tr:TR):TR:=fun σ H N=>wi σ H fun J H1=>tLoop J g tt tr N σ H1
theorem zkf {Y:Cx}(hE:Y.xe=fun _ _=>False) (hc:Y.calm=true){elt tg iter tg2 iter2:Expr}{ifs ifs2:List Expr}{scope:Scope}{pos:Pos}{p:Addr}{wi:TI}{g:TG}{tt:TT}{te:TE}
  (hi:PI Y tg2 iter2 wi) (hg:PG Y tg2 g) (ht:PTs Y ifs2 tt) (he:PE Y elt te) (hs:∀x,foldedSetIterable iter2 Y.env x=pure x) :
  PR Y (do
   let x ← eval iter2 Y.env
   standAt iter2.pos
   let x ← foldedSetIterable iter2 Y.env x
   let _ ← runOwn (.compStart (.ListComp elt [⟨tg,iter,ifs,0⟩,⟨tg2,iter2,ifs2,0⟩] scope pos) 1 (← holding [x] (pyIter x)) (.ref p) Y.env) Y.env) (tIn2 wi g tt (tApp p te)):=by
 intro pins s σ H N I h
 refine wpAny_bind (thn (hi pins s σ H _ I h) fun v s1 h1=>wpAny_bind (wpAny_standAt (wpAny_bind (wpAny_of_eq (hs v) (wpAny_bind (wpAny_holding (thn h1 fun itv s2 h2=>wpAny_bind ?_)))))))
 obtain ⟨it,fp,tn,J,H2,e,I2,T,st2,f2,h2⟩:=h2
 subst e
 have loop:codeAny (model Y.prog Y.w) Y.A (.compLoop (.ListComp elt [⟨tg,iter,ifs,0⟩,⟨tg2,iter2,ifs2,0⟩] scope pos) 1 (.ref it) (.ref p) Y.env) (fun r s'=>r=.ok .next∧∃σ' H',Inv Y pins σ' H' s'∧N σ' H') s2:=
  zcr (X:=Y) hE hc (zdW ..) rfl rfl rfl hg ht (zgU he) T I2 st2 f2 h2 fun s' σ' H' J' q=>⟨rfl,σ',H',J',q⟩
 refine wpAny_runOwn (codeAny_mono (zbO loop (T.self _ 0 _ _ _ st2 loop)) fun r s' hr=>?_)
 obtain ⟨rfl,hr⟩:=hr
 exact wpAny_pure hr
section
variable {X:Cx}{e:Expr}{tg:Expr}{sc:Scope}{N':List Str}{js:List (Option Nat)}
theorem ze8 (hc:X.calm=true) (B:BlkOk X sc) (C:CapsOk X sc N' js){cl:List (Str×Addr)}
  (c1:∀x c,cl.lookup x=some c→X.env.cells.lookup x=some c) (c2:∀x∈sc.names,x.2=.free→∃c,cl.lookup x.1=some c)
  {pins:List (Addr×Obj)} {σ:St} {H:Hp} {s:Shared} {Qe:Addr→Hp→Prop} {it:Addr} {fp:List Addr} {tn:Nat→Heap→Prop} {J:It} {RR:Value→Addr→Result→Shared→Prop} {tl:Addr→(St→Hp→Prop)→St→Hp→Prop}
  (hrun:∀(s3:Shared) (H3:Hp) (p:Addr) (σ':St) (s4:Shared) (R:Result→Shared→Prop) (Qe':St→Hp→Prop),Inv (X.blk sc cl N' s3 H3 fp) [] σ' H3 s4→tn 0 s4.heap→(∀b∈fp,FpOk (X.blk sc cl N' s3 H3 fp) [] H3 b)→tl p Qe' σ' H3 →
   (∀s' σ' H',Inv (X.blk sc cl N' s3 H3 fp) [] σ' H' s'→Qe' σ' H'→R (.ok .next) s')→codeAny (model X.prog X.w) X.A (.compStart e 0 (.ref it) (.ref p) (X.blk sc cl N' s3 H3 fp).env) R s4)
  (I:Inv X pins σ H s) (T:Turn X.prog X.w X.K tg J fp it tn) (st:tn 0 s.heap) (hf:∀b∈fp,FpOk X pins H b)
  (h:∀p,H p=none→tl p (fun _ H'=>Qe p H') (capSt σ js) (upd H p (.lst [])))
  (hRR:∀p C s' H',C≠p→(∀b o,s.heap.get? b=some o→b≠C)→H' C=none→(∃m,s'.heap.Ns C m)→Qe p H'→(∀h'',Heap.SameBut C s'.heap h''→Inv X pins σ H' { s' with heap:=h'' })→FpOk X pins H' C→RR (.ref p) C (.ok .next) s') :
  wpAny (model X.prog X.w) X.A (newList []) (fun acc s₃=>wpAny (model X.prog X.w) X.A (newFunctionEnv sc X.env.globals cl [] X.env.qual none .none (some X.env)) (fun cenv s₄=>
   codeAny (model X.prog X.w) X.A (.compStart e 0 (.ref it) acc { cenv with scope:=relabel sc X.env }) (RR acc cenv.locals) s₄) X.xe s₃) X.xe s:=by
 refine wpAny_newObj_type ?_
 have I3:=I.lnew (ys:=[]) (its:=[]) (t':=s.toks) .nil (by simp)
 generalize hs3:({ s with heap:=s.heap.push { cls:=.type "list",data:=.seq ([]:List Value).toArray },toks:=s.toks }:Shared)=s3 at I3
 have hp:H s.heap.objs.size=none:=I.fresh
 have h3:=h _ hp
 have f3:∀b∈fp,FpOk X pins (upd H s.heap.objs.size (.lst [])) b∧b<s3.heap.objs.size:=fun b hb=>by
  obtain ⟨f0,f1⟩:=hf b hb
  obtain ⟨o,e,_⟩:=T.obj _ _ st b hb
  have lt:=Heap.lt_size e
  refine ⟨⟨by rw[zat (Nat.ne_of_lt lt)];exact f0,f1⟩,?_⟩
  rw[←hs3]
  show b<(s.heap.push _).objs.size
  rw[Heap.size_push]
  exact Nat.lt_succ_of_lt lt
 have hsz:s3.heap.objs.size=s.heap.objs.size+1:=by rw[←hs3];exact Heap.size_push ..
 have hst3:tn 0 s3.heap:=by rw[←hs3];exact T.keep _ _ _ st fun b hb o e=>Heap.get?_push_of_some _ e
 refine wpAny_newFunctionEnv B.nocell (by intro y hy;simp at hy) (fun h₁ hns₁ hsb₁=>?_) B.kind
 have J4:=zcq (cl:=cl) (N':=N') (σ':=capSt σ js) (tk:=s3.toks+([]:List (Str×Value)).length) (ht:=Nat.le_trans I3.tk (Nat.le_add_right _ _)) I3 B c1 c2 f3 C.len (fun i x v e1 e2 _=>C.get e1 e2) (show h₁.Ns s3.heap.objs.size (fun _=>none) from hns₁) (show Heap.SameBut s3.heap.objs.size (s3.heap.push { cls:=.type "dict",data:=.dict #[] }) h₁ from hsb₁)
 have hst4:tn 0 h₁:=T.keep _ _ _ hst3 fun b hb o e=>(hsb₁.2 b (Nat.ne_of_lt (Heap.lt_size e))).trans (Heap.get?_push_of_some _ e)
 have f4:∀b∈fp,FpOk (X.blk sc cl N' s3 (upd H s.heap.objs.size (.lst [])) fp) [] (upd H s.heap.objs.size (.lst [])) b:=fun b hb=>by
  obtain ⟨⟨g0,g1,g2,g3,g4,g5⟩,lt⟩:=f3 b hb
  refine ⟨g0,Nat.ne_of_lt lt,fun z=>?_,.inl hb,fun x c e=>g4 x c (c1 x c e),fun p hp=>absurd (show p∈([]:List (Addr×Obj)) from hp) (by simp)⟩
  rcases List.mem_cons.mp (I3.stkSub b z) with z|z
  ·exact g1 z
  ·exact g2 z
 refine hrun s3 (upd H s.heap.objs.size (.lst [])) s.heap.objs.size (capSt σ js) { s3 with heap:=h₁,toks:=s3.toks+([]:List (Str×Value)).length } _ _ J4 hst4 f4 h3 fun s' σ' H' J' q=>?_
 have hend:∀h'',Heap.SameBut s3.heap.objs.size s'.heap h''→Inv X pins σ H' { s' with heap:=h'' }:=fun h'' hs''=>zdU I3 f3 J' hs''
 obtain ⟨m,hn,_⟩:=J'.loc
 refine hRR _ _ _ H' (by rw[hsz];exact Nat.succ_ne_self _) (fun b o e=>?_) J'.free ⟨m,hn⟩ q hend (I3.fpOk (Nat.le_refl _) J'.free)
 rw[hsz]
 exact Nat.ne_of_lt (Nat.lt_succ_of_lt (Heap.lt_size e))
end
def zkg (js:List (Option Nat)) (wi:TI) (g:TG) (tt:TT) (wi2:TI) (g2:TG) (tt2:TT) (te:TE):TE:=fun σ H Q=>wi σ H fun J H1=>∀p,H1 p=none →
 tLoop J g tt (tIn2 wi2 g2 tt2 (tApp p te)) (fun _ H'=>Q (.ref p) H') (capSt σ js) (upd H1 p (.lst []))
theorem zdX {X:Cx}{elt tg iter tg2 iter2:Expr}{ifs ifs2:List Expr}{sc:Scope}{pos:Pos}{N':List Str}{js:List (Option Nat)}{wi wi2:TI}{g g2:TG}{tt tt2:TT}{te:TE}
  (hc:X.calm=true) (B:BlkOk X sc) (C:CapsOk X sc N' js) (hi:PI X tg iter wi) (hg:∀cl s H fp,PG (X.blk sc cl N' s H fp) tg g) (ht:∀cl s H fp,PTs (X.blk sc cl N' s H fp) ifs tt)
  (hi2:∀cl s H fp,PI (X.blk sc cl N' s H fp) tg2 iter2 wi2) (hg2:∀cl s H fp,PG (X.blk sc cl N' s H fp) tg2 g2) (ht2:∀cl s H fp,PTs (X.blk sc cl N' s H fp) ifs2 tt2) (he:∀cl s H fp,PE (X.blk sc cl N' s H fp) elt te)
  (hs:∀x,foldedSetIterable iter X.env x=pure x:=by intro _;rfl) (hs2:∀cl s H fp x,foldedSetIterable iter2 (X.blk sc cl N' s H fp).env x=pure x:=by intro _ _ _ _ _;rfl) :
  PE X (.ListComp elt [⟨tg,iter,ifs,0⟩,⟨tg2,iter2,ifs2,0⟩] sc pos) (zkg js wi g tt wi2 g2 tt2 te):=by
 intro pins s σ H Q I h
 obtain ⟨cl,hcl,c1,c2⟩:=zbA X.env sc fun x hx hfr=>I.ok.has x.1 (.inl (B.free x hx hfr))
 rw[eval_ListComp]
 refine wpAny_comprehension_free (use:=none) rfl hs hcl B.kind B.names (thn (hi pins s σ H _ I h) fun v s1 h1=>thn h1 fun itv s2 h2=>?_)
 obtain ⟨it,fp,tn,J,H2,e,I2,T,st2,f2,h2⟩:=h2
 subst e
 refine ze8 (Qe:=fun p H'=>Q (.ref p) H') (RR:=fun acc C=>compPost (model X.prog X.w) X.A X.xe none (EP X pins σ Q) acc C) (tl:=fun p Qe' σ' H'=>tLoop J g tt (tIn2 wi2 g2 tt2 (tApp p te)) Qe' σ' H') hc B C c1 c2 ?_ I2 T st2 f2 h2 ?_
 ·intro s3 H3 p σ' s4 R Qe' J4 st4 f4 h4 hR
  have loop:codeAny (model X.prog X.w) X.A (.compLoop (.ListComp elt [⟨tg,iter,ifs,0⟩,⟨tg2,iter2,ifs2,0⟩] sc pos) 0 (.ref it) (.ref p) (X.blk sc cl N' s3 H3 fp).env) R s4:=
   zcr (X:=X.blk sc cl N' s3 H3 fp) rfl hc (zdV ..) rfl rfl rfl (hg _ _ _ _) (ht _ _ _ _) (zkf (Y:=X.blk sc cl N' s3 H3 fp) rfl hc (hi2 _ _ _ _) (hg2 _ _ _ _) (ht2 _ _ _ _) (he _ _ _ _) (hs2 _ _ _ _)) T J4 st4 f4 h4 hR
  exact codeAny_compStart_list loop (T.self _ 0 _ _ _ st4 loop)
 ·intro p C s' H' hne hold hfree hns q hend _
  obtain ⟨m,hn⟩:=hns
  exact ⟨m,hn,fun h'' hs''=>⟨.ref p,H',hend h'' hs'',rfl,q⟩⟩
def Its (x:Str):It:=⟨fun i _=>i<x.cps.size,fun i H v H'=>H'=H∧∃c,x.cps[i]?=some c∧v=.str ⟨#[c]⟩,fun i _=>x.cps.size≤i⟩
theorem zgV {P:Program}{w:World}{K:W.Frag}{tg:Expr}(it:Addr) (x:Str) (t:Tok):Turn P w K tg (Its x) [it] it (fun i h=>h.IsStrIter it "str_ascii_iterator" x t i) where
 mem:=by simp
 obj:=fun i h st b hb=>by
  have e:b=it:=by simpa using hb
  subst e
  obtain ⟨o,e,c,d⟩:=st
  exact ⟨o,e,fun v z=>by rw[d] at z;cases z⟩
 keep:=fun i h h' st k=>let ⟨o,ho,r⟩:=st;⟨o,k it (by simp) o ho,r⟩
 item:=by
  intro X hP hw hK hc i pins s σ H E I hf st hg
  subst hP hw hK
  have hi:i<x.cps.size:=hg
  obtain ⟨f0,f1,f2,f3,f4,f5⟩:=hf it (by simp)
  refine wpAny_pyNext_ascii_item st (c:=x.cps[i]) (by simp[hi]) fun h' st' sb=>?_
  have I1:Inv X pins σ H { s with heap:=h',toks:=s.toks+1 }:=I.turned (t':=s.toks+1) (fun b o hb e=>(sb.2 b hb).trans e) f0 f1 f3 f4 f5
  obtain ⟨o,e,c,d⟩:=id st'
  exact ⟨_,rfl,ze3 (s:={ s with heap:=h',toks:=s.toks+1 }) e c d (by decide) ⟨.str ⟨#[x.cps[i]]⟩,H,I1,⟨_,rfl⟩,⟨rfl,x.cps[i],by simp[hi],rfl⟩,st',fun b hb=>(hf b hb).1⟩⟩
 done:=by
  intro X hP hw hK hc i pins s σ H E I hf st hg
  subst hP hw hK
  have hi:x.cps.size≤i:=hg
  obtain ⟨f0,f1,f2,f3,f4,f5⟩:=hf it (by simp)
  exact wpAny_pyNext_ascii_end (I.ok.hd hc) st (by simp[hi]) fun h' eb=>⟨rfl,I.turned (t':=s.toks) (fun b o hb e=>eb b o hb e) f0 f1 f3 f4 f5⟩
 self:=fun _ _ _ _ _ st h=>wpAny_pyIter_striter_ascii st h
theorem zgW {P:Program}{w:World}{K:W.Frag}{tg:Expr}(it:Addr) (x:Str) (t:Tok):Turn P w K tg (Its x) [it] it (fun i h=>h.IsStrIter it "str_iterator" x t i) where
 mem:=by simp
 obj:=fun i h st b hb=>by
  have e:b=it:=by simpa using hb
  subst e
  obtain ⟨o,e,c,d⟩:=st
  exact ⟨o,e,fun v z=>by rw[d] at z;cases z⟩
 keep:=fun i h h' st k=>let ⟨o,ho,r⟩:=st;⟨o,k it (by simp) o ho,r⟩
 item:=by
  intro X hP hw hK hc i pins s σ H E I hf st hg
  subst hP hw hK
  have hi:i<x.cps.size:=hg
  obtain ⟨f0,f1,f2,f3,f4,f5⟩:=hf it (by simp)
  refine wpAny_pyNext_wide_item st (c:=x.cps[i]) (by simp[hi]) fun h' st' sb=>?_
  have I1:Inv X pins σ H { s with heap:=h',toks:=s.toks+1 }:=I.turned (t':=s.toks+1) (fun b o hb e=>(sb.2 b hb).trans e) f0 f1 f3 f4 f5
  obtain ⟨o,e,c,d⟩:=id st'
  exact ⟨_,rfl,ze3 (s:={ s with heap:=h',toks:=s.toks+1 }) e c d (by decide) ⟨.str ⟨#[x.cps[i]]⟩,H,I1,⟨_,rfl⟩,⟨rfl,x.cps[i],by simp[hi],rfl⟩,st',fun b hb=>(hf b hb).1⟩⟩
 done:=by
  intro X hP hw hK hc i pins s σ H E I hf st hg
  subst hP hw hK
  have hi:x.cps.size≤i:=hg
  obtain ⟨f0,f1,f2,f3,f4,f5⟩:=hf it (by simp)
  exact wpAny_pyNext_wide_end (I.ok.hd hc) st (by simp[hi]) fun h' eb=>⟨rfl,I.turned (t':=s.toks) (fun b o hb e=>eb b o hb e) f0 f1 f3 f4 f5⟩
 self:=fun _ _ _ _ _ st h=>wpAny_pyIter_striter_wide st h
def iStr (tl:TE):TI:=fun σ H R=>tl σ H fun v H1=>∃x,v=.str x∧R (Its x) H1
theorem zeE {X:Cx}{tg l:Expr}{tl:TE}(hl:PE X l tl):PI X tg l (iStr tl):=by
 intro pins s σ H R I h
 refine thn (hl pins s σ H _ I h) fun v s1 ⟨y,H1,I1,r1,q1⟩=>?_
 obtain ⟨x,e,q⟩:=q1
 subst e
 obtain ⟨t,rfl⟩:=r1
 have fpk:∀b∈[s1.heap.objs.size],FpOk X pins H1 b:=fun b hb=>by
  have e:b=s1.heap.objs.size:=by simpa using hb
  subst e
  exact I1.fpOk (Nat.le_refl _) (I1.hok.fresh (Nat.le_refl _))
 cases ha:x.cps.all (·<128)
 ·exact wpAny_pyIter_wide ha ⟨s1.heap.objs.size,[s1.heap.objs.size],_,_,H1,rfl,I1.kept (t':=s1.toks) fun b o e=>Heap.get?_push_of_some _ e,zgW _ x t,⟨_,Heap.get?_push_size _ rfl,rfl,rfl⟩,fpk,q⟩
 ·exact wpAny_pyIter_ascii ha ⟨s1.heap.objs.size,[s1.heap.objs.size],_,_,H1,rfl,I1.kept (t':=s1.toks) fun b o e=>Heap.get?_push_of_some _ e,zgV _ x t,⟨_,Heap.get?_push_size _ rfl,rfl,rfl⟩,fpk,q⟩
section
variable {X:Cx}
theorem ze9:∀ {bs:List Bool}{us:List Value},Vals (bs.map V.bl) us→us=bs.map Value.bool
 |[],_,.nil=>rfl
 |b::bs,_,.cons r t=>by
  have e:=ze9 (bs:=bs) t
  cases r
  rw[e]
  rfl
theorem zfK {prog:Program}{w:World}{A:Around}(bs:List Bool):TruthOf prog w A (fun i v=>(bs.map Value.bool).toArray[i]?=some v) (fun i=>bs.getD i false):=by
 intro i v s Q E hP hQ
 have e:(bs.map Value.bool)[i]?=some v:=by simpa using hP
 rw[List.getElem?_map] at e
 cases hb:bs[i]? with
 |none=>rw[hb] at e;cases e
 |some b=>
  rw[hb] at e
  cases e
  have:bs.getD i false=b:=by rw[List.getD_eq_getElem?_getD,hb];rfl
  have hQ':Q (bs.getD i false) s:=hQ
  rw[this] at hQ'
  exact wpAny_truthy_bool hQ'
theorem zgX (bs:List Bool):(List.range bs.length).all (fun i=>bs.getD i false)=bs.all id:=by
 rw[Bool.eq_iff_iff,List.all_eq_true,List.all_eq_true]
 constructor
 ·intro h b hb
  obtain ⟨i,hi,rfl⟩:=List.mem_iff_getElem.mp hb
  have:=h i (List.mem_range.mpr hi)
  simpa [hi] using this
 ·intro h i hi
  have hi:=List.mem_range.mp hi
  have:=h (bs[i]) (List.getElem_mem hi)
  simpa [hi] using this
theorem zgY (bs:List Bool):(List.range bs.length).any (fun i=>bs.getD i false)=bs.any id:=by
 rw[Bool.eq_iff_iff,List.any_eq_true,List.any_eq_true]
 constructor
 ·rintro ⟨i,hi,h⟩
  have hi:=List.mem_range.mp hi
  exact ⟨bs[i],List.getElem_mem hi,by simpa [hi] using h⟩
 ·rintro ⟨b,hb,h⟩
  obtain ⟨i,hi,rfl⟩:=List.mem_iff_getElem.mp hb
  exact ⟨i,List.mem_range.mpr hi,by simpa [hi] using h⟩
theorem zcs (hc:X.calm=true):CallR X (.builtin "all") (fun xs H Q=>∃(p:Addr) (bs:List Bool),xs=[.ref p]∧SqL X.K H p (bs.map V.bl)∧Q (.bl (bs.all id)) H):=by
 intro pins s σ H xs us Q I r h
 obtain ⟨p,bs,rfl,hq,q⟩:=h
 obtain ⟨u,rfl,ru⟩:=vals1 r
 cases ru
 obtain ⟨its,rv,pl,hz⟩:=I.list hq
 have e:=ze9 rv
 subst e
 have lt:p<s.heap.objs.size:=by obtain ⟨o,n,e,_⟩:=pl;exact Heap.lt_size e
 refine wpAny_with_toks (n:=X.t0) I.tk ?_
 refine call_all_walk (wpAny_pyIter_list pl.isList ⟨s.heap.objs.size,_,[s.heap.objs.size],_,_,_,fun i=>bs.getD i false,rfl,Walks.list (A:=X.A.in1) (show X.A.in1.handled=none from I.ok.hd hc) _ p (Nat.ne_of_lt lt) (bs.map Value.bool).toArray,⟨⟨_,Heap.get?_push_size _ rfl,rfl,rfl⟩,?_⟩,zfK bs,fun h' tk hk=>?_⟩)
 ·exact pl.isList.at fun o e=>Heap.get?_push_of_some _ e
 ·have el:(bs.map Value.bool).toArray.size=bs.length:=by simp
  rw[el,zgX]
  intro ht
  refine ⟨.bl _,H,I.kept (t':=tk) fun b o e=>hk b o ?_ (Heap.get?_push_of_some _ e),rfl,q⟩
  intro hb
  have e2:b=s.heap.objs.size:=by simpa using hb
  exact absurd (e2 ▸ Heap.lt_size e) (Nat.lt_irrefl _)
theorem zdY (hc:X.calm=true):CallR X (.builtin "any") (fun xs H Q=>∃(p:Addr) (bs:List Bool),xs=[.ref p]∧SqL X.K H p (bs.map V.bl)∧Q (.bl (bs.any id)) H):=by
 intro pins s σ H xs us Q I r h
 obtain ⟨p,bs,rfl,hq,q⟩:=h
 obtain ⟨u,rfl,ru⟩:=vals1 r
 cases ru
 obtain ⟨its,rv,pl,hz⟩:=I.list hq
 have e:=ze9 rv
 subst e
 have lt:p<s.heap.objs.size:=by obtain ⟨o,n,e,_⟩:=pl;exact Heap.lt_size e
 refine wpAny_with_toks (n:=X.t0) I.tk ?_
 refine call_any_walk (wpAny_pyIter_list pl.isList ⟨s.heap.objs.size,_,[s.heap.objs.size],_,_,_,fun i=>bs.getD i false,rfl,Walks.list (A:=X.A.in1) (show X.A.in1.handled=none from I.ok.hd hc) _ p (Nat.ne_of_lt lt) (bs.map Value.bool).toArray,⟨⟨_,Heap.get?_push_size _ rfl,rfl,rfl⟩,?_⟩,zfK bs,fun h' tk hk=>?_⟩)
 ·exact pl.isList.at fun o e=>Heap.get?_push_of_some _ e
 ·have el:(bs.map Value.bool).toArray.size=bs.length:=by simp
  rw[el,zgY]
  intro ht
  refine ⟨.bl _,H,I.kept (t':=tk) fun b o e=>hk b o ?_ (Heap.get?_push_of_some _ e),rfl,q⟩
  intro hb
  have e2:b=s.heap.objs.size:=by simpa using hb
  exact absurd (e2 ▸ Heap.lt_size e) (Nat.lt_irrefl _)
theorem zeF:OpR X (compareOp .LtE) (fun x y H Q=>∃i j,x=.str i∧y=.str j∧Q (.bl (!(decide (j.cps.toList<i.cps.toList)))) H):=by
 intro pins s σ H x y v u Q I rx ry h
 obtain ⟨i,j,rfl,rfl,q⟩:=h
 obtain ⟨t,rfl⟩:=rx
 obtain ⟨t',rfl⟩:=ry
 exact PySem.P.le_str (zaE I q rfl)
def stAt (x y:Str) (k:Nat):Bool:=decide (k+y.length≤x.length)&&Builtin.Str.subAt x y k
theorem zct:MtR X "str.startswith" (fun x vs H Q=>∃a b,x=.str a∧vs=[.str b]∧Q (.bl (stAt a b 0)) H):=by
 intro pins s σ H x vs v us Q I rx rv h
 obtain ⟨a,b,rfl,rfl,q⟩:=h
 obtain ⟨t,rfl⟩:=rx
 obtain ⟨u,rfl,t',rfl⟩:=rv.one
 exact call_gives F.slot_str_startswith (typeIs_str s a t) F.entry_str_startswith (F.args_str_startswith_2 _ _) (gives_str_startswith a b t t') ⟨.bl _,H,I,rfl,q⟩
theorem zfa:CallR X (.builtin "isinstance") (fun xs H Q=>∃x n t b,xs=[x,.ty n]∧TyOf X.K H x t∧W.kitOne X.K t (.type n)=some b∧Q (.bl b) H):=by
 intro pins s σ H xs us Q I r h
 obtain ⟨x,n,t,b,rfl,ty,e,q⟩:=h
 obtain ⟨u,u2,rfl,ru,rt⟩:=vals2 r
 cases rt
 exact wpAny_with_toks (n:=X.t0) I.tk (zgO I ru ty e fun tk ht=>⟨.bl b,H,I.tok tk ht,rfl,q⟩)
end
section
variable {X:Cx}{e:Expr}{tg:Expr}{sc:Scope}{N':List Str}{js:List (Option Nat)}
theorem zfb {newAcc:Sem Value}{o0:Addr→HO}(hnew:∀(Q:Value→Shared→Prop) (E:Value→Shared→Prop) (s:Shared),(∀ob:Obj,(∀H,ObjOk X.prog X.w H (s.heap.push ob) s.heap.objs.size (o0 s.heap.objs.size))→Q (.ref s.heap.objs.size) { s with heap:=s.heap.push ob })→wpAny (model X.prog X.w) X.A newAcc Q E s)
  (hc:X.calm=true) (B:BlkOk X sc) (C:CapsOk X sc N' js) {cl:List (Str×Addr)}
  (c1:∀x c,cl.lookup x=some c→X.env.cells.lookup x=some c) (c2:∀x∈sc.names,x.2=.free→∃c,cl.lookup x.1=some c)
  {pins:List (Addr×Obj)} {σ:St} {H:Hp} {s:Shared} {Qe:Addr→Hp→Prop} {it:Addr} {fp:List Addr} {tn:Nat→Heap→Prop} {J:It} {RR:Value→Addr→Result→Shared→Prop} {tl:Addr→(St→Hp→Prop)→St→Hp→Prop}
  (hrun:∀(s3:Shared) (H3:Hp) (p:Addr) (σ':St) (s4:Shared) (R:Result→Shared→Prop) (Qe':St→Hp→Prop),Inv (X.blk sc cl N' s3 H3 fp) [] σ' H3 s4→tn 0 s4.heap→(∀b∈fp,FpOk (X.blk sc cl N' s3 H3 fp) [] H3 b)→tl p Qe' σ' H3 →
   (∀s' σ' H',Inv (X.blk sc cl N' s3 H3 fp) [] σ' H' s'→Qe' σ' H'→R (.ok .next) s')→codeAny (model X.prog X.w) X.A (.compStart e 0 (.ref it) (.ref p) (X.blk sc cl N' s3 H3 fp).env) R s4)
  (I:Inv X pins σ H s) (T:Turn X.prog X.w X.K tg J fp it tn) (st:tn 0 s.heap) (hf:∀b∈fp,FpOk X pins H b)
  (h:∀p,H p=none→tl p (fun _ H'=>Qe p H') (capSt σ js) (upd H p (o0 p)))
  (hRR:∀p C s' H',C≠p→(∀b o,s.heap.get? b=some o→b≠C)→H' C=none→(∃m,s'.heap.Ns C m)→Qe p H'→(∀h'',Heap.SameBut C s'.heap h''→Inv X pins σ H' { s' with heap:=h'' })→FpOk X pins H' C→RR (.ref p) C (.ok .next) s') :
  wpAny (model X.prog X.w) X.A newAcc (fun acc s₃=>wpAny (model X.prog X.w) X.A (newFunctionEnv sc X.env.globals cl [] X.env.qual none .none (some X.env)) (fun cenv s₄=>
   codeAny (model X.prog X.w) X.A (.compStart e 0 (.ref it) acc { cenv with scope:=relabel sc X.env }) (RR acc cenv.locals) s₄) X.xe s₃) X.xe s:=by
 refine hnew _ _ _ fun ob hob=>?_
 have I3:Inv X pins σ (upd H s.heap.objs.size (o0 s.heap.objs.size)) { s with heap:=s.heap.push ob,toks:=s.toks }:=I.laid (fun _ _ q=>Heap.get?_push_of_some _ q) (Nat.le_refl _) (hob _)
 generalize hs3:({ s with heap:=s.heap.push ob,toks:=s.toks }:Shared)=s3 at I3
 have hp:H s.heap.objs.size=none:=I.fresh
 have h3:=h _ hp
 have f3:∀b∈fp,FpOk X pins (upd H s.heap.objs.size (o0 s.heap.objs.size)) b∧b<s3.heap.objs.size:=fun b hb=>by
  obtain ⟨f0,f1⟩:=hf b hb
  obtain ⟨o,e,_⟩:=T.obj _ _ st b hb
  have lt:=Heap.lt_size e
  refine ⟨⟨by rw[zat (Nat.ne_of_lt lt)];exact f0,f1⟩,?_⟩
  rw[←hs3]
  show b<(s.heap.push _).objs.size
  rw[Heap.size_push]
  exact Nat.lt_succ_of_lt lt
 have hsz:s3.heap.objs.size=s.heap.objs.size+1:=by rw[←hs3];exact Heap.size_push ..
 have hst3:tn 0 s3.heap:=by rw[←hs3];exact T.keep _ _ _ st fun b hb o e=>Heap.get?_push_of_some _ e
 refine wpAny_newFunctionEnv B.nocell (by intro y hy;simp at hy) (fun h₁ hns₁ hsb₁=>?_) B.kind
 have J4:=zcq (cl:=cl) (N':=N') (σ':=capSt σ js) (tk:=s3.toks+([]:List (Str×Value)).length) (ht:=Nat.le_trans I3.tk (Nat.le_add_right _ _)) I3 B c1 c2 f3 C.len (fun i x v e1 e2 _=>C.get e1 e2) (show h₁.Ns s3.heap.objs.size (fun _=>none) from hns₁) (show Heap.SameBut s3.heap.objs.size (s3.heap.push { cls:=.type "dict",data:=.dict #[] }) h₁ from hsb₁)
 have hst4:tn 0 h₁:=T.keep _ _ _ hst3 fun b hb o e=>(hsb₁.2 b (Nat.ne_of_lt (Heap.lt_size e))).trans (Heap.get?_push_of_some _ e)
 have f4:∀b∈fp,FpOk (X.blk sc cl N' s3 (upd H s.heap.objs.size (o0 s.heap.objs.size)) fp) [] (upd H s.heap.objs.size (o0 s.heap.objs.size)) b:=fun b hb=>by
  obtain ⟨⟨g0,g1,g2,g3,g4,g5⟩,lt⟩:=f3 b hb
  refine ⟨g0,Nat.ne_of_lt lt,fun z=>?_,.inl hb,fun x c e=>g4 x c (c1 x c e),fun p hp=>absurd (show p∈([]:List (Addr×Obj)) from hp) (by simp)⟩
  rcases List.mem_cons.mp (I3.stkSub b z) with z|z
  ·exact g1 z
  ·exact g2 z
 refine hrun s3 (upd H s.heap.objs.size (o0 s.heap.objs.size)) s.heap.objs.size (capSt σ js) { s3 with heap:=h₁,toks:=s3.toks+([]:List (Str×Value)).length } _ _ J4 hst4 f4 h3 fun s' σ' H' J' q=>?_
 have hend:∀h'',Heap.SameBut s3.heap.objs.size s'.heap h''→Inv X pins σ H' { s' with heap:=h'' }:=fun h'' hs''=>zdU I3 f3 J' hs''
 obtain ⟨m,hn,_⟩:=J'.loc
 refine hRR _ _ _ H' (by rw[hsz];exact Nat.succ_ne_self _) (fun b o e=>?_) J'.free ⟨m,hn⟩ q hend (I3.fpOk (Nat.le_refl _) J'.free)
 rw[hsz]
 exact Nat.ne_of_lt (Nat.lt_succ_of_lt (Heap.lt_size e))
end
def ddS (acc:List Str) (x:Str):List Str:=if x∈acc then acc else acc++[x]
def dd (xs:List Str):List Str:=xs.foldl ddS []
theorem zi6 (xs:List Str) (x:Str):dd (xs++[x])=ddS (dd xs) x:=by unfold dd;rw[List.foldl_append];rfl
theorem mem_ddS {acc:List Str}{x k:Str}:k∈ddS acc x↔k∈acc∨k=x:=by
 unfold ddS
 split
 ·constructor
  ·exact .inl
  ·rintro (h|rfl)
   ·exact h
   ·assumption
 ·simp
theorem zgZ {xs:List Str}:∀ {acc:List Str}{k:Str},k∈xs.foldl ddS acc↔k∈acc∨k∈xs:=by
 induction xs with
 |nil=>intro acc k;simp
 |cons x r ih=>
  intro acc k
  rw[List.foldl_cons,ih,mem_ddS]
  simp only[List.mem_cons]
  constructor
  ·rintro ((h|h)|h)
   ·exact .inl h
   ·exact .inr (.inl h)
   ·exact .inr (.inr h)
  ·rintro (h|h|h)
   ·exact .inl (.inl h)
   ·exact .inl (.inr h)
   ·exact .inr h
theorem mem_dd {xs:List Str}{k:Str}:k∈dd xs↔k∈xs:=by unfold dd;rw[zgZ];simp
theorem zg0 (acc:List Str) (x:Str):(ddS acc x).length=if x∈acc then acc.length else acc.length+1:=by
 unfold ddS
 split<;>simp
theorem zdj:∀(xs acc:List Str),(xs.foldl ddS acc).length≤acc.length+xs.length∧((xs.foldl ddS acc).length=acc.length+xs.length↔(xs.Nodup∧∀x∈xs,x∉acc))
 |[],acc=>by simp
 |x::r,acc=>by
  obtain ⟨h1,h2⟩:=zdj r (ddS acc x)
  rw[List.foldl_cons]
  have h3:=zg0 acc x
  simp only[List.length_cons]
  by_cases hx:x∈acc
  ·rw[if_pos hx] at h3
   refine ⟨by omega,⟨fun h=>by omega,fun ⟨_,h⟩=>absurd hx (h x List.mem_cons_self)⟩⟩
  ·rw[if_neg hx] at h3
   refine ⟨by omega,?_⟩
   constructor
   ·intro h
    obtain ⟨a,b⟩:=h2.mp (by omega)
    refine ⟨List.nodup_cons.mpr ⟨fun hm=>b x hm (mem_ddS.mpr (.inr rfl)),a⟩,fun y hy=>?_⟩
    rcases List.mem_cons.mp hy with rfl|hy
    ·exact hx
    ·exact fun hm=>b y hy (mem_ddS.mpr (.inl hm))
   ·rintro ⟨a,b⟩
    obtain ⟨a1,a2⟩:=List.nodup_cons.mp a
    have:=h2.mpr ⟨a2,fun y hy hm=>by
     rcases mem_ddS.mp hm with h|h
     ·exact b y (List.mem_cons_of_mem _ hy) h
     ·exact a1 (h ▸ hy)⟩
    omega
theorem ziK (xs:List Str):(dd xs).length≤xs.length:=by have:=(zdj xs []).1;simpa [dd] using this
theorem ziL (xs:List Str):(dd xs).length=xs.length↔xs.Nodup:=by
 have:=(zdj xs []).2
 simpa [dd] using this
def setL (P:Program) (w:World) (p:Addr) (xs:List Str):HO:=.ext fun h=>h.SetOf (strKind P w) p (fun k=>decide (k∈xs)) (dd xs).length
theorem zfc {P:Program}{w:World}{H:Hp}{h:Heap}{p:Addr}{xs:List Str}(hS:h.SetOf (strKind P w) p (fun k=>decide (k∈xs)) (dd xs).length):ObjOk P w H h p (setL P w p xs):=by
 refine ⟨hS,?_,fun h1 h2 q k=>?_⟩
 ·obtain ⟨o,_,_,_,e,_⟩:=hS
  exact ⟨o,e⟩
 ·obtain ⟨o,es,ep,t,e,r⟩:=q
  exact ⟨o,es,ep,t,k o e,r⟩
theorem zgl {P:Program}{w:World}{H:Hp}{h:Heap}{led:Bool}:ObjOk P w H (h.push { cls:=.type "set",dict:=none,data:=.set #[] 0 (.fresh 0 0 led) }) h.objs.size (setL P w h.objs.size []):=
 zfc (SetOf_congr ((setObjOf_fresh (knd:=strKind P w) led).setOf (Heap.get?_push_size _ rfl) (by unfold scanBound;omega)) (fun _=>by simp) rfl)
theorem zfL (xs:List Str) (x:Str):(fun k=>decide (k∈xs) || decide (k=x))=fun k=>decide (k∈xs++[x]):=by
 funext k
 rw[Bool.eq_iff_iff]
 simp
theorem zfM (xs:List Str) (x:Str):(if decide (x∈xs)=true then (dd xs).length else (dd xs).length+1)=(dd (xs++[x])).length:=by
 rw[zi6,zg0]
 by_cases h:x∈xs
 ·rw[if_pos (decide_eq_true h),if_pos (mem_dd.mpr h)]
 ·rw[if_neg (by simp[h]),if_neg (fun z=>h (mem_dd.mp z))]
section
variable {X:Cx}
theorem zi7 {pins:List (Addr×Obj)}{σ:St}{H:Hp}{s:Shared}{p:Addr}{xs:List Str}{x:Str}{t:Tok}{Q:Value→Shared→Prop}(I:Inv X pins σ H s) (h:H p=some (setL X.prog X.w p xs)) (hl:xs.length+1<scanBound)
  (hQ:∀s',Inv X pins σ (upd H p (setL X.prog X.w p (xs++[x]))) s'→Q .none s'):wpAny (model X.prog X.w) X.A (call (.builtin "set.add") [.ref p,.str x t]) Q X.xe s:=by
 obtain ⟨hS,_,_⟩:=I.hok p _ h
 have hS:s.heap.SetOf (strKind X.prog X.w) p (fun k=>decide (k∈xs)) (dd xs).length:=hS
 have:=ziK xs
 refine call_set_add (k:=x) (by simp[PySem.strKind,Value.isStrOf]) rfl hS (by omega) fun h' hsb hS'=>hQ _ ?_
 have hS2:=SetOf_congr hS' (S':=fun k=>decide (k∈xs++[x])) (n':=(dd (xs++[x])).length) (fun k=>congrFun (zfL xs x) k) (zfM xs x)
 refine I.write (t':=s.toks+1) (x:=p) (e:=p) (by rw[h];exact trivial) (.inl rfl) (fun b u hb q=>(hsb.2 b hb).trans q) ?_ (zfc hS2)
 obtain ⟨o,_,_,_,e,_⟩:=hS2
 exact ⟨o,e⟩
theorem zcu:CallR X (.builtin "len") (fun vs H Q=>∃p xs,vs=[.ref p]∧H p=some (setL X.prog X.w p xs)∧Q (.int (dd xs).length) H):=by
 intro pins s σ H vs us Q I r h
 obtain ⟨p,xs,rfl,hp,q⟩:=h
 obtain ⟨u,rfl,ru⟩:=vals1 r
 cases ru
 obtain ⟨hS,_,_⟩:=I.hok p _ hp
 obtain ⟨o,es,ep,t,e,hex,hd,_,_,hb,hf,hn⟩:=(show s.heap.SetOf (strKind X.prog X.w) p (fun k=>decide (k∈xs)) (dd xs).length from hS)
 refine call_len_set e hex hd hf (by unfold scanBound at hb;omega) ?_
 rw[hn]
 exact ⟨.int _,H,I.tok _,⟨_,rfl⟩,q⟩
theorem zeG (elt target iter:Expr) (ifs:List Expr) (scope:Scope) (pos:Pos) (it acc:Value) (env:Env) :
  compTurn (.SetComp elt [⟨target,iter,ifs,0⟩] scope pos) 0 it acc env=(do
   standAt iter.pos
   match ← pyNext it with
   |none=>pure (.done .next)
   |some v=>
    letOwnedTupleGo target it v
    assign target env v
    let mut ok:=true
    for c in ifs do
     if ok then ok ← isTrue c env (eval c env)
    if ok then
     (do let v ← eval elt env;standAt elt.pos;let _ ← call (.builtin "set.add") [acc,v])
    again (.compLoop (.SetComp elt [⟨target,iter,ifs,0⟩] scope pos) 0 it acc env)):=by rfl
theorem zbV {prog:Program}{w:World}{A:Around}{R:Result→Shared→Prop}{s:Shared}{elt tg iter:Expr}{ifs:List Expr}{scope:Scope}{pos:Pos}{it acc:Value}{env:Env}
  (h0:codeAny (model prog w) A (.compLoop (.SetComp elt [⟨tg,iter,ifs,0⟩] scope pos) 0 it acc env) R s)
  (h:wpAny (model prog w) A (pyIter it) (fun it' s'=>codeAny (model prog w) A (.compLoop (.SetComp elt [⟨tg,iter,ifs,0⟩] scope pos) 0 it' acc env) R s')
   (notedBy (model prog w) A env fun x s'=>R (.error x) s') s) :
  codeAny (model prog w) A (.compStart (.SetComp elt [⟨tg,iter,ifs,0⟩] scope pos) 0 it acc env) R s:=by
 refine codeAny_of_tree ?_
 show wpAny _ _ ((compStart (.SetComp elt [⟨tg,iter,ifs,0⟩] scope pos) 0 it acc env).onRaise (fun x=>do noteFrame x env;standAt theWindowsPlace)) _ _ s
 refine wpAny_notedAt ?_
 unfold compStart
 show wpAny _ _ (ask >>= _) _ _ s
 refine wpAny_bind (wpAny_askSetting (wpAny_ite ?_))
 split
 ·first
   |exact wpAny_bind (wpAny_pure (wpAny_pure (And.intro rfl h0)))
   |exact wpAny_pure (And.intro rfl h0)
 ·first
   |exact wpAny_bind (wpAny_rule (wpAny_bind (wpAny_standAt (wpAny_bind (wpAny_mono h (fun it' s' h'=>wpAny_pure (And.intro rfl h')) fun _ _ x=>x)))))
   |(refine wpAny_bind (wpAny_rule ?_);show wpAny _ _ (standAt iter.pos >>= _) _ _ s;exact wpAny_bind (wpAny_standAt (wpAny_bind (wpAny_mono h (fun it' s' h'=>wpAny_pure (And.intro rfl h')) fun _ _ x=>x))))
def tAddS (P:Program) (w:World) (p:Addr) (te:TE):TR:=fun σ H N=>te σ H fun v H5=>∃x xs,v=.str x∧H5 p=some (setL P w p xs)∧xs.length+1<scanBound∧N σ (upd H5 p (setL P w p (xs++[x])))
theorem zi8 {elt:Expr}{te:TE}{p:Addr}(he:PE X elt te):PR X (do let v ← eval elt X.env;standAt elt.pos;let _ ← call (.builtin "set.add") [.ref p,v]) (tAddS X.prog X.w p te):=by
 intro pins s σ H N I h
 refine wpAny_bind (thn (he pins s σ H _ I h) fun u s1 ⟨v,H1,I1,r1,x,xs,e,hp,hl,q1⟩=>?_)
 subst e
 obtain ⟨t,rfl⟩:=r1
 refine wpAny_bind (wpAny_standAt (wpAny_bind (zi7 I1 hp hl fun s' I'=>?_)))
 exact wpAny_pure ⟨σ,_,I',q1⟩
theorem zg1 (Q:Value→Shared→Prop) (E:Value→Shared→Prop) (s:Shared) (h:∀ob:Obj,(∀H,ObjOk X.prog X.w H (s.heap.push ob) s.heap.objs.size (setL X.prog X.w s.heap.objs.size []))→Q (.ref s.heap.objs.size) { s with heap:=s.heap.push ob }) :
  wpAny (model X.prog X.w) X.A (newSet (.type "set")) Q E s:=by
 unfold newSet setsByText
 refine wpAny_bind (wpAny_bind (wpAny_askSetting (wpAny_pure ?_)))
 exact wpAny_newObj_type (h _ fun H=>zgl)
def tSetC (js:List (Option Nat)) (P:Program) (w:World) (wi:TI) (g:TG) (tt:TT) (te:TE):TE:=fun σ H Q=>wi σ H fun J H1=>∀p,H1 p=none→tLoop J g tt (tAddS P w p te) (fun _ H'=>Q (.ref p) H') (capSt σ js) (upd H1 p (setL P w p []))
theorem zgm {elt tg iter:Expr}{ifs:List Expr}{sc:Scope}{pos:Pos}{N':List Str}{js:List (Option Nat)}{wi:TI}{g:TG}{tt:TT}{te:TE}
  (hc:X.calm=true) (B:BlkOk X sc) (C:CapsOk X sc N' js) (hi:PI X tg iter wi) (hg:∀cl s H fp,PG (X.blk sc cl N' s H fp) tg g) (ht:∀cl s H fp,PTs (X.blk sc cl N' s H fp) ifs tt) (he:∀cl s H fp,PE (X.blk sc cl N' s H fp) elt te)
  (hs:∀x,foldedSetIterable iter X.env x=pure x:=by intro _;rfl):PE X (.SetComp elt [⟨tg,iter,ifs,0⟩] sc pos) (tSetC js X.prog X.w wi g tt te):=by
 intro pins s σ H Q I h
 obtain ⟨cl,hcl,c1,c2⟩:=zbA X.env sc fun x hx hfr=>I.ok.has x.1 (.inl (B.free x hx hfr))
 show wpAny _ _ (comprehension (.SetComp elt [⟨tg,iter,ifs,0⟩] sc pos) sc X.env _ (newSet (.type "set")) false (eval iter X.env)) _ _ s
 refine wpAny_comprehension_free (use:=none) rfl hs hcl B.kind B.names (thn (hi pins s σ H _ I h) fun v s1 h1=>thn h1 fun itv s2 h2=>?_)
 obtain ⟨it,fp,tn,J,H2,e,I2,T,st2,f2,h2⟩:=h2
 subst e
 refine zfb (o0:=fun p=>setL X.prog X.w p []) zg1 (Qe:=fun p H'=>Q (.ref p) H') (RR:=fun acc C=>compPost (model X.prog X.w) X.A X.xe none (EP X pins σ Q) acc C) (tl:=fun p Qe' σ' H'=>tLoop J g tt (tAddS X.prog X.w p te) Qe' σ' H') hc B C c1 c2 ?_ I2 T st2 f2 h2 ?_
 ·intro s3 H3 p σ' s4 R Qe' J4 st4 f4 h4 hR
  have loop:codeAny (model X.prog X.w) X.A (.compLoop (.SetComp elt [⟨tg,iter,ifs,0⟩] sc pos) 0 (.ref it) (.ref p) (X.blk sc cl N' s3 H3 fp).env) R s4:=
   zcr (X:=X.blk sc cl N' s3 H3 fp) rfl hc (zeG ..) rfl rfl rfl (hg _ _ _ _) (ht _ _ _ _) (zi8 (X:=X.blk sc cl N' s3 H3 fp) (he _ _ _ _)) T J4 st4 f4 h4 hR
  exact zbV loop (T.self _ 0 _ _ _ st4 loop)
 ·intro p C s' H' hne hold hfree hns q hend _
  obtain ⟨m,hn⟩:=hns
  exact ⟨m,hn,fun h'' hs''=>⟨.ref p,H',hend h'' hs'',rfl,q⟩⟩
end
theorem zg2 {P:Program}{w:World}{A:Around}{R:Result→Shared→Prop}{I S l:Addr}{its:List Value}{xs:List Str}(hh:A.in1.handled=none) (hlI:l≠I) (hSI:S≠I) (hSl:S≠l) (hv:∀(i:Nat) v,its[i]?=some v→∃x t,xs[i]?=some x∧v=.str x t) (hlen:its.length=xs.length) (hb:xs.length+1<scanBound) :
  ∀(k i:Nat) (s:Shared),xs.length-i=k→i≤xs.length→s.heap.IsListIter I l i→s.heap.IsList l its.toArray→s.heap.SetOf (PySem.strKind P w) S (fun k'=>decide (k'∈xs.take i)) (dd (xs.take i)).length →
   (∀h' tk,(∀b o,b≠S→b≠I→s.heap.get? b=some o→h'.get? b=some o)→h'.SetOf (PySem.strKind P w) S (fun k'=>decide (k'∈xs)) (dd xs).length→R (.ok (.ret .none)) { s with heap:=h',toks:=tk }) →
   codeAny (model P w) A (.builtin "set.update.loop" ⟨[.ref S,.ref I],[]⟩) R s:=by
 intro k
 induction k with
 |zero=>
  intro i s hk hi it ls hS hR
  have e:i=xs.length:=by omega
  subst e
  refine codeAny_builtin PyProof.Rows.F.entry_set_update_loop ?_
  rw[Around.under_plainId PyProof.Rows.F.plain_set_update_loop _]
  show wpAny _ A.in1 (pyNext (.ref I) >>= _) _ _ s
  refine wpAny_bind (wpAny_pyNext_list_end hh it ls (by simp[hlen]) fun h' eb=>?_)
  show wpAny _ A.in1 (ret Value.none) _ _ _
  refine wpAny_pure (hR h' s.toks (fun b o _ h2 e=>eb b o h2 e) ?_)
  rw[List.take_length] at hS
  obtain ⟨o,es,ep,t,ho,rest⟩:=hS
  exact ⟨o,es,ep,t,eb S o hSI ho,rest⟩
 |succ k ih=>
  intro i s hk hi it ls hS hR
  have lt:i<xs.length:=by omega
  have lt':i<its.length:=by omega
  refine codeAny_builtin PyProof.Rows.F.entry_set_update_loop ?_
  rw[Around.under_plainId PyProof.Rows.F.plain_set_update_loop _]
  show wpAny _ A.in1 (pyNext (.ref I) >>= _) _ _ s
  refine wpAny_bind (wpAny_pyNext_list_item it ls (x:=its[i]) (by simp[lt']) fun h' it' sb=>?_)
  obtain ⟨x,t,hx,ev⟩:=hv i its[i] (by simp[lt'])
  rw[ev]
  have hS1:h'.SetOf (PySem.strKind P w) S (fun k'=>decide (k'∈xs.take i)) (dd (xs.take i)).length:=by
   obtain ⟨o,es,ep,tb,ho,rest⟩:=hS
   exact ⟨o,es,ep,tb,(sb.2 S hSI).trans ho,rest⟩
  have ls1:h'.IsList l its.toArray:=ls.extBut sb.extBut hlI
  show wpAny _ A.in1 (holding [Value.str x t] (setAdd S (.str x t)) >>= _) _ _ { s with heap:=h' }
  refine wpAny_bind (wpAny_holding ?_)
  unfold setAdd
  refine wpAny_holding ?_
  have hkey:(PySem.strKind P w).is x (.str x t)=true:=by simp[PySem.strKind,Value.isStrOf]
  refine wpAny_bind ((PySem.strKind P w).pyHash hkey ?_)
  have hroom:(dd (xs.take i)).length+1<scanBound:=by
   have:=ziK (xs.take i)
   rw[List.length_take] at this
   omega
  refine wpAny_setAddHashed_of (knd:=PySem.strKind P w) (s:={ s with heap:=h',toks:=s.toks+1 }) hkey rfl hS1 hroom fun h2 sb2 hS2=>?_
  have et:xs.take i++[x]=xs.take (i+1):=by rw[List.take_add_one,hx];rfl
  have hS3:h2.SetOf (PySem.strKind P w) S (fun k'=>decide (k'∈xs.take (i+1))) (dd (xs.take (i+1))).length:=by
   rw[←et]
   exact SetOf_congr hS2 (fun k'=>congrFun (zfL (xs.take i) x) k') (zfM (xs.take i) x)
  refine wpAny_pure ⟨plainId_quiet PyProof.Rows.F.plain_set_update_loop _,ih (i+1) _ (by omega) lt (it'.extBut sb2.extBut (Ne.symm hSI)) (ls1.extBut sb2.extBut (Ne.symm hSl)) hS3 fun h3 tk q hS4=>?_⟩
  exact hR h3 tk (fun b o h1 h2' e=>q b o h1 h2' ((sb2.2 b h1).trans ((sb.2 b h2').trans e))) hS4
section
variable {prog:Program}{w:World}{A:Around}{E:Value→Shared→Prop}{s:Shared}
theorem zeH {l:Addr}{its:List Value}{xs:List Str}{Q:Value→Shared→Prop}(hh:A.handled=none) (hl:s.heap.IsList l its.toArray)
  (hv:∀(i:Nat) v,its[i]?=some v→∃x t,xs[i]?=some x∧v=.str x t) (hlen:its.length=xs.length) (hb:xs.length+1<scanBound)
  (h:∀(h':Heap) (tk:Nat),h'.SetOf (PySem.strKind prog w) s.heap.objs.size (fun k'=>decide (k'∈xs)) (dd xs).length →
   (∀b o,s.heap.get? b=some o→h'.get? b=some o)→Q (.ref s.heap.objs.size) { s with heap:=h',toks:=tk }) :
  wpAny (model prog w) A (call (.type "set") [.ref l]) Q E s:=by
 obtain ⟨c,tl,hmro⟩:=F.called_set.mro
 have hmade:=F.called_set.made
 have hsub:=F.called_set.sub
 refine wpAny_call (codeAny_of_tree ?_)
 show wpAny _ _ (callAny (.type "set") _) _ _ _
 refine wpAny_pure ⟨Code.quiet_builtin _ (by decide +kernel),codeAny_builtin F.entry_type_call ?_⟩
 rw[Around.under_plain (weight_type_call_type "set" [.ref l] []) rfl]
 have h1:=F.called_set.notType
 have h2:=F.called_set.canCreate
 have hct:=F.typeCall_set_1 (.ref l)
 repeat (any_goals (first|assumption|wp_step))
 refine codeAny_mono (code_set_new_1 (.ref l) (E:=E) (Q₁:=fun obj s₁=>∃led:Bool,obj=.ref s.heap.objs.size∧s₁={ s with heap:=s.heap.push { cls:=.type "set",dict:=none,data:=.set #[] 0 (.fresh 0 0 led) } }) fun led=>⟨led,rfl,rfl⟩) fun r s₁ hr=>?_
 cases r with
 |error e=>exact hr
 |ok fl=>
  cases fl with
  |ret obj=>
   obtain ⟨led,rfl,rfl⟩:=hr
   generalize hH1:s.heap.push { cls:=.type "set",dict:=none,data:=.set #[] 0 (.fresh 0 0 led) }=H1
   have hS:H1.get? s.heap.objs.size=some { cls:=.type "set",dict:=none,data:=.set #[] 0 (.fresh 0 0 led) }:=by rw[←hH1];exact Heap.get?_push_size _ rfl
   have hold:∀b o,s.heap.get? b=some o→H1.get? b=some o:=fun b o e=>by rw[←hH1];exact Heap.get?_push_of_some _ e
   have hsz:H1.objs.size=s.heap.objs.size+1:=by rw[←hH1];exact Heap.size_push ..
   have hT:Shared.TypeIs { s with heap:=H1 } (.ref s.heap.objs.size) "set":=⟨_,hS,rfl⟩
   have hli:=F.called_set.init.lookup
   have hbi:=F.called_set.init.bind (.ref s.heap.objs.size)
   repeat (any_goals (first|assumption|wp_step))
   refine codeAny_mono (codeAny_call_builtin (R:=wants (fun r s₂=>r=.none∧∃h' tk,s₂={ s with heap:=h',toks:=tk } ∧
     h'.SetOf (PySem.strKind prog w) s.heap.objs.size (fun k'=>decide (k'∈xs)) (dd xs).length∧(∀b o,s.heap.get? b=some o→h'.get? b=some o)) E) F.called_set.init.plain F.entry_set_init (check_set_init_1 hT ?_)) fun r₂ s₂ hr₂=>?_
   ·obtain ⟨ol,hol,hcl,nl,hdl⟩:=hl
    obtain ⟨ocls,odict,odata,oslots⟩:=ol
    simp only at hcl hdl
    subst hcl;subst hdl
    have hol':=hold _ _ hol
    have hsls:=F.sub_list_set
    have hslf:=F.sub_list_frozenset
    have hne:(Value.type "list"==Value.type "dict")=false:=by decide
    have hl1:H1.IsList l its.toArray:=⟨_,hol',rfl,nl,rfl⟩
    unfold Builtin.«set.__init__» noKeywords Builtin.Frozenset.updateFrom
    generalize hPI:pyIter=PI
    wp_walk
    subst hPI
    refine wpAny_pyIter_list hl1 ?_
    refine wpAny_bind (wpAny_runValue ?_)
    have hlS:l<s.heap.objs.size:=Heap.lt_size hol
    have hh3:A.in1.in1.in1.handled=none:=by simp[hh]
    refine zg2 (P:=prog) (w:=w) (l:=l) (its:=its) (xs:=xs) hh3 (by rw[hsz];exact Nat.ne_of_lt (Nat.lt_succ_of_lt hlS)) (by rw[hsz];exact Nat.ne_of_lt (Nat.lt_succ_self _)) (Nat.ne_of_gt hlS) hv hlen hb xs.length 0 _ (by omega) (Nat.zero_le _) ⟨_,Heap.get?_push_size _ rfl,rfl,rfl⟩ (hl1.push _) ?hS0 ?hR
    case hS0=>
     exact SetOf_congr ((setObjOf_fresh (knd:=PySem.strKind prog w) led).setOf (Heap.get?_push_of_some _ hS) (by unfold scanBound;omega)) (fun _=>by simp) rfl
    case hR=>
     intro h' tk' hk hS'
     show wpAny _ _ _ _ _ _
     refine wpAny_pure ?_
     show wpAny _ _ (ret Value.none) _ _ _
     refine wpAny_pure ⟨rfl,h',tk',rfl,hS',fun b o e=>?_⟩
     have lt:=Heap.lt_size e
     exact hk b o (Nat.ne_of_lt lt) (by rw[hsz];exact Nat.ne_of_lt (Nat.lt_succ_of_lt lt)) (Heap.get?_push_of_some _ (hold b o e))
   ·cases r₂ with
    |error e=>exact hr₂
    |ok fl₂=>
     cases fl₂ with
     |ret r=>
      obtain ⟨rfl,h',tk,rfl,hS',hk'⟩:=hr₂
      repeat (any_goals (first|assumption|wp_step))
      exact h _ _ hS' hk'
     |_=>exact hr₂.elim
  |_=>exact hr.elim
end
theorem zeI:∀ {xs:List Str}{us:List Value},Vals (xs.map V.str) us→us.length=xs.length∧∀(i:Nat) v,us[i]?=some v→∃x t,xs[i]?=some x∧v=.str x t
 |[],_,.nil=>⟨rfl,fun i v e=>by simp at e⟩
 |x::xs,_,.cons r t=>by
  obtain ⟨h1,h2⟩:=zeI (xs:=xs) t
  obtain ⟨tk,rfl⟩:=r
  refine ⟨by simp[h1],fun i v e=>?_⟩
  cases i with
  |zero=>simp at e;exact ⟨x,tk,by simp,e.symm⟩
  |succ i=>simpa using h2 i v (by simpa using e)
theorem zdy {X:Cx}(hc:X.calm=true):CallR X (.type "set") (fun vs H Q=>∃p xs,vs=[.ref p]∧SqL X.K H p (xs.map V.str)∧xs.length+1<scanBound∧∀q,H q=none→Q (.ref q) (upd H q (setL X.prog X.w q xs))):=by
 intro pins s σ H vs us Q I r h
 obtain ⟨p,xs,rfl,hq,hb,q⟩:=h
 obtain ⟨u,rfl,ru⟩:=vals1 r
 cases ru
 obtain ⟨its,rv,pl,hz⟩:=I.list hq
 obtain ⟨h1,h2⟩:=zeI rv
 refine wpAny_with_toks (n:=X.t0) I.tk ?_
 refine zeH (I.ok.hd hc) pl.isList h2 h1 hb fun h' tk hS hk=>?_
 intro ht
 exact ⟨.ref _,_,I.laid (t':=tk) hk (Nat.le_refl _) (zfc hS),rfl,q _ I.fresh⟩
def SameX (p:Addr) (H H':Hp):Prop:=∀b o,b≠p→H b=some o→H' b=some o
theorem SameX.refl {p:Addr}{H:Hp}:SameX p H H:=fun _ _ _ e=>e
theorem SameX.trans {p:Addr}{H H1 H2:Hp}(a:SameX p H H1) (b:SameX p H1 H2):SameX p H H2:=fun c o n e=>b c o n (a c o n e)
theorem SameX.upd {p:Addr}{H H':Hp}{o:HO}(a:SameX p H H'):SameX p H (upd H' p o):=fun c u n e=>by rw[zat n];exact a c u n e
theorem Same.x {p:Addr}{H H':Hp}(a:Same H H'):SameX p H H':=fun c o _ e=>a c o e
theorem Same.new {H:Hp}{p:Addr}{o:HO}(h:H p=none):Same H (upd H p o):=fun b u e=>by rw[zat (zae e h)];exact e
theorem SameX.of_new {H H':Hp}{p:Addr}(h:H p=none) (a:SameX p H H'):Same H H':=fun b o e=>a b o (zae e h) e
structure ItOk (J:It) (n:Nat) (item:Nat→V) (H0:Hp) (p:Addr):Prop where
 go:∀i H,i<n→SameX p H0 H→J.go i H
 stop:∀H,SameX p H0 H→J.stop n H
 yld:∀i H x H',i<n→SameX p H0 H→J.yld i H x H'→H'=H∧x=item i
theorem zcv {x:Str}{H0:Hp}{p:Addr}:ItOk (Its x) x.cps.size (fun i=>.str ⟨#[x.cps.getD i 0]⟩) H0 p where
 go:=fun i H h _=>h
 stop:=fun H _=>Nat.le_refl _
 yld:=fun i H v H' hi _ ⟨e,c,hc,ev⟩=>⟨e,by
  have:x.cps.getD i 0=c:=by rw[Array.getD_eq_getD_getElem?,hc];rfl
  rw[ev,this]⟩
theorem za5 {K:W.Frag}{a p:Addr}{xs:List V}{H0:Hp}(h:H0 a=some (.tup xs)) (hp:a≠p):ItOk (Itt K a) xs.length (fun i=>xs.getD i .non) H0 p where
 go:=fun i H hi k=>⟨xs,xs[i],SqT.of (k a _ hp h),by simp[hi]⟩
 stop:=fun H k=>⟨xs,SqT.of (k a _ hp h),Nat.le_refl _⟩
 yld:=fun i H v H' hi k ⟨e,q⟩=>⟨e,by
  have:=q xs (SqT.of (k a _ hp h))
  rw[List.getD_eq_getElem?_getD,this];rfl⟩
theorem zcZ {K:W.Frag}{a p:Addr}{xs:List V}{H0:Hp}(h:H0 a=some (.lst xs)) (hp:a≠p):ItOk (Itl K a) xs.length (fun i=>xs.getD i .non) H0 p where
 go:=fun i H hi k=>⟨xs,xs[i],SqL.of (k a _ hp h),by simp[hi]⟩
 stop:=fun H k=>⟨xs,SqL.of (k a _ hp h),Nat.le_refl _⟩
 yld:=fun i H v H' hi k ⟨e,q⟩=>⟨e,by
  have:=q xs (SqL.of (k a _ hp h))
  rw[List.getD_eq_getElem?_getD,this];rfl⟩
theorem zh4 {lo:Int}{n:Nat}{H0:Hp}{p:Addr}:ItOk (Itr lo n) n (fun i=>.int (lo+i)) H0 p where
 go:=fun i H h _=>h
 stop:=fun H _=>Nat.le_refl _
 yld:=fun i H v H' hi _ ⟨e,q⟩=>⟨e,q⟩
def flatN (F:Nat→List V):Nat→List V
 |0=>[]
 |i+1=>flatN F i++F i
theorem zfN {J:It}{g:TG}{tt:TT}{tr:TR}{Qe:St→Hp→Prop}{σ0:St}{H0:Hp}{p:Addr}{cur:List V}{n:Nat}{item:Nat→V}(F:Nat→List V) (P:St→Prop) (hσ:P σ0) (hp:H0 p=some (.lst cur)) (ok:ItOk J n item H0 p)
  (turn:∀i σ H (N:St→Hp→Prop),i<n→P σ→SameX p H0 H→H p=some (.lst (cur++flatN F i))→(∀σ2 H4,P σ2→SameX p H H4→H4 p=some (.lst (cur++flatN F i++F i))→N σ2 H4) →
   g (item i) σ H fun σ2 H2=>tt σ2 H2 fun b H3=>if b=true then tr σ2 H3 N else N σ2 H3)
  (hQ:∀σ H,P σ→SameX p H0 H→H p=some (.lst (cur++flatN F n))→Qe σ H):tLoop J g tt tr Qe σ0 H0:=by
 refine ⟨fun i m σ H=>m=n-i∧i≤n∧P σ∧SameX p H0 H∧H p=some (.lst (cur++flatN F i)),⟨n,rfl,Nat.zero_le _,hσ,.refl,by simpa [flatN] using hp⟩,?_⟩
 rintro i m σ H ⟨rfl,hi,hP,hS,hH⟩
 by_cases hlt:i<n
 ·refine .inr ⟨ok.go i H hlt hS,fun σ' H'=>P σ'∧SameX p H0 H'∧H' p=some (.lst (cur++flatN F (i+1))),fun σ' H' ⟨a,b,c⟩=>⟨n-(i+1),by omega,rfl,hlt,a,b,c⟩,fun x H' y=>?_⟩
  obtain ⟨rfl,rfl⟩:=ok.yld i H x H' hlt hS y
  refine turn i σ H' _ hlt hP hS hH fun σ2 H4 hP2 hS2 hH2=>⟨hP2,hS.trans hS2,?_⟩
  rw[hH2]
  simp only[flatN,List.append_assoc]
 ·have e:i=n:=by omega
  subst e
  exact .inl ⟨ok.stop H hS,hQ σ H hP hS hH⟩
theorem zdZ {F:Nat→List V}{k:Nat}(h:∀i,(F i).length≤k):∀n,(flatN F n).length≤n*k
 |0=>by simp[flatN]
 |n+1=>by
  have:=zdZ h n
  have h2:=h n
  simp only[flatN,List.length_append,Nat.succ_mul]
  omega
theorem zd0 {J:It}{g:TG}{tt:TT}{te:TE}{Qe:St→Hp→Prop}{σ0:St}{H0:Hp}{p:Addr}{cur:List V}{n:Nat}{item:Nat→V}(f:Nat→Option V) (P:St→Prop) (hσ:P σ0) (hp:H0 p=some (.lst cur)) (hsz:cur.length+n≤100000) (ok:ItOk J n item H0 p)
  (turn:∀i σ H (C:Option V→St→Hp→Prop),i<n→P σ→SameX p H0 H→(∀σ2 H4,P σ2→Same H H4→C (f i) σ2 H4) →
   g (item i) σ H fun σ2 H2=>tt σ2 H2 fun b H3=>if b=true then te σ2 H3 fun v H4=>C (some v) σ2 H4 else C none σ2 H3)
  (hQ:∀σ H,P σ→SameX p H0 H→H p=some (.lst (cur++flatN (fun i=>(f i).toList) n))→Qe σ H):tLoop J g tt (tApp p te) Qe σ0 H0:=by
 refine zfN (fun i=>(f i).toList) P hσ hp ok (fun i σ H N hi hP hS hH hN=>?_) hQ
 refine turn i σ H (fun o σ2 H4=>match o with
  |some v=>∃ys,H4 p=some (.lst ys)∧ys.length<sizeLine∧N σ2 (upd H4 p (.lst (ys++[v])))
  |none=>N σ2 H4) hi hP hS fun σ2 H4 hP2 hS2=>?_
 have hp4:=hS2 p _ hH
 cases e:f i with
 |none=>
  refine hN σ2 H4 hP2 hS2.x ?_
  rw[e]
  simpa using hp4
 |some v=>
  refine ⟨_,hp4,?_,hN σ2 _ hP2 (hS2.x.upd) ?_⟩
  ·have h1:=zdZ (F:=fun i=>(f i).toList) (k:=1) (fun i=>by show ((f i).toList).length≤1;cases f i<;>simp) i
   have h2:(100000:Nat)<sizeLine:=by rw[sizeLine_eq];decide
   rw[List.length_append]
   omega
  ·rw[zac,e]
   rfl
theorem zbF {J:It}{g:TG}{tt:TT}{te:TE}{Qe:St→Hp→Prop}{σ0:St}{H0:Hp}{p:Addr}{n:Nat}{item:Nat→V}(f:Nat→Option V) (P:St→Prop) (hσ:P σ0) (hp:H0 p=none) (hsz:n≤100000) (ok:ItOk J n item (upd H0 p (.lst [])) p)
  (turn:∀i σ H (C:Option V→St→Hp→Prop),i<n→P σ→Same H0 H→(∀σ2 H4,P σ2→Same H H4→C (f i) σ2 H4) →
   g (item i) σ H fun σ2 H2=>tt σ2 H2 fun b H3=>if b=true then te σ2 H3 fun v H4=>C (some v) σ2 H4 else C none σ2 H3)
  (hQ:∀σ H,Same H0 H→H p=some (.lst (flatN (fun i=>(f i).toList) n))→Qe σ H):tLoop J g tt (tApp p te) Qe σ0 (upd H0 p (.lst [])):=by
 have s0:Same H0 (upd H0 p (.lst [])):=Same.new hp
 have up:∀ {H},SameX p (upd H0 p (.lst [])) H→Same H0 H:=fun {H} h b o e=>h b o (zae e hp) (s0 b o e)
 refine zd0 f P hσ zac (by simpa using hsz) ok (fun i σ H C hi hP hS hC=>turn i σ H C hi hP (up hS) hC) fun σ H _ hS hH=>hQ σ H (up hS) (by simpa using hH)
theorem zbW (f:Nat→V):∀n,flatN (fun i=>(some (f i)).toList) n=(List.range n).map f
 |0=>rfl
 |n+1=>by
  have:=zbW f n
  simp only[Option.toList_some] at this
  simp only[flatN,List.range_succ,List.map_append,this,Option.toList_some,List.map_cons,List.map_nil]
end L2
namespace T1
open PySem L2
inductive D where
 |non|bl (b:Bool)|int (i:Int)|str (x:Str)|tup (xs:List D)|lst (xs:List D)
mutual
/-- the value v stands for d;z is an address apart (the law's bag) -/
inductive Rep (z:Addr) (H:Hp):V→D→Prop where
 |non:Rep z H .non .non
 |bl (b:Bool):Rep z H (.bl b) (.bl b)
 |int (i:Int):Rep z H (.int i) (.int i)
 |str (x:Str) (h:x.length≤20000):Rep z H (.str x) (.str x)
 |tup {a:Addr} {xs:List V} {ds:List D} (h:H a=some (.tup xs)) (hz:a≠z) (r:Reps z H xs ds):Rep z H (.ref a) (.tup ds)
 |lst {a:Addr} {xs:List V} {ds:List D} (h:H a=some (.lst xs)) (hz:a≠z) (r:Reps z H xs ds):Rep z H (.ref a) (.lst ds)
inductive Reps (z:Addr) (H:Hp):List V→List D→Prop where
 |nil:Reps z H [] []
 |cons {v:V} {d:D} {vs:List V} {ds:List D} (h:Rep z H v d) (t:Reps z H vs ds):Reps z H (v::vs) (d::ds)
end
mutual
theorem Rep.mono {z:Addr}{H H':Hp}(k:SameX z H H'):∀ {v:V}{d:D},Rep z H v d→Rep z H' v d
 |_,_,.non=>.non
 |_,_,.bl b=>.bl b
 |_,_,.int i=>.int i
 |_,_,.str x h=>.str x h
 |_,_,.tup h hz r=>.tup (k _ _ hz h) hz (Reps.mono k r)
 |_,_,.lst h hz r=>.lst (k _ _ hz h) hz (Reps.mono k r)
theorem Reps.mono {z:Addr}{H H':Hp}(k:SameX z H H'):∀ {vs:List V}{ds:List D},Reps z H vs ds→Reps z H' vs ds
 |_,_,.nil=>.nil
 |_,_,.cons h t=>.cons (Rep.mono k h) (Reps.mono k t)
end
theorem Reps.length {z:Addr}{H:Hp}:∀ {vs:List V}{ds:List D},Reps z H vs ds→vs.length=ds.length
 |_,_,.nil=>rfl
 |_,_,.cons _ t=>by simp[Reps.length t]
theorem Reps.get {z:Addr}{H:Hp}:∀ {vs:List V}{ds:List D}{i:Nat},Reps z H vs ds→i<ds.length→Rep z H (vs.getD i .non) (ds.getD i .non)
 |_,_,0,.cons h _,_=>h
 |_,_,i+1,.cons _ t,hi=>by
  have:=Reps.get (i:=i) t (by simpa using hi)
  simpa using this
def D.ty:D→String
 |.non=>"NoneType"|.bl _=>"bool"|.int _=>"int"|.str _=>"str"|.tup _=>"tuple"|.lst _=>"list"
theorem Rep.ty {z:Addr}{K:W.Frag}{H:Hp}{v:V}{d:D}(r:Rep z H v d):TyOf K H v (.type d.ty):=by
 cases r with
 |non=>exact .non
 |bl b=>exact .bl b
 |int i=>exact .int i
 |str x h=>exact .str x
 |tup h hz r=>exact .tup h
 |lst h hz r=>exact .lst h
theorem zd1 (K:W.Frag) (d:D):W.kitOne K (.type d.ty) (.type "str")=some (match d with|.str _=>true|_=>false):=by cases d<;>rfl
theorem zi9 (K:W.Frag) (d:D):W.kitOne K (.type d.ty) (.type "int")=some (match d with|.int _=>true|.bl _=>true|_=>false):=by cases d<;>rfl
theorem zfO (K:W.Frag) (d:D):W.kitOne K (.type d.ty) (.type "bool")=some (match d with|.bl _=>true|_=>false):=by cases d<;>rfl
theorem zd2 (K:W.Frag) (d:D):W.kitOne K (.type d.ty) (.type "tuple")=some (match d with|.tup _=>true|_=>false):=by cases d<;>rfl
theorem zk0:bootBuiltins "ord"=some (.builtin "ord"):=by decide +kernel
theorem zbe:bootBuiltins "len"=some (.builtin "len"):=by decide +kernel
theorem zg3:bootBuiltins "all"=some (.builtin "all"):=by decide +kernel
theorem zja:bootBuiltins "any"=some (.builtin "any"):=by decide +kernel
theorem b_isinst:bootBuiltins "isinstance"=some (.builtin "isinstance"):=by decide +kernel
theorem zk1:bootBuiltins "min"=some (.builtin "min"):=by decide +kernel
theorem zgn:bootBuiltins "str"=some (.type "str"):=by decide +kernel
theorem zgo:bootBuiltins "int"=some (.type "int"):=by decide +kernel
theorem zkh:bootBuiltins "bool"=some (.type "bool"):=by decide +kernel
theorem zbx:bootBuiltins "tuple"=some (.type "tuple"):=by decide +kernel
theorem zki:bootBuiltins "list"=some (.type "list"):=by decide +kernel
theorem zk2:bootBuiltins "set"=some (.type "set"):=by decide +kernel
def ziM (S sc:Scope):Bool:=sc.names.all fun x=>(x.2 != .local || sc.names.lookup x.1==some .local)&&x.2 != .cell&&(x.2 != .free || S.names.lookup x.1==some .cell)
theorem za3 {X:Cx}{sc:Scope}(S:Scope) (h:ziM S sc=true) (hS:X.env.scope=S:=by rfl) (hk:sc.kind=.function:=by rfl):BlkOk X sc:=by
 unfold ziM at h
 rw[List.all_eq_true] at h
 refine ⟨hk,fun x hx hl=>?_,fun x hx hc=>?_,fun x hx hf=>?_⟩
 ·have:=h x hx
  rw[hl] at this
  simp at this
  exact this
 ·have:=h x hx
  rw[hc] at this
  simp at this
 ·have:=h x hx
  rw[hf] at this
  simp at this
  show X.env.scope.names.lookup x.1=some .cell
  rw[hS]
  exact this
def rIsi (K:W.Frag):List V→Hp→VK→Prop:=fun xs H Q=>∃x n t b,xs=[x,.ty n]∧TyOf K H x t∧W.kitOne K t (.type n)=some b∧Q (.bl b) H
theorem zcw {X:Cx}{a:Expr}{ta:TE}{T:Str}{n:String}{p1 p2 pos:Pos}(hm:X.mg "isinstance"=none) (hm2:X.mg T=none) (hb:bootBuiltins T=some (.type n)) (ha:PE X a ta) (hg:Gl X "isinstance":=by rfl) (hg2:Gl X T:=by rfl)
  (hs:starEach [a,.Name T p2] X.env=(false,eval a X.env)::starEach [.Name T p2] X.env:=by rfl) (hpl:(backTo pos (starEach [.Name T p2] X.env)).any (·.1)=false:=by rfl) (hn:T≠"__name__":=by decide) (hd:(T==("__debug__":Str))=false:=by decide) :
  PE X (.Call (.Name "isinstance" p1) [a,.Name T p2] [] pos) (tCB (rIsi X.K) (tCons ta (tCons (tC (.ty n)) tNil))):=
 zap (p:=p1) (pos:=pos) (X:=X) zfa hg hm b_isinst (zaa ha (zaa (zgC (v:=.ty n) (pos:=p2) hg2 hm2 hb rfl hn hd) zab) hs) (by decide) (by decide) hs hpl
end T1
namespace L2
open PySem PySem.Spec PyProof.Rows
theorem zbk {J:It}{g:TG}{te:TE}{Qe:St→Hp→Prop}{σ0:St}{H0:Hp}{p:Addr}{n:Nat}{item:Nat→V}(f:Nat→V) (P:St→Prop) (hσ:P σ0) (hp:H0 p=none) (hsz:n≤100000) (ok:ItOk J n item (upd H0 p (.lst [])) p)
  (turn:∀i σ H (C:V→St→Hp→Prop),i<n→P σ→Same H0 H→(∀σ2 H4,P σ2→Same H H4→C (f i) σ2 H4)→g (item i) σ H fun σ2 H2=>te σ2 H2 fun v H4=>C v σ2 H4)
  (hQ:∀σ H,Same H0 H→H p=some (.lst ((List.range n).map f))→Qe σ H):tLoop J g tYes (tApp p te) Qe σ0 (upd H0 p (.lst [])):=
 zbF (fun i=>some (f i)) P hσ hp hsz ok (fun i σ H C hi hP hS hC=>turn i σ H (fun v σ2 H4=>C (some v) σ2 H4) hi hP hS hC) fun σ H hS hH=>hQ σ H hS (by rw[zbW] at hH;exact hH)
theorem range_map {α:Type} [Inhabited α] (xs:List α) (d:α) (f:α→V):(List.range xs.length).map (fun i=>f (xs.getD i d))=xs.map f:=by
 apply List.ext_getElem?
 intro i
 rw[List.getElem?_map,List.getElem?_map]
 by_cases h:i<xs.length
 ·simp[h]
 ·simp[h]
section
variable {X:Cx}{sc:Scope}{cl:List (Str×Addr)}{N':List Str}{s:Shared}{H:Hp}{fp:List Addr}
theorem zcM {es:List Expr}{k:Nat}{t:TGs}{pos:Pos}(n:Nat) (hc:X.calm=true) (h:PGs (X.blk sc cl N' s H fp) es t)
  (hn:(assignEach es (X.blk sc cl N' s H fp).env).length=n:=by rfl) (hst:(assignEach es (X.blk sc cl N' s H fp).env).findIdx? (·.1)=none:=by rfl):PG (X.blk sc cl N' s H fp) (.Tuple es k pos) (gTup X.K n t):=zbQ hc h hn hst
theorem zjb {tg l:Expr}{tl:TE}(hl:PE (X.blk sc cl N' s H fp) l tl):PI (X.blk sc cl N' s H fp) tg l (iTup X.K tl):=za6 hl
theorem zh5 {tg l:Expr}{tl:TE}(hl:PE (X.blk sc cl N' s H fp) l tl):PI (X.blk sc cl N' s H fp) tg l (iList X.K tl):=zbR hl
theorem zdk:IxR (X.blk sc cl N' s H fp) (rIxT X.K):=ix_tup
theorem zd3:IxR (X.blk sc cl N' s H fp) (rIxL X.K):=ix_list
theorem zgp:OpR (X.blk sc cl N' s H fp) (compareOp .In) (rIn X.K false):=zdf
theorem zd4:CallR (X.blk sc cl N' s H fp) (.builtin "len") (fun xs H Q=>∃p ys,xs=[.ref p]∧(SqL X.K H p ys∨SqT X.K H p ys)∧Q (.int ys.length) H):=zav
end
section
variable {X:Cx}
def zkj:R2:=fun x y H Q=>∃p q xs,x=.ref p∧y=.ref q∧H p=some (.lst xs)∧H q=some (.lst [])∧Q (.bl (!xs.isEmpty)) H
theorem zdl (hu:X.A.units<cLine):OpR X (compareOp .NotEq) zkj:=by
 intro pins s σ H x y v u Q I rx ry h
 obtain ⟨p,q,xs,rfl,rfl,hp,hq,k⟩:=h
 cases rx
 cases ry
 obtain ⟨its,rv,pl,hz⟩:=I.list (SqL.of hp)
 obtain ⟨its2,rv2,pl2,hz2⟩:=I.list (SqL.of hq)
 cases rv2
 show wpAny _ _ (richCompare .NotEq _ _) _ _ _
 cases rv with
 |nil=>exact SeqAt.RcNeAt.lists (e:=fun _=>true) pl.isList pl2.isList rfl hu (fun j h1 _=>absurd h1 (by simp)) _ _ _ _ ⟨.bl _,H,I,rfl,k⟩
 |cons r t=>exact SeqAt.RcNeAt.lists_lengths pl.isList pl2.isList (by simp) hu _ _ _ _ ⟨.bl _,H,I,rfl,k⟩
theorem PI.or {tg l:Expr}{wi wi':TI}(h:PI X tg l wi) (h':PI X tg l wi'):PI X tg l (fun σ H R=>wi σ H R∨wi' σ H R):=by
 intro pins s σ H R I q
 rcases q with q|q
 ·exact h pins s σ H R I q
 ·exact h' pins s σ H R I q
end
section
variable {X:Cx}{pins:List (Addr×Obj)}{σ:St}{H:Hp}{s:Shared}{h':Heap}{m:Str→Option Value}
end
def strOf:Value→Str
 |.str x _=>x
 |_=>⟨#[]⟩
theorem zcN:∀ {xs:List Str}{us:List Value},Vals (xs.map V.str) us→us.map strOf=xs∧∀u∈us,∃t,u=.str (strOf u) t
 |[],_,.nil=>⟨rfl,fun u hu=>nomatch hu⟩
 |x::r,_,.cons h t=>by
  obtain ⟨t1,rfl⟩:=h
  obtain ⟨e,q⟩:=zcN t
  refine ⟨by rw[List.map_cons,e];rfl,fun u hu=>?_⟩
  rcases List.mem_cons.mp hu with rfl|hu
  ·exact ⟨t1,rfl⟩
  ·exact q u hu
def cutS (z:Str) (lo hi:Option Int):Str:=⟨((z.cps.toList.drop (HT.sIx z.length 0 lo)).take (HT.sIx z.length z.length hi-HT.sIx z.length 0 lo)).toArray⟩
theorem ziN (v:Int) (n d:Nat):max (0:Int) (min (if v<0 then v+(n:Int) else v) (n:Int))=((HT.sIx n d (some v):Nat):Int):=by
 show _=(((if v<0 then (v+(n:Int)).toNat else min v.toNat n):Nat):Int)
 by_cases hv:v<0
 ·rw[if_pos hv,if_pos hv];omega
 ·rw[if_neg hv,if_neg hv];omega
theorem zfd (lo hi:Option Int) (n:Nat):Builtin.Str.strSliceIndices lo hi 1 n=(List.range (HT.sIx n n hi-HT.sIx n 0 lo)).map fun k=>HT.sIx n 0 lo+k:=by
 have key:∀a b:Nat,sliceRange (a:Int) (b:Int) 1=(List.range (b-a)).map fun k=>a+k:=fun a b=>by
  unfold sliceRange
  have e:((if (1:Int)>0 then (if (a:Int)<b then ((b:Int)-a+1-1) / 1 else 0) else (if (a:Int)>b then ((a:Int)-b-1-1) / (-1) else 0)):Int).toNat=b-a:=by
   rw[if_pos (by decide)]
   by_cases h:(a:Int)<b
   ·rw[if_pos h,Int.ediv_one];omega
   ·rw[if_neg h];omega
  simp only[e]
  refine List.map_congr_left fun k _=>?_
  omega
 have hlo:(match lo with|none=>(if (1:Int)>0 then (0:Int) else (n:Int)-1)|some i=>if (1:Int)>0 then max 0 (min (if i<0 then i+(n:Int) else i) (n:Int)) else max (-1) (min (if i<0 then i+(n:Int) else i) ((n:Int)-1)))=((HT.sIx n 0 lo:Nat):Int):=by
  cases lo with
  |none=>rfl
  |some v=>
   show (if (1:Int)>0 then _ else _)=_
   rw[if_pos (by decide)]
   exact ziN v n 0
 have hhi:(match hi with|none=>(if (1:Int)>0 then (n:Int) else -1)|some i=>if (1:Int)>0 then max 0 (min (if i<0 then i+(n:Int) else i) (n:Int)) else max (-1) (min (if i<0 then i+(n:Int) else i) ((n:Int)-1)))=((HT.sIx n n hi:Nat):Int):=by
  cases hi with
  |none=>rfl
  |some v=>
   show (if (1:Int)>0 then _ else _)=_
   rw[if_pos (by decide)]
   exact ziN v n n
 unfold Builtin.Str.strSliceIndices
 refine Eq.trans ?_ (key _ _)
 rw[←hlo,←hhi]
 cases lo<;>cases hi<;>rfl
theorem zg4 (z:Str) (lo hi:Option Int):Txt.slice z lo hi=cutS z lo hi:=by
 have e:=zfd lo hi z.length
 have h2:=HT.sIx_le z.length z.length (Nat.le_refl _) hi
 have hz:z.cps.toList.length=z.length:=by simp;rfl
 have pick:(Builtin.Str.strSliceIndices lo hi 1 z.length).filterMap (z.cps[·]?)=(z.cps.toList.drop (HT.sIx z.length 0 lo)).take (HT.sIx z.length z.length hi-HT.sIx z.length 0 lo):=by
  rw[e]
  by_cases h:HT.sIx z.length 0 lo≤HT.sIx z.length z.length hi
  ·have h3:=StrLaws.picks z.cps.toList (HT.sIx z.length z.length hi-HT.sIx z.length 0 lo) (HT.sIx z.length 0 lo) (by omega)
   simpa using h3
  ·have:HT.sIx z.length z.length hi-HT.sIx z.length 0 lo=0:=by omega
   rw[this]
   simp
 unfold Txt.slice
 split
 ·rename_i hw
  have hl:(Builtin.Str.strSliceIndices lo hi 1 z.length).length=z.length:=by simpa using hw
  rw[e,List.length_map,List.length_range] at hl
  unfold cutS
  rw[hl]
  obtain ⟨cs⟩:=z
  by_cases h0:cs.size=0
  ·have:cs=#[]:=Array.eq_empty_of_size_eq_zero h0
   subst this
   simp[Str.length]
  ·have a0:HT.sIx (Str.mk cs).length 0 lo=0:=by
    have:(Str.mk cs).length=cs.size:=rfl
    omega
   rw[a0]
   have:(Str.mk cs).length=cs.toList.length:=by simp;rfl
   rw[this,List.drop_zero]
   show Str.mk cs=⟨(cs.toList.take cs.toList.length).toArray⟩
   rw[List.take_length]
 ·unfold cutS
  rw[pick]
def rSlS:V→Option Int→Option Int→Hp→VK→Prop:=fun x lo hi H Q=>∃z,x=.str z∧z.length≤sizeLine∧Q (.str (cutS z lo hi)) H
theorem zbL {X:Cx}:SlR X rSlS:=by
 intro pins s σ H x v vl vu lo hi sl Q I rx hs pl pu h
 obtain ⟨z,rfl,hz,q⟩:=h
 obtain ⟨t,rfl⟩:=rx
 rw[←zg4] at q
 refine ⟨"str",_,F.slot_str_getitem.lookup,typeIs_str _ _ _,?_⟩
 have fin:∀(l u:Option (Int×Tok)),l.map (·.1)=lo→u.map (·.1)=hi→vl=partValue l→vu=partValue u→wpAny (model X.prog X.w) X.A (getItem (.str z t) (.ref sl)) (EP X pins σ Q) X.xe s:=fun l u e1 e2 e3 e4=>by
  subst e1 e2 e3 e4
  obtain ⟨o,ho,hc,hd⟩:=hs
  refine wpAny_with_toks (n:=X.t0) I.tk ?_
  refine wpAny_getItem_str_slice (l:=l) (u:=u) (st:=none) ⟨o,ho,hc,hd⟩ rfl ?_
  exact post_val_or_str ⟨Nat.le_trans (Txt.slice_le z _ _) hz,fun t' k ht=>⟨.str _,H,I.tok _ ht,⟨_,rfl⟩,q⟩⟩
 cases pl with
 |none=>
  cases pu with
  |none=>exact fin none none rfl rfl rfl rfl
  |int j u=>exact fin none (some (j,u)) rfl rfl rfl rfl
 |int i t1=>
  cases pu with
  |none=>exact fin (some (i,t1)) none rfl rfl rfl rfl
  |int j u=>exact fin (some (i,t1)) (some (j,u)) rfl rfl rfl rfl
end L2
namespace T1
open PySem L2 PyProof.Rows
mutual
inductive Dep:Nat→D→Prop where
 |non (k:Nat):Dep k .non
 |bl (k:Nat) (b:Bool):Dep k (.bl b)
 |int (k:Nat) (i:Int):Dep k (.int i)
 |str (k:Nat) (x:Str):Dep k (.str x)
 |tup {k:Nat} {ds:List D} (t:Deps k ds):Dep (k+1) (.tup ds)
 |lst {k:Nat} {ds:List D} (t:Deps k ds):Dep (k+1) (.lst ds)
inductive Deps:Nat→List D→Prop where
 |nil (k:Nat):Deps k []
 |cons {k:Nat} {d:D} {ds:List D} (h:Dep k d) (t:Deps k ds):Deps k (d::ds)
end
theorem Deps.get {k:Nat}:∀ {ds:List D}{i:Nat},Deps k ds→i<ds.length→Dep k (ds.getD i .non)
 |_,0,.cons h _,_=>h
 |_,i+1,.cons _ t,hi=>by
  have:=Deps.get (i:=i) t (by simpa using hi)
  simpa using this
theorem zcO {xs:List V}{us:List Value}(r:Vals xs us){j:Nat}(h:j<us.toArray.size):RelV (xs.getD j .non) us.toArray[j]:=by
 have hl:=r.length
 have h':j<xs.length:=by rw[hl];simpa using h
 obtain ⟨u,hu,ru⟩:=r.get (i:=j) (x:=xs.getD j .non) (by simp[h'])
 have:us.toArray[j]=u:=by
  have h2:j<us.length:=by simpa using h
  have e:us[j]?=some us[j]:=List.getElem?_eq_getElem h2
  rw[e] at hu
  simpa using Option.some.inj hu
 rw[this]
 exact ru
section
variable {X:Cx}{pins:List (Addr×Obj)}{σ:L2.St}{H:Hp}{s:Shared}{z z':Addr}
theorem zjc (I:Inv X pins σ H s):∀(k:Nat){d:D},Dep k d→∀ {A:Around}{x y:V}{u v:Value},Room k A→Rep z H x d→Rep z' H y d→RelV x u→RelV y v→SeqAt.EqAt A s u v true:=by
 intro k
 induction k with
 |zero=>
  intro d hd A x y u v hr rx ry ru rv
  cases hd with
  |non=>cases rx;cases ry;cases ru;cases rv;exact SeqAt.EqAt.same _
  |bl _ b=>cases rx;cases ry;cases ru;cases rv;exact SeqAt.EqAt.same _
  |int _ i=>cases rx;cases ry;obtain ⟨t,rfl⟩:=ru;obtain ⟨t',rfl⟩:=rv;have:=SeqAt.EqAt.int_int (A:=A) (s:=s) i t i t';simpa using this
  |str _ x=>cases rx;cases ry;obtain ⟨t,rfl⟩:=ru;obtain ⟨t',rfl⟩:=rv;have:=SeqAt.EqAt.str_str (A:=A) (s:=s) x t x t';simpa using this
 |succ k ih=>
  intro d hd A x y u v hr rx ry ru rv
  cases hd with
  |non=>cases rx;cases ry;cases ru;cases rv;exact SeqAt.EqAt.same _
  |bl _ b=>cases rx;cases ry;cases ru;cases rv;exact SeqAt.EqAt.same _
  |int _ i=>cases rx;cases ry;obtain ⟨t,rfl⟩:=ru;obtain ⟨t',rfl⟩:=rv;have:=SeqAt.EqAt.int_int (A:=A) (s:=s) i t i t';simpa using this
  |str _ x=>cases rx;cases ry;obtain ⟨t,rfl⟩:=ru;obtain ⟨t',rfl⟩:=rv;have:=SeqAt.EqAt.str_str (A:=A) (s:=s) x t x t';simpa using this
  |@tup _ ds t=>
   cases rx with
   |@tup a xs _ ha _ r1=>
    cases ry with
    |@tup b ys _ hb _ r2=>
     cases ru
     cases rv
     by_cases hab:a=b
     ·subst hab;exact SeqAt.EqAt.same _
     ·obtain ⟨its,q1,p1,_⟩:=I.tuple (SqT.of ha)
      obtain ⟨its2,q2,p2,_⟩:=I.tuple (SqT.of hb)
      have l1:=q1.length
      have l2:=q2.length
      have e1:=r1.length
      have e2:=r2.length
      have key:=SeqAt.RcAt.tuples (e:=fun _=>true) p1 p2 hr.units0 fun j h1 h2=>ih (t.get (i:=j) (by rw[←e1,l1];simpa using h1)) hr.in1 (r1.get (i:=j) (by rw[←e1,l1];simpa using h1)) (r2.get (i:=j) (by rw[←e2,l2];simpa using h2)) (zcO q1 h1) (zcO q2 h2)
      have e:((List.range (min its.toArray.size its2.toArray.size)).all (fun _=>true)&&its.toArray.size==its2.toArray.size)=true:=by
       have:its.toArray.size=its2.toArray.size:=by simp;omega
       rw[this]
       simp
      rw[e] at key
      exact SeqAt.EqAt.of_refs hab key
  |@lst _ ds t=>
   cases rx with
   |@lst a xs _ ha _ r1=>
    cases ry with
    |@lst b ys _ hb _ r2=>
     cases ru
     cases rv
     by_cases hab:a=b
     ·subst hab;exact SeqAt.EqAt.same _
     ·obtain ⟨its,q1,p1,_⟩:=I.list (SqL.of ha)
      obtain ⟨its2,q2,p2,_⟩:=I.list (SqL.of hb)
      have l1:=q1.length
      have l2:=q2.length
      have e1:=r1.length
      have e2:=r2.length
      have hsz:its.toArray.size=its2.toArray.size:=by simp;omega
      have key:=SeqAt.RcAt.lists (e:=fun _=>true) p1.isList p2.isList hsz hr.units0 fun j h1 h2=>ih (t.get (i:=j) (by rw[←e1,l1];simpa using h1)) hr.in1 (r1.get (i:=j) (by rw[←e1,l1];simpa using h1)) (r2.get (i:=j) (by rw[←e2,l2];simpa using h2)) (zcO q1 h1) (zcO q2 h2)
      have e:(List.range its.toArray.size).all (fun _=>true)=true:=by simp
      rw[e] at key
      exact SeqAt.EqAt.of_refs hab key
def rSame (b:Bool):R2:=fun x y H Q=>∃z z' ds,Rep z H x (.lst ds)∧Rep z' H y (.lst ds)∧Deps 4 ds∧Q (.bl b) H
theorem zcP (hr:Room 5 X.A):OpR X (compareOp .NotEq) (rSame false):=by
 intro pins s σ H x y v u Q I rx ry h
 obtain ⟨z,z',ds,r1,r2,dp,q⟩:=h
 cases r1 with
 |@lst a xs _ ha _ r1=>
  cases r2 with
  |@lst b ys _ hb _ r2=>
   cases rx
   cases ry
   obtain ⟨its,q1,p1,_⟩:=I.list (SqL.of ha)
   obtain ⟨its2,q2,p2,_⟩:=I.list (SqL.of hb)
   have l1:=q1.length
   have l2:=q2.length
   have e1:=r1.length
   have e2:=r2.length
   have hsz:its.toArray.size=its2.toArray.size:=by simp;omega
   show wpAny _ _ (richCompare .NotEq _ _) _ _ _
   refine SeqAt.RcNeAt.lists (e:=fun _=>true) p1.isList p2.isList hsz hr.units0 (fun j h1 h2=>zjc I 4 (dp.get (i:=j) (by rw[←e1,l1];simpa using h1)) hr.in1 (r1.get (i:=j) (by rw[←e1,l1];simpa using h1)) (r2.get (i:=j) (by rw[←e2,l2];simpa using h2)) (zcO q1 h1) (zcO q2 h2)) _ _ _ _ ?_
   have e:(!(List.range its.toArray.size).all (fun _=>true))=false:=by simp
   rw[e]
   exact ⟨.bl _,H,I,rfl,q⟩
end
end T1
namespace L2
open PySem PySem.Spec PyProof.Rows
def tokOf:Value→Tok
 |.str _ t=>t
 |_=>0
theorem zbX:∀ {us:List Value},(∀u∈us,∃t,u=.str (strOf u) t)→us=strValues (us.map fun u=>(strOf u,tokOf u))
 |[],_=>rfl
 |u::r,h=>by
  obtain ⟨t,e⟩:=h u List.mem_cons_self
  have ih:=zbX fun v hv=>h v (List.mem_cons_of_mem _ hv)
  rw[List.map_cons]
  show u::r=.str (strOf u) (tokOf u)::strValues (r.map fun u=>(strOf u,tokOf u))
  rw[←ih]
  congr 1
  rw[e]
  rfl
theorem zaj {t u:TS}{D:Ends}{σ:St}{H:Hp}(h:∀U:St→Hp→Prop,(∀σ H,u D σ H→U σ H)→t { D with nx:=U } σ H):tSeq t u D σ H:=h (u D) fun _ _ q=>q
theorem zbs {t:TS}{D:Ends}{σ:St}{H:Hp}(h:∀D':Ends,(∀σ H,D.nx σ H→D'.nx σ H)→(∀v H,D.rt v H→D'.rt v H)→(∀σ H,D.bk σ H→D'.bk σ H)→(∀σ H,D.ct σ H→D'.ct σ H)→t D' σ H):t D σ H:=h D (fun _ _ q=>q) (fun _ _ q=>q) (fun _ _ q=>q) fun _ _ q=>q
end L2
namespace L2
open PySem PySem.Spec PySem.Calls PyProof.Rows
section
variable {prog:Program}{w:World}{A:Around}{E:Value→Shared→Prop}{s:Shared}
end
end L2
namespace L2
open PySem PySem.Spec PySem.Calls PyProof.Rows
section
variable {X:Cx}{pins:List (Addr×Obj)}{σ:St}{H:Hp}{s:Shared}{E:Value→Shared→Prop}
end
end L2
namespace L2
open PySem PySem.Spec PySem.Calls PyProof.Rows
section
variable {X:Cx}{pins:List (Addr×Obj)}{σ:St}{H:Hp}{s:Shared}{E:Value→Shared→Prop}
end
section
variable {prog:Program}{w:World}{A:Around}{E:Value→Shared→Prop}{s:Shared}
end
end L2
namespace T1
open PySem PySem.Spec PyProof.Rows L2
end T1
namespace L2
open PySem PySem.Spec PyProof.Rows
end L2
namespace T1
open PySem PySem.Spec PyProof.Rows L2
end T1
namespace L2
open PySem PySem.Spec PyProof.Rows
end L2
namespace T1
open PySem L2 PyProof.Rows
section
variable {X:Cx}{pins:List (Addr×Obj)}{σ:L2.St}{H:Hp}{s:Shared}{z z':Addr}
end
end T1
namespace L2
open PySem PySem.Spec PyProof.Rows
section
variable {κ:Type} [DecidableEq κ]
def valV (kvs:List (κ×V)) (k:κ):Option V:=(kvs.find? fun kv=>decide (kv.1=k)).map (·.2)
def putK (kvs:List (κ×V)) (k:κ) (v:V):List (κ×V):=
 if (kvs.any fun kv=>decide (kv.1=k))=true then kvs.map (fun kv=>if kv.1=k then (kv.1,v) else kv) else kvs++[(k,v)]
theorem zfP {p:κ×V}{r:List (κ×V)}{k:κ}(e:p.1=k):valV (p::r) k=some p.2:=by simp[valV,List.find?_cons,e]
theorem zfQ {p:κ×V}{r:List (κ×V)}{k:κ}(e:¬p.1=k):valV (p::r) k=valV r k:=by simp[valV,List.find?_cons,e]
theorem zfe (kvs:List (κ×V)) (k:κ) (v:V):(putK kvs k v).length≤kvs.length+1:=by
 unfold putK
 split
 ·rw[List.length_map];omega
 ·rw[List.length_append,List.length_cons,List.length_nil];omega
theorem RelO.getD {o:Option V}{u:Option Value}{d:V}{d':Value}(r:RelO o u) (rd:RelV d d'):RelV (o.getD d) (u.getD d'):=by
 cases o with
 |none=>cases u with
  |none=>exact rd
  |some _=>exact (show False from r).elim
 |some _=>cases u with
  |none=>exact (show False from r).elim
  |some _=>exact r
theorem KV.val {kvs:List (κ×V)}{vs:List (κ×Value)}(r:KV kvs vs) (k:κ):RelO (valV kvs k) (valueAt vs k):=by
 unfold KV at r
 induction r with
 |nil=>exact True.intro
 |@cons p q ps qs h t ih=>
  obtain ⟨h1,h2⟩:=h
  by_cases e:p.1=k
  ·have e':q.1=k:=h1.symm.trans e
   have b:valueAt (q::qs) k=some q.2:=by simp[valueAt,List.find?_cons,e']
   rw[zfP e,b];exact h2
  ·have e':¬q.1=k:=fun z=>e (h1.trans z)
   have b:valueAt (q::qs) k=valueAt qs k:=by simp[valueAt,List.find?_cons,e']
   rw[zfQ e,b];exact ih
theorem KV.any {kvs:List (κ×V)}{vs:List (κ×Value)}(r:KV kvs vs) (k:κ):(kvs.any fun kv=>decide (kv.1=k))=vs.any fun kv=>decide (kv.1=k):=by
 unfold KV at r
 induction r with
 |nil=>rfl
 |cons h t ih=>rw[List.any_cons,List.any_cons,ih,h.1]
theorem KV.repl {kvs:List (κ×V)}{vs:List (κ×Value)}(r:KV kvs vs) (k:κ){y:V}{u:Value}(ry:RelV y u) :
  KV (kvs.map fun kv=>if kv.1=k then (kv.1,y) else kv) (vs.map fun kv=>if kv.1=k then (kv.1,u) else kv):=by
 unfold KV at r ⊢
 induction r with
 |nil=>exact .nil
 |@cons p q ps qs h t ih=>
  rw[List.map_cons,List.map_cons]
  refine .cons ?_ ih
  obtain ⟨h1,h2⟩:=h
  by_cases e:p.1=k
  ·rw[if_pos e,if_pos (h1.symm.trans e)];exact ⟨h1,ry⟩
  ·rw[if_neg e,if_neg (fun z=>e (h1.trans z))];exact ⟨h1,h2⟩
theorem KV.put {kvs:List (κ×V)}{vs:List (κ×Value)}(r:KV kvs vs) (k:κ){y:V}{u:Value}(ry:RelV y u):KV (putK kvs k y) (stored vs k u):=by
 unfold putK stored
 rw[r.any k]
 by_cases e:(vs.any fun kv=>decide (kv.1=k))=true
 ·rw[if_pos e,if_pos e];exact r.repl k ry
 ·rw[if_neg e,if_neg e];exact Paired.snoc r ⟨rfl,ry⟩
end
theorem zh6 {P:Program}{w:World}{k:Key}{u:Value}(r:RelV (kV k) u):(zaX P w).is k u=true:=by
 cases k with
 |inl i=>obtain ⟨t,e⟩:=(show ∃t,u=Value.int i t from r);subst e;exact ze0 P w i t
 |inr x=>obtain ⟨t,e⟩:=(show ∃t,u=Value.str x t from r);subst e;exact ze1 P w x t
theorem zeJ {P:Program}{w:World}:∀ {ks:List Key}{us:List Value},Vals (ks.map kV) us→ItemsAre (zaX P w) ks us
 |[],_,r=>by rw[List.map_nil] at r;cases r;exact .nil
 |k::ks,_,r=>by
  rw[List.map_cons] at r
  cases r with
  |cons h t=>exact .cons (zh6 h) (zeJ t)
abbrev KT (H:Hp):List (List Key×V)→List (List Key×Addr×Value)→Prop:=Paired fun p q=>p.1=q.1∧H q.2.1=some (.tup (p.1.map kV))∧RelV p.2 q.2.2
theorem KT.val {H:Hp}{kvs:List (List Key×V)}{xs:List (List Key×Addr×Value)}(r:KT H kvs xs) (k:List Key):RelO (valV kvs k) ((atKey xs k).map (·.2)):=by
 induction r with
 |nil=>exact True.intro
 |@cons p q ps qs h t ih=>
  obtain ⟨h1,_,h2⟩:=h
  by_cases e:p.1=k
  ·have e':q.1=k:=h1.symm.trans e
   have b:atKey (q::qs) k=some q.2:=by simp[atKey,List.find?_cons,e']
   rw[zfP e,b];exact h2
  ·have e':¬q.1=k:=fun z=>e (h1.trans z)
   have b:atKey (q::qs) k=atKey qs k:=by simp[atKey,List.find?_cons,e']
   rw[zfQ e,b];exact ih
section
variable {P:Program}{w:World}{H:Hp}{h:Heap}{a:Addr}
theorem zkk {u:HO}(ok:HOk P w H h) (e:Rd H a u):ObjOk P w H h a u:=e.ok ok
theorem zg5 {kvs:List (Key×V)}(ok:HOk P w H h) (e:Rd H a (.dK kvs)):kvs.length≤sizeLine∧(a==sysModules)=false∧∃vs,KV kvs vs∧h.DictOf (zaX P w) a vs:=
 show ObjOk P w H h a (.dK kvs) from zkk ok e
theorem zk3 {kvs:List (Key×V)}(ok:HOk P w H h) (e:H a=some (.dK kvs)):kvs.length≤sizeLine∧(a==sysModules)=false∧∃vs,KV kvs vs∧h.DictOf (zaX P w) a vs:=zg5 ok (.inl e)
theorem zg6 {ks:List Key}(ok:HOk P w H h) (e:H a=some (.tup (ks.map kV))):(tupleKind (zaX P w)).is h ks a:=by
 obtain ⟨_,its,r,o,h1,h2,n,h3⟩:=(show ObjOk P w H h a (.tup (ks.map kV)) from ok a _ e)
 exact ⟨o,its.toArray,n,h1,h2,h3,by simpa using zeJ r⟩
theorem zh7 {kvs:List (List Key×V)}(ok:HOk P w H h) (e:Rd H a (.dT kvs)):kvs.length≤sizeLine∧(a==sysModules)=false ∧
  ∃xs,KT H kvs xs∧h.DictOfH (tupleKind (zaX P w)) a xs:=by
 obtain ⟨z,y,xs,r,o,es,ep,h1,h2,h3,h4,h5⟩:=(show ObjOk P w H h a (.dT kvs) from zkk ok e)
 refine ⟨z,y,xs,r,o,es,ep,h1,h2,h3,h4,fun x hx=>?_,h5⟩
 have all:∀ {l:List (List Key×V)} {m:List (List Key×Addr×Value)},KT H l m→∀x∈m,(tupleKind (zaX P w)).is h x.1 x.2.1:=by
  intro l m q
  induction q with
  |nil=>intro x hx;exact nomatch hx
  |@cons p q ps qs hq t ih=>
   intro x hx
   rcases List.mem_cons.mp hx with e|hx
   ·subst e
    exact zg6 ok (by rw[←hq.1];exact hq.2.1)
   ·exact ih x hx
 exact all r x hx
end
def DGet (H:Hp) (a:Addr) (y:V) (r:Option V):Prop:=
 (∃kvs k,Rd H a (.dK kvs)∧y=kV k∧r=valV kvs k)∨∃kvs k b,Rd H a (.dT kvs)∧y=.ref b∧H b=some (.tup (k.map kV))∧r=valV kvs k
section
variable {X:Cx}{pins:List (Addr×Obj)}{σ:St}{H:Hp}{s:Shared}{a:Addr}{y v:V}{u r:Value}{o:Option V}{A:Around}{E:Value→Shared→Prop}
theorem Inv.big (I:Inv X pins σ H s):sysModules<s.heap.objs.size:=by
 have h:mainGlobals<s.heap.objs.size:=(I.mod.glob.keeps I.bk).lt
 exact Nat.lt_trans (by decide) h
theorem zg7 {Q:Value→Shared→Prop}(hu:A.units+1<cLine) (I:Inv X pins σ H s) (g:DGet H a y (some v)) (ry:RelV y u) (h:∀w' s',Inv X pins σ H s'→RelV v w'→Q w' s') :
  wpAny (model X.prog X.w) A (getItem (.ref a) u) Q E s:=by
 rcases g with ⟨kvs,k,e,ey,l⟩|⟨kvs,k,b,e,ey,eb,l⟩
 ·subst ey
  obtain ⟨z,hd,vs,rel,dd⟩:=zg5 I.hok e
  obtain ⟨w',hw,rw'⟩:=RelO.some_of (v:=v) (o:=valueAt vs k) (by rw[l];exact rel.val k)
  exact wpAny_getItem_of (zh6 ry) dd.mapOf hw (h w' _ (I.tok _) rw')
 ·subst ey
  cases (show u=Value.ref b from ry)
  obtain ⟨z,hd,xs,rel,dd⟩:=zh7 I.hok e
  obtain ⟨w',hw,rw'⟩:=RelO.some_of (v:=v) (o:=(atKey xs k).map (·.2)) (by rw[l];exact rel.val k)
  obtain ⟨p,hp,hp2⟩:=Option.map_eq_some_iff.mp hw
  refine wpAny_getItem_heap (tupleKind_room_in1 hu) (zg6 I.hok eb) dd hp ?_
  rw[hp2]
  exact h w' _ (I.tok _) rw'
theorem zjd {h':Heap}{t':Nat}{ob:HO}(I:Inv X pins σ H s) (mu:Mut (H a)) (hs:Heap.SameBut a s.heap h') (he:∃q,h'.get? a=some q) (new:ObjOk X.prog X.w (upd H a ob) h' a ob) (ht:X.t0≤t':=by first|assumption|exact Inv.tk (by assumption)|(have q:=Inv.tk (by assumption);omega)) :
  Inv X pins σ (upd H a ob) { s with heap:=h',toks:=t' }:=
 I.write (x:=a) (e:=a) mu (.inl rfl) (fun b q hb z=>(hs.2 b hb).trans z) he new
theorem zkl {P:Program}{w:World}{H':Hp}{h':Heap}{kvs:List (Key×V)}{vs:List (Key×Value)}(z:kvs.length≤sizeLine) (hd:(a==sysModules)=false) (rel:KV kvs vs) (dd:h'.DictOf (zaX P w) a vs) :
  ObjOk P w H' h' a (.dK kvs):=⟨z,hd,vs,rel,dd⟩
end
section
variable {X:Cx}{pins:List (Addr×Obj)}{σ:St}{H:Hp}{s:Shared}{a:Addr}{kvs:List (Key×V)}{k:Key}{u:Value}{A:Around}{E:Value→Shared→Prop}
end
def NoSl (i:Expr):Prop:=∀ov iv,subscripted i false ov iv=operate [ov,iv] (getItem ov iv)
theorem zje {prog:Program}{w:World}{A:Around}{E:Value→Shared→Prop}{s:Shared}{env:Env}{value slice:Expr}{pos:Pos}{T id:String}{Q:Value→Shared→Prop}
  (hl:typeLookup (.type T) "__getitem__"=pure (some (.builtin id))) (hs:NoSl slice)
  (h:wpAny (model prog w) A (eval value env) (fun o s₁=>wpAny (model prog w) A (eval slice env) (fun i s₂=>s₂.TypeIs o T∧wpAny (model prog w) A (getItem o i) Q E s₂) E s₁) E s) :
  wpAny (model prog w) A (eval (.Subscript value slice pos) env) Q E s:=by
 refine Subscript_ (wpAny_mono h (fun o s₁ h₁=>wpAny_mono h₁ (fun i s₂ h₂=>?_) fun _ _ x=>x) fun _ _ x=>x)
 obtain ⟨hT,h₂⟩:=h₂
 unfold subscriptTail
 refine wpAny_bind ?_
 rw[getitemInPython_of_ne hT.not_modules]
 refine wpAny_bind (wpAny_specialOf hT hl ?_)
 have fin:wpAny (model prog w) A (subscripted slice false o i) (fun r s₃=>wpAny (model prog w) A (letTemporaryGo value o r >>= fun _=>pure r) Q E s₃) E s₂:=by
  rw[hs o i]
  exact wpAny_operating (wpAny_mono h₂ (fun r s₃ h₃=>wpAny_bind (wpAny_letTemporaryGo (wpAny_pure h₃))) fun _ _ x=>x)
 first
  |exact wpAny_pure (wpAny_bind fin)
  |exact wpAny_bind (wpAny_pure (wpAny_bind fin))
  |exact wpAny_bind fin
theorem zff {X:Cx}{pins:List (Addr×Obj)}{σ:St}{H:Hp}{s:Shared}{a:Addr}{y:V}{o:Option V}(I:Inv X pins σ H s) (g:DGet H a y o):s.TypeIs (.ref a) "dict":=by
 rcases g with ⟨kvs,k,e,_,_⟩|⟨kvs,k,b,e,_,_,_⟩
 ·obtain ⟨_,_,vs,_,dd⟩:=zg5 I.hok e
  exact dd.typeIs
 ·obtain ⟨_,_,xs,_,dd⟩:=zh7 I.hok e
  exact dd.typeIs
def tDGet (td ty:TE):TE:=fun σ H Q=>td σ H fun x H1=>ty σ H1 fun y H2=>∃a v,x=.ref a∧DGet H2 a y (some v)∧Q v H2
section
variable {X:Cx}{o i e value:Expr}{pos pos' tpos:Pos}{td ty tv:TE}
theorem zjf (hu:X.A.units+1<cLine) (ho:PE X o td) (hi:PE X i ty) (hs:NoSl i):PE X (.Subscript o i pos) (tDGet td ty):=by
 intro pins s σ H Q I h
 refine zje PySem.F.slot_dict_getitem.lookup hs (thn (ho pins s σ H _ I h) fun u s1 ⟨x,H1,I1,rx,q1⟩=>thn (hi pins s1 σ H1 _ I1 q1) fun iv s2 ⟨y,H2,I2,ry,a,v,ex,g,q2⟩=>?_)
 subst ex
 obtain rfl:u=Value.ref a:=rx
 exact ⟨zff I2 g,zg7 hu I2 g ry fun w' s3 I3 rw'=>⟨v,H2,I3,rw',q2⟩⟩
end
theorem zh8 {P:Program}{w:World}{H:Hp}(h:Heap) (hb:sysModules<h.objs.size):ObjOk P w H (h.push { cls:=.type "dict",data:=.dict #[] }) h.objs.size (.dK []):=
 ⟨Nat.zero_le _,beq_eq_false_iff_ne.mpr (Ne.symm (Nat.ne_of_lt hb)),[],.nil,Heap.DictOf.new h⟩
section
variable {X:Cx}{pos:Pos}
end
def zg8:List (TE×TE)→St→Hp→(List (V×V)→Hp→Prop)→Prop
 |[],_,H,Q=>Q [] H
 |(tk,tv)::r,σ,H,Q=>tk σ H fun x H1=>tv σ H1 fun y H2=>zg8 r σ H2 fun ps H3=>Q ((x,y)::ps) H3
abbrev VV:List (V×V)→List (Value×Value)→Prop:=Paired fun p q=>RelV p.1 q.1∧RelV p.2 q.2
def PPs (X:Cx) (pos:Pos) (keys:List (Option Expr)) (values:List Expr) (trs:List (TE×TE)):Prop:=
 ∀(pins:List (Addr×Obj)) (s:Shared) (σ:St) (H:Hp) (Q:List (V×V)→Hp→Prop),Inv X pins σ H s→zg8 trs σ H Q →
  wpAny (model X.prog X.w) X.A (evalPairs (pairTrees keys values X.env pos)) (fun vs s'=>∃ps H',Inv X pins σ H' s'∧VV ps vs∧Q ps H') X.xe s
theorem zg9 {X:Cx}{pos:Pos}:PPs X pos [] [] []:=fun pins s σ H Q I h=>pairTrees_nil_walk ⟨[],H,I,.nil,h⟩
theorem zb4 {X:Cx}{pos:Pos}{k v:Expr}{ks:List (Option Expr)}{vs:List Expr}{tk tv:TE}{trs:List (TE×TE)}(hk:PE X k tk) (hv:PE X v tv) (hr:PPs X pos ks vs trs) :
  PPs X pos (some k::ks) (v::vs) ((tk,tv)::trs):=fun pins s σ H Q I h=>
 pairTrees_cons_walk (thn (hk pins s σ H _ I h) fun u s1 ⟨x,H1,I1,rx,q1⟩=>thn (hv pins s1 σ H1 _ I1 q1) fun w2 s2 ⟨y,H2,I2,ry,q2⟩=>
  thn (hr pins s2 σ H2 _ I2 q2) fun ws s3 ⟨ps,H3,I3,rel,q3⟩=>⟨(x,y)::ps,H3,I3,.cons ⟨rx,ry⟩ rel,q3⟩)
def zcx (kvs more:List (Key×V)):List (Key×V):=more.foldl (fun acc kv=>putK acc kv.1 kv.2) kvs
theorem KV.merge:∀ {more:List (Key×V)}{rs:List (Key×Value)}{kvs:List (Key×V)}{vs:List (Key×Value)},KV more rs→KV kvs vs→KV (zcx kvs more) (merged vs rs):=by
 intro more rs kvs vs r
 unfold KV at r
 induction r generalizing kvs vs with
 |nil=>intro q;exact q
 |@cons p q ps qs h t ih=>
  intro r0
  have e:KV (putK kvs p.1 p.2) (stored vs q.1 q.2):=by
   have:=r0.put p.1 h.2
   rw[←h.1];exact this
  exact ih e
theorem zcy:∀(more kvs:List (Key×V)),(zcx kvs more).length≤kvs.length+more.length
 |[],kvs=>by show kvs.length≤kvs.length+0;omega
 |p::r,kvs=>by
  have h1:=zcy r (putK kvs p.1 p.2)
  have h2:=zfe kvs p.1 p.2
  show (zcx (putK kvs p.1 p.2) r).length≤_
  rw[List.length_cons];omega
theorem zdB {P:Program}{w:World}:∀ {kvs:List (Key×V)}{ws:List (Value×Value)},VV (kvs.map fun kv=>(kV kv.1,kv.2)) ws→∃rs,Carries (zaX P w) ws rs∧KV kvs rs
 |[],_,r=>by rw[List.map_nil] at r;cases r;exact ⟨[],True.intro,.nil⟩
 |p::kvs,_,r=>by
  rw[List.map_cons] at r
  cases r with
  |@cons a b as bs h t=>
   obtain ⟨rs,c,q⟩:=zdB (P:=P) (w:=w) t
   obtain ⟨b1,b2⟩:=b
   exact ⟨(p.1,b2)::rs,⟨zh6 h.1,rfl,c⟩,.cons ⟨rfl,h.2⟩ q⟩
def tDisp (trs:List (TE×TE)):TE:=fun σ H Q=>∀p,H p=none→zg8 trs σ (upd H p (.dK [])) fun ps H2=>H2 p=some (.dK [])∧∃kvs:List (Key×V),ps=kvs.map (fun kv=>(kV kv.1,kv.2))∧kvs.length≤15∧Q (.ref p) (upd H2 p (.dK (zcx [] kvs)))
theorem zha {X:Cx}{pos:Pos}{keys:List (Option Expr)}{values:List Expr}{trs:List (TE×TE)}(h:PPs X pos keys values trs) (hall:keys.all (·.isSome)=true) (hl:keys.length=values.length) (h0:keys≠[])
  (h15:keys.length≤15):PE X (.Dict keys values pos) (tDisp trs):=by
 intro pins s σ H Q I q
 have hn:=I.hok.fresh (Nat.le_refl s.heap.objs.size)
 have I1:=I.laid (a:=s.heap.objs.size) (o:=.dK []) (h':=s.heap.push { cls:=.type "dict",data:=.dict #[] }) (t':=s.toks) (fun _ _ q=>Heap.get?_push_of_some _ q) (Nat.le_refl _) (zh8 s.heap I.big)
 refine wpAny_Dict_walk (knd:=zaX X.prog X.w) hall hl h0 h15 (thn (h pins _ σ _ _ I1 (q _ hn)) fun ws s2 ⟨ps,H2,I2,rel,e,kvs,ep,lk,q2⟩=>?_)
 subst ep
 obtain ⟨rs,c,rk⟩:=zdB (P:=X.prog) (w:=X.w) rel
 obtain ⟨z,hd,vs0,r0,dd⟩:=zk3 I2.hok e
 cases r0
 refine ⟨rs,c,dd,fun h' dd' hs=>⟨.ref s.heap.objs.size,_,?_,rfl,q2⟩⟩
 have hz:(zcx [] kvs).length≤sizeLine:=by
  have h1:=zcy kvs []
  rw[List.length_nil] at h1
  rw[sizeLine_eq];omega
 have he:∃q,h'.get? s.heap.objs.size=some q:=let ⟨q,_,_,hq,_⟩:=dd';⟨q,hq⟩
 exact zjd I2 (by rw[e];exact True.intro) hs he (zkl hz hd (rk.merge .nil) dd')
structure M2 (X:Cx) (o:Expr) (m:Str) (apos:Pos) (e f:Expr) (cpos:Pos):Prop where
 base:attributeBase o m X.env (eval o X.env)=eval o X.env
 few:((backTo cpos (starEach [e,f] X.env)).all (fun x=>!x.1)&&(backToKw cpos (keywordEach [] X.env)).all (fun x=>x.1.isSome)
  && decide (([e,f]:List Expr).length+([]:List Keyword).length+(if ([]:List Keyword).isEmpty then 0 else 1)<30))=true
 line:(apos.endLine==cpos.line)=true
 trees:backTo cpos (starEach [e,f] X.env)=[(false,eval e X.env),(false,eval f X.env)]
def IsD (H:Hp) (a:Addr):Prop:=(∃kvs,Rd H a (.dK kvs))∨∃kvs,Rd H a (.dT kvs)
theorem zkm {X:Cx}{pins:List (Addr×Obj)}{σ:St}{H:Hp}{s:Shared}{a:Addr}(I:Inv X pins σ H s) (d:IsD H a) :
  s.TypeIs (.ref a) "dict"∧(∀b,Value.ref a=.ref b→∃ob,s.heap.get? b=some ob∧ob.dict=none)∧(a==sysModules)=false:=by
 rcases d with ⟨kvs,e⟩|⟨kvs,e⟩
 ·obtain ⟨_,hd,vs,_,dd⟩:=zg5 I.hok e
  refine ⟨dd.typeIs,fun b q=>?_,hd⟩
  cases q
  obtain ⟨ob,_,_,h1,h2,_⟩:=dd
  exact ⟨ob,h1,h2.2.1⟩
 ·obtain ⟨_,hd,xs,_,dd⟩:=zh7 I.hok e
  refine ⟨dd.typeIs,fun b q=>?_,hd⟩
  cases q
  obtain ⟨ob,_,_,h1,h2,_⟩:=dd
  exact ⟨ob,h1,h2.2.1⟩
section
variable {X:Cx}{pins:List (Addr×Obj)}{σ:St}{H:Hp}{s:Shared}{a:Addr}{y d:V}{u r:Value}{o:Option V}{A:Around}{E:Value→Shared→Prop}
theorem zkn {Q:Value→Shared→Prop}(hu:A.units+1<cLine) (I:Inv X pins σ H s) (g:DGet H a y o) (ry:RelV y u) (rd:RelV d r) (h:∀w' s',Inv X pins σ H s'→RelV (o.getD d) w'→Q w' s') :
  wpAny (model X.prog X.w) A (call (.builtin "dict.get") [.ref a,u,r]) Q E s:=by
 rcases g with ⟨kvs,k,e,ey,l⟩|⟨kvs,k,b,e,ey,eb,l⟩
 ·subst ey
  obtain ⟨z,hd,vs,rel,dd⟩:=zg5 I.hok e
  refine call_meetsIn PySem.F.slot_dict_get dd.typeIs PySem.F.entry_dict_get (PySem.F.args_dict_get_3 _ _ _) (meets_dict_get_default (zaX X.prog X.w) a (zh6 ry) hd r) ⟨_,dd.mapOf,h _ _ (I.tok _) ?_⟩
  rw[l]
  exact (rel.val k).getD rd
 ·subst ey
  cases (show u=Value.ref b from ry)
  obtain ⟨z,hd,xs,rel,dd⟩:=zh7 I.hok e
  refine call_meetsIn PySem.F.slot_dict_get dd.typeIs PySem.F.entry_dict_get (PySem.F.args_dict_get_3 _ _ _) (meetsH_dict_get_default (tupleKind (zaX X.prog X.w)) a b hd r) ⟨tupleKind_room_in1 hu,k,xs,zg6 I.hok eb,dd,h _ _ (I.tok _) ?_⟩
  rw[l]
  exact (rel.val k).getD rd
end
def zko (td ty tx:TE):TE:=fun σ H Q=>td σ H fun x H1=>∃a,x=.ref a∧IsD H1 a∧ty σ H1 fun y H2=>tx σ H2 fun z H3=>∃o,DGet H3 a y o∧Q (o.getD z) H3
section
variable {X:Cx}{o e f:Expr}{apos cpos:Pos}{td ty tx:TE}
theorem zh9 (hu:X.A.units+1<cLine) (ho:PE X o td) (he:PE X e ty) (hf:PE X f tx) (m:M2 X o "get" apos e f cpos):PE X (.Call (.Attribute o "get" apos) [e,f] [] cpos) (zko td ty tx):=by
 intro pins s σ H Q I h
 refine wpAny_Call_method m.base m.few m.line PySem.F.plainAttrs_dict PySem.F.slot_dict_get PySem.F.type_dict_get (thn (ho pins s σ H _ I h) fun u s1 ⟨x,H1,I1,rx,a,ex,d,q1⟩=>?_)
 subst ex
 obtain rfl:u=Value.ref a:=rx
 obtain ⟨t1,t2,_⟩:=zkm I1 d
 refine ⟨t1,t2,?_⟩
 rw[m.trees]
 refine Calls.callWith_builtin rfl (Calls.evalArgs_plain (Calls.spliced_cons (thn (he pins s1 σ H1 _ I1 q1) fun iv s2 ⟨y,H2,I2,ry,q2⟩=>
  Calls.spliced_cons (thn (hf pins s2 σ H2 _ I2 q2) fun fv s3 ⟨z,H3,I3,rz,ov,g,q3⟩=>Calls.spliced_nil ?_))))
 exact zkn hu I3 g ry rz fun w' s4 I4 rw'=>⟨_,H3,I4,rw',q3⟩
end
section
variable {X:Cx}{pins:List (Addr×Obj)}{σ:St}{H:Hp}{s:Shared}{a:Addr}{kvs:List (Key×V)}{A:Around}{E:Value→Shared→Prop}
end
section
variable {X:Cx}{pins:List (Addr×Obj)}{σ:St}{H:Hp}{s:Shared}{a:Addr}{y:V}{u:Value}{A:Around}{E:Value→Shared→Prop}
end
section
variable {κ:Type} [DecidableEq κ]
end
section
variable {P:Program}{w:World}{A:Around}{X:Value→Shared→Prop}{s:Shared}{b:Array Keyed}
end
theorem zjg {X:Cx}:MtR X "str.join" (fun x vs H Q=>∃(sep:Str) (l:Addr) (xs:List Str),x=.str sep∧vs=[.ref l]∧SqL X.K H l (xs.map V.str)∧xs.length≤20000∧sep.length≤100∧(∀y∈xs,y.length≤100)∧Q (.str (PySem.Builtin.Str.glued sep xs)) H):=by
 intro pins s σ H x vs v us Q I rx rv h
 obtain ⟨sep,l,xs,rfl,rfl,hl,h1,hsep,hz,q⟩:=h
 obtain ⟨t,rfl⟩:=rx
 obtain ⟨u,rfl,ru⟩:=rv.one
 cases ru
 obtain ⟨its,r,pl,_⟩:=I.list hl
 obtain ⟨e1,e2⟩:=zcN r
 have e3:=zbX e2
 have e4:(its.map fun u=>(strOf u,tokOf u)).map (·.1)=xs:=by rw[List.map_map,←e1];rfl
 have hI:s.heap.IsList l (strValues (its.map fun u=>(strOf u,tokOf u))).toArray:=by rw[←e3];exact pl.isList
 have fits:PySem.Builtin.Str.tooLong ((xs.toArray.foldl (fun a y=>a+y.length+sep.length) 0))=false:=
  StrLaws.joinFits (B:=100) hz (by have:xs.length*sep.length≤20000*100:=Nat.mul_le_mul h1 hsep;omega)
 refine call_meets F.slot_str_join (typeIs_str s sep t) F.entry_str_join (F.args_str_join_2 _ _) (meets_str_join_list sep t l (its.map fun u=>(strOf u,tokOf u)) (by rw[e4];exact fits)) ⟨hI,?_⟩
 generalize its.map (fun u=>(strOf u,tokOf u))=ps at e4
 match ps,e4 with
 |[],e4=>
  subst e4
  exact ⟨by show (0:Nat)≤_;exact Nat.zero_le _,⟨.str _,H,I.tok _,⟨_,rfl⟩,q⟩⟩
 |[p],e4=>
  subst e4
  exact ⟨.str _,H,I,⟨_,rfl⟩,q⟩
 |p::p2::r',e4=>
  subst e4
  exact ⟨joinFit_length fits,⟨.str _,H,I.tok _,⟨_,rfl⟩,q⟩⟩
section
variable {X:Cx}
end
section
variable {X:Cx}{sc:Scope}{cl:List (Str×Addr)}{N':List Str}{s:Shared}{H:Hp}{fp:List Addr}
end
theorem bd1 {α:Type}{f g:List Value→α}(h:∀a,f [a]=g [a]):∀us:List Value,us.length=1→f us=g us
 |[a],_=>h a
theorem bd2 {α:Type}{f g:List Value→α}(h:∀a b,f [a,b]=g [a,b]):∀us:List Value,us.length=2→f us=g us
 |[a,b],_=>h a b
theorem bd3 {α:Type}{f g:List Value→α}(h:∀a b c,f [a,b,c]=g [a,b,c]):∀us:List Value,us.length=3→f us=g us
 |[a,b,c],_=>h a b c
section
variable {X:Cx}{e st:Expr}{te:TE}{p2 pos:Pos}
def tRevL (K:W.Frag) (te:TE) (ts:St→Hp→(Option Int→Hp→Prop)→Prop):TE:=fun σ H Q=>te σ H fun x H1=>ts σ H1 fun k H2=>k=some (-1)∧∃a xs,x=.ref a∧SqL K H2 a xs∧∀p,H2 p=none→Q (.ref p) (upd H2 p (.lst xs.reverse))
theorem zjh {ts}(he:PE X e te) (hk:PO X (some st) ts):PE X (.Subscript e (.Slice none none (some st) p2) pos) (tRevL X.K te ts):=by
 intro pins s σ H Q I h
 refine Subscript_ (thn (he pins s σ H _ I h) fun v s1 ⟨x,H1,I1,r1,q1⟩=>?_)
 refine wpAny_Slice ?_
 rw[evalPart_none]
 refine wpAny_pure (wpAny_pure ?_)
 refine thn (hk pins s1 σ H1 _ I1 q1) fun vk s3 ⟨k,H3,I3,pk,e3,a,xs,ex,hx,q⟩=>?_
 subst e3 ex
 cases r1
 have I4:Inv X pins σ H3 { s3 with heap:=s3.heap.push { cls:=.type "slice",data:=.fields #[.none,.none,vk] } }:=I3.kept (t':=s3.toks) fun b ob q=>Heap.get?_push_of_some _ q
 obtain ⟨its,r,ht,hz⟩:=I4.list hx
 have hlen:=r.length
 show wpAny (model X.prog X.w) X.A (subscriptTail e (.Slice none none (some st) p2) (.ref a) (.ref s3.heap.objs.size)) (EP X pins σ Q) X.xe { s3 with heap:=s3.heap.push { cls:=.type "slice",data:=.fields #[.none,.none,vk] } }
 refine tail_any (ops:=[.ref a,.ref s3.heap.objs.size]) ht.isList.typeIs slot_list_getitem.lookup ?_ (by with_unfolding_all rfl)
 refine wpAny_getItem_list_slice ht.isList (Heap.IsSliceOf.new ..) .none .none pk (by decide) ?_ (by rw[List.size_toArray]<;>omega)
 rw[W.krv_pick]
 refine ⟨.ref _,_,I4.laid (t':=s3.toks) (o:=.lst xs.reverse) (fun b ob q=>Heap.get?_push_of_some _ q) (Nat.le_refl _) ?_,rfl,q _ (I4.hok.fresh (Nat.le_refl _))⟩
 exact ⟨by rw[List.length_reverse];exact hz,its.reverse,0,r.reverse,Heap.get?_push_size _ rfl⟩
end
def tRpl (y z:Str) (to:TE):TE:=fun σ H Q=>to σ H fun x H1=>∃a:Str,x=.str a∧a.length≤100000∧Q (.str (Txt.replace a y z)) H1
theorem zbB {X:Cx}{o:Expr}{to:TE}{y z:Str}{k1 k2:Nat}{p1 p2 apos cpos:Pos}(ho:PE X o to) (hyz:(y==z)=false) (hz:z.length≤100)
  (hbase:attributeBase o "replace" X.env (eval o X.env)=eval o X.env:=by rfl)
  (hfew:((backTo cpos (starEach [.Constant (.str y) k1 p1,.Constant (.str z) k2 p2] X.env)).all (fun x=>!x.1)&&(backToKw cpos (keywordEach [] X.env)).all (fun x=>x.1.isSome)
   && decide (([.Constant (.str y) k1 p1,.Constant (.str z) k2 p2]:List Expr).length+([]:List Keyword).length+(if ([]:List Keyword).isEmpty then 0 else 1)<30))=true:=by rfl)
  (hline:(apos.endLine==cpos.line)=true:=by rfl) (h1:1≤X.t0:=by first|assumption|exact Nat.le_refl 1) :
  PE X (.Call (.Attribute o "replace" apos) [.Constant (.str y) k1 p1,.Constant (.str z) k2 p2] [] cpos) (tRpl y z to):=by
 intro pins s σ H Q I h
 refine wpAny_Call_method_late hbase hfew hline rfl (thn (ho pins s σ H _ I h) fun v s1 ⟨x,H1,I1,r1,q1⟩=>?_)
 obtain ⟨a,rfl,ha,q⟩:=q1
 obtain ⟨e1,e2⟩:=ziJ (T:="str") I1 r1 rfl
 refine ⟨"str","str.replace",PySem.F.plainAttrs_str,PySem.F.slot_str_replace,PySem.F.type_str_replace,e1,e2,?_⟩
 obtain ⟨t,rfl⟩:=r1
 refine Calls.callWith_builtin rfl (Calls.evalArgs_plain ?_)
 show wpAny _ _ (spliced ((false,eval (.Constant (.str y) k1 p1) X.env)::(false,eval (.Constant (.str z) k2 p2) X.env)::[])) _ _ s1
 refine Calls.spliced_cons (Calls.Constant_str (Calls.spliced_cons (Calls.Constant_str (Calls.spliced_nil ?_))))
 have tk:=I1.tk
 refine wpAny_with_toks (n:=X.t0) (by show X.t0≤s1.toks+1+1;omega) ?_
 have hb:a.length+(a.length+1)*z.length≤16777216:=by
  have:=Nat.mul_le_mul (show a.length+1≤100001 by omega) hz
  omega
 exact SC.replace (by show s1.toks≠0;omega) (by show s1.toks+1≠0;omega) (by show s1.toks≠s1.toks+1;omega) hyz hb fun t' k ht=>⟨.str _,H1,I1.tok k ht,⟨_,rfl⟩,q⟩
theorem zcz:∀(xs:List Str) (t:Nat),Vals (xs.map V.str) (strsFrom t xs)
 |[],_=>.nil
 |x::r,t=>.cons ⟨_,rfl⟩ (zcz r (t+1))
def zkp:V→List V→Hp→VK→Prop:=fun x vs H Q=>∃a y:Str,x=.str a∧vs=[.str y]∧(y.length==0)=false∧a.length≤100000∧∀p,H p=none→Q (.ref p) (upd H p (.lst ((Txt.split a y).map V.str)))
theorem zbG {X:Cx}:MtR X "str.split" zkp:=by
 intro pins s σ H x vs v us Q I rx rv h
 obtain ⟨a,y,rfl,rfl,hy,ha,q⟩:=h
 obtain ⟨t,rfl⟩:=rx
 obtain ⟨u,rfl,t',rfl⟩:=rv.one
 have hz:a.length≤sizeLine:=by rw[sizeLine_eq];omega
 have one:Txt.split a y=[a]→EP X pins σ Q (.ref s.heap.objs.size) { s with heap:=s.heap.push { cls:=.type "list",data:=.seq [Value.str a t].toArray } }:=fun e=>by
  refine ⟨.ref _,_,I.laid (t':=s.toks) (o:=.lst ((Txt.split a y).map V.str)) (fun b o e=>Heap.get?_push_of_some _ e) (Nat.le_refl _) ?_,rfl,q _ (I.hok.fresh (Nat.le_refl _))⟩
  rw[e]
  exact ⟨by show 1≤_;decide,[Value.str a t],_,.cons ⟨_,rfl⟩ .nil,Heap.get?_push_size _ rfl⟩
 cases h1:(decide (a.length<y.length) || decide (Builtin.Str.strKind a<Builtin.Str.strKind y))
 ·cases hf:(Builtin.Str.occurrences a y 0 a.length (a.length+1)).isEmpty
  ·have hn:(Builtin.Str.partsBetween a (Builtin.Str.occurrences a y 0 a.length (a.length+1)) y.length).length≤sizeLine:=by
    have h2:=StrLaws.occ_length_le_len a y 0 a.length (a.length+1)
    unfold Builtin.Str.partsBetween
    rw[List.length_map,List.length_zip,List.length_cons,List.length_map,List.length_append,List.length_singleton,sizeLine_eq]
    omega
   refine call_meets F.slot_str_split (typeIs_str s a t) F.entry_str_split (F.args_str_split_2 _ _) (meets_str_split_sep a y t t' h1 hy hf hz hn) ?_
   have e:Txt.split a y=Builtin.Str.partsBetween a (Builtin.Str.occurrences a y 0 a.length (a.length+1)) y.length:=by
    unfold Txt.split
    rw[h1,hf,if_neg Bool.false_ne_true,if_neg Bool.false_ne_true]
   rw[←e] at hn ⊢
   refine ⟨.ref _,_,I.laid (t':=s.toks+(Txt.split a y).length) (o:=.lst ((Txt.split a y).map V.str)) (fun b o e=>Heap.get?_push_of_some _ e) (Nat.le_refl _) ?_,rfl,q _ (I.hok.fresh (Nat.le_refl _))⟩
   exact ⟨by rw[List.length_map];exact hn,_,_,zcz _ _,Heap.get?_push_size _ rfl⟩
  ·refine call_meets F.slot_str_split (typeIs_str s a t) F.entry_str_split (F.args_str_split_2 _ _) (meets_str_split_not_found a y t t' h1 hy hf) ?_
   refine one ?_
   unfold Txt.split
   rw[h1,hf,if_neg Bool.false_ne_true,if_pos rfl]
 ·refine call_meets F.slot_str_split (typeIs_str s a t) F.entry_str_split (F.args_str_split_2 _ _) (meets_str_split_cannot_occur a y t t' h1) ?_
  refine one ?_
  unfold Txt.split
  rw[h1,if_pos rfl]
theorem zcA {X:Cx}:CallR X (.type "int") (fun xs H Q=>∃x n,xs=[.str x]∧PySem.intText? x=some n∧x.length≤640∧Q (.int n) H):=by
 intro pins s σ H xs us Q I r h
 obtain ⟨x,n,rfl,hn,hl,q⟩:=h
 obtain ⟨u,rfl,t,rfl⟩:=vals1 r
 exact W.KIN.call_text hn hl ⟨.int n,H,I.tok _,⟨_,rfl⟩,q⟩
abbrev Cx.up (X:Cx):Cx:={ X with t0:=1 }
section
variable {X:Cx}{pins:List (Addr×Obj)}{σ:St}{H:Hp}{s:Shared}
theorem Inv.up (I:Inv X pins σ H s) (ht:1≤s.toks):Inv X.up pins σ H s:=by
 have ok:=I.ok
 exact ⟨⟨ok.mod,ok.kind,ok.glob,ok.blt,ok.above,ok.inj,ok.has,ok.cab,ok.hd,ok.frames,ok.stk,ok.exf,ok.bs,ok.bsz,ok.noex,ok.exfs,ok.funs,ok.frf⟩,I.os,I.bare,I.base,I.loc,I.cell,I.free,I.freeC,I.pin,I.hok,I.len,ht⟩
theorem Inv.down (h0:X.t0=0) (I:Inv X.up pins σ H s):Inv X pins σ H s:=by
 have ok:=I.ok
 exact ⟨⟨ok.mod,ok.kind,ok.glob,ok.blt,ok.above,ok.inj,ok.has,ok.cab,ok.hd,ok.frames,ok.stk,ok.exf,ok.bs,ok.bsz,ok.noex,ok.exfs,ok.funs,ok.frf⟩,I.os,I.bare,I.base,I.loc,I.cell,I.free,I.freeC,I.pin,I.hok,I.len,by rw[h0];exact Nat.zero_le _⟩
theorem SP.down (h0:X.t0=0){D:Ends}{f:Flow}{s':Shared}(h:SP X.up pins D f s'):SP X pins D f s':=by
 cases f with
 |next=>obtain ⟨σ',H',I,q⟩:=h;exact ⟨σ',H',I.down h0,q⟩
 |brk=>obtain ⟨σ',H',I,q⟩:=h;exact ⟨σ',H',I.down h0,q⟩
 |cont=>obtain ⟨σ',H',I,q⟩:=h;exact ⟨σ',H',I.down h0,q⟩
 |ret v=>obtain ⟨x,σ',H',I,r,q⟩:=h;exact ⟨x,σ',H',I.down h0,r,q⟩
end
section
variable {X:Cx}{tg:Expr}
def PI01 (X:Cx) (tg iter:Expr) (wi:TI):Prop:=
 ∀(pins:List (Addr×Obj)) (s:Shared) (σ:St) (H:Hp) (R:It→Hp→Prop),Inv X pins σ H s→wi σ H R →
  wpAny (model X.prog X.w) X.A (eval iter X.env) (fun v s1=>wpAny (model X.prog X.w) X.A (pyIter v) (PIE X.up pins σ tg R) X.xe s1) X.xe s
theorem zfg {a:Expr}{ta:TA}{p pos:Pos}(hg:Gl X "range") (hm:X.mg "range"=none) (ha:PA X [a] ta) (hs:starEach [a] X.env=[(false,eval a X.env)]:=by rfl):PI01 X tg (.Call (.Name "range" p) [a] [] pos) (iRng1 ta):=by
 intro pins s σ H R I h
 refine Call_ (zc8 I hg hm boot_range (PyProof.Rows.callWith_type1 (thn (ha pos pins s σ H _ I h) fun us s1 ⟨vs,H1,I1,r1,q1⟩=>?_) hs rfl))
 obtain ⟨j,e,q1,q2,q⟩:=q1
 subst e
 cases r1 with
 |cons r rr=>
  cases rr
  obtain ⟨t,rfl⟩:=r
  have I2:Inv X.up pins σ H1 { s1 with toks:=s1.toks+1 }:=(I1.tok (s1.toks+1) (Nat.le_succ_of_le I1.tk)).up (Nat.succ_le_succ (Nat.zero_le _))
  exact call_range_1 (zfH (X:=X.up) (s:={ s1 with toks:=s1.toks+1 }) I2 (by omega) (by omega) q1 q2 (by simpa using q) (by show 1≤s1.toks+1+1;omega))
theorem zia {iter:Expr}{body:List Stmt}{wi:TI}{g:TG}{tb:TS}{pos:Pos}(h0:X.t0=0) (hp:PassesOwn (model X.prog X.w) X.A X.env X.xe) (hc:X.calm=true) (hi:PI01 X tg iter wi) (hg:PG X.up tg g) (hb:PSs X.up body tb)
  (hs:∀x,foldedSetIterable iter X.env x=pure x:=by intro _;rfl):PS X (.For tg iter body [] pos) (tFor wi g tb):=by
 intro pins s σ H D I h
 refine wpAny_mono (Q:=SP X.up pins D) (E:=X.xe) ?_ (fun _ _ q=>q.down h0) fun _ _ z=>z
 refine wpAny_For (thn (hi pins s σ H _ I h) fun v s1 h1=>thn h1 fun itv s2 h2=>?_) hs
 obtain ⟨it,fp,tn,J,H2,e,I2,T,st2,f2,W,⟨m0,w0⟩,turn⟩:=h2
 subst e
 -- what stays true of the iterator's objects through the loop
 have stat:∀ {H':Hp},(∀b∈fp,H' b=none)→∀b∈fp,FpOk X.up pins H' b:=fun hn b hb=>⟨hn b hb,(f2 b hb).2⟩
 refine codeAny_forLoop_any (fun n s'=>∃i σ' H',Inv X.up pins σ' H' s'∧tn i s'.heap∧(∀b∈fp,H' b=none)∧W i n σ' H') ?_ m0 ⟨0,σ,H2,I2,st2,fun b hb=>(f2 b hb).1,w0⟩
 rintro n s3 ⟨i,σ3,H3,I3,st3,fr3,w3⟩
 rcases turn i n σ3 H3 w3 with ⟨stop,qn⟩|⟨go,N,hN,step⟩
 ·refine wpAny_passesOwn hp (thn (T.done X.up rfl rfl rfl hc i pins s3 σ3 H3 X.xe I3 (stat fr3) st3 stop) fun r s4 ⟨hr,I4⟩=>?_)
  subst hr
  exact wpAny_execs_nil ⟨σ3,H3,I4,qn⟩
 ·refine wpAny_passesOwn hp (thn (T.item X.up rfl rfl rfl hc i pins s3 σ3 H3 X.xe I3 (stat fr3) st3 go) fun r s4 ⟨u,hr,h4⟩=>?_)
  subst hr
  refine wpAny_passesOwn hp (thn h4 fun _ s5 ⟨x,H5,I5,r5,y5,st5,fr5⟩=>?_)
  have I5':=I5.pinned (stat fr5) (T.obj _ _ st5)
  refine wpAny_passesOwn hp (thn (hg _ s5 σ3 H5 x u _ I5' r5 (step x H5 y5)) fun _ s6 ⟨σ6,H6,I6,q6⟩=>?_)
  refine wpAny_passesOwn hp (thn (hb _ s6 σ6 H6 _ I6 q6) fun f s7 q7=>?_)
  have again:∀ {σ7:St} {H7:Hp},Inv X.up (pins++zc9 fp s5.heap) σ7 H7 s7→N σ7 H7→∃m,m<n∧∃i σ' H',Inv X.up pins σ' H' s7∧tn i s7.heap∧(∀b∈fp,H' b=none)∧W i m σ' H':=fun {σ7 H7} I7 n7=>by
   obtain ⟨m',hm,w7⟩:=hN σ7 H7 n7
   refine ⟨m',hm,i+1,σ7,H7,I7.unpinned,T.keep _ _ _ st5 fun b hb o e=>(I7.pin (b,o) (List.mem_append_right _ (List.mem_append_right _ (za7 hb e)))).1,fun b hb=>?_,w7⟩
   obtain ⟨o,e,d⟩:=T.obj _ _ st5 b hb
   exact (I7.pin (b,o) (List.mem_append_right _ (List.mem_append_right _ (za7 hb e)))).2.1
  cases f with
  |next=>obtain ⟨σ7,H7,I7,n7⟩:=q7;exact again I7 n7
  |cont=>obtain ⟨σ7,H7,I7,n7⟩:=q7;exact again I7 n7
  |brk=>obtain ⟨σ7,H7,I7,q7⟩:=q7;exact ⟨σ7,H7,I7.unpinned,q7⟩
  |ret v=>obtain ⟨x7,σ7,H7,I7,r7,q7⟩:=q7;exact ⟨x7,σ7,H7,I7.unpinned,r7,q7⟩
end
def Itr3 (lo st:Int) (n:Nat):It:=⟨fun i _=>i<n,fun i H x H'=>H'=H∧x=.int (lo+i*st),fun i _=>n≤i⟩
theorem zfh {P:Program}{w:World}{K:W.Frag}{tg:Expr}(it:Addr) (lo c:Int) (n:Nat):Turn P w K tg (Itr3 lo c n) [it] it (fun i h=>IsRangeIter h it (lo+(i:Nat)*c) ((n:Int)-(i:Nat)) c) where
 mem:=by simp
 obj:=fun i h st b hb=>by
  have e:b=it:=by simpa using hb
  subst e
  exact ⟨_,st,fun v z=>by
   have z':Data.fields _=Data.cell v:=z
   cases z'⟩
 keep:=fun i h h' st k=>k it (by simp) _ st
 item:=by
  intro X hP hw hK hc i pins s σ H E I hf st hg
  subst hP hw hK
  obtain ⟨f0,f1,f2,f3,f4,f5⟩:=hf it (by simp)
  have W:=Walks.range (prog:=X.prog) (w:=X.w) (I.ok.hd hc) it lo c n
  refine wpAny_with_toks (n:=X.t0) I.tk ?_
  refine W.item i s _ _ hg st fun v h' tk hv st' kk htk=>?_
  have htk:X.t0≤tk:=htk
  obtain ⟨t,rfl⟩:=hv
  have I1:Inv X pins σ H { s with heap:=h',toks:=tk }:=I.turned (fun b o hb e=>kk b o (by simpa using hb) e) f0 f1 f3 f4 f5
  exact ⟨_,rfl,ze3 (s:={ s with heap:=h',toks:=tk }) (n:="range_iterator") st' rfl rfl (by decide) ⟨.int (lo+i*c),H,I1,⟨t,rfl⟩,⟨rfl,rfl⟩,st',fun b hb=>(hf b hb).1⟩⟩
 done:=by
  intro X hP hw hK hc i pins s σ H E I hf st hg
  subst hP hw hK
  obtain ⟨f0,f1,f2,f3,f4,f5⟩:=hf it (by simp)
  exact wpAny_pyNext_range_end (I.ok.hd hc) st (by have:n≤i:=hg;omega) fun h' eb=>⟨rfl,I.turned (t':=s.toks) (fun b o hb e=>eb b o hb e) f0 f1 f3 f4 f5⟩
 self:=fun _ _ _ _ _ st h=>wpAny_pyIter_rangeiter st h
section
variable {X:Cx}{tg:Expr}
def iRng3 (lo c:Int) (ta:TA):TI:=fun σ H R=>ta σ H fun vs H1=>∃(hi:Int) (n:Nat),vs=[.int lo,.int hi,.int c]∧Builtin.Range.rangeSize lo hi c=n∧Builtin.Range.small lo hi c=true∧Builtin.divisionGoesByPylong (hi-lo) c=false∧R (Itr3 lo c n) H1
theorem zeK {a b d:Expr}{ta:TA}{p pos:Pos}{lo c:Int}(hg:Gl X "range") (hm:X.mg "range"=none) (ha:PA X [a,b,d] ta) (hc:c≠0)
  (hs:starEach [a,b,d] X.env=(false,eval a X.env)::starEach [b,d] X.env:=by rfl) (hs2:(backTo pos (starEach [b,d] X.env)).any (·.1)=false:=by rfl) :
  PI X tg (.Call (.Name "range" p) [a,b,d] [] pos) (iRng3 lo c ta):=by
 intro pins s σ H R I h
 refine Call_ (zc8 I hg hm boot_range (PyProof.Rows.callWith_type1 (thn (ha pos pins s σ H _ I h) fun us s1 ⟨vs,H1,I1,r1,q1⟩=>?_) hs hs2))
 obtain ⟨hi,n,e,hn,hsm,hpy,q⟩:=q1
 subst e
 cases r1 with
 |cons r rr=>
  cases rr with
  |cons r' rr=>
   cases rr with
   |cons r'' rr=>
    cases rr
    obtain ⟨t,rfl⟩:=r
    obtain ⟨t',rfl⟩:=r'
    obtain ⟨t'',rfl⟩:=r''
    refine call_range_3 hc ?_ (Or.inl hpy)
    have I2:Inv X pins σ H1 { s1 with heap:=s1.heap.push { cls:=.type "range",data:=.fields #[.int lo t,.int hi t',.int c t''] },toks:=s1.toks }:=I1.kept fun b o e=>Heap.get?_push_of_some _ e
    refine wpAny_pyIter_range (IsRange.new ..) hsm ?_
    refine ⟨(s1.heap.push { cls:=.type "range",data:=.fields #[.int lo t,.int hi t',.int c t''] }).objs.size,[(s1.heap.push { cls:=.type "range",data:=.fields #[.int lo t,.int hi t',.int c t''] }).objs.size],_,_,H1,rfl,
     I2.kept (t':=s1.toks) fun b o e=>Heap.get?_push_of_some _ e,zfh _ lo c n,?_,fun b hb=>?_,q⟩
    ·have e1:lo+((0:Nat):Int)*c=lo:=by simp
     have e2:((n:Nat):Int)-((0:Nat):Int)=Builtin.Range.rangeSize lo hi c:=by rw[hn];simp
     show IsRangeIter _ _ (lo+((0:Nat):Int)*c) (((n:Nat):Int)-((0:Nat):Int)) c
     rw[e1,e2]
     exact Heap.get?_push_size _ rfl
    ·have e:b=(s1.heap.push { cls:=.type "range",data:=.fields #[.int lo t,.int hi t',.int c t''] }).objs.size:=by simpa using hb
     subst e
     exact I2.fpOk (Nat.le_refl _) (I2.hok.fresh (Nat.le_refl _))
theorem zdC {lo st:Int}{n:Nat}{g:TG}{tb:TS}{D:Ends}{σ:St}{H:Hp}(Pv:Nat→St→Hp→Prop) (h0:Pv 0 σ H)
  (hs:∀i σ H,i<n→Pv i σ H→g (.int (lo+i*st)) σ H fun σ2 H2=>tb { D with nx:=Pv (i+1),ct:=Pv (i+1),bk:=D.nx } σ2 H2) (hd:∀σ H,Pv n σ H→D.nx σ H) :
  ∃W:Nat→Nat→St→Hp→Prop,(∃m,W 0 m σ H)∧∀i m σ H,W i m σ H →
   ((Itr3 lo st n).stop i H∧D.nx σ H)∨((Itr3 lo st n).go i H∧∃N:St→Hp→Prop,(∀σ' H',N σ' H'→∃m',m'<m∧W (i+1) m' σ' H')∧∀x H',(Itr3 lo st n).yld i H x H'→g x σ H' fun σ2 H2=>tb { D with nx:=N,ct:=N,bk:=D.nx } σ2 H2):=by
 refine ⟨fun i m σ H=>m=n-i∧i≤n∧Pv i σ H,⟨n,by simp,Nat.zero_le _,h0⟩,?_⟩
 rintro i m σ H ⟨rfl,hi,p⟩
 by_cases hlt:i<n
 ·refine .inr ⟨hlt,Pv (i+1),fun σ' H' p'=>⟨n-(i+1),by omega,rfl,hlt,p'⟩,fun x H' y=>?_⟩
  obtain ⟨e,y⟩:=y
  subst e y
  exact hs i σ _ hlt p
 ·have e:i=n:=by omega
  subst e
  exact .inl ⟨Nat.le_refl _,hd σ H p⟩
end
section
variable {P:Program}{w:World}{K:W.Frag}{mg:Str→Option Value}{base:Heap}
theorem Fun.ok0 {x qual:Str}{st:Stmt}{f:Addr}{fd:FuncData}{N ps:List Str}{k:Nat}{sp:Sp}(F:Fun K x qual st f fd) (S:zar N ps (zag st)) (len:∀vs H Q E,sp vs H Q E→vs.length=ps.length)
  (hbody:∀(cdv:Value) (A:Around) (outer:List Env) (s:Shared) (H:Hp) (vs:List V) (Q:VK) (E:XK),Room k (A.deeper (envOfC qual (zag st) s.heap.objs.size f cdv))→sp vs H Q E →
   ∃t,PSs { (cxOf CX0 P w K mg base N qual (zag st) f cdv A outer s H E).nox with t0:=0 } (zbo st) t∧t { nx:=fun _ H'=>Q .non H',rt:=Q } (start N vs) H):FnOkT 0 P w K mg base CX0 (k+1) f fd ps sp:=by
 obtain ⟨oc,od,kV,doc,pm,an,cdv,ct,osl,rfl,lk,hcd⟩:=F.ex
 refine ziH 0 lk hcd S len fun A outer s H vs Q E hr hsp=>?_
 obtain ⟨t,h,q⟩:=hbody cdv A outer s H vs Q E hr hsp
 exact ⟨t,PSs.nox (X:={ cxOf CX0 P w K mg base N qual (zag st) f cdv A outer s H E with t0:=0 }) h,q⟩
end
theorem zbt {X:Cx}:MtR X "str.join" (fun x vs H Q=>∃(sep:Str) (l:Addr) (xs:List Str),x=.str sep∧vs=[.ref l]∧SqL X.K H l (xs.map V.str)∧sep.length≤16∧(xs.map (·.length)).sum+xs.length≤1048576∧Q (.str (Str.join sep xs)) H):=by
 intro pins s σ H x vs v us Q I rx rv h
 obtain ⟨sep,l,xs,rfl,rfl,hl,hsep,hz,q⟩:=h
 rw[←StrLaws.glued_eq_join] at q
 obtain ⟨t,rfl⟩:=rx
 obtain ⟨u,rfl,ru⟩:=rv.one
 cases ru
 obtain ⟨its,r,pl,_⟩:=I.list hl
 obtain ⟨e1,e2⟩:=zcN r
 have e3:=zbX e2
 have e4:(its.map fun u=>(strOf u,tokOf u)).map (·.1)=xs:=by rw[List.map_map,←e1];rfl
 have hI:s.heap.IsList l (strValues (its.map fun u=>(strOf u,tokOf u))).toArray:=by rw[←e3];exact pl.isList
 have fits:PySem.Builtin.Str.tooLong ((xs.toArray.foldl (fun a y=>a+y.length+sep.length) 0))=false:=joinFits_of_weight hz hsep
 refine call_meets F.slot_str_join (typeIs_str s sep t) F.entry_str_join (F.args_str_join_2 _ _) (meets_str_join_list sep t l (its.map fun u=>(strOf u,tokOf u)) (by rw[e4];exact fits)) ⟨hI,?_⟩
 generalize its.map (fun u=>(strOf u,tokOf u))=ps at e4
 match ps,e4 with
 |[],e4=>
  subst e4
  exact ⟨by show (0:Nat)≤_;exact Nat.zero_le _,⟨.str _,H,I.tok _,⟨_,rfl⟩,q⟩⟩
 |[p],e4=>
  subst e4
  exact ⟨.str _,H,I,⟨_,rfl⟩,q⟩
 |p::p2::r',e4=>
  subst e4
  exact ⟨joinFit_length fits,⟨.str _,H,I.tok _,⟨_,rfl⟩,q⟩⟩
def tOrS (ta tb:TE):TE:=fun σ H Q=>ta σ H fun x H1=>∃a:Str,x=.str a∧a.length≤100000∧if a.length=0 then tb σ H1 Q else Q (.str a) H1
theorem zkq {X:Cx}{a b:Expr}{rest:List Expr}{pos:Pos}{ta tb:TE}(ha:PE X a ta) (hb:PE X (.BoolOp .Or (b::rest) pos) tb):PE X (.BoolOp .Or (a::b::rest) pos) (tOrS ta tb):=by
 intro pins s σ H Q I h
 refine BoolOp_or (thn (ha pins s σ H _ I h) fun v s1 ⟨x,H1,I1,r1,q1⟩=>?_)
 obtain ⟨z,rfl,hz,q1⟩:=q1
 obtain ⟨t,rfl⟩:=r1
 refine PySem.P.truthy_str (by omega) ?_
 by_cases h0:z.length=0
 ·rw[if_pos h0] at q1
  have e:((z.length:Int) != 0)=false:=by rw[h0];rfl
  rw[e]
  exact hb pins _ σ H1 Q (I1.tok (s1.toks+1+1)) q1
 ·rw[if_neg h0] at q1
  have e:((z.length:Int) != 0)=true:=by rw[bne_iff_ne];omega
  rw[e]
  exact ⟨.str z,H1,I1.tok (s1.toks+1+1),⟨_,rfl⟩,q1⟩
theorem zkr {X:Cx}{st:Stmt}{t:TS}(h:PS X.nox st t):PS X st t:=by
 intro pins s σ H D I q
 refine wpAny_mono (h pins s σ H D (I.wish _) q) (fun fl s2 q=>?_) fun _ _ z=>False.elim z
 cases fl with
 |next=>obtain ⟨σ',H',I',q⟩:=q;exact ⟨σ',H',I'.unwish,q⟩
 |brk=>obtain ⟨σ',H',I',q⟩:=q;exact ⟨σ',H',I'.unwish,q⟩
 |cont=>obtain ⟨σ',H',I',q⟩:=q;exact ⟨σ',H',I'.unwish,q⟩
 |ret u=>obtain ⟨v,σ',H',I',r,q⟩:=q;exact ⟨v,σ',H',I'.unwish,r,q⟩
structure Lft (S R:List Addr) (h h':Heap):Prop where
 keep:∀b o,b∉R→b∉S→h.get? b=some o→h'.get? b=some o
 slot:∀b o,b∉R→h.get? b=some o→∃sl,h'.get? b=some { o with slots:=sl }
 there:∀b o,h.get? b=some o→∃o',h'.get? b=some o'
def Exc (e T:Addr) (cls a0 fl:Value) (h:Heap):Prop:=
 ∃oe vs oT ts,h.get? e=some oe∧oe.cls=cls∧oe.data=.fields vs∧vs[0]?=some a0∧vs[1]?=some (.ref T)∧T≠e∧h.get? T=some oT∧oT.data=.fields ts∧ts[3]?=some fl∧vs[2]?=some .none∧oe.dict=none
section
variable {S R R':List Addr}{h h1 h2:Heap}{e:Addr}{o ob:Obj}
theorem Lft.trans (a:Lft S R h h1) (b:Lft S R h1 h2):Lft S R h h2:=by
 refine ⟨fun c o n m q=>b.keep c o n m (a.keep c o n m q),fun c o n q=>?_,fun c o q=>?_⟩
 ·obtain ⟨sl,q1⟩:=a.slot c o n q
  obtain ⟨sl',q2⟩:=b.slot c _ n q1
  exact ⟨sl',q2⟩
 ·obtain ⟨o',q1⟩:=a.there c o q
  exact b.there c o' q1
theorem Lft.mono (a:Lft S R h h1) (m:∀b∈R,b∈R'):Lft S R' h h1:=
 ⟨fun c o n k q=>a.keep c o (fun z=>n (m c z)) k q,fun c o n q=>a.slot c o (fun z=>n (m c z)) q,a.there⟩
theorem Lft.push:Lft S R h (h.push ob):=
 ⟨fun _ _ _ _ q=>Heap.get?_push_of_some _ q,fun _ o _ q=>⟨o.slots,Heap.get?_push_of_some _ q⟩,fun _ o q=>⟨o,Heap.get?_push_of_some _ q⟩⟩
theorem Lft.slots (x:Heap.SlotsOnly S h h1):Lft S R h h1:=by
 refine ⟨fun b o _ m q=>?_,fun b o _ q=>x.2.2 b o q,fun b o q=>?_⟩
 ·rw[x.2.1 b m];exact q
 ·obtain ⟨sl,z⟩:=x.2.2 b o q
  exact ⟨_,z⟩
theorem zc0 {vs:Array Value}(he:h.get? e=some o) (hd:o.data=.fields vs) (f:Array Value→Array Value) :
  (h.update e (Obj.mapFields f)).get? e=some (Obj.mapFields f o):=by
 have k:=Obj.data_mapFields hd f
 exact Heap.get?_update_self _ he (Obj.isFreed_of_fields k)
theorem Lft.fld {vs:Array Value}(he:h.get? e=some o) (hd:o.data=.fields vs) (f:Array Value→Array Value):Lft S [e] h (h.update e (Obj.mapFields f)):=by
 have oth:∀b,b∉[e]→(h.update e (Obj.mapFields f)).get? b=h.get? b:=fun b n=>Heap.get?_update_other _ _ fun z=>n (by rw[z];exact List.mem_singleton_self b)
 refine ⟨fun b o n _ q=>by rw[oth b n];exact q,fun b o n q=>⟨o.slots,by rw[oth b n];exact q⟩,fun b u q=>?_⟩
 by_cases z:b=e
 ·subst z;exact ⟨_,zc0 he hd f⟩
 ·exact ⟨u,by rw[oth b (by simpa using z)];exact q⟩
end
theorem zib (f:Array Value→Array Value) (o:Obj):(Obj.mapFields f o).dict=o.dict:=by
 unfold Obj.mapFields
 split<;>rfl
section
variable {M:Model}{A:Around}{E:Value→Shared→Prop}{s:Shared}{base:Heap}{env:Env}{outer:List Env}{L e:Addr}{cls a0:Value}
theorem ent {oe:Obj}{vs:Array Value}{head:Value}{hadNext:Bool}{Q:Unit→Shared→Prop}
  (hfr:A.frames=some (env::outer)) (hl:s.heap.FunFrames base (env::outer)) (hf:env.frame=some L)
  (he:s.heap.get? e=some oe) (hd:oe.data=.fields vs) (hsz:1<vs.size) (h0:vs[0]?=some a0) (n2:vs[2]?=some .none) (dn:oe.dict=none)
  (h:∀h' T,Lft (frs (env::outer)) [e] s.heap h'→s.heap.objs.size≤T→Exc e T oe.cls a0 (rawInt L) h'→Q () { s with heap:=h' }) :
  wpAny M A (do let a ← frameOf env;let pl ← entryPlaceOf L hadNext;let b ← EntryCells.newEntry head a .none (rawInt L) .none pl;setField (.ref e) 1 b) Q E s:=by
 have hne:e∉(env::outer).filterMap (·.frame):=by
  intro z
  obtain ⟨_,o,q,nf⟩:=hl.mem z
  rw[he] at q
  cases q
  exact nf vs hd
 refine wpAny_bind (wpAny_frameOf_fun hfr hl hf fun h1 x1=>?_)
 refine wpAny_bind (wpAny_entryPlaceOf fun pl hpl=>?_)
 unfold EntryCells.newEntry newFields
 refine wpAny_bind (wpAny_newObj_type ?_ (hpl.sizeOk5 _ _ _ _ _))
 have e1:h1.get? e=some oe:=by rw[x1.2.1 e hne];exact he
 have e2:(h1.push { cls:=.type "traceback",dict:=none,data:=.fields ([head,.ref L,.none,rawInt L,.none]++(if pl.isEmpty then List.replicate 6 Value.none else pl)).toArray }).get? e=some oe:=Heap.get?_push_of_some _ e1
 have ne:h1.objs.size≠e:=Nat.ne_of_gt (Heap.lt_size e1)
 refine wpAny_setField e2 hd hsz ?_
 refine h _ h1.objs.size (((Lft.slots x1).trans Lft.push).trans (Lft.fld e2 hd _)) (Nat.le_of_eq x1.1.symm) ?_
 refine ⟨_,_,_,_,zc0 e2 hd _,Obj.cls_mapFields _ _,Obj.data_mapFields hd _,?_,?_,ne,(Heap.get?_update_other _ _ (Ne.symm ne)).trans (Heap.get?_push_size _ rfl),rfl,?_,?_,by rw[zib];exact dn⟩
 ·rw[Array.getElem?_setIfInBounds_ne (by decide)];exact h0
 ·simp[hsz]
 ·rcases hpl with rfl|⟨_,_,_,_,_,_,_,rfl⟩<;>rfl
 ·rw[Array.getElem?_setIfInBounds_ne (by decide)];exact n2
theorem zic {oe:Obj}{vs:Array Value}{Q:Unit→Shared→Prop}
  (hfr:A.frames=some (env::outer)) (hl:s.heap.FunFrames base (env::outer)) (hf:env.frame=some L)
  (he:s.heap.get? e=some oe) (hd:oe.data=.fields vs) (n1:vs[1]?=some .none) (h0:vs[0]?=some a0) (n2:vs[2]?=some .none) (dn:oe.dict=none)
  (h:∀h' T,Lft (frs (env::outer)) [e] s.heap h'→s.heap.objs.size≤T→Exc e T oe.cls a0 (rawInt L) h'→Q () { s with heap:=h' }):wpAny M A (noteFrame (.ref e) env) Q E s:=by
 have hsz:1<vs.size:=(Array.getElem?_eq_some_iff.mp n1).1
 unfold noteFrame
 simp only[hf]
 refine wpAny_bind (wpAny_field he hd n1 ?_)
 rw[if_neg (by decide)]
 exact ent hfr hl hf he hd hsz h0 n2 dn h
theorem zji {T:Addr}{Q:Unit→Shared→Prop}
  (hfr:A.frames=some (env::outer)) (hl:s.heap.FunFrames base (env::outer)) (hf:env.frame=some L) (x:Exc e T cls a0 .none s.heap)
  (h:∀h' T',Lft (frs (env::outer)) [e,T] s.heap h'→s.heap.objs.size≤T'→Exc e T' cls a0 (rawInt L) h'→Q () { s with heap:=h' }):wpAny M A (noteFrame (.ref e) env) Q E s:=by
 obtain ⟨oe,vs,oT,ts,he,rfl,hd,h0,n1,ne,hT,dT,h3,n2,dn⟩:=x
 have hsz:1<vs.size:=(Array.getElem?_eq_some_iff.mp n1).1
 have hs3:3<ts.size:=(Array.getElem?_eq_some_iff.mp h3).1
 unfold noteFrame
 simp only[hf]
 refine wpAny_bind (wpAny_field he hd n1 ?_)
 rw[if_pos (by simp)]
 refine wpAny_bind (wpAny_field hT dT h3 ?_)
 rw[if_neg (by simp[rawInt])]
 refine wpAny_bind (wpAny_setField hT dT hs3 ?_)
 have l1:Lft (frs (env::outer)) [T] s.heap (s.heap.update T (Obj.mapFields (·.setIfInBounds 3 Value.none))):=Lft.fld hT dT _
 refine ent (s:={ s with heap:=_ }) hfr (hl.of_keeps fun b o q nf=>⟨o,?_,rfl⟩) hf ((Heap.get?_update_other _ _ ne).trans he) hd hsz h0 n2 dn fun h' T' l2 k x=>?_
 ·show (s.heap.update T _).get? b=some o
  rw[Heap.get?_update_other _ _ fun z=>?_]
  ·exact q
  ·subst z;rw[hT] at q;cases q;exact nf _ dT
 ·refine h h' T' ((l1.mono (by simp)).trans (l2.mono (by simp))) (Nat.le_trans (Nat.le_of_eq (Heap.size_after_update ..).symm) k) x
theorem zhb {T:Addr}{fl:Value}{Q:Unit→Shared→Prop}(x:Exc e T cls a0 fl s.heap)
  (h:∀h',Lft [] [T] s.heap h'→Exc e T cls a0 .none h'→Q () { s with heap:=h' }):wpAny M A (setFlight (.ref e) none) Q E s:=by
 obtain ⟨oe,vs,oT,ts,he,hc,hd,h0,n1,ne,hT,dT,h3,n2,dn⟩:=x
 have hs3:3<ts.size:=(Array.getElem?_eq_some_iff.mp h3).1
 unfold setFlight
 refine wpAny_bind (wpAny_field he hd n1 ?_)
 rw[if_pos (by simp)]
 refine wpAny_setField hT dT hs3 (h _ (Lft.fld hT dT _) ?_)
 refine ⟨oe,vs,_,_,?_,hc,hd,h0,n1,ne,zc0 hT dT _,Obj.data_mapFields dT _,by simp[hs3],n2,dn⟩
 rw[Heap.get?_update_other _ _ ne];exact he
end
def CXE (P:Program) (w:World):CXT:=fun outer H s E ev s'=>∃a T cls t H',ev=.ref a∧s'.os=s.os∧AllBare s'.gens∧Un (frs outer) [] H H' s.heap s'.heap∧HOk P w H' s'.heap ∧
 s.heap.get? a=none∧s.heap.get? T=none∧H' a=none∧H' T=none∧Exc a T cls (.ref t) .none s'.heap∧E cls none H'
theorem HOk.lft {P:Program}{w:World}{H:Hp}{h h':Heap}{S R:List Addr}(x:HOk P w H h) (l:Lft S R h h') (hS:∀b∈S,H b=none) (hR:∀b∈R,H b=none):HOk P w H h':=by
 intro a o e
 refine (x a o e).stay (fun b u hb q=>?_) (fun _ q=>q) fun _ _ q=>q
 have hn:H b≠none:=by
  rcases hb with z|z
  ·subst z;rw[e];exact fun z=>nomatch z
  ·rw[z];exact fun z=>nomatch z
 exact l.keep b u (fun z=>hn (hR b z)) (fun z=>hn (hS b z)) q
theorem ObjOk.at {P:Program}{w:World}{H:Hp}{h:Heap}{a:Addr}{o:HO}(x:ObjOk P w H h a o):∃u,h.get? a=some u:=by
 cases o with
 |lst xs=>obtain ⟨_,_,_,_,e⟩:=x;exact ⟨_,e⟩
 |tup xs=>obtain ⟨_,_,_,o,e,_⟩:=x;exact ⟨_,e⟩
 |dK kvs=>obtain ⟨_,_,_,_,o,_,_,e,_⟩:=x;exact ⟨_,e⟩
 |dT kvs=>obtain ⟨_,_,_,_,o,_,_,e,_⟩:=x;exact ⟨_,e⟩
 |set S n=>obtain ⟨o,_,_,_,e,_⟩:=x;exact ⟨_,e⟩
 |ins C dx fs=>obtain ⟨_,_,_,e,_⟩:=x;exact ⟨_,e⟩
 |own y=>exact x
 |xd fs=>obtain ⟨_,⟨_,_,_,e,_⟩,_⟩:=x;exact ⟨_,e⟩
 |rng lo hi=>obtain ⟨_,_,_,e⟩:=x;exact ⟨_,e⟩
 |frz ob u=>obtain ⟨e,_⟩:=x;exact ⟨_,e⟩
 |tbl ps=>exact ⟨_,(show h.get? a=some _ from x)⟩
 |met f y=>exact ⟨_,(show h.get? a=some _ from x)⟩
 |ext φ=>obtain ⟨_,e,_⟩:=x;exact e
theorem HOk.no {P:Program}{w:World}{H:Hp}{h:Heap}{a:Addr}(x:HOk P w H h) (e:h.get? a=none):H a=none:=by
 cases q:H a with
 |none=>rfl
 |some o=>
  obtain ⟨u,z⟩:=(x a o q).at
  rw[e] at z
  cases z
theorem Un.no {fs:List Addr}{H H1:Hp}{h h1:Heap}{a:Addr}(u:Un fs [] H H1 h h1) (e:h1.get? a=none):h.get? a=none:=by
 cases q:h.get? a with
 |none=>rfl
 |some o=>
  obtain ⟨o',z⟩:=u.there a o q (by simp)
  rw[e] at z
  cases z
theorem Un.lft {fs S R:List Addr}{H H1:Hp}{h h1 h2:Heap}(u:Un fs [] H H1 h h1) (l:Lft S R h1 h2) (hR:∀b∈R,h.get? b=none) (hS:∀b∈S,b∈fs∨h.get? b=none):Un fs [] H H1 h h2:=by
 have nR:∀b o,h.get? b=some o→b∉R:=fun b o q z=>by rw[hR b z] at q;cases q
 refine ⟨fun b o q n m k=>?_,fun b o q n m k=>?_,u.free,fun b o q k=>?_,u.tups,u.frzs,u.tbls⟩
 ·refine l.keep b o (nR b o q) (fun z=>?_) (u.keep b o q n m k)
  rcases hS b z with y|y
  ·exact m y
  ·rw[y] at q;cases q
 ·obtain ⟨sl,z⟩:=u.slot b o q n m k
  obtain ⟨sl',y⟩:=l.slot b _ (nR b o q) z
  exact ⟨sl',y⟩
 ·obtain ⟨o',z⟩:=u.there b o q k
  exact l.there b o' z
theorem zks {base:Heap}{H H2:Hp}{h h2:Heap}{fs:List Addr}(u:Un fs [] H H2 h h2):∀ {l:List Env},h.FunFrames base l→(∀b∈frs l,H b=none)→h2.FunFrames base l:=by
 intro l
 induction l with
 |nil=>intro _ _;trivial
 |cons env r ih=>
  intro hl hz
  obtain ⟨hk,⟨L,o,hf,hn,ho,hd⟩,hr⟩:=hl
  have em:frs (env::r)=L::frs r:=by unfold frs;rw[List.filterMap_cons,hf]
  rw[em] at hz
  obtain ⟨sl,q⟩:=u.any ho (hz L List.mem_cons_self) (by simp)
  exact ⟨hk,⟨L,_,hf,hn,q,hd⟩,ih hr fun b z=>hz b (List.mem_cons_of_mem _ z)⟩
def Rz (X:Cx) (E:XK):Prop:=∀(pins:List (Addr×Obj)) (σ:St) (H:Hp) (s:Shared) (h':Heap) (a:Addr) (cls:Value) (vs:List Value),Inv X pins σ H s→Heap.MadeExcOf s.heap h' a cls vs→E cls none H→X.xe (.ref a) { s with heap:=h' }
section
variable {P:Program}{w:World}{K:W.Frag}{mg:Str→Option Value}{base:Heap}{N:List Str}{qual:Str}{scope:Scope}{f:Addr}{cd:Value}{A:Around}{outer:List Env}{s:Shared}{H:Hp}{E:XK}
theorem zjj {b:Addr}{pins:List (Addr×Obj)}{σ:St}{H1:Hp}{s1:Shared}(I:Inv (cxOf (CXE P w) P w K mg base N qual scope f cd A outer s H E) pins σ H1 s1)
  (z:b∈frs (envOfC qual scope s.heap.objs.size f cd::outer)):b∈frs outer∨s.heap.get? b=none:=by
 have z:b∈(s.heap.objs.size::frs outer):=z
 rcases List.mem_cons.mp z with y|y
 ·exact .inr (Heap.get?_none_of_le (Nat.le_of_eq y.symm))
 ·exact .inl y
theorem zkt:Rz (cxOf (CXE P w) P w K mg base N qual scope f cd A outer s H E) E:=by
 intro pins σ H1 s1 h' a cls vs I M hE
 show wpAny _ (A.deeper _) (leaving _ (.ref a)) _ _ _
 unfold leaving
 obtain ⟨t,he,htn,ht⟩:=M.there
 have fr:(A.deeper (envOfC qual scope s.heap.objs.size f cd)).frames=some (envOfC qual scope s.heap.objs.size f cd::outer):=I.ok.frames
 have fz:=I.stkFree
 have ub:Un (frs outer) [] H H1 s.heap s1.heap:=I.base
 have na:=I.hok.no M.new
 have nT:∀T,h'.get? T=none→s1.heap.get? T=none:=fun T q=>by
  cases z:s1.heap.get? T with
  |none=>rfl
  |some o=>rw[M.keeps T o z] at q;cases q
 have hl:h'.FunFrames base (envOfC qual scope s.heap.objs.size f cd::outer):=I.stack.of_keeps fun b o q _=>⟨o,M.keeps b o q,rfl⟩
 refine wpAny_bind (zic (s:={ s1 with heap:=h' }) fr hl rfl he rfl rfl rfl rfl rfl fun h2 T l2 kT x2=>?_)
 refine zhb (s:={ s1 with heap:=h2 }) x2 fun h3 l3 x3=>?_
 have eT:s1.heap.get? T=none:=nT T (Heap.get?_none_of_le kT)
 have u1:Un (frs outer) [] H H1 s.heap h':=ub.trans (Un.kept M.keeps)
 have u2:=u1.lft l2 (fun b z=>by rw[List.mem_singleton.mp z];exact ub.no M.new) fun b z=>zjj I z
 have u3:=u2.lft l3 (fun b z=>by rw[List.mem_singleton.mp z];exact ub.no eT) fun b z=>absurd z (by simp)
 have nTH:=I.hok.no eT
 have k1:HOk P w H1 h':=I.hok.kept M.keeps
 have k2:HOk P w H1 h2:=k1.lft l2 (fun b z=>fz b z) fun b z=>by rw[List.mem_singleton.mp z];exact na
 have k3:HOk P w H1 h3:=k2.lft l3 (fun b z=>absurd z (by simp)) fun b z=>by rw[List.mem_singleton.mp z];exact nTH
 exact ⟨a,T,cls,t,H1,rfl,I.os,I.bare,u3,k3,ub.no M.new,ub.no eT,na,nTH,x3,hE⟩
end
abbrev bmVE:List Value:=[.type "ValueError",.type "Exception",.type "BaseException",.type "object"]
theorem zku {K:W.Frag}{h:Heap}{mg:Str→Option Value}{x:Str}{C:Addr}{bmB:List Value}{newId:String}(X:K.In h) (e:mg x=some (.ref C)) (q:W.excIn K C bmB newId=true):OwnCls x C bmB newId mg h:=by
 refine ⟨e,?_⟩
 unfold W.excIn at q
 split at q
 ·next dd cd sl ho=>
  split at q
  ·next C' bm k0 k1 k2 k3 n k5 hm hs=>
   simp only[Bool.and_eq_true,beq_iff_eq,Bool.not_eq_true'] at q
   obtain ⟨⟨⟨⟨⟨q1,q2⟩,q3⟩,q4⟩,q5⟩,q6⟩:=q
   have sl':sl=#[k0,k1,k2,k3,some (.builtin n),k5]:=by rw[←hs]
   subst q1 q2 sl'
   cases cd
   simp only at hm q3 q5 q6
   subst hm q3
   exact ⟨_,_,_,_,_,_,_,_,_,_,_,_,_,_,_,_,_,X _ _ ho,.of_isNs (W.isNs_of_in X q5),W.nsMap_none_of_in X q5 q6,W.tail_of_in X q4⟩
  ·cases q
 ·cases q
section
variable {X:Cx}{x:Str}{C:Addr}{e:Expr}{es:List Expr}{t:TA}{np cpos pos:Pos}{E:XK}
theorem zfR (hk:W.excIn X.K C bmVE "ValueError.__new__"=true) (hc:X.calm=true) (hg:Gl X x) (hm:X.mg x=some (.ref C)) (ha:PA X (e::es) t) (hR:Rz X E)
  (hd:(x==("__debug__":Str))=false:=by decide) (he:starEach (e::es) X.env=(false,eval e X.env)::starEach es X.env:=by rfl) (hpl:(backTo cpos (starEach es X.env)).any (·.1)=false:=by rfl) :
  PS X (.Raise (some (.Call (.Name x np) (e::es) [] cpos)) none pos) (fun _ σ H=>t σ H fun vs H1=>vs.length≤sizeLine∧E (.ref C) none H1):=by
 intro pins s σ H D I h
 have O:=zku I.ok.mod.kin hm hk
 obtain ⟨tl,N,nm,q,bs,hdct,sn,sub,ab,col,dd,k0,k1,k2,k3,k5,mN,hC,hN,hni,T⟩:=O.obj
 have pl:(backTo cpos (starEach (e::es) X.env)).any (·.1)=false:=by
  rw[he]
  show (false || (backTo cpos (starEach es X.env)).any (·.1))=false
  rw[hpl];rfl
 refine wpAny_Raise_call_subU (k5:=k5) (k3:=k3) (k2:=k2) (k1:=k1) (k0:=k0) (dd:=dd) (col:=col) (ab:=ab) (sub:=sub) (sn:=sn) (hdct:=hdct) (bs:=bs) (N:=N) (q:=q) (nm:=nm) F.excBase_ValueError rfl F.excBase_ValueError (T.hasType F.excBase_ValueError.hasBase) (I.ok.hd hc) pl hni (zcK I hg hm ⟨rfl,?_⟩ hd)
 have h2:=ha cpos pins s σ H _ I h
 rw[he] at h2 ⊢
 refine Calls.evalArgs_plain (wpAny_mono h2 (fun us s2 h3=>?_) fun _ _ y=>y)
 obtain ⟨vs,H1,I1,r,z,q⟩:=h3
 exact ⟨rfl,by rw[←r.length];exact z,I1.bk _ _ hC,hN.keeps I1.bk,T.keeps I1.bk,fun h' a m=>hR pins σ H1 s2 h' a _ _ I1 m q⟩
end
section
variable {P:Program}{w:World}{K:W.Frag}{mg:Str→Option Value}{base:Heap}
theorem Fun.okX {x qual:Str}{st:Stmt}{f:Addr}{fd:FuncData}{N ps:List Str}{k:Nat}{sp:Sp}(F:Fun K x qual st f fd) (S:zar N ps (zag st)) (len:∀vs H Q E,sp vs H Q E→vs.length=ps.length)
  (hbody:∀(cdv:Value) (A:Around) (outer:List Env) (s:Shared) (H:Hp) (vs:List V) (Q:VK) (E:XK),Room k (A.deeper (envOfC qual (zag st) s.heap.objs.size f cdv))→sp vs H Q E →
   ∃t,PSs (cxOf (CXE P w) P w K mg base N qual (zag st) f cdv A outer s H E) (zbo st) t∧t { nx:=fun _ H'=>Q .non H',rt:=Q } (start N vs) H):FnOk P w K mg base (CXE P w) (k+1) f fd ps sp:=by
 obtain ⟨oc,od,kV,doc,pm,an,cdv,ct,osl,rfl,lk,hcd⟩:=F.ex
 refine zka lk hcd S len fun A outer s H vs Q E hr hsp=>?_
 exact hbody cdv A outer s H vs Q E hr hsp
end
def exH (a:Addr) (cls:Value):HO:=.ext fun h=>∃o vs,h.get? a=some o∧o.cls=cls∧o.data=.fields vs∧vs[2]?=some .none∧o.dict=none
theorem zkv {P:Program}{w:World}{H:Hp}{h:Heap}{a T:Addr}{cls a0 fl:Value}(x:Exc a T cls a0 fl h):ObjOk P w H h a (exH a cls):=by
 obtain ⟨o,vs,_,_,e,c,d,_,_,_,_,_,_,n2,dn⟩:=x
 refine ⟨⟨o,vs,e,c,d,n2,dn⟩,⟨o,e⟩,fun h1 h2 q k=>?_⟩
 obtain ⟨o1,vs1,e1,c1,d1⟩:=q
 exact ⟨o1,vs1,k o1 e1,c1,d1⟩
theorem HOk.add {P:Program}{w:World}{H:Hp}{h:Heap}{a:Addr}{o:HO}(x:HOk P w H h) (n:H a=none) (new:ObjOk P w (upd H a o) h a o):HOk P w (upd H a o) h:=by
 intro b u e
 by_cases z:b=a
 ·subst z;rw[zac] at e;cases e;exact new
 ·rw[zat z] at e
  exact (x b u e).stay (fun _ _ _ q=>q) (fun c q=>by rw[zat (zae q n)];exact q) fun c xs q=>by rw[zat (zae q n)];exact q
theorem Un.add {fs:List Addr}{H H1:Hp}{h h1:Heap}{a:Addr}{o:HO}(u:Un fs [] H H1 h h1) (n:H1 a=none) (e:h.get? a=none):Un fs [] H (upd H1 a o) h h1:=by
 refine ⟨u.keep,u.slot,fun b ob q m k=>?_,u.there,fun b xs q=>?_,fun b ob v q=>?_,fun b ps q=>?_⟩
 ·rw[zat fun z=>by subst z;rw[e] at q;cases q]
  exact u.free b ob q m k
 ·have z:=u.tups b xs q
  rw[zat (zae z n)];exact z
 ·have z:=u.frzs b ob v q
  rw[zat (zae z n)];exact z
 ·obtain ⟨m,z⟩:=u.tbls b ps q
  exact ⟨m,by rw[zat (zae z n)];exact z⟩
section
variable {P:Program}{w:World}{M:Model}{A:Around}{env:Env}{outer:List Env}{L:Addr}{base:Heap}{H:Hp}{s s':Shared}{E:XK}{EE:Value→Shared→Prop}{ev:Value}
theorem noted {Q:Unit→Shared→Prop}(hfr:A.frames=some (env::outer)) (hf:env.frame=some L) (hl:s.heap.FunFrames base (env::outer)) (fz:∀b∈frs (env::outer),H b=none) (c:CXE P w (env::outer) H s E ev s')
  (h:∀s2,CXE P w (env::outer) H s E ev s2→Q () s2):wpAny M A (noteFrame ev env) (fun _ s2=>wpAny M A (setFlight ev none) Q EE s2) EE s':=by
 obtain ⟨a,T,cls,t,H2,rfl,os,bare,un,hok,ea,eT,na,nT,x,hE⟩:=c
 have fz2:∀b∈frs (env::outer),H2 b=none:=fun b z=>by
  obtain ⟨_,o,q,_⟩:=hl.mem z
  exact un.free b o q (fz b z) (by simp)
 refine zji hfr (zks un hl fz) hf x fun h2 T' l2 kT x2=>?_
 refine zhb (s:={ s' with heap:=h2 }) x2 fun h3 l3 x3=>h _ ?_
 have eT':s'.heap.get? T'=none:=Heap.get?_none_of_le kT
 have nT':H2 T'=none:=hok.no eT'
 have two:∀b∈[a,T],s.heap.get? b=none∧H2 b=none:=fun b z=>by
  rcases List.mem_cons.mp z with y|y
  ·rw[y];exact ⟨ea,na⟩
  ·rw[List.mem_singleton.mp y];exact ⟨eT,nT⟩
 have u2:=un.lft l2 (fun b z=>(two b z).1) fun b z=>.inl z
 have u3:=u2.lft l3 (fun b z=>by rw[List.mem_singleton.mp z];exact un.no eT') fun b z=>absurd z (by simp)
 have k2:HOk P w H2 h2:=hok.lft l2 fz2 fun b z=>(two b z).2
 have k3:HOk P w H2 h3:=k2.lft l3 (fun b z=>absurd z (by simp)) fun b z=>by rw[List.mem_singleton.mp z];exact nT'
 exact ⟨a,T',cls,t,H2,rfl,os,bare,u3,k3,ea,un.no eT',na,nT',x3,hE⟩
theorem flown {Q:Unit→Shared→Prop}(c:CXE P w outer H s E ev s') (h:∀s2,CXE P w outer H s E ev s2→Q () s2):wpAny M A (setFlight ev none) Q EE s':=by
 obtain ⟨a,T,cls,t,H2,rfl,os,bare,un,hok,ea,eT,na,nT,x,hE⟩:=c
 refine zhb x fun h3 l3 x3=>h _ ?_
 have u3:=un.lft l3 (fun b z=>by rw[List.mem_singleton.mp z];exact eT) fun b z=>absurd z (by simp)
 have k3:HOk P w H2 h3:=hok.lft l3 (fun b z=>absurd z (by simp)) fun b z=>by rw[List.mem_singleton.mp z];exact nT
 exact ⟨a,T,cls,t,H2,rfl,os,bare,u3,k3,ea,eT,na,nT,x3,hE⟩
end
section
variable {X:Cx}{pins:List (Addr×Obj)}{σ:St}{H:Hp}{s s':Shared}{E:XK}{ev:Value}
def XP (X:Cx) (pins:List (Addr×Obj)) (σ:St) (E:XK) (ev:Value) (s':Shared):Prop:=∃H s,Inv X pins σ H s∧CXE X.prog X.w X.stack H s E ev s'∧X.t0≤s'.toks
theorem Inv.caught (I:Inv X pins σ H s) (c:CXE X.prog X.w X.stack H s E ev s') (ht:X.t0≤s'.toks):∃a cls H',ev=.ref a∧H' a=none∧E cls none H'∧Inv X pins σ (upd H' a (exH a cls)) s'∧∃o,s'.heap.get? a=some o∧o.cls=cls:=by
 obtain ⟨a,T,cls,t,H2,rfl,os,bare,un,hok,ea,eT,na,nT,x,hE⟩:=c
 obtain ⟨o,_,_,_,e,cc,_⟩:=id x
 exact ⟨a,cls,H2,rfl,na,hE,I.call' (ch:=[]) os ht (un.add na ea) (hok.add na (zkv x)) bare fun b z=>absurd z (by simp),o,e,cc⟩
end
section
variable {X:Cx}{pins:List (Addr×Obj)}{σ:St}{H:Hp}{s:Shared}
theorem zd5 {M:Model}{A:Around}{E:Value→Shared→Prop}{i:Nat}{x:Str}{pos:Pos}{Q:Unit→Shared→Prop}(I:Inv X pins σ H s) (hN:X.N.Nodup) (hi:X.N[i]?=some x) (hk:X.env.scope.names.lookup x=some .local)
  (h:∀s',Inv X pins (σ.set i none) H s'→Q () s'):wpAny M A (do bindName X.env x .none;unbindBehindTheSuite X.env x pos) Q E s:=by
 refine wpAny_bind (wpAny_bindName (zcl (v:=.non) I hN hi (.inl hk) rfl (fun s1 I1=>?_) (.inr hk)))
 unfold unbindBehindTheSuite
 refine wpAny_onRaise ?_
 obtain ⟨m,hn,hl⟩:=id I1.loc
 have hcls:(X.env.scope.kind==.class || (X.env.scope.kind==.module&&X.env.locals != X.env.globals))=false:=by rw[I.ok.kind];rfl
 have hlen:i<σ.length:=by rw[I.len];exact (List.getElem?_eq_some_iff.mp hi).1
 obtain ⟨u,_,lk⟩:=hl i x .non hi (List.getElem?_set_self hlen) (.inl hk)
 have hv:m x=some u:=by
  rcases lk with ⟨_,z⟩|⟨z,_⟩
  ·exact z
  ·rcases z with z|z
   ·rw[show X.env.kindOf x=some .local from hk] at z;cases z
   ·rw[show X.env.kindOf x=some .local from hk] at z;cases z
 refine wpAny_unbindName_local hk hn hv hcls fun h' v hn' hs=>h _ ?_
 have lt:∀b o,X.s₀.heap.get? b=some o→b≠X.env.locals:=fun b o e=>Nat.ne_of_lt (Nat.lt_of_lt_of_le (Heap.lt_size e) I1.ok.above)
 have cne:=I1.cne
 refine ⟨I1.ok,I1.os,I1.bare,⟨fun b o e n hb hx=>?_,fun b o e n hb hx=>?_,I1.base.free,fun b o e hx=>?_,I1.base.tups,I1.base.frzs,I1.base.tbls⟩,⟨_,hn',fun j y w e1 e2 e3=>?_⟩,fun y c e=>?_,I1.free,I1.freeC,fun p hp=>?_,fun b ob e=>?_,(by rw[List.length_set];exact I.len),(by have q:=I1.tk;first|exact q|exact Nat.le_succ_of_le q)⟩
 ·rw[hs.2 b (lt b o e)];exact I1.base.keep b o e n hb hx
 ·obtain ⟨sl,z⟩:=I1.base.slot b o e n hb hx
  exact ⟨sl,by rw[hs.2 b (lt b o e)];exact z⟩
 ·obtain ⟨o',z⟩:=I1.base.there b o e hx
  exact ⟨o',by rw[hs.2 b (lt b o e)];exact z⟩
 ·by_cases hj:j=i
  ·subst hj
   rw[List.getElem?_set_self hlen] at e2
   cases e2
  ·rw[List.getElem?_set_ne (Ne.symm hj)] at e2
   obtain ⟨u',r',q⟩:=hl j y w e1 (by rw[List.getElem?_set_ne (Ne.symm hj)];exact e2) e3
   refine ⟨u',r',?_⟩
   rcases q with ⟨k,e⟩|⟨k,c,e,z⟩
   ·have ny:y≠x:=fun e=>hj (zdO hN e1 (e ▸ hi))
    exact .inl ⟨k,by simp[ny,e]⟩
   ·exact .inr ⟨k,c,e,z.sameBut hs (cne y c e)⟩
 ·obtain ⟨w',z⟩:=I1.cell y c e
  exact ⟨w',z.sameBut hs (cne y c e)⟩
 ·obtain ⟨e,n,ne,nf,d⟩:=I1.pin p hp
  exact ⟨by rw[hs.2 p.1 ne];exact e,n,ne,nf,d⟩
 ·refine (I1.hok b ob e).stay (fun c w' hc q=>?_) (fun _ q=>q) fun _ _ q=>q
  rw[hs.2 c fun z=>?_]
  ·exact q
  ·rcases hc with y|y
   ·rw[←y,z,I1.free] at e;cases e
   ·rw[z,I1.free] at y;cases y
end
abbrev TEX:=St→Hp→VK→XK→Prop
abbrev TSX:=Ends→XK→St→Hp→Prop
def PEx (X:Cx) (e:Expr) (t:TEX):Prop:=
 ∀(pins:List (Addr×Obj)) (s:Shared) (σ:St) (H:Hp) (Q:VK) (E:XK),Inv X pins σ H s→t σ H Q E→wpAny (model X.prog X.w) X.A (eval e X.env) (EP X pins σ Q) (XP X pins σ E) s
def PX (X:Cx) (st:Stmt) (t:TSX):Prop:=
 ∀(pins:List (Addr×Obj)) (s:Shared) (σ:St) (H:Hp) (D:Ends) (E:XK),Inv X pins σ H s→t D E σ H→wpAny (model X.prog X.w) X.A (exec st X.env) (SP X pins D) (XP X pins σ E) s
def PXs (X:Cx) (st:List Stmt) (t:TSX):Prop:=
 ∀(pins:List (Addr×Obj)) (s:Shared) (σ:St) (H:Hp) (D:Ends) (E:XK),Inv X pins σ H s→t D E σ H→wpAny (model X.prog X.w) X.A (execs st X.env) (SP X pins D) (XP X pins σ E) s
section
variable {X:Cx}{k:Nat}{f C:Addr}{fd:FuncData}{ps:List Str}{sp:Sp}{dvs:List V}{ds:List Value}{x m:Str}{p pos apos:Pos}{e o:Expr}{es:List Expr}{ta:TE}{t:TA}{tx:TEX}{i:Nat}{st:Stmt}{u v:TSX}{a b:List Stmt}
theorem zjk {pins:List (Addr×Obj)}{σ:St}{H:Hp}{s:Shared}{Q:VK}{E:XK}{us:List Value}{vs:List V}(F:FnOk X.prog X.w X.K X.mg X.base (CXE X.prog X.w) k f fd ps sp) (hr:Room k X.A) (hb:Binds X.K fd ps ds) (hd:Vals dvs ds)
  (I:Inv X pins σ H s) (r:Vals vs us) (h:sp (vs++dvs) H Q E) (h1:1≤X.t0:=by first|assumption|exact Nat.le_refl 1):wpAny (model X.prog X.w) X.A (call (.ref f) us) (EP X pins σ Q) (XP X pins σ E) s:=by
 have r2:Vals (vs++dvs) (us++ds):=r.append hd
 have hl:(us++ds).length=ps.length:=by rw[←r2.length];exact F.len _ _ _ _ h
 refine wpAny_call (codeAny_mono (codeAny_toks_of I.tk (F.run X.A X.stack s H ⟨us,[]⟩ (us++ds) (vs++dvs) Q E hr (I.env0 h1) (hb s us I.kIn hl) r2 h)) fun r s' ⟨ht,hq⟩=>?_)
 cases r with
 |error e=>exact ⟨H,s,I,hq,ht⟩
 |ok fl=>
  cases fl with
  |ret u=>exact I.after hq ht
  |next=>exact False.elim hq
  |brk=>exact False.elim hq
  |cont=>exact False.elim hq
theorem zid (F:FnOk X.prog X.w X.K X.mg X.base (CXE X.prog X.w) k f fd ps sp) (hr:Room k X.A) (hg:Gl X x) (hm:X.mg x=some (.ref f)) (hk:W.keepIn X.K (.ref f)=true) (hb:Binds X.K fd ps ds) (hd:Vals dvs ds)
  (ha:PA X.nox (e::es) t) (hdb:(x==("__debug__":Str))=false:=by decide) (he:starEach (e::es) X.env=(false,eval e X.env)::starEach es X.env:=by rfl) (hpl:(backTo pos (starEach es X.env)).any (·.1)=false:=by rfl) (h1:1≤X.t0:=by first|assumption|exact Nat.le_refl 1) :
  PEx X (.Call (.Name x p) (e::es) [] pos) (fun σ H Q E=>t σ H fun vs H1=>sp (vs++dvs) H1 Q E):=by
 intro pins s σ H Q E I h
 refine wpAny_Call_Name_kw (zcK I hg hm ?_ hdb)
 refine W.callWith_K (h₀:=X.base) I.ok.mod.kin hk (wpAny_mono (ha pos pins s σ H _ (I.wish _) h) (fun us s1 q=>?_) fun _ _ z=>False.elim z) he hpl
 obtain ⟨vs,H1,I1,r,q⟩:=q
 exact ⟨I1.kIn,zjk (h1:=h1) F hr hb hd I1.unwish r q⟩
theorem zkw {pos':Pos}(hN:X.N.Nodup) (hi:X.N[i]?=some x) (hx:Loc X.env.scope x) (he:PEx X e tx) (hs:swapsWith e (some (.Name x pos')) pos.line X.env=pure false:=by rfl)
  (hf:X.fn x=true∨X.env.scope.names.lookup x=some .local:=by first|exact .inl rfl|exact .inr rfl|assumption) :
  PX X (.Assign [.Name x pos'] e pos) (fun D E σ H=>tx σ H (fun y H1=>D.nx (σ.set i (some y)) H1) E):=by
 intro pins s σ H D E I h
 refine wpAny_Assign_Name (thn (he pins s σ H _ E I h) fun v s1 q=>?_) hs
 obtain ⟨y,H1,I1,r1,q1⟩:=q
 exact zcl I1 hN hi hx r1 (fun s2 I2=>⟨_,H1,I2,q1⟩) hf
theorem zjl (h:PX X st u):PXs X [st] u:=by
 intro pins s σ H D E I q
 refine wpAny_execs_cons (thn (h pins s σ H D E I q) fun f s1 z=>?_)
 cases f with
 |next=>exact wpAny_execs_nil z
 |brk=>exact z
 |cont=>exact z
 |ret u=>exact z
end
abbrev Cx.hand (X:Cx) (a:Addr):Cx:={ X with A:=X.A.mark (some (.ref a)),calm:=false,xe:=fun _ _=>False }
section
variable {X:Cx}{pins:List (Addr×Obj)}{σ:St}{H:Hp}{s:Shared}{a:Addr}
theorem Inv.hand (I:Inv X pins σ H s) (a:Addr):Inv (X.hand a) pins σ H s:=by
 have ok:=I.ok
 exact ⟨⟨ok.mod,ok.kind,ok.glob,ok.blt,ok.above,ok.inj,ok.has,ok.cab,(fun z=>nomatch z),ok.frames,ok.stk,ok.exf,ok.bs,ok.bsz,ok.noex,ok.exfs,ok.funs,ok.frf⟩,I.os,I.bare,I.base,I.loc,I.cell,I.free,I.freeC,I.pin,I.hok,I.len,I.tk⟩
theorem Inv.back (ok:X.Ok) (I:Inv (X.hand a) pins σ H s):Inv X pins σ H s:=⟨ok,I.os,I.bare,I.base,I.loc,I.cell,I.free,I.freeC,I.pin,I.hok,I.len,I.tk⟩
end
def Ends.less (D:Ends) (i:Nat):Ends:={ nx:=fun σ H=>D.nx (σ.set i none) H,rt:=D.rt,bk:=fun σ H=>D.bk (σ.set i none) H,ct:=fun σ H=>D.ct (σ.set i none) H }
def zkx (K:W.Frag) (C:Addr) (i:Nat) (tb:TSX) (ts:Addr→TS):TS:=fun D σ H=>
 tb D (fun cls _ H'=>W.exmOne K cls (.ref C)=some true∧∀a,H' a=none→ts a (D.less i) (σ.set i (some (.ref a))) (upd H' a (exH a cls))) σ H
section
variable {X:Cx}{i:Nat}{n x:Str}{C:Addr}{body suite:List Stmt}{b₀:Stmt}{np hpos pos:Pos}{tb:TSX}{ts:Addr→TS}
theorem zhc {M:Model}{h:Heap}{a:Addr}{o:Obj}{c:Value}(e:h.get? a=some o) (q:o.cls=c):W.Looks M h (typeOf (.ref a)) c:=by
 subst q
 exact (W.Looks.ld e).andThen .now
theorem zie (hN:X.N.Nodup) (hi:X.N[i]?=some n) (hk:X.env.scope.names.lookup n=some .local) (hst:X.stack=X.env::X.outer) (hf:X.env.frame=some X.env.locals) (hg:Gl X x) (hm:X.mg x=some (.ref C))
  (hb:PXs X body tb) (hs:∀a,PSs (X.hand a) (b₀::suite) (ts a)) (hdb:(x==("__debug__":Str))=false:=by decide) :
  PS X (.Try body [.ExceptHandler (some (.Name x np)) (some n) (b₀::suite) hpos] [] [] pos) (zkx X.K C i tb ts):=by
 intro pins s σ H D I h
 refine wpAny_Try_except (wpAny_mono (hb pins s σ H D _ I h) (fun f s1 q=>?_) fun ev s1 q=>?_)
 ·cases f with
  |next=>exact wpAny_execs_nil q
  |brk=>exact q
  |cont=>exact q
  |ret u=>exact q
 ·obtain ⟨H1,s0,I0,c,ht1⟩:=q
  have hl:=I0.stack
  have fz:=I0.stkFree
  rw[hst] at hl fz c
  have fr:X.A.frames=some (X.env::X.outer):=by rw[←hst];exact I0.ok.frames
  refine wpAny_mono (wpAny_toks_of ht1 (noted (Q:=fun _ s2=>CXE X.prog X.w (X.env::X.outer) H1 s0 _ ev s2) fr hf hl fz c fun s2 c2=>c2)) (fun _ sm hm'=>wpAny_mono (wpAny_toks_of hm'.1 hm'.2) (fun _ s2 hc2=>?_) fun _ _ z=>z.2) fun _ _ z=>z.2
  obtain ⟨ht2,c2⟩:=hc2
  have c2':=c2
  rw[←hst] at c2'
  obtain ⟨a,cls,H2,rfl,na,hE,J,o,go,co⟩:=I0.caught c2' ht2
  refine wpAny_handleBy_cons (codeAny_handlers_test ?_) (by intro q;cases q)
  refine zcK (J.hand a) hg hm ?_ hdb
  refine W.exm_one J.kIn (zhc go co) hE.1 _ _ _ s2 (fun _ _ q=>q) ?_
  refine codeAny_handlers_suite_as ?_
  refine wpAny_with_toks (n:=X.t0) ht2 ?_
  refine flown c2 fun s3 c3=>?_
  intro ht3
  rw[←hst] at c3
  obtain ⟨a',cls3,H3,e3,na3,hE3,J3,_⟩:=I0.caught c3 ht3
  cases e3
  refine zcl (X:=X.hand a) (v:=.ref a) (J3.hand a) hN hi (.inl hk) rfl (fun s4 I4=>?_) (.inr hk)
  refine wpAny_mono (hs a pins s4 _ _ _ I4 (hE3.2 a na3)) (fun f s5 q=>?_) fun _ _ z=>False.elim z
  cases f with
  |next=>
   obtain ⟨σ',H',I',q⟩:=q
   exact zd5 (I'.back I.ok) hN hi hk fun s6 I6=>⟨_,H',I6,q⟩
  |brk=>
   obtain ⟨σ',H',I',q⟩:=q
   exact zd5 (I'.back I.ok) hN hi hk fun s6 I6=>⟨_,H',I6,q⟩
  |cont=>
   obtain ⟨σ',H',I',q⟩:=q
   exact zd5 (I'.back I.ok) hN hi hk fun s6 I6=>⟨_,H',I6,q⟩
  |ret u=>
   obtain ⟨v,σ',H',I',r,q⟩:=q
   exact zd5 (I'.back I.ok) hN hi hk fun s6 I6=>⟨v,_,H',I6,r,q⟩
end
theorem zd6:entryFor table "proto.unchain"=some Builtin.«proto.unchain»:=entryFor_of_fast (by kernel_rfl)
section
variable {prog:Program}{w:World}{A:Around}{E:Value→Shared→Prop}{s:Shared}
def Lone (h:Heap) (a:Addr):Prop:=∃o vs,h.get? a=some o∧o.data=.fields vs∧vs[2]?=some .none
theorem zeL {e:Value}{a:Addr}{Q:Value→Shared→Prop}(l:Lone s.heap a) (h:Q .none s):wpAny (model prog w) A (runValue (.builtin "proto.unchain" ⟨[e,.ref a,.ref a,.bool false],[]⟩)) Q E s:=by
 obtain ⟨o,vs,g,d,n⟩:=l
 refine wpAny_runValue (codeAny_builtin zd6 ?_)
 show wpAny _ _ (field (.ref a) 2 >>= _) _ _ s
 refine wpAny_bind (wpAny_field g d n ?_)
 rw[if_pos (by rfl)]
 unfold ret
 exact wpAny_pure h
theorem zif {α:Type}{a b:Addr}{o:Obj}{vs:Array Value}{Q:α→Shared→Prop}(hh:A.handled=some (.ref a)) (ne:a≠b) (l:Lone s.heap a) (g:s.heap.get? b=some o) (d:o.data=.fields vs) (z:2<vs.size)
  (h:E (.ref b) { s with heap:=s.heap.update b (Obj.mapFields (·.setIfInBounds 2 (.ref a))) }):wpAny (model prog w) A (raiseNew (.ref b):Sem α) Q E s:=by
 unfold raiseNew
 refine wpAny_bind (wpAny_handled ?_)
 rw[hh]
 dsimp only
 rw[if_pos (by simp[ne])]
 refine wpAny_bind (wpAny_holding (zeL l ?_))
 unfold updateField
 refine wpAny_bind (wpAny_bind (wpAny_load g ?_))
 rw[d]
 dsimp only
 rw[if_pos z]
 exact wpAny_update g (wpAny_throw h)
theorem zeM {it a:Addr}{x left step:Int}{Q:Option Value→Shared→Prop}(hh:A.handled=some (.ref a)) (l:Lone s.heap a) (hit:IsRangeIter s.heap it x left step) (hleft:left≤0)
  (hQ:∀h',(∀b o,s.heap.get? b=some o→h'.get? b=some o)→Q none { s with heap:=h' }):wpAny (model prog w) A (pyNext (.ref it)) Q E s:=by
 have ty:s.TypeIs (.ref it) "range_iterator":=⟨_,hit,rfl⟩
 obtain ⟨oa,va,ga,da,na⟩:=id l
 unfold pyNext
 refine wpAny_bind (wpAny_attempt (wpAny_callSpecial?_slot (name:=Str.ofString "__next__") ty F.slot_range_iterator_next (wpAny_call_entry F.slot_range_iterator_next ty F.entry_range_iterator_next ?_ (F.args_range_iterator_next_1 _))))
 show wpAny _ _ (field (.ref it) 0 >>= _) _ _ s
 refine wpAny_bind (wpAny_field hit rfl (x:=rawInt x) rfl ?_)
 show wpAny _ _ (field (.ref it) 1 >>= _) _ _ s
 refine wpAny_bind (wpAny_field hit rfl (x:=rawInt left) rfl ?_)
 show wpAny _ _ (field (.ref it) 2 >>= _) _ _ s
 refine wpAny_bind (wpAny_field hit rfl (x:=rawInt step) rfl ?_)
 show wpAny _ _ (if left≤0 then _ else _) _ _ s
 rw[if_pos hleft]
 refine wpAny_bind (wpAny_rule (wpAny_bind ?_))
 show wpAny _ _ (newExc (.type "StopIteration") [] >>= _) _ _ _
 refine wpAny_bind ?_
 simp only[newExc,newTuple]
 refine wpAny_bind (wpAny_newObj_type ?_ (by size_fits))
 refine wpAny_bind (m:=firstArgMember _ _) (wpAny_of_eq (a:=Value.none) (by first|rfl|(simp only[firstArgMember];rfl)) ?_)
 refine wpAny_newObj_type ?_ (by size_fits)
 have ne:a≠(s.heap.push { cls:=Value.type "tuple",data:=Data.seq #[] }).objs.size:=Nat.ne_of_lt (Heap.lt_size (Heap.get?_push_of_some _ ga))
 refine zif (a:=a) hh ne ⟨oa,va,Heap.get?_push_of_some _ (Heap.get?_push_of_some _ ga),da,na⟩ (Heap.get?_push_size _ rfl) rfl (by rw[Array.size_append];exact Nat.lt_of_lt_of_le (by decide:2<6) (Nat.le_add_right _ _)) ?_
 refine wpAny_bind (wpAny_isInstance (T:="StopIteration") (b:=true) ⟨_,zc0 (Heap.get?_push_size _ rfl) rfl _,Obj.cls_mapFields _ _⟩ isSubtype_stop ?_)
 refine wpAny_pure (hQ _ fun b o q=>?_)
 show (Heap.update _ _ _).get? b=some o
 rw[Heap.get?_update_other _ _ (Ne.symm (Nat.ne_of_lt (Heap.lt_size (Heap.get?_push_of_some _ q))))]
 exact Heap.get?_push_of_some _ (Heap.get?_push_of_some _ q)
end
def ItrU (ea:Addr) (ecl:Value) (lo:Int) (n:Nat):It:=⟨fun i _=>i<n,fun i H x H'=>H'=H∧x=.int (lo+i),fun i H=>n≤i∧H ea=some (exH ea ecl)⟩
structure TurnU (ea:Addr) (ecl:Value) (P:Program) (w:World) (K:W.Frag) (tg:Expr) (J:It) (fp:List Addr) (it:Addr) (tn:Nat→Heap→Prop):Prop where
 mem:it∈fp
 obj:∀i h,tn i h→∀b∈fp,∃o,h.get? b=some o∧∀v,o.data≠.cell v
 keep:∀i h h',tn i h→(∀b∈fp,∀o,h.get? b=some o→h'.get? b=some o)→tn i h'
 item:∀(X:Cx),X.prog=P→X.w=w→X.K=K→X.A.handled=some (.ref ea)→∀(i:Nat) (pins:List (Addr×Obj)) (s:Shared) (σ:St) (H:Hp) (E:Value→Shared→Prop),Inv X pins σ H s→(∀b∈fp,FpOk X pins H b)→tn i s.heap→J.go i H →
  wpAny (model P w) X.A (pyNext (.ref it)) (fun r s1=>∃u,r=some u ∧
   wpAny (model P w) X.A (letOwnedTupleGo tg (.ref it) u) (fun _ s2=>∃x H',Inv X pins σ H' s2∧RelV x u∧J.yld i H x H'∧tn (i+1) s2.heap∧∀b∈fp,H' b=none) E s1) E s
 done:∀(X:Cx),X.prog=P→X.w=w→X.K=K→X.A.handled=some (.ref ea)→∀(i:Nat) (pins:List (Addr×Obj)) (s:Shared) (σ:St) (H:Hp) (E:Value→Shared→Prop),Inv X pins σ H s→(∀b∈fp,FpOk X pins H b)→tn i s.heap→J.stop i H →
  wpAny (model P w) X.A (pyNext (.ref it)) (fun r s1=>r=none∧Inv X pins σ H s1) E s
 self:∀(A:Around) (i:Nat) (s:Shared) (Q:Value→Shared→Prop) (E:Value→Shared→Prop),tn i s.heap→Q (.ref it) s→wpAny (model P w) A (pyIter (.ref it)) Q E s
def PIEU (ea:Addr) (ecl:Value) (X:Cx) (pins:List (Addr×Obj)) (σ:St) (tg:Expr) (R:It→Hp→Prop) (itv:Value) (s2:Shared):Prop:=
 ∃(it:Addr) (fp:List Addr) (tn:Nat→Heap→Prop) (J:It) (H':Hp),itv=.ref it∧Inv X pins σ H' s2∧TurnU ea ecl X.prog X.w X.K tg J fp it tn∧tn 0 s2.heap∧(∀b∈fp,FpOk X pins H' b)∧R J H'
def PIU (ea:Addr) (ecl:Value) (X:Cx) (tg iter:Expr) (wi:TI):Prop:=
 ∀(pins:List (Addr×Obj)) (s:Shared) (σ:St) (H:Hp) (R:It→Hp→Prop),Inv X pins σ H s→wi σ H R →
  wpAny (model X.prog X.w) X.A (eval iter X.env) (fun v s1=>wpAny (model X.prog X.w) X.A (pyIter v) (PIEU ea ecl X pins σ tg R) X.xe s1) X.xe s
theorem zfi {ea:Addr}{ecl:Value}{P:Program}{w:World}{K:W.Frag}{tg:Expr}(it:Addr) (lo:Int) (n:Nat):TurnU ea ecl P w K tg (ItrU ea ecl lo n) [it] it (fun i h=>IsRangeIter h it (lo+(i:Nat)*1) ((n:Int)-(i:Nat)) 1) where
 mem:=by simp
 obj:=fun i h st b hb=>by
  have e:b=it:=by simpa using hb
  subst e
  exact ⟨_,st,fun v z=>by
   have z':Data.fields _=Data.cell v:=z
   cases z'⟩
 keep:=fun i h h' st k=>k it (by simp) _ st
 item:=by
  intro X hP hw hK hc i pins s σ H E I hf st hg
  subst hP hw hK
  obtain ⟨f0,f1,f2,f3,f4,f5⟩:=hf it (by simp)
  have g':i<n:=hg
  refine wpAny_pyNext_range_item st (by omega) fun h' st' sb=>?_
  have I1:Inv X pins σ H { s with heap:=h',toks:=s.toks+1 }:=I.turned (fun b o hb e=>(sb.2 b hb).trans e) f0 f1 f3 f4 f5
  have e1:lo+(i:Int)*1+1=lo+((i+1:Nat):Int)*1:=by omega
  have e2:(n:Int)-(i:Int)-1=(n:Int)-((i+1:Nat):Int):=by omega
  rw[e1,e2] at st'
  refine ⟨_,rfl,ze3 (s:={ s with heap:=h',toks:=s.toks+1 }) (n:="range_iterator") st' rfl rfl (by decide) ⟨.int (lo+i),H,I1,⟨s.toks,?_⟩,⟨rfl,rfl⟩,st',fun b hb=>(hf b hb).1⟩⟩
  rw[Int.mul_one]
 done:=by
  intro X hP hw hK hc i pins s σ H E I hf st hg
  subst hP hw hK
  obtain ⟨f0,f1,f2,f3,f4,f5⟩:=hf it (by simp)
  obtain ⟨hn,he⟩:n≤i∧H ea=some (exH ea ecl):=hg
  have lone:Lone s.heap ea:=by
   obtain ⟨⟨o,vs,q1,_,q2,q3,_⟩,_⟩:=I.hok ea _ he
   exact ⟨o,vs,q1,q2,q3⟩
  exact zeM hc lone st (by omega) fun h' eb=>⟨rfl,I.turned (t':=s.toks) (fun b o hb e=>eb b o e) f0 f1 f3 f4 f5⟩
 self:=fun _ _ _ _ _ st h=>wpAny_pyIter_rangeiter st h
section
variable {ea:Addr}{ecl:Value}{X:Cx}{tg:Expr}
theorem zhd {pins:List (Addr×Obj)}{σ:St}{H:Hp}{s:Shared}{R:It→Hp→Prop}{E:Value→Shared→Prop}{lo hi:Int}{t u v:Tok}{tk:Nat}(I:Inv X pins σ H s) (h1:-(2 ^ 62)≤lo) (h2:lo<2 ^ 62) (h3:-(2 ^ 62)≤hi) (h4:hi<2 ^ 62)
  (q:R (ItrU ea ecl lo (hi-lo).toNat) H) (ht:X.t0≤tk:=by first|assumption|exact Inv.tk (by assumption)|(have q:=Inv.tk (by assumption);omega)):wpAny (model X.prog X.w) X.A (pyIter (.ref s.heap.objs.size)) (PIEU ea ecl X pins σ tg R) E { s with heap:=s.heap.push { cls:=.type "range",data:=.fields #[.int lo t,.int hi u,.int 1 v] },toks:=tk }:=by
 refine wpAny_pyIter_range (IsRange.new ..) (small_one h1 h2 h3 h4) ?_
 have I1:Inv X pins σ H { s with heap:=s.heap.push { cls:=.type "range",data:=.fields #[.int lo t,.int hi u,.int 1 v] },toks:=tk }:=I.kept fun b o e=>Heap.get?_push_of_some _ e
 refine ⟨(s.heap.push { cls:=.type "range",data:=.fields #[.int lo t,.int hi u,.int 1 v] }).objs.size,[(s.heap.push { cls:=.type "range",data:=.fields #[.int lo t,.int hi u,.int 1 v] }).objs.size],_,_,H,rfl,
  I1.kept (t':=tk) fun b o e=>Heap.get?_push_of_some _ e,zfi _ lo (hi-lo).toNat,?_,fun b hb=>?_,q⟩
 ·have e1:lo+((0:Nat):Int)*1=lo:=by simp
  have e2:(((hi-lo).toNat:Nat):Int)-((0:Nat):Int)=Builtin.Range.rangeSize lo hi 1:=by rw[rangeSize_one];split<;>omega
  show IsRangeIter _ _ (lo+((0:Nat):Int)*1) ((((hi-lo).toNat:Nat):Int)-((0:Nat):Int)) 1
  rw[e1,e2]
  exact Heap.get?_push_size _ rfl
 ·have e:b=(s.heap.push { cls:=.type "range",data:=.fields #[.int lo t,.int hi u,.int 1 v] }).objs.size:=by simpa using hb
  subst e
  exact I1.fpOk (Nat.le_refl _) (I1.hok.fresh (Nat.le_refl _))
def iRngU (ea:Addr) (ecl:Value) (ta:TA):TI:=fun σ H R=>ta σ H fun vs H1=>∃j:Int,vs=[.int j]∧-(2 ^ 62)≤j∧j<2 ^ 62∧R (ItrU ea ecl 0 j.toNat) H1
theorem zgq {a:Expr}{ta:TA}{p pos:Pos}(hg:Gl X "range") (hm:X.mg "range"=none) (ha:PA X [a] ta) (hs:starEach [a] X.env=[(false,eval a X.env)]:=by rfl):PIU ea ecl X tg (.Call (.Name "range" p) [a] [] pos) (iRngU ea ecl ta):=by
 intro pins s σ H R I h
 refine Call_ (zc8 I hg hm boot_range (PyProof.Rows.callWith_type1 (thn (ha pos pins s σ H _ I h) fun us s1 ⟨vs,H1,I1,r1,q1⟩=>?_) hs rfl))
 obtain ⟨j,e,q1,q2,q⟩:=q1
 subst e
 cases r1 with
 |cons r rr=>
  cases rr
  obtain ⟨t,rfl⟩:=r
  exact call_range_1 (zhd I1 (by omega) (by omega) q1 q2 (by simpa using q))
theorem zgr {X:Cx}(hE:X.xe=fun _ _=>False) (hc:X.A.handled=some (.ref ea)){e:Expr}{d:Nat}{tg iter:Expr}{ifs:List Expr}{acc:Value}{rest:Sem Unit}{g:TG}{tt:TT}{tr:TR}{J:It}{fp:List Addr}{it:Addr}{tn:Nat→Heap→Prop}
  (heq:compTurn e d (.ref it) acc X.env=(do
   standAt iter.pos
   match ← pyNext (.ref it) with
   |none=>pure (.done .next)
   |some v=>
    letOwnedTupleGo tg (.ref it) v
    assign tg X.env v
    let mut ok:=true
    for c in ifs do
     if ok then ok ← isTrue c X.env (eval c X.env)
    if ok then rest
    again (.compLoop e d (.ref it) acc X.env)))
  (hq:(Code.compLoop e d (.ref it) acc X.env).quiet=true) (hu:X.A.under (.compLoop e d (.ref it) acc X.env)=X.A) (hden:(model X.prog X.w).den (.compLoop e d (.ref it) acc X.env)=(compTurn e d (.ref it) acc X.env).onRaise (fun x=>do noteFrame x X.env;theTreesLotGoes x))
  (hg:PG X tg g) (ht:PTs X ifs tt) (hr:PR X rest tr) (T:TurnU ea ecl X.prog X.w X.K tg J fp it tn)
  {pins:List (Addr×Obj)} {σ:St} {H:Hp} {s:Shared} {Qe:St→Hp→Prop} {R:Result→Shared→Prop} (I:Inv X pins σ H s) (st:tn 0 s.heap) (f2:∀b∈fp,FpOk X pins H b) (h:tLoop J g tt tr Qe σ H)
  (hR:∀s' σ' H',Inv X pins σ' H' s'→Qe σ' H'→R (.ok .next) s') :
  codeAny (model X.prog X.w) X.A (.compLoop e d (.ref it) acc X.env) R s:=by
 obtain ⟨W,⟨m0,w0⟩,turn⟩:=h
 have stat:∀ {H':Hp},(∀b∈fp,H' b=none)→∀b∈fp,FpOk X pins H' b:=fun hn b hb=>⟨hn b hb,(f2 b hb).2⟩
 have no:∀ {α:Type} {t:Sem α} {Q:α→Shared→Prop} {s:Shared} {E:Value→Shared→Prop},wpAny (model X.prog X.w) X.A t Q X.xe s→wpAny (model X.prog X.w) X.A t Q E s:=fun {α t Q s E} h=>
  wpAny_mono h (fun _ _ x=>x) fun _ _ x=>by rw[hE] at x;exact x.elim
 refine codeAny_loop hq (fun n s'=>∃i σ' H',Inv X pins σ' H' s'∧tn i s'.heap∧(∀b∈fp,H' b=none)∧W i n σ' H') (fun n s3 hI=>?_) m0 ⟨0,σ,H,I,st,fun b hb=>(f2 b hb).1,w0⟩
 rw[hu,hden]
 refine wpAny_noted ?_
 rw[heq]
 obtain ⟨i,σ3,H3,I3,st3,fr3,w3⟩:=hI
 refine wpAny_bind (wpAny_standAt (wpAny_bind ?_))
 rcases turn i n σ3 H3 w3 with ⟨stop,qn⟩|⟨go,N,hN,step⟩
 ·refine no (thn (T.done X rfl rfl rfl hc i pins s3 σ3 H3 X.xe I3 (stat fr3) st3 stop) fun r s4 ⟨hr4,I4⟩=>?_)
  subst hr4
  exact wpAny_pure (hR _ _ _ I4 qn)
 ·refine no (thn (T.item X rfl rfl rfl hc i pins s3 σ3 H3 X.xe I3 (stat fr3) st3 go) fun r s4 ⟨u,hr4,h4⟩=>?_)
  subst hr4
  refine wpAny_bind (no (thn h4 fun _ s5 ⟨x,H5,I5,r5,y5,st5,fr5⟩=>?_))
  have I5':=I5.pinned (stat fr5) (T.obj _ _ st5)
  refine wpAny_bind (no (thn (hg _ s5 σ3 H5 x u _ I5' r5 (step x H5 y5)) fun _ s6 ⟨σ6,H6,I6,q6⟩=>?_))
  have again:∀ {σ7:St} {H7:Hp} {s7:Shared},Inv X (pins++zc9 fp s5.heap) σ7 H7 s7→N σ7 H7→∃m,m<n∧∃i σ' H',Inv X pins σ' H' s7∧tn i s7.heap∧(∀b∈fp,H' b=none)∧W i m σ' H':=fun {σ7 H7 s7} I7 n7=>by
   obtain ⟨m',hm,w7⟩:=hN σ7 H7 n7
   refine ⟨m',hm,i+1,σ7,H7,I7.unpinned,T.keep _ _ _ st5 fun b hb o e=>(I7.pin (b,o) (List.mem_append_right _ (List.mem_append_right _ (za7 hb e)))).1,fun b hb=>?_,w7⟩
   obtain ⟨o,e,dd⟩:=T.obj _ _ st5 b hb
   exact (I7.pin (b,o) (List.mem_append_right _ (List.mem_append_right _ (za7 hb e)))).2.1
  refine wpAny_bind (no (thn (ht _ s6 σ6 H6 _ I6 q6) fun ok s7 ⟨H7,I7,q7⟩=>?_))
  cases ok with
  |false=>
   rw[if_neg (by simp)] at q7
   exact wpAny_pure ⟨rfl,again I7 q7⟩
  |true=>
   rw[if_pos rfl] at q7
   refine wpAny_bind (no (thn (hr _ s7 σ6 H7 _ I7 q7) fun _ s8 ⟨σ8,H8,I8,q8⟩=>?_))
   exact wpAny_pure ⟨rfl,again I8 q8⟩
variable {elt iter:Expr}{ifs:List Expr}{sc:Scope}{pos:Pos}{N':List Str}{js:List (Option Nat)}{wi:TI}{g:TG}{tt:TT}{te:TE}
theorem zeN (hc:X.A.handled=some (.ref ea)) (B:BlkOk X sc) (C:CapsOk X sc N' js){cl:List (Str×Addr)}
  (c1:∀x c,cl.lookup x=some c→X.env.cells.lookup x=some c) (c2:∀x∈sc.names,x.2=.free→∃c,cl.lookup x.1=some c)
  (hg:∀cl s H fp,PG (X.blk sc cl N' s H fp) tg g) (ht:∀cl s H fp,PTs (X.blk sc cl N' s H fp) ifs tt) (he:∀cl s H fp,PE (X.blk sc cl N' s H fp) elt te)
  {pins:List (Addr×Obj)} {σ:St} {H:Hp} {s:Shared} {Qe:Addr→Hp→Prop} {it:Addr} {fp:List Addr} {tn:Nat→Heap→Prop} {J:It} {RR:Value→Addr→Result→Shared→Prop}
  (I:Inv X pins σ H s) (T:TurnU ea ecl X.prog X.w X.K tg J fp it tn) (st:tn 0 s.heap) (hf:∀b∈fp,FpOk X pins H b)
  (h:∀p,H p=none→tLoop J g tt (tApp p te) (fun _ H'=>Qe p H') (capSt σ js) (upd H p (.lst [])))
  (hRR:∀p C s' H',C≠p→(∀b o,s.heap.get? b=some o→b≠C)→H' C=none→(∃m,s'.heap.Ns C m)→Qe p H'→(∀h'',Heap.SameBut C s'.heap h''→Inv X pins σ H' { s' with heap:=h'' })→FpOk X pins H' C→RR (.ref p) C (.ok .next) s') :
  wpAny (model X.prog X.w) X.A (newList []) (fun acc s₃=>wpAny (model X.prog X.w) X.A (newFunctionEnv sc X.env.globals cl [] X.env.qual none .none (some X.env)) (fun cenv s₄=>
   codeAny (model X.prog X.w) X.A (.compStart (.ListComp elt [⟨tg,iter,ifs,0⟩] sc pos) 0 (.ref it) acc { cenv with scope:=relabel sc X.env }) (RR acc cenv.locals) s₄) X.xe s₃) X.xe s:=by
 refine wpAny_newObj_type ?_
 have I3:=I.lnew (ys:=[]) (its:=[]) (t':=s.toks) .nil (by simp)
 generalize hs3:({ s with heap:=s.heap.push { cls:=.type "list",data:=.seq ([]:List Value).toArray },toks:=s.toks }:Shared)=s3 at I3
 have hp:H s.heap.objs.size=none:=I.fresh
 have h3:=h _ hp
 have f3:∀b∈fp,FpOk X pins (upd H s.heap.objs.size (.lst [])) b∧b<s3.heap.objs.size:=fun b hb=>by
  obtain ⟨f0,f1⟩:=hf b hb
  obtain ⟨o,e,_⟩:=T.obj _ _ st b hb
  have lt:=Heap.lt_size e
  refine ⟨⟨by rw[zat (Nat.ne_of_lt lt)];exact f0,f1⟩,?_⟩
  rw[←hs3]
  show b<(s.heap.push _).objs.size
  rw[Heap.size_push]
  exact Nat.lt_succ_of_lt lt
 have hsz:s3.heap.objs.size=s.heap.objs.size+1:=by rw[←hs3];exact Heap.size_push ..
 have hst3:tn 0 s3.heap:=by rw[←hs3];exact T.keep _ _ _ st fun b hb o e=>Heap.get?_push_of_some _ e
 refine wpAny_newFunctionEnv B.nocell (by intro y hy;simp at hy) (fun h₁ hns₁ hsb₁=>?_) B.kind
 have J4:=zcq (cl:=cl) (N':=N') (σ':=capSt σ js) (tk:=s3.toks+([]:List (Str×Value)).length) (ht:=Nat.le_trans I3.tk (Nat.le_add_right _ _)) I3 B c1 c2 f3 C.len (fun i x v e1 e2 _=>C.get e1 e2) (show h₁.Ns s3.heap.objs.size (fun _=>none) from hns₁) (show Heap.SameBut s3.heap.objs.size (s3.heap.push { cls:=.type "dict",data:=.dict #[] }) h₁ from hsb₁)
 have hst4:tn 0 h₁:=T.keep _ _ _ hst3 fun b hb o e=>(hsb₁.2 b (Nat.ne_of_lt (Heap.lt_size e))).trans (Heap.get?_push_of_some _ e)
 have f4:∀b∈fp,FpOk (X.blk sc cl N' s3 (upd H s.heap.objs.size (.lst [])) fp) [] (upd H s.heap.objs.size (.lst [])) b:=fun b hb=>by
  obtain ⟨⟨g0,g1,g2,g3,g4,g5⟩,lt⟩:=f3 b hb
  refine ⟨g0,Nat.ne_of_lt lt,fun z=>?_,.inl hb,fun x c e=>g4 x c (c1 x c e),fun p hp=>absurd (show p∈([]:List (Addr×Obj)) from hp) (by simp)⟩
  rcases List.mem_cons.mp (I3.stkSub b z) with z|z
  ·exact g1 z
  ·exact g2 z
 have loop:codeAny (model X.prog X.w) X.A (.compLoop (.ListComp elt [⟨tg,iter,ifs,0⟩] sc pos) 0 (.ref it) (.ref s.heap.objs.size) (compEnvC sc cl s3.heap.objs.size X.env)) (RR (.ref s.heap.objs.size) s3.heap.objs.size) { s3 with heap:=h₁,toks:=s3.toks+([]:List (Str×Value)).length }:=by
  refine zgr (X:=X.blk sc cl N' s3 (upd H s.heap.objs.size (.lst [])) fp) rfl hc (compTurn_list ..) rfl rfl rfl (hg _ _ _ _) (ht _ _ _ _) (zgU (he _ _ _ _)) T J4 hst4 f4 h3 fun s' σ' H' J' q=>?_
  have hend:∀h'',Heap.SameBut s3.heap.objs.size s'.heap h''→Inv X pins σ H' { s' with heap:=h'' }:=fun h'' hs''=>zdU I3 f3 J' hs''
  obtain ⟨m,hn,_⟩:=J'.loc
  refine hRR _ _ _ H' (by rw[hsz];exact Nat.succ_ne_self _) (fun b o e=>?_) J'.free ⟨m,hn⟩ q hend (I3.fpOk (Nat.le_refl _) J'.free)
  rw[hsz]
  exact Nat.ne_of_lt (Nat.lt_succ_of_lt (Heap.lt_size e))
 exact codeAny_compStart_list loop (T.self _ 0 _ _ _ hst4 loop)
theorem zhe (hE:X.xe=fun _ _=>False) (hc:X.A.handled=some (.ref ea)) (B:BlkOk X sc) (C:CapsOk X sc N' js) (hi:PIU ea ecl X tg iter wi) (hg:∀cl s H fp,PG (X.blk sc cl N' s H fp) tg g) (ht:∀cl s H fp,PTs (X.blk sc cl N' s H fp) ifs tt) (he:∀cl s H fp,PE (X.blk sc cl N' s H fp) elt te)
  (hs:∀x,foldedSetIterable iter X.env x=pure x:=by intro _;rfl):PE X (.ListComp elt [⟨tg,iter,ifs,0⟩] sc pos) (tComp js wi g tt te):=by
 intro pins s σ H Q I h
 obtain ⟨cl,hcl,c1,c2⟩:=zbA X.env sc fun x hx hfr=>I.ok.has x.1 (.inl (B.free x hx hfr))
 rw[eval_ListComp]
 refine wpAny_comprehension_free (use:=none) rfl hs hcl B.kind B.names (thn (hi pins s σ H _ I h) fun v s1 h1=>thn h1 fun itv s2 h2=>?_)
 obtain ⟨it,fp,tn,J,H2,e,I2,T,st2,f2,h2⟩:=h2
 subst e
 refine zeN (Qe:=fun p H'=>Q (.ref p) H') (RR:=fun acc C=>compPost (model X.prog X.w) X.A X.xe none (EP X pins σ Q) acc C) hc B C c1 c2 hg ht he I2 T st2 f2 h2 ?_
 intro p C s' H' hne hold hfree hns q hend _
 obtain ⟨m,hn⟩:=hns
 exact ⟨m,hn,fun h'' hs''=>⟨.ref p,H',hend h'' hs'',rfl,q⟩⟩
end
structure RoomU (k:Nat) (A:Around):Prop where
 dp:A.depth+3*k+5<recursionLimit
 un:A.units+16*k+200<cLine
theorem Room.soft {k:Nat}{A:Around}(r:Room k A):RoomU k A:=⟨r.dp,r.un⟩
theorem RoomU.deeper {k:Nat}{A:Around}(r:RoomU (k+1) A) (env:Env):RoomU k (A.deeper env):=
 ⟨by have:=r.dp;show A.depth+1+3*k+5<_;omega,by have:=r.un;show A.units+3+16*k+200<_;omega⟩
theorem RoomU.depth {k:Nat}{A:Around}(r:RoomU k A):A.depth<recursionLimit:=by have:=r.dp;omega
structure FnOkU (P:Program) (w:World) (K:W.Frag) (mg:Str→Option Value) (base:Heap) (k:Nat) (f:Addr) (fd:FuncData) (ps:List Str) (sp:Addr→Sp):Prop where
 len:∀ea vs H Q E,sp ea vs H Q E→vs.length=ps.length
 run:∀(A:Around) (outer:List Env) (s:Shared) (H:Hp) (args:Args) (us:List Value) (vs:List V) (Q:VK) (E:XK) (ea:Addr),RoomU k A→A.handled=some (.ref ea)→Env0 P w K mg base A outer s H→BindsTo s fd args (ps.zip us)→Vals vs us→sp ea vs H Q E →
  codeAny (model P w) A (.call (.ref f) args) (CR CX0 outer P w H s Q E) s
def cxOfU (P:Program) (w:World) (K:W.Frag) (mg:Str→Option Value) (base:Heap) (N:List Str) (qual:Str) (scope:Scope) (f:Addr) (cd:Value) (A:Around) (outer:List Env) (s:Shared) (H:Hp) (E:XK):Cx:=
 { cxOf CX0 P w K mg base N qual scope f cd A outer s H E with calm:=false,xe:=fun _ _=>False }
theorem zgs {P:Program}{w:World}{K:W.Frag}{mg:Str→Option Value}{base:Heap}{N ps:List Str}{qual:Str}{scope:Scope}{f:Addr}{cd:Value}{A:Around}{outer:List Env}{s s1:Shared}{H:Hp}{E:XK}{us:List Value}{vs:List V}
  (S:zar N ps scope) (e0:Env0 P w K mg base A outer s H) (hl:vs.length=ps.length) (r:Vals vs us)
  (x:InCallC s s.heap.objs.size (bindL (envOfC qual scope s.heap.objs.size f cd).kindOf (ps.zip us) fun _=>none) (cellsFrom (s.heap.objs.size+1) scope.names []) (bindC (envOfC qual scope s.heap.objs.size f cd).kindOf (ps.zip us) fun _=>none) s1) (ht:1≤s1.toks) :
  Inv (cxOfU P w K mg base N qual scope f cd A outer s H E) [] (start N vs) H s1:=by
 have I:=zeA (CX:=CX0) (E:=E) (cd:=cd) (A:={ A with handled:=none }) S rfl ⟨e0.frames,e0.mod,e0.bs,e0.bsz,e0.funs,e0.frf,e0.hok,e0.bare,e0.tk⟩ hl r x ht
 exact ⟨⟨I.ok.mod,I.ok.kind,I.ok.glob,I.ok.blt,I.ok.above,I.ok.inj,I.ok.has,I.ok.cab,(fun z=>nomatch z),Around.frames_deeper e0.frames,I.ok.stk,I.ok.exf,I.ok.bs,I.ok.bsz,I.ok.noex,I.ok.exfs,I.ok.funs,I.ok.frf⟩,I.os,I.bare,I.base,I.loc,I.cell,I.free,I.freeC,I.pin,I.hok,I.len,I.tk⟩
theorem zky {P:Program}{w:World}{K:W.Frag}{mg:Str→Option Value}{base:Heap}{k:Nat}{f:Addr}{name qual:Str}{params:Arguments}{body:List Stmt}{scope:Scope}{dV kV doc pm cdv ct oc:Value}{an od:Option Addr}
  {osl:Array (Option Value)} {N ps:List Str} {sp:Addr→Sp} (lk:K.lookup f=some ⟨oc,od,.func (W.fnOf name qual params body scope dV kV doc pm an cdv ct),osl⟩) (hcd:W.codeIn K cdv qual=true) (S:zar N ps scope)
  (len:∀ea vs H Q E,sp ea vs H Q E→vs.length=ps.length)
  (hbody:∀(A:Around) (outer:List Env) (s:Shared) (H:Hp) (vs:List V) (Q:VK) (E:XK) (ea:Addr),RoomU k (A.deeper (envOfC qual scope s.heap.objs.size f cdv))→A.handled=some (.ref ea)→sp ea vs H Q E →
   ∃t,PSs (cxOfU P w K mg base N qual scope f cdv A outer s H E) body t∧t { nx:=fun _ H'=>Q .non H',rt:=Q } (start N vs) H) :
  FnOkU P w K mg base (k+1) f (W.fnOf name qual params body scope dV kV doc pm an cdv ct) ps sp:=by
 refine ⟨len,fun A outer s H args us vs Q E ea hr hh e0 hb r hsp=>?_⟩
 have hl:=len _ _ _ _ _ hsp
 have KX:K.In s.heap:=e0.mod.kin.keeps fun b o e=>(e0.bs b o e).1
 have lim:s.heap.NoLimit:=e0.mod.nolimit.keeps fun b o e=>(e0.bs b o e).1
 have hkind:∀y∈ps.zip us,scope.names.lookup y.1=some .local∨(scope.names.lookup y.1=some .cell∧((cellsFrom (s.heap.objs.size+1) scope.names []).lookup y.1).isSome=true):=fun ⟨n,v⟩ hy=>by
  rcases S.par n (List.of_mem_zip hy).1 with q|q
  ·exact .inl q
  ·exact .inr ⟨q,W.cellsFrom_some _ _ _ (.inl q)⟩
 refine codeAny_call_function hr.depth (KX _ _ lk) rfl S.co S.gen rfl (W.codeRec_of KX hcd) (hb _ _ _ _ ?_)
 refine wpAny_with_toks (n:=1) e0.tk (wpAny_newFunctionEnv_cells S.kind hkind fun env he s1 x ht1=>?_)
 subst he
 refine ⟨lim.keeps x.toInCall.keep,codeAny_func ?_⟩
 obtain ⟨t,ht,hq⟩:=hbody A outer s H vs Q E ea (hr.deeper _) hh hsp
 have I:Inv (cxOfU P w K mg base N qual scope f cdv A outer s H E) [] (start N vs) H s1:=zgs S e0 hl r x ht1
 refine wpAny_mono (ht [] s1 (start N vs) H _ I hq) (fun fl s' hs=>?_) fun e s' hs=>hs.elim
 have fin:∀ {σ':St} {H':Hp} {v:V} {u:Value},Inv (cxOfU P w K mg base N qual scope f cdv A outer s H E) [] σ' H' s'→RelV v u→Q v H'→CE outer P w H s Q u s':=
  fun {σ' H' v u} J rv q=>⟨v,H',J.os,J.bare,J.base,J.hok,rv,q⟩
 cases fl with
 |ret u=>
  obtain ⟨v,σ',H',J,rv,q⟩:=hs
  exact fin J rv q
 |next=>
  obtain ⟨σ',H',J,q⟩:=hs
  exact fin (v:=V.non) (u:=Value.none) J rfl q
 |brk=>
  obtain ⟨_,_,_,q⟩:=hs
  exact False.elim q
 |cont=>
  obtain ⟨_,_,_,q⟩:=hs
  exact False.elim q
section
variable {X:Cx}{k:Nat}{f:Addr}{fd:FuncData}{ps:List Str}{sp:Addr→Sp}{ds:List Value}{dvs:List V}{ea:Addr}{x:Str}{p pos:Pos}{e:Expr}{es:List Expr}{t:TA}
theorem zig (F:FnOkU X.prog X.w X.K X.mg X.base k f fd ps sp) (hr:RoomU k X.A) (hh:X.A.handled=some (.ref ea)) (hg:Gl X x) (hm:X.mg x=some (.ref f)) (hk:W.keepIn X.K (.ref f)=true) (hb:Binds X.K fd ps ds) (hd:Vals dvs ds)
  (ha:PA X (e::es) t) (hdb:(x==("__debug__":Str))=false:=by decide) (he:starEach (e::es) X.env=(false,eval e X.env)::starEach es X.env:=by rfl) (hpl:(backTo pos (starEach es X.env)).any (·.1)=false:=by rfl) (h1:1≤X.t0:=by first|assumption|exact Nat.le_refl 1) :
  PE X (.Call (.Name x p) (e::es) [] pos) (fun σ H Q=>t σ H fun vs H1=>sp ea (vs++dvs) H1 Q E0):=by
 intro pins s σ H Q I h
 refine wpAny_Call_Name_kw (zcK I hg hm ?_ hdb)
 refine W.callWith_K (h₀:=X.base) I.ok.mod.kin hk (thn (ha pos pins s σ H _ I h) fun us s1 q=>?_) he hpl
 obtain ⟨vs,H1,I1,r,q⟩:=q
 refine ⟨I1.kIn,?_⟩
 have r2:Vals (vs++dvs) (us++ds):=r.append hd
 have hl:(us++ds).length=ps.length:=by rw[←r2.length];exact F.len _ _ _ _ _ q
 refine wpAny_call (codeAny_mono (codeAny_toks_of I1.tk (F.run X.A X.stack s1 H1 ⟨us,[]⟩ (us++ds) (vs++dvs) Q E0 ea hr hh (I1.env0 h1) (hb s1 us I1.kIn hl) r2 q)) fun r s' ⟨ht,hq⟩=>?_)
 cases r with
 |error e=>exact hq.elim
 |ok fl=>
  cases fl with
  |ret u=>exact I1.after hq ht
  |next=>exact False.elim hq
  |brk=>exact False.elim hq
  |cont=>exact False.elim hq
end
section
variable {P:Program}{w:World}{K:W.Frag}{mg:Str→Option Value}{base:Heap}
theorem Fun.okU {x qual:Str}{st:Stmt}{f:Addr}{fd:FuncData}{N ps:List Str}{k:Nat}{sp:Addr→Sp}(F:Fun K x qual st f fd) (S:zar N ps (zag st)) (len:∀ea vs H Q E,sp ea vs H Q E→vs.length=ps.length)
  (hbody:∀(cdv:Value) (A:Around) (outer:List Env) (s:Shared) (H:Hp) (vs:List V) (Q:VK) (E:XK) (ea:Addr),RoomU k (A.deeper (envOfC qual (zag st) s.heap.objs.size f cdv))→A.handled=some (.ref ea)→sp ea vs H Q E →
   ∃t,PSs (cxOfU P w K mg base N qual (zag st) f cdv A outer s H E) (zbo st) t∧t { nx:=fun _ H'=>Q .non H',rt:=Q } (start N vs) H):FnOkU P w K mg base (k+1) f fd ps sp:=by
 obtain ⟨oc,od,kV,doc,pm,an,cdv,ct,osl,rfl,lk,hcd⟩:=F.ex
 refine zky lk hcd S len fun A outer s H vs Q E ea hr hh hsp=>?_
 exact hbody cdv A outer s H vs Q E ea hr hh hsp
end
open PySem.W (findIn findObj mroIn InstAt looks_findIn looks_find looks_mroIn class_get)
section
variable {prog:Program}{w:World}{A:Around}{E:Value→Shared→Prop}{s:Shared}{K:W.Frag}{a C:Addr}{ox:Obj}{odo:Option Obj}
theorem zjm {nm:Value}{Q:Unit→Shared→Prop}(X:K.In s.heap) (I:InstAt s.heap a ox C odo) (hb:mroIn K C (.type "BaseException")=some true) (h:Q () s) :
  wpAny (model prog w) A (checkBuiltinCall "BaseException.__getattribute__" ⟨[.ref a,nm],[]⟩) Q E s:=by
 obtain ⟨hh,g,d,t,os⟩:=s
 have LI:W.Looks (model prog w) hh (isInstance (.ref a) (.type "BaseException")) true:=(I.type (M:=model prog w)).andThen (looks_mroIn (M:=model prog w) X hb)
 have hkd:builtinKind "BaseException.__getattribute__"=some .slot:=by decide +kernel
 have hsp:splitId "BaseException.__getattribute__"=some ("BaseException","__getattribute__"):=by decide +kernel
 have har:=F.args_bexc_ga (.ref a) nm
 simp only[checkBuiltinCall,hkd,hsp]
 refine wpAny_bind (LI.at ?_)
 repeat (first|wp_step)
 exact h
theorem zhf {Q:Option Value→Shared→Prop}(X:K.In s.heap) (I:InstAt s.heap a ox C odo) (hga:findIn K (.ref C) "__getattribute__"=some (some (.builtin "BaseException.__getattribute__"))) (hk:findIn K (.ref C) "__getattr__"=some none)
  (hf:findObj K C odo "__class__"=some (.bind (.builtin "getset_descriptor.__get__") (.builtin "object.__class__"))) (hb:mroIn K C (.type "BaseException")=some true) (hm:mroIn K C (.type "object")=some true)
  (h:Q (some (.ref C)) { s with toks:=s.toks+1 }):wpAny (model prog w) A (getAttr? (.ref a) "__class__") Q E s:=by
 obtain ⟨hh,g,d,t,os⟩:=s
 have L0:=I.type (M:=model prog w)
 have L1:=looks_findIn (M:=model prog w) X hga
 have L2:=looks_find (M:=model prog w) X I hf
 have L3:=looks_findIn (M:=model prog w) X hk
 have L4:=looks_mroIn (M:=model prog w) X hb
 unfold getAttr? getAttrBy? getAttrBy
 refine wpAny_bind (wpAny_mkText (wpAny_bind (wpAny_attempt (wpAny_holding (wpAny_bind (L0.at (wpAny_bind (L1.at ?_))))))))
 dsimp only
 rw[if_neg (by rw[show (Value.builtin "BaseException.__getattribute__"==Value.builtin "object.__getattribute__")=false from by decide +kernel];simp)]
 unfold getAttrByItsOwn hookBefore
 rw[if_pos (show onTheHeap (Value.ref C)=true from rfl)]
 refine wpAny_bind (L3.at (wpAny_bind (wpAny_attempt (wpAny_holding ?_))))
 unfold callGetattribute
 rw[if_neg (by simp)]
 unfold boundAndCalled
 have fb:=F.attrBase_ValueError.ga.bind (.ref a)
 rw[fb]
 refine wpAny_bind (wpAny_pure ?_)
 show wpAny _ _ (call (.builtin "BaseException.__getattribute__") [.ref a,.str "__class__" t]) _ _ _
 refine wpAny_call (codeAny_call_builtin F.attrBase_ValueError.ga.plain F.entry_bexc_ga (zjm (s:={ heap:=hh,gens:=g,drawn:=d,toks:=t+1,os:=os }) X I hb ?_))
 unfold Builtin.«object.__getattribute__»
 refine wpAny_bind (wpAny_pure (wpAny_bind (wpAny_pure (wpAny_bind (L0.at (wpAny_bind (L2.at ?_)))))))
 show wpAny _ _ (holding [Value.builtin "object.__class__"] (call (.builtin "getset_descriptor.__get__") [.builtin "object.__class__",.ref a,.ref C]) >>= ret) _ _ _
 refine wpAny_bind (wpAny_holding (wpAny_call (class_get (s:={ heap:=hh,gens:=g,drawn:=d,toks:=t+1,os:=os }) (ox:=ox) (od:=odo) X I hm ?_)))
 unfold ret
 refine wpAny_pure ?_
 exact W.handed_on rfl (wpAny_pure h)
end
open PySem.W (findIn findObj mroIn InstAt clsIn specialIn takesIn KitX)
structure ExCls (K:W.Frag) (C:Addr):Prop where
 cls:(clsIn K C).isSome=true
 ga:findIn K (.ref C) "__getattribute__"=some (some (.builtin "BaseException.__getattribute__"))
 gx:findIn K (.ref C) "__getattr__"=some none
 at_:findIn K (.ref C) "__class__"=some (some (.builtin "object.__class__"))
 get:specialIn K (.builtin "object.__class__") "__get__"=some (some (.builtin "getset_descriptor.__get__"))
 tk:takesIn K (.builtin "object.__class__")=some true
 bex:mroIn K C (.type "BaseException")=some true
 obj:mroIn K C (.type "object")=some true
theorem ExCls.is {K:W.Frag}{C:Addr}{h:Heap}(x:ExCls K C) (X:K.In h):∃o cd,h.get? C=some o∧o.data=.cls cd:=by
 have e:=x.cls
 unfold clsIn at e
 split at e
 ·next c d cd sl ho=>exact ⟨_,cd,X _ _ ho,rfl⟩
 ·cases e
theorem ExCls.find {K:W.Frag}{C:Addr}(x:ExCls K C):findObj K C none "__class__"=some (.bind (.builtin "getset_descriptor.__get__") (.builtin "object.__class__")):=by
 obtain ⟨cd,hc⟩:=Option.isSome_iff_exists.mp x.cls
 unfold findObj
 simp[hc,x.at_,x.get,x.tk]
theorem zih {K:W.Frag}{a C:Addr}(x:ExCls K C):KitX K (.ref a) (.ref C) (fun h=>∃ox,InstAt h a ox C none) where
 ty:=fun M h X I=>by
  obtain ⟨ox,I⟩:=I
  exact I.type
 it:=fun M h X I=>by
  obtain ⟨o,cd,e,d⟩:=x.is X
  obtain ⟨oc,od,oda,osl⟩:=o
  dsimp only at d
  subst d
  intro A Q E s k q
  unfold isType loadHead
  exact wpAny_bind (wpAny_loadPart (k _ _ e) (wpAny_pure q))
 ne:=fun h tp dd its n sl X htp=>by
  obtain ⟨o,cd,e,d⟩:=x.is X
  refine Bool.eq_false_iff.mpr fun q=>?_
  have z:C=tp:=Value.ref.inj (beq_iff_eq.mp q)
  subst z
  rw[e] at htp
  cases htp
  cases d
 ca:=fun X I k=>by
  obtain ⟨ox,I⟩:=I
  exact zhf X I x.ga x.gx x.find x.bex x.obj k
theorem zii {P:Program}{w:World}{H:Hp}{h:Heap}{a C:Addr}(x:ObjOk P w H h a (exH a (.ref C))):∃ox,InstAt h a ox C none:=by
 obtain ⟨⟨o,vs,e,c,d,_,dn⟩,_⟩:=x
 obtain ⟨oc,od,oda,osl⟩:=o
 dsimp only at c d dn
 subst c d dn
 exact ⟨_,e,rfl,rfl,trivial⟩
def rIsX (K:W.Frag):List V→Hp→VK→Prop:=fun xs H Q=>∃ea C d b,∃c:Value,xs=[.ref ea,d]∧RelV d c∧(∀c',RelV d c'→c'=c)∧H ea=some (exH ea (.ref C))∧ExCls K C∧W.kitOne K (.ref C) c=some b∧Q (.bl b) H
theorem zfS {X:Cx}:CallR X (.builtin "isinstance") (rIsX X.K):=by
 intro pins s σ H xs us Q I r h
 obtain ⟨ea,C,d,b,c,rfl,rd,un,hea,ex,e,q⟩:=h
 obtain ⟨u,u2,rfl,ru,rt⟩:=vals2 r
 cases (show u=Value.ref ea from ru)
 rw[un u2 rt]
 exact wpAny_with_toks (n:=X.t0) I.tk (W.kia_one (zih ex) I.kIn (zii (I.hok ea _ hea)) e (fun z=>nomatch z) fun tk ht=>⟨.bl b,H,I.tok tk ht,rfl,q⟩)
section
variable {X:Cx}{e:Expr}{tx:TEX}{pos:Pos}
end
section
variable {X:Cx}{elt tg iter:Expr}{ifs:List Expr}{sc:Scope}{pos:Pos}{ti:TE}
end
structure ErrC (K:W.Frag) (cN:Addr) (cs:List Addr) (C:Addr) (bs:List Bool):Prop where
 ex:W.excIn K C bmVE "ValueError.__new__"=true
 xc:ExCls K C
 m:W.exmOne K (.ref C) (.ref cN)=some true
 ks:cs.map (fun c=>W.kitOne K (.ref C) (.ref c))=bs.map some
 kv:W.kitOne K (.ref C) (.type "ValueError")=some true
def errB (K:W.Frag) (cN:Addr) (cs:List Addr) (C:Addr) (bs:List Bool):Bool:=
 W.excIn K C bmVE "ValueError.__new__"&&(W.clsIn K C).isSome&&W.findIn K (.ref C) "__getattribute__"==some (some (.builtin "BaseException.__getattribute__"))&&W.findIn K (.ref C) "__getattr__"==some none &&
 W.findIn K (.ref C) "__class__"==some (some (.builtin "object.__class__"))&&W.specialIn K (.builtin "object.__class__") "__get__"==some (some (.builtin "getset_descriptor.__get__"))&&W.takesIn K (.builtin "object.__class__")==some true &&
 W.mroIn K C (.type "BaseException")==some true&&W.mroIn K C (.type "object")==some true&&W.exmOne K (.ref C) (.ref cN)==some true&&cs.map (fun c=>W.kitOne K (.ref C) (.ref c))==bs.map some&&W.kitOne K (.ref C) (.type "ValueError")==some true
theorem zjn {K:W.Frag}{cN:Addr}{cs:List Addr}{C:Addr}{bs:List Bool}(h:errB K cN cs C bs=true):ErrC K cN cs C bs:=by
 unfold errB at h
 simp only[Bool.and_eq_true,beq_iff_eq] at h
 obtain ⟨⟨⟨⟨⟨⟨⟨⟨⟨⟨⟨h1,h2⟩,h3⟩,h4⟩,h5⟩,h6⟩,h7⟩,h8⟩,h9⟩,h10⟩,h11⟩,h12⟩:=h
 exact ⟨h1,⟨h2,h3,h4,h5,h6,h7,h8,h9⟩,h10,h11,h12⟩
section
variable {X:Cx}{e st:Expr}{te:TE}{p2 pos:Pos}
theorem ziO {α β:Type}(f:α→Option β):∀l:List α,(l.filterMap f).length≤l.length
 |[]=>Nat.le_refl _
 |a::r=>by
  have ih:=ziO f r
  rw[List.filterMap_cons]
  split
  ·rw[List.length_cons];omega
  ·rw[List.length_cons,List.length_cons];omega
theorem zjo (n:Nat):(Builtin.Str.strSliceIndices none none (-1) n).length≤n:=by
 unfold Builtin.Str.strSliceIndices sliceRange
 simp
 omega
def tRevS (te:TE) (ts:St→Hp→(Option Int→Hp→Prop)→Prop):TE:=fun σ H Q=>te σ H fun x H1=>ts σ H1 fun k H2=>k=some (-1)∧∃a:Str,x=.str a∧a.length≤100000∧∀b:Str,b.length≤a.length→Q (.str b) H2
theorem zjp {ts}(he:PE X e te) (hk:PO X (some st) ts):PE X (.Subscript e (.Slice none none (some st) p2) pos) (tRevS te ts):=by
 intro pins s σ H Q I h
 refine Subscript_ (thn (he pins s σ H _ I h) fun v s1 ⟨x,H1,I1,r1,q1⟩=>?_)
 refine wpAny_Slice ?_
 rw[evalPart_none]
 refine wpAny_pure (wpAny_pure ?_)
 refine thn (hk pins s1 σ H1 _ I1 q1) fun vk s3 ⟨k,H3,I3,pk,e3,a,ex,ha,q⟩=>?_
 subst e3 ex
 obtain ⟨t,rfl⟩:=r1
 have I4:Inv X pins σ H3 { s3 with heap:=s3.heap.push { cls:=.type "slice",data:=.fields #[.none,.none,vk] } }:=I3.kept (t':=s3.toks) fun b ob q=>Heap.get?_push_of_some _ q
 show wpAny (model X.prog X.w) X.A (subscriptTail e (.Slice none none (some st) p2) (.str a t) (.ref s3.heap.objs.size)) (EP X pins σ Q) X.xe { s3 with heap:=s3.heap.push { cls:=.type "slice",data:=.fields #[.none,.none,vk] } }
 refine tail_any (ops:=[.str a t,.ref s3.heap.objs.size]) (typeIs_str _ _ _) F.slot_str_getitem.lookup ?_ (by with_unfolding_all rfl)
 cases pk with
 |int i u=>
  refine wpAny_with_toks (n:=X.t0) I4.tk ?_
  refine wpAny_getItem_str_slice (l:=none) (u:=none) (st:=some (-1,u)) ⟨_,Heap.get?_push_size _ rfl,rfl,rfl⟩ rfl ?_
  have e1:sliceMade a t none none (some (-1,u))=.str ⟨((slicePicked a none none (some (-1,u))).filterMap (a.cps[·]?)).toArray⟩:=rfl
  rw[e1]
  have hl:(⟨((slicePicked a none none (some (-1,u))).filterMap (a.cps[·]?)).toArray⟩:Str).length≤a.length:=by
   show (List.toArray _).size≤_
   rw[List.size_toArray]
   exact Nat.le_trans (ziO _ _) (zjo a.length)
  exact ⟨by rw[sizeLine_eq];omega,fun ht=>⟨.str _,H3,I4.tok _ ht,⟨_,rfl⟩,q _ hl⟩⟩
end
end L2
namespace T1
open PySem L2
variable {P:Program}{w:World}{K:W.Frag}{mg:Str→Option Value}{base:Heap}
def za8 (c:Nat):Bool:=decide (33≤c)&&decide (c≤126)&&!decide (c=37)
def escD:D→Bool
 |.str x=>decide (x.length≤1)&&(decide (x.length=0) || za8 (x.cps.getD 0 0))
 |_=>false
def markS (x:Str):Bool:=decide (1≤x.length)&&decide (x.length≤4)&&x.cps.toList.all fun c=>decide (c=10) || za8 c
def markD:D→Bool
 |.str x=>markS x
 |_=>false
def numD (d:D) (n:Int):Bool:=match d with
 |.int i=>decide (0≤i)&&decide (i<n)
 |_=>false
def doorD (d:D) (n:Int):Bool:=match d with
 |.tup [a,b,c]=>markD a&&numD b n&&markD c
 |_=>false
def zaN (d:D) (n:Int):Bool:=match d with
 |.tup [e,.tup ds]=>escD e&&decide (ds.length≤6)&&ds.all fun x=>doorD x n
 |_=>false
structure Txt (mg:Str→Option Value):Prop where
 len:mg "len"=none
 ord:mg "ord"=none
 all_:mg "all"=none
 any_:mg "any"=none
 isinst:mg "isinstance"=none
 str:mg "str"=none
 int:mg "int"=none
 bool:mg "bool"=none
 tuple:mg "tuple"=none
 range:mg "range"=none
 pct:∃t,mg "PERCENT"=some (.int 37 t)
 longest:∃t,mg "LONGEST_MARK"=some (.int 4 t)
 mostD:∃t,mg "MOST_DOORS"=some (.int 6 t)
 mostT:∃t,mg "MOST_TONGUES"=some (.int 6 t)
def zfj:Sp:=fun vs H Q _=>∃c:Nat,vs=[.str ⟨#[c]⟩]∧Q (.bl (za8 c)) H
def spD (f:D→Bool):Sp:=fun vs H Q _=>∃z v d,vs=[v]∧Rep z H v d∧∀H',Same H H'→Q (.bl (f d)) H'
def spDN (f:D→Int→Bool):Sp:=fun vs H Q _=>∃z v d n,vs=[v,.int n]∧Rep z H v d∧∀H',Same H H'→Q (.bl (f d n)) H'
theorem lt1 (a b:Nat):decide ([a]<[b])=decide (a<b):=by
 rw[decide_eq_decide]
 constructor
 ·intro h
  cases h with
  |rel h=>exact h
  |cons h=>cases h
 ·exact fun h=>.rel h
theorem zhg:(["sign"]:List Str).Nodup:=by decide +kernel
theorem zhh (x:Str):((List.range x.cps.size).map fun i=>decide (x.cps.getD i 0=10) || za8 (x.cps.getD i 0)).all id=x.cps.toList.all fun c=>decide (c=10) || za8 c:=by
 rw[Bool.eq_iff_iff,List.all_eq_true,List.all_eq_true]
 constructor
 ·intro h c hc
  obtain ⟨i,hi,rfl⟩:=List.mem_iff_getElem.mp hc
  have:=h _ (List.mem_map.mpr ⟨i,List.mem_range.mpr (by simpa using hi),rfl⟩)
  have hi':i<x.cps.size:=by simpa using hi
  have e:x.cps.getD i 0=x.cps[i]:=by simp[Array.getD,hi']
  rw[e] at this
  simpa using this
 ·intro h b hb
  obtain ⟨i,hi,rfl⟩:=List.mem_map.mp hb
  have hi:=List.mem_range.mp hi
  have:=h x.cps[i] (by simp)
  have e:x.cps.getD i 0=x.cps[i]:=by simp[Array.getD,hi]
  rw[e]
  simpa using this
theorem zhi {n:Int}{ds:List D}(h:ds.length≠3):doorD (.tup ds) n=false:=by
 match ds,h with
 |[],_=>rfl
 |[_],_=>rfl
 |[_,_],_=>rfl
 |_::_::_::_::_,_=>rfl
theorem zfk {n:Int}{ds:List D}(h:ds.length≠2):zaN (.tup ds) n=false:=by
 match ds,h with
 |[],_=>rfl
 |[d],_=>cases d<;>rfl
 |_::d::_::_,_=>cases d<;>rfl
instance:Inhabited D:=⟨.non⟩
theorem all_map {α:Type} [Inhabited α] (xs:List α) (d:α) (f:α→Bool):((List.range xs.length).map fun i=>f (xs.getD i d)).all id=xs.all f:=by
 rw[Bool.eq_iff_iff,List.all_eq_true,List.all_eq_true]
 constructor
 ·intro h x hx
  obtain ⟨i,hi,rfl⟩:=List.mem_iff_getElem.mp hx
  have:=h _ (List.mem_map.mpr ⟨i,List.mem_range.mpr hi,rfl⟩)
  simpa [hi] using this
 ·intro h b hb
  obtain ⟨i,hi,rfl⟩:=List.mem_map.mp hb
  have hi:=List.mem_range.mp hi
  have:=h xs[i] (List.getElem_mem hi)
  simpa [hi] using this
end T1
namespace L2
open PySem PySem.Spec PyProof.Rows
theorem zij {P:Program}{w:World}{J:It}{g:TG}{te:TE}{Qe:St→Hp→Prop}{σ0:St}{H0:Hp}{p:Addr}{n:Nat}{item:Nat→V}(f:Nat→Str) (Pσ:St→Prop) (hσ:Pσ σ0) (hp:H0 p=none) (hsz:n+1<scanBound) (ok:ItOk J n item (upd H0 p (setL P w p [])) p)
  (turn:∀i σ H (C:V→St→Hp→Prop),i<n→Pσ σ→Same H0 H→(∀σ2 H4,Pσ σ2→Same H H4→C (.str (f i)) σ2 H4)→g (item i) σ H fun σ2 H2=>te σ2 H2 fun v H4=>C v σ2 H4)
  (hQ:∀σ H,Same H0 H→H p=some (setL P w p ((List.range n).map f))→Qe σ H):tLoop J g tYes (tAddS P w p te) Qe σ0 (upd H0 p (setL P w p [])):=by
 have s0:Same H0 (upd H0 p (setL P w p [])):=Same.new hp
 have up:∀ {H},SameX p (upd H0 p (setL P w p [])) H→Same H0 H:=fun {H} h b o e=>h b o (zae e hp) (s0 b o e)
 refine ⟨fun i m σ H=>m=n-i∧i≤n∧Pσ σ∧SameX p (upd H0 p (setL P w p [])) H∧H p=some (setL P w p ((List.range i).map f)),⟨n,rfl,Nat.zero_le _,hσ,.refl,zac⟩,?_⟩
 rintro i m σ H ⟨rfl,hi,hP,hS,hH⟩
 by_cases hlt:i<n
 ·refine .inr ⟨ok.go i H hlt hS,fun σ' H'=>Pσ σ'∧SameX p (upd H0 p (setL P w p [])) H'∧H' p=some (setL P w p ((List.range (i+1)).map f)),fun σ' H' ⟨a,b,c⟩=>⟨n-(i+1),by omega,rfl,hlt,a,b,c⟩,fun x H' y=>?_⟩
  obtain ⟨rfl,rfl⟩:=ok.yld i H x H' hlt hS y
  refine turn i σ H' (fun v σ2 H4=>∃x xs,v=.str x∧H4 p=some (setL P w p xs)∧xs.length+1<scanBound∧(Pσ σ2∧SameX p (upd H0 p (setL P w p [])) (upd H4 p (setL P w p (xs++[x])))∧(upd H4 p (setL P w p (xs++[x]))) p=some (setL P w p ((List.range (i+1)).map f)))) hlt hP (up hS) fun σ2 H4 hP2 hS2=>?_
  refine ⟨f i,(List.range i).map f,rfl,hS2 p _ hH,by simp;omega,hP2,(hS.trans hS2.x).upd,?_⟩
  rw[zac,List.range_succ,List.map_append]
  rfl
 ·have e:i=n:=by omega
  subst e
  exact .inl ⟨ok.stop H hS,hQ σ H (up hS) hH⟩
end L2
namespace T1
open PySem L2
variable {P:Program}{w:World}{K:W.Frag}{mg:Str→Option Value}{base:Heap}
abbrev Dr:=Str×Int×Str
abbrev Tg:=Str×List Dr
abbrev Bk:=List Tg
def drD (d:Dr):D:=.tup [.str d.1,.int d.2.1,.str d.2.2]
def tgD (t:Tg):D:=.tup [.str t.1,.tup (t.2.map drD)]
def bkD (b:Bk):D:=.tup (b.map tgD)
def sOf:D→Str
 |.str x=>x
 |_=>⟨#[]⟩
def iOf:D→Int
 |.int i=>i
 |_=>0
def drOf:D→Dr
 |.tup [a,b,c]=>(sOf a,iOf b,sOf c)
 |_=>(⟨#[]⟩,0,⟨#[]⟩)
def tgOf:D→Tg
 |.tup [e,.tup ds]=>(sOf e,ds.map drOf)
 |_=>(⟨#[]⟩,[])
def DrOk (n:Int) (d:Dr):Prop:=markS d.1=true∧(0≤d.2.1∧d.2.1<n)∧markS d.2.2=true
def TgOk (n:Int) (t:Tg):Prop:=escD (.str t.1)=true∧t.2.length≤6∧∀d∈t.2,DrOk n d
theorem zhj {d:D}{n:Int}(h:doorD d n=true):d=drD (drOf d)∧DrOk n (drOf d):=by
 unfold doorD at h
 split at h
 ·rename_i a b c
  rw[Bool.and_eq_true,Bool.and_eq_true] at h
  obtain ⟨⟨h1,h2⟩,h3⟩:=h
  cases a<;>try (exact absurd h1 Bool.false_ne_true)
  cases b<;>try (exact absurd h2 Bool.false_ne_true)
  cases c<;>try (exact absurd h3 Bool.false_ne_true)
  refine ⟨rfl,h1,?_,h3⟩
  simp only[numD,Bool.and_eq_true,decide_eq_true_eq] at h2
  exact h2
 ·cases h
theorem zeO {d:D}{n:Int}(h:zaN d n=true):d=tgD (tgOf d)∧TgOk n (tgOf d):=by
 unfold zaN at h
 split at h
 ·rename_i e ds
  rw[Bool.and_eq_true,Bool.and_eq_true] at h
  obtain ⟨⟨h1,h2⟩,h3⟩:=h
  cases e<;>try (exact absurd h1 Bool.false_ne_true)
  rename_i x
  rw[List.all_eq_true] at h3
  have e:ds=(ds.map drOf).map drD:=by
   rw[List.map_map]
   have:ds.map (drD∘drOf)=ds.map id:=List.map_congr_left fun d hd=>((zhj (h3 d hd)).1).symm
   rw[this,List.map_id]
  refine ⟨?_,h1,by simpa [tgOf] using h2,fun d hd=>?_⟩
  ·show D.tup [.str x,.tup ds]=.tup [.str x,.tup ((ds.map drOf).map drD)]
   rw[←e]
  ·obtain ⟨d0,hd0,rfl⟩:=List.mem_map.mp (show d∈ds.map drOf from hd)
   exact (zhj (h3 d0 hd0)).2
 ·cases h
theorem zfl {ts:List D}{n:Int}(h:ts.all (fun x=>zaN x n)=true):ts=(ts.map tgOf).map tgD∧∀t∈ts.map tgOf,TgOk n t:=by
 rw[List.all_eq_true] at h
 constructor
 ·rw[List.map_map]
  have:ts.map (tgD∘tgOf)=ts.map id:=List.map_congr_left fun d hd=>((zeO (h d hd)).1).symm
  rw[this,List.map_id]
 ·intro t ht
  obtain ⟨d,hd,rfl⟩:=List.mem_map.mp ht
  exact (zeO (h d hd)).2
section
variable {z:Addr}{H:Hp}
theorem zbc {v:V}{d:Dr}(r:Rep z H v (drD d)):∃a,v=.ref a∧a≠z∧H a=some (.tup [.str d.1,.int d.2.1,.str d.2.2]):=by
 cases r with
 |tup h hz r=>
  cases r with
  |cons r1 r=>
   cases r with
   |cons r2 r=>
    cases r with
    |cons r3 r=>
     cases r
     cases r1
     cases r2
     cases r3
     exact ⟨_,rfl,hz,h⟩
theorem zeP {v:V}{ds:List Dr}(r:Rep z H v (.tup (ds.map drD))):∃a xs,v=.ref a∧a≠z∧H a=some (.tup xs)∧xs.length=ds.length∧Reps z H xs (ds.map drD):=by
 cases r with
 |tup h hz r=>exact ⟨_,_,rfl,hz,h,by have:=r.length;simpa using this,r⟩
theorem zaO {v:V}{t:Tg}(r:Rep z H v (tgD t)):∃a b xs,v=.ref a∧a≠z∧b≠z∧H a=some (.tup [.str t.1,.ref b])∧H b=some (.tup xs)∧xs.length=t.2.length∧Reps z H xs (t.2.map drD):=by
 cases r with
 |tup h hz r=>
  cases r with
  |cons r1 r=>
   cases r with
   |cons r2 r=>
    cases r
    cases r1
    obtain ⟨b,xs,rfl,hb,h2,h3,h4⟩:=zeP r2
    exact ⟨_,b,xs,rfl,hz,hb,h,h2,h3,h4⟩
theorem zb5 {v:V}{b:Bk}(r:Rep z H v (bkD b)):∃a xs,v=.ref a∧a≠z∧H a=some (.tup xs)∧xs.length=b.length∧Reps z H xs (b.map tgD):=by
 cases r with
 |tup h hz r=>exact ⟨_,_,rfl,hz,h,by have:=r.length;simpa using this,r⟩
theorem za4 {xs:List V}{ds:List Dr}{i:Nat}(r:Reps z H xs (ds.map drD)) (hi:i<ds.length):Rep z H (xs.getD i .non) (drD (ds.getD i (⟨#[]⟩,0,⟨#[]⟩))):=by
 have:=r.get (i:=i) (by simpa using hi)
 simpa [hi] using this
theorem zaJ {xs:List V}{b:Bk}{i:Nat}(r:Reps z H xs (b.map tgD)) (hi:i<b.length):Rep z H (xs.getD i .non) (tgD (b.getD i (⟨#[]⟩,[]))):=by
 have:=r.get (i:=i) (by simpa using hi)
 simpa [hi] using this
end
def zaH (ds:List Dr):List Str:=ds.map (·.1)
def zd7:Sp:=fun vs H Q _=>∃z v ds,vs=[v]∧Rep z H v (.tup (ds.map drD))∧ds.length≤100∧∀H',Same H H'→Q (.bl (decide (zaH ds).Nodup)) H'
theorem nd3:(["opening","inner","close"]:List Str).Nodup:=by decide +kernel
abbrev dr0:Dr:=(⟨#[]⟩,0,⟨#[]⟩)
abbrev tg0:Tg:=(⟨#[]⟩,[])
theorem zcB {α:Type}(xs:List α) (d:α) (f:α→List V):∀n,n≤xs.length→flatN (fun i=>f (xs.getD i d)) n=(xs.take n).flatMap f
 |0,_=>by simp[flatN]
 |n+1,h=>by
  have hn:n<xs.length:=h
  simp only[flatN]
  rw[zcB xs d f n (by omega),List.take_add_one,List.flatMap_append]
  congr 1
  simp[hn]
theorem zeQ {α:Type}(xs:List α) (d:α) (f:α→List V){n:Nat}(h:n=xs.length):flatN (fun i=>f (xs.getD i d)) n=xs.flatMap f:=by
 subst h
 rw[zcB xs d f _ (Nat.le_refl _),List.take_length]
def zbM (ds:List Dr):List Str:=ds.flatMap fun d=>[d.1,d.2.2]
def zaD (b:Bk):List Str:=b.flatMap fun t=>zbM t.2
theorem zdD (ds:List Dr):(zbM ds).length=2*ds.length:=by
 induction ds with
 |nil=>rfl
 |cons d r ih=>simp only[zbM,List.flatMap_cons,List.length_append,List.length_cons,List.length_nil] at ih ⊢;omega
theorem zfm (ds:List Dr) (n:Nat) (h:n<ds.length):zbM (ds.take (n+1))=zbM (ds.take n)++[(ds.getD n dr0).1,(ds.getD n dr0).2.2]:=by
 unfold zbM
 rw[List.take_add_one,List.flatMap_append]
 congr 1
 simp[h]
theorem zfn (b:Bk) (n:Nat) (h:n<b.length):zaD (b.take (n+1))=zaD (b.take n)++zbM (b.getD n tg0).2:=by
 unfold zaD
 rw[List.take_add_one,List.flatMap_append]
 congr 1
 simp[h]
theorem zeR {b:Bk}(h:∀t∈b,t.2.length≤6):(zaD b).length≤12*b.length:=by
 induction b with
 |nil=>simp[zaD]
 |cons t r ih=>
  have h1:=ih fun t ht=>h t (List.mem_cons_of_mem _ ht)
  have h2:=h t List.mem_cons_self
  have h3:=zdD t.2
  simp only[zaD,List.flatMap_cons,List.length_append,List.length_cons] at h1 ⊢
  omega
def Few (b:Bk):Prop:=b.length≤7∧∀t∈b,t.2.length≤6
theorem Few.get {b:Bk}(h:Few b){i:Nat}(hi:i<b.length):(b.getD i tg0).2.length≤6:=by
 have:b.getD i tg0=b[i]:=by simp[hi]
 rw[this]
 exact h.2 _ (List.getElem_mem hi)
theorem Few.take {b:Bk}(h:Few b) (i:Nat):Few (b.take i):=⟨by have:=h.1;simp;omega,fun t ht=>h.2 t (List.mem_of_mem_take ht)⟩
def zhk (f:Bk→List Str):Sp:=fun vs H Q _=>∃z v b,vs=[v]∧Rep z H v (bkD b)∧Few b∧∀p H',Same H H'→H p=none→H' p=some (.lst ((f b).map V.str))→Q (.ref p) H'
end T1
namespace L2
open PySem PySem.Spec PyProof.Rows
theorem zdm {J:It}{g:TG}{tr:TR}{Qe:St→Hp→Prop}{σ0:St}{H0:Hp}{p:Addr}{cur:List V}{n:Nat}{item:Nat→V}(F:Nat→List V) (P:St→Prop) (hσ:P σ0) (hp:H0 p=some (.lst cur)) (ok:ItOk J n item H0 p)
  (turn:∀i σ H (N:St→Hp→Prop),i<n→P σ→SameX p H0 H→H p=some (.lst (cur++flatN F i))→(∀σ2 H4,P σ2→SameX p H H4→H4 p=some (.lst (cur++flatN F i++F i))→N σ2 H4)→g (item i) σ H fun σ2 H2=>tr σ2 H2 N)
  (hQ:∀σ H,P σ→SameX p H0 H→H p=some (.lst (cur++flatN F n))→Qe σ H):tLoop J g tYes tr Qe σ0 H0:=
 zfN F P hσ hp ok (fun i σ H N hi hP hS hH hN=>turn i σ H N hi hP hS hH hN) hQ
theorem zeS {J:It}{g:TG}{te:TE}{Qe:St→Hp→Prop}{σ0:St}{H0:Hp}{p:Addr}{cur:List V}{n:Nat}{item:Nat→V}(f:Nat→V) (P:St→Prop) (hσ:P σ0) (hp:H0 p=some (.lst cur)) (hsz:cur.length+n≤100000) (ok:ItOk J n item H0 p)
  (turn:∀i σ H (C:V→St→Hp→Prop),i<n→P σ→SameX p H0 H→(∀σ2 H4,P σ2→Same H H4→C (f i) σ2 H4)→g (item i) σ H fun σ2 H2=>te σ2 H2 fun v H4=>C v σ2 H4)
  (hQ:∀σ H,P σ→SameX p H0 H→H p=some (.lst (cur++(List.range n).map f))→Qe σ H):tLoop J g tYes (tApp p te) Qe σ0 H0:=
 zd0 (fun i=>some (f i)) P hσ hp hsz ok (fun i σ H C hi hP hS hC=>turn i σ H (fun v σ2 H4=>C (some v) σ2 H4) hi hP hS hC) fun σ H hP hS hH=>hQ σ H hP hS (by rw[zbW] at hH;exact hH)
end L2
namespace T1
open PySem L2
variable {P:Program}{w:World}{K:W.Frag}{mg:Str→Option Value}{base:Heap}
theorem zbu {α:Type}{xs:List α}{i:Nat}(d:α) (h:i<xs.length):xs.getD i d∈xs:=by
 have:xs.getD i d=xs[i]:=by simp[h]
 rw[this]
 exact List.getElem_mem h
def escIn (es:List Str) (m:Str):Bool:=m.cps.toList.any fun c=>es.any fun e=>e==(⟨#[c]⟩:Str)
def escB (b:Bk):Bool:=(zaD b).any (escIn (b.map (·.1)))
theorem zfT {α:Type}(xs:List α) (f:α→List Bool) (d:α){n:Nat}(h:n=xs.length):∃bs:List Bool,flatN (fun i=>(f (xs.getD i d)).map V.bl) n=bs.map V.bl∧bs.any id=xs.any fun x=>(f x).any id:=by
 refine ⟨xs.flatMap f,?_,?_⟩
 ·rw[zeQ xs d (fun x=>(f x).map V.bl) h,List.map_flatMap]
 ·induction xs generalizing n with
  |nil=>rfl
  |cons x r ih=>rw[List.flatMap_cons,List.any_append,List.any_cons,ih rfl]
theorem zd8 (x:Str):∀es:List Str,inV (.str x) (es.map V.str)=es.any fun e=>e==x
 |[]=>rfl
 |e::r=>by
  have:=zd8 x r
  unfold inV at this ⊢
  rw[List.map_cons,List.any_cons,List.any_cons,this]
  rfl
theorem zhl (es:List Str):(es.map V.str).all flatV=true:=by
 rw[List.all_eq_true]
 intro v hv
 obtain ⟨e,_,rfl⟩:=List.mem_map.mp hv
 rfl
theorem zfo (x:Str) (f:Nat→Bool):(List.range x.cps.size).map (fun i=>V.bl (f (x.cps.getD i 0)))=(x.cps.toList.map f).map V.bl:=by
 apply List.ext_getElem?
 intro i
 simp only[List.getElem?_map]
 by_cases h:i<x.cps.size
 ·simp[h]
 ·simp[h]
def spB (f:Bk→Bool):Sp:=fun vs H Q _=>∃z v b,vs=[v]∧Rep z H v (bkD b)∧Few b∧(∀m∈zaD b,m.length≤100)∧∀H',Same H H'→Q (.bl (f b)) H'
theorem ndED:(["escape","doors"]:List Str).Nodup:=by decide +kernel
theorem ndMSE:(["mark","sign","escapes"]:List Str).Nodup:=by decide +kernel
end T1
namespace L2
open PySem PySem.Spec PyProof.Rows
theorem ziP {X:Cx}{sc:Scope}{cl:List (Str×Addr)}{N':List Str}{s:Shared}{H:Hp}{fp:List Addr}{o e:Expr}{es:List Expr}{to:TE}{t:TA}{name:Str}{apos cpos:Pos}{T id:String}{r:V→List V→Hp→VK→Prop}(pa:PlainAttrs T) (slot:Slot T name id) (hty:typeOf (.builtin id)=pure (.type "method_descriptor")) (hm:MtR (X.blk sc cl N' s H fp) id r) (ho:PE (X.blk sc cl N' s H fp) o to) (ha:PA (X.blk sc cl N' s H fp) (e::es) t)
  (hbase:attributeBase o name (X.blk sc cl N' s H fp).env (eval o (X.blk sc cl N' s H fp).env)=eval o (X.blk sc cl N' s H fp).env:=by rfl)
  (hfew:((backTo cpos (starEach (e::es) (X.blk sc cl N' s H fp).env)).all (fun x=>!x.1)&&(backToKw cpos (keywordEach [] (X.blk sc cl N' s H fp).env)).all (fun x=>x.1.isSome)
   && decide ((e::es).length+([]:List Keyword).length+(if ([]:List Keyword).isEmpty then 0 else 1)<30))=true:=by rfl)
  (hline:(apos.endLine==cpos.line)=true:=by rfl) (hs:starEach (e::es) (X.blk sc cl N' s H fp).env=(false,eval e (X.blk sc cl N' s H fp).env)::starEach es (X.blk sc cl N' s H fp).env:=by rfl) (hplain:(backTo cpos (starEach es (X.blk sc cl N' s H fp).env)).any (·.1)=false:=by rfl) :
  PE (X.blk sc cl N' s H fp) (.Call (.Attribute o name apos) (e::es) [] cpos) (tBM X.K T r to t):=zbi pa slot hty hm ho ha hbase hfew hline hs hplain
end L2
namespace T1
open PySem L2
variable {P:Program}{w:World}{K:W.Frag}{mg:Str→Option Value}{base:Heap}
def zbH (ds:List Dr) (t:Int):List Str:=ds.filterMap fun d=>if d.2.1=t then some d.2.2 else none
def zaV (b:Bk) (t:Int):List Str:=b.flatMap fun g=>zbH g.2 t
def zbp (b:Bk) (t:Nat):Bool:=(b.getD t tg0).2.any fun d=>(zaV b t).any fun c=>stAt d.1 c 0
theorem zcT (ds:List Dr) (t:Int):∀n,n≤ds.length→flatN (fun i=>(if (ds.getD i dr0).2.1=t then some (V.str (ds.getD i dr0).2.2) else none).toList) n=(zbH (ds.take n) t).map V.str
 |0,_=>by simp[flatN,zbH]
 |n+1,h=>by
  have hn:n<ds.length:=h
  simp only[flatN]
  rw[zcT ds t n (by omega)]
  unfold zbH
  rw[List.take_add_one,List.filterMap_append,List.map_append]
  congr 1
  simp only[List.getElem?_eq_getElem hn,Option.toList_some,List.filterMap_cons,List.filterMap_nil]
  have e:ds.getD n dr0=ds[n]:=by simp[hn]
  rw[e]
  split<;>simp_all
theorem zdE (ds:List Dr) (t:Int):(zbH ds t).length≤ds.length:=List.length_filterMap_le ..
theorem zgt {b:Bk}(h:Few b) (t:Int):(zaV b t).length≤6*b.length:=by
 replace h:=h.2
 induction b with
 |nil=>simp[zaV]
 |cons g r ih=>
  have h1:=ih fun x hx=>h x (List.mem_cons_of_mem _ hx)
  have h2:=h g List.mem_cons_self
  have h3:=zdE g.2 t
  simp only[zaV,List.flatMap_cons,List.length_append,List.length_cons] at h1 ⊢
  omega
def zd9:Sp:=fun vs H Q _=>∃z v b t,vs=[v,.int t]∧Rep z H v (bkD b)∧Few b∧∀p H',Same H H'→H p=none→H' p=some (.lst ((zaV b t).map V.str))→Q (.ref p) H'
theorem nd6:(["escape","doors","opening","inner","close","tongue"]:List Str).Nodup:=by decide +kernel
def zea:Sp:=fun vs H Q _=>∃z v b,∃t:Nat,vs=[v,.int (t:Int)]∧Rep z H v (bkD b)∧Few b∧t<b.length∧∀H',Same H H'→Q (.bl (zbp b t)) H'
theorem nd5:(["opening","inner","end","close","closes"]:List Str).Nodup:=by decide +kernel
def bookB (b:Bk):Bool:=(b.all fun t=>decide (zaH t.2).Nodup)&&!escB b&&!((List.range b.length).any fun t=>zbp b t)
def bookD:D→Bool
 |.tup ts=>decide (1≤ts.length)&&decide (ts.length≤6)&&(ts.all fun x=>zaN x ts.length)&&bookB (ts.map tgOf)
 |_=>false
theorem zkz {ts:List D}{n:Int}(h:ts.all (fun x=>zaN x n)=true) (hl:ts.length≤6):Few (ts.map tgOf):=by
 refine ⟨by simp;omega,fun t ht=>((zfl h).2 t ht).2.1⟩
theorem zfp {b:Bk}{n:Int}(h:∀t∈b,TgOk n t):∀m∈zaD b,m.length≤100:=by
 intro m hm
 unfold zaD zbM at hm
 obtain ⟨t,ht,hm⟩:=List.mem_flatMap.mp hm
 obtain ⟨d,hd,hm⟩:=List.mem_flatMap.mp hm
 obtain ⟨h1,_,h3⟩:=(h t ht).2.2 d hd
 have key:∀x,markS x=true→x.length≤100:=fun x hx=>by
  unfold markS at hx
  simp only[Bool.and_eq_true,decide_eq_true_eq] at hx
  omega
 simp only[List.mem_cons,List.not_mem_nil,or_false] at hm
 rcases hm with rfl|rfl
 ·exact key _ h1
 ·exact key _ h3
theorem zhm (n:Nat) (f:Nat→Bool):((List.range n).map f).any id=(List.range n).any f:=by rw[List.any_map];rfl
theorem ndTT:(["tongue","thing"]:List Str).Nodup:=by decide +kernel
theorem zeT {f:Nat→Option V}:∀n,(flatN (fun i=>(f i).toList) n).isEmpty=(List.range n).all fun i=>(f i).isNone
 |0=>rfl
 |n+1=>by
  rw[List.range_succ,List.all_append,←zeT n]
  simp only[flatN,List.all_cons,List.all_nil,Bool.and_true]
  cases f n<;>simp
theorem zgu (x:Str) (h:x.length≤1):(x=Str.ofString ""∧escD (.str x)=true)∨∃c,x=⟨#[c]⟩∧escD (.str x)=za8 c:=by
 obtain ⟨cs⟩:=x
 have h:cs.size≤1:=h
 by_cases h0:cs.size=0
 ·have:cs=#[]:=Array.eq_empty_of_size_eq_zero h0
  subst this
  exact .inl ⟨by decide +kernel,by decide +kernel⟩
 ·obtain ⟨c,hc⟩:=Array.size_eq_one_iff.mp (show cs.size=1 by omega)
  subst hc
  exact .inr ⟨c,rfl,rfl⟩
def Bag (z:Addr) (H:Hp):Prop:=∃c s:Int,H z=some (.lst [.int c,.int s])
def Aft (z:Addr) (H H':Hp):Prop:=SameX z H H'∧Bag z H'
theorem Aft.trans {z:Addr}{H H1 H2:Hp}(a:Aft z H H1) (b:Aft z H1 H2):Aft z H H2:=⟨a.1.trans b.1,b.2⟩
theorem Aft.same {z:Addr}{H H1 H2:Hp}(a:Aft z H H1) (b:Same H1 H2):Aft z H H2:=⟨a.1.trans b.x,let ⟨c,s,h⟩:=a.2;⟨c,s,b _ _ h⟩⟩
theorem Aft.refl {z:Addr}{H:Hp}(h:Bag z H):Aft z H H:=⟨.refl,h⟩
inductive zcU:List V→Hp→VK→XK→Prop where
 |mk {vs:List V} {H:Hp} {Q:VK} {E:XK} (z:_) (n:Int) (c1:vs=[.ref z,.int n]) (c2:Bag z H) (c3:0<n) (c4:n<1000000) (c5:∀(r:Nat) H',(r:Int)<n→Aft z H H'→Q (.int r) H'):zcU vs H Q E
structure Txt2 (mg:Str→Option Value):Prop where
 list:mg "list"=none
 set:mg "set"=none
 min:mg "min"=none
inductive spBag (K:W.Frag):List V→Hp→VK→XK→Prop where
 |mk {vs:List V} {H:Hp} {Q:VK} {E:XK} (a:_) (ns:List Int) (i:Nat) (c1:vs=[.ref a,.int i]) (c2:SqL K H a (ns.map V.int)) (c3:i≤100) (c4:∀p H',H p=none→Same H H'→Bag p H'→Q (.ref p) H'):spBag K vs H Q E
def zeb (x:Str):Prop:=∀c∈x.cps.toList,(decide (c=10) || za8 c)=true
inductive spMk:List V→Hp→VK→XK→Prop where
 |mk {vs:List V} {H:Hp} {Q:VK} {E:XK} (z x:_) (c1:vs=[.ref z,.str x]) (c2:Bag z H) (c3:1≤x.length) (c4:x.length≤100) (c5:zeb x) (c6:∀m H',markS m=true→Aft z H H'→Q (.str m) H'):spMk vs H Q E
theorem zcb (x y:Str):(x++y).length=x.length+y.length:=by
 show (x.cps++y.cps).size=_
 rw[Array.size_append];rfl
theorem zbq (x y:Str):(x++y).cps.toList=x.cps.toList++y.cps.toList:=by
 show (x.cps++y.cps).toList=_
 rw[Array.toList_append]
def inEsc (e:Str) (d:Dr):Bool:=!(Builtin.Str.occurrences (d.1++Str.ofString " "++d.2.2) e 0 (d.1++Str.ofString " "++d.2.2).length 1).isEmpty
def fit1 (t o:Tg):Bool:=!((!decide (V.str t.1=V.str (Str.ofString "")))&&o.2.any (inEsc t.1))
def fit3 (b:Bk) (d:Dr):Bool:=!((b.getD d.2.1.toNat tg0).2.any fun o=>stAt o.1 d.2.2 0)
def fitT (b:Bk) (t:Tg):Bool:=b.all (fit1 t)&&decide (zaH t.2).Nodup&&t.2.all (fit3 b)
def fitsB (b:Bk):Bool:=b.all (fitT b)
theorem zhn {α:Type}(xs:List α) (d:α) (p:α→Bool) (h:∀j,j<xs.length→p (xs.getD j d)=true):xs.all p=true:=by
 rw[List.all_eq_true]
 intro x hx
 obtain ⟨i,hi,rfl⟩:=List.mem_iff_getElem.mp hx
 have:=h i hi
 simpa [hi] using this
theorem zho {α:Type}(xs:List α) (d:α) (p:α→Bool){i:Nat}(hi:i<xs.length) (h:p (xs.getD i d)=false):xs.all p=false:=by
 rw[List.all_eq_false]
 refine ⟨xs[i],List.getElem_mem hi,?_⟩
 have:xs.getD i d=xs[i]:=by simp[hi]
 rw[←this,h]
 simp
theorem zeU {α:Type}(ds:List α) (d:α) (p:α→Bool) (g:Nat→V){n:Nat}(hn:n=ds.length):(flatN (fun i=>(if p (ds.getD i d) then some (g i) else none).toList) n).isEmpty=!(ds.any p):=by
 subst hn
 rw[zeT,Bool.eq_iff_iff,List.all_eq_true,Bool.not_eq_true',List.any_eq_false]
 constructor
 ·intro h x hx hp
  obtain ⟨i,hi,rfl⟩:=List.mem_iff_getElem.mp hx
  have h2:=h i (List.mem_range.mpr hi)
  have e:ds.getD i d=ds[i]:=by simp[hi]
  rw[e,if_pos hp] at h2
  cases h2
 ·intro h i hi
  have hi:=List.mem_range.mp hi
  have h2:=h ds[i] (List.getElem_mem hi)
  have e:ds.getD i d=ds[i]:=by simp[hi]
  rw[e,if_neg h2]
  rfl
theorem zeV {c:Nat}(hc:za8 c=true) (d:Dr):inEsc ⟨#[c]⟩ d=true↔c∈d.1.cps.toList∨c∈d.2.2.cps.toList:=by
 unfold inEsc
 rw[StrLaws.found_iff]
 have e:(d.1++Str.ofString " "++d.2.2).cps.toList=d.1.cps.toList++[32]++d.2.2.cps.toList:=by
  rw[zbq,zbq]
  have:(Str.ofString " ").cps.toList=[32]:=by decide +kernel
  rw[this]
 have h32:c≠32:=by
  intro h
  subst h
  exact absurd hc (by decide)
 constructor
 ·rintro ⟨i,h⟩
  have h2:=(StrLaws.subAt_one _ _ _).mp h
  rw[e] at h2
  have:=List.mem_of_getElem? h2
  simp at this
  rcases this with h|h|h
  ·exact .inl (by simpa using h)
  ·exact absurd h h32
  ·exact .inr (by simpa using h)
 ·intro h
  have:c∈(d.1++Str.ofString " "++d.2.2).cps.toList:=by
   rw[e]
   simp
   rcases h with h|h
   ·exact .inl (by simpa using h)
   ·exact .inr (.inr (by simpa using h))
  obtain ⟨i,hi⟩:=List.mem_iff_getElem?.mp this
  exact ⟨i,(StrLaws.subAt_one _ _ _).mpr hi⟩
theorem zik (b:Bk):escB b=true↔∃t∈b,∃o∈b,∃d∈o.2,∃c,t.1=⟨#[c]⟩∧(c∈d.1.cps.toList∨c∈d.2.2.cps.toList):=by
 unfold escB escIn zaD zbM
 simp only[List.any_eq_true,List.mem_flatMap,List.mem_cons,List.not_mem_nil,or_false,List.mem_map,beq_iff_eq]
 constructor
 ·rintro ⟨m,⟨o,ho,d,hd,hm⟩,c,hc,e,⟨t,ht,rfl⟩,he⟩
  refine ⟨t,ht,o,ho,d,hd,c,he,?_⟩
  rcases hm with rfl|rfl
  ·exact .inl hc
  ·exact .inr hc
 ·rintro ⟨t,ht,o,ho,d,hd,c,he,h|h⟩
  ·exact ⟨d.1,⟨o,ho,d,hd,.inl rfl⟩,c,h,t.1,⟨t,ht,rfl⟩,he⟩
  ·exact ⟨d.2.2,⟨o,ho,d,hd,.inr rfl⟩,c,h,t.1,⟨t,ht,rfl⟩,he⟩
theorem zhp:(Str.ofString "")=⟨#[]⟩:=by decide +kernel
theorem zjq {n:Int}{b:Bk}(hb:∀t∈b,TgOk n t):(∃t∈b,b.all (fit1 t)=false)↔escB b=true:=by
 rw[zik]
 constructor
 ·rintro ⟨t,ht,h⟩
  rw[List.all_eq_false] at h
  obtain ⟨o,ho,h⟩:=h
  unfold fit1 at h
  simp only[Bool.not_eq_true',Bool.not_eq_false,Bool.and_eq_true,decide_eq_false_iff_not,List.any_eq_true] at h
  obtain ⟨h1,d,hd,h2⟩:=h
  have h1':t.1≠Str.ofString "":=fun z=>h1 (by rw[z])
  have hl:t.1.length≤1:=by
   have:=(hb t ht).1
   unfold escD at this
   simp at this
   exact this.1
  rcases zgu t.1 hl with ⟨ex,_⟩|⟨c,ex,ee⟩
  ·exact absurd ex h1'
  ·have hc:za8 c=true:=by rw[←ee];exact (hb t ht).1
   rw[ex] at h2
   exact ⟨t,ht,o,ho,d,hd,c,ex,(zeV hc d).mp h2⟩
 ·rintro ⟨t,ht,o,ho,d,hd,c,ex,h⟩
  refine ⟨t,ht,?_⟩
  rw[List.all_eq_false]
  refine ⟨o,ho,?_⟩
  have hc:za8 c=true:=by
   have:=(hb t ht).1
   rw[ex] at this
   exact this
  unfold fit1
  simp only[Bool.not_eq_true',Bool.not_eq_false,Bool.and_eq_true,decide_eq_false_iff_not,List.any_eq_true]
  refine ⟨fun z=>?_,d,hd,?_⟩
  ·have z':t.1=Str.ofString "":=by injection z
   rw[ex,zhp] at z'
   simp at z'
  ·rw[ex]
   exact (zeV hc d).mpr h
theorem zjr {b:Bk}(hb:∀t∈b,TgOk b.length t):(∃t∈b,t.2.all (fit3 b)=false)↔((List.range b.length).any fun t=>zbp b t)=true:=by
 unfold zbp zaV zbH
 simp only[List.any_eq_true,List.mem_range,List.mem_flatMap,List.mem_filterMap]
 constructor
 ·rintro ⟨t,ht,h⟩
  rw[List.all_eq_false] at h
  obtain ⟨d,hd,h⟩:=h
  unfold fit3 at h
  simp only[Bool.not_eq_true',Bool.not_eq_false,List.any_eq_true] at h
  obtain ⟨o,ho,h⟩:=h
  obtain ⟨_,⟨h1,h2⟩,_⟩:=(hb t ht).2.2 d hd
  refine ⟨d.2.1.toNat,by omega,o,ho,d.2.2,⟨t,ht,d,hd,?_⟩,h⟩
  rw[if_pos (by omega)]
 ·rintro ⟨n,hn,o,ho,c,⟨t,ht,d,hd,hdc⟩,h⟩
  split at hdc
  ·rename_i e
   obtain rfl:d.2.2=c:=by simpa using hdc
   refine ⟨t,ht,?_⟩
   rw[List.all_eq_false]
   refine ⟨d,hd,?_⟩
   unfold fit3
   simp only[Bool.not_eq_true',Bool.not_eq_false,List.any_eq_true]
   refine ⟨o,?_,h⟩
   rw[e]
   simpa using ho
  ·cases hdc
theorem zhq {b:Bk}(hb:∀t∈b,TgOk b.length t):fitsB b=bookB b:=by
 have h1:=zjq hb
 have h3:=zjr hb
 unfold bookB
 cases e1:escB b with
 |true=>
  obtain ⟨t,ht,h⟩:=h1.mpr e1
  simp only[Bool.not_true,Bool.and_false,Bool.false_and]
  unfold fitsB
  rw[List.all_eq_false]
  refine ⟨t,ht,?_⟩
  unfold fitT
  rw[h]
  simp
 |false=>
  cases e3:((List.range b.length).any fun t=>zbp b t) with
  |true=>
   obtain ⟨t,ht,h⟩:=h3.mpr e3
   simp only[Bool.not_true,Bool.and_false]
   unfold fitsB
   rw[List.all_eq_false]
   refine ⟨t,ht,?_⟩
   unfold fitT
   rw[h]
   simp
  |false=>
   simp only[Bool.not_false,Bool.and_true]
   unfold fitsB
   rw[Bool.eq_iff_iff,List.all_eq_true,List.all_eq_true]
   have a1:∀t∈b,b.all (fit1 t)=true:=fun t ht=>by
    cases q:b.all (fit1 t) with
    |true=>rfl
    |false=>rw[h1.mp ⟨t,ht,q⟩] at e1;cases e1
   have a3:∀t∈b,t.2.all (fit3 b)=true:=fun t ht=>by
    cases q:t.2.all (fit3 b) with
    |true=>rfl
    |false=>rw[h3.mp ⟨t,ht,q⟩] at e3;cases e3
   constructor
   ·intro h t ht
    have:=h t ht
    unfold fitT at this
    rw[a1 t ht,a3 t ht,Bool.true_and,Bool.and_true] at this
    exact this
   ·intro h t ht
    unfold fitT
    rw[a1 t ht,a3 t ht,Bool.true_and,Bool.and_true]
    exact h t ht
end T1
namespace L2
open PySem PySem.Spec PyProof.Rows
def SqS (H:Hp) (a:Addr) (xs:List V):Prop:=H a=some (.tup xs)∨H a=some (.lst xs)
theorem SqS.same {H H':Hp}{a:Addr}{xs:List V}(h:SqS H a xs) (s:Same H H'):SqS H' a xs:=h.elim (fun h=>.inl (s _ _ h)) fun h=>.inr (s _ _ h)
theorem zhr {K:W.Frag}{te te':TE}{a:Addr}{xs:List V}{g:TG}{tb:TS}{D:Ends}{σ:St}{H:Hp}(h:SqS H a xs) (he:∀R:VK,R (.ref a) H→te σ H R) (he':∀R:VK,R (.ref a) H→te' σ H R) (Pv:Nat→St→Hp→Prop) (h0:Pv 0 σ H) (hl:∀i σ H',Pv i σ H'→Same H H')
  (hs:∀i x σ H,xs[i]?=some x→Pv i σ H→g x σ H fun σ2 H2=>tb { D with nx:=Pv (i+1),ct:=Pv (i+1),bk:=D.nx } σ2 H2) (hd:∀σ H,Pv xs.length σ H→D.nx σ H) :
  tFor (fun σ H R=>iTup K te σ H R∨iList K te' σ H R) g tb D σ H:=by
 rcases h with h|h
 ·exact .inl (he _ ⟨a,rfl,⟨xs,SqT.of h⟩,zcd (K:=K) (a:=a) (xs:=xs) Pv h0 (fun i σ H' _ q=>SqT.of (hl i σ H' q _ _ h)) hs hd⟩)
 ·exact .inr (he' _ ⟨a,rfl,⟨xs,SqL.of h⟩,zdP (K:=K) (a:=a) (xs:=xs) Pv h0 (fun i σ H' _ q=>SqL.of (hl i σ H' q _ _ h)) hs hd⟩)
theorem zk4 {K:W.Frag}{H:Hp}{a:Addr}{xs:List V}{j:Nat}{v:V}{Q:VK}(h:SqS H a xs) (hv:xs[j]?=some v) (q:Q v H):rIx K (.ref a) (.int j) H Q:=by
 rcases h with h|h
 ·exact .inr (.inl ⟨a,xs,j,v,rfl,rfl,SqT.of h,zan hv,q⟩)
 ·exact .inl ⟨a,xs,j,v,rfl,rfl,SqL.of h,zan hv,q⟩
end L2
namespace T1
open PySem L2
variable {P:Program}{w:World}{K:W.Frag}{mg:Str→Option Value}{base:Heap}
inductive zfU:List V→Hp→VK→XK→Prop where
 |mk {vs:List V} {H:Hp} {Q:VK} {E:XK} (z a xs b:_) (c1:vs=[.ref a]) (c2:SqS H a xs) (c3:Reps z H xs (b.map tgD)) (c4:b.length≤7) (c5:(∀t∈b,TgOk b.length t)) (c6:∀H',Same H H'→Q (.bl (fitsB b)) H'):zfU vs H Q E
theorem zbC {x:Str}(h:markS x=true):x.length≤4∧1≤x.length:=by
 unfold markS at h
 simp only[Bool.and_eq_true,decide_eq_true_eq] at h
 omega
theorem ndDE:(["door","escape"]:List Str).Nodup:=by decide +kernel
theorem ndD:(["door"]:List Str).Nodup:=by decide +kernel
theorem ndOD:(["one","door"]:List Str).Nodup:=by decide +kernel
end T1
namespace L2
open PySem PySem.Spec PyProof.Rows
section
variable {X:Cx}
def rCatX:R2:=fun x y H Q=>∃a b xs ys,x=.ref a∧y=.ref b∧H a=some (.tup xs)∧H b=some (.tup ys)∧xs.length+ys.length≤sizeLine∧∀p H',Same H H'→H' p=some (.tup (xs++ys))→Q (.ref p) H'
theorem zjs:OpR X (binaryOp .Add) rCatX:=by
 intro pins s σ H x y v u Q I rx ry h
 obtain ⟨a,b,xs,ys,rfl,rfl,ha,hb,hz,q⟩:=h
 by_cases hx:xs=[]
 ·subst hx
  cases rx
  cases ry
  obtain ⟨its,r1,p1,_⟩:=I.tuple (SqT.of ha)
  obtain ⟨its2,r2,p2,_⟩:=I.tuple (SqT.of hb)
  cases r1
  obtain ⟨⟨cls,dd,data,sl⟩,ho,hc,n,hd⟩:=id p1
  obtain ⟨⟨cls2,dd2,data2,sl2⟩,ho2,hc2,n2,hd2⟩:=id p2
  simp only at hc hd hc2 hd2
  subst hc hd hc2 hd2
  exact concat_meets ⟨_,ho,rfl⟩ ⟨_,ho2,rfl⟩ noFill_tuple_add seq_tuple_add PySem.F.slot_tuple_add PySem.F.entry_tuple_add (PySem.F.args_tuple_add_2 _ _)
   (tuple_addW0 a b _ its2.toArray n n2 dd dd2 sl sl2 (by simp)) ⟨ho,ho2,⟨.ref b,H,I,rfl,q b H (Same.refl H) hb⟩⟩
 ·refine zi2 pins s σ H _ _ v u Q I rx ry ⟨a,b,xs,ys,rfl,rfl,SqT.of ha,SqT.of hb,hx,hz,fun hy=>?_,fun hy p np=>q p _ (Same.new np) zac⟩
  refine q a H (Same.refl H) ?_
  rw[hy,List.append_nil]
  exact ha
end
end L2
namespace HT
open PySem PySem.Spec PyProof.Rows L2
section
variable {prog:Program}{w:World}{A:Around}{E:Value→Shared→Prop}{s:Shared}
end
end HT
namespace L2
open PySem PySem.Spec PyProof.Rows
section
variable {X:Cx}
end
section
variable {X:Cx}
theorem zgv {lo:Int}{n:Nat}{g:TG}{tr:TR}{Qe:St→Hp→Prop}{σ:St}{H:Hp}(Pv:Nat→St→Hp→Prop) (h0:Pv 0 σ H) (hs:∀i σ H,i<n→Pv i σ H→g (.int (lo+i)) σ H fun σ2 H2=>tr σ2 H2 (Pv (i+1))) (hd:∀σ H,Pv n σ H→Qe σ H):tLoop (Itr lo n) g tYes tr Qe σ H:=by
 refine ⟨fun i m σ H=>m=n-i∧i≤n∧Pv i σ H,⟨n,rfl,Nat.zero_le _,h0⟩,?_⟩
 rintro i m σ H ⟨rfl,hi,p⟩
 by_cases hlt:i<n
 ·refine .inr ⟨hlt,Pv (i+1),fun σ' H' p'=>⟨n-(i+1),by omega,rfl,hlt,p'⟩,fun x H' y=>?_⟩
  obtain ⟨e,y⟩:=y
  subst e y
  exact hs i σ _ hlt p
 ·have e:i=n:=by omega
  subst e
  exact .inl ⟨Nat.le_refl _,hd σ H p⟩
end
end L2
namespace T1
open PySem L2
variable {P:Program}{w:World}{K:W.Frag}{mg:Str→Option Value}{base:Heap}
def mask (a:Addr) (H:Hp):Hp:=fun x=>if x=a then none else H x
theorem zcg {a x:Addr}{H:Hp}(h:x≠a):mask a H x=H x:=if_neg h
theorem zfV {a:Addr}{H:Hp}{o:HO}:mask a (upd H a o)=mask a H:=by
 funext x
 unfold mask upd
 by_cases h:x=a
 ·rw[if_pos h,if_pos h]
 ·rw[if_neg h,if_neg h,if_neg h]
theorem zbY {a x:Addr}{H:Hp}{o:HO}(h:mask a H x=some o):x≠a∧H x=some o:=by
 unfold mask at h
 by_cases e:x=a
 ·rw[if_pos e] at h;cases h
 ·rw[if_neg e] at h;exact ⟨e,h⟩
theorem zkA {a z:Addr}{H H':Hp}(s:SameX z H H'):SameX z (mask a H) (mask a H'):=fun b o hb h=>by
 obtain ⟨h1,h2⟩:=zbY h
 rw[zcg h1]
 exact s b o hb h2
theorem zhs {a z:Addr}{H:Hp}:SameX z (mask a H) H:=fun b o _ h=>(zbY h).2
theorem zfW {a l z:Addr}{H H':Hp}(hl:H l=none) (s:SameX z H H'):SameX z (mask a H) (mask l H'):=fun b o hb h=>by
 obtain ⟨h1,h2⟩:=zbY h
 rw[zcg (zae h2 hl)]
 exact s b o hb h2
theorem Reps.set {z:Addr}{H:Hp}{v:V}{d:D}(r:Rep z H v d):∀ {vs:List V}{ds:List D}(i:Nat),Reps z H vs ds→Reps z H (vs.set i v) (ds.set i d)
 |_,_,_,.nil=>.nil
 |_,_,0,.cons _ t=>.cons r t
 |_,_,i+1,.cons h t=>.cons h (Reps.set r i t)
theorem Reps.append {z:Addr}{H:Hp}:∀ {vs ws:List V}{ds es:List D},Reps z H vs ds→Reps z H ws es→Reps z H (vs++ws) (ds++es)
 |_,_,_,_,.nil,h=>h
 |_,_,_,_,.cons a t,h=>.cons a (Reps.append t h)
def LBk (z a:Addr) (b:Bk) (H:Hp):Prop:=a≠z∧∃vs,H a=some (.lst vs)∧Reps z (mask a H) vs (b.map tgD)
theorem LBk.aft {z a:Addr}{b:Bk}{H H':Hp}(L:LBk z a b H) (s:SameX z H H'):LBk z a b H':=by
 obtain ⟨ha,vs,h,r⟩:=L
 exact ⟨ha,vs,s _ _ ha h,r.mono (zkA s)⟩
theorem Bag.ne {z p:Addr}{H:Hp}(h:Bag z H) (np:H p=none):p≠z:=by
 obtain ⟨c,s,e⟩:=h
 exact (zae e np).symm
theorem Bag.neT {z p:Addr}{H:Hp}{xs:List V}(h:Bag z H) (np:H p=some (.tup xs)):p≠z:=by
 obtain ⟨c,s,e⟩:=h
 exact zc7 np e (by intro q;cases q)
theorem Aft.new {z p:Addr}{H H':Hp}{o:HO}(a:Aft z H H') (np:H' p=none):Aft z H (upd H' p o):=a.same (Same.new np)
theorem Aft.upd {z p:Addr}{H H':Hp}{o:HO}(a:Aft z H H') (np:H p=none) (hp:p≠z):Aft z H (L2.upd H' p o):=by
 refine ⟨fun b u hb e=>?_,?_⟩
 ·rw[zat (zae e np)]
  exact a.1 b u hb e
 ·obtain ⟨c,s,e⟩:=a.2
  exact ⟨c,s,by rw[zat hp.symm];exact e⟩
def BkOk (b:Bk):Prop:=1≤b.length∧b.length≤6∧(∀t∈b,TgOk b.length t)∧bookB b=true
inductive zfX:List V→Hp→VK→XK→Prop where
 |mk {vs:List V} {H:Hp} {Q:VK} {E:XK} (z:_) (c1:vs=[.ref z]) (c2:Bag z H) (c3:∀v b H',Aft z H H'→Rep z H' v (bkD b)→BkOk b→Q v H'):zfX vs H Q E
theorem pickH {H:Hp}{p:Addr}{l:List V}(h:H p=some (.lst l)){r:Nat}(hr:r<l.length):∃x,l[r]?=some x∧x∈l:=⟨l[r],by simp[hr],List.getElem_mem hr⟩
theorem Aft.none {z p:Addr}{H H':Hp}(a:Aft z H H') (np:H' p=none):H p=none:=by
 cases e:H p with
 |none=>rfl
 |some o=>
  rw[a.1 p o (a.2.ne np) e] at np
  cases np
theorem zjt {n j:Nat}(h:j<n):ixN n (j:Int)=some j:=by
 unfold ixN
 rw[if_pos (by omega),if_pos (by omega)]
 simp
theorem zgw {b:Bk}(h:∀t∈b,t.2=[]):fitsB b=true:=by
 unfold fitsB
 rw[List.all_eq_true]
 intro t ht
 unfold fitT
 rw[h t ht]
 have:b.all (fit1 t)=true:=by
  rw[List.all_eq_true]
  intro o ho
  unfold fit1
  rw[h o ho]
  simp
 rw[this]
 rfl
theorem ndTBE:(["tongue","bag","escapes"]:List Str).Nodup:=by decide +kernel
theorem Bag.same {z:Addr}{H H':Hp}(h:Bag z H) (s:Same H H'):Bag z H':=let ⟨c,e,q⟩:=h;⟨c,e,s _ _ q⟩
section
variable {z:Addr}
end
section
variable {X:Cx}{es:List Expr}{te:TE}{t:TA}
theorem pa_K {c:Const}{k:Nat}{pos:Pos}(h:PE X (.Constant c k pos) te) (hr:PA X es t):PA X (.Constant c k pos::es) (tCons te t):=zaa h hr rfl
theorem pa_T {l:List Expr}{k:Nat}{pos:Pos}(h:PE X (.Tuple l k pos) te) (hr:PA X es t):PA X (.Tuple l k pos::es) (tCons te t):=zaa h hr rfl
theorem pa_L {l:List Expr}{pos:Pos}(h:PE X (.List l pos) te) (hr:PA X es t):PA X (.List l pos::es) (tCons te t):=zaa h hr rfl
theorem pa_B {o:Operator}{a b:Expr}{pos:Pos}(h:PE X (.BinOp a o b pos) te) (hr:PA X es t):PA X (.BinOp a o b pos::es) (tCons te t):=zaa h hr rfl
end
mutual
inductive NoL:D→Prop where
 |non:NoL .non
 |bl (b:Bool):NoL (.bl b)
 |int (i:Int):NoL (.int i)
 |str (x:Str):NoL (.str x)
 |tup {ds:List D} (t:NoLs ds):NoL (.tup ds)
inductive NoLs:List D→Prop where
 |nil:NoLs []
 |cons {d:D} {ds:List D} (h:NoL d) (t:NoLs ds):NoLs (d::ds)
end
mutual
theorem Rep.updL {z p:Addr}{H:Hp}{l l':List V}(hp:H p=some (.lst l)):∀ {v:V}{d:D},Rep z H v d→NoL d→Rep z (upd H p (.lst l')) v d
 |_,_,.non,_=>.non
 |_,_,.bl b,_=>.bl b
 |_,_,.int i,_=>.int i
 |_,_,.str x h,_=>.str x h
 |_,_,.tup h hz r,.tup t=>.tup (by rw[zat (zc7 h hp (by intro q;cases q))];exact h) hz (Reps.updL hp r t)
theorem Reps.updL {z p:Addr}{H:Hp}{l l':List V}(hp:H p=some (.lst l)):∀ {vs:List V}{ds:List D},Reps z H vs ds→NoLs ds→Reps z (upd H p (.lst l')) vs ds
 |_,_,.nil,_=>.nil
 |_,_,.cons h t,.cons h' t'=>.cons (Rep.updL hp h h') (Reps.updL hp t t')
end
theorem NoLs.append:∀ {ds es:List D},NoLs ds→NoLs es→NoLs (ds++es)
 |_,_,.nil,h=>h
 |_,_,.cons a t,h=>.cons a (NoLs.append t h)
def top (i:Nat):Stmt:=PySem.Challenge.pw_tonguenest_k18_books_as_texts.main.body.getD i (.Pass ⟨0,0,0,0⟩)
abbrev zbf:Stmt:=top 5
abbrev zdn:Stmt:=top 6
abbrev zec:Stmt:=top 7
abbrev zby:Stmt:=top 8
abbrev zfq:Stmt:=top 9
abbrev zcC:Stmt:=top 10
abbrev zbv:Stmt:=top 11
abbrev zed:Stmt:=top 12
abbrev zaU:Stmt:=top 13
abbrev zbl:Stmt:=top 14
abbrev zaT:Stmt:=top 15
abbrev zcQ:Stmt:=top 16
abbrev zch:Stmt:=top 30
abbrev zb6:Stmt:=top 31
abbrev zbI:Stmt:=top 32
abbrev zci:Stmt:=top 33
abbrev zcD:Stmt:=top 34
abbrev zcj:Stmt:=top 35
abbrev zcE:Stmt:=top 36
abbrev lBag:Stmt:=top 38
abbrev lTake:Stmt:=top 39
abbrev lMk:Stmt:=top 40
abbrev lFits:Stmt:=top 41
abbrev lBook:Stmt:=top 42
abbrev zc1:Stmt:=top 45
abbrev lRead:Stmt:=top 46
abbrev zdo:Stmt:=top 49
abbrev zee:Stmt:=top 50
abbrev zfr:Stmt:=top 51
abbrev zfY:Stmt:=top 52
abbrev zck:Stmt:=top 53
abbrev lDue:Stmt:=top 54
abbrev zht:Stmt:=top 55
abbrev zfs:Stmt:=top 56
abbrev lLaw:Stmt:=top 57
structure TxtB (mg:Str→Option Value):Prop where
 len:mg "len"=none
 ord:mg "ord"=none
 all_:mg "all"=none
 any_:mg "any"=none
 isinst:mg "isinstance"=none
 str:mg "str"=none
 int:mg "int"=none
 bool:mg "bool"=none
 tuple:mg "tuple"=none
 range:mg "range"=none
 sorted:mg "sorted"=none
 max:mg "max"=none
theorem scTake:zar ["bag","many","found"] ["bag","many"] (zag lTake):=⟨rfl,rfl,rfl,by decide +kernel,rfl,by decide +kernel,by decide +kernel⟩
theorem zju {f:Addr}{fd:FuncData}(F:Fun K "_law_take" "_law_take" lTake f fd):FnOk P w K mg base CX0 1 f fd ["bag","many"] zcU:=by
 refine F.ok scTake (fun vs H Q E h=>?_) (fun cdv A outer s H vs Q E hr h=>?_)
 ·obtain ⟨z,n,rfl,_⟩:=h
  rfl
 ·obtain ⟨z,n,rfl,⟨c,e,hz⟩,hn,hn2,k⟩:=h
  have nd:=scTake.nd
  refine ⟨_,zad (zaL (zaq zhZ (zaC ix_list (pv 0) zah (fun _ _=>rfl)) zah (zax _))
    (zad (zas (i:=2) nd rfl (Or.inl rfl) (zaw zco (zaC ix_list (pv 0) zah (fun _ _=>rfl)) (pv 1)))
    (zad (zdz (zaw ze4 (zaC ix_list (pv 0) zah (fun _ _=>rfl)) (pv 1)) (zgF (pv 0) zah zdR))
    (zaf (zam (pv 2))))) zau)
   (zad (zdz (zaw zco (zaw zda (zaC ix_list (pv 0) zah (fun _ _=>rfl)) zah) zah) (zgF (pv 0) zah zdR))
   (zaf (zam (zaw zco (zaw ze4 (zaw zco (zaw zda (zaw ze4 (zaC ix_list (pv 0) zah (fun _ _=>rfl)) zah) (zaw zaK (zaw zco (zaC ix_list (pv 0) zah (fun _ _=>rfl)) zah) zah)) zah) zah) (pv 1))))),?_⟩
  dsimp only[cxOf,Cx.nox,Cx.wish]
  refine ⟨_,rfl,z,_,0,_,rfl,rfl,SqL.of hz,zan (j:=0) rfl,_,_,rfl,rfl,_,rfl,?_⟩
  have ex:∀x:Int,∃r:Nat,x % n=(r:Int)∧(r:Int)<n:=fun x=>⟨(x % n).toNat,by have:=Int.emod_nonneg x (show n≠0 by omega);omega,by have:=Int.emod_lt_of_pos x hn;have:=Int.emod_nonneg x (show n≠0 by omega);omega⟩
  refine ite2 (fun h1=>?_) (fun h1=>?_)
  ·refine ⟨_,rfl,z,_,0,_,rfl,rfl,SqL.of hz,zan (j:=0) rfl,_,rfl,_,_,rfl,rfl,hn,?_⟩
   refine ⟨_,rfl,z,_,0,_,rfl,rfl,SqL.of hz,zan (j:=0) rfl,_,rfl,_,_,rfl,rfl,⟨hn,by omega⟩,?_⟩
   refine ⟨_,rfl,z,_,0,0,rfl,rfl,hz,rfl,?_⟩
   obtain ⟨r,er,hr1⟩:=ex c
   refine ⟨_,rfl,?_⟩
   have q:=k r (upd H z (.lst [.int (c / n),.int e])) hr1 ⟨SameX.refl.upd,⟨_,_,zac⟩⟩
   rw[←er] at q
   exact q
  ·refine ⟨_,rfl,z,_,1,_,rfl,rfl,SqL.of hz,zan (j:=1) rfl,_,_,rfl,rfl,.inr (by decide),_,_,rfl,rfl,(by show (0:Int)<_;decide),?_⟩
   refine ⟨_,rfl,z,_,1,1,rfl,rfl,hz,rfl,?_⟩
   refine ⟨_,rfl,z,_,1,_,rfl,rfl,SqL.of zac,zan (j:=1) rfl,_,_,rfl,rfl,⟨by decide,by decide⟩,_,rfl,z,_,1,_,rfl,rfl,SqL.of zac,zan (j:=1) rfl,_,_,rfl,rfl,(by show (0:Int)<_;decide),_,_,rfl,rfl,_,_,rfl,rfl,?_⟩
   refine ⟨.inr ?_,_,_,rfl,rfl,(by show (0:Int)<_;decide),_,_,rfl,rfl,⟨by decide,by decide⟩,_,rfl,_,_,rfl,rfl,hn,?_⟩
   ·have a1:=Int.emod_nonneg (e*48271 % 2147483647) (show (32749:Int)≠0 by decide)
    have a2:=Int.emod_lt_of_pos (e*48271 % 2147483647) (show (0:Int)<32749 by decide)
    omega
   ·obtain ⟨r,er,hr1⟩:=ex (e*48271 % 2147483647 / 13*(e*48271 % 2147483647 % 32749+17) % 2147483629 / 32)
    have q:=k r (upd H z (.lst [.int c,.int (e*48271 % 2147483647)])) hr1 ⟨SameX.refl.upd,⟨_,_,zac⟩⟩
    rw[←er] at q
    exact q
theorem scBag:zar ["script","k","cell","seed"] ["script","k"] (zag lBag):=⟨rfl,rfl,rfl,by decide +kernel,rfl,by decide +kernel,by decide +kernel⟩
theorem zkB {f:Addr}{fd:FuncData}(F:Fun K "_law_bag" "_law_bag" lBag f fd) (T:TxtB mg):FnOk P w K mg base CX0 1 f fd ["script","k"] (spBag K):=by
 refine F.ok scBag (fun vs H Q E h=>?_) (fun cdv A outer s H vs Q E hr h=>?_)
 ·obtain ⟨z,n,i,rfl,_⟩:=h
  rfl
 ·obtain ⟨a,ns,i,rfl,ha,hi,k⟩:=h
  have nd:=scBag.nd
  refine ⟨_,zad (zas (i:=2) nd rfl (Or.inl rfl) zah)
   (zad (zaL (zaq zgi (pv 1) (zap zav (by rfl) T.len zbe (zaa (pv 0) zab)) (zax _))
    (zaf (zas (i:=2) nd rfl (Or.inl rfl) (zaw zco (zaC ix_list (pv 0) (pv 1) (fun _ _=>rfl)) (zaw ziE zah zah)))) zau)
   (zad (zas (i:=3) nd rfl (Or.inl rfl) (zaw zaK zah (zaw zco (zaw zaK (zaw zaK (zaw zaK (zaw zda (zaw zco (pv 2) zah) zah) (zaw zda (zaw zda zah (pv 1)) (pv 1))) (zaw zda zah (pv 1))) zah) zah)))
   (zad (zaL (zaq zgi (pv 2) (zaw ziE zah zah) (zax _)) (zaf (zam (zay (zaa zah (zaa (pv 3) zab))))) zau)
   (zaf (zam (zay (zaa (pv 2) (zaa (pv 3) zab)))))))),?_⟩
  dsimp only[cxOf,Cx.nox,Cx.wish]
  have small:(2:Nat)≤sizeLine:=by rw[sizeLine_eq];decide
  refine ⟨_,rfl,_,rfl,a,_,rfl,.inl ha,_,_,rfl,rfl,_,rfl,?_⟩
  refine ite2 (fun h1=>?g1) (fun h1=>?g2)
  case' g1=>
   have hlt:i<ns.length:=by simp at h1;omega
   refine ⟨_,rfl,_,rfl,a,_,_,.int ns[i],rfl,rfl,ha,zan (by simp[hlt]),_,_,rfl,rfl,⟨by decide,by decide,by decide⟩,_,_,rfl,rfl,(by show (0:Int)<_;decide),?_⟩
  all_goals
   refine ⟨_,rfl,_,_,rfl,rfl,(by show (0:Int)<_;decide),_,_,rfl,rfl,.inr (by decide),_,rfl,_,_,rfl,rfl,.inl (by decide),_,rfl,_,_,rfl,rfl,.inr (by omega),_,_,rfl,rfl,_,rfl,_,_,rfl,rfl,.inl (by decide),_,_,rfl,rfl,_,_,rfl,rfl,_,_,rfl,rfl,(by show (0:Int)<_;decide),_,_,rfl,rfl,?_⟩
   refine ⟨_,rfl,_,_,rfl,rfl,⟨by decide,by decide,by decide⟩,_,_,rfl,rfl,_,rfl,?_⟩
   refine ite2 (fun h1=>?_) (fun h1=>?_)
   ·exact ⟨_,rfl,small,fun p np=>k p _ np (Same.new np) ⟨_,_,zac⟩⟩
   ·exact ⟨_,rfl,_,rfl,small,fun p np=>k p _ np (Same.new np) ⟨_,_,zac⟩⟩
theorem scMk:zar ["bag","signs","found","turn"] ["bag","signs"] (zag lMk):=⟨rfl,rfl,rfl,by decide +kernel,rfl,by decide +kernel,by decide +kernel⟩
theorem zk5 {f f1:Addr}{fd fd1:FuncData}(F:Fun K "_law_mark" "_law_mark" lMk f fd) (T:TxtB mg) (k1:W.keepIn K (.ref f1)=true) (b1:Binds K fd1 ["bag","many"] []) (m1:mg "_law_take"=some (.ref f1)) (G1:FnOk P w K mg base CX0 1 f1 fd1 ["bag","many"] zcU):FnOk P w K mg base CX0 2 f fd ["bag","signs"] spMk:=by
 refine F.ok scMk (fun vs H Q E h=>?_) (fun cdv A outer s H vs Q E hr h=>?_)
 ·obtain ⟨z,n,rfl,_⟩:=h
  rfl
 ·obtain ⟨z,x,rfl,hB,hx1,hx2,hx3,k⟩:=h
  have nd:=scMk.nd
  refine ⟨_,zad (zas (i:=2) nd rfl (Or.inl rfl) zai)
   (zad (zbm PassesOwn.never rfl (zbS rfl T.range (zaa (zaw zaK zah (zaC ix_list (zay (zaa zah (zaa zah (zaa zah (zaa (zak G1 hr rfl m1 k1 b1 .nil pass0 (zaa (pv 0) (zaa zah zab))) zab))))) (zak G1 hr rfl m1 k1 b1 .nil pass0 (zaa (pv 0) (zaa zah zab))) (fun _ _=>rfl))) zab))
    (zal (i:=3) nd rfl (Or.inl rfl))
    (zaf (zas (i:=2) nd rfl (Or.inl rfl) (zaw zaF (pv 2) (zaC zde (pv 1) (zak G1 hr rfl m1 k1 b1 .nil pass0 (zaa (pv 0) (zaa (zap zaP (by rfl) T.len zbe (zaa (pv 1) zab)) zab))) (fun _ _=>rfl))))))
   (zaf (zam (pv 2)))),?_⟩
  dsimp only[cxOf,Cx.nox,Cx.wish]
  have small:(1000:Nat)≤sizeLine:=by rw[sizeLine_eq];decide
  refine ⟨_,rfl,z,4,rfl,hB,by decide,by decide,fun r H1 hr1 a1=>?_⟩
  refine ⟨by show (4:Nat)≤_;omega,fun p np=>⟨_,rfl,z,4,rfl,?_,by decide,by decide,fun r2 H2 hr2 a2=>?_⟩⟩
  ·exact (a1.same (Same.new np)).2
  ·have a12:Aft z H H2:=(a1.same (Same.new np)).trans a2
   have hpz:p≠z:=by
    obtain ⟨c,e,h⟩:=a1.2
    exact (zae h np).symm
   have hp2:H2 p=some (.lst [.int 0,.int 0,.int 1,.int r]):=a2.1 p _ hpz zac
   obtain ⟨n,hn1,hn2,hn3⟩:∃n:Nat,([V.int 0,V.int 0,V.int 1,V.int r]:List V)[r2]?=some (.int n)∧n≤3∧True:=by
    match r2,hr2 with
    |0,_=>exact ⟨0,rfl,by omega,trivial⟩
    |1,_=>exact ⟨0,rfl,by omega,trivial⟩
    |2,_=>exact ⟨1,rfl,by omega,trivial⟩
    |3,_=>exact ⟨r,rfl,by omega,trivial⟩
    |m+4,h=>omega
   refine ⟨p,_,r2,.int n,rfl,rfl,SqL.of hp2,zan hn1,1,n,rfl,rfl,1+n,rfl,by omega,by omega,?_⟩
   have en:(1+(n:Int)).toNat=1+n:=by omega
   rw[en]
   refine zcn (fun i σ H3=>∃m u,σ=[some (.ref z),some (.str x),some (.str m),u]∧Aft z H H3∧m.length=i∧zeb m) ⟨_,none,rfl,a12,by decide +kernel,?_⟩ ?_ ?_
   ·intro c hc
    have:(Str.ofString "").cps.toList=[]:=by decide +kernel
    rw[this] at hc
    cases hc
   ·rintro i σ H3 hi ⟨m,u,rfl,a3,hm1,hm2⟩
    refine ⟨_,rfl,_,rfl,_,rfl,_,rfl,x,rfl,by omega,z,x.length,rfl,a3.2,by omega,by omega,fun r3 H4 hr3 a4=>?_⟩
    have hr4:r3<x.cps.toList.length:=by
     have:x.cps.toList.length=x.length:=by simp;rfl
     omega
    refine ⟨x,r3,x.cps.toList[r3],rfl,rfl,by omega,zan (by simp[hr4]),m,_,rfl,rfl,?_,?_⟩
    ·show m.length+1≤_
     omega
    ·refine ⟨_,_,rfl,a3.trans a4,?_,fun c hc=>?_⟩
     ·rw[zcb]
      show m.length+1=_
      omega
     ·rw[zbq] at hc
      rcases List.mem_append.mp hc with hc|hc
      ·exact hm2 c hc
      ·have:c=x.cps.toList[r3]:=by simpa using hc
       rw[this]
       exact hx3 _ (List.getElem_mem hr4)
   ·rintro σ H3 ⟨m,u,rfl,a3,hm1,hm2⟩
    refine ⟨_,rfl,k m H3 ?_ a3⟩
    unfold markS
    rw[decide_eq_true (show 1≤m.length by omega),decide_eq_true (show m.length≤4 by omega)]
    simp only[Bool.true_and,List.all_eq_true]
    exact hm2
theorem scFits:zar ["book","escape","doors","other","more","door","some"] ["book"] (zag lFits):=⟨rfl,rfl,rfl,by decide +kernel,rfl,by decide +kernel,by decide +kernel⟩
theorem zjv {f:Addr}{fd:FuncData}(F:Fun K "_law_fits_book" "_law_fits_book" lFits f fd) (T:TxtB mg) (T2:Txt2 mg):FnOk P w K mg base CX0 1 f fd ["book"] zfU:=by
 refine F.ok scFits (fun vs H Q E h=>?_) (fun cdv A outer s H vs Q E hr h=>?_)
 ·obtain ⟨z,a,xs,b,rfl,_⟩:=h
  rfl
 ·obtain ⟨z,a,xs,b,rfl,hS,R,hb7,hok,k⟩:=h
  have nd:=scFits.nd
  refine ⟨_,zad (zbm PassesOwn.never rfl (PI.or (za6 (pv 0)) (zbR (pv 0))) (zbQ rfl (zao (zal (i:=1) nd rfl (Or.inr rfl)) (zao (zal (i:=2) nd rfl (Or.inl rfl)) za2)))
    (zad (zbm PassesOwn.never rfl (PI.or (za6 (pv 0)) (zbR (pv 0))) (zbQ rfl (zao (zal (i:=3) nd rfl (Or.inl rfl)) (zao (zal (i:=4) nd rfl (Or.inl rfl)) za2)))
     (zad (zcf (i:=6) (N':=["door","escape"]) (js:=[none,some 1]) rfl rfl nd rfl (Or.inl rfl) (za3 (zag lFits) (by decide +kernel)) ⟨rfl,Or.inr (Or.inl rfl),rfl,trivial⟩ (za6 (pv 4))
      (fun cl s H fp=>zal (i:=0) ndDE rfl (Or.inl rfl))
      (fun cl s H fp=>zdh (zaq zeu (pv 1) (zaw zaF (zaw zaF (zaC zdk (pv 0) zah (fun _ _=>rfl)) zai) (zaC zdk (pv 0) zah (fun _ _=>rfl))) (by with_unfolding_all rfl))) (fun cl s H fp=>pv 0))
     (zaf (zaL (PW.pt (zgD (zaq zdx (pv 1) zai (zax _)) (ze2 (zaq (zdl hr.units0) (pv 6) (zay zab) (zax _))))) (zaf (zam zbN)) zau))))
    (zad (zaL (zaq zdx (zap zcu (by rfl) T.len zbe (zaa (zaG (zdy rfl) (by rfl) T2.set zk2 (zaa (za1 (N':=["door"]) (js:=[none]) rfl rfl (za3 (zag lFits) (by decide +kernel)) trivial (za6 (pv 2))
      (fun cl s H fp=>zal (i:=0) ndD rfl (Or.inl rfl)) (fun cl s H fp=>zaS) (fun cl s H fp=>zaC zdk (pv 0) zah (fun _ _=>rfl))) zab)) zab)) (zap zav (by rfl) T.len zbe (zaa (pv 2) zab)) (zax _)) (zaf (zam zbN)) zau)
    (zaf (zbm PassesOwn.never rfl (za6 (pv 2)) (zal (i:=5) nd rfl (Or.inr rfl))
     (zaf (zaL (zaq (zdl hr.units0) (za1 (N':=["one","door"]) (js:=[none,some 5]) rfl rfl (za3 (zag lFits) (by decide +kernel)) ⟨rfl,Or.inr (Or.inl rfl),rfl,trivial⟩ (za6 (zaC ix_tup (zaC zkb (pv 0) (zaC ix_tup (pv 5) zah (fun _ _=>rfl)) (fun _ _=>rfl)) zah (fun _ _=>rfl)))
      (fun cl s H fp=>zal (i:=0) ndOD rfl (Or.inl rfl)) (fun cl s H fp=>zdh (zbb (ziP PySem.F.plainAttrs_str PySem.F.slot_str_startswith PySem.F.type_str_startswith zct (zaC zdk (pv 0) zah (fun _ _=>rfl)) (zaa (zaC zdk (pv 1) zah (fun _ _=>rfl)) zab)))) (fun cl s H fp=>pv 0)) (zay zab) (zax _)) (zaf (zam zbN)) zau)))))))
   (zaf (zam zbN)),?_⟩
  dsimp only[cxOf,Cx.nox,Cx.wish]
  have hl:xs.length=b.length:=by have:=R.length;simpa using this
  refine zhr (a:=a) (xs:=xs) hS (fun R q=>⟨_,rfl,q⟩) (fun R q=>⟨_,rfl,q⟩) (fun i σ H2=>∃u1 u2 u3 u4 u5 u6,σ=[some (.ref a),u1,u2,u3,u4,u5,u6]∧Same H H2∧∀j,j<i→fitT b (b.getD j tg0)=true) ⟨none,none,none,none,none,none,rfl,Same.refl H,fun j hj=>absurd hj (Nat.not_lt_zero j)⟩ (fun i σ H' ⟨_,_,_,_,_,_,_,s,_⟩=>s) ?_ ?_
  ·rintro i y σ H2 hi ⟨u1,u2,u3,u4,u5,u6,rfl,s2,hP⟩
   have hil:i<b.length:=by have:=(List.getElem?_eq_some_iff.mp hi).1;omega
   have ey:y=xs.getD i .non:=by rw[List.getD_eq_getElem?_getD,hi];rfl
   have tok:TgOk b.length (b.getD i tg0):=hok _ (zbu _ hil)
   obtain ⟨c,d,ys,e,hcz,hdz,hc,hd,hyl,Ry⟩:=zaO ((zaJ (b:=b) (i:=i) R hil).mono s2.x)
   rw[ey,e]
   have hyl:ys.length=(b.getD i tg0).2.length:=hyl
   have few1:=tok.2.1
   have no:∀H',Same H H'→fitT b (b.getD i tg0)=false→Q (.bl false) H':=fun H' s' hf=>by
    have:=zho b tg0 (fitT b) hil hf
    have q:=k H' s'
    unfold fitsB at q
    rw[this] at q
    exact q
   refine ⟨c,_,rfl,SqT.of hc,rfl,_,_,rfl,_,_,rfl,rfl,?_⟩
   refine zbs fun D1 hD1 hR1 _ _=>?_
   have no:=fun H' a b=>hR1 _ _ (no H' a b)
   refine zaj fun U hU=>?_
   refine zhr (a:=a) (xs:=xs) (hS.same s2) (fun R q=>⟨_,rfl,q⟩) (fun R q=>⟨_,rfl,q⟩) (fun j σ H3=>∃u3 u4 u6,σ=[some (.ref a),some (.str (b.getD i tg0).1),some (.ref d),u3,u4,u5,u6]∧Same H2 H3∧∀l,l<j→fit1 (b.getD i tg0) (b.getD l tg0)=true) ⟨u3,u4,u6,rfl,Same.refl _,fun j hj=>absurd hj (Nat.not_lt_zero j)⟩ (fun i σ H' ⟨_,_,_,_,s,_⟩=>s) ?_ ?_
   ·rintro j y2 σ H3 hj ⟨v3,v4,v6,rfl,s3,hP1⟩
    have hjl:j<b.length:=by have:=(List.getElem?_eq_some_iff.mp hj).1;omega
    have ey2:y2=xs.getD j .non:=by rw[List.getD_eq_getElem?_getD,hj];rfl
    have tok2:TgOk b.length (b.getD j tg0):=hok _ (zbu _ hjl)
    have few2:=tok2.2.1
    obtain ⟨c2,d2,zs,e2,hc2z,hd2z,hc2,hd2,hzl,Rz⟩:=zaO ((zaJ (b:=b) (i:=j) R hjl).mono (s2.trans s3).x)
    rw[ey2,e2]
    have hzl:zs.length=(b.getD j tg0).2.length:=hzl
    refine ⟨c2,_,rfl,SqT.of hc2,rfl,_,_,rfl,_,_,rfl,rfl,?_⟩
    refine zbs fun D2 hD2 hR2 _ _=>?_
    have no:=fun H' a b=>hR2 _ _ (no H' a b)
    refine zaj fun U2 hU2=>?_
    refine ⟨_,rfl,d2,rfl,⟨_,SqT.of hd2⟩,fun p np=>?_⟩
    have hdp:d2≠p:=zae hd2 np
    have nx:∀H',Same H3 H'→fit1 (b.getD i tg0) (b.getD j tg0)=true→∃u3 u4 u6,[some (V.ref a),some (V.str (b.getD i tg0).1),some (V.ref d),some (.str (b.getD j tg0).1),some (.ref d2),u5,some (.ref p)]=[some (V.ref a),some (V.str (b.getD i tg0).1),some (V.ref d),u3,u4,u5,u6]∧Same H2 H'∧∀l,l<j+1→fit1 (b.getD i tg0) (b.getD l tg0)=true:=fun H' s' hf=>⟨_,_,_,rfl,s3.trans s',fun l hl=>by
     rcases Nat.lt_succ_iff_lt_or_eq.mp hl with h|h
     ·exact hP1 l h
     ·rw[h];exact hf⟩
    refine zbF (fun l=>if inEsc (b.getD i tg0).1 ((b.getD j tg0).2.getD l dr0) then some (zs.getD l .non) else none) (fun σ=>∃v,σ=[v,some (.str (b.getD i tg0).1)]) ⟨none,rfl⟩ np (by omega) (za5 (xs:=zs) (by rw[zat hdp];exact hd2) hdp) (fun l σ H4 C hl' ⟨v,hv⟩ hS4 hC=>?_) (fun σ H4 s4 hH4=>?_)
    ·subst hv
     have hll:l<(b.getD j tg0).2.length:=by omega
     obtain ⟨q,e3,hqz,hq⟩:=zbc ((za4 (ds:=(b.getD j tg0).2) (i:=l) Rz hll).mono hS4.x)
     have dok:=tok2.2.2 _ (zbu dr0 hll)
     have l1:=zbC dok.1
     have l2:=zbC dok.2.2
     have big:(1000:Nat)≤sizeLine:=by rw[sizeLine_eq];decide
     have lb:(Str.ofString " ").length=1:=by decide +kernel
     have hC':=hC [some (.ref q),some (.str (b.getD i tg0).1)] H4 ⟨_,rfl⟩ (Same.refl _)
     rw[e3]
     refine ⟨_,rfl,_,rfl,q,_,0,_,rfl,rfl,SqT.of hq,zan (j:=0) rfl,_,_,rfl,rfl,?_,_,rfl,q,_,2,_,rfl,rfl,SqT.of hq,zan (j:=2) rfl,_,_,rfl,rfl,?_,_,_,rfl,rfl,_,rfl,?_⟩
     ·rw[lb]
      show ((b.getD j tg0).2.getD l dr0).1.length+1≤_
      omega
     ·rw[zcb,lb]
      show ((b.getD j tg0).2.getD l dr0).1.length+1+((b.getD j tg0).2.getD l dr0).2.2.length≤_
      omega
     ·show if inEsc (b.getD i tg0).1 ((b.getD j tg0).2.getD l dr0)=true then _ else _
      cases g:inEsc (b.getD i tg0).1 ((b.getD j tg0).2.getD l dr0) with
      |true=>
       rw[g,if_pos rfl,e3] at hC'
       exact iteT ⟨_,rfl,hC'⟩
      |false=>
       rw[g,if_neg (by simp)] at hC'
       exact iteF hC'
    ·refine hU2 _ _ ⟨_,rfl,rfl,_,rfl,?_⟩
     refine ite2 (fun g1=>?_) (fun g1=>?_)
     ·refine ⟨_,rfl,Nat.zero_le _,fun q nq=>?_⟩
      have hpq:p≠q:=zae hH4 nq
      refine ⟨p,q,_,rfl,rfl,by rw[zat hpq];exact hH4,zac,_,rfl,?_⟩
      have e5:=zeU (b.getD j tg0).2 dr0 (inEsc (b.getD i tg0).1) (fun l=>zs.getD l .non) hzl
      rw[e5,Bool.not_not]
      cases g2:(b.getD j tg0).2.any (inEsc (b.getD i tg0).1) with
      |true=>
       refine iteT (no _ (((s2.trans s3).trans s4).trans (Same.new nq)) ?_)
       have f1:fit1 (b.getD i tg0) (b.getD j tg0)=false:=by
        unfold fit1
        rw[g2,g1]
        rfl
       unfold fitT
       rw[zho b tg0 (fit1 (b.getD i tg0)) hjl f1,Bool.false_and,Bool.false_and]
      |false=>
       refine iteF (hD2 _ _ (nx _ (s4.trans (Same.new nq)) ?_))
       unfold fit1
       rw[g2,Bool.and_false]
       rfl
     ·refine iteF (hD2 _ _ (nx _ s4 ?_))
      have g1':(!decide (V.str (b.getD i tg0).1=V.str (Str.ofString "")))=false:=by simpa using g1
      unfold fit1
      rw[g1',Bool.false_and]
      rfl
   ·rintro σ H3 ⟨v3,v4,v6,rfl,s3,hP1⟩
    have f1:b.all (fit1 (b.getD i tg0))=true:=zhn b tg0 _ fun j hj=>hP1 j (by omega)
    refine hU _ _ (zaj fun U hU=>?_)
    refine ⟨_,rfl,d,rfl,⟨_,SqT.of (s3 _ _ hd)⟩,fun p np=>?_⟩
    have hdp:d≠p:=zae (s3 _ _ hd) np
    refine zbk (fun l=>.str ((b.getD i tg0).2.getD l dr0).1) (fun σ=>∃v,σ=[v]) ⟨none,rfl⟩ np (by omega) (za5 (xs:=ys) (by rw[zat hdp];exact s3 _ _ hd) hdp) (fun l σ H4 C hl' ⟨v,hv⟩ hS4 hC=>?_) (fun σ H4 s4 hH4=>?_)
    ·subst hv
     obtain ⟨q,e3,hqz,hq⟩:=zbc ((za4 (ds:=(b.getD i tg0).2) (i:=l) Ry (by omega)).mono (s3.trans hS4).x)
     rw[e3]
     exact ⟨_,rfl,q,_,0,_,rfl,rfl,SqT.of hq,zan (j:=0) rfl,hC _ H4 ⟨_,rfl⟩ (Same.refl _)⟩
    ·have hO:H4 p=some (.lst ((zaH (b.getD i tg0).2).map V.str)):=by
      rw[hH4,hyl]
      unfold zaH
      rw[List.map_map]
      exact congrArg (fun x=>some (HO.lst x)) (range_map (b.getD i tg0).2 dr0 fun d=>V.str d.1)
     refine ⟨p,zaH (b.getD i tg0).2,rfl,SqL.of hO,(by unfold scanBound zaH;rw[List.length_map];omega),fun q nq=>?_⟩
     have s5:=Same.new (o:=setL P w q (zaH (b.getD i tg0).2)) nq
     have s25:Same H2 _:=(s3.trans s4).trans s5
     refine ⟨q,_,rfl,zac,_,rfl,d,ys,rfl,.inr (SqT.of (s25 _ _ hd)),rfl,_,rfl,?_⟩
     have e2:(!decide (V.int ((dd (zaH (b.getD i tg0).2)).length:Int)=V.int (ys.length:Int)))=!decide (zaH (b.getD i tg0).2).Nodup:=by
      congr 1
      rw[decide_eq_decide,←ziL]
      have:(zaH (b.getD i tg0).2).length=(b.getD i tg0).2.length:=by simp[zaH]
      rw[this,←hyl]
      simp
      omega
     rw[e2]
     cases g3:decide (zaH (b.getD i tg0).2).Nodup with
     |false=>
      refine iteT (no _ (s2.trans s25) ?_)
      unfold fitT
      rw[g3,Bool.and_false,Bool.false_and]
     |true=>
      refine iteF (hU _ _ ?_)
      refine ⟨_,rfl,d,rfl,⟨_,SqT.of (s25 _ _ hd)⟩,zcd (K:=K) (a:=d) (xs:=ys) (fun l σ H6=>∃u3 u4 u5 u6,σ=[some (.ref a),some (.str (b.getD i tg0).1),some (.ref d),u3,u4,u5,u6]∧Same H2 H6∧∀m,m<l→fit3 b ((b.getD i tg0).2.getD m dr0)=true) ⟨_,_,_,_,rfl,s25,fun j hj=>absurd hj (Nat.not_lt_zero j)⟩ (fun l σ H6 _ ⟨_,_,_,_,_,s,_⟩=>SqT.of (s _ _ hd)) ?_ ?_⟩
      ·rintro l y3 σ H6 hl' ⟨w3,w4,w5,w6,rfl,s6,hP3⟩
       have hll:l<(b.getD i tg0).2.length:=by have:=(List.getElem?_eq_some_iff.mp hl').1;omega
       have ey3:y3=ys.getD l .non:=by rw[List.getD_eq_getElem?_getD,hl'];rfl
       obtain ⟨q2,e3,hq2z,hq2⟩:=zbc ((za4 (ds:=(b.getD i tg0).2) (i:=l) Ry hll).mono s6.x)
       rw[ey3,e3]
       have dok:=tok.2.2 _ (zbu dr0 hll)
       generalize hdr:(b.getD i tg0).2.getD l dr0=dr at *
       obtain ⟨hn1,hn2⟩:=dok.2.1
       obtain ⟨n,hn⟩:∃n:Nat,dr.2.1=(n:Int):=⟨dr.2.1.toNat,by omega⟩
       have hnl:n<b.length:=by omega
       have few4:(b.getD n tg0).2.length≤6:=(hok _ (zbu tg0 hnl)).2.1
       obtain ⟨c4,d4,ws,e4,hc4z,hd4z,hc4,hd4,hwl,Rw⟩:=zaO ((zaJ (b:=b) (i:=n) R hnl).mono (s2.trans s6).x)
       have hwl:ws.length=(b.getD n tg0).2.length:=hwl
       have ex:xs[n]?=some (.ref c4):=by
        have h1:n<xs.length:=by omega
        have h2:xs.getD n .non=xs[n]:=by simp[h1]
        rw[List.getElem?_eq_getElem h1,←h2,e4]
       rw[hn] at hq2
       refine ⟨_,rfl,_,rfl,q2,_,1,_,rfl,rfl,SqT.of hq2,zan (j:=1) rfl,zk4 (hS.same (s2.trans s6)) ex ?_⟩
       refine ⟨c4,_,1,_,rfl,rfl,SqT.of hc4,zan (j:=1) rfl,d4,rfl,⟨_,SqT.of hd4⟩,fun p2 np2=>?_⟩
       have hdp2:d4≠p2:=zae hd4 np2
       refine zbF (fun m=>if stAt ((b.getD n tg0).2.getD m dr0).1 dr.2.2 0 then some (ws.getD m .non) else none) (fun σ=>∃v,σ=[v,some (.ref q2)]) ⟨none,rfl⟩ np2 (by omega) (za5 (xs:=ws) (by rw[zat hdp2];exact hd4) hdp2) (fun m σ H7 C hm ⟨v,hv⟩ hS7 hC=>?_) (fun σ H7 s7 hH7=>?_)
       ·subst hv
        obtain ⟨q3,e5,hq3z,hq3⟩:=zbc ((za4 (ds:=(b.getD n tg0).2) (i:=m) Rw (by omega)).mono hS7.x)
        have hC':=hC [some (.ref q3),some (.ref q2)] H7 ⟨_,rfl⟩ (Same.refl _)
        rw[e5]
        refine ⟨_,rfl,q3,_,0,_,rfl,rfl,SqT.of hq3,zan (j:=0) rfl,rfl,_,rfl,q2,_,2,_,rfl,rfl,SqT.of (hS7 _ _ hq2),zan (j:=2) rfl,_,_,rfl,rfl,_,rfl,?_⟩
        cases g:stAt ((b.getD n tg0).2.getD m dr0).1 dr.2.2 0 with
        |true=>
         rw[g,if_pos rfl,e5] at hC'
         exact iteT ⟨_,rfl,hC'⟩
        |false=>
         rw[g,if_neg (by simp)] at hC'
         exact iteF hC'
       ·refine ⟨Nat.zero_le _,fun q nq=>?_⟩
        have hpq:p2≠q:=zae hH7 nq
        refine ⟨p2,q,_,rfl,rfl,by rw[zat hpq];exact hH7,zac,_,rfl,?_⟩
        have e5:=zeU (b.getD n tg0).2 dr0 (fun o=>stAt o.1 dr.2.2 0) (fun m=>ws.getD m .non) hwl
        rw[e5,Bool.not_not]
        have ef:fit3 b dr=!((b.getD n tg0).2.any fun o=>stAt o.1 dr.2.2 0):=by
         unfold fit3
         rw[hn]
         rfl
        cases g2:(b.getD n tg0).2.any fun o=>stAt o.1 dr.2.2 0 with
        |true=>
         refine iteT (no _ ((s2.trans s6).trans (s7.trans (Same.new nq))) ?_)
         unfold fitT
         rw[zho (b.getD i tg0).2 dr0 (fit3 b) hll (by rw[hdr,ef,g2];rfl),Bool.and_false]
        |false=>
         refine iteF ⟨_,_,_,_,rfl,s6.trans (s7.trans (Same.new nq)),fun m hm=>?_⟩
         rcases Nat.lt_succ_iff_lt_or_eq.mp hm with h|h
         ·exact hP3 m h
         ·rw[h,hdr,ef,g2];rfl
      ·rintro σ H6 ⟨w3,w4,w5,w6,rfl,s6,hP3⟩
       refine hD1 _ _ ⟨_,_,_,_,_,_,rfl,s2.trans s6,fun j hj=>?_⟩
       rcases Nat.lt_succ_iff_lt_or_eq.mp hj with h|h
       ·exact hP j h
       ·rw[h]
        unfold fitT
        rw[f1,g3,zhn (b.getD i tg0).2 dr0 (fit3 b) fun m hm=>hP3 m (by omega)]
        rfl
  ·rintro σ H2 ⟨u1,u2,u3,u4,u5,u6,rfl,s2,hP⟩
   have q:=k H2 s2
   unfold fitsB at q
   rw[zhn b tg0 (fitT b) fun j hj=>hP j (by omega)] at q
   exact q
theorem scBookL:zar ["bag","signs","escapes","many","book","turn","at","door","more"] ["bag"] (zag lBook):=⟨rfl,rfl,rfl,by decide +kernel,rfl,by decide +kernel,by decide +kernel⟩
theorem zil {f f1 f2 f3:Addr}{fd fd1 fd2 fd3:FuncData}(F:Fun K "_law_book" "_law_book" lBook f fd) (T:TxtB mg) (T2:Txt2 mg)
  (k1:W.keepIn K (.ref f1)=true) (b1:Binds K fd1 ["bag","many"] []) (m1:mg "_law_take"=some (.ref f1)) (G1:FnOk P w K mg base CX0 1 f1 fd1 ["bag","many"] zcU)
  (k2:W.keepIn K (.ref f2)=true) (b2:Binds K fd2 ["bag","signs"] []) (m2:mg "_law_mark"=some (.ref f2)) (G2:FnOk P w K mg base CX0 2 f2 fd2 ["bag","signs"] spMk)
  (k3:W.keepIn K (.ref f3)=true) (b3:Binds K fd3 ["book"] []) (m3:mg "_law_fits_book"=some (.ref f3)) (G3:FnOk P w K mg base CX0 1 f3 fd3 ["book"] zfU):FnOk P w K mg base CX0 3 f fd ["bag"] zfX:=by
 refine F.ok scBookL (fun vs H Q E h=>?_) (fun cdv A outer s H vs Q E hr h=>?_)
 ·obtain ⟨z,rfl,_⟩:=h
  rfl
 ·obtain ⟨z,rfl,hB,k⟩:=h
  have nd:=scBookL.nd
  have hr1:Room 1 _:=hr.mono (by decide)
  refine ⟨_,zad (zas (i:=1) nd rfl (Or.inl rfl) (zaC ix_list (zay (zaa zai (zaa zai (zaa zai (zaa zai zab))))) (zak G1 hr1 rfl m1 k1 b1 .nil pass0 (zaa (pv 0) (zaa zah zab))) (fun _ _=>rfl)))
   (zad (zas (i:=2) nd rfl (Or.inr rfl) (zaC ix_list (zay (zaa zai (zaa zai (zaa zai (zaa zai zab))))) (zak G1 hr1 rfl m1 k1 b1 .nil pass0 (zaa (pv 0) (zaa zah zab))) (fun _ _=>rfl)))
   (zad (zas (i:=3) nd rfl (Or.inl rfl) (zaw zaK zah (zak G1 hr1 rfl m1 k1 b1 .nil pass0 (zaa (pv 0) (zaa (zaC ix_list (zay (zaa zah (zaa zah (zaa zah zab)))) (zak G1 hr1 rfl m1 k1 b1 .nil pass0 (zaa (pv 0) (zaa zah zab))) (fun _ _=>rfl)) zab)))))
   (zad (zcf (i:=4) (N':=["tongue","bag","escapes"]) (js:=[none,some 0,some 2]) rfl rfl nd rfl (Or.inl rfl) (za3 (zag lBook) (by decide +kernel)) ⟨rfl,Or.inr (Or.inl rfl),rfl,rfl,Or.inr (Or.inl rfl),rfl,trivial⟩ (zbS rfl T.range (zaa (pv 3) zab))
     (fun cl s H fp=>zal (i:=0) ndTBE rfl (Or.inl rfl)) (fun cl s H fp=>zaS)
     (fun cl s H fp=>zcp (zaa (zaC zd3 (zay (zaa (pv 2) (zaa zai (zaa zai zab)))) (zak G1 hr1 rfl m1 k1 b1 .nil pass0 (zaa (pv 1) (zaa zah zab))) (fun _ _=>rfl)) (zaa (zcp zab) zab))))
   (zad (zbm PassesOwn.never rfl (zbS rfl T.range (zaa (zaw zaK zah (zak G1 hr1 rfl m1 k1 b1 .nil pass0 (zaa (pv 0) (zaa (zaw zda zah (pv 3)) zab)))) zab)) (zal (i:=5) nd rfl (Or.inl rfl))
    (zad (zas (i:=6) nd rfl (Or.inl rfl) (zaC ix_list (zay (zaa zah (zaa (zak G1 hr1 rfl m1 k1 b1 .nil pass0 (zaa (pv 0) (zaa (pv 3) zab))) zab))) (zak G1 hr1 rfl m1 k1 b1 .nil pass0 (zaa (pv 0) (zaa zah zab))) (fun _ _=>rfl)))
    (zad (zas (i:=7) nd rfl (Or.inl rfl) (zcp (zaa (zak G2 hr rfl m2 k2 b2 .nil pass0 (zaa (pv 0) (zaa (pv 1) zab))) (zaa (zak G1 hr1 rfl m1 k1 b1 .nil pass0 (zaa (pv 0) (zaa (pv 3) zab))) (zaa (zak G2 hr rfl m2 k2 b2 .nil pass0 (zaa (pv 0) (zaa (pv 1) zab))) zab)))))
    (zad (zas (i:=8) nd rfl (Or.inl rfl) (zaG zeC (by rfl) T2.list zki (zaa (pv 4) zab)))
    (zad (zdz (zcp (zaa (zaC ix_tup (zaC ix_list (pv 4) (pv 6) (fun _ _=>rfl)) zah (fun _ _=>rfl)) (zaa (zaw zjs (zaC ix_tup (zaC ix_list (pv 4) (pv 6) (fun _ _=>rfl)) zah (fun _ _=>rfl)) (zcp (zaa (pv 7) zab))) zab))) (zgF (pv 8) (pv 6) zdR))
    (zaf (zaL (PW.pt (zgD (zaq zgi (zap zav (by rfl) T.len zbe (zaa (zaC ix_tup (zaC ix_list (pv 4) (pv 6) (fun _ _=>rfl)) zah (fun _ _=>rfl)) zab)) zah (zax _)) (ze2 (zbb (zak G3 hr1 rfl m3 k3 b3 .nil pass0 (zaa (pv 8) zab))))))
     (zaf (zas (i:=4) nd rfl (Or.inl rfl) (pv 8))) zau)))))))
   (zaf (zam (zaG za0 (by rfl) T.tuple zbx (zaa (pv 4) zab)))))))),?_⟩
  dsimp only[cxOf,Cx.nox,Cx.wish]
  refine zaj fun U hU=>?_
  have small:(1000:Nat)≤sizeLine:=by rw[sizeLine_eq];decide
  have A0:=Aft.refl hB
  refine ⟨by show (4:Nat)≤_;omega,fun p1 np1=>⟨_,rfl,z,4,rfl,(A0.new np1).2,by decide,by decide,fun r1 H1 hr1' a1=>?_⟩⟩
  have A1:Aft z H H1:=(A0.new np1).trans a1
  have hp1:=a1.1 p1 _ (hB.ne np1) zac
  obtain ⟨v1,hv1,hm1⟩:=pickH hp1 (r:=r1) (by show r1<4;omega)
  obtain ⟨x,ex,hx1,hx2,hx3⟩:∃x,v1=.str x∧1≤x.length∧x.length≤100∧zeb x:=by
   simp only[List.mem_cons,List.not_mem_nil,or_false] at hm1
   rcases hm1 with rfl|rfl|rfl|rfl<;>exact ⟨_,rfl,by decide +kernel,by decide +kernel,by unfold zeb;decide +kernel⟩
  subst ex
  refine ⟨p1,_,r1,_,rfl,rfl,SqL.of hp1,zan hv1,hU _ _ (zaj fun U hU=>?_)⟩
  refine ⟨by show (4:Nat)≤_;omega,fun p2 np2=>⟨_,rfl,z,4,rfl,(A1.new np2).2,by decide,by decide,fun r2 H2 hr2' a2=>?_⟩⟩
  have A2:Aft z H H2:=(A1.new np2).trans a2
  have hp2:=a2.1 p2 _ (A1.2.ne np2) zac
  obtain ⟨v2,hv2,hm2⟩:=pickH hp2 (r:=r2) (by show r2<4;omega)
  obtain ⟨e,ee,he1⟩:∃x,v2=.str x∧escD (.str x)=true:=by
   simp only[List.mem_cons,List.not_mem_nil,or_false] at hm2
   rcases hm2 with rfl|rfl|rfl|rfl<;>exact ⟨_,rfl,by decide +kernel⟩
  subst ee
  refine ⟨p2,_,r2,_,rfl,rfl,SqL.of hp2,zan hv2,hU _ _ (zaj fun U hU=>?_)⟩
  refine ⟨_,rfl,by show (3:Nat)≤_;omega,fun p3 np3=>⟨_,rfl,z,3,rfl,(A2.new np3).2,by decide,by decide,fun r3 H3 hr3 a3=>?_⟩⟩
  have A3:Aft z H H3:=(A2.new np3).trans a3
  have hp3:=a3.1 p3 _ (A2.2.ne np3) zac
  obtain ⟨v3,hv3,hm3⟩:=pickH hp3 (r:=r3) (by show r3<3;omega)
  obtain ⟨n3,en,hn1,hn2⟩:∃n:Int,v3=.int n∧0<n∧n≤6:=by
   simp only[List.mem_cons,List.not_mem_nil,or_false] at hm3
   rcases hm3 with rfl|rfl|rfl<;>exact ⟨_,rfl,by decide,by decide⟩
  subst en
  refine ⟨p3,_,r3,_,rfl,rfl,SqL.of hp3,zan hv3,z,n3,rfl,A3.2,hn1,by omega,fun r4 H4 hr4 a4=>?_⟩
  have A4:Aft z H H4:=A3.trans a4
  refine ⟨1,r4,rfl,rfl,hU _ _ (zaj fun U hU=>?_)⟩
  refine ⟨_,rfl,1+r4,rfl,by omega,by omega,fun p np=>?_⟩
  have enat:(1+(r4:Int)).toNat=1+r4:=by omega
  rw[enat]
  have hpz:=A4.2.ne np
  have hpH:=A4.none np
  refine zgv (fun i σ H5=>∃u,σ=[u,some (.ref z),some (.str e)]∧Aft z H H5∧∃b,LBk z p b H5∧b.length=i∧∀t∈b,t.2=[]∧escD (.str t.1)=true) ⟨none,rfl,A4.new np,[],⟨hpz,[],zac,.nil⟩,rfl,by simp⟩ ?_ ?_
  ·rintro i σ H5 hi ⟨u,rfl,A5,b,L5,hbl,hb⟩
   refine ⟨_,rfl,by show (3:Nat)≤_;omega,fun l nl=>⟨_,rfl,z,3,rfl,(A5.new nl).2,by decide,by decide,fun r H6 hr6 a6=>?_⟩⟩
   have A56:Aft z H5 H6:=((Aft.refl A5.2).new nl).trans a6
   have hl6:=a6.1 l _ (A5.2.ne nl) zac
   obtain ⟨v6,hv6,hm6⟩:=pickH hl6 (r:=r) (by show r<3;omega)
   obtain ⟨y,ey,hy1⟩:∃x,v6=.str x∧escD (.str x)=true:=by
    simp only[List.mem_cons,List.not_mem_nil,or_false] at hm6
    rcases hm6 with rfl|rfl|rfl
    ·exact ⟨_,rfl,he1⟩
    ·exact ⟨_,rfl,by decide +kernel⟩
    ·exact ⟨_,rfl,by decide +kernel⟩
   subst ey
   have hyl:y.length≤1:=by unfold escD at hy1;simp at hy1;exact hy1.1
   refine ⟨l,_,r,_,rfl,rfl,SqL.of hl6,zan hv6,Nat.zero_le _,fun q1 nq1=>⟨by show (2:Nat)≤_;omega,fun q2 nq2=>?_⟩⟩
   have A58:=(A56.new (o:=.tup []) nq1).new (o:=.tup [.str y,.ref q1]) nq2
   have h8q2:upd (upd H6 q1 (.tup [])) q2 (.tup [.str y,.ref q1]) q2=some (.tup [.str y,.ref q1]):=zac
   have h8q1:upd (upd H6 q1 (.tup [])) q2 (.tup [.str y,.ref q1]) q1=some (.tup []):=Same.new nq2 _ _ zac
   generalize upd (upd H6 q1 (.tup [])) q2 (.tup [.str y,.ref q1])=H8 at A58 h8q2 h8q1
   obtain ⟨_,vs,hp8,r8⟩:=L5.aft A58.1
   have hvl:vs.length=b.length:=by have:=r8.length;simpa using this
   refine ⟨vs,hp8,by omega,⟨_,rfl,(A5.trans A58).upd hpH hpz,b++[(y,[])],⟨hpz,vs++[.ref q2],zac,?_⟩,by simp[hbl],fun t ht=>?_⟩⟩
   ·rw[zfV,List.map_append]
    have n2:q2≠p:=zc7 h8q2 hp8 (by intro z;cases z)
    have n1:q1≠p:=zc7 h8q1 hp8 (by intro z;cases z)
    exact r8.append (.cons (.tup (by rw[zcg n2];exact h8q2) (A58.2.neT h8q2) (.cons (.str y (by omega)) (.cons (.tup (by rw[zcg n1];exact h8q1) (A58.2.neT h8q1) .nil) .nil))) .nil)
   ·rcases List.mem_append.mp ht with ht|ht
    ·exact hb t ht
    ·have:t=(y,[]):=by simpa using ht
     subst this
     exact ⟨rfl,hy1⟩
  ·rintro σ H5 ⟨u,rfl,A5,b,L5,hbl,hb⟩
   refine hU _ _ (zaj fun U hU=>?_)
   refine ⟨_,rfl,_,rfl,3,1+r4,rfl,rfl,.inl ⟨by decide,by decide⟩,z,3*(1+r4),rfl,A5.2,by omega,by omega,fun r5 H6 hr5 a6=>?_⟩
   refine ⟨2,r5,rfl,rfl,2+r5,rfl,by omega,by omega,?_⟩
   have hok0:∀t∈b,TgOk b.length t:=fun t ht=>by
    obtain ⟨h1,h2⟩:=hb t ht
    refine ⟨h2,by rw[h1];decide,fun d hd=>?_⟩
    rw[h1] at hd
    cases hd
   refine zcn (fun i σ H7=>∃a b u5 u6 u7 u8,σ=[some (.ref z),some (.str x),some (.str e),some (.int (1+r4)),some (.ref a),u5,u6,u7,u8]∧Aft z H H7∧LBk z a b H7∧b.length=1+r4∧(∀t∈b,TgOk b.length t)∧fitsB b=true)
    ⟨p,b,none,none,none,none,rfl,A5.trans a6,L5.aft a6.1,hbl,hok0,zgw fun t ht=>(hb t ht).1⟩ ?_ ?_
   ·clear hok0 hb hbl L5 hr5
    rintro i σ H7 hi ⟨a,b,u5,u6,u7,u8,rfl,A7,L7,hbl,hok,hfit⟩
    show (tSeq _ _) _ _ _
    refine zbs fun D1 hD1 _ _ _=>zaj fun U1 hV=>?_
    refine ⟨_,rfl,_,rfl,z,1+r4,rfl,A7.2,by omega,by omega,fun r6 H8 hr6 a8=>?_⟩
    refine ⟨by show (2:Nat)≤_;omega,fun p4 np4=>⟨_,rfl,z,2,rfl,(a8.new np4).2,by decide,by decide,fun r7 H9 hr7 a9=>?_⟩⟩
    have A9:Aft z H7 H9:=(a8.new np4).trans a9
    have hp9:=a9.1 p4 _ (a8.2.ne np4) zac
    obtain ⟨at',hat,hatm⟩:∃at':Nat,([V.int 0,V.int r6]:List V)[r7]?=some (.int at')∧at'<1+r4:=by
     match r7,hr7 with
     |0,_=>exact ⟨0,rfl,by omega⟩
     |1,_=>exact ⟨r6,rfl,by omega⟩
     |m+2,h=>omega
    refine ⟨p4,_,r7,_,rfl,rfl,SqL.of hp9,zan hat,hV _ _ (zaj fun U1 hV=>?_)⟩
    refine ⟨_,rfl,_,rfl,z,x,rfl,A9.2,hx1,hx2,hx3,fun m1 H10 hm1 a10=>⟨_,rfl,_,rfl,z,1+r4,rfl,a10.2,by omega,by omega,fun r8 H11 hr8 a11=>⟨_,rfl,_,rfl,z,x,rfl,a11.2,hx1,hx2,hx3,fun m2 H12 hm2 a12=>⟨by show (3:Nat)≤_;omega,fun q0 nq0=>hV _ _ (zaj fun U1 hV=>?_)⟩⟩⟩⟩
    have A13:=(((A9.trans a10).trans a11).trans a12).new (o:=.tup [.str m1,.int r8,.str m2]) nq0
    have hq0:upd H12 q0 (.tup [.str m1,.int r8,.str m2]) q0=some (.tup [.str m1,.int r8,.str m2]):=zac
    generalize upd H12 q0 (.tup [.str m1,.int r8,.str m2])=H13 at A13 hq0
    obtain ⟨haz,vs,ha13,R13⟩:=L7.aft A13.1
    have hvl:vs.length=b.length:=by have:=R13.length;simpa using this
    refine ⟨_,rfl,a,vs,rfl,.inl (SqL.of ha13),fun l nl=>hV _ _ (zaj fun U1 hV=>?_)⟩
    have hatb:at'<b.length:=by omega
    have htok:=hok _ (zbu tg0 hatb)
    obtain ⟨c,d,ys,ec,hcz,hdz,hc,hd,hyl,Ry⟩:=zaO (zaJ (b:=b) (i:=at') R13 hatb)
    have hyl:ys.length=(b.getD at' tg0).2.length:=hyl
    have exv:vs[at']?=some (.ref c):=by
     have h1:at'<vs.length:=by omega
     have h2:vs.getD at' .non=vs[at']:=by simp[h1]
     rw[List.getElem?_eq_getElem h1,←h2,ec]
    generalize hT:b.getD at' tg0=tt at *
    have hc13:=(zbY hc).2
    have hd13:=(zbY hd).2
    have s14:Same H13 (upd H13 l (.lst vs)):=Same.new nl
    have few:=htok.2.1
    have el:tt.1.length≤1:=by have:=htok.1;unfold escD at this;simp at this;exact this.1
    refine ⟨_,rfl,_,rfl,a,vs,at',_,rfl,rfl,SqL.of (s14 _ _ ha13),zan exv,c,_,0,_,rfl,rfl,SqT.of (s14 _ _ hc13),zan (j:=0) rfl,_,rfl,_,rfl,a,vs,at',_,rfl,rfl,SqL.of (s14 _ _ ha13),zan exv,c,_,1,_,rfl,rfl,SqT.of (s14 _ _ hc13),zan (j:=1) rfl,_,rfl,by show (1:Nat)≤_;omega,fun q1 nq1=>?_⟩
    have s15:=Same.new (o:=.tup [.ref q0]) nq1
    refine ⟨d,q1,ys,[.ref q0],rfl,rfl,s15 _ _ (s14 _ _ hd13),zac,by show ys.length+1≤_;omega,fun p2 H16 s16 hp2=>⟨by show (2:Nat)≤_;omega,fun q3 nq3=>?_⟩⟩
    have s17:=Same.new (o:=.tup [.str tt.1,.ref p2]) nq3
    have hq3:upd H16 q3 (.tup [.str tt.1,.ref p2]) q3=some (.tup [.str tt.1,.ref p2]):=zac
    have hl17:=s17 _ _ (s16 _ _ (s15 _ _ (zac (H:=H13) (a:=l) (o:=.lst vs))))
    have hp17:=s17 _ _ hp2
    have sAll:Same H13 (upd H16 q3 (.tup [.str tt.1,.ref p2])):=s14.trans (s15.trans (s16.trans s17))
    generalize upd H16 q3 (.tup [.str tt.1,.ref p2])=H17 at hq3 hl17 hp17 sAll
    refine ⟨_,rfl,_,rfl,l,vs,at',at',rfl,rfl,hl17,zjt (by omega),hV _ _ ?_⟩
    have hlz:=A13.2.ne nl
    have A18:Aft z H7 (upd H17 l (.lst (vs.set at' (.ref q3)))):=(A13.same sAll).upd (A13.none nl) hlz
    have S18:Aft z H13 (upd H17 l (.lst (vs.set at' (.ref q3)))):=((Aft.refl A13.2).same sAll).upd nl hlz
    have hl18:upd H17 l (.lst (vs.set at' (.ref q3))) l=some (.lst (vs.set at' (.ref q3))):=zac
    have hmask:mask l (upd H17 l (.lst (vs.set at' (.ref q3))))=mask l H17:=zfV
    generalize upd H17 l (.lst (vs.set at' (.ref q3)))=H18 at A18 S18 hl18 hmask
    have L18:LBk z l (b.set at' (tt.1,tt.2++[(m1,(r8:Int),m2)])) H18:=by
     refine ⟨hlz,_,hl18,?_⟩
     rw[hmask,List.map_set]
     have n3:q3≠l:=zc7 hq3 hl17 (by intro z;cases z)
     have n2:p2≠l:=zc7 hp17 hl17 (by intro z;cases z)
     have n0:q0≠l:=zc7 (sAll _ _ hq0) hl17 (by intro z;cases z)
     have b17:Bag z H17:=(A13.same sAll).2
     have g1:=zbC hm1
     have g2:=zbC hm2
     refine Reps.set (.tup (by rw[zcg n3];exact hq3) (b17.neT hq3) (.cons (.str tt.1 (by omega)) (.cons (.tup (by rw[zcg n2];exact hp17) (b17.neT hp17) ?_) .nil))) at' (R13.mono (zfW nl sAll.x))
     rw[List.map_append]
     exact (Ry.mono (zfW nl sAll.x)).append (.cons (.tup (by rw[zcg n0];exact sAll _ _ hq0) (A13.2.neT hq0) (.cons (.str m1 (by omega)) (.cons (.int (r8:Int)) (.cons (.str m2 (by omega)) .nil)))) .nil)
    have La:=L7.aft A18.1
    refine ⟨_,rfl,_,rfl,a,vs,at',_,rfl,rfl,SqL.of (S18.1 _ _ haz ha13),zan exv,c,_,1,_,rfl,rfl,SqT.of (S18.1 _ _ hcz hc13),zan (j:=1) rfl,d,ys,rfl,.inr (SqT.of (S18.1 _ _ hdz hd13)),_,_,rfl,rfl,_,rfl,?_⟩
    refine ite2 (fun g1=>?_) (fun g1=>?_)
    ·have few6:tt.2.length<6:=by
      have:=of_decide_eq_true g1
      omega
     have hbl':(b.set at' (tt.1,tt.2++[(m1,(r8:Int),m2)])).length=b.length:=by simp
     have hok':∀t∈b.set at' (tt.1,tt.2++[(m1,(r8:Int),m2)]),TgOk (b.set at' (tt.1,tt.2++[(m1,(r8:Int),m2)])).length t:=by
      rw[hbl']
      intro t ht
      rcases List.mem_or_eq_of_mem_set ht with ht|ht
      ·exact hok t ht
      ·subst ht
       refine ⟨htok.1,by simp;omega,fun dr hdr=>?_⟩
       rcases List.mem_append.mp hdr with hdr|hdr
       ·exact htok.2.2 dr hdr
       ·have:dr=(m1,(r8:Int),m2):=by simpa using hdr
        subst this
        exact ⟨hm1,⟨by show (0:Int)≤r8;omega,by show (r8:Int)<b.length;omega⟩,hm2⟩
     obtain ⟨_,ws,hw,Rw⟩:=id L18
     refine ⟨_,rfl,z,l,ws,_,rfl,.inr hw,Rw.mono zhs,by omega,hok',fun H19 s19=>⟨_,rfl,?_⟩⟩
     cases gf:fitsB (b.set at' (tt.1,tt.2++[(m1,(r8:Int),m2)])) with
     |true=>exact iteT ⟨_,rfl,hD1 _ _ ⟨l,_,_,_,_,_,rfl,A7.trans (A18.same s19),L18.aft s19.x,by omega,hok',gf⟩⟩
     |false=>exact iteF (hD1 _ _ ⟨a,b,_,_,_,_,rfl,A7.trans (A18.same s19),La.aft s19.x,hbl,hok,hfit⟩)
    ·exact iteF (hD1 _ _ ⟨a,b,_,_,_,_,rfl,A7.trans A18,La,hbl,hok,hfit⟩)
   ·rintro σ H7 ⟨a,b,u5,u6,u7,u8,rfl,A7,L7,hbl,hok,hfit⟩
    obtain ⟨haz,vs,ha,R7⟩:=L7
    refine hU _ _ ⟨_,rfl,a,vs,rfl,.inl ⟨SqL.of ha,fun l nl=>k _ b _ (A7.new nl) (.tup zac (A7.2.ne nl) ((R7.mono zhs).mono (Same.new nl).x)) ⟨by omega,by omega,hok,?_⟩⟩⟩
    rw[←zhq hok]
    exact hfit
theorem zjw:zar ["sign"] ["sign"] (zag zbf):=⟨rfl,rfl,rfl,by decide +kernel,rfl,by decide +kernel,by decide +kernel⟩
theorem zfZ {f:Addr}{fd:FuncData}(F:Fun K "is_plain_sign" "is_plain_sign" zbf f fd) (T:Txt mg):FnOk P w K mg base CX0 1 f fd ["sign"] zfj:=by
 refine F.ok zjw (fun vs H Q E h=>?_) (fun cdv A outer s H vs Q E hr h=>?_)
 ·obtain ⟨c,rfl,_⟩:=h
  rfl
 ·obtain ⟨c,rfl,k⟩:=h
  obtain ⟨tp,hp⟩:=T.pct
  refine ⟨_,zaf (zam (zgE (zfI zeF zeF zai (pv 0) zai) (zet (zbT zdx (zap zh0 (by rfl) T.ord zk0 (zaa (pv 0) zab)) (zcc (v:=.int 37) rfl hp ⟨tp,rfl⟩) (zax _))))),?_⟩
  refine ⟨_,rfl,_,_,rfl,rfl,_,rfl,?_⟩
  have e1:(!decide ((Str.mk #[c]).cps.toList<(Str.ofString "!").cps.toList))=decide (33≤c):=by
   have:(Str.ofString "!").cps.toList=[33]:=by decide +kernel
   rw[this]
   show (!decide ([c]<[33]))=_
   rw[lt1,Bool.eq_iff_iff];simp
  have e2:(!decide ((Str.ofString "~").cps.toList<(Str.mk #[c]).cps.toList))=decide (c≤126):=by
   have:(Str.ofString "~").cps.toList=[126]:=by decide +kernel
   rw[this]
   show (!decide ([126]<[c]))=_
   rw[lt1,Bool.eq_iff_iff];simp
  show if (!decide ((Str.mk #[c]).cps.toList<(Str.ofString "!").cps.toList))=true then _ else _
  rw[e1]
  refine ite2 (fun h1=>?_) (fun h1=>?_)
  ·refine ⟨_,_,rfl,rfl,_,rfl,?_⟩
   show if (!decide ((Str.ofString "~").cps.toList<(Str.mk #[c]).cps.toList))=true then _ else _
   rw[e2]
   refine ite2 (fun h2=>?_) (fun h2=>?_)
   ·refine ⟨_,rfl,_,rfl,rfl,rfl,?_⟩
    have:(!decide (V.int ((Str.mk #[c]).cps.getD 0 0:Nat)=V.int 37))=za8 c:=by
     unfold za8
     rw[h1,h2]
     simp
     omega
    rw[this]
    exact k
   ·have:za8 c=false:=by unfold za8;simp at h2 ⊢;omega
    rw[this] at k
    exact k
  ·refine ⟨_,rfl,iteF ?_⟩
   have:za8 c=false:=by unfold za8;simp at h1 ⊢;omega
   rw[this] at k
   exact k
theorem scEsc:zar ["thing"] ["thing"] (zag zdn):=⟨rfl,rfl,rfl,by decide +kernel,rfl,by decide +kernel,by decide +kernel⟩
theorem zkC {f f1:Addr}{fd fd1:FuncData}(F:Fun K "is_escape" "is_escape" zdn f fd) (F1:Fun K "is_plain_sign" "is_plain_sign" zbf f1 fd1) (b1:Binds K fd1 ["sign"] []) (m1:mg "is_plain_sign"=some (.ref f1)) (T:Txt mg):FnOk P w K mg base CX0 2 f fd ["thing"] (spD escD):=by
 have G1:FnOk P w K mg base CX0 1 f1 fd1 ["sign"] zfj:=zfZ F1 T
 refine F.ok scEsc (fun vs H Q E h=>?_) (fun cdv A outer s H vs Q E hr h=>?_)
 ·obtain ⟨z,v,d,rfl,_⟩:=h
  rfl
 ·obtain ⟨z,v,d,rfl,R,k⟩:=h
  have hk:=k H (Same.refl H)
  refine ⟨_,zad (zaL (PW.pt (zcm (zbj (zbb (zcw T.isinst T.str zgn (pv 0)))) (zbK (zaq zhZ (zap zaP (by rfl) T.len zbe (zaa (pv 0) zab)) zah (zax _))))) (zaf (zam zbN)) zau)
   (zaf (zam (zj5 (zbT zbw (pv 0) zai (zax _)) (zet (zak G1 hr rfl m1 F1.kp b1 .nil pass0 (zaa (pv 0) zab)))))),?_⟩
  refine ⟨_,rfl,_,_,_,_,rfl,R.ty,zd1 K d,_,rfl,?_⟩
  cases R with
  |str x hx=>
   refine iteF ?_
   refine ⟨_,rfl,_,rfl,by rw[sizeLine_eq];omega,_,_,rfl,rfl,_,rfl,?_⟩
   refine ite2 (fun h1=>?_) (fun h1=>?_)
   ·have:escD (.str x)=false:=by unfold escD;simp at h1 ⊢;omega
    rw[this] at hk
    exact hk
   ·refine ⟨_,rfl,rfl,_,rfl,?_⟩
    refine ite2 (fun h2=>?_) (fun h2=>?_)
    ·have h2':x=Str.ofString "":=by simpa using h2
     have:escD (.str x)=true:=by rw[h2'];decide +kernel
     rw[this] at hk
     exact hk
    ·have hl:x.length=1:=by
      have h3:x.length≤1:=by simp at h1;omega
      have h4:x.length≠0:=by
       intro h0
       apply h2
       have:x=Str.ofString "":=by
        obtain ⟨cs⟩:=x
        have:cs=#[]:=Array.eq_empty_of_size_eq_zero h0
        subst this
        decide +kernel
       rw[this];simp
      omega
     obtain ⟨c,rfl⟩:∃c,x=⟨#[c]⟩:=by
      obtain ⟨cs⟩:=x
      obtain ⟨c,hc⟩:=Array.size_eq_one_iff.mp hl
      exact ⟨c,congrArg Str.mk hc⟩
     refine ⟨_,rfl,c,rfl,?_⟩
     have:escD (.str ⟨#[c]⟩)=za8 c:=rfl
     rw[this] at hk
     exact hk
  |_=>exact iteT hk
theorem zkD:zar ["thing"] ["thing"] (zag zec):=⟨rfl,rfl,rfl,by decide +kernel,rfl,by decide +kernel,by decide +kernel⟩
theorem zjx {f f1:Addr}{fd fd1:FuncData}(F:Fun K "is_mark" "is_mark" zec f fd) (F1:Fun K "is_plain_sign" "is_plain_sign" zbf f1 fd1) (b1:Binds K fd1 ["sign"] []) (m1:mg "is_plain_sign"=some (.ref f1)) (T:Txt mg):FnOk P w K mg base CX0 2 f fd ["thing"] (spD markD):=by
 have G1:FnOk P w K mg base CX0 1 f1 fd1 ["sign"] zfj:=zfZ F1 T
 refine F.ok zkD (fun vs H Q E h=>?_) (fun cdv A outer s H vs Q E hr h=>?_)
 ·obtain ⟨z,v,d,rfl,_⟩:=h
  rfl
 ·obtain ⟨z,v,d,rfl,R,k⟩:=h
  have hk:=k H (Same.refl H)
  obtain ⟨tp,hp⟩:=T.longest
  refine ⟨_,zad (zaL (PW.pt (zcm (zbj (zbb (zcw T.isinst T.str zgn (pv 0)))) (zbK (zbj (zdQ ze5 ze5 zah (zap zaP (by rfl) T.len zbe (zaa (pv 0) zab)) (zcc (v:=.int 4) rfl hp ⟨tp,rfl⟩)))))) (zaf (zam zbN)) zau)
   (zaf (zam (zap (zcs rfl) (by rfl) T.all_ zg3 (zaa (za1 (N':=["sign"]) (js:=[none]) rfl rfl (za3 (zag zec) (by decide +kernel)) trivial (zeE (pv 0)) (fun cl s H fp=>zal (i:=0) zhg rfl (Or.inl rfl)) (fun cl s H fp=>zaS)
    (fun cl s H fp=>zj5 (zbT zbw (pv 0) zai (zax _)) (zet (zak G1 hr rfl m1 F1.kp b1 .nil pass0 (zaa (pv 0) zab))))) zab)))),?_⟩
  refine ⟨_,rfl,_,_,_,_,rfl,R.ty,zd1 K d,_,rfl,?_⟩
  cases R with
  |str x hx=>
   refine iteF ?_
   refine ⟨_,rfl,_,rfl,by rw[sizeLine_eq];omega,_,_,rfl,rfl,_,rfl,?_⟩
   refine ite2 (fun h1=>?_) (fun h1=>?_)
   ·refine ⟨_,_,rfl,rfl,_,rfl,?_⟩
    refine ite2 (fun h2=>?_) (fun h2=>?_)
    ·have:markS x=false:=by unfold markS;simp at h1 h2 ⊢;omega
     have e:markD (.str x)=false:=this
     rw[e] at hk
     exact hk
    ·refine ⟨_,rfl,_,rfl,fun p np=>?_⟩
     refine zbk (fun i=>.bl (decide (x.cps.getD i 0=10) || za8 (x.cps.getD i 0))) (fun σ=>∃v,σ=[v]) ⟨none,rfl⟩ np (by show x.length≤_;omega) zcv (fun i σ H1 C hi ⟨v,hv⟩ hS hC=>?_) (fun σ H1 hS hH=>?_)
     ·subst hv
      have hC':=hC [some (.str ⟨#[x.cps.getD i 0]⟩)] H1 ⟨_,rfl⟩ (Same.refl _)
      refine ⟨_,rfl,rfl,_,rfl,?_⟩
      have e:decide (V.str ⟨#[x.cps.getD i 0]⟩=V.str (Str.ofString "\n"))=decide (x.cps.getD i 0=10):=by
       have:Str.ofString "\n"=⟨#[10]⟩:=by decide +kernel
       rw[this,decide_eq_decide]
       simp
      rw[e]
      refine ite2 (fun h3=>?_) (fun h3=>?_)
      ·rw[h3] at hC'
       exact hC'
      ·refine ⟨_,rfl,_,rfl,?_⟩
       have h4:decide (x.cps.getD i 0=10)=false:=by simpa using h3
       rw[h4] at hC'
       exact hC'
     ·refine ⟨p,(List.range x.cps.size).map fun i=>decide (x.cps.getD i 0=10) || za8 (x.cps.getD i 0),rfl,SqL.of (by rw[List.map_map];exact hH),?_⟩
      rw[zhh]
      have e:markD (.str x)=x.cps.toList.all fun c=>decide (c=10) || za8 c:=by
       show markS x=_
       unfold markS
       simp at h1 h2
       have a1:decide (1≤x.length)=true:=by simp;omega
       have a2:decide (x.length≤4)=true:=by simp;omega
       rw[a1,a2]
       rfl
      rw[←e]
      exact k H1 hS
   ·refine ⟨_,rfl,iteT ?_⟩
    have:markS x=false:=by unfold markS;simp at h1 ⊢;omega
    have e:markD (.str x)=false:=this
    rw[e] at hk
    exact hk
  |_=>exact iteT hk
theorem scNum:zar ["thing","bound"] ["thing","bound"] (zag zby):=⟨rfl,rfl,rfl,by decide +kernel,rfl,by decide +kernel,by decide +kernel⟩
theorem zkE {f:Addr}{fd:FuncData}(F:Fun K "is_number_below" "is_number_below" zby f fd) (T:Txt mg):FnOk P w K mg base CX0 1 f fd ["thing","bound"] (spDN numD):=by
 refine F.ok scNum (fun vs H Q E h=>?_) (fun cdv A outer s H vs Q E hr h=>?_)
 ·obtain ⟨z,v,d,n,rfl,_⟩:=h
  rfl
 ·obtain ⟨z,v,d,n,rfl,R,k⟩:=h
  have hk:=k H (Same.refl H)
  refine ⟨_,zad (zaL (PW.pt (zcm (zbj (zbb (zcw T.isinst T.int zgo (pv 0)))) (zbK (zbb (zcw T.isinst T.bool zkh (pv 0)))))) (zaf (zam zbN)) zau)
   (zaf (zam (zfI ze5 zgi zah (pv 0) (pv 1)))),?_⟩
  refine ⟨_,rfl,_,_,_,_,rfl,R.ty,zi9 K d,_,rfl,?_⟩
  cases R with
  |int i=>
   refine iteF ⟨_,rfl,_,_,_,_,rfl,.int i,zfO K (.int i),_,rfl,iteF ?_⟩
   refine ⟨_,rfl,_,_,rfl,rfl,_,rfl,?_⟩
   have e:numD (.int i) n=(decide (0≤i)&&decide (i<n)):=rfl
   rw[e] at hk
   refine ite2 (fun h1=>?_) (fun h1=>?_)
   ·refine ⟨_,rfl,_,_,rfl,rfl,?_⟩
    rw[h1,Bool.true_and] at hk
    exact hk
   ·have h1':decide (0≤i)=false:=by simpa using h1
    rw[h1',Bool.false_and] at hk
    exact hk
  |bl b=>exact iteF ⟨_,rfl,_,_,_,_,rfl,.bl b,zfO K (.bl b),_,rfl,iteT hk⟩
  |_=>exact iteT hk
theorem scDoor:zar ["thing","tongue_count","opening","inner","close"] ["thing","tongue_count"] (zag zfq):=⟨rfl,rfl,rfl,by decide +kernel,rfl,by decide +kernel,by decide +kernel⟩
theorem zjy {f f1 f2:Addr}{fd fd1 fd2:FuncData}(F:Fun K "is_door" "is_door" zfq f fd) (T:Txt mg) (k1:W.keepIn K (.ref f1)=true) (b1:Binds K fd1 ["thing"] []) (m1:mg "is_mark"=some (.ref f1)) (G1:FnOk P w K mg base CX0 2 f1 fd1 ["thing"] (spD markD))
  (k2:W.keepIn K (.ref f2)=true) (b2:Binds K fd2 ["thing","bound"] []) (m2:mg "is_number_below"=some (.ref f2)) (G2:FnOk P w K mg base CX0 1 f2 fd2 ["thing","bound"] (spDN numD)):FnOk P w K mg base CX0 3 f fd ["thing","tongue_count"] (spDN doorD):=by
 refine F.ok scDoor (fun vs H Q E h=>?_) (fun cdv A outer s H vs Q E hr h=>?_)
 ·obtain ⟨z,v,d,n,rfl,_⟩:=h
  rfl
 ·obtain ⟨z,v,d,n,rfl,R,k⟩:=h
  have hk:=k H (Same.refl H)
  have hr1:Room 1 _:=hr.mono (by decide)
  refine ⟨_,zad (zaL (PW.pt (zcm (zbj (zbb (zcw T.isinst T.tuple zbx (pv 0)))) (zbK (zaq zdx (zap zav (by rfl) T.len zbe (zaa (pv 0) zab)) zah (zax _))))) (zaf (zam zbN)) zau)
   (zad (zdz (pv 0) (zbQ rfl (zao (zal (i:=2) scDoor.nd rfl (Or.inl rfl)) (zao (zal (i:=3) scDoor.nd rfl (Or.inl rfl)) (zao (zal (i:=4) scDoor.nd rfl (Or.inl rfl)) za2)))))
   (zaf (zam (zgE (zak G1 hr rfl m1 k1 b1 .nil pass0 (zaa (pv 2) zab)) (zgE (zak G2 hr1 rfl m2 k2 b2 .nil pass0 (zaa (pv 3) (zaa (pv 1) zab))) (zet (zak G1 hr rfl m1 k1 b1 .nil pass0 (zaa (pv 4) zab)))))))),?_⟩
  refine ⟨_,rfl,_,_,_,_,rfl,R.ty,zd2 K d,_,rfl,?_⟩
  cases R with
  |@tup a xs ds h hz r=>
   refine iteF ⟨_,rfl,a,xs,rfl,.inr (SqT.of h),rfl,_,rfl,?_⟩
   have hl:=r.length
   refine ite2 (fun h1=>?_) (fun h1=>?_)
   ·have:ds.length≠3:=by simp at h1;omega
    rw[zhi this] at hk
    exact hk
   ·have hl3:xs.length=3:=by simp at h1;omega
    match xs,ds,r,hl3 with
    |[x1,x2,x3],[d1,d2,d3],.cons r1 (.cons r2 (.cons r3 .nil)),_=>
     refine ⟨_,rfl,a,_,rfl,SqT.of h,rfl,_,_,rfl,_,_,rfl,_,_,rfl,rfl,?_⟩
     refine ⟨_,rfl,z,x1,d1,rfl,r1,fun H1 s1=>⟨_,rfl,?_⟩⟩
     have e:doorD (.tup [d1,d2,d3]) n=(markD d1&&numD d2 n&&markD d3):=rfl
     rw[e] at k
     refine ite2 (fun g1=>?_) (fun g1=>?_)
     ·rw[g1,Bool.true_and] at k
      refine ⟨_,rfl,_,rfl,z,x2,d2,n,rfl,r2.mono s1.x,fun H2 s2=>⟨_,rfl,?_⟩⟩
      refine ite2 (fun g2=>?_) (fun g2=>?_)
      ·rw[g2,Bool.true_and] at k
       exact ⟨_,rfl,z,x3,d3,rfl,(r3.mono s1.x).mono s2.x,fun H3 s3=>k H3 ((s1.trans s2).trans s3)⟩
      ·have g2':numD d2 n=false:=by simpa using g2
       rw[g2',Bool.false_and] at k
       exact k H2 (s1.trans s2)
     ·have g1':markD d1=false:=by simpa using g1
      rw[g1',Bool.false_and,Bool.false_and] at k
      exact k H1 s1
  |_=>exact iteT hk
theorem scTongue:zar ["thing","tongue_count","escape","doors"] ["thing","tongue_count"] (zag zcC):=⟨rfl,rfl,rfl,by decide +kernel,rfl,by decide +kernel,by decide +kernel⟩
theorem zhu {f f1 f2:Addr}{fd fd1 fd2:FuncData}(F:Fun K "is_tongue" "is_tongue" zcC f fd) (T:Txt mg) (k1:W.keepIn K (.ref f1)=true) (b1:Binds K fd1 ["thing"] []) (m1:mg "is_escape"=some (.ref f1)) (G1:FnOk P w K mg base CX0 2 f1 fd1 ["thing"] (spD escD))
  (k2:W.keepIn K (.ref f2)=true) (b2:Binds K fd2 ["thing","tongue_count"] []) (m2:mg "is_door"=some (.ref f2)) (G2:FnOk P w K mg base CX0 3 f2 fd2 ["thing","tongue_count"] (spDN doorD)):FnOk P w K mg base CX0 4 f fd ["thing","tongue_count"] (spDN zaN):=by
 refine F.ok scTongue (fun vs H Q E h=>?_) (fun cdv A outer s H vs Q E hr h=>?_)
 ·obtain ⟨z,v,d,n,rfl,_⟩:=h
  rfl
 ·obtain ⟨z,v,d,n,rfl,R,k⟩:=h
  have hk:=k H (Same.refl H)
  have hr2:Room 2 _:=hr.mono (by decide)
  obtain ⟨tp,hp⟩:=T.mostD
  refine ⟨_,zad (zaL (PW.pt (zcm (zbj (zbb (zcw T.isinst T.tuple zbx (pv 0)))) (zbK (zaq zdx (zap zav (by rfl) T.len zbe (zaa (pv 0) zab)) zah (zax _))))) (zaf (zam zbN)) zau)
   (zad (zdz (pv 0) (zbQ rfl (zao (zal (i:=2) scTongue.nd rfl (Or.inl rfl)) (zao (zal (i:=3) scTongue.nd rfl (Or.inl rfl)) za2))))
   (zad (zaL (PW.pt (zcm (zbj (zbb (zak G1 hr2 rfl m1 k1 b1 .nil pass0 (zaa (pv 2) zab)))) (zcm (zbj (zbb (zcw T.isinst T.tuple zbx (pv 3)))) (zbK (zaq zhZ (zap zav (by rfl) T.len zbe (zaa (pv 3) zab)) (zcc (v:=.int 6) rfl hp ⟨tp,rfl⟩) (zax _)))))) (zaf (zam zbN)) zau)
   (zaf (zam (zap (zcs rfl) (by rfl) T.all_ zg3 (zaa (za1 (N':=["door","tongue_count"]) (js:=[none,some 1]) rfl rfl (za3 (zag zcC) (by decide +kernel)) ⟨rfl,Or.inr (Or.inl rfl),rfl,trivial⟩ (za6 (pv 3))
    (fun cl s H fp=>zal (i:=0) (show List.Nodup (["door","tongue_count"]:List Str) by decide +kernel) rfl (Or.inl rfl)) (fun cl s H fp=>zaS)
    (fun cl s H fp=>zak G2 hr rfl m2 k2 b2 .nil pass0 (zaa (pv 0) (zaa (pv 1) zab)))) zab)))))),?_⟩
  refine ⟨_,rfl,_,_,_,_,rfl,R.ty,zd2 K d,_,rfl,?_⟩
  cases R with
  |@tup a xs ds h hz r=>
   refine iteF ⟨_,rfl,a,xs,rfl,.inr (SqT.of h),rfl,_,rfl,?_⟩
   have hl:=r.length
   refine ite2 (fun h1=>?_) (fun h1=>?_)
   ·have:ds.length≠2:=by simp at h1;omega
    rw[zfk this] at hk
    exact hk
   ·have hl3:xs.length=2:=by simp at h1;omega
    match xs,ds,r,hl3 with
    |[x1,x2],[d1,d2],.cons r1 (.cons r2 .nil),_=>
     refine ⟨_,rfl,a,_,rfl,SqT.of h,rfl,_,_,rfl,_,_,rfl,rfl,?_⟩
     refine ⟨_,rfl,z,x1,d1,rfl,r1,fun H1 s1=>⟨_,rfl,?_⟩⟩
     cases g1:escD d1 with
     |false=>
      have e:zaN (.tup [d1,d2]) n=false:=by cases d2<;>simp[zaN,g1]
      rw[e] at k
      exact iteT (k H1 s1)
     |true=>
      refine iteF ⟨_,rfl,_,_,_,_,rfl,(r2.mono s1.x).ty,zd2 K d2,_,rfl,?_⟩
      cases r2 with
      |@tup a2 xs2 ds2 h2 hz2 rr=>
       refine iteF ⟨_,rfl,a2,xs2,rfl,.inr (SqT.of (s1 _ _ h2)),_,_,rfl,rfl,_,rfl,?_⟩
       have hl2:=rr.length
       have e:zaN (.tup [d1,.tup ds2]) n=(decide (ds2.length≤6)&&ds2.all fun x=>doorD x n):=by simp[zaN,g1]
       rw[e] at k
       refine ite2 (fun g2=>?_) (fun g2=>?_)
       ·have:decide (ds2.length≤6)=false:=by simp at g2 ⊢;omega
        rw[this,Bool.false_and] at k
        exact k H1 s1
       ·have hle:ds2.length≤6:=by simp at g2;omega
        rw[decide_eq_true hle,Bool.true_and] at k
        refine ⟨_,rfl,a2,rfl,⟨_,SqT.of (s1 _ _ h2)⟩,fun p np=>?_⟩
        have hap:a2≠p:=zae (s1 _ _ h2) np
        refine zbk (fun i=>.bl (doorD (ds2.getD i .non) n)) (fun σ=>∃v,σ=[v,some (.int n)]) ⟨none,rfl⟩ np (by omega) (za5 (xs:=xs2) (by rw[zat hap];exact s1 _ _ h2) hap) (fun i σ H2 C hi ⟨v,hv⟩ hS hC=>?_) (fun σ H2 hS hH=>?_)
        ·subst hv
         refine ⟨_,rfl,_,rfl,z,_,ds2.getD i .non,n,rfl,(rr.get (by omega)).mono (s1.trans hS).x,fun H3 s3=>hC _ H3 ⟨_,rfl⟩ s3⟩
        ·refine ⟨p,(List.range xs2.length).map fun i=>doorD (ds2.getD i .non) n,rfl,SqL.of (by rw[List.map_map];exact hH),?_⟩
         rw[hl2,all_map ds2 .non fun x=>doorD x n]
         exact k H2 (s1.trans hS)
      |_=>exact iteT (k H1 s1)
  |_=>exact iteT hk
section
variable {z:Addr}{H:Hp}
end
theorem zim:zar ["doors"] ["doors"] (zag zbv):=⟨rfl,rfl,rfl,by decide +kernel,rfl,by decide +kernel,by decide +kernel⟩
theorem zhv {f:Addr}{fd:FuncData}(F:Fun K "opens_differ" "opens_differ" zbv f fd) (T:Txt mg):FnOk P w K mg base CX0 1 f fd ["doors"] zd7:=by
 refine F.ok zim (fun vs H Q E h=>?_) (fun cdv A outer s H vs Q E hr h=>?_)
 ·obtain ⟨z,v,d,rfl,_⟩:=h
  rfl
 ·obtain ⟨z,v,ds,rfl,R,hle,k⟩:=h
  obtain ⟨a,xs,rfl,hz,ha,hl,R⟩:=zeP R
  refine ⟨_,zaf (zam (zbT zbw (zap zcu (by rfl) T.len zbe (zaa (zgm (N':=["opening","inner","close"]) (js:=[none,none,none]) rfl (za3 (zag zbv) (by decide +kernel)) trivial (za6 (pv 0))
   (fun cl s H fp=>zcM 3 rfl (zao (zal (i:=0) nd3 rfl (Or.inl rfl) (Or.inr rfl)) (zao (zal (i:=1) nd3 rfl (Or.inl rfl) (Or.inr rfl)) (zao (zal (i:=2) nd3 rfl (Or.inl rfl) (Or.inr rfl)) za2)))) (fun cl s H fp=>zaS) (fun cl s H fp=>pv 0)) zab))
   (zap zav (by rfl) T.len zbe (zaa (pv 0) zab)) (zax _))),?_⟩
  refine ⟨_,rfl,a,rfl,⟨_,SqT.of ha⟩,fun p np=>?_⟩
  have hap:a≠p:=zae ha np
  refine zij (fun i=>(ds.getD i (⟨#[]⟩,0,⟨#[]⟩)).1) (fun σ=>∃u v w,σ=[u,v,w]) ⟨none,none,none,rfl⟩ np (by unfold scanBound;omega) (za5 (xs:=xs) (by rw[zat hap];exact ha) hap) (fun i σ H2 C hi ⟨u,v,w',hv⟩ hS hC=>?_) (fun σ H2 hS hH=>?_)
  ·subst hv
   obtain ⟨b,e,hb,hd⟩:=zbc ((za4 (ds:=ds) (i:=i) R (by omega)).mono hS.x)
   rw[e]
   exact ⟨b,_,rfl,SqT.of hd,rfl,_,_,rfl,_,_,rfl,_,_,rfl,rfl,_,rfl,hC _ H2 ⟨_,_,_,rfl⟩ (Same.refl _)⟩
  ·refine ⟨p,_,rfl,hH,_,rfl,a,xs,rfl,.inr (SqT.of (hS _ _ ha)),rfl,?_⟩
   have e1:(List.range xs.length).map (fun i=>(ds.getD i (⟨#[]⟩,0,⟨#[]⟩)).1)=zaH ds:=by
    rw[hl]
    apply List.ext_getElem?
    intro i
    unfold zaH
    rw[List.getElem?_map,List.getElem?_map]
    by_cases h:i<ds.length
    ·simp[h]
    ·simp[h]
   have e2:decide (V.int ((dd ((List.range xs.length).map fun i=>(ds.getD i (⟨#[]⟩,0,⟨#[]⟩)).1)).length:Int)=V.int (xs.length:Int))=decide (zaH ds).Nodup:=by
    rw[e1,decide_eq_decide,←ziL]
    have:(zaH ds).length=ds.length:=by simp[zaH]
    rw[this,←hl]
    simp
    omega
   rw[e2]
   exact k H2 hS
theorem scMarksOf:zar ["book","marks","escape","doors","opening","inner","close"] ["book"] (zag zed):=⟨rfl,rfl,rfl,by decide +kernel,rfl,by decide +kernel,by decide +kernel⟩
theorem zgx {f:Addr}{fd:FuncData}(F:Fun K "marks_of" "marks_of" zed f fd) (T:Txt mg):FnOk P w K mg base CX0 1 f fd ["book"] (zhk zaD):=by
 refine F.ok scMarksOf (fun vs H Q E h=>?_) (fun cdv A outer s H vs Q E hr h=>?_)
 ·obtain ⟨z,v,b,rfl,_⟩:=h
  rfl
 ·obtain ⟨z,v,b,rfl,R,hF,k⟩:=h
  obtain ⟨a,xs,rfl,hz,ha,hl,R⟩:=zb5 R
  have nd:=scMarksOf.nd
  refine ⟨_,zad (zas (i:=1) nd rfl (Or.inl rfl) (zay zab))
   (zad (zbm PassesOwn.never rfl (za6 (pv 0)) (zbQ rfl (zao (zal (i:=2) nd rfl (Or.inl rfl)) (zao (zal (i:=3) nd rfl (Or.inl rfl)) za2)))
    (zaf (zbm PassesOwn.never rfl (za6 (pv 3)) (zbQ rfl (zao (zal (i:=4) nd rfl (Or.inl rfl)) (zao (zal (i:=5) nd rfl (Or.inl rfl)) (zao (zal (i:=6) nd rfl (Or.inl rfl)) za2))))
     (zad (zbP (zbi PySem.F.plainAttrs_list PySem.F.slot_list_append PySem.F.type_list_append zbd (pv 1) (zaa (pv 4) zab)))
     (zaf (zbP (zbi PySem.F.plainAttrs_list PySem.F.slot_list_append PySem.F.type_list_append zbd (pv 1) (zaa (pv 6) zab))))))))
   (zaf (zam (pv 1)))),?_⟩
  refine ⟨Nat.zero_le _,fun p np=>?_⟩
  have s0:Same H (upd H p (.lst [])):=Same.new np
  have hap:a≠p:=zae ha np
  have big:(10000:Nat)<sizeLine:=by rw[sizeLine_eq];decide
  refine ⟨_,rfl,a,rfl,⟨_,SqT.of (s0 _ _ ha)⟩,zcd (K:=K) (a:=a) (xs:=xs) (fun i σ H2=>∃u1 u2 u3 u4 u5,σ=[some (.ref a),some (.ref p),u1,u2,u3,u4,u5]∧Same H H2∧H2 p=some (.lst ((zaD (b.take i)).map V.str)))
   ⟨none,none,none,none,none,rfl,s0,by rw[zac];rfl⟩ (fun i σ H2 _ ⟨_,_,_,_,_,_,s2,_⟩=>SqT.of (s2 _ _ ha)) ?_ ?_⟩
  ·rintro i y σ H2 hi ⟨u1,u2,u3,u4,u5,rfl,s2,hp2⟩
   have hil:i<b.length:=by have:=(List.getElem?_eq_some_iff.mp hi).1;omega
   have ey:y=xs.getD i .non:=by rw[List.getD_eq_getElem?_getD,hi];rfl
   obtain ⟨c,d,ys,e,hcz,hdz,hc,hd,hyl,Ry⟩:=zaO ((zaJ (b:=b) R hil).mono s2.x)
   rw[ey,e]
   have hyl:ys.length=(b.getD i tg0).2.length:=hyl
   have hdp:d≠p:=zc7 hd hp2 (by intro z;cases z)
   have few:=hF.get hil
   refine ⟨c,_,rfl,SqT.of hc,rfl,_,_,rfl,_,_,rfl,rfl,?_⟩
   refine ⟨_,rfl,d,rfl,⟨_,SqT.of hd⟩,zcd (K:=K) (a:=d) (xs:=ys) (fun j σ H3=>∃u3 u4 u5,σ=[some (.ref a),some (.ref p),some (.str (b.getD i tg0).1),some (.ref d),u3,u4,u5]∧SameX p H2 H3∧H3 p=some (.lst ((zaD (b.take i)++zbM ((b.getD i tg0).2.take j)).map V.str)))
    ⟨_,_,_,rfl,.refl,by rw[hp2];simp[zbM]⟩ (fun j σ H3 _ ⟨_,_,_,_,s3,_⟩=>SqT.of (s3 _ _ hdp hd)) ?_ ?_⟩
   ·rintro j y2 σ H3 hj ⟨u3,u4,u5,rfl,s3,hp3⟩
    have hjl:j<(b.getD i tg0).2.length:=by have:=(List.getElem?_eq_some_iff.mp hj).1;omega
    have ey2:y2=ys.getD j .non:=by rw[List.getD_eq_getElem?_getD,hj];rfl
    obtain ⟨q,e2,hqz,hq⟩:=zbc (za4 (ds:=(b.getD i tg0).2) Ry hjl)
    rw[ey2,e2]
    have hqp:q≠p:=zc7 hq hp2 (by intro z;cases z)
    have len1:((zaD (b.take i)++zbM ((b.getD i tg0).2.take j)).map V.str).length≤100:=by
     have l1:=zeR (hF.take i).2
     have l2:=zdD ((b.getD i tg0).2.take j)
     have l3:=(hF.take i).1
     simp only[List.length_map,List.length_append,List.length_take] at l1 l2 l3 ⊢
     omega
    refine ⟨q,_,rfl,SqT.of (s3 _ _ hqp hq),rfl,_,_,rfl,_,_,rfl,_,_,rfl,rfl,?_⟩
    refine ⟨_,rfl,.inl ⟨rfl,_,SqL.of hp3⟩,_,rfl,p,_,_,rfl,rfl,hp3,by omega,?_⟩
    refine ⟨_,rfl,.inl ⟨rfl,_,SqL.of zac⟩,_,rfl,p,_,_,rfl,rfl,zac,?_,?_⟩
    ·rw[List.length_append,List.length_singleton];omega
    ·refine ⟨_,_,_,rfl,(s3.upd).upd,?_⟩
     rw[zac,zfm _ _ hjl]
     simp
   ·rintro σ H3 ⟨u3,u4,u5,rfl,s3,hp3⟩
    refine ⟨_,_,_,_,_,rfl,fun b' o e=>s3 b' o (zae e np) (s2 b' o e),?_⟩
    rw[hp3,hyl,List.take_length,zfn b i hil]
  ·rintro σ H2 ⟨u1,u2,u3,u4,u5,rfl,s2,hp2⟩
   refine ⟨_,rfl,k p H2 s2 np ?_⟩
   rw[hp2,hl,List.take_length]
theorem scEscIn:zar ["book","escapes"] ["book"] (zag zaU):=⟨rfl,rfl,rfl,by decide +kernel,rfl,by decide +kernel,by decide +kernel⟩
theorem zin {f f1:Addr}{fd fd1:FuncData}(F:Fun K "has_escape_in_mark" "has_escape_in_mark" zaU f fd) (T:Txt mg) (k1:W.keepIn K (.ref f1)=true) (b1:Binds K fd1 ["book"] []) (m1:mg "marks_of"=some (.ref f1)) (G1:FnOk P w K mg base CX0 1 f1 fd1 ["book"] (zhk zaD)):FnOk P w K mg base CX0 2 f fd ["book"] (spB escB):=by
 refine F.ok scEscIn (fun vs H Q E h=>?_) (fun cdv A outer s H vs Q E hr h=>?_)
 ·obtain ⟨z,v,b,rfl,_⟩:=h
  rfl
 ·obtain ⟨z,v,b,rfl,R0,hF,hm,k⟩:=h
  obtain ⟨a,xs,rfl,hz,ha,hl,R⟩:=zb5 R0
  refine ⟨_,zad (zas (i:=1) scEscIn.nd rfl (Or.inr rfl) (za1 (N':=["escape","doors"]) (js:=[none,none]) rfl rfl (za3 (zag zaU) (by decide +kernel)) trivial (za6 (pv 0))
    (fun cl s H fp=>zcM 2 rfl (zao (zal (i:=0) ndED rfl (Or.inl rfl) (Or.inr rfl)) (zao (zal (i:=1) ndED rfl (Or.inl rfl) (Or.inr rfl)) za2))) (fun cl s H fp=>zaS) (fun cl s H fp=>pv 0)))
   (zaf (zam (zap (zdY rfl) (by rfl) T.any_ zja (zaa (zdX (N':=["mark","sign","escapes"]) (js:=[none,none,some 1]) rfl (za3 (zag zaU) (by decide +kernel)) ⟨rfl,Or.inr (Or.inl rfl),rfl,trivial⟩
    (zbR (zak G1 hr rfl m1 k1 b1 .nil pass0 (zaa (pv 0) zab))) (fun cl s H fp=>zal (i:=0) ndMSE rfl (Or.inl rfl)) (fun cl s H fp=>zaS)
    (fun cl s H fp=>zeE (pv 0)) (fun cl s H fp=>zal (i:=1) ndMSE rfl (Or.inl rfl)) (fun cl s H fp=>zaS) (fun cl s H fp=>zbT zgp (pv 1) (pv 2) (by with_unfolding_all rfl))) zab)))),?_⟩
  refine ⟨_,rfl,a,rfl,⟨_,SqT.of ha⟩,fun p np=>?_⟩
  have hap:a≠p:=zae ha np
  refine zbk (fun i=>.str (b.getD i tg0).1) (fun σ=>∃u v,σ=[u,v]) ⟨none,none,rfl⟩ np (by have:=hF.1;omega) (za5 (xs:=xs) (by rw[zat hap];exact ha) hap) (fun i σ H2 C hi ⟨u,v,hv⟩ hS hC=>?_) (fun σ H1 s1 hH=>?_)
  ·subst hv
   obtain ⟨c,d,ys,e,hcz,hdz,hc,hd,hyl,Ry⟩:=zaO ((zaJ (b:=b) (i:=i) R (by omega)).mono hS.x)
   rw[e]
   exact ⟨c,_,rfl,SqT.of hc,rfl,_,_,rfl,_,_,rfl,rfl,_,rfl,hC _ H2 ⟨_,_,rfl⟩ (Same.refl _)⟩
  ·have hE:H1 p=some (.lst ((b.map (·.1)).map V.str)):=by
    rw[hH,hl,List.map_map]
    congr 2
    apply List.ext_getElem?
    intro i
    rw[List.getElem?_map,List.getElem?_map]
    by_cases h:i<b.length
    ·simp[h]
    ·simp[h]
   refine ⟨_,rfl,z,_,b,rfl,R0.mono s1.x,hF,fun q H2 s2 nq hq=>?_⟩
   refine ⟨q,rfl,⟨_,SqL.of hq⟩,fun p2 np2=>?_⟩
   have hqp:q≠p2:=zae hq np2
   have hpp:p≠p2:=zae (s2 _ _ hE) np2
   have hml:=zeR hF.2
   have hml2:((zaD b).map V.str).length=(zaD b).length:=by simp
   refine zdm (cur:=[]) (fun i=>(((zaD b).getD i ⟨#[]⟩).cps.toList.map fun c=>(b.map (·.1)).any fun e=>e==(⟨#[c]⟩:Str)).map V.bl) (fun σ=>∃u v,σ=[u,v,some (.ref p)]) ⟨none,none,rfl⟩ zac
    (zcZ (xs:=(zaD b).map V.str) (by rw[zat hqp];exact hq) hqp) (fun i σ H3 N hi ⟨u,v,hv⟩ hS hH3 hN=>?_) (fun σ H3 hP hS hH3=>?_)
   ·subst hv
    have hi':i<(zaD b).length:=by omega
    have ei:((zaD b).map V.str).getD i .non=.str ((zaD b).getD i ⟨#[]⟩):=by simp[hi']
    rw[ei]
    have hmi:((zaD b).getD i ⟨#[]⟩).length≤100:=hm _ (zbu _ hi')
    refine ⟨_,rfl,(zaD b).getD i ⟨#[]⟩,rfl,?_⟩
    refine zeS (fun j=>.bl ((b.map (·.1)).any fun e=>e==(⟨#[((zaD b).getD i ⟨#[]⟩).cps.getD j 0]⟩:Str))) (fun σ=>∃u v,σ=[u,v,some (.ref p)]) ⟨_,_,rfl⟩ hH3 ?_ zcv (fun j σ H4 C hj ⟨u,v,hv⟩ hS4 hC=>?_) (fun σ H4 hP hS4 hH4=>?_)
    ·have:(flatN (fun i=>(((zaD b).getD i ⟨#[]⟩).cps.toList.map fun c=>(b.map (·.1)).any fun e=>e==(⟨#[c]⟩:Str)).map V.bl) i).length≤i*100:=by
      have key:∀m,m≤(zaD b).length→(flatN (fun i=>(((zaD b).getD i ⟨#[]⟩).cps.toList.map fun c=>(b.map (·.1)).any fun e=>e==(⟨#[c]⟩:Str)).map V.bl) m).length≤m*100:=by
       intro m
       induction m with
       |zero=>intro _;simp[flatN]
       |succ m ih=>
        intro hm'
        have h1:=ih (by omega)
        have h2:((zaD b).getD m ⟨#[]⟩).length≤100:=hm _ (zbu _ (by omega))
        have h3:((zaD b).getD m ⟨#[]⟩).cps.size≤100:=h2
        simp only[flatN,List.length_append,List.length_map,Array.length_toList]
        omega
      exact key i (by omega)
     have h3:((zaD b).getD i ⟨#[]⟩).cps.size≤100:=hmi
     have h4:=hF.1
     simp only[List.nil_append] at this ⊢
     omega
    ·subst hv
     have hp4:H4 p=some (.lst ((b.map (·.1)).map V.str)):=hS4 _ _ hpp (hS _ _ hpp (by rw[zat hpp];exact s2 _ _ hE))
     refine ⟨_,rfl,_,rfl,p,_,rfl,.inl (SqL.of hp4),rfl,zhl _,?_⟩
     show C (V.bl (inV _ _)) _ _
     rw[zd8]
     exact hC _ H4 ⟨_,_,rfl⟩ (Same.refl _)
    ·refine hN σ H4 hP hS4 ?_
     rw[hH4,zfo ((zaD b).getD i ⟨#[]⟩) fun c=>(b.map (·.1)).any fun e=>e==(⟨#[c]⟩:Str)]
   ·obtain ⟨bs,e1,e2⟩:=zfT (zaD b) (fun m=>m.cps.toList.map fun c=>(b.map (·.1)).any fun e=>e==(⟨#[c]⟩:Str)) ⟨#[]⟩ (n:=((zaD b).map V.str).length) hml2
    refine ⟨p2,bs,rfl,SqL.of (by rw[hH3,e1];rfl),?_⟩
    have e3:bs.any id=escB b:=by
     rw[e2]
     unfold escB escIn
     congr 1
     funext m
     rw[List.any_map]
     rfl
    rw[e3]
    exact k H3 fun b' o e=>hS b' o (zae (s2 b' o (s1 b' o e)) np2) (by rw[zat (zae (s2 b' o (s1 b' o e)) np2)];exact s2 b' o (s1 b' o e))
theorem zio:zar ["book","tongue"] ["book","tongue"] (zag zbl):=⟨rfl,rfl,rfl,by decide +kernel,rfl,by decide +kernel,by decide +kernel⟩
theorem zhw {f:Addr}{fd:FuncData}(F:Fun K "closes_within" "closes_within" zbl f fd) (T:Txt mg):FnOk P w K mg base CX0 1 f fd ["book","tongue"] zd9:=by
 refine F.ok zio (fun vs H Q E h=>?_) (fun cdv A outer s H vs Q E hr h=>?_)
 ·obtain ⟨z,v,b,t,rfl,_⟩:=h
  rfl
 ·obtain ⟨z,v,b,t,rfl,R0,hF,k⟩:=h
  obtain ⟨a,xs,rfl,hz,ha,hl,R⟩:=zb5 R0
  refine ⟨_,zaf (zam (zdX (N':=["escape","doors","opening","inner","close","tongue"]) (js:=[none,none,none,none,none,some 1]) rfl (za3 (zag zbl) (by decide +kernel)) ⟨rfl,Or.inr (Or.inl rfl),rfl,trivial⟩ (za6 (pv 0))
   (fun cl s H fp=>zcM 2 rfl (zao (zal (i:=0) nd6 rfl (Or.inl rfl) (Or.inr rfl)) (zao (zal (i:=1) nd6 rfl (Or.inl rfl) (Or.inr rfl)) za2))) (fun cl s H fp=>zaS) (fun cl s H fp=>zjb (pv 1))
   (fun cl s H fp=>zcM 3 rfl (zao (zal (i:=2) nd6 rfl (Or.inl rfl) (Or.inr rfl)) (zao (zal (i:=3) nd6 rfl (Or.inl rfl) (Or.inr rfl)) (zao (zal (i:=4) nd6 rfl (Or.inl rfl) (Or.inr rfl)) za2))))
   (fun cl s H fp=>zdh (zaq zbw (pv 3) (pv 5) (zax _))) (fun cl s H fp=>pv 4))),?_⟩
  refine ⟨_,rfl,a,rfl,⟨_,SqT.of ha⟩,fun p np=>?_⟩
  have hap:a≠p:=zae ha np
  have s0:Same H (upd H p (.lst [])):=Same.new np
  have up:∀ {H'},SameX p (upd H p (.lst [])) H'→Same H H':=fun {H'} h b o e=>h b o (zae e np) (s0 b o e)
  refine zdm (cur:=[]) (fun i=>(zbH (b.getD i tg0).2 t).map V.str) (fun σ=>∃u1 u2 u3 u4 u5,σ=[u1,u2,u3,u4,u5,some (.int t)]) ⟨none,none,none,none,none,rfl⟩ zac (za5 (xs:=xs) (by rw[zat hap];exact ha) hap) (fun i σ H2 N hi ⟨u1,u2,u3,u4,u5,hv⟩ hS hH2 hN=>?_) (fun σ H2 hP hS hH2=>?_)
  ·subst hv
   obtain ⟨c,d,ys,e,hcz,hdz,hc,hd,hyl,Ry⟩:=zaO ((zaJ (b:=b) (i:=i) R (by omega)).mono (up hS).x)
   rw[e]
   have hyl:ys.length=(b.getD i tg0).2.length:=hyl
   have hdp:d≠p:=zc7 hd hH2 (by intro z;cases z)
   have few:=hF.get (i:=i) (by omega)
   refine ⟨c,_,rfl,SqT.of hc,rfl,_,_,rfl,_,_,rfl,rfl,?_⟩
   refine ⟨_,rfl,d,rfl,⟨_,SqT.of hd⟩,?_⟩
   refine zd0 (fun j=>if ((b.getD i tg0).2.getD j dr0).2.1=t then some (V.str ((b.getD i tg0).2.getD j dr0).2.2) else none) (fun σ=>∃u3 u4 u5,σ=[some (.str (b.getD i tg0).1),some (.ref d),u3,u4,u5,some (.int t)]) ⟨_,_,_,rfl⟩ hH2 ?_ (za5 (xs:=ys) hd hdp) (fun j σ H4 C hj ⟨u3,u4,u5,hv⟩ hS4 hC=>?_) (fun σ H4 ⟨u3,u4,u5,hP⟩ hS4 hH4=>?_)
   ·have key:∀m,m≤b.length→(flatN (fun i=>(zbH (b.getD i tg0).2 t).map V.str) m).length≤m*6:=by
     intro m
     induction m with
     |zero=>intro _;simp[flatN]
     |succ m ih=>
      intro hm
      have h1:=ih (by omega)
      have h2:=zdE (b.getD m tg0).2 t
      have h3:=hF.get (i:=m) (by omega)
      simp only[flatN,List.length_append,List.length_map]
      omega
    have h1:=key i (by omega)
    have h2:=hF.1
    simp only[List.nil_append]
    omega
   ·subst hv
    obtain ⟨q,e2,hqz,hq⟩:=zbc (za4 (ds:=(b.getD i tg0).2) (i:=j) Ry (by omega))
    have hqp:q≠p:=zc7 hq hH2 (by intro z;cases z)
    rw[e2]
    refine ⟨q,_,rfl,SqT.of (hS4 _ _ hqp hq),rfl,_,_,rfl,_,_,rfl,_,_,rfl,rfl,?_⟩
    refine ⟨_,rfl,_,rfl,rfl,_,rfl,?_⟩
    have hC':=hC [some (.str (b.getD i tg0).1),some (.ref d),some (.str ((b.getD i tg0).2.getD j dr0).1),some (.int ((b.getD i tg0).2.getD j dr0).2.1),some (.str ((b.getD i tg0).2.getD j dr0).2.2),some (.int t)] H4 ⟨_,_,_,rfl⟩ (Same.refl _)
    refine ite2 (fun g=>?_) (fun g=>?_)
    ·have ht:((b.getD i tg0).2.getD j dr0).2.1=t:=by simpa using g
     rw[if_pos ht] at hC'
     exact ⟨_,rfl,hC'⟩
    ·have ht:¬((b.getD i tg0).2.getD j dr0).2.1=t:=by simpa using g
     rw[if_neg ht] at hC'
     exact hC'
   ·subst hP
    refine hN _ H4 ⟨_,_,_,_,_,rfl⟩ hS4 ?_
    rw[hH4,zcT (b.getD i tg0).2 t _ (by omega),hyl,List.take_length]
  ·refine k p H2 (up hS) np ?_
   rw[hH2,List.nil_append,zeQ b tg0 (fun g=>(zbH g.2 t).map V.str) hl]
   unfold zaV
   rw[List.map_flatMap]
theorem scBehind:zar ["book","tongue","closes"] ["book","tongue"] (zag zaT):=⟨rfl,rfl,rfl,by decide +kernel,rfl,by decide +kernel,by decide +kernel⟩
theorem zhx {f f1:Addr}{fd fd1:FuncData}(F:Fun K "has_open_behind_close" "has_open_behind_close" zaT f fd) (T:Txt mg) (k1:W.keepIn K (.ref f1)=true) (b1:Binds K fd1 ["book","tongue"] []) (m1:mg "closes_within"=some (.ref f1)) (G1:FnOk P w K mg base CX0 1 f1 fd1 ["book","tongue"] zd9):FnOk P w K mg base CX0 2 f fd ["book","tongue"] zea:=by
 refine F.ok scBehind (fun vs H Q E h=>?_) (fun cdv A outer s H vs Q E hr h=>?_)
 ·obtain ⟨z,v,b,t,rfl,_⟩:=h
  rfl
 ·obtain ⟨z,v,b,t,rfl,R0,hF,ht,k⟩:=h
  obtain ⟨a,xs,rfl,hz,ha,hl,R⟩:=zb5 R0
  refine ⟨_,zad (zas (i:=2) scBehind.nd rfl (Or.inr rfl) (zak G1 hr rfl m1 k1 b1 .nil pass0 (zaa (pv 0) (zaa (pv 1) zab))))
   (zaf (zam (zap (zdY rfl) (by rfl) T.any_ zja (zaa (zdX (N':=["opening","inner","end","close","closes"]) (js:=[none,none,none,none,some 2]) rfl (za3 (zag zaT) (by decide +kernel)) ⟨rfl,Or.inr (Or.inl rfl),rfl,trivial⟩
    (za6 (zaC ix_tup (zaC ix_tup (pv 0) (pv 1) (fun _ _=>rfl)) zah (fun _ _=>rfl)))
    (fun cl s H fp=>zcM 3 rfl (zao (zal (i:=0) nd5 rfl (Or.inl rfl) (Or.inr rfl)) (zao (zal (i:=1) nd5 rfl (Or.inl rfl) (Or.inr rfl)) (zao (zal (i:=2) nd5 rfl (Or.inl rfl) (Or.inr rfl)) za2)))) (fun cl s H fp=>zaS)
    (fun cl s H fp=>zh5 (pv 4)) (fun cl s H fp=>zal (i:=3) nd5 rfl (Or.inl rfl)) (fun cl s H fp=>zaS)
    (fun cl s H fp=>ziP PySem.F.plainAttrs_str PySem.F.slot_str_startswith PySem.F.type_str_startswith zct (pv 0) (zaa (pv 3) zab))) zab)))),?_⟩
  refine ⟨_,rfl,_,rfl,z,_,b,t,rfl,R0,hF,fun p H1 s1 np hp=>?_⟩
  obtain ⟨c,d,ys,e,hcz,hdz,hc,hd,hyl,Ry⟩:=zaO ((zaJ (b:=b) (i:=t) R ht).mono s1.x)
  have hyl:ys.length=(b.getD t tg0).2.length:=hyl
  have few:=hF.get (i:=t) ht
  have ex:xs[t]?=some (.ref c):=by
   have h1:t<xs.length:=by omega
   have h2:xs.getD t .non=xs[t]:=by simp[h1]
   rw[List.getElem?_eq_getElem h1,←h2,e]
  refine ⟨_,rfl,_,rfl,a,_,_,_,rfl,rfl,SqT.of (s1 _ _ ha),zan ex,?_⟩
  refine ⟨c,_,1,_,rfl,rfl,SqT.of hc,zan (j:=1) rfl,d,rfl,⟨_,SqT.of hd⟩,fun p2 np2=>?_⟩
  have hdp:d≠p2:=zae hd np2
  have hpp:p≠p2:=zae hp np2
  have s2:Same H1 (upd H1 p2 (.lst [])):=Same.new np2
  have up:∀ {H'},SameX p2 (upd H1 p2 (.lst [])) H'→Same H1 H':=fun {H'} h b o e=>h b o (zae e np2) (s2 b o e)
  have cle:=zgt hF t
  have cl2:((zaV b t).map V.str).length=(zaV b t).length:=by simp
  refine zdm (cur:=[]) (fun i=>((zaV b t).map fun cc=>stAt ((b.getD t tg0).2.getD i dr0).1 cc 0).map V.bl) (fun σ=>∃u1 u2 u3 u4,σ=[u1,u2,u3,u4,some (.ref p)]) ⟨none,none,none,none,rfl⟩ zac (za5 (xs:=ys) (by rw[zat hdp];exact hd) hdp) (fun i σ H2 N hi ⟨u1,u2,u3,u4,hv⟩ hS hH2 hN=>?_) (fun σ H2 hP hS hH2=>?_)
  ·subst hv
   obtain ⟨q,e2,hqz,hq⟩:=zbc (za4 (ds:=(b.getD t tg0).2) (i:=i) Ry (by omega))
   rw[e2]
   refine ⟨q,_,rfl,SqT.of (up hS _ _ hq),rfl,_,_,rfl,_,_,rfl,_,_,rfl,rfl,?_⟩
   have hp2:=up hS _ _ hp
   refine ⟨_,rfl,p,rfl,⟨_,SqL.of hp2⟩,?_⟩
   refine zeS (fun j=>.bl (stAt ((b.getD t tg0).2.getD i dr0).1 ((zaV b t).getD j ⟨#[]⟩) 0)) (fun σ=>∃u4,σ=[some (.str ((b.getD t tg0).2.getD i dr0).1),some (.int ((b.getD t tg0).2.getD i dr0).2.1),some (.str ((b.getD t tg0).2.getD i dr0).2.2),u4,some (.ref p)]) ⟨_,rfl⟩ hH2 ?_ (zcZ (xs:=(zaV b t).map V.str) hp2 hpp) (fun j σ H4 C hj ⟨u4,hv⟩ hS4 hC=>?_) (fun σ H4 ⟨u4,hP⟩ hS4 hH4=>?_)
   ·have key:∀m,(flatN (fun i=>((zaV b t).map fun cc=>stAt ((b.getD t tg0).2.getD i dr0).1 cc 0).map V.bl) m).length≤m*100:=fun m=>zdZ (fun i=>by have:=hF.1;simp;omega) m
    have h1:=key i
    have h2:=hF.1
    simp only[List.nil_append]
    omega
   ·subst hv
    have hj':j<(zaV b t).length:=by omega
    have ej:((zaV b t).map V.str).getD j .non=.str ((zaV b t).getD j ⟨#[]⟩):=by simp[hj']
    rw[ej]
    exact ⟨_,rfl,rfl,_,rfl,_,_,rfl,rfl,hC _ H4 ⟨_,rfl⟩ (Same.refl _)⟩
   ·subst hP
    refine hN _ H4 ⟨_,_,_,_,rfl⟩ hS4 ?_
    rw[hH4]
    congr 3
    rw[cl2,List.map_map]
    exact range_map (zaV b t) ⟨#[]⟩ fun cc=>V.bl (stAt ((b.getD t tg0).2.getD i dr0).1 cc 0)
  ·obtain ⟨bs,e1,e2⟩:=zfT (b.getD t tg0).2 (fun dd=>(zaV b t).map fun cc=>stAt dd.1 cc 0) dr0 (n:=ys.length) hyl
   refine ⟨p2,bs,rfl,SqL.of (by rw[hH2,e1];rfl),?_⟩
   have e3:bs.any id=zbp b t:=by
    rw[e2]
    unfold zbp
    congr 1
    funext m
    rw[List.any_map]
    rfl
   rw[e3]
   exact k H2 (s1.trans (up hS))
theorem zkF:zar ["thing"] ["thing"] (zag zcQ):=⟨rfl,rfl,rfl,by decide +kernel,rfl,by decide +kernel,by decide +kernel⟩
theorem zjz {f f1 f2 f3 f4:Addr}{fd fd1 fd2 fd3 fd4:FuncData}(F:Fun K "is_book" "is_book" zcQ f fd) (T:Txt mg)
  (k1:W.keepIn K (.ref f1)=true) (b1:Binds K fd1 ["thing","tongue_count"] []) (m1:mg "is_tongue"=some (.ref f1)) (G1:FnOk P w K mg base CX0 4 f1 fd1 ["thing","tongue_count"] (spDN zaN))
  (k2:W.keepIn K (.ref f2)=true) (b2:Binds K fd2 ["doors"] []) (m2:mg "opens_differ"=some (.ref f2)) (G2:FnOk P w K mg base CX0 1 f2 fd2 ["doors"] zd7)
  (k3:W.keepIn K (.ref f3)=true) (b3:Binds K fd3 ["book"] []) (m3:mg "has_escape_in_mark"=some (.ref f3)) (G3:FnOk P w K mg base CX0 2 f3 fd3 ["book"] (spB escB))
  (k4:W.keepIn K (.ref f4)=true) (b4:Binds K fd4 ["book","tongue"] []) (m4:mg "has_open_behind_close"=some (.ref f4)) (G4:FnOk P w K mg base CX0 2 f4 fd4 ["book","tongue"] zea):FnOk P w K mg base CX0 5 f fd ["thing"] (spD bookD):=by
 refine F.ok zkF (fun vs H Q E h=>?_) (fun cdv A outer s H vs Q E hr h=>?_)
 ·obtain ⟨z,v,d,rfl,_⟩:=h
  rfl
 ·obtain ⟨z,v,d,rfl,R,k⟩:=h
  have hk:=k H (Same.refl H)
  have hr1:Room 1 _:=hr.mono (by decide)
  have hr2:Room 2 _:=hr.mono (by decide)
  obtain ⟨tp,hp⟩:=T.mostT
  refine ⟨_,zad (zaL (PW.pt (zcm (zbj (zbb (zcw T.isinst T.tuple zbx (pv 0)))) (zbK (zbj (zdQ ze5 ze5 zah (zap zav (by rfl) T.len zbe (zaa (pv 0) zab)) (zcc (v:=.int 6) rfl hp ⟨tp,rfl⟩)))))) (zaf (zam zbN)) zau)
   (zad (zaL (zbj (zbb (zap (zcs rfl) (by rfl) T.all_ zg3 (zaa (za1 (N':=["tongue","thing"]) (js:=[none,some 0]) rfl rfl (za3 (zag zcQ) (by decide +kernel)) ⟨rfl,Or.inr (Or.inl rfl),rfl,trivial⟩ (za6 (pv 0))
    (fun cl s H fp=>zal (i:=0) ndTT rfl (Or.inl rfl)) (fun cl s H fp=>zaS) (fun cl s H fp=>zak G1 hr rfl m1 k1 b1 .nil pass0 (zaa (pv 0) (zaa (zap zd4 (by rfl) T.len zbe (zaa (pv 1) zab)) zab)))) zab)))) (zaf (zam zbN)) zau)
   (zad (zaL (zbj (zbb (zap (zcs rfl) (by rfl) T.all_ zg3 (zaa (za1 (N':=["escape","doors"]) (js:=[none,none]) rfl rfl (za3 (zag zcQ) (by decide +kernel)) trivial (za6 (pv 0))
    (fun cl s H fp=>zcM 2 rfl (zao (zal (i:=0) ndED rfl (Or.inl rfl) (Or.inr rfl)) (zao (zal (i:=1) ndED rfl (Or.inl rfl) (Or.inr rfl)) za2))) (fun cl s H fp=>zaS) (fun cl s H fp=>zak G2 hr1 rfl m2 k2 b2 .nil pass0 (zaa (pv 1) zab))) zab)))) (zaf (zam zbN)) zau)
   (zad (zaL (zbb (zak G3 hr2 rfl m3 k3 b3 .nil pass0 (zaa (pv 0) zab))) (zaf (zam zbN)) zau)
   (zaf (zam (zj6 (zap (zdY rfl) (by rfl) T.any_ zja (zaa (za1 (N':=["tongue","thing"]) (js:=[none,some 0]) rfl rfl (za3 (zag zcQ) (by decide +kernel)) ⟨rfl,Or.inr (Or.inl rfl),rfl,trivial⟩ (zbS rfl T.range (zaa (zap zav (by rfl) T.len zbe (zaa (pv 0) zab)) zab))
    (fun cl s H fp=>zal (i:=0) ndTT rfl (Or.inl rfl)) (fun cl s H fp=>zaS) (fun cl s H fp=>zak G4 hr2 rfl m4 k4 b4 .nil pass0 (zaa (pv 1) (zaa (pv 0) zab)))) zab)))))))),?_⟩
  refine ⟨_,rfl,_,_,_,_,rfl,R.ty,zd2 K d,_,rfl,?_⟩
  cases R with
  |@tup a xs ds h hz r=>
   have hl:=r.length
   refine iteF ⟨_,rfl,a,xs,rfl,.inr (SqT.of h),_,_,rfl,rfl,_,rfl,?_⟩
   have eB:bookD (.tup ds)=(decide (1≤ds.length)&&decide (ds.length≤6)&&(ds.all fun x=>zaN x ds.length)&&bookB (ds.map tgOf)):=rfl
   rw[eB] at k hk
   refine ite2 (fun h1=>?_) (fun h1=>?_)
   ·refine ⟨_,_,rfl,rfl,_,rfl,?_⟩
    refine ite2 (fun h2=>?_) (fun h2=>?_)
    ·have:decide (ds.length≤6)=false:=by simp at h2 ⊢;omega
     rw[this,Bool.and_false,Bool.false_and,Bool.false_and] at hk
     exact hk
    ·have hle:ds.length≤6:=by simp at h2;omega
     have hge:1≤ds.length:=by simp at h1;omega
     rw[decide_eq_true hge,decide_eq_true hle,Bool.true_and,Bool.true_and] at k
     -- each is a tongue
     refine ⟨_,rfl,a,rfl,⟨_,SqT.of h⟩,fun p np=>?_⟩
     have hap:a≠p:=zae h np
     refine zbk (fun i=>.bl (zaN (ds.getD i .non) ds.length)) (fun σ=>∃v,σ=[v,some (.ref a)]) ⟨none,rfl⟩ np (by omega) (za5 (xs:=xs) (by rw[zat hap];exact h) hap) (fun i σ H2 C hi ⟨v,hv⟩ hS hC=>?_) (fun σ H1 s1 hH=>?_)
     ·subst hv
      refine ⟨_,rfl,_,rfl,a,xs,rfl,.inr (SqT.of (hS _ _ h)),z,_,ds.getD i .non,ds.length,by rw[hl];rfl,(r.get (by omega)).mono hS.x,fun H3 s3=>hC _ H3 ⟨_,rfl⟩ s3⟩
     ·refine ⟨p,(List.range xs.length).map fun i=>zaN (ds.getD i .non) ds.length,rfl,SqL.of (by rw[List.map_map];exact hH),_,rfl,?_⟩
      rw[hl,all_map ds .non fun x=>zaN x ds.length]
      cases gt:ds.all fun x=>zaN x ds.length with
      |false=>
       rw[gt,Bool.false_and] at k
       exact iteT (k H1 s1)
      |true=>
       rw[gt,Bool.true_and] at k
       refine iteF ?_
       obtain ⟨e0,ok0⟩:=zfl gt
       have hF:=zkz gt hle
       have hM:=zfp ok0
       generalize hb:ds.map tgOf=b at e0 ok0 hF hM k
       subst e0
       have hbl:b.length=xs.length:=by simpa using hl.symm
       have h':=s1 _ _ h
       have R0:Rep z H1 (.ref a) (bkD b):=.tup h' hz (r.mono s1.x)
       refine ⟨_,rfl,a,rfl,⟨_,SqT.of h'⟩,fun p2 np2=>?_⟩
       have hap2:a≠p2:=zae h' np2
       refine zbk (fun i=>.bl (decide (zaH (b.getD i tg0).2).Nodup)) (fun σ=>∃u v,σ=[u,v]) ⟨none,none,rfl⟩ np2 (by simp at hle;omega) (za5 (xs:=xs) (by rw[zat hap2];exact h') hap2) (fun i σ H2 C hi ⟨u,v,hv⟩ hS hC=>?_) (fun σ H2 s2 hH2=>?_)
       ·subst hv
        have few:=hF.get (i:=i) (by omega)
        obtain ⟨c,d,ys,e,hcz,hdz,hc,hd,hyl,Ry⟩:=zaO ((zaJ (b:=b) (i:=i) (r.mono s1.x) (by omega)).mono hS.x)
        rw[e]
        refine ⟨c,_,rfl,SqT.of hc,rfl,_,_,rfl,_,_,rfl,rfl,?_⟩
        exact ⟨_,rfl,z,_,(b.getD i tg0).2,rfl,.tup hd hdz Ry,by omega,fun H3 s3=>hC _ H3 ⟨_,_,rfl⟩ s3⟩
       ·refine ⟨p2,(List.range xs.length).map fun i=>decide (zaH (b.getD i tg0).2).Nodup,rfl,SqL.of (by rw[List.map_map];exact hH2),_,rfl,?_⟩
        have eA:((List.range xs.length).map fun i=>decide (zaH (b.getD i tg0).2).Nodup).all id=b.all fun t=>decide (zaH t.2).Nodup:=by
         rw[←hbl];exact all_map b tg0 fun t=>decide (zaH t.2).Nodup
        rw[eA]
        unfold bookB at k
        cases g1:b.all fun t=>decide (zaH t.2).Nodup with
        |false=>
         rw[g1,Bool.false_and,Bool.false_and] at k
         exact iteT (k H2 (s1.trans s2))
        |true=>
         rw[g1,Bool.true_and] at k
         refine iteF ⟨_,rfl,z,_,b,rfl,R0.mono s2.x,hF,hM,fun H3 s3=>⟨_,rfl,?_⟩⟩
         cases g2:escB b with
         |true=>
          rw[g2] at k
          exact iteT (k H3 ((s1.trans s2).trans s3))
         |false=>
          rw[g2] at k
          refine iteF ?_
          have h3:=s3 _ _ (s2 _ _ h')
          refine ⟨_,rfl,a,xs,rfl,.inr (SqT.of h3),((xs.length:Nat):Int),rfl,(by show -(2 ^ 62)≤((xs.length:Nat):Int);omega),(by simp at hle;show ((xs.length:Nat):Int)<2 ^ 62;omega),fun p3 np3=>?_⟩
          refine zbk (fun i=>.bl (zbp b i)) (fun σ=>∃v,σ=[v,some (.ref a)]) ⟨none,rfl⟩ np3 (by simp at hle;omega) zh4 (fun i σ H4 C hi ⟨v,hv⟩ hS hC=>?_) (fun σ H4 s4 hH4=>?_)
          ·subst hv
           have hi:i<xs.length:=by simpa using hi
           refine ⟨_,rfl,_,rfl,z,_,b,i,by simp,((R0.mono s2.x).mono s3.x).mono hS.x,hF,by omega,fun H5 s5=>hC _ H5 ⟨_,rfl⟩ s5⟩
          ·refine ⟨p3,(List.range (xs.length:Int).toNat).map fun i=>zbp b i,rfl,SqL.of (by rw[List.map_map];exact hH4),_,rfl,?_⟩
           have e5:(!(((List.range (xs.length:Int).toNat).map fun i=>zbp b i).any id))=(!false&&!(List.range b.length).any fun t=>zbp b t):=by
            rw[zhm,hbl]
            simp
           rw[e5]
           exact k H4 (((s1.trans s2).trans s3).trans s4)
   ·refine ⟨_,rfl,iteT ?_⟩
    have:decide (1≤ds.length)=false:=decide_eq_false fun hge=>h1 (decide_eq_true (by omega))
    rw[this,Bool.false_and,Bool.false_and,Bool.false_and] at hk
    exact hk
  |_=>exact iteT hk
end T1
namespace T1
open PySem L2 Builtin Builtin.Str
theorem zbz {a b:Str}(h:a.cps.toList=b.cps.toList):a=b:=by
 obtain ⟨⟨x⟩⟩:=a
 obtain ⟨⟨y⟩⟩:=b
 exact congrArg (fun l=>(⟨⟨l⟩⟩:Str)) h
theorem zaW (x:Str):x.cps.toList.length=x.length:=by simp;rfl
def sub1 (c:Nat) (z:List Nat) (l:List Nat):List Nat:=l.flatMap fun k=>if k=c then z else [k]
theorem zdp {c:Nat}{z:List Nat}:∀ {l:List Nat},c∉l→sub1 c z l=l
 |[],_=>rfl
 |k::r,h=>by
  have h1:¬k=c:=fun e=>h (e ▸ List.mem_cons_self ..)
  have h2:c∉r:=fun m=>h (List.mem_cons_of_mem _ m)
  show (if k=c then z else [k])++sub1 c z r=_
  rw[if_neg h1,zdp h2]
  rfl
theorem zbJ (c:Nat) (z a b:List Nat):sub1 c z (a++b)=sub1 c z a++sub1 c z b:=List.flatMap_append
theorem zeW (c:Nat) (z:Str):∀parts:List Str,(∀p∈parts,c∉p.cps.toList)→sub1 c z.cps.toList (Str.join ⟨#[c]⟩ parts).cps.toList=(Str.join z parts).cps.toList
 |[],_=>rfl
 |[p],h=>zdp (h p (List.mem_singleton.mpr rfl))
 |p::q::r,h=>by
  have ih:=zeW c z (q::r) fun a ha=>h a (List.mem_cons_of_mem _ ha)
  show sub1 c _ (p++⟨#[c]⟩++Str.join ⟨#[c]⟩ (q::r)).cps.toList=(p++z++Str.join z (q::r)).cps.toList
  simp only[Str.cps_append,Array.toList_append]
  rw[zbJ,zbJ,ih,zdp (h p (List.mem_cons_self ..))]
  have e:sub1 c z.cps.toList [c]=z.cps.toList:=by unfold sub1;simp
  rw[e]
theorem rep1 (x z:Str) (c:Nat):(Txt.replace x ⟨#[c]⟩ z).cps.toList=sub1 c z.cps.toList x.cps.toList:=by
 rw[StrLaws.replace_one,←zeW c z _ (StrLaws.split_free x c),StrLaws.join_split]
def escC (k:Nat):List Nat:=if k=92 then [92,92] else if k=32 then [92,115] else if k=10 then [92,110] else [k]
def encL (l:List Nat):List Nat:=l.flatMap escC
def encS (x:Str):Str:=⟨(encL x.cps.toList).toArray⟩
theorem zbD (x:Str):(encS x).cps.toList=encL x.cps.toList:=rfl
theorem zf0:∀l:List Nat,sub1 10 [92,110] (sub1 32 [92,115] (sub1 92 [92,92] l))=encL l
 |[]=>rfl
 |k::r=>by
  have ih:=zf0 r
  show sub1 10 _ (sub1 32 _ ((if k=92 then [92,92] else [k])++sub1 92 [92,92] r))=escC k++encL r
  rw[zbJ,zbJ,ih]
  congr 1
  unfold escC
  by_cases h1:k=92
  ·rw[if_pos h1,if_pos h1];rfl
  rw[if_neg h1,if_neg h1]
  by_cases h2:k=32
  ·rw[if_pos h2,h2];rfl
  rw[if_neg h2]
  have e2:sub1 32 [92,115] [k]=[k]:=by unfold sub1;simp[h2]
  rw[e2]
  by_cases h3:k=10
  ·rw[if_pos h3,h3];rfl
  rw[if_neg h3]
  unfold sub1
  simp[h3]
theorem ofs1:Str.ofString "\\"=⟨#[92]⟩:=by decide +kernel
theorem ofs2:Str.ofString "\\\\"=⟨#[92,92]⟩:=by decide +kernel
theorem ofs3:Str.ofString " "=⟨#[32]⟩:=by decide +kernel
theorem ofs4:Str.ofString "\\s"=⟨#[92,115]⟩:=by decide +kernel
theorem ofs5:Str.ofString "\n"=⟨#[10]⟩:=by decide +kernel
theorem ofs6:Str.ofString "\\n"=⟨#[92,110]⟩:=by decide +kernel
theorem ziq (x:Str):Txt.replace (Txt.replace (Txt.replace x (Str.ofString "\\") (Str.ofString "\\\\")) (Str.ofString " ") (Str.ofString "\\s")) (Str.ofString "\n") (Str.ofString "\\n")=encS x:=by
 refine zbz ?_
 rw[ofs1,ofs2,ofs3,ofs4,ofs5,ofs6,rep1,rep1,rep1]
 exact zf0 _
theorem zf1:∀l:List Nat,(encL l).length≤2*l.length
 |[]=>Nat.le_refl _
 |k::r=>by
  have ih:=zf1 r
  show (escC k++encL r).length≤_
  rw[List.length_append,List.length_cons]
  have:(escC k).length≤2:=by unfold escC;split<;>(try split)<;>(try split)<;>simp
  omega
theorem zcF (x:Str):(encS x).length≤2*x.length:=by
 rw[←zaW,zbD,←zaW x]
 exact zf1 _
def cons1 (k:Nat):List (List Nat)→List (List Nat)
 |[]=>[[k]]
 |p::r=>(k::p)::r
def sp2 (a b:Nat):List Nat→List (List Nat)
 |[]=>[[]]
 |[k]=>[[k]]
 |k::m::r=>if k=a∧m=b then []::sp2 a b r else cons1 k (sp2 a b (m::r))
theorem zcV (a b:Nat):∀l,sp2 a b l≠[]
 |[]=>fun h=>nomatch h
 |[k]=>fun h=>nomatch h
 |k::m::r=>by
  unfold sp2
  split
  ·exact fun h=>nomatch h
  ·cases h:sp2 a b (m::r) with
   |nil=>exact fun h=>nomatch h
   |cons p q=>exact fun h=>nomatch h
theorem zbZ {a b k:Nat}{r:List Nat}(h:k≠a):sp2 a b (k::r)=cons1 k (sp2 a b r):=by
 cases r with
 |nil=>rfl
 |cons m r=>
  show (if k=a∧m=b then _ else _)=_
  rw[if_neg (fun z=>h z.1)]
theorem zef {a b:Nat}{r:List Nat}:sp2 a b (a::b::r)=[]::sp2 a b r:=by
 show (if a=a∧b=b then _ else _)=_
 rw[if_pos ⟨rfl,rfl⟩]
theorem zf2 {a b m:Nat}{r:List Nat}(h:m≠b):sp2 a b (a::m::r)=cons1 a (sp2 a b (m::r)):=by
 show (if a=a∧m=b then _ else _)=_
 rw[if_neg (fun z=>h z.2)]
theorem zeg (a b:Nat):∀l:List Nat,(∀k,(l.drop k).take 2≠[a,b])→sp2 a b l=[l]
 |[],_=>rfl
 |[k],_=>rfl
 |k::m::r,h=>by
  have ih:=zeg a b (m::r) fun j=>by
   have:=h (j+1)
   simpa using this
  have h0:=h 0
  show (if k=a∧m=b then _ else _)=_
  rw[if_neg (fun z=>h0 (by rw[z.1,z.2];rfl)),ih]
  rfl
theorem zeX (a b:Nat):∀(n:Nat) (l:List Nat),(l.drop n).take 2=[a,b]→(∀k,k<n→(l.drop k).take 2≠[a,b])→sp2 a b l=l.take n::sp2 a b (l.drop (n+2))
 |0,l,h,_=>by
  match l,h with
  |k::m::r,h=>
   have h':[k,m]=[a,b]:=h
   injection h' with h1 h2
   injection h2 with h2
   subst h1 h2
   rw[zef]
   rfl
 |n+1,l,h,hn=>by
  match l,h with
  |k::m::r,h=>
   have h0:=hn 0 (Nat.zero_lt_succ _)
   have ih:=zeX a b n (m::r) (by simpa using h) (fun j hj=>by have:=hn (j+1) (Nat.succ_lt_succ hj);simpa using this)
   show (if k=a∧m=b then _ else _)=_
   rw[if_neg (fun z=>h0 (by rw[z.1,z.2];rfl)),ih]
   rfl
  |[k],h=>simp at h
theorem zf3 (x:Str) (a b k:Nat):StrLaws.At x ⟨#[a,b]⟩ x.length k↔(x.cps.toList.drop k).take 2=[a,b]:=by
 unfold StrLaws.At
 rw[StrLaws.subAt_eq]
 constructor
 ·rintro ⟨_,h⟩
  exact eq_of_beq h
 ·intro h
  have h2:(⟨#[a,b]⟩:Str).length=2:=rfl
  refine ⟨?_,?_⟩
  ·have e:=congrArg List.length h
   rw[List.length_take,List.length_drop,zaW] at e
   have e':min 2 (x.length-k)=2:=e
   rw[h2]
   omega
  ·show ((x.cps.toList.drop k).take 2==[a,b])=true
   rw[h]
   exact beq_self_eq_true _
theorem zeY (x:Str) (a b:Nat):∀(cuts:List Nat) (s f:Nat),StrLaws.ChainG x ⟨#[a,b]⟩ x.length s cuts f→(∀k,f≤k→¬StrLaws.At x ⟨#[a,b]⟩ x.length k) →
  (StrLaws.partsFrom x 2 s cuts).map (fun p=>p.cps.toList)=sp2 a b (x.cps.toList.drop s)
 |[],s,f,h,hn=>by
  have e:f=s:=h
  subst e
  show [(strSub x f x.length).cps.toList]=_
  rw[StrLaws.strSub_toList,zeg a b _ fun k hk=>hn (f+k) (by omega) ((zf3 x a b (f+k)).mpr (by rw[List.drop_drop] at hk;exact hk)),List.take_of_length_le (by rw[List.length_drop,zaW];exact Nat.le_refl _)]
 |c::r,s,f,h,hn=>by
  obtain ⟨h1,h2,h3,h4⟩:=h
  have ih:=zeY x a b r (c+2) f h4 hn
  show (strSub x s c).cps.toList::(StrLaws.partsFrom x 2 (c+2) r).map (fun p=>p.cps.toList)=_
  rw[ih,StrLaws.strSub_toList]
  have e:=zeX a b (c-s) (x.cps.toList.drop s) (by rw[List.drop_drop,show s+(c-s)=c by omega];exact (zf3 x a b c).mp h2) (fun k hk z=>h3 (s+k) (by omega) (by omega) ((zf3 x a b (s+k)).mpr (by rw[List.drop_drop] at z;exact z)))
  rw[e,List.drop_drop,show s+(c-s+2)=c+2 by omega]
theorem zhy (x:Str):1≤Builtin.Str.strKind x:=by unfold Builtin.Str.strKind;split<;>(try split)<;>omega
theorem ziQ (x:Str) (a b:Nat) (ha:a<256) (hb:b<256):(Txt.split x ⟨#[a,b]⟩).map (fun p=>p.cps.toList)=sp2 a b x.cps.toList:=by
 obtain ⟨f,hG,hn⟩:=StrLaws.occ_tight x ⟨#[a,b]⟩ (by show 1≤2;decide)
 have hk:Builtin.Str.strKind ⟨#[a,b]⟩=1:=by unfold Builtin.Str.strKind;simp[ha,hb]
 have none_:(∀k,¬StrLaws.At x ⟨#[a,b]⟩ x.length k)→sp2 a b x.cps.toList=[x.cps.toList]:=fun h=>zeg a b _ fun k hk=>h k ((zf3 x a b k).mpr hk)
 unfold Txt.split
 split
 ·rename_i hc
  rw[Bool.or_eq_true,decide_eq_true_eq,decide_eq_true_eq,hk] at hc
  rcases hc with h|h
  ·refine (none_ fun k hA=>?_).symm
   have:=hA.1
   omega
  ·have:=zhy x
   omega
 ·split
  ·rename_i he
   rw[List.isEmpty_iff.mp he] at hG
   have ef:f=0:=hG
   exact (none_ fun k=>hn k (by omega)).symm
  ·rw[StrLaws.partsBetween_eq]
   exact zeY x a b _ 0 f hG hn
def zaA (z:List Nat):List (List Nat)→List Nat
 |[]=>[]
 |[p]=>p
 |p::q::r=>p++z++zaA z (q::r)
theorem zbg (z:Str):∀ps:List Str,(Str.join z ps).cps.toList=zaA z.cps.toList (ps.map fun p=>p.cps.toList)
 |[]=>rfl
 |[p]=>rfl
 |p::q::r=>by
  have ih:=zbg z (q::r)
  have e1:Str.join z (p::q::r)=p++z++Str.join z (q::r):=rfl
  have e2:zaA z.cps.toList ((p::q::r).map fun p=>p.cps.toList)=p.cps.toList++z.cps.toList++zaA z.cps.toList ((q::r).map fun p=>p.cps.toList):=rfl
  rw[e1,e2,←ih]
  simp only[Str.cps_append,Array.toList_append]
theorem za9 (z:List Nat) (k:Nat):∀ps:List (List Nat),ps≠[]→zaA z (cons1 k ps)=k::zaA z ps
 |[],h=>absurd rfl h
 |[p],_=>rfl
 |p::q::r,_=>rfl
def rep2 (a b:Nat) (z:List Nat) (l:List Nat):List Nat:=zaA z (sp2 a b l)
theorem zeh (x z:Str) (a b:Nat) (ha:a<256) (hb:b<256):(Txt.replace x ⟨#[a,b]⟩ z).cps.toList=rep2 a b z.cps.toList x.cps.toList:=by
 unfold rep2
 rw[←ziQ x a b ha hb,←zbg]
 have h20:((⟨#[a,b]⟩:Str).length==0)=false:=rfl
 obtain ⟨f,hG,hn⟩:=StrLaws.occ_tight x ⟨#[a,b]⟩ (by show 1≤2;decide)
 unfold Txt.replace Txt.split
 rw[h20,Bool.false_and,Bool.or_false]
 cases he:(occurrences x ⟨#[a,b]⟩ 0 x.length (x.length+1)).isEmpty
 ·rw[if_neg Bool.false_ne_true,StrLaws.glued_eq_join]
  by_cases hc:(decide (x.length<(⟨#[a,b]⟩:Str).length) || decide (Builtin.Str.strKind x<Builtin.Str.strKind ⟨#[a,b]⟩))=true
  ·exfalso
   have hk:Builtin.Str.strKind ⟨#[a,b]⟩=1:=by unfold Builtin.Str.strKind;simp[ha,hb]
   rw[Bool.or_eq_true,decide_eq_true_eq,decide_eq_true_eq,hk] at hc
   have hx:x.length<2:=by
    rcases hc with h|h
    ·exact h
    ·have:=zhy x
     omega
   cases ho:occurrences x ⟨#[a,b]⟩ 0 x.length (x.length+1) with
   |nil=>rw[ho] at he;exact absurd he (by simp)
   |cons i r=>
    rw[ho] at hG
    have h1:i+2≤x.length:=hG.2.1.1
    omega
  ·rw[if_neg hc,if_neg Bool.false_ne_true]
 ·rw[if_pos rfl]
  split
  ·rfl
  ·rw[if_pos rfl]
   rfl
end T1
namespace T1
open PySem L2 Builtin Builtin.Str
variable {P:Program}{w:World}{K:W.Frag}{mg:Str→Option Value}{base:Heap}
def sp1 (c:Nat):List Nat→List (List Nat)
 |[]=>[[]]
 |k::r=>if k=c then []::sp1 c r else cons1 k (sp1 c r)
theorem zhz (c:Nat):∀l,sp1 c l≠[]
 |[]=>fun h=>nomatch h
 |k::r=>by
  unfold sp1
  split
  ·exact fun h=>nomatch h
  ·cases h:sp1 c r with
   |nil=>exact fun h=>nomatch h
   |cons p q=>exact fun h=>nomatch h
theorem zf4 (c:Nat) (l:List Nat):∃p r,sp1 c l=p::r:=by
 cases h:sp1 c l with
 |nil=>exact absurd h (zhz c l)
 |cons p r=>exact ⟨p,r,rfl⟩
theorem zei {c:Nat}{r:List Nat}:sp1 c (c::r)=[]::sp1 c r:=by
 show (if c=c then _ else _)=_
 rw[if_pos rfl]
theorem zb0 {c k:Nat}{r:List Nat}(h:k≠c):sp1 c (k::r)=cons1 k (sp1 c r):=by
 show (if k=c then _ else _)=_
 rw[if_neg h]
theorem zf5 (c:Nat):∀l,∀p∈sp1 c l,c∉p
 |[],p,hp=>by
  have:p=[]:=by simpa [sp1] using hp
  rw[this]
  simp
 |k::r,p,hp=>by
  have ih:=zf5 c r
  by_cases h:k=c
  ·subst h
   rw[zei] at hp
   rcases List.mem_cons.mp hp with rfl|hp
   ·simp
   ·exact ih p hp
  ·rw[zb0 h] at hp
   obtain ⟨q,t,e⟩:=zf4 c r
   rw[e] at hp ih
   rcases List.mem_cons.mp hp with rfl|hp
   ·intro hm
    rcases List.mem_cons.mp hm with z|z
    ·exact h z.symm
    ·exact ih q (List.mem_cons_self ..) z
   ·exact ih p (List.mem_cons_of_mem _ hp)
theorem zb7 (z:List Nat){ps:List (List Nat)}(h:ps≠[]):zaA z ([]::ps)=z++zaA z ps:=by
 cases ps with
 |nil=>exact absurd rfl h
 |cons p r=>rfl
theorem zf6 (c:Nat):∀l,zaA [c] (sp1 c l)=l
 |[]=>rfl
 |k::r=>by
  have ih:=zf6 c r
  by_cases h:k=c
  ·subst h
   rw[zei,zb7 _ (zhz _ _),ih]
   rfl
  ·rw[zb0 h,za9 _ _ _ (zhz _ _),ih]
theorem zf7 (c:Nat):∀l:List Nat,c∉l→sp1 c l=[l]
 |[],_=>rfl
 |k::r,h=>by
  rw[zb0 (fun e=>h (by rw[e];exact List.mem_cons_self ..)),zf7 c r fun m=>h (List.mem_cons_of_mem _ m)]
  rfl
theorem zhA (c:Nat):∀(p l:List Nat),c∉p→sp1 c (p++[c]++l)=p::sp1 c l
 |[],l,_=>zei
 |k::r,l,h=>by
  have ih:=zhA c r l fun m=>h (List.mem_cons_of_mem _ m)
  show sp1 c (k::(r++[c]++l))=_
  rw[zb0 (fun e=>h (by rw[e];exact List.mem_cons_self ..)),ih]
  rfl
theorem zej (c:Nat):∀ps:List (List Nat),ps≠[]→(∀p∈ps,c∉p)→sp1 c (zaA [c] ps)=ps
 |[],h,_=>absurd rfl h
 |[p],_,h=>zf7 c p (h p (List.mem_singleton.mpr rfl))
 |p::q::r,_,h=>by
  have ih:=zej c (q::r) (fun z=>nomatch z) fun a ha=>h a (List.mem_cons_of_mem _ ha)
  have e:zaA [c] (p::q::r)=p++[c]++zaA [c] (q::r):=rfl
  rw[e,zhA c p _ (h p (List.mem_cons_self ..)),ih]
theorem zc2 (x y:Str):Txt.split x y≠[]:=by
 unfold Txt.split
 split
 ·exact fun h=>nomatch h
 ·split
  ·exact fun h=>nomatch h
  ·rw[StrLaws.partsBetween_eq]
   obtain ⟨p,r,e⟩:=StrLaws.partsFrom_ne x y.length 0 (occurrences x y 0 x.length (x.length+1))
   rw[e]
   exact fun h=>nomatch h
theorem zkG (x:Str) (c:Nat):(Txt.split x ⟨#[c]⟩).map (fun p=>p.cps.toList)=sp1 c x.cps.toList:=by
 have e:=zbg ⟨#[c]⟩ (Txt.split x ⟨#[c]⟩)
 rw[StrLaws.join_split] at e
 rw[e]
 refine (zej c _ (fun z=>?_) fun p hp=>?_).symm
 ·exact zc2 x ⟨#[c]⟩ (List.map_eq_nil_iff.mp z)
 ·obtain ⟨q,hq,rfl⟩:=List.mem_map.mp hp
  exact StrLaws.split_free x c q hq
theorem zaY (k:Nat) (r:List Nat):encL (k::r)=escC k++encL r:=rfl
theorem zhB:escC 92=[92,92]:=rfl
theorem ziR:escC 32=[92,115]:=rfl
theorem ziS:escC 10=[92,110]:=rfl
theorem zft {k:Nat}(h1:k≠92) (h2:k≠32) (h3:k≠10):escC k=[k]:=by
 unfold escC
 rw[if_neg h1,if_neg h2,if_neg h3]
theorem zhC (k:Nat) (es:List Nat){p:List Nat}{q:List (List Nat)}(f:List Nat→List Nat) (h:f (k::p)=es++f p):(cons1 k (p::q)).map f=(es++f p)::q.map f:=by
 show f (k::p)::q.map f=_
 rw[h]
theorem zhD:∀l:List Nat,sp2 92 92 (encL l)=(sp1 92 l).map encL
 |[]=>rfl
 |k::r=>by
  have ih:=zhD r
  obtain ⟨p,q,e⟩:=zf4 92 r
  by_cases h1:k=92
  ·subst h1
   rw[zaY,zhB,zei]
   show sp2 92 92 (92::92::encL r)=_
   rw[zef,ih]
   rfl
  rw[zb0 h1,e,zhC k (escC k) encL rfl]
  rw[e] at ih
  have two:∀m,m≠92→sp2 92 92 (92::m::encL r)=([92,m]++encL p)::q.map encL:=fun m hm=>by
   rw[zf2 hm,zbZ hm,ih]
   rfl
  by_cases h2:k=32
  ·subst h2
   exact two 115 (by decide)
  by_cases h3:k=10
  ·subst h3
   exact two 110 (by decide)
  rw[zaY,zft h1 h2 h3]
  show sp2 92 92 (k::encL r)=_
  rw[zbZ h1,ih]
  rfl
def e1L (l:List Nat):List Nat:=l.flatMap fun k=>if k=10 then [92,110] else [k]
theorem zkH:∀l:List Nat,92∉l→rep2 92 115 [32] (encL l)=e1L l
 |[],_=>rfl
 |k::r,h=>by
  have ih:=zkH r fun m=>h (List.mem_cons_of_mem _ m)
  have h1:k≠92:=fun e=>h (e ▸ List.mem_cons_self ..)
  unfold rep2 at ih ⊢
  by_cases h2:k=32
  ·subst h2
   show zaA [32] (sp2 92 115 (92::115::encL r))=32::e1L r
   rw[zef,zb7 _ (zcV _ _ _),ih]
   rfl
  by_cases h3:k=10
  ·subst h3
   show zaA [32] (sp2 92 115 (92::110::encL r))=92::110::e1L r
   rw[zf2 (by decide),zbZ (by decide),za9 _ _ _ (by obtain ⟨p,q,e⟩:∃p q,sp2 92 115 (encL r)=p::q:=(by cases h:sp2 92 115 (encL r) with|nil=>exact absurd h (zcV _ _ _)|cons p q=>exact ⟨p,q,rfl⟩);rw[e];exact fun z=>nomatch z),za9 _ _ _ (zcV _ _ _),ih]
  rw[zaY,zft h1 h2 h3]
  show zaA [32] (sp2 92 115 (k::encL r))=(if k=10 then [92,110] else [k])++e1L r
  rw[zbZ h1,za9 _ _ _ (zcV _ _ _),ih,if_neg h3]
  rfl
theorem zkI:∀l:List Nat,92∉l→rep2 92 110 [10] (e1L l)=l
 |[],_=>rfl
 |k::r,h=>by
  have ih:=zkI r fun m=>h (List.mem_cons_of_mem _ m)
  have h1:k≠92:=fun e=>h (e ▸ List.mem_cons_self ..)
  unfold rep2 at ih ⊢
  by_cases h3:k=10
  ·subst h3
   show zaA [10] (sp2 92 110 (92::110::e1L r))=10::r
   rw[zef,zb7 _ (zcV _ _ _),ih]
   rfl
  have e:e1L (k::r)=k::e1L r:=by
   show (if k=10 then [92,110] else [k])++e1L r=_
   rw[if_neg h3]
   rfl
  rw[e,zbZ h1,za9 _ _ _ (zcV _ _ _),ih]
def rdL (w:List Nat):List Nat:=zaA [92] ((sp2 92 92 w).map fun p=>rep2 92 110 [10] (rep2 92 115 [32] p))
def rdS (w:Str):Str:=⟨(rdL w.cps.toList).toArray⟩
theorem zkJ (l:List Nat):rdL (encL l)=l:=by
 unfold rdL
 rw[zhD,List.map_map]
 have e:(sp1 92 l).map ((fun p=>rep2 92 110 [10] (rep2 92 115 [32] p))∘encL)=sp1 92 l:=by
  refine (List.map_congr_left fun p hp=>?_).trans (List.map_id _)
  have hf:=zf5 92 l p hp
  show rep2 92 110 [10] (rep2 92 115 [32] (encL p))=p
  rw[zkH p hf,zkI p hf]
 rw[e,zf6]
theorem zjA (x:Str):Str.join (Str.ofString "\\") ((Txt.split x (Str.ofString "\\\\")).map fun p=>Txt.replace (Txt.replace p (Str.ofString "\\s") (Str.ofString " ")) (Str.ofString "\\n") (Str.ofString "\n"))=rdS x:=by
 refine zbz ?_
 rw[ofs1,ofs2,ofs3,ofs4,ofs5,ofs6,zbg,List.map_map]
 show zaA [92] _=zaA [92] _
 rw[←ziQ x 92 92 (by decide) (by decide),List.map_map]
 refine congrArg _ (List.map_congr_left fun p _=>?_)
 show (Txt.replace (Txt.replace p ⟨#[92,115]⟩ ⟨#[32]⟩) ⟨#[92,110]⟩ ⟨#[10]⟩).cps.toList=_
 rw[zeh _ _ 92 110 (by decide) (by decide),zeh _ _ 92 115 (by decide) (by decide)]
 rfl
theorem zfu (x:Str):rdS (encS x)=x:=zbz (by show rdL (encL x.cps.toList)=_;exact zkJ _)
theorem zdF (z:List Nat) (f:List Nat→List Nat) (hf:∀p,(f p).length≤p.length):∀ps:List (List Nat),(zaA z (ps.map f)).length≤(zaA z ps).length
 |[]=>Nat.le_refl _
 |[p]=>hf p
 |p::q::r=>by
  have ih:=zdF z f hf (q::r)
  have e1:zaA z ((p::q::r).map f)=f p++z++zaA z ((q::r).map f):=rfl
  have e2:zaA z (p::q::r)=p++z++zaA z (q::r):=rfl
  rw[e1,e2,List.length_append,List.length_append,List.length_append,List.length_append]
  have:=hf p
  omega
theorem zcR (a b:Nat) (z:List Nat) (hz:z.length≤2):∀l,(zaA z (sp2 a b l)).length≤l.length
 |[]=>Nat.le_refl _
 |[k]=>Nat.le_refl _
 |k::m::r=>by
  have i1:=zcR a b z hz r
  have i2:=zcR a b z hz (m::r)
  unfold sp2
  split
  ·rw[zb7 _ (zcV _ _ _),List.length_append,List.length_cons,List.length_cons]
   omega
  ·rw[za9 _ _ _ (zcV _ _ _)]
   show (zaA z (sp2 a b (m::r))).length+1≤(m::r).length+1
   omega
theorem zjB (w:List Nat):(rdL w).length≤w.length:=by
 unfold rdL
 refine Nat.le_trans (zdF [92] _ (fun p=>?_) _) (zcR 92 92 [92] (by decide) w)
 exact Nat.le_trans (zcR 92 110 [10] (by decide) _) (zcR 92 115 [32] (by decide) _)
theorem zfv (w:Str):(rdS w).length≤w.length:=by
 rw[←zaW,←zaW w]
 exact zjB _
def lrd:List Nat→Option (List Nat)
 |[]=>some []
 |[k]=>if k=32∨k=10∨k=92 then none else some [k]
 |k::m::r=>
  if k=92∧m=115 then (lrd r).map (32::·) else if k=92∧m=110 then (lrd r).map (10::·) else if k=92∧m=92 then (lrd r).map (92::·)
  else if k=32∨k=10∨k=92 then none else (lrd (m::r)).map (k::·)
theorem zkK {k:Nat}(h1:k≠92) (h2:k≠32) (h3:k≠10) (r:List Nat):lrd (k::r)=(lrd r).map (k::·):=by
 have h:¬(k=32∨k=10∨k=92):=fun z=>by rcases z with z|z|z;exact h2 z;exact h3 z;exact h1 z
 cases r with
 |nil=>
  show (if k=32∨k=10∨k=92 then none else some [k])=_
  rw[if_neg h]
  rfl
 |cons m r=>
  show (if k=92∧m=115 then _ else if k=92∧m=110 then _ else if k=92∧m=92 then _ else if k=32∨k=10∨k=92 then none else _)=_
  rw[if_neg (fun z=>h1 z.1),if_neg (fun z=>h1 z.1),if_neg (fun z=>h1 z.1),if_neg h]
theorem zhE:∀l:List Nat,lrd (encL l)=some l
 |[]=>rfl
 |k::r=>by
  have ih:=zhE r
  by_cases h1:k=92
  ·subst h1
   show (lrd (encL r)).map (92::·)=_
   rw[ih];rfl
  by_cases h2:k=32
  ·subst h2
   show (lrd (encL r)).map (32::·)=_
   rw[ih];rfl
  by_cases h3:k=10
  ·subst h3
   show (lrd (encL r)).map (10::·)=_
   rw[ih];rfl
  rw[zaY,zft h1 h2 h3]
  show lrd (k::encL r)=_
  rw[zkK h1 h2 h3,ih]
  rfl
theorem zfw:∀(w l:List Nat),lrd w=some l→encL l=w
 |[],l,h=>by
  have:l=[]:=(Option.some.inj h).symm
  rw[this];rfl
 |[k],l,h=>by
  have h:(if k=32∨k=10∨k=92 then none else some [k])=some l:=h
  split at h
  ·cases h
  ·rename_i hk
   have:l=[k]:=(Option.some.inj h).symm
   rw[this,zaY,zft (fun z=>hk (.inr (.inr z))) (fun z=>hk (.inl z)) (fun z=>hk (.inr (.inl z)))]
   rfl
 |k::m::r,l,h=>by
  have h:(if k=92∧m=115 then (lrd r).map (32::·) else if k=92∧m=110 then (lrd r).map (10::·) else if k=92∧m=92 then (lrd r).map (92::·)
   else if k=32∨k=10∨k=92 then none else (lrd (m::r)).map (k::·))=some l:=h
  have one:∀(c:Nat),(lrd r).map (c::·)=some l→∃l',l=c::l'∧encL l'=r:=fun c hc=>by
   obtain ⟨l',e1,e2⟩:=Option.map_eq_some_iff.mp hc
   exact ⟨l',e2.symm,zfw r l' e1⟩
  split at h
  ·rename_i z
   obtain ⟨l',rfl,e⟩:=one 32 h
   rw[zaY,ziR,e,z.1,z.2];rfl
  split at h
  ·rename_i z
   obtain ⟨l',rfl,e⟩:=one 10 h
   rw[zaY,ziS,e,z.1,z.2];rfl
  split at h
  ·rename_i z
   obtain ⟨l',rfl,e⟩:=one 92 h
   rw[zaY,zhB,e,z.1,z.2];rfl
  split at h
  ·cases h
  ·rename_i hk
   obtain ⟨l',e1,e2⟩:=Option.map_eq_some_iff.mp h
   have e3:=zfw (m::r) l' e1
   rw[←e2,zaY,zft (fun z=>hk (.inr (.inr z))) (fun z=>hk (.inl z)) (fun z=>hk (.inr (.inl z))),e3]
   rfl
theorem ziT {c:Nat}(hc:c=32∨c=10):∀l,c∉encL l
 |[]=>by simp[encL]
 |k::r=>by
  rw[zaY]
  intro h
  rcases List.mem_append.mp h with h|h
  ·have n1:∀a b:Nat,a≠32→a≠10→b≠32→b≠10→c∉[a,b]:=fun a b a1 a2 b1 b2 hm=>by
    simp only[List.mem_cons,List.not_mem_nil,or_false] at hm
    rcases hc with hc|hc<;>rcases hm with hm|hm<;>omega
   by_cases h1:k=92
   ·rw[h1,zhB] at h;exact n1 92 92 (by decide) (by decide) (by decide) (by decide) h
   by_cases h2:k=32
   ·rw[h2,ziR] at h;exact n1 92 115 (by decide) (by decide) (by decide) (by decide) h
   by_cases h3:k=10
   ·rw[h3,ziS] at h;exact n1 92 110 (by decide) (by decide) (by decide) (by decide) h
   rw[zft h1 h2 h3] at h
   have:c=k:=by simpa using h
   rcases hc with hc|hc<;>omega
  ·exact ziT hc r h
inductive spWS:List V→Hp→VK→XK→Prop where
 |mk {vs:List V} {H:Hp} {Q:VK} {E:XK} (x:Str) (c1:vs=[.str x]) (c2:x.length≤20000) (c3:Q (.str (encS x)) H):spWS vs H Q E
inductive spRS:List V→Hp→VK→XK→Prop where
 |mk {vs:List V} {H:Hp} {Q:VK} {E:XK} (x:Str) (c1:vs=[.str x]) (c2:x.length≤20000) (c3:∀H',Same H H'→Q (.str (rdS x)) H'):spRS vs H Q E
theorem zf8 (c:Nat) (z:List Nat) (hz:z.length≤2):∀l:List Nat,(sub1 c z l).length≤2*l.length
 |[]=>Nat.le_refl _
 |k::r=>by
  have ih:=zf8 c z hz r
  show ((if k=c then z else [k])++sub1 c z r).length≤_
  rw[List.length_append,List.length_cons]
  have:(if k=c then z else [k]).length≤2:=by split;exact hz;exact Nat.le_succ 1
  omega
theorem zf9 (x z:Str) (c:Nat) (hz:z.length≤2):(Txt.replace x ⟨#[c]⟩ z).length≤2*x.length:=by
 rw[←zaW,rep1,←zaW x]
 exact zf8 c _ (by rw[zaW];exact hz) _
theorem zek (x z:Str) (a b:Nat) (ha:a<256) (hb:b<256) (hz:z.length≤2):(Txt.replace x ⟨#[a,b]⟩ z).length≤x.length:=by
 rw[←zaW,zeh x z a b ha hb,←zaW x]
 exact zcR a b _ (by rw[zaW];exact hz) _
theorem range_map {α β:Type}(d:α) (f:α→β) (l:List α):(List.range l.length).map (fun i=>f (l.getD i d))=l.map f:=by
 refine List.ext_getElem (by simp) fun i h1 h2=>?_
 have h3:i<l.length:=by simpa using h2
 simp[h3]
theorem zdG {α:Type}{f g:α→Nat}:∀l:List α,(∀a∈l,f a≤g a)→(l.map f).sum≤(l.map g).sum
 |[],_=>Nat.le_refl _
 |a::r,h=>by
  have ih:=zdG r fun b hb=>h b (List.mem_cons_of_mem _ hb)
  have:=h a (List.mem_cons_self ..)
  rw[List.map_cons,List.map_cons,List.sum_cons,List.sum_cons]
  omega
theorem zcG (z:List Nat) (hz:1≤z.length):∀ps:List (List Nat),ps≠[]→(ps.map List.length).sum+ps.length≤(zaA z ps).length+1
 |[],h=>absurd rfl h
 |[p],_=>by simp[zaA]
 |p::q::r,_=>by
  have ih:=zcG z hz (q::r) (fun z=>nomatch z)
  have e:zaA z (p::q::r)=p++z++zaA z (q::r):=rfl
  rw[e,List.length_append,List.length_append,List.map_cons,List.sum_cons,List.length_cons]
  omega
theorem zaZ (x y:Str) (hy:1≤y.length):((Txt.split x y).map (·.length)).sum+(Txt.split x y).length≤x.length+1:=by
 have e:=zbg y (Txt.split x y)
 rw[StrLaws.join_split] at e
 have h:=zcG y.cps.toList (by rw[zaW];exact hy) ((Txt.split x y).map fun p=>p.cps.toList) (fun z=>zc2 x y (List.map_eq_nil_iff.mp z))
 rw[←e,zaW,List.length_map,List.map_map] at h
 have e2:(Txt.split x y).map (List.length∘fun p=>p.cps.toList)=(Txt.split x y).map (·.length):=List.map_congr_left fun p _=>zaW p
 rw[e2] at h
 exact h
theorem scWS:zar ["text"] ["text"] (zag zch):=⟨rfl,rfl,rfl,by decide +kernel,rfl,by decide +kernel,by decide +kernel⟩
theorem zk6 {f:Addr}{fd:FuncData}(F:Fun K "write_signs" "write_signs" zch f fd):FnOk P w K mg base CX0 1 f fd ["text"] spWS:=by
 refine F.ok scWS (fun vs H Q E h=>?_) (fun cdv A outer s H vs Q E hr h=>?_)
 ·obtain ⟨x,rfl,_⟩:=h
  rfl
 ·obtain ⟨x,rfl,hx,k⟩:=h
  refine ⟨_,zaf (zam (zbB (zbB (zbB (pv 0) (by decide +kernel) (by decide +kernel)) (by decide +kernel) (by decide +kernel)) (by decide +kernel) (by decide +kernel))),?_⟩
  have h1:(Txt.replace x (Str.ofString "\\") (Str.ofString "\\\\")).length≤2*x.length:=by rw[ofs1];exact zf9 x _ 92 (by decide +kernel)
  have h2:(Txt.replace (Txt.replace x (Str.ofString "\\") (Str.ofString "\\\\")) (Str.ofString " ") (Str.ofString "\\s")).length≤2*(Txt.replace x (Str.ofString "\\") (Str.ofString "\\\\")).length:=by
   rw[ofs3];exact zf9 _ _ 32 (by decide +kernel)
  rw[←ziq] at k
  exact ⟨_,rfl,x,rfl,by omega,_,rfl,by omega,_,rfl,by omega,k⟩
theorem scRS:zar ["word","parts"] ["word"] (zag zb6):=⟨rfl,rfl,rfl,by decide +kernel,rfl,by decide +kernel,by decide +kernel⟩
theorem zkL:(["part"]:List Str).Nodup:=by decide +kernel
theorem zk7 {f:Addr}{fd:FuncData}(F:Fun K "read_signs" "read_signs" zb6 f fd):FnOk P w K mg base CX0 1 f fd ["word"] spRS:=by
 refine F.ok scRS (fun vs H Q E h=>?_) (fun cdv A outer s H vs Q E hr h=>?_)
 ·obtain ⟨x,rfl,_⟩:=h
  rfl
 ·obtain ⟨x,rfl,hx,k⟩:=h
  have nd:=scRS.nd
  refine ⟨_,zad (zcf (N':=["part"]) (js:=[none]) (i:=1) rfl rfl nd rfl (Or.inl rfl) (za3 (zag zb6) (by decide +kernel)) trivial
    (zbR (zbi PySem.F.plainAttrs_str PySem.F.slot_str_split PySem.F.type_str_split zbG (pv 0) (zaa zai zab))) (fun cl s H fp=>zal (i:=0) zkL rfl (Or.inl rfl)) (fun cl s H fp=>zaS)
    (fun cl s H fp=>zbB (zbB (pv 0) (by decide +kernel) (by decide +kernel)) (by decide +kernel) (by decide +kernel)))
   (zaf (zam (zbi PySem.F.plainAttrs_str PySem.F.slot_str_join PySem.F.type_str_join zbt zai (zaa (pv 1) zab)))),?_⟩
  dsimp only[cxOf,Cx.nox,Cx.wish]
  have hz:(100000:Nat)≤sizeLine:=by rw[sizeLine_eq];decide
  refine ⟨_,rfl,rfl,x,_,rfl,rfl,by decide +kernel,by omega,fun p np=>?_⟩
  have s1:=Same.new (o:=.lst ((Txt.split x (Str.ofString "\\\\")).map V.str)) np
  have hp:upd H p (.lst ((Txt.split x (Str.ofString "\\\\")).map V.str)) p=some (.lst ((Txt.split x (Str.ofString "\\\\")).map V.str)):=zac
  generalize upd H p (.lst ((Txt.split x (Str.ofString "\\\\")).map V.str))=H1 at s1 hp ⊢
  have wt:=zaZ x (Str.ofString "\\\\") (by decide +kernel)
  have hps:∀q∈Txt.split x (Str.ofString "\\\\"),q.length≤20000:=fun q hq=>Nat.le_trans (PyProof.Rows.part_short hq) hx
  rw[←zjA] at k
  generalize Txt.split x (Str.ofString "\\\\")=ps at *
  refine ⟨p,rfl,⟨_,SqL.of hp⟩,fun pC npC=>?_⟩
  have hpC:p≠pC:=zae hp npC
  refine zbF (fun j=>some (V.str (Txt.replace (Txt.replace (ps.getD j Str.empty) (Str.ofString "\\s") (Str.ofString " ")) (Str.ofString "\\n") (Str.ofString "\n")))) (fun σ=>∃u,σ=[u]) ⟨none,rfl⟩ npC (by rw[List.length_map];omega) (zcZ (xs:=ps.map V.str) (by rw[zat hpC];exact hp) hpC) (fun j σ H2 C' hj ⟨w1,hw⟩ s2 hC'=>?_) (fun σ H2 s2 hC2=>?_)
  ·subst hw
   have hj':j<ps.length:=by rw[List.length_map] at hj;exact hj
   have e:(ps.map V.str).getD j .non=.str (ps.getD j Str.empty):=by
    rw[List.getD_eq_getElem?_getD,List.getD_eq_getElem?_getD,List.getElem?_map,List.getElem?_eq_getElem hj']
    rfl
   rw[e]
   have hq:(ps.getD j Str.empty).length≤20000:=hps _ (by rw[List.getD_eq_getElem?_getD,List.getElem?_eq_getElem hj'];exact List.getElem_mem hj')
   generalize ps.getD j Str.empty=q at hq hC' ⊢
   have h1:(Txt.replace q (Str.ofString "\\s") (Str.ofString " ")).length≤q.length:=by rw[ofs4];exact zek q _ 92 115 (by decide) (by decide) (by decide +kernel)
   dsimp only[tYes,gName]
   rw[if_pos rfl]
   exact ⟨_,rfl,q,rfl,by omega,_,rfl,by omega,hC' _ _ ⟨_,rfl⟩ (Same.refl _)⟩
  ·rw[zbW,List.length_map,range_map Str.empty (fun q=>V.str (Txt.replace (Txt.replace q (Str.ofString "\\s") (Str.ofString " ")) (Str.ofString "\\n") (Str.ofString "\n"))) ps] at hC2
   have em:ps.map (fun q=>V.str (Txt.replace (Txt.replace q (Str.ofString "\\s") (Str.ofString " ")) (Str.ofString "\\n") (Str.ofString "\n")))=(ps.map fun q=>Txt.replace (Txt.replace q (Str.ofString "\\s") (Str.ofString " ")) (Str.ofString "\\n") (Str.ofString "\n")).map V.str:=by rw[List.map_map];rfl
   rw[em] at hC2
   have hw2:((ps.map fun q=>Txt.replace (Txt.replace q (Str.ofString "\\s") (Str.ofString " ")) (Str.ofString "\\n") (Str.ofString "\n")).map (·.length)).sum≤(ps.map (·.length)).sum:=by
    rw[List.map_map]
    refine zdG ps fun q _=>?_
    show (Txt.replace (Txt.replace q (Str.ofString "\\s") (Str.ofString " ")) (Str.ofString "\\n") (Str.ofString "\n")).length≤q.length
    rw[ofs4,ofs6]
    exact Nat.le_trans (zek _ _ 92 110 (by decide) (by decide) (by decide +kernel)) (zek q _ 92 115 (by decide) (by decide) (by decide +kernel))
   refine ⟨rfl,_,rfl,_,pC,_,rfl,rfl,SqL.of hC2,by decide +kernel,by rw[List.length_map];omega,k _ (s1.trans s2)⟩
abbrev figS:Str:=Str.ofString "0123456789"
def figB (x:Str):Bool:=x.cps.toList.all fun c=>decide (c∈figS.cps.toList)
def valN (x:Str):Int:=((PySem.NumText.digitsVal x.cps.toList:Nat):Int)
def rdN (x:Str):Option Int:=if decide (1≤x.length)&&decide (x.length≤9)&&figB x&&decide (Str.ofString (toString (valN x))=x) then some (valN x) else none
def optV:Option Int→V
 |none=>.non
 |some n=>.int n
theorem zjC (c:Nat):c∈figS.cps.toList↔48≤c∧c≤57:=by
 have e:figS.cps.toList=[48,49,50,51,52,53,54,55,56,57]:=by decide +kernel
 rw[e]
 simp only[List.mem_cons,List.not_mem_nil,or_false]
 omega
theorem zc3 {x:Str}(h:figB x=true):PySem.NumText.AllDigits x.cps.toList:=fun c hc=>by
 unfold figB at h
 exact (zjC c).mp (of_decide_eq_true (List.all_eq_true.mp h c hc))
theorem ziU:∀(l:List Nat) (acc:Nat),(∀c∈l,48≤c∧c≤57)→l.foldl (fun acc c=>acc*10+(c-48)) acc<(acc+1)*10 ^ l.length
 |[],acc,_=>by simp
 |c::r,acc,h=>by
  have ih:=ziU r (acc*10+(c-48)) fun d hd=>h d (List.mem_cons_of_mem _ hd)
  have hc:=h c (List.mem_cons_self ..)
  show r.foldl _ (acc*10+(c-48))<_
  refine Nat.lt_of_lt_of_le ih ?_
  rw[List.length_cons,Nat.pow_succ,Nat.mul_comm (10 ^ r.length) 10,←Nat.mul_assoc]
  exact Nat.mul_le_mul_right _ (by omega)
theorem zhF {x:Str}(h:figB x=true) (hl:x.length≤9):(valN x).natAbs<1000000000:=by
 have:=ziU x.cps.toList 0 (zc3 h)
 have e:10 ^ x.cps.toList.length≤10 ^ 9:=Nat.pow_le_pow_right (by decide) (by rw[zaW];exact hl)
 show PySem.NumText.digitsVal x.cps.toList<_
 unfold PySem.NumText.digitsVal
 have e9:(10:Nat) ^ 9=1000000000:=by decide
 omega
theorem zdq {n:Nat}(h:n<1000000000):n.log2<1920:=by
 by_cases h0:n=0
 ·rw[h0];decide
 ·refine (Nat.log2_lt h0).mpr (Nat.lt_of_lt_of_le h ?_)
  exact Nat.le_trans (by decide:(1000000000:Nat)≤2 ^ 30) (Nat.pow_le_pow_right (by decide) (by decide))
theorem zhG (x:Str) (g:Nat→Bool):((List.range x.cps.size).map fun i=>g (x.cps.getD i 0)).all id=x.cps.toList.all g:=by
 have e:(List.range x.cps.toList.length).map (fun i=>g (x.cps.toList.getD i 0))=x.cps.toList.map g:=range_map 0 g _
 have e2:((List.range x.cps.size).map fun i=>g (x.cps.getD i 0))=x.cps.toList.map g:=by
  rw[←e]
  refine List.map_congr_left fun i hi=>?_
  simp
 rw[e2,List.all_map]
 rfl
inductive spRN:List V→Hp→VK→XK→Prop where
 |mk {vs:List V} {H:Hp} {Q:VK} {E:XK} (x:Str) (c1:vs=[.str x]) (c2:x.length≤20000) (c3:∀H',Same H H'→Q (optV (rdN x)) H'):spRN vs H Q E
structure TxtW (mg:Str→Option Value):Prop where
 mostF:∃t,mg "MOST_FIGURES"=some (.int 9 t)
 figs:∃t,mg "FIGURES"=some (.str figS t)
theorem scRN:zar ["word","number"] ["word"] (zag zbI):=⟨rfl,rfl,rfl,by decide +kernel,rfl,by decide +kernel,by decide +kernel⟩
theorem zk8 {f:Addr}{fd:FuncData}(F:Fun K "read_number" "read_number" zbI f fd) (T:Txt mg) (TW:TxtW mg):FnOk P w K mg base CX0 1 f fd ["word"] spRN:=by
 refine F.ok scRN (fun vs H Q E h=>?_) (fun cdv A outer s H vs Q E hr h=>?_)
 ·obtain ⟨x,rfl,_⟩:=h
  rfl
 ·obtain ⟨x,rfl,hx,k⟩:=h
  have nd:=scRN.nd
  obtain ⟨tm,hm⟩:=TW.mostF
  obtain ⟨tf,hf⟩:=TW.figs
  refine ⟨_,zad (zaL (PW.pt (zcm (zbj (zdQ ze5 ze5 zah (zap zaP (by rfl) T.len zbe (zaa (pv 0) zab)) (zcc (v:=.int 9) rfl hm ⟨tm,rfl⟩)))
    (zbK (zbj (zbb (zap (zcs rfl) (by rfl) T.all_ zg3 (zaa (za1 (N':=["sign"]) (js:=[none]) rfl rfl (za3 (zag zbI) (by decide +kernel)) trivial (zeE (pv 0)) (fun cl s H fp=>zal (i:=0) zhg rfl (Or.inl rfl)) (fun cl s H fp=>zaS)
     (fun cl s H fp=>zbT zeu (pv 0) (zcc (v:=.str figS) rfl hf ⟨tf,rfl⟩) (by with_unfolding_all rfl))) zab))))))) (zaf (zam zbr)) zau)
   (zad (zas (i:=1) nd rfl (Or.inl rfl) (zaG zcA (by rfl) T.int zgo (zaa (pv 0) zab)))
   (zaf (zam (zfG (zaq zbw (zaG zbU (by rfl) T.str zgn (zaa (pv 1) zab)) (pv 0) (zax _)) (pv 1) zbr)))),?_⟩
  have hz:(100000:Nat)≤sizeLine:=by rw[sizeLine_eq];decide
  have no:(decide (1≤x.length)&&decide (x.length≤9)&&figB x)=false→∀H',Same H H'→Q .non H':=fun e H' s'=>by
   have:=k H' s'
   unfold rdN at this
   rw[e,Bool.false_and,if_neg Bool.false_ne_true] at this
   exact this
  refine ⟨_,rfl,_,rfl,by omega,_,_,rfl,rfl,_,rfl,?_⟩
  refine ite2 (fun h1=>?_) (fun h1=>?_)
  ·refine ⟨_,_,rfl,rfl,_,rfl,?_⟩
   refine ite2 (fun h2=>?_) (fun h2=>?_)
   ·refine no ?_ H (Same.refl H)
    have:¬x.length≤9:=by simp at h2;omega
    rw[decide_eq_false this,Bool.and_false,Bool.false_and]
   ·have hl1:1≤x.length:=by simp at h1;omega
    have hl9:x.length≤9:=by simp at h2;omega
    refine ⟨_,rfl,_,rfl,fun p np=>?_⟩
    refine zbk (fun i=>.bl (decide (x.cps.getD i 0∈figS.cps.toList))) (fun σ=>∃v,σ=[v]) ⟨none,rfl⟩ np (by show x.length≤_;omega) zcv (fun i σ H1 C hi ⟨v,hv⟩ hS hC=>?_) (fun σ H1 hS hH=>?_)
    ·subst hv
     have hC':=hC [some (.str ⟨#[x.cps.getD i 0]⟩)] H1 ⟨_,rfl⟩ (Same.refl _)
     rw[←StrLaws.found_one] at hC'
     exact ⟨_,rfl,_,_,rfl,rfl,hC'⟩
    ·refine ⟨p,(List.range x.cps.size).map fun i=>decide (x.cps.getD i 0∈figS.cps.toList),rfl,SqL.of (by rw[List.map_map];exact hH),?_⟩
     rw[zhG x fun c=>decide (c∈figS.cps.toList)]
     refine ⟨_,rfl,?_⟩
     cases hfg:figB x with
     |false=>
      have hfg':(x.cps.toList.all fun c=>decide (c∈figS.cps.toList))=false:=hfg
      rw[hfg']
      refine iteT ?_
      exact no (by rw[hfg,Bool.and_false]) H1 hS
     |true=>
      have hfg':(x.cps.toList.all fun c=>decide (c∈figS.cps.toList))=true:=hfg
      rw[hfg']
      refine iteF ?_
      have hne:x.cps.toList≠[]:=fun z=>by have:=congrArg List.length z;rw[zaW] at this;simp at this;omega
      refine ⟨_,rfl,x,valN x,rfl,PySem.intText_digits (zc3 hfg) hne (by omega),by omega,?_⟩
      refine ⟨_,rfl,valN x,rfl,zdq (zhF hfg hl9),_,rfl,rfl,_,rfl,?_⟩
      have hk:=k H1 hS
      unfold rdN at hk
      rw[hfg,decide_eq_true hl1,decide_eq_true hl9] at hk
      refine ite2 (fun g=>?_) (fun g=>?_)
      ·have g':Str.ofString (toString (valN x))=x:=by simpa using g
       rw[decide_eq_true g'] at hk
       exact ⟨_,rfl,hk⟩
      ·have g':¬Str.ofString (toString (valN x))=x:=by simpa using g
       rw[decide_eq_false g'] at hk
       exact hk
  ·refine ⟨_,rfl,iteT ?_⟩
   refine no ?_ H (Same.refl H)
   have:¬1≤x.length:=by simp at h1;omega
   rw[decide_eq_false this,Bool.false_and,Bool.false_and]
def numS (n:Int):Str:=Str.ofString (toString n)
def escW (e:Str):Str:=if (encS e).length=0 then Str.ofString "none" else encS e
def doorW (d:Dr):List Str:=[encS d.1,numS d.2.1,encS d.2.2]
def lineW (t:Tg):List Str:=[Str.ofString "escape",escW t.1]++t.2.flatMap doorW
def lineS (t:Tg):Str:=Str.join (Str.ofString " ") (lineW t)
def bookS (b:Bk):Str:=Str.join (Str.ofString "\n") (b.map lineS)
def DrW (d:Dr):Prop:=d.1.length≤4∧(0≤d.2.1∧d.2.1<7)∧d.2.2.length≤4
def TgW (t:Tg):Prop:=t.1.length≤1∧t.2.length≤6∧∀d∈t.2,DrW d
theorem TgOk.wq {n:Int}{t:Tg}(hn:n≤6) (h:TgOk n t):TgW t:=by
 obtain ⟨h1,h2,h3⟩:=h
 refine ⟨?_,h2,fun d hd=>?_⟩
 ·unfold escD at h1
  simp only[Bool.and_eq_true,decide_eq_true_eq] at h1
  exact h1.1
 ·obtain ⟨a,b,c⟩:=h3 d hd
  exact ⟨(zbC a).1,⟨b.1,by omega⟩,(zbC c).1⟩
theorem zir {n:Int}(h0:0≤n) (h7:n<7):(numS n).length=1:=by
 rcases (by omega:n=0∨n=1∨n=2∨n=3∨n=4∨n=5∨n=6) with rfl|rfl|rfl|rfl|rfl|rfl|rfl<;>decide +kernel
def wt (ws:List Str):Nat:=(ws.map (·.length)).sum+ws.length
theorem zb1 (a b:List Str):wt (a++b)=wt a+wt b:=by
 unfold wt
 rw[List.map_append,List.sum_append,List.length_append]
 omega
theorem zjD {d:Dr}(h:DrW d):wt (doorW d)≤20:=by
 have h1:=zcF d.1
 have h2:=zcF d.2.2
 have h3:=zir h.2.1.1 h.2.1.2
 obtain ⟨a,_,c⟩:=h
 show (encS d.1).length+((numS d.2.1).length+((encS d.2.2).length+0))+3≤20
 omega
theorem zc4:∀ds:List Dr,(∀d∈ds,DrW d)→wt (ds.flatMap doorW)≤20*ds.length
 |[],_=>Nat.le_refl _
 |d::r,h=>by
  have ih:=zc4 r fun e he=>h e (List.mem_cons_of_mem _ he)
  have:=zjD (h d (List.mem_cons_self ..))
  show wt (doorW d++r.flatMap doorW)≤_
  rw[zb1,List.length_cons]
  omega
theorem zis {e:Str}(h:e.length≤1):(escW e).length≤4:=by
 unfold escW
 split
 ·decide +kernel
 ·have:=zcF e
  omega
theorem zfx {t:Tg}(h:TgW t):wt (lineW t)≤140:=by
 obtain ⟨h1,h2,h3⟩:=h
 have a:=zc4 t.2 h3
 have b:=zis h1
 unfold lineW
 rw[zb1]
 have c:wt [Str.ofString "escape",escW t.1]=6+((escW t.1).length+0)+2:=rfl
 omega
theorem zel (sep:Str) (hs:sep.length≤1) (ws:List Str):(Str.join sep ws).length≤wt ws:=by
 have h:=StrLaws.join_length_le sep ws
 have:ws.length*sep.length≤ws.length*1:=Nat.mul_le_mul_left _ hs
 unfold wt
 omega
theorem zhH {t:Tg}(h:TgW t):(lineS t).length≤140:=Nat.le_trans (zel _ (by decide +kernel) _) (zfx h)
theorem zc5:∀ {b:Bk},(∀t∈b,TgW t)→wt (b.map lineS)≤141*b.length
 |[],_=>Nat.le_refl _
 |t::r,h=>by
  have ih:=zc5 (b:=r) fun e he=>h e (List.mem_cons_of_mem _ he)
  have:=zhH (h t (List.mem_cons_self ..))
  have e:wt ((t::r).map lineS)=(lineS t).length+1+wt (r.map lineS):=by
   unfold wt
   rw[List.map_cons,List.map_cons,List.sum_cons,List.length_cons]
   omega
  rw[e,List.length_cons]
  omega
theorem zhI {b:Bk}(h:∀t∈b,TgW t) (hl:b.length≤6):(bookS b).length≤846:=by
 have:=zc5 h
 have:=zel (Str.ofString "\n") (by decide +kernel) (b.map lineS)
 unfold bookS
 omega
inductive spTL:List V→Hp→VK→XK→Prop where
 |mk {vs:List V} {H:Hp} {Q:VK} {E:XK} (z:Addr) (v:V) (t:Tg) (c1:vs=[v]) (c2:Rep z H v (tgD t)) (c3:TgW t) (c4:∀H',Same H H'→Q (.str (lineS t)) H'):spTL vs H Q E
inductive spBT:List V→Hp→VK→XK→Prop where
 |mk {vs:List V} {H:Hp} {Q:VK} {E:XK} (z:Addr) (v:V) (b:Bk) (c1:vs=[v]) (c2:Rep z H v (bkD b)) (c3:∀t∈b,TgW t) (c4:b.length≤6) (c5:∀H',Same H H'→Q (.str (bookS b)) H'):spBT vs H Q E
theorem scTL:zar ["tongue","escape","doors","words","opening","inner","close"] ["tongue"] (zag zci):=⟨rfl,rfl,rfl,by decide +kernel,rfl,by decide +kernel,by decide +kernel⟩
theorem zk9 {f f1:Addr}{fd fd1:FuncData}(F:Fun K "tongue_line" "tongue_line" zci f fd) (T:Txt mg)
  (k1:W.keepIn K (.ref f1)=true) (b1:Binds K fd1 ["text"] []) (m1:mg "write_signs"=some (.ref f1)) (G1:FnOk P w K mg base CX0 1 f1 fd1 ["text"] spWS):FnOk P w K mg base CX0 2 f fd ["tongue"] spTL:=by
 refine F.ok scTL (fun vs H Q E h=>?_) (fun cdv A outer s H vs Q E hr h=>?_)
 ·obtain ⟨z,v,t,rfl,_⟩:=h
  rfl
 ·obtain ⟨z,v,t,rfl,R,ht,k⟩:=h
  have nd:=scTL.nd
  refine ⟨_,zad (zdz (pv 0) (zbQ rfl (zao (zal (i:=1) nd rfl (Or.inl rfl)) (zao (zal (i:=2) nd rfl (Or.inl rfl)) za2))))
   (zad (zas (i:=3) nd rfl (Or.inl rfl) (zay (pa_K zai (zaa (zkq (zak G1 hr rfl m1 k1 b1 .nil pass0 (zaa (pv 1) zab)) (zet zai)) zab))))
   (zad (zbm PassesOwn.never rfl (za6 (pv 2)) (zbQ rfl (zao (zal (i:=4) nd rfl (Or.inl rfl)) (zao (zal (i:=5) nd rfl (Or.inl rfl)) (zao (zal (i:=6) nd rfl (Or.inl rfl)) za2))))
    (zaf (zbP (zbi PySem.F.plainAttrs_list PySem.F.slot_list_extend PySem.F.type_list_extend zgR (pv 3) (pa_L (zay (zaa (zak G1 hr rfl m1 k1 b1 .nil pass0 (zaa (pv 4) zab)) (zaa (zaG zbU (by rfl) T.str zgn (zaa (pv 5) zab)) (zaa (zak G1 hr rfl m1 k1 b1 .nil pass0 (zaa (pv 6) zab)) zab)))) zab)))))
   (zaf (zam (zbi PySem.F.plainAttrs_str PySem.F.slot_str_join PySem.F.type_str_join zbt zai (zaa (pv 3) zab)))))),?_⟩
  dsimp only[cxOf,Cx.nox,Cx.wish]
  have hz:(100000:Nat)≤sizeLine:=by rw[sizeLine_eq];decide
  obtain ⟨a,d,xs,rfl,haz,hdz,ha,hd,hl,Rd⟩:=zaO R
  obtain ⟨h1,h2,h3⟩:=id ht
  refine zaj fun U hU=>?_
  refine ⟨_,rfl,a,_,rfl,SqT.of ha,rfl,_,_,rfl,_,_,rfl,rfl,hU _ _ (zaj fun U hU=>?_)⟩
  have el:=zcF t.1
  refine ⟨_,rfl,t.1,rfl,by omega,encS t.1,rfl,by omega,?_⟩
  have fin:∀p,H p=none→U [some (.ref a),some (.str t.1),some (.ref d),some (.ref p),none,none,none] (upd H p (.lst ([Str.ofString "escape",escW t.1].map V.str))):=by
   intro p np
   have s0:=Same.new (o:=.lst ([Str.ofString "escape",escW t.1].map V.str)) np
   have hp0:upd H p (.lst ([Str.ofString "escape",escW t.1].map V.str)) p=some (.lst ([Str.ofString "escape",escW t.1].map V.str)):=zac
   generalize upd H p (.lst ([Str.ofString "escape",escW t.1].map V.str))=H1 at s0 hp0 ⊢
   refine hU _ _ ⟨_,rfl,d,rfl,⟨_,SqT.of (s0 _ _ hd)⟩,zcd (K:=K) (a:=d) (xs:=xs) (fun i σ H2=>∃u4 u5 u6,σ=[some (.ref a),some (.str t.1),some (.ref d),some (.ref p),u4,u5,u6]∧SameX p H1 H2∧H2 p=some (.lst (([Str.ofString "escape",escW t.1]++(t.2.take i).flatMap doorW).map V.str)))
    ⟨none,none,none,rfl,.refl,by rw[hp0];simp⟩ (fun i σ H2 _ ⟨_,_,_,_,s2,_⟩=>SqT.of (s2 _ _ (zae hd np) (s0 _ _ hd))) ?_ ?_⟩
   ·rintro i y σ H2 hi ⟨u4,u5,u6,rfl,s2,hp2⟩
    have hil:i<t.2.length:=by have:=(List.getElem?_eq_some_iff.mp hi).1;omega
    have ey:y=xs.getD i .non:=by rw[List.getD_eq_getElem?_getD,hi];rfl
    obtain ⟨q,e2,hqz,hq⟩:=zbc (za4 (ds:=t.2) Rd hil)
    have hdr:DrW (t.2.getD i (⟨#[]⟩,0,⟨#[]⟩)):=h3 _ (by rw[List.getD_eq_getElem?_getD,List.getElem?_eq_getElem hil];exact List.getElem_mem hil)
    have hwt:=zc4 (t.2.take i) fun d hd=>h3 d (List.mem_of_mem_take hd)
    have hq2:=s2 _ _ (zae hq np) (s0 _ _ hq)
    have etake:t.2.take (i+1)=t.2.take i++[t.2.getD i (⟨#[]⟩,0,⟨#[]⟩)]:=by rw[List.take_succ,List.getElem?_eq_getElem hil,List.getD_eq_getElem?_getD,List.getElem?_eq_getElem hil];rfl
    rw[ey,e2,etake]
    generalize t.2.getD i (⟨#[]⟩,0,⟨#[]⟩)=dr at hdr hq2
    obtain ⟨g1,g2,g3⟩:=id hdr
    refine ⟨q,_,rfl,SqT.of hq2,rfl,_,_,rfl,_,_,rfl,_,_,rfl,rfl,?_⟩
    refine ⟨_,rfl,.inl ⟨rfl,_,SqL.of hp2⟩,_,rfl,dr.1,rfl,by omega,_,rfl,dr.2.1,rfl,zdq (by omega),_,rfl,dr.2.2,rfl,by omega,by show (3:Nat)≤_;omega,fun l nl=>?_⟩
    have s3:=Same.new (o:=.lst [.str (encS dr.1),.str (numS dr.2.1),.str (encS dr.2.2)]) nl
    have hp3:=s3 _ _ hp2
    refine ⟨p,l,_,_,rfl,rfl,hp3,zac,?_,?_⟩
    ·rw[List.length_map,List.length_append]
     unfold wt at hwt
     rw[List.length_take] at hwt
     show 2+_+3≤_
     omega
    ·refine ⟨_,_,_,rfl,(s2.trans s3.x).upd,?_⟩
     rw[zac]
     simp[doorW,List.flatMap_append]
     rfl
   ·rintro σ H2 ⟨u4,u5,u6,rfl,s2,hp2⟩
    have hw:=zfx ht
    have e:t.2.take xs.length=t.2:=by rw[hl];exact List.take_length
    rw[e] at hp2
    exact ⟨rfl,_,rfl,_,p,lineW t,rfl,rfl,SqL.of hp2,by decide +kernel,by unfold wt at hw;omega,k H2 fun b o e=>s2 b o (zae e np) (s0 b o e)⟩
  refine ite2 (fun g=>?_) (fun g=>?_)
  ·refine ⟨by show (2:Nat)≤_;omega,fun p np=>?_⟩
   have e:escW t.1=Str.ofString "none":=by unfold escW;rw[if_pos g]
   rw[e] at fin
   exact fin p np
  ·refine ⟨by show (2:Nat)≤_;omega,fun p np=>?_⟩
   have e:escW t.1=encS t.1:=by unfold escW;rw[if_neg g]
   rw[e] at fin
   exact fin p np
theorem scBT:zar ["book"] ["book"] (zag zcD):=⟨rfl,rfl,rfl,by decide +kernel,rfl,by decide +kernel,by decide +kernel⟩
theorem ndTg:(["tongue"]:List Str).Nodup:=by decide +kernel
theorem zla {f f1:Addr}{fd fd1:FuncData}(F:Fun K "book_text" "book_text" zcD f fd)
  (k1:W.keepIn K (.ref f1)=true) (b1:Binds K fd1 ["tongue"] []) (m1:mg "tongue_line"=some (.ref f1)) (G1:FnOk P w K mg base CX0 2 f1 fd1 ["tongue"] spTL):FnOk P w K mg base CX0 3 f fd ["book"] spBT:=by
 refine F.ok scBT (fun vs H Q E h=>?_) (fun cdv A outer s H vs Q E hr h=>?_)
 ·obtain ⟨z,v,b,rfl,_⟩:=h
  rfl
 ·obtain ⟨z,v,b,rfl,R,ht,hb6,k⟩:=h
  refine ⟨_,zaf (zam (zbi PySem.F.plainAttrs_str PySem.F.slot_str_join PySem.F.type_str_join zbt zai (zaa (za1 (N':=["tongue"]) (js:=[none]) rfl rfl (za3 (zag zcD) (by decide +kernel)) trivial (za6 (pv 0)) (fun cl s H fp=>zal (i:=0) ndTg rfl (Or.inl rfl)) (fun cl s H fp=>zaS)
   (fun cl s H fp=>zak G1 hr rfl m1 k1 b1 .nil pass0 (zaa (pv 0) zab))) zab))),?_⟩
  dsimp only[cxOf,Cx.nox,Cx.wish]
  have hz:(100000:Nat)≤sizeLine:=by rw[sizeLine_eq];decide
  obtain ⟨a,xs,rfl,haz,ha,hl,Rb⟩:=zb5 R
  refine ⟨rfl,_,rfl,a,rfl,⟨_,SqT.of ha⟩,fun pC npC=>?_⟩
  have haC:a≠pC:=zae ha npC
  refine zbF (fun j=>some (V.str (lineS (b.getD j (⟨#[]⟩,[]))))) (fun σ=>∃u,σ=[u]) ⟨none,rfl⟩ npC (by omega) (za5 (xs:=xs) (by rw[zat haC];exact ha) haC) (fun j σ H2 C' hj ⟨w1,hw⟩ s2 hC'=>?_) (fun σ H2 s2 hC2=>?_)
  ·subst hw
   have hj':j<b.length:=by omega
   have Rj:=(zaJ (b:=b) Rb hj').mono s2.x (z:=z)
   have htj:TgW (b.getD j (⟨#[]⟩,[])):=ht _ (by rw[List.getD_eq_getElem?_getD,List.getElem?_eq_getElem hj'];exact List.getElem_mem hj')
   generalize b.getD j (⟨#[]⟩,[])=t at Rj htj hC'
   dsimp only[tYes,gName]
   rw[if_pos rfl]
   exact ⟨_,rfl,z,_,t,rfl,Rj,htj,fun H' s'=>hC' _ _ ⟨_,rfl⟩ s'⟩
  ·rw[zbW,hl,range_map (⟨#[]⟩,[]) (fun t=>V.str (lineS t)) b] at hC2
   have em:b.map (fun t=>V.str (lineS t))=(b.map lineS).map V.str:=by rw[List.map_map];rfl
   rw[em] at hC2
   have hw:=zc5 ht
   exact ⟨_,pC,b.map lineS,rfl,rfl,SqL.of hC2,by decide +kernel,by unfold wt at hw;omega,k _ s2⟩
def optD:Option Int→D
 |none=>.non
 |some n=>.int n
def wAt (ws:List Str) (i:Nat):Str:=ws.getD i Str.empty
def doorP (ws:List Str) (i:Nat):D:=.tup [.str (rdS (wAt ws i)),optD (rdN (wAt ws (i+1))),.str (rdS (wAt ws (i+2)))]
def escP (w:Str):Str:=if w=Str.ofString "none" then Str.ofString "" else rdS w
def zcW (ws:List Str):D:=if ws.length<2 then .non else .tup [.str (escP (wAt ws 1)),.tup ((List.range ((ws.length-2) / 3)).map fun i=>doorP ws (2+3*i))]
def readT (x:Str):D:=zcW (Txt.split x (Str.ofString " "))
def readB (x:Str):D:=.tup ((Txt.split x (Str.ofString "\n")).map readT)
theorem zhJ {z:Addr}{H:Hp}(o:Option Int):Rep z H (optV o) (optD o):=by
 cases o with
 |none=>exact .non
 |some n=>exact .int n
theorem zhK (n:Nat):Builtin.Range.rangeSize 2 ((n:Int)-2) 3=(((n-2) / 3:Nat):Int):=by
 unfold Builtin.Range.rangeSize
 rw[if_pos (by decide)]
 split
 ·omega
 ·omega
theorem zhL {n:Nat}(h:n≤100000):Builtin.Range.small 2 ((n:Int)-2) 3=true:=by
 unfold Builtin.Range.small
 rw[zhK,if_pos (by decide)]
 have f:∀i:Int,-100≤i→i≤1000000→Builtin.Range.rangeFitsLong i=true:=fun i h1 h2=>by
  unfold Builtin.Range.rangeFitsLong
  simp
  omega
 rw[f 2 (by decide) (by decide),f ((n:Int)-2) (by omega) (by omega),f 3 (by decide) (by decide),f (((n-2) / 3:Nat):Int) (by omega) (by omega),f ((n:Int)-2+(3-1)) (by omega) (by omega)]
 simp
theorem py3 (a:Int):Builtin.divisionGoesByPylong a 3=false:=by
 unfold Builtin.divisionGoesByPylong
 have e:((3:Int).natAbs.log2 / 30+1)=1:=by decide +kernel
 have e2:Nat.log2 3 / 30+1=1:=by decide +kernel
 simp[e2]
theorem zhM (o:Option Int):NoL (optD o):=by
 cases o with
 |none=>exact .non
 |some n=>exact .int n
theorem zb8 (ws:List Str):∀l:List Nat,NoLs (l.map fun i=>doorP ws (2+3*i))
 |[]=>.nil
 |i::r=>.cons (.tup (.cons (.str _) (.cons (zhM _) (.cons (.str _) .nil)))) (zb8 ws r)
inductive spRT:List V→Hp→VK→XK→Prop where
 |mk {vs:List V} {H:Hp} {Q:VK} {E:XK} (z:Addr) (x:Str) (c1:vs=[.str x]) (c2:Bag z H) (c3:x.length≤20000) (c4:∀v H',Same H H'→Rep z H' v (readT x)→Q v H'):spRT vs H Q E
theorem scRT:zar ["line","words","escape","doors","at"] ["line"] (zag zcj):=⟨rfl,rfl,rfl,by decide +kernel,rfl,by decide +kernel,by decide +kernel⟩
theorem zlb {f f1 f2:Addr}{fd fd1 fd2:FuncData}(F:Fun K "read_tongue" "read_tongue" zcj f fd) (T:Txt mg)
  (k1:W.keepIn K (.ref f1)=true) (b1:Binds K fd1 ["word"] []) (m1:mg "read_signs"=some (.ref f1)) (G1:FnOk P w K mg base CX0 1 f1 fd1 ["word"] spRS)
  (k2:W.keepIn K (.ref f2)=true) (b2:Binds K fd2 ["word"] []) (m2:mg "read_number"=some (.ref f2)) (G2:FnOk P w K mg base CX0 1 f2 fd2 ["word"] spRN):FnOk P w K mg base CX0 2 f fd ["line"] spRT:=by
 refine F.ok scRT (fun vs H Q E h=>?_) (fun cdv A outer s H vs Q E hr h=>?_)
 ·obtain ⟨z,x,rfl,_⟩:=h
  rfl
 ·obtain ⟨z,x,rfl,hB,hx,k⟩:=h
  have nd:=scRT.nd
  refine ⟨_,zad (zas (i:=1) nd rfl (Or.inl rfl) (zbi PySem.F.plainAttrs_str PySem.F.slot_str_split PySem.F.type_str_split zbG (pv 0) (zaa zai zab)))
   (zad (zaL (zaq zgi (zap zav (by rfl) T.len zbe (zaa (pv 1) zab)) zah (zax _)) (zaf (zam zbr)) zau)
   (zad (zas (i:=2) nd rfl (Or.inl rfl) (zfG (zaq zbw (zaC ix_list (pv 1) zah (fun _ _=>rfl)) zai (zax _)) zai (zak G1 hr rfl m1 k1 b1 .nil pass0 (zaa (zaC ix_list (pv 1) zah (fun _ _=>rfl)) zab))))
   (zad (zas (i:=3) nd rfl (Or.inl rfl) (zay zab))
   (zad (zbm PassesOwn.never rfl (zeK (lo:=2) (c:=3) rfl T.range (pa_K zah (pa_B (zaw zj7 (zap zav (by rfl) T.len zbe (zaa (pv 1) zab)) zah) (pa_K zah zab))) (by decide)) (zal (i:=4) nd rfl (Or.inl rfl))
    (zaf (zbP (zbi PySem.F.plainAttrs_list PySem.F.slot_list_append PySem.F.type_list_append zbd (pv 3) (pa_T (zcp (zaa (zak G1 hr rfl m1 k1 b1 .nil pass0 (zaa (zaC ix_list (pv 1) (pv 4) (fun _ _=>rfl)) zab)) (zaa (zak G2 hr rfl m2 k2 b2 .nil pass0 (zaa (zaC ix_list (pv 1) (zaw zaK (pv 4) zah) (fun _ _=>rfl)) zab)) (zaa (zak G1 hr rfl m1 k1 b1 .nil pass0 (zaa (zaC ix_list (pv 1) (zaw zaK (pv 4) zah) (fun _ _=>rfl)) zab)) zab)))) zab)))))
   (zaf (zam (zcp (zaa (pv 2) (zaa (zaG za0 (by rfl) T.tuple zbx (zaa (pv 3) zab)) zab))))))))),?_⟩
  dsimp only[cxOf,Cx.nox,Cx.wish]
  have hz:(100000:Nat)≤sizeLine:=by rw[sizeLine_eq];decide
  refine zbs fun D1 _ hR1 _ _=>zaj fun U hU=>?_
  refine ⟨_,rfl,rfl,x,_,rfl,rfl,by decide +kernel,by omega,fun p np=>hU _ _ (zaj fun U hU=>?_)⟩
  have s1:=Same.new (o:=.lst ((Txt.split x (Str.ofString " ")).map V.str)) np
  have hp:upd H p (.lst ((Txt.split x (Str.ofString " ")).map V.str)) p=some (.lst ((Txt.split x (Str.ofString " ")).map V.str)):=zac
  generalize upd H p (.lst ((Txt.split x (Str.ofString " ")).map V.str))=H1 at s1 hp ⊢
  have wtx:=zaZ x (Str.ofString " ") (by decide +kernel)
  have hps:∀q∈Txt.split x (Str.ofString " "),q.length≤20000:=fun q hq=>Nat.le_trans (PyProof.Rows.part_short hq) hx
  have hk:∀v H',Same H H'→Rep z H' v (zcW (Txt.split x (Str.ofString " ")))→Q v H':=k
  clear k
  generalize Txt.split x (Str.ofString " ")=ws at *
  have hwl:∀i,i<ws.length→(ws.map V.str)[i]?=some (.str (wAt ws i))∧(wAt ws i).length≤20000:=fun i hi=>by
   have e:wAt ws i=ws[i]:=by unfold wAt;rw[List.getD_eq_getElem?_getD,List.getElem?_eq_getElem hi];rfl
   rw[e,List.getElem?_map,List.getElem?_eq_getElem hi]
   exact ⟨rfl,hps _ (List.getElem_mem hi)⟩
  refine ⟨_,rfl,p,_,rfl,.inl (SqL.of hp),_,_,rfl,rfl,_,rfl,?_⟩
  rw[List.length_map]
  refine ite2 (fun g=>?_) (fun g=>?_)
  ·have g':ws.length<2:=by
    have:(ws.length:Int)<2:=by simpa using g
    omega
   refine hR1 _ _ (hk _ _ s1 ?_)
   unfold zcW
   rw[if_pos g']
   exact .non
  have g':¬ws.length<2:=by
   have:(2:Int)≤ws.length:=by simpa using g
   omega
  refine hU _ _ (zaj fun U hU=>?_)
  obtain ⟨e1,l1⟩:=hwl 1 (by omega)
  have B1:=hB.same s1
  -- escape
  have fin:∀H2,Same H1 H2→U [some (.str x),some (.ref p),some (.str (escP (wAt ws 1))),none,none] H2:=by
   intro H2 s2
   have S2:=s1.trans s2
   have hp2:=s2 _ _ hp
   refine hU _ _ (zaj fun U hU=>?_)
   refine ⟨Nat.zero_le _,fun q nq=>hU _ _ (zaj fun U hU=>?_)⟩
   have s3:=Same.new (o:=.lst []) nq
   have hq0:upd H2 q (.lst []) q=some (.lst []):=zac
   have hqz:q≠z:=(hB.same S2).ne nq
   have hpq:p≠q:=zae hp2 nq
   have S3:=S2.trans s3
   have hp3:=s3 _ _ hp2
   have nq0:=S2.free nq
   generalize upd H2 q (.lst [])=H3 at s3 hq0 S3 hp3 ⊢
   refine ⟨_,rfl,p,_,rfl,.inl (SqL.of hp3),_,_,rfl,rfl,_,(ws.length-2) / 3,rfl,?_,?_,?_,?_⟩
   ·rw[List.length_map]
    exact zhK ws.length
   ·rw[List.length_map]
    exact zhL (by omega)
   ·exact py3 _
   refine zdC (fun t σ H4=>∃u4 dv,σ=[some (.str x),some (.ref p),some (.str (escP (wAt ws 1))),some (.ref q),u4]∧SameX q H3 H4∧H4 q=some (.lst dv)∧Reps z H4 dv ((List.range t).map fun i=>doorP ws (2+3*i))) ⟨none,[],rfl,.refl,hq0,.nil⟩ ?_ ?_
   ·rintro t σ H4 ht ⟨u4,dv,rfl,s4,hq4,RD⟩
    have hp4:=s4 _ _ hpq hp3
    have B4:Bag z H4:=by
     obtain ⟨c,d,e⟩:=hB.same S3
     exact ⟨c,d,s4 _ _ hqz.symm e⟩
    have i2:2+3*t+2<ws.length:=by omega
    obtain ⟨ea,la⟩:=hwl (2+3*t) (by omega)
    obtain ⟨eb,lb⟩:=hwl (2+3*t+1) (by omega)
    obtain ⟨ec,lc⟩:=hwl (2+3*t+2) (by omega)
    have et:(2:Int)+(t:Int)*3=((2+3*t:Nat):Int):=by omega
    dsimp only[gName]
    rw[et]
    refine ⟨_,rfl,.inl ⟨rfl,_,SqL.of hq4⟩,_,rfl,_,rfl,p,_,_,_,rfl,rfl,SqL.of hp4,zan ea,_,rfl,la,fun H5 s5=>?_⟩
    refine ⟨_,rfl,_,rfl,_,_,rfl,rfl,p,_,_,_,rfl,rfl,SqL.of (s5 _ _ hp4),(zan (j:=2+3*t+1) eb:atI _ (((2+3*t:Nat):Int)+1)=_),_,rfl,lb,fun H6 s6=>?_⟩
    refine ⟨_,rfl,_,rfl,_,_,rfl,rfl,p,_,_,_,rfl,rfl,SqL.of (s6 _ _ (s5 _ _ hp4)),(zan (j:=2+3*t+2) ec:atI _ (((2+3*t:Nat):Int)+2)=_),_,rfl,lc,fun H7 s7=>⟨by show (3:Nat)≤_;omega,fun pt npt=>?_⟩⟩
    have S7:=(s5.trans s6).trans s7
    have B7:=B4.same S7
    have s8:=Same.new (o:=.tup [.str (rdS (wAt ws (2+3*t))),optV (rdN (wAt ws (2+3*t+1))),.str (rdS (wAt ws (2+3*t+2)))]) npt
    have S8:=S7.trans s8
    have hq8:=S8 _ _ hq4
    have hdl:dv.length=t:=by have:=RD.length;simpa using this
    refine ⟨q,dv,_,rfl,rfl,hq8,by omega,_,_,rfl,(s4.trans S8.x).upd,zac,?_⟩
    rw[List.range_succ,List.map_append]
    have ra:=zfv (wAt ws (2+3*t))
    have rc:=zfv (wAt ws (2+3*t+2))
    refine Reps.updL hq8 ((RD.mono S8.x).append (.cons (.tup zac (B7.ne npt) (.cons (.str _ (by omega)) (.cons (zhJ _) (.cons (.str _ (by omega)) .nil)))) .nil)) ?_
    exact (zb8 ws _).append (zb8 ws [t])
   ·rintro σ H4 ⟨u4,dv,rfl,s4,hq4,RD⟩
    have B4:Bag z H4:=by
     obtain ⟨c,d,e⟩:=hB.same S3
     exact ⟨c,d,s4 _ _ hqz.symm e⟩
    refine hU _ _ ⟨_,rfl,_,rfl,q,dv,rfl,.inl ⟨SqL.of hq4,fun l nl=>⟨by show (2:Nat)≤_;omega,fun pt npt=>hR1 _ _ ?_⟩⟩⟩
    have s5:=Same.new (o:=.tup dv) nl
    have s6:=Same.new (o:=.tup [.str (escP (wAt ws 1)),.ref l]) npt
    have S6:=s5.trans s6
    refine hk _ _ (fun b o e=>S6 b o (s4 b o (zae e nq0) (S3 b o e))) ?_
    unfold zcW
    rw[if_neg g']
    have lesc:(escP (wAt ws 1)).length≤20000:=by
     unfold escP
     split
     ·decide +kernel
     ·have:=zfv (wAt ws 1)
      omega
    exact .tup zac ((B4.same s5).ne npt) (.cons (.str _ lesc) (.cons (.tup (s6 _ _ zac) (B4.ne nl) (RD.mono S6.x)) .nil))
  refine ⟨_,rfl,p,_,1,_,rfl,rfl,SqL.of hp,zan (j:=1) e1,rfl,_,rfl,?_⟩
  refine ite2 (fun c=>?_) (fun c=>?_)
  ·have c':wAt ws 1=Str.ofString "none":=by simpa using c
   have e:escP (wAt ws 1)=Str.ofString "":=by unfold escP;rw[if_pos c']
   rw[e] at fin
   exact fin H1 (Same.refl _)
  ·have c':¬wAt ws 1=Str.ofString "none":=by simpa using c
   have e:escP (wAt ws 1)=rdS (wAt ws 1):=by unfold escP;rw[if_neg c']
   rw[e] at fin
   exact ⟨_,rfl,p,_,1,_,rfl,rfl,SqL.of hp,zan (j:=1) e1,wAt ws 1,rfl,l1,fun H2 s2=>fin H2 s2⟩
theorem zgy {z:Addr}{J:It}{g:TG}{tt:TT}{te:TE}{Qe:St→Hp→Prop}{σ0:St}{H0:Hp}{p:Addr}{n:Nat}{item:Nat→V}(keep:Nat→Bool) (dat:Nat→D) (Pσ:St→Prop) (hσ:Pσ σ0) (hp:H0 p=none) (hn:n≤100000) (ok:ItOk J n item (upd H0 p (.lst [])) p) (nl:∀i,NoL (dat i))
  (turn:∀i σ H (Ct:V→St→Hp→Prop) (Cf:St→Hp→Prop),i<n→Pσ σ→Same H0 H→(keep i=true→∀σ2 v H4,Pσ σ2→Same H H4→Rep z H4 v (dat i)→Ct v σ2 H4)→(keep i=false→∀σ2 H4,Pσ σ2→Same H H4→Cf σ2 H4) →
   g (item i) σ H fun σ2 H2=>tt σ2 H2 fun b H3=>if b=true then te σ2 H3 fun v H4=>Ct v σ2 H4 else Cf σ2 H3)
  (hQ:∀σ H vs,Same H0 H→H p=some (.lst vs)→Reps z H vs (((List.range n).filter keep).map dat)→Qe σ H):tLoop J g tt (tApp p te) Qe σ0 (upd H0 p (.lst [])):=by
 have s0:Same H0 (upd H0 p (.lst [])):=Same.new hp
 have up:∀ {H},SameX p (upd H0 p (.lst [])) H→Same H0 H:=fun {H} h b o e=>h b o (zae e hp) (s0 b o e)
 have nls:∀l:List Nat,NoLs (l.map dat):=fun l=>by
  induction l with
  |nil=>exact .nil
  |cons a r ih=>exact .cons (nl a) ih
 refine ⟨fun i m σ H=>m=n-i∧i≤n∧Pσ σ∧SameX p (upd H0 p (.lst [])) H∧∃vs,H p=some (.lst vs)∧vs.length≤i∧Reps z H vs (((List.range i).filter keep).map dat),⟨n,rfl,Nat.zero_le _,hσ,.refl,[],zac,Nat.le_refl _,.nil⟩,?_⟩
 rintro i m σ H ⟨rfl,hi,hP,hS,vs,hv,hl,R⟩
 by_cases hlt:i<n
 ·refine .inr ⟨ok.go i H hlt hS,fun σ' H'=>Pσ σ'∧SameX p (upd H0 p (.lst [])) H'∧∃vs,H' p=some (.lst vs)∧vs.length≤i+1∧Reps z H' vs (((List.range (i+1)).filter keep).map dat),fun σ' H' ⟨a,b,c⟩=>⟨n-(i+1),by omega,rfl,hlt,a,b,c⟩,fun x H' y=>?_⟩
  obtain ⟨rfl,rfl⟩:=ok.yld i H x H' hlt hS y
  have er:((List.range (i+1)).filter keep).map dat=((List.range i).filter keep).map dat++(if keep i then [dat i] else []):=by
   rw[List.range_succ,List.filter_append,List.map_append]
   cases g:keep i<;>simp[g]
  refine turn i σ H' (fun v σ2 H4=>∃ys,H4 p=some (.lst ys)∧ys.length<sizeLine∧(Pσ σ2∧SameX p (upd H0 p (.lst [])) (upd H4 p (.lst (ys++[v])))∧∃vs,upd H4 p (.lst (ys++[v])) p=some (.lst vs)∧vs.length≤i+1∧Reps z (upd H4 p (.lst (ys++[v]))) vs (((List.range (i+1)).filter keep).map dat))) _ hlt hP (up hS) (fun hk σ2 v H4 hP2 hS2 R2=>?_) fun hk σ2 H4 hP2 hS2=>?_
  ·have h4:=hS2 _ _ hv
   have big:(100000:Nat)<sizeLine:=by rw[sizeLine_eq];decide
   refine ⟨vs,h4,by omega,hP2,(hS.trans hS2.x).upd,vs++[v],zac,by simp;omega,?_⟩
   refine Reps.updL h4 ?_ (nls _)
   rw[er,hk]
   exact (R.mono hS2.x).append (.cons R2 .nil)
  ·refine ⟨hP2,hS.trans hS2.x,vs,hS2 _ _ hv,by omega,?_⟩
   rw[er,hk]
   simpa using R.mono hS2.x
 ·have e:i=n:=by omega
  subst e
  exact .inl ⟨ok.stop H hS,hQ σ H vs (up hS) hv R⟩
def GoodB (x:Str) (b:Bk):Prop:=readB x=bkD b∧bookD (bkD b)=true∧bookS b=x
theorem zhN (x:Str):NoL (readT x):=by
 unfold readT zcW
 split
 ·exact .non
 ·exact .tup (.cons (.str _) (.cons (.tup (zb8 _ _)) .nil))
theorem zjE {a b:Dr}(h:drD a=drD b):a=b:=by
 obtain ⟨a1,a2,a3⟩:=a
 obtain ⟨b1,b2,b3⟩:=b
 unfold drD at h
 injection h with h
 injection h with h1 h
 injection h with h2 h
 injection h with h3 h
 injection h1 with h1
 injection h2 with h2
 injection h3 with h3
 subst h1 h2 h3
 rfl
theorem zfy {α:Type}{f:α→D}(hf:∀a b,f a=f b→a=b):∀ {l m:List α},l.map f=m.map f→l=m
 |[],[],_=>rfl
 |[],_::_,h=>nomatch h
 |_::_,[],h=>nomatch h
 |a::l,b::m,h=>by
  injection h with h1 h2
  rw[hf a b h1,zfy hf h2]
theorem zjF {a b:Tg}(h:tgD a=tgD b):a=b:=by
 obtain ⟨a1,a2⟩:=a
 obtain ⟨b1,b2⟩:=b
 unfold tgD at h
 injection h with h
 injection h with h1 h
 injection h with h2 h
 injection h1 with h1
 injection h2 with h2
 subst h1
 rw[show a2=b2 from zfy (fun _ _=>zjE) h2]
theorem zem {a b:Bk}(h:bkD a=bkD b):a=b:=by
 unfold bkD at h
 injection h with h
 exact zfy (fun _ _=>zjF) h
theorem zjG {d:D}(h:bookD d=true):∃b,d=bkD b∧BkOk b:=by
 cases d with
 |tup ts=>
  unfold bookD at h
  simp only[Bool.and_eq_true,decide_eq_true_eq] at h
  obtain ⟨⟨⟨h1,h2⟩,h3⟩,h4⟩:=h
  obtain ⟨e,ok⟩:=zfl h3
  refine ⟨ts.map tgOf,by unfold bkD;rw[←e],by rw[List.length_map];exact h1,by rw[List.length_map];exact h2,fun t ht=>?_,h4⟩
  rw[List.length_map]
  exact ok t ht
 |non=>cases h
 |bl b=>cases h
 |int i=>cases h
 |str x=>cases h
 |lst xs=>cases h
inductive spRB (CT:Addr):List V→Hp→VK→XK→Prop where
 |str {vs:List V} {H:Hp} {Q:VK} {E:XK} (z:Addr) (x:Str) (c1:vs=[.str x]) (c2:Bag z H) (c3:x.length≤20000)
  (q:∀b v H',Same H H'→Rep z H' v (bkD b)→GoodB x b→Q v H') (e:(∀b,¬GoodB x b)→∀H',Same H H'→E (.ref CT) none H'):spRB CT vs H Q E
 |other {vs:List V} {H:Hp} {Q:VK} {E:XK} (z:Addr) (v:V) (d:D) (c1:vs=[v]) (c2:Rep z H v d) (c3:∀x,d≠.str x) (e:∀H',Same H H'→E (.ref CT) none H'):spRB CT vs H Q E
theorem scRB:zar ["text","book"] ["text"] (zag zcE):=⟨rfl,rfl,rfl,by decide +kernel,rfl,by decide +kernel,by decide +kernel⟩
theorem zkM:(["line"]:List Str).Nodup:=by decide +kernel
theorem zlc {f f1 f2 f3 CT:Addr}{fd fd1 fd2 fd3:FuncData}(F:Fun K "read_book" "read_book" zcE f fd) (T:Txt mg) (hx:W.excIn K CT bmVE "ValueError.__new__"=true) (hC:mg "NoText"=some (.ref CT))
  (k1:W.keepIn K (.ref f1)=true) (b1:Binds K fd1 ["line"] []) (m1:mg "read_tongue"=some (.ref f1)) (G1:FnOk P w K mg base CX0 2 f1 fd1 ["line"] spRT)
  (k2:W.keepIn K (.ref f2)=true) (b2:Binds K fd2 ["thing"] []) (m2:mg "is_book"=some (.ref f2)) (G2:FnOk P w K mg base CX0 5 f2 fd2 ["thing"] (spD bookD))
  (k3:W.keepIn K (.ref f3)=true) (b3:Binds K fd3 ["book"] []) (m3:mg "book_text"=some (.ref f3)) (G3:FnOk P w K mg base CX0 3 f3 fd3 ["book"] spBT):FnOk P w K mg base (CXE P w) 6 f fd ["text"] (spRB CT):=by
 refine F.okX scRB (fun vs H Q E h=>?_) (fun cdv A outer s H vs Q E hr h=>?_)
 ·cases h with
  |str z x c1=>rw[c1];rfl
  |other z v d c1=>rw[c1];rfl
 ·have nd:=scRB.nd
  have hr2:Room 2 _:=hr.mono (by decide)
  have hr3:Room 3 _:=hr.mono (by decide)
  refine ⟨_,zad (zaL (zbj (zbb (zcw T.isinst T.str zgn (pv 0)))) (zaf (zfR hx rfl rfl hC (zaa zai zab) zkt)) zau)
   (zad (zkr (zas (i:=1) nd rfl (Or.inl rfl) (zaG za0 (by rfl) T.tuple zbx (zaa (za1 (N':=["line"]) (js:=[none]) rfl rfl (za3 (zag zcE) (by decide +kernel)) trivial
     (zbR (zbi PySem.F.plainAttrs_str PySem.F.slot_str_split PySem.F.type_str_split zbG (pv 0) (zaa zai zab))) (fun cl s H fp=>zal (i:=0) zkM rfl (Or.inl rfl)) (fun cl s H fp=>zaS)
     (fun cl s H fp=>zak G1 hr2 rfl m1 k1 b1 .nil pass0 (zaa (pv 0) zab))) zab))))
   (zad (zaL (PW.pt (zcm (zbj (zbb (zak G2 hr rfl m2 k2 b2 .nil pass0 (zaa (pv 1) zab)))) (zbK (zaq zdx (zak G3 hr3 rfl m3 k3 b3 .nil pass0 (zaa (pv 1) zab)) (pv 0) (zax _))))) (zaf (zfR hx rfl rfl hC (zaa zai zab) zkt)) zau)
   (zaf (zam (pv 1))))),?_⟩
  dsimp only[cxOf,Cx.nox,Cx.wish]
  have hz:(100000:Nat)≤sizeLine:=by rw[sizeLine_eq];decide
  cases h with
  |other z v d c1 R c3 e=>
   subst c1
   refine ⟨_,rfl,_,_,_,_,rfl,R.ty,zd1 K d,_,rfl,?_⟩
   cases R with
   |str x hx=>exact absurd rfl (c3 x)
   |non=>exact iteT ⟨by show (1:Nat)≤_;omega,e H (Same.refl H)⟩
   |bl b=>exact iteT ⟨by show (1:Nat)≤_;omega,e H (Same.refl H)⟩
   |int b=>exact iteT ⟨by show (1:Nat)≤_;omega,e H (Same.refl H)⟩
   |tup _ _ _=>exact iteT ⟨by show (1:Nat)≤_;omega,e H (Same.refl H)⟩
   |lst _ _ _=>exact iteT ⟨by show (1:Nat)≤_;omega,e H (Same.refl H)⟩
  |str z x c1 hB hx20 q e=>
   subst c1
   refine ⟨_,rfl,_,_,_,_,rfl,(Rep.str (z:=z) (H:=H) x hx20).ty,zd1 K (.str x),_,rfl,iteF ?_⟩
   refine ⟨_,rfl,rfl,x,_,rfl,rfl,by decide +kernel,by omega,fun p np=>?_⟩
   have s1:=Same.new (o:=.lst ((Txt.split x (Str.ofString "\n")).map V.str)) np
   have hp:upd H p (.lst ((Txt.split x (Str.ofString "\n")).map V.str)) p=some (.lst ((Txt.split x (Str.ofString "\n")).map V.str)):=zac
   generalize upd H p (.lst ((Txt.split x (Str.ofString "\n")).map V.str))=H1 at s1 hp ⊢
   have wtx:=zaZ x (Str.ofString "\n") (by decide +kernel)
   have hps:∀q∈Txt.split x (Str.ofString "\n"),q.length≤20000:=fun q hq=>Nat.le_trans (PyProof.Rows.part_short hq) hx20
   have eB:readB x=.tup ((Txt.split x (Str.ofString "\n")).map readT):=rfl
   generalize Txt.split x (Str.ofString "\n")=ls at *
   have B1:=hB.same s1
   refine ⟨p,rfl,⟨_,SqL.of hp⟩,fun pC npC=>?_⟩
   have hpC:p≠pC:=zae hp npC
   refine zgy (z:=z) (fun _=>true) (fun j=>readT (ls.getD j Str.empty)) (fun σ=>∃u,σ=[u]) ⟨none,rfl⟩ npC (by rw[List.length_map];omega) (zcZ (xs:=ls.map V.str) (by rw[zat hpC];exact hp) hpC) (fun j=>zhN _) (fun j σ H2 Ct Cf hj ⟨w1,hw⟩ s2 hCt _=>?_) (fun σ H2 vs s2 hC RC=>?_)
   ·subst hw
    have hj':j<ls.length:=by rw[List.length_map] at hj;exact hj
    have e':(ls.map V.str).getD j .non=.str (ls.getD j Str.empty):=by
     rw[List.getD_eq_getElem?_getD,List.getD_eq_getElem?_getD,List.getElem?_map,List.getElem?_eq_getElem hj']
     rfl
    rw[e']
    have hq:(ls.getD j Str.empty).length≤20000:=hps _ (by rw[List.getD_eq_getElem?_getD,List.getElem?_eq_getElem hj'];exact List.getElem_mem hj')
    generalize ls.getD j Str.empty=l at hq hCt ⊢
    dsimp only[tYes,gName]
    rw[if_pos rfl]
    exact ⟨_,rfl,z,l,rfl,B1.same s2,hq,fun v H' s' R=>hCt rfl _ v _ ⟨_,rfl⟩ s' R⟩
   rw[List.filter_eq_self.mpr (fun _ _=>rfl),List.length_map,range_map Str.empty readT ls] at RC
   refine ⟨pC,vs,rfl,.inl ⟨SqL.of hC,fun l nl=>?_⟩⟩
   have s3:=Same.new (o:=.tup vs) nl
   have S3:=(s1.trans s2).trans s3
   have RB:Rep z (upd H2 l (.tup vs)) (.ref l) (readB x):=by
    rw[eB]
    exact .tup zac ((B1.same s2).ne nl) (RC.mono s3.x)
   generalize upd H2 l (.tup vs)=H3 at s3 S3 RB ⊢
   clear RC hC hp eB wtx hps npC hpC nl np
   refine ⟨_,rfl,z,_,_,rfl,RB,fun H4 s4=>⟨_,rfl,?_⟩⟩
   have S4:=S3.trans s4
   cases hb:bookD (readB x) with
   |false=>
    refine iteT ⟨by show (1:Nat)≤_;omega,e (fun b hg=>?_) H4 S4⟩
    rw[hg.1,hg.2.1] at hb
    cases hb
   |true=>
    refine iteF ?_
    obtain ⟨b,eb,hok⟩:=zjG hb
    have RB4:=RB.mono s4.x (z:=z)
    rw[eb] at RB4
    obtain ⟨g1,g6,gt,_⟩:=id hok
    refine ⟨_,rfl,z,_,b,rfl,RB4,fun t ht=>(gt t ht).wq (by omega),g6,fun H5 s5=>?_⟩
    have S5:=S4.trans s5
    refine ⟨_,rfl,rfl,_,rfl,ite2 (fun c=>?_) (fun c=>?_)⟩
    ·have c':¬bookS b=x:=by simpa using c
     refine ⟨by show (1:Nat)≤_;omega,e (fun b' hg=>c' ?_) H5 S5⟩
     have:b'=b:=zem (hg.1.symm.trans eb)
     rw[←this]
     exact hg.2.2
    ·have c':bookS b=x:=by simpa using c
     exact ⟨_,rfl,q b _ H5 S5 (RB4.mono s5.x) ⟨eb,by rw[←eb];exact hb,c'⟩⟩
def lrdS (w:Str):Option Str:=(lrd w.cps.toList).map fun l=>⟨l.toArray⟩
def lnum (w:Str):Option Int:=if decide (w.length=0) || decide (9<w.length) || !figB w || (decide (w.cps.toList.head?=some 48)&&decide (w≠Str.ofString "0")) then none else some (valN w)
def strO:Option Str→D
 |none=>.non
 |some x=>.str x
def doorL (ws:List Str) (i:Nat):D:=.tup [strO (lrdS (wAt ws i)),optD (lnum (wAt ws (i+1))),strO (lrdS (wAt ws (i+2)))]
def escL (w:Str):Option Str:=if w=Str.ofString "none" then some (Str.ofString "") else lrdS w
def lineG (ws:List Str):Bool:=decide (ws.length % 3=2)&&decide (wAt ws 0=Str.ofString "escape")&&(decide (wAt ws 1=Str.ofString "none") || !decide (lrdS (wAt ws 1)=some (Str.ofString "")))
def lineD (ws:List Str):D:=.tup [strO (escL (wAt ws 1)),.tup ((List.range ((ws.length-2) / 3)).map fun i=>doorL ws (2+3*i))]
def zaI (x:Str):List (List Str):=(Txt.split x (Str.ofString "\n")).map fun l=>Txt.split l (Str.ofString " ")
def dueD (x:Str):Option D:=if (zaI x).all lineG&&bookD (.tup ((zaI x).map lineD)) then some (.tup ((zaI x).map lineD)) else none
theorem zc6 (x:Str):lrdS (encS x)=some x:=by
 unfold lrdS
 rw[zbD,zhE]
 rfl
theorem zen {w x:Str}(h:lrdS w=some x):w=encS x:=by
 unfold lrdS at h
 obtain ⟨l,e1,e2⟩:=Option.map_eq_some_iff.mp h
 refine zbz ?_
 rw[zbD,←e2]
 exact (zfw _ _ e1).symm
theorem list_inj {l m:List Str}(h:l.map (fun p=>p.cps.toList)=m.map (fun p=>p.cps.toList)):l=m:=by
 induction l generalizing m with
 |nil=>
  cases m with
  |nil=>rfl
  |cons _ _=>cases h
 |cons a r ih=>
  cases m with
  |nil=>cases h
  |cons b t=>
   injection h with h1 h2
   rw[zbz h1,ih h2]
theorem zdr (c:Nat){ps:List Str}(h:ps≠[]) (hf:∀p∈ps,c∉p.cps.toList):Txt.split (Str.join ⟨#[c]⟩ ps) ⟨#[c]⟩=ps:=by
 refine list_inj ?_
 rw[zkG,zbg]
 refine zej c _ (fun z=>h (List.map_eq_nil_iff.mp z)) fun p hp=>?_
 obtain ⟨q,hq,rfl⟩:=List.mem_map.mp hp
 exact hf q hq
theorem zfz {c:Nat}(hc:c=32∨c=10) (x:Str):c∉(encS x).cps.toList:=ziT hc _
theorem zkN {c:Nat}(hc:c=32∨c=10){n:Int}(h0:0≤n) (h7:n<7):c∉(numS n).cps.toList:=by
 have key:∀m∈([0,1,2,3,4,5,6]:List Int),(32∉(numS m).cps.toList∧10∉(numS m).cps.toList):=by decide +kernel
 have hm:n∈([0,1,2,3,4,5,6]:List Int):=by
  simp only[List.mem_cons,List.not_mem_nil,or_false]
  omega
 rcases hc with rfl|rfl
 ·exact (key n hm).1
 ·exact (key n hm).2
theorem zga {c:Nat}(hc:c=32∨c=10){t:Tg}(ht:TgW t):∀w∈lineW t,c∉w.cps.toList:=by
 intro w hw
 unfold lineW at hw
 rcases List.mem_append.mp hw with hw|hw
 ·simp only[List.mem_cons,List.not_mem_nil,or_false] at hw
  rcases hw with rfl|rfl
  ·rcases hc with rfl|rfl<;>decide +kernel
  ·unfold escW
   split
   ·rcases hc with rfl|rfl<;>decide +kernel
   ·exact zfz hc _
 ·obtain ⟨d,hd,hw⟩:=List.mem_flatMap.mp hw
  have h:=ht.2.2 d hd
  simp only[doorW,List.mem_cons,List.not_mem_nil,or_false] at hw
  rcases hw with rfl|rfl|rfl
  ·exact zfz hc _
  ·exact zkN hc h.2.1.1 h.2.1.2
  ·exact zfz hc _
theorem zit (t:Tg):lineW t≠[]:=fun h=>nomatch h
theorem zdH {t:Tg}(ht:TgW t):Txt.split (lineS t) (Str.ofString " ")=lineW t:=by
 unfold lineS
 rw[ofs3]
 exact zdr 32 (zit t) (zga (.inl rfl) ht)
theorem zdI {z:List Nat}{c:Nat}:∀ {ps:List (List Nat)},c∉z→(∀p∈ps,c∉p)→c∉zaA z ps
 |[],_,_=>fun h=>nomatch h
 |[p],_,h=>h p (List.mem_singleton.mpr rfl)
 |p::q::r,hz,h=>by
  have ih:=zdI (ps:=q::r) hz fun a ha=>h a (List.mem_cons_of_mem _ ha)
  have e:zaA z (p::q::r)=p++z++zaA z (q::r):=rfl
  rw[e]
  intro hm
  rcases List.mem_append.mp hm with hm|hm
  ·rcases List.mem_append.mp hm with hm|hm
   ·exact h p (List.mem_cons_self ..) hm
   ·exact hz hm
  ·exact ih hm
theorem zjH {t:Tg}(ht:TgW t):10∉(lineS t).cps.toList:=by
 unfold lineS
 rw[zbg]
 refine zdI (by decide +kernel) fun p hp=>?_
 obtain ⟨q,hq,rfl⟩:=List.mem_map.mp hp
 exact zga (.inr rfl) ht q hq
theorem zdJ {b:Bk}(hb:b≠[]) (ht:∀t∈b,TgW t):Txt.split (bookS b) (Str.ofString "\n")=b.map lineS:=by
 unfold bookS
 rw[ofs5]
 refine zdr 10 (fun z=>hb (List.map_eq_nil_iff.mp z)) fun p hp=>?_
 obtain ⟨t,h,rfl⟩:=List.mem_map.mp hp
 exact zjH (ht t h)
theorem zdK {b:Bk}(hb:b≠[]) (ht:∀t∈b,TgW t):zaI (bookS b)=b.map lineW:=by
 unfold zaI
 rw[zdJ hb ht,List.map_map]
 exact List.map_congr_left fun t h=>zdH (ht t h)
theorem flat3:∀(ds:List Dr) (i:Nat),i<ds.length→(ds.flatMap doorW)[3*i]?=some (encS (ds.getD i (⟨#[]⟩,0,⟨#[]⟩)).1)∧(ds.flatMap doorW)[3*i+1]?=some (numS (ds.getD i (⟨#[]⟩,0,⟨#[]⟩)).2.1)∧(ds.flatMap doorW)[3*i+2]?=some (encS (ds.getD i (⟨#[]⟩,0,⟨#[]⟩)).2.2)
 |d::r,0,_=>⟨rfl,rfl,rfl⟩
 |d::r,i+1,h=>by
  have ih:=flat3 r i (by simpa using h)
  have e:∀k,((d::r).flatMap doorW)[3*(i+1)+k]?=(r.flatMap doorW)[3*i+k]?:=fun k=>by
   show ((encS d.1::numS d.2.1::encS d.2.2::r.flatMap doorW))[3*(i+1)+k]?=_
   rw[show 3*(i+1)+k=(3*i+k)+1+1+1 by omega,List.getElem?_cons_succ,List.getElem?_cons_succ,List.getElem?_cons_succ]
  have e0:=e 0
  simp only[Nat.add_zero] at e0
  rw[e0,e 1,e 2]
  exact ih
theorem zhO (ds:List Dr):(ds.flatMap doorW).length=3*ds.length:=by
 induction ds with
 |nil=>rfl
 |cons d r ih=>
  show (doorW d++r.flatMap doorW).length=_
  rw[List.length_append,ih,List.length_cons]
  show 3+_=_
  omega
theorem zb2 (t:Tg):(lineW t).length=2+3*t.2.length:=by
 unfold lineW
 rw[List.length_append,zhO]
 rfl
theorem zeo (t:Tg) (j:Nat):(lineW t)[2+j]?=(t.2.flatMap doorW)[j]?:=by
 show ((Str.ofString "escape"::escW t.1::t.2.flatMap doorW))[2+j]?=_
 rw[show 2+j=j+1+1 by omega,List.getElem?_cons_succ,List.getElem?_cons_succ]
theorem zhP {ws:List Str}{i:Nat}{w:Str}(h:ws[i]?=some w):wAt ws i=w:=by
 unfold wAt
 rw[List.getD_eq_getElem?_getD,h]
 rfl
theorem zfA (t:Tg){i:Nat}(h:i<t.2.length):wAt (lineW t) (2+3*i)=encS (t.2.getD i (⟨#[]⟩,0,⟨#[]⟩)).1∧wAt (lineW t) (2+3*i+1)=numS (t.2.getD i (⟨#[]⟩,0,⟨#[]⟩)).2.1∧wAt (lineW t) (2+3*i+2)=encS (t.2.getD i (⟨#[]⟩,0,⟨#[]⟩)).2.2:=by
 obtain ⟨a,b,c⟩:=flat3 t.2 i h
 refine ⟨zhP ?_,zhP ?_,zhP ?_⟩
 ·rw[zeo];exact a
 ·rw[show 2+3*i+1=2+(3*i+1) by omega,zeo];exact b
 ·rw[show 2+3*i+2=2+(3*i+2) by omega,zeo];exact c
theorem ziu:∀n∈([0,1,2,3,4,5,6]:List Int),rdN (numS n)=some n∧lnum (numS n)=some n:=by decide +kernel
theorem zeZ {n:Int}(h0:0≤n) (h7:n<7):rdN (numS n)=some n∧lnum (numS n)=some n:=ziu n (by
 simp only[List.mem_cons,List.not_mem_nil,or_false]
 omega)
theorem zbE {x:Str}(h:x.length=0):x=Str.ofString "":=zbz (by
 have:x.cps.toList=[]:=List.eq_nil_of_length_eq_zero (by rw[zaW];exact h)
 rw[this]
 decide +kernel)
theorem zep {x:Str}(h:(encS x).length=0):x.length=0:=by
 rw[←zaW,zbD] at h
 rw[←zaW]
 cases hl:x.cps.toList with
 |nil=>rfl
 |cons k r=>
  rw[hl] at h
  have:1≤(escC k).length:=by unfold escC;split<;>(try split)<;>(try split)<;>simp
  rw[zaY,List.length_append] at h
  omega
theorem ziV (ds:List Dr) (f:Nat→D) (n:Nat) (hn:n=ds.length) (h:∀i,i<ds.length→f i=drD (ds.getD i (⟨#[]⟩,0,⟨#[]⟩))):(List.range n).map f=ds.map drD:=by
 subst hn
 rw[←range_map (⟨#[]⟩,0,⟨#[]⟩) drD ds]
 exact List.map_congr_left fun i hi=>h i (List.mem_range.mp hi)
theorem zjI (t:Tg):wAt (lineW t) 0=Str.ofString "escape":=rfl
theorem zfB (t:Tg):wAt (lineW t) 1=escW t.1:=rfl
theorem zcX {e:Str}(h:e.length≤1) (h0:(encS e).length≠0):escW e≠Str.ofString "none":=by
 unfold escW
 rw[if_neg h0]
 intro z
 have:=zcF e
 have l:(encS e).length=4:=by rw[z];decide +kernel
 omega
theorem zkO {e:Str}(h:e.length≤1):escP (escW e)=e:=by
 by_cases h0:(encS e).length=0
 ·have e1:escW e=Str.ofString "none":=by unfold escW;rw[if_pos h0]
  unfold escP
  rw[if_pos e1]
  exact (zbE (zep h0)).symm
 ·have h1:=zcX h h0
  unfold escP
  rw[if_neg h1]
  unfold escW
  rw[if_neg h0]
  exact zfu e
theorem zkP {e:Str}(h:e.length≤1):escL (escW e)=some e:=by
 by_cases h0:(encS e).length=0
 ·have e1:escW e=Str.ofString "none":=by unfold escW;rw[if_pos h0]
  unfold escL
  rw[if_pos e1]
  rw[←zbE (zep h0)]
 ·have h1:=zcX h h0
  unfold escL
  rw[if_neg h1]
  unfold escW
  rw[if_neg h0]
  exact zc6 e
theorem ziv {t:Tg}(ht:TgW t):zcW (lineW t)=tgD t:=by
 unfold zcW
 rw[zb2,if_neg (by omega),zfB,zkO ht.1]
 unfold tgD
 rw[ziV t.2 _ _ (by omega) fun i hi=>?_]
 obtain ⟨a,b,c⟩:=zfA t hi
 have hd:=ht.2.2 _ (show t.2.getD i (⟨#[]⟩,0,⟨#[]⟩)∈t.2 by rw[List.getD_eq_getElem?_getD,List.getElem?_eq_getElem hi];exact List.getElem_mem hi)
 unfold doorP
 rw[a,b,c,zfu,zfu,(zeZ hd.2.1.1 hd.2.1.2).1]
 rfl
theorem zjJ {t:Tg}(ht:TgW t):lineD (lineW t)=tgD t:=by
 unfold lineD
 rw[zb2,zfB,zkP ht.1]
 unfold tgD
 rw[ziV t.2 _ _ (by omega) fun i hi=>?_]
 ·rfl
 obtain ⟨a,b,c⟩:=zfA t hi
 have hd:=ht.2.2 _ (show t.2.getD i (⟨#[]⟩,0,⟨#[]⟩)∈t.2 by rw[List.getD_eq_getElem?_getD,List.getElem?_eq_getElem hi];exact List.getElem_mem hi)
 unfold doorL
 rw[a,b,c,zc6,zc6,(zeZ hd.2.1.1 hd.2.1.2).2]
 rfl
theorem zjK {t:Tg}(ht:TgW t):lineG (lineW t)=true:=by
 unfold lineG
 rw[zb2,zjI,zfB,decide_eq_true (by omega),decide_eq_true rfl,Bool.true_and,Bool.true_and,Bool.or_eq_true]
 by_cases h0:(encS t.1).length=0
 ·refine .inl (decide_eq_true ?_)
  unfold escW
  rw[if_pos h0]
 ·refine .inr ?_
  have e1:escW t.1=encS t.1:=by unfold escW;rw[if_neg h0]
  rw[e1,zc6,Bool.not_eq_true',decide_eq_false_iff_not]
  intro z
  have z':t.1=Str.ofString "":=Option.some.inj z
  refine h0 ?_
  rw[z']
  decide +kernel
theorem ziW:∀(l:List Nat) (acc:Nat),acc*10 ^ l.length≤l.foldl (fun acc c=>acc*10+(c-48)) acc
 |[],acc=>by simp
 |c::r,acc=>by
  have ih:=ziW r (acc*10+(c-48))
  show _≤r.foldl _ (acc*10+(c-48))
  refine Nat.le_trans ?_ ih
  rw[List.length_cons,Nat.pow_succ,Nat.mul_comm (10 ^ r.length) 10,←Nat.mul_assoc]
  exact Nat.mul_le_mul_right _ (by omega)
theorem zjL:∀c∈([48,49,50,51,52,53,54]:List Nat),(⟨#[c]⟩:Str)=numS ((c-48:Nat):Int):=by decide +kernel
theorem ziw {w:Str}{n:Int}(h:lnum w=some n) (h0:0≤n) (h7:n<7):w=numS n:=by
 unfold lnum at h
 split at h
 ·cases h
 rename_i hc
 have hv:valN w=n:=Option.some.inj h
 simp only[Bool.or_eq_true,Bool.and_eq_true,decide_eq_true_eq,Bool.not_eq_true',not_or,not_and,Bool.not_eq_false] at hc
 obtain ⟨⟨⟨hl0,hl9⟩,hf⟩,hz⟩:=hc
 have hd:=zc3 hf
 have hv':PySem.NumText.digitsVal w.cps.toList=n.toNat:=by
  have:((PySem.NumText.digitsVal w.cps.toList:Nat):Int)=n:=hv
  omega
 cases hw:w.cps.toList with
 |nil=>rw[←zaW,hw] at hl0;exact absurd rfl hl0
 |cons c r=>
  rw[hw] at hv' hd hz
  have hcd:=hd c (List.mem_cons_self ..)
  cases r with
  |nil=>
   have e:0*10+(c-48)=n.toNat:=hv'
   have hm:c∈([48,49,50,51,52,53,54]:List Nat):=by
    simp only[List.mem_cons,List.not_mem_nil,or_false]
    omega
   have:=zjL c hm
   have en:((c-48:Nat):Int)=n:=by omega
   rw[en] at this
   rw[←this]
   exact zbz (by rw[hw])
  |cons c2 r2=>
   exfalso
   have hne:c≠48:=fun z=>by
    have hz':=hz (by rw[z];rfl)
    have:w=Str.ofString "0":=Classical.not_not.mp hz'
    have l:w.length=1:=by rw[this];decide +kernel
    rw[←zaW,hw] at l
    simp at l
   have g:=ziW (c2::r2) (0*10+(c-48))
   have e:(c2::r2).foldl (fun acc c=>acc*10+(c-48)) (0*10+(c-48))=n.toNat:=hv'
   rw[e] at g
   have h10:10≤10 ^ (c2::r2).length:=by
    rw[List.length_cons,Nat.pow_succ]
    have:10 ^ 0≤10 ^ r2.length:=Nat.pow_le_pow_right (by decide) (Nat.zero_le _)
    rw[Nat.pow_zero] at this
    omega
   have:1*10≤(0*10+(c-48))*10 ^ (c2::r2).length:=Nat.mul_le_mul (by omega) h10
   omega
theorem zhQ {ws:List Str}{t:Tg}{n:Int}(hn:n≤6) (hg:lineG ws=true) (h:lineD ws=tgD t) (ok:TgOk n t):ws=lineW t:=by
 have ht:=ok.wq hn
 unfold lineG at hg
 simp only[Bool.and_eq_true,decide_eq_true_eq] at hg
 obtain ⟨⟨g1,g2⟩,g3⟩:=hg
 unfold lineD tgD at h
 injection h with h
 injection h with h1 h
 injection h with h2 _
 injection h2 with h2
 have hlen:(ws.length-2) / 3=t.2.length:=by
  have:=congrArg List.length h2
  simpa using this
 have hwl:ws.length=2+3*t.2.length:=by omega
 have dr:∀i,i<t.2.length→doorL ws (2+3*i)=drD (t.2.getD i (⟨#[]⟩,0,⟨#[]⟩)):=fun i hi=>by
  have e:=congrArg (fun l=>l[i]?) h2
  simp only[List.getElem?_map,List.getElem?_range (show i<(ws.length-2) / 3 by omega),List.getElem?_eq_getElem hi,Option.map_some] at e
  rw[List.getD_eq_getElem?_getD,List.getElem?_eq_getElem hi]
  exact Option.some.inj e
 refine List.ext_getElem? fun j=>?_
 have at_:∀j,j<ws.length→ws[j]?=some (wAt ws j):=fun j hj=>by
  unfold wAt
  rw[List.getD_eq_getElem?_getD,List.getElem?_eq_getElem hj]
  rfl
 by_cases hj:j<ws.length
 ·rw[at_ j hj]
  by_cases j0:j=0
  ·subst j0
   rw[g2];rfl
  by_cases j1:j=1
  ·subst j1
   show some (wAt ws 1)=some (escW t.1)
   congr 1
   by_cases hnn:wAt ws 1=Str.ofString "none"
   ·have e1:strO (escL (wAt ws 1))=.str (Str.ofString ""):=by unfold escL;rw[if_pos hnn];rfl
    rw[e1] at h1
    injection h1 with h1
    rw[hnn,←h1]
    decide +kernel
   ·have e1:escL (wAt ws 1)=lrdS (wAt ws 1):=by unfold escL;rw[if_neg hnn]
    rw[e1] at h1
    cases hl:lrdS (wAt ws 1) with
    |none=>rw[hl] at h1;cases h1
    |some y=>
     rw[hl] at h1
     have h1':D.str y=D.str t.1:=h1
     injection h1' with h1'
     subst h1'
     have ew:=zen hl
     have hne:t.1≠Str.ofString "":=fun z=>by
      rw[hl,z] at g3
      simp[hnn] at g3
     have h0:(encS t.1).length≠0:=fun z=>hne (zbE (zep z))
     rw[ew]
     unfold escW
     rw[if_neg h0]
  obtain ⟨i,k,hk,rfl⟩:∃i k,k<3∧j=2+3*i+k:=⟨(j-2) / 3,(j-2) % 3,by omega,by omega⟩
  have hi:i<t.2.length:=by omega
  have hd:=dr i hi
  have hdk:=ok.2.2 _ (show t.2.getD i (⟨#[]⟩,0,⟨#[]⟩)∈t.2 by rw[List.getD_eq_getElem?_getD,List.getElem?_eq_getElem hi];exact List.getElem_mem hi)
  obtain ⟨a,b,c⟩:=zfA t hi
  have lw:∀j,j<ws.length→(lineW t)[j]?=some (wAt (lineW t) j):=fun j hj=>by
   unfold wAt
   rw[List.getD_eq_getElem?_getD,List.getElem?_eq_getElem (by rw[zb2];omega)]
   rfl
  rw[lw _ hj]
  generalize t.2.getD i (⟨#[]⟩,0,⟨#[]⟩)=d at hd hdk a b c
  unfold doorL drD at hd
  injection hd with hd
  injection hd with d1 hd
  injection hd with d2 hd
  injection hd with d3 _
  have str_of:∀ {w y:Str},strO (lrdS w)=.str y→w=encS y:=fun {w y} h=>by
   cases hl:lrdS w with
   |none=>rw[hl] at h;cases h
   |some u=>
    rw[hl] at h
    injection h with h
    rw[←h]
    exact zen hl
  congr 1
  rcases (by omega:k=0∨k=1∨k=2) with rfl|rfl|rfl
  ·rw[Nat.add_zero,a]
   exact str_of d1
  ·rw[b]
   cases hl:lnum (wAt ws (2+3*i+1)) with
   |none=>rw[hl] at d2;cases d2
   |some m=>
    rw[hl] at d2
    have d2':D.int m=D.int d.2.1:=d2
    injection d2' with d2'
    rw[←d2']
    have:=hdk.2.1
    exact ziw hl (by omega) (by omega)
  ·rw[c]
   exact str_of d3
 ·rw[List.getElem?_eq_none (by omega),List.getElem?_eq_none (by rw[zb2];omega)]
theorem zjM {b:Bk}(h:bookD (bkD b)=true):BkOk b:=by
 obtain ⟨b',e,ok⟩:=zjG h
 rw[zem e]
 exact ok
theorem BkOk.ne {b:Bk}(h:BkOk b):b≠[]:=fun z=>by
 have:=h.1
 rw[z] at this
 exact absurd this (by decide)
theorem BkOk.wq {b:Bk}(h:BkOk b):∀t∈b,TgW t:=fun t ht=>(h.2.2.1 t ht).wq (by have:=h.2.1;omega)
theorem zjN {n:Int}{d:Dr}(h:DrOk n d):doorD (drD d) n=true:=by
 obtain ⟨h1,⟨h2,h3⟩,h4⟩:=h
 show (markS d.1&&(decide (0≤d.2.1)&&decide (d.2.1<n))&&markS d.2.2)=true
 rw[h1,h4,decide_eq_true h2,decide_eq_true h3]
 rfl
theorem zhR {n:Int}{t:Tg}(h:TgOk n t):zaN (tgD t) n=true:=by
 obtain ⟨h1,h2,h3⟩:=h
 show (escD (.str t.1)&&decide ((t.2.map drD).length≤6)&&(t.2.map drD).all fun x=>doorD x n)=true
 rw[h1,decide_eq_true (by simpa using h2)]
 simp only[Bool.true_and,List.all_map,List.all_eq_true]
 exact fun d hd=>zjN (h3 d hd)
theorem zgb:∀ds:List Dr,(ds.map drD).map drOf=ds
 |[]=>rfl
 |d::r=>by rw[List.map_cons,List.map_cons,zgb r];rfl
theorem zgc:∀b:Bk,(b.map tgD).map tgOf=b
 |[]=>rfl
 |t::r=>by
  rw[List.map_cons,List.map_cons,zgc r]
  show (t.1,(t.2.map drD).map drOf)::r=_
  rw[zgb]
theorem zjO {b:Bk}(h:BkOk b):bookD (bkD b)=true:=by
 obtain ⟨h1,h2,h3,h4⟩:=h
 show (decide (1≤(b.map tgD).length)&&decide ((b.map tgD).length≤6)&&((b.map tgD).all fun x=>zaN x (b.map tgD).length)&&bookB ((b.map tgD).map tgOf))=true
 rw[zgc,h4,decide_eq_true (by simpa using h1),decide_eq_true (by simpa using h2)]
 simp only[Bool.true_and,Bool.and_true,List.all_map,List.all_eq_true,List.length_map]
 exact fun t ht=>zhR (h3 t ht)
theorem zcY {b:Bk}(h:BkOk b) (hb:bookD (bkD b)=true):GoodB (bookS b) b:=by
 refine ⟨?_,hb,rfl⟩
 unfold readB
 rw[zdJ h.ne h.wq,List.map_map]
 unfold bkD
 congr 1
 refine List.map_congr_left fun t ht=>?_
 show zcW (Txt.split (lineS t) (Str.ofString " "))=_
 rw[zdH (h.wq t ht)]
 exact ziv (h.wq t ht)
theorem zkQ {x:Str}{b:Bk}(h:GoodB x b):dueD x=some (bkD b):=by
 obtain ⟨_,hb,rfl⟩:=h
 have ok:=zjM hb
 have e1:(zaI (bookS b)).map lineD=b.map tgD:=by
  rw[zdK ok.ne ok.wq,List.map_map]
  exact List.map_congr_left fun t ht=>zjJ (ok.wq t ht)
 have e2:(zaI (bookS b)).all lineG=true:=by
  rw[zdK ok.ne ok.wq,List.all_map,List.all_eq_true]
  exact fun t ht=>zjK (ok.wq t ht)
 unfold dueD
 rw[e1,e2]
 have:bookD (.tup (b.map tgD))=true:=hb
 rw[this]
 rfl
theorem zjP {x:Str}{d:D}(h:dueD x=some d):∃b,d=bkD b∧GoodB x b:=by
 unfold dueD at h
 split at h
 ·rename_i hc
  have ed:=Option.some.inj h
  rw[Bool.and_eq_true] at hc
  obtain ⟨h1,h2⟩:=hc
  obtain ⟨b,eb,ok⟩:=zjG h2
  refine ⟨b,ed.symm.trans eb,?_⟩
  have hb:bookD (bkD b)=true:=by rw[←eb];exact h2
  have el:zaI x=b.map lineW:=by
   unfold bkD at eb
   injection eb with eb
   have len:(zaI x).length=b.length:=by
    have:=congrArg List.length eb
    simpa using this
   refine List.ext_getElem (by simpa using len) fun i i1 i2=>?_
   have i3:i<b.length:=by simpa using i2
   rw[List.getElem_map]
   have e:=congrArg (fun l=>l[i]?) eb
   simp only[List.getElem?_map,List.getElem?_eq_getElem i1,List.getElem?_eq_getElem i3,Option.map_some] at e
   exact zhQ (n:=b.length) (by have:=ok.2.1;omega) (List.all_eq_true.mp h1 _ (List.getElem_mem i1)) (Option.some.inj e) (ok.2.2.1 _ (List.getElem_mem i3))
  have ex:bookS b=x:=by
   have e1:(Txt.split x (Str.ofString "\n"))=b.map lineS:=by
    unfold zaI at el
    refine List.ext_getElem ?_ fun i i1 i2=>?_
    ·have:=congrArg List.length el
     simpa using this
    ·have i3:i<b.length:=by simpa using i2
     have e:=congrArg (fun l=>l[i]?) el
     simp only[List.getElem?_map,List.getElem?_eq_getElem i1,List.getElem?_eq_getElem i3,Option.map_some] at e
     have e':=Option.some.inj e
     rw[List.getElem_map]
     unfold lineS
     rw[←e',StrLaws.join_split]
   unfold bookS
   rw[←e1,StrLaws.join_split]
  rw[←ex]
  exact zcY ok hb
 ·cases h
end T1
namespace L2
open PySem PySem.Spec PyProof.Rows
theorem zhS {ea:Addr}{ecl:Value}{lo:Int}{n:Nat}{H0:Hp}{p:Addr}(h:H0 ea=some (exH ea ecl)) (hp:ea≠p):ItOk (ItrU ea ecl lo n) n (fun i=>.int (lo+i)) H0 p where
 go:=fun i H h _=>h
 stop:=fun H k=>⟨Nat.le_refl _,k ea _ hp h⟩
 yld:=fun i H x H' _ _ q=>q
theorem zb3 {X:Cx}{a:Expr}{ta:TE}{T:Str}{D:Addr}{p1 p2 pos:Pos}(hm:X.mg "isinstance"=none) (hm2:X.mg T=some (.ref D)) (ha:PE X a ta) (hg:Gl X "isinstance":=by rfl) (hg2:Gl X T:=by rfl)
  (hs:starEach [a,.Name T p2] X.env=(false,eval a X.env)::starEach [.Name T p2] X.env:=by rfl) (hpl:(backTo pos (starEach [.Name T p2] X.env)).any (·.1)=false:=by rfl) (hd:(T==("__debug__":Str))=false:=by decide) :
  PE X (.Call (.Name "isinstance" p1) [a,.Name T p2] [] pos) (tCB (rIsX X.K) (tCons ta (tCons (tC (.ref D)) tNil))):=
 zap (p:=p1) (pos:=pos) (X:=X) zfS hg hm T1.b_isinst (zaa ha (zaa (zcc (v:=.ref D) (pos:=p2) hg2 hm2 rfl hd) zab) hs) (by decide) (by decide) hs hpl
theorem zjQ {X:Cx}{a:Expr}{ta:TE}{T:Str}{n:String}{p1 p2 pos:Pos}(hm:X.mg "isinstance"=none) (hm2:X.mg T=none) (hb:bootBuiltins T=some (.type n)) (ha:PE X a ta) (hg:Gl X "isinstance":=by rfl) (hg2:Gl X T:=by rfl)
  (hs:starEach [a,.Name T p2] X.env=(false,eval a X.env)::starEach [.Name T p2] X.env:=by rfl) (hpl:(backTo pos (starEach [.Name T p2] X.env)).any (·.1)=false:=by rfl) (hn:T≠"__name__":=by decide) (hd:(T==("__debug__":Str))=false:=by decide) :
  PE X (.Call (.Name "isinstance" p1) [a,.Name T p2] [] pos) (tCB (rIsX X.K) (tCons ta (tCons (tC (.ty n)) tNil))):=
 zap (p:=p1) (pos:=pos) (X:=X) zfS hg hm T1.b_isinst (zaa ha (zaa (zgC (v:=.ty n) (pos:=p2) hg2 hm2 hb rfl hn hd) zab) hs) (by decide) (by decide) hs hpl
end L2
namespace T1
open PySem L2
variable {P:Program}{w:World}{K:W.Frag}{mg:Str→Option Value}{base:Heap}
structure TxtE (mg:Str→Option Value) (c1 c2 c3 c4 c5 c6 c7 c8:Addr):Prop where
 e1:mg "NoDoor"=some (.ref c1)
 e2:mg "NoPlace"=some (.ref c2)
 e3:mg "NoRow"=some (.ref c3)
 e4:mg "NoText"=some (.ref c4)
 e5:mg "NoTongue"=some (.ref c5)
 e6:mg "NoWay"=some (.ref c6)
 e7:mg "Nothing"=some (.ref c7)
 e8:mg "TooMany"=some (.ref c8)
 ve:mg "ValueError"=none
abbrev kWords:List Str:=["NoDoor","NoPlace","NoRow","NoText","NoTongue","NoWay","Nothing","TooMany","+"]
def kList (bs:List Bool) (n:Nat):List Str:=(List.range n).filterMap fun i=>if bs.getD i false=true then some (kWords.getD i "") else none
def zfC (bs:List Bool):Str:=PySem.Builtin.Str.glued (Str.ofString "") (kList bs 9)
theorem zdL (bs:List Bool):∀n,flatN (fun i=>(if bs.getD i false=true then some (V.str (kWords.getD i "")) else none).toList) n=(kList bs n).map V.str
 |0=>rfl
 |n+1=>by
  show flatN _ n++_=_
  rw[zdL bs n]
  unfold kList
  rw[List.range_succ,List.filterMap_append,List.map_append]
  congr 1
  by_cases h:bs.getD n false=true
  ·show (if bs.getD n false=true then some (V.str (kWords.getD n "")) else none).toList=_
   rw[if_pos h,List.filterMap_cons,if_pos h]
   rfl
  ·show (if bs.getD n false=true then some (V.str (kWords.getD n "")) else none).toList=_
   rw[if_neg h,List.filterMap_cons,if_neg h]
   rfl
theorem zhT (bs:List Bool) (n:Nat):(kList bs n).length≤n:=by
 have:=List.length_filterMap_le (fun i=>if bs.getD i false=true then some (kWords.getD i "") else none) (List.range n)
 rw[List.length_range] at this
 exact this
theorem zfD {bs:List Bool}{n:Nat}{y:Str}(h:y∈kList bs n):y.length≤100:=by
 obtain ⟨i,_,hi⟩:=List.mem_filterMap.mp h
 have all:∀j,(kWords.getD j "").length≤100:=by
  intro j
  rcases j with _|_|_|_|_|_|_|_|_|j
  all_goals first|decide +kernel|exact (by decide +kernel:(Str.ofString "").length≤100)
 split at hi
 ·cases hi
  exact all i
 ·cases hi
inductive zds (K:W.Frag) (c1 c2 c3 c4 c5 c6 c7 c8:Addr):Addr→List V→Hp→VK→XK→Prop where
 |mk {ea:Addr} {vs:List V} {H:Hp} {Q:VK} {E:XK} (C:Addr) (b1 b2 b3 b4 b5 b6 b7 b8 b9:Bool) (h1:vs=[.ref ea]) (h2:H ea=some (exH ea (.ref C))) (h3:ExCls K C)
  (k1:W.kitOne K (.ref C) (.ref c1)=some b1) (k2:W.kitOne K (.ref C) (.ref c2)=some b2) (k3:W.kitOne K (.ref C) (.ref c3)=some b3) (k4:W.kitOne K (.ref C) (.ref c4)=some b4)
  (k5:W.kitOne K (.ref C) (.ref c5)=some b5) (k6:W.kitOne K (.ref C) (.ref c6)=some b6) (k7:W.kitOne K (.ref C) (.ref c7)=some b7) (k8:W.kitOne K (.ref C) (.ref c8)=some b8)
  (k9:W.kitOne K (.ref C) (.type "ValueError")=some b9) (q:∀H',Same H H'→Q (.str (zfC [b1,b2,b3,b4,b5,b6,b7,b8,b9])) H'):zds K c1 c2 c3 c4 c5 c6 c7 c8 ea vs H Q E
theorem b_ve:bootBuiltins "ValueError"=some (.type "ValueError"):=by decide +kernel
theorem scKinds:zar ["e","some","words"] ["e"] (zag zfY):=⟨rfl,rfl,rfl,by decide +kernel,rfl,by decide +kernel,by decide +kernel⟩
theorem ndKWS:(["k","words","some"]:List Str).Nodup:=by decide +kernel
theorem zix {f c1 c2 c3 c4 c5 c6 c7 c8:Addr}{fd:FuncData}(F:Fun K "_law_kinds" "_law_kinds" zfY f fd) (T:TxtB mg) (TE:TxtE mg c1 c2 c3 c4 c5 c6 c7 c8):FnOkU P w K mg base 1 f fd ["e"] (zds K c1 c2 c3 c4 c5 c6 c7 c8):=by
 refine F.okU scKinds (fun ea vs H Q E h=>?_) (fun cdv A outer s H vs Q E ea hr hh h=>?_)
 ·obtain ⟨C,b1,b2,b3,b4,b5,b6,b7,b8,b9,rfl,_⟩:=h
  rfl
 ·obtain ⟨C,b1,b2,b3,b4,b5,b6,b7,b8,b9,rfl,hea,hx,k1,k2,k3,k4,k5,k6,k7,k8,k9,q⟩:=h
  have nd:=scKinds.nd
  refine ⟨_,zad (zas (i:=1) nd rfl (Or.inr rfl) (zay (zaa (zb3 T.isinst TE.e1 (pv 0)) (zaa (zb3 T.isinst TE.e2 (pv 0)) (zaa (zb3 T.isinst TE.e3 (pv 0)) (zaa (zb3 T.isinst TE.e4 (pv 0)) zab))))))
   (zad (zas (i:=1) nd rfl (Or.inr rfl) (zaw zca (pv 1) (zay (zaa (zb3 T.isinst TE.e5 (pv 0)) (zaa (zb3 T.isinst TE.e6 (pv 0)) (zaa (zb3 T.isinst TE.e7 (pv 0)) (zaa (zb3 T.isinst TE.e8 (pv 0)) zab)))))))
   (zad (zbP (zbi PySem.F.plainAttrs_list PySem.F.slot_list_append PySem.F.type_list_append zbd (pv 1) (zaa (zjQ T.isinst TE.ve b_ve (pv 0)) zab)))
   (zad (zas (i:=2) nd rfl (Or.inr rfl) (zay (zaa zai (zaa zai (zaa zai (zaa zai (zaa zai (zaa zai (zaa zai (zaa zai (zaa zai zab)))))))))))
   (zaf (zam (zbi PySem.F.plainAttrs_str PySem.F.slot_str_join PySem.F.type_str_join zjg zai (zaa
    (zhe (ea:=ea) (ecl:=.ref C) (N':=["k","words","some"]) (js:=[none,some 2,some 1]) rfl hh (za3 (zag zfY) (by decide +kernel)) ⟨rfl,Or.inr (Or.inl rfl),rfl,rfl,Or.inr (Or.inl rfl),rfl,trivial⟩ (zgq rfl T.range (zaa zah zab))
     (fun cl s H fp=>zal (i:=0) ndKWS rfl (Or.inl rfl)) (fun cl s H fp=>zdh (zbb (zaC zd3 (pv 2) (pv 0) (fun _ _=>rfl)))) (fun cl s H fp=>zaC zd3 (pv 1) (pv 0) (fun _ _=>rfl))) zab))))))),?_⟩
  dsimp only[cxOfU,cxOf]
  have big:(1000:Nat)≤sizeLine:=by rw[sizeLine_eq];decide
  refine zaj fun U hU=>?_
  refine ⟨_,rfl,ea,C,V.ref c1,_,Value.ref c1,rfl,rfl,(fun _ z=>z),hea,hx,k1,_,rfl,ea,C,V.ref c2,_,Value.ref c2,rfl,rfl,(fun _ z=>z),hea,hx,k2,_,rfl,ea,C,V.ref c3,_,Value.ref c3,rfl,rfl,(fun _ z=>z),hea,hx,k3,_,rfl,ea,C,V.ref c4,_,Value.ref c4,rfl,rfl,(fun _ z=>z),hea,hx,k4,by simp only[List.length_cons,List.length_nil];omega,fun p np=>hU _ _ (zaj fun U hU=>?_)⟩
  have s1:Same H (upd H p (.lst [.bl b1,.bl b2,.bl b3,.bl b4])):=Same.new np
  have hp1:upd H p (.lst [.bl b1,.bl b2,.bl b3,.bl b4]) p=some (.lst [.bl b1,.bl b2,.bl b3,.bl b4]):=zac
  have he1:=s1 _ _ hea
  generalize upd H p (.lst [.bl b1,.bl b2,.bl b3,.bl b4])=H1 at *
  refine ⟨_,rfl,_,rfl,ea,C,V.ref c5,_,Value.ref c5,rfl,rfl,(fun _ z=>z),he1,hx,k5,_,rfl,ea,C,V.ref c6,_,Value.ref c6,rfl,rfl,(fun _ z=>z),he1,hx,k6,_,rfl,ea,C,V.ref c7,_,Value.ref c7,rfl,rfl,(fun _ z=>z),he1,hx,k7,_,rfl,ea,C,V.ref c8,_,Value.ref c8,rfl,rfl,(fun _ z=>z),he1,hx,k8,by simp only[List.length_cons,List.length_nil];omega,fun p2 np2=>?_⟩
  have s2:Same H1 (upd H1 p2 (.lst [.bl b5,.bl b6,.bl b7,.bl b8])):=Same.new np2
  have hp12:=s2 _ _ hp1
  have hp22:upd H1 p2 (.lst [.bl b5,.bl b6,.bl b7,.bl b8]) p2=some (.lst [.bl b5,.bl b6,.bl b7,.bl b8]):=zac
  have he2:=s2 _ _ he1
  have t2:=s1.trans s2
  generalize upd H1 p2 (.lst [.bl b5,.bl b6,.bl b7,.bl b8])=H2 at *
  refine ⟨p,p2,_,_,rfl,rfl,hp12,hp22,by simp only[List.length_cons,List.length_nil];omega,fun p3 np3=>hU _ _ (zaj fun U hU=>?_)⟩
  have s3:Same H2 (upd H2 p3 (.lst ([.bl b1,.bl b2,.bl b3,.bl b4]++[.bl b5,.bl b6,.bl b7,.bl b8]))):=Same.new np3
  have hp3:upd H2 p3 (.lst ([.bl b1,.bl b2,.bl b3,.bl b4]++[.bl b5,.bl b6,.bl b7,.bl b8])) p3=some (.lst ([.bl b1,.bl b2,.bl b3,.bl b4]++[.bl b5,.bl b6,.bl b7,.bl b8])):=zac
  have he3:=s3 _ _ he2
  have t3:=t2.trans s3
  have n3:H p3=none:=by
   cases c:H p3 with
   |none=>rfl
   |some o=>rw[t2 _ _ c] at np3;cases np3
  generalize upd H2 p3 (.lst ([.bl b1,.bl b2,.bl b3,.bl b4]++[.bl b5,.bl b6,.bl b7,.bl b8]))=H3 at *
  refine ⟨_,rfl,.inl ⟨rfl,_,SqL.of hp3⟩,_,rfl,ea,C,V.ty "ValueError",_,Value.type "ValueError",rfl,rfl,(fun _ z=>z),he3,hx,k9,p3,_,_,rfl,rfl,hp3,by simp only[List.length_cons,List.length_nil,List.length_append];omega,hU _ _ (zaj fun U hU=>?_)⟩
  have t4:Same H (upd H3 p3 (.lst ([.bl b1,.bl b2,.bl b3,.bl b4]++[.bl b5,.bl b6,.bl b7,.bl b8]++[.bl b9]))):=SameX.of_new n3 (SameX.upd t3.x)
  have hp4:upd H3 p3 (.lst ([.bl b1,.bl b2,.bl b3,.bl b4]++[.bl b5,.bl b6,.bl b7,.bl b8]++[.bl b9])) p3=some (.lst ([.bl b1,.bl b2,.bl b3,.bl b4]++[.bl b5,.bl b6,.bl b7,.bl b8]++[.bl b9])):=zac
  have he4:=t4 _ _ hea
  generalize upd H3 p3 (.lst ([.bl b1,.bl b2,.bl b3,.bl b4]++[.bl b5,.bl b6,.bl b7,.bl b8]++[.bl b9]))=H4 at *
  refine ⟨by simp only[List.length_cons,List.length_nil];omega,fun p4 np4=>hU _ _ ?_⟩
  have s5:Same H4 (upd H4 p4 (.lst (kWords.map V.str))):=Same.new np4
  have t5:=t4.trans s5
  have he5:=s5 _ _ he4
  have hp35:=s5 _ _ hp4
  have hp45:upd H4 p4 (.lst (kWords.map V.str)) p4=some (.lst (kWords.map V.str)):=zac
  have hg:upd H4 p4 (.lst (kWords.map V.str))=upd H4 p4 (.lst [.str "NoDoor",.str "NoPlace",.str "NoRow",.str "NoText",.str "NoTongue",.str "NoWay",.str "Nothing",.str "TooMany",.str "+"]):=rfl
  rw[←hg]
  clear hg
  generalize upd H4 p4 (.lst (kWords.map V.str))=H5 at *
  refine ⟨rfl,9,rfl,by decide,by decide,fun pD npD=>?_⟩
  have hne:ea≠pD:=zae he5 npD
  refine zbF (fun i=>if ([b1,b2,b3,b4,b5,b6,b7,b8,b9]:List Bool).getD i false=true then some (V.str (kWords.getD i "")) else none) (fun σ=>∃u,σ=[u,some (.ref p4),some (.ref p3)]) ⟨none,rfl⟩ npD (by decide) (zhS (by rw[zat hne];exact he5) hne) (fun j σ H6 C hj ⟨u,hu⟩ s6 hC=>?_) (fun σ H6 s6 hC6=>?_)
  ·subst hu
   have hj:j<9:=hj
   have e0:(0:Int)+(j:Int)=(j:Int):=by omega
   have a1:atI ([.bl b1,.bl b2,.bl b3,.bl b4]++[.bl b5,.bl b6,.bl b7,.bl b8]++[.bl b9]) (j:Int)=some (V.bl (([b1,b2,b3,b4,b5,b6,b7,b8,b9]:List Bool).getD j false)):=by
    refine zan ?_
    rcases j with _|_|_|_|_|_|_|_|_|j
    all_goals first|rfl|omega
   have a2:atI (kWords.map V.str) (j:Int)=some (V.str (kWords.getD j "")):=by
    refine zan ?_
    rcases j with _|_|_|_|_|_|_|_|_|j
    all_goals first|rfl|omega
   dsimp only[gName]
   rw[e0]
   refine ⟨_,rfl,_,rfl,p3,_,_,_,rfl,rfl,SqL.of (s6 _ _ hp35),a1,_,rfl,?_⟩
   refine ite2 (fun g=>?_) (fun g=>?_)
   ·rw[if_pos g] at hC
    exact ⟨_,rfl,_,rfl,p4,_,_,_,rfl,rfl,SqL.of (s6 _ _ hp45),a2,hC _ _ ⟨_,rfl⟩ (Same.refl _)⟩
   ·rw[if_neg g] at hC
    exact hC _ _ ⟨_,rfl⟩ (Same.refl _)
  ·rw[zdL] at hC6
   exact ⟨_,pD,_,rfl,rfl,SqL.of hC6,Nat.le_trans (zhT _ _) (by decide),by decide +kernel,fun y hy=>zfD hy,q _ (t5.trans s6)⟩
structure TxtN (mg:Str→Option Value) (cN c1 c2 c3 c4 c5 c6 c7 c8:Addr):Prop extends TxtE mg c1 c2 c3 c4 c5 c6 c7 c8 where
 e0:mg "NestError"=some (.ref cN)
theorem zgd {K:W.Frag}{cN c1 c2 c3 c4 c5 c6 c7 c8 C ea:Addr}{b1 b2 b3 b4 b5 b6 b7 b8:Bool}{H:Hp}{Q:VK}{E:XK}(X:ErrC K cN [c1,c2,c3,c4,c5,c6,c7,c8] C [b1,b2,b3,b4,b5,b6,b7,b8]) (h2:H ea=some (exH ea (.ref C)))
  (q:∀H',Same H H'→Q (.str (zfC [b1,b2,b3,b4,b5,b6,b7,b8,true])) H'):zds K c1 c2 c3 c4 c5 c6 c7 c8 ea [.ref ea] H Q E:=by
 have ks:=X.ks
 simp only[List.map_cons,List.map_nil,List.cons.injEq,and_true] at ks
 obtain ⟨k1,k2,k3,k4,k5,k6,k7,k8⟩:=ks
 exact ⟨C,_,_,_,_,_,_,_,_,_,rfl,h2,X.xc,k1,k2,k3,k4,k5,k6,k7,k8,X.kv,q⟩
theorem kTx:zfC [false,false,false,true,false,false,false,false,true]=Str.ofString "NoText+":=by decide +kernel
inductive spAsk:List V→Hp→VK→XK→Prop where
 |str {vs:List V} {H:Hp} {Q:VK} {E:XK} (z:Addr) (x:Str) (c1:vs=[.str x]) (c2:Bag z H) (c3:x.length≤20000)
  (q:∀b v p H',Same H H'→H p=none→H' p=some (.lst [.str (Str.ofString ""),v])→Rep z H' v (bkD b)→GoodB x b→Q (.ref p) H') (e:(∀b,¬GoodB x b)→∀p H',Same H H'→H p=none→H' p=some (.lst [.str (Str.ofString "NoText+"),.non])→Q (.ref p) H'):spAsk vs H Q E
 |other {vs:List V} {H:Hp} {Q:VK} {E:XK} (z:Addr) (v:V) (d:D) (c1:vs=[v]) (c2:Rep z H v d) (c3:∀x,d≠.str x) (e:∀p H',Same H H'→H p=none→H' p=some (.lst [.str (Str.ofString "NoText+"),.non])→Q (.ref p) H'):spAsk vs H Q E
theorem scAsk:zar ["text","kind","told","e"] ["text"] (zag zht):=⟨rfl,rfl,rfl,by decide +kernel,rfl,by decide +kernel,by decide +kernel⟩
theorem zkR {f cN c1 c2 c3 c4 c5 c6 c7 c8 f1 f5:Addr}{fd fd1 fd5:FuncData}(F:Fun K "_law_asked" "_law_asked" zht f fd) (TN:TxtN mg cN c1 c2 c3 c4 c5 c6 c7 c8)
  (X4:ErrC K cN [c1,c2,c3,c4,c5,c6,c7,c8] c4 [false,false,false,true,false,false,false,false])
  (k1:W.keepIn K (.ref f1)=true) (b1:Binds K fd1 ["text"] []) (m1:mg "read_book"=some (.ref f1)) (G1:FnOk P w K mg base (CXE P w) 6 f1 fd1 ["text"] (spRB c4))
  (k5:W.keepIn K (.ref f5)=true) (b5:Binds K fd5 ["e"] []) (m5:mg "_law_kinds"=some (.ref f5)) (G5:FnOkU P w K mg base 1 f5 fd5 ["e"] (zds K c1 c2 c3 c4 c5 c6 c7 c8)):FnOk P w K mg base CX0 7 f fd ["text"] spAsk:=by
 refine F.ok scAsk (fun vs H Q E h=>?_) (fun cdv A outer s H vs Q E hr h=>?_)
 ·cases h with
  |str z x c1=>rw[c1];rfl
  |other z v d c1=>rw[c1];rfl
 ·have nd:=scAsk.nd
  have hrU:RoomU 1 _:=(hr.mono (by decide:1≤6)).soft
  refine ⟨_,zad (zas (i:=1) nd rfl (Or.inl rfl) zai)
   (zad (zas (i:=2) nd rfl (Or.inl rfl) zbr)
   (zad (zie (i:=3) nd rfl rfl rfl rfl rfl TN.e0
    (zjl (zkw (i:=2) nd rfl (Or.inl rfl) (zid G1 hr rfl m1 k1 b1 .nil (zaa (pv 0) zab))))
    (fun a=>zaf (zas (i:=1) nd rfl (Or.inl rfl) (zig G5 ⟨hrU.dp,hrU.un⟩ rfl rfl m5 k5 b5 .nil (zaa (pv 3) zab)))))
   (zaf (zam (zay (zaa (pv 1) (zaa (pv 2) zab))))))),?_⟩
  dsimp only[cxOf,Cx.nox,Cx.wish]
  have big2:(100000:Nat)≤sizeLine:=by rw[sizeLine_eq];decide
  cases h with
  |str z x c1 hB hx q e=>
   subst c1
   refine ⟨_,rfl,.str z x rfl hB hx (fun b v H' s' R hg=>?_) (fun hn H' s'=>⟨X4.m,fun a na=>⟨_,rfl,?_⟩⟩)⟩
   ·exact ⟨_,rfl,_,rfl,by show (2:Nat)≤_;omega,fun p np=>q b v p _ (s'.trans (Same.new np)) (s'.free np) zac (R.mono (Same.new np).x) hg⟩
   ·refine zgd X4 zac fun H2 s2=>⟨_,rfl,_,rfl,by show (2:Nat)≤_;omega,fun p np=>?_⟩
    rw[kTx]
    have s3:=(s'.trans (Same.new na)).trans s2
    exact e hn p _ (s3.trans (Same.new np)) (s3.free np) zac
  |other z v d c1 R c3 e=>
   subst c1
   refine ⟨_,rfl,.other z v d rfl R c3 (fun H' s'=>⟨X4.m,fun a na=>⟨_,rfl,?_⟩⟩)⟩
   refine zgd X4 zac fun H2 s2=>⟨_,rfl,_,rfl,by show (2:Nat)≤_;omega,fun p np=>?_⟩
   rw[kTx]
   have s3:=(s'.trans (Same.new na)).trans s2
   exact e p _ (s3.trans (Same.new np)) (s3.free np) zac
def strOV:Option Str→V
 |none=>.non
 |some x=>.str x
inductive spLR:List V→Hp→VK→XK→Prop where
 |mk {vs:List V} {H:Hp} {Q:VK} {E:XK} (x:Str) (c1:vs=[.str x]) (c2:x.length≤20000) (c3:∀H',Same H H'→Q (strOV (lrdS x)) H'):spLR vs H Q E
def sgK:List (Key×V):=[(.inr (Str.ofString "s"),.str (Str.ofString " ")),(.inr (Str.ofString "n"),.str (Str.ofString "\n")),(.inr (Str.ofString "\\"),.str (Str.ofString "\\"))]
theorem zkS (m c:Nat) (h:(m=115∧c=32)∨(m=110∧c=10)∨(m=92∧c=92)):valV (zcx [] sgK) (.inr ⟨#[m]⟩)=some (.str ⟨#[c]⟩):=by
 have o1:Str.ofString "s"=⟨#[115]⟩:=by decide +kernel
 have o2:Str.ofString "n"=⟨#[110]⟩:=by decide +kernel
 unfold sgK
 rw[ofs1,ofs3,ofs5,o1,o2]
 rcases h with ⟨rfl,rfl⟩|⟨rfl,rfl⟩|⟨rfl,rfl⟩<;>rfl
theorem in3 (w a b c:Str):inV (.str w) [.str a,.str b,.str c]=(decide (w=a) || (decide (w=b) || decide (w=c))):=by
 have e:inV (.str w) ([a,b,c].map V.str)=[a,b,c].any fun e=>e==w:=zd8 w [a,b,c]
 have q:∀u:Str,(u==w)=decide (w=u):=fun u=>by
  rw[Bool.eq_iff_iff,beq_iff_eq,decide_eq_true_eq]
  exact eq_comm
 show inV (.str w) ([a,b,c].map V.str)=_
 rw[e]
 simp only[List.any_cons,List.any_nil,q,Bool.or_false]
theorem clipW {α:Type}(l:List α) (i k:Nat):(l.drop (min i l.length)).take (min (i+k) l.length-min i l.length)=(l.drop i).take k:=by
 by_cases h:i≤l.length
 ·rw[Nat.min_eq_left h]
  by_cases h2:i+k≤l.length
  ·rw[Nat.min_eq_left h2,Nat.add_sub_cancel_left]
  ·rw[Nat.min_eq_right (by omega),List.take_of_length_le (by simp),List.take_of_length_le (by simp;omega)]
 ·rw[Nat.min_eq_right (by omega),Nat.min_eq_right (by omega),List.drop_eq_nil_of_le (Nat.le_refl _),List.drop_eq_nil_of_le (by omega)]
  simp
theorem cutW (x:Str) (i k:Nat):(cutS x (some (i:Int)) (some ((i:Int)+(k:Int)))).cps.toList=(x.cps.toList.drop i).take k:=by
 unfold cutS
 have e:((i:Int)+(k:Int))=((i+k:Nat):Int):=by omega
 rw[e,HT.sIx_nat,HT.sIx_nat]
 show ((x.cps.toList.drop (min i x.length)).take (min (i+k) x.length-min i x.length))=_
 rw[←zaW]
 exact clipW _ _ _
theorem zjR (m c:Nat) (h:(m=115∧c=32)∨(m=110∧c=10)∨(m=92∧c=92)) (r:List Nat):lrd (92::m::r)=(lrd r).map (c::·):=by
 rcases h with ⟨rfl,rfl⟩|⟨rfl,rfl⟩|⟨rfl,rfl⟩<;>rfl
theorem zjS {k:Nat}{r:List Nat}(h:k=32∨k=10∨k=92) (hn:∀m,k=92→r.head?=some m→m≠115∧m≠110∧m≠92):lrd (k::r)=none:=by
 cases r with
 |nil=>
  show (if k=32∨k=10∨k=92 then none else some [k])=_
  rw[if_pos h]
 |cons m r=>
  show (if k=92∧m=115 then _ else if k=92∧m=110 then _ else if k=92∧m=92 then _ else if k=32∨k=10∨k=92 then none else _)=_
  rw[if_neg (fun z=>(hn m z.1 rfl).1 z.2),if_neg (fun z=>(hn m z.1 rfl).2.1 z.2),if_neg (fun z=>(hn m z.1 rfl).2.2 z.2),if_pos h]
theorem zhU (o:Option (List Nat)) (fl:List Nat) (c:Nat):(o.map (c::·)).map (fl++·)=o.map ((fl++[c])++·):=by
 cases o with
 |none=>rfl
 |some l=>simp
theorem scLR:zar ["text","found","place","two"] ["text"] (zag lRead):=⟨rfl,rfl,rfl,by decide +kernel,rfl,by decide +kernel,by decide +kernel⟩
theorem zld {f:Addr}{fd:FuncData}(F:Fun K "_law_read" "_law_read" lRead f fd) (T:Txt mg):FnOk P w K mg base CX0 1 f fd ["text"] spLR:=by
 refine F.ok scLR (fun vs H Q E h=>?_) (fun cdv A outer s H vs Q E hr h=>?_)
 ·obtain ⟨x,rfl,_⟩:=h
  rfl
 ·obtain ⟨x,rfl,hx,k⟩:=h
  have nd:=scLR.nd
  refine ⟨_,zad (zas (i:=1) nd rfl (Or.inl rfl) zai)
   (zad (zas (i:=2) nd rfl (Or.inl rfl) zah)
   (zad (zhX PassesOwn.never (zaq zgi (pv 2) (zap zaP (by rfl) T.len zbe (zaa (pv 0) zab)) (zax _))
    (zad (zas (i:=3) nd rfl (Or.inl rfl) (zaz zbL (pv 0) (zaB (pv 2)) (zaB (zaw zaK (pv 2) zah))))
    (zaf (zaL (zaq zdf (pv 3) (zay (pa_K zai (pa_K zai (pa_K zai zab)))) rfl)
     (zad (zas (i:=1) nd rfl (Or.inl rfl) (zaw zaF (pv 1) (zjf (zke hr) (zha (zb4 zai zai (zb4 zai zai (zb4 zai zai zg9))) rfl rfl (by intro z;cases z) (by decide)) (zaC zde (pv 3) zah (fun _ _=>rfl)) (fun _ _=>rfl))))
     (zaf (zas (i:=2) nd rfl (Or.inl rfl) (zaw zaK (pv 2) zah))))
     (zaf (zaL (zaq zdf (zaC zde (pv 0) (pv 2) (fun _ _=>rfl)) (zay (pa_K zai (pa_K zai (pa_K zai zab)))) rfl) (zaf (zam zbr))
      (zad (zas (i:=1) nd rfl (Or.inl rfl) (zaw zaF (pv 1) (zaC zde (pv 0) (pv 2) (fun _ _=>rfl))))
      (zaf (zas (i:=2) nd rfl (Or.inl rfl) (zaw zaK (pv 2) zah))))))))))
   (zaf (zam (pv 1))))),?_⟩
  dsimp only[cxOf,Cx.nox,Cx.wish]
  have hz:(100000:Nat)≤sizeLine:=by rw[sizeLine_eq];decide
  refine zhY (fun σ H2=>∃(i:Nat) (fl:List Nat) (u3:Option V),σ=[some (.str x),some (.str ⟨fl.toArray⟩),some (.int i),u3]∧Same H H2∧i≤x.length∧fl.length≤i∧lrd x.cps.toList=(lrd (x.cps.toList.drop i)).map (fl++·))
   (fun σ H2=>match σ[2]? with|some (some (V.int i))=>x.length-i.toNat|_=>0) ⟨0,[],none,rfl,Same.refl H,Nat.zero_le _,Nat.le_refl _,by show lrd x.cps.toList=(lrd x.cps.toList).map _;cases lrd x.cps.toList<;>rfl⟩ ?_ ?_
  ·rintro σ H2 ⟨i,fl,u3,rfl,S2,hil,hfl,hrd⟩
   refine ⟨_,rfl,_,rfl,x,rfl,by omega,_,_,rfl,rfl,_,rfl,?_⟩
   refine ite2 (fun hlt=>?_) (fun hlt=>?_)
   ·have hlt:i<x.length:=by
     have:=of_decide_eq_true hlt
     omega
    have htw:(cutS x (some (i:Int)) (some ((i:Int)+2))).cps.toList=(x.cps.toList.drop i).take 2:=cutW x i 2
    obtain ⟨c,r,hcr⟩:∃c r,x.cps.toList.drop i=c::r:=by
     cases hd:x.cps.toList.drop i with
     |nil=>
      have:=congrArg List.length hd
      rw[List.length_drop,zaW,List.length_nil] at this
      omega
     |cons c r=>exact ⟨c,r,rfl⟩
    have hat:atI x.cps.toList (i:Int)=some c:=zan (by
     have:=congrArg (fun l=>l[0]?) hcr
     simpa using this)
    have hr1:x.cps.toList.drop (i+1)=r:=by rw[←List.drop_drop,hcr];rfl
    rw[hcr] at htw hrd
    refine ⟨_,rfl,_,rfl,_,rfl,_,rfl,_,_,rfl,rfl,_,rfl,x,rfl,by omega,?_⟩
    generalize cutS x (some (i:Int)) (some ((i:Int)+2))=two at htw ⊢
    have fin:∀(j:Nat) (gl:List Nat) (gs:Str) (ji:Int) (H':Hp),gs=⟨gl.toArray⟩→ji=(j:Int)→i<j→j≤x.length→gl.length≤j→Same H H'→lrd x.cps.toList=(lrd (x.cps.toList.drop j)).map (gl++·) →
      (∃(i:Nat) (fl:List Nat) (u3:Option V),[some (.str x),some (.str gs),some (.int ji),some (.str two)]=[some (V.str x),some (.str ⟨fl.toArray⟩),some (.int i),u3]∧Same H H'∧i≤x.length∧fl.length≤i∧lrd x.cps.toList=(lrd (x.cps.toList.drop i)).map (fl++·))∧x.length-ji.toNat<x.length-(i:Int).toNat:=by
     intro j gl gs ji H' e1 e2 h1 h2 h3 h4 h5
     subst e1 e2
     exact ⟨⟨j,gl,_,rfl,h4,h2,h3,h5⟩,by omega⟩
    have ap:∀c:Nat,(⟨fl.toArray⟩:Str)++⟨#[c]⟩=⟨(fl++[c]).toArray⟩:=fun c=>zbz (by
     show ((fl.toArray:Array Nat)++#[c]).toList=_
     simp)
    have fll:(⟨fl.toArray⟩:Str).length=fl.length:=by rw[←zaW]
    refine ⟨_,rfl,by show (3:Nat)≤_;omega,fun p np=>?_⟩
    have s3:=Same.new (o:=.lst [.str (Str.ofString "\\s"),.str (Str.ofString "\\n"),.str (Str.ofString "\\\\")]) np
    have S3:=S2.trans s3
    refine ⟨p,_,rfl,.inl (SqL.of zac),rfl,rfl,_,rfl,?_⟩
    generalize upd H2 p (.lst [.str (Str.ofString "\\s"),.str (Str.ofString "\\n"),.str (Str.ofString "\\\\")])=H3 at S3 ⊢
    rw[in3]
    refine ite2 (fun g=>?_) (fun g=>?_)
    ·obtain ⟨m,r',c',rfl,rfl,hmc⟩:∃m r' c',c=92∧r=m::r'∧((m=115∧c'=32)∨(m=110∧c'=10)∨(m=92∧c'=92)):=by
      have key:∀m c',two=⟨#[92,m]⟩→((m=115∧c'=32)∨(m=110∧c'=10)∨(m=92∧c'=92))→∃m r' c',c=92∧r=m::r'∧((m=115∧c'=32)∨(m=110∧c'=10)∨(m=92∧c'=92)):=fun m c' e hm=>by
       rw[e] at htw
       cases r with
       |nil=>cases htw
       |cons m' r'=>
        have htw:[92,m]=[c,m']:=htw
        injection htw with a b
        injection b with b
        exact ⟨m',r',c',a.symm,rfl,by rw[←b];exact hm⟩
      rw[if_neg Bool.false_ne_true] at g
      simp only[Bool.or_eq_true,decide_eq_true_eq] at g
      rcases g with g|g|g
      ·exact key 115 32 (by rw[g,ofs4]) (.inl ⟨rfl,rfl⟩)
      ·exact key 110 10 (by rw[g,ofs6]) (.inr (.inl ⟨rfl,rfl⟩))
      ·exact key 92 92 (by rw[g,ofs2]) (.inr (.inr ⟨rfl,rfl⟩))
     have hat2:atI two.cps.toList 1=some m:=zan (j:=1) (by rw[htw];rfl)
     have htl:two.length≤2:=by rw[←zaW,htw];exact Nat.le_refl _
     have hi2:i+2≤x.length:=by
      have:=congrArg List.length hcr
      rw[List.length_drop,zaW,List.length_cons,List.length_cons] at this
      omega
     refine ⟨_,rfl,fun p2 np2=>⟨zac,sgK,rfl,by decide,?_⟩⟩
     have S4:Same H (upd (upd H3 p2 (.dK [])) p2 (.dK (zcx [] sgK))):=fun b o e=>by rw[zat (zae (S3 b o e) np2),zat (zae (S3 b o e) np2)];exact S3 b o e
     refine ⟨_,rfl,two,1,m,rfl,rfl,by omega,hat2,p2,.str ⟨#[c']⟩,rfl,.inl ⟨_,.inr ⟨#[m]⟩,.inl zac,rfl,(zkS m c' hmc).symm⟩,_,_,rfl,rfl,by rw[fll];show fl.length+1≤_;omega,?_⟩
     refine ⟨_,rfl,_,_,rfl,rfl,fin (i+2) (fl++[c']) _ _ _ (ap c') (by omega) (by omega) hi2 (by rw[List.length_append,List.length_singleton];omega) S4 ?_⟩
     rw[hrd,zjR m c' hmc,zhU,←List.drop_drop,hcr]
     rfl
    ·have gn:two≠⟨#[92,115]⟩∧two≠⟨#[92,110]⟩∧two≠⟨#[92,92]⟩:=by
      rw[if_neg Bool.false_ne_true,ofs4,ofs6,ofs2] at g
      simp only[Bool.or_eq_true,decide_eq_true_eq,not_or] at g
      exact g
     refine ⟨_,rfl,_,rfl,x,i,c,rfl,rfl,by omega,hat,by show (3:Nat)≤_;omega,fun p2 np2=>?_⟩
     have s4:=Same.new (o:=.lst [.str (Str.ofString " "),.str (Str.ofString "\n"),.str (Str.ofString "\\")]) np2
     have S4:=S3.trans s4
     refine ⟨p2,_,rfl,.inl (SqL.of zac),rfl,rfl,_,rfl,?_⟩
     generalize upd H3 p2 (.lst [.str (Str.ofString " "),.str (Str.ofString "\n"),.str (Str.ofString "\\")])=H4 at S4 ⊢
     rw[in3,ofs1,ofs3,ofs5]
     have one:∀a:Nat,((⟨#[c]⟩:Str)=⟨#[a]⟩)↔c=a:=fun a=>by simp
     refine ite2 (fun g2=>?_) (fun g2=>?_)
     ·have hc:c=32∨c=10∨c=92:=by
       rw[if_neg Bool.false_ne_true] at g2
       simp only[Bool.or_eq_true,decide_eq_true_eq,one] at g2
       exact g2
      have:=k H4 S4
      unfold lrdS at this
      rw[hrd,zjS hc (fun m h1 h2=>?_)] at this
      ·exact this
      ·cases r with
       |nil=>cases h2
       |cons m' r'=>
        have em:m'=m:=Option.some.inj h2
        subst em
        subst h1
        have tw:two=⟨#[92,m']⟩:=zbz htw
        refine ⟨fun z=>gn.1 (by rw[tw,z]),fun z=>gn.2.1 (by rw[tw,z]),fun z=>gn.2.2 (by rw[tw,z])⟩
     ·have hc:¬(c=32∨c=10∨c=92):=by
       rw[if_neg Bool.false_ne_true] at g2
       simp only[Bool.or_eq_true,decide_eq_true_eq,one] at g2
       exact g2
      refine ⟨_,rfl,_,rfl,_,rfl,x,i,c,rfl,rfl,by omega,hat,_,_,rfl,rfl,by rw[fll];show fl.length+1≤_;omega,?_⟩
      refine ⟨_,rfl,_,_,rfl,rfl,fin (i+1) (fl++[c]) _ _ _ (ap c) (by omega) (by omega) (by omega) (by rw[List.length_append,List.length_singleton];omega) S4 ?_⟩
      rw[hrd,zkK (fun z=>hc (.inr (.inr z))) (fun z=>hc (.inl z)) (fun z=>hc (.inr (.inl z))),zhU,hr1]
   ·have hge:i=x.length:=by
     have:¬((i:Int)<(x.length:Int)):=fun q=>hlt (decide_eq_true q)
     omega
    refine ⟨_,rfl,?_⟩
    have e:x.cps.toList.drop i=[]:=List.drop_of_length_le (by rw[zaW];omega)
    rw[e] at hrd
    have:=k H2 S2
    unfold lrdS at this
    rw[hrd] at this
    simpa [lrd,strOV] using this
  ·rintro σ H3 Q1 Q2 hq ⟨v1,e1,v2,e2,x2,e3,h4,i1,i2,e5,e6,b1,e7,h⟩
   exact ⟨v1,e1,v2,e2,x2,e3,h4,i1,i2,e5,e6,b1,e7,hq _ _ h⟩
inductive spLN:List V→Hp→VK→XK→Prop where
 |mk {vs:List V} {H:Hp} {Q:VK} {E:XK} (x:Str) (c1:vs=[.str x]) (c2:x.length≤20000) (c3:∀H',Same H H'→Q (optV (lnum x)) H'):spLN vs H Q E
theorem zdM (F:Nat→List V):∀n,flatN F n=(List.range n).flatMap F
 |0=>rfl
 |n+1=>by
  rw[List.range_succ,List.flatMap_append,←zdM F n]
  simp[flatN]
theorem zhV (x:Str):(flatN (fun i=>(if decide (x.cps.getD i 0∈figS.cps.toList)=true then none else some (V.str ⟨#[x.cps.getD i 0]⟩)).toList) x.cps.size).isEmpty=figB x:=by
 have e:figB x=((List.range x.cps.size).map fun i=>decide (x.cps.getD i 0∈figS.cps.toList)).all id:=(zhG x fun c=>decide (c∈figS.cps.toList)).symm
 rw[zdM,e,Bool.eq_iff_iff,List.isEmpty_iff,List.flatMap_eq_nil_iff,List.all_eq_true]
 constructor
 ·intro h b hb
  obtain ⟨i,hi,rfl⟩:=List.mem_map.mp hb
  have:=h i hi
  cases hd:decide (x.cps.getD i 0∈figS.cps.toList) with
  |true=>rfl
  |false=>rw[hd,if_neg Bool.false_ne_true] at this;cases this
 ·intro h i hi
  have:=h _ (List.mem_map.mpr ⟨i,hi,rfl⟩)
  have:decide (x.cps.getD i 0∈figS.cps.toList)=true:=this
  rw[this,if_pos rfl]
  rfl
theorem scLN:zar ["word"] ["word"] (zag zee):=⟨rfl,rfl,rfl,by decide +kernel,rfl,by decide +kernel,by decide +kernel⟩
theorem zle {f:Addr}{fd:FuncData}(F:Fun K "_law_number" "_law_number" zee f fd) (T:Txt mg):FnOk P w K mg base CX0 1 f fd ["word"] spLN:=by
 refine F.ok scLN (fun vs H Q E h=>?_) (fun cdv A outer s H vs Q E hr h=>?_)
 ·obtain ⟨x,rfl,_⟩:=h
  rfl
 ·obtain ⟨x,rfl,hx,k⟩:=h
  refine ⟨_,zad (zaL (PW.pt (zcm (zaq zbw (pv 0) zai (zax _)) (zcm (zaq zhZ (zap zaP (by rfl) T.len zbe (zaa (pv 0) zab)) zah (zax _))
    (zbK (zaq (zdl hr.units0) (za1 (N':=["sign"]) (js:=[none]) rfl rfl (za3 (zag zee) (by decide +kernel)) trivial (zeE (pv 0)) (fun cl s H fp=>zal (i:=0) zhg rfl (Or.inl rfl)) (fun cl s H fp=>zdh (zaq zev (pv 0) zai (by with_unfolding_all rfl))) (fun cl s H fp=>pv 0)) (zay zab) (zax _)))))) (zaf (zam zbr)) zau)
   (zad (zaL (PW.pt (zgD (zaq zbw (zaC zde (pv 0) zah (fun _ _=>rfl)) zai (zax _)) (ze2 (zaq zdx (pv 0) zai (zax _))))) (zaf (zam zbr)) zau)
   (zaf (zam (zaG zcA (by rfl) T.int zgo (zaa (pv 0) zab))))),?_⟩
  have hz:(100000:Nat)≤sizeLine:=by rw[sizeLine_eq];decide
  have no:lnum x=none→∀H',Same H H'→Q .non H':=fun e H' s'=>by
   have:=k H' s'
   rw[e] at this
   exact this
  refine ⟨_,rfl,rfl,_,rfl,ite2 (fun g=>?_) (fun g=>?_)⟩
  ·have g':x=Str.ofString "":=by simpa using g
   refine no ?_ H (Same.refl H)
   unfold lnum
   rw[if_pos (by rw[g'];decide +kernel)]
  have g':x≠Str.ofString "":=by simpa using g
  have h0:x.length≠0:=fun z=>g' (zbE z)
  refine ⟨_,rfl,x,rfl,by omega,_,_,rfl,rfl,_,rfl,ite2 (fun g=>?_) (fun g=>?_)⟩
  ·have g9:9<x.length:=by
    have:(9:Int)<x.length:=by simpa using g
    omega
   refine no ?_ H (Same.refl H)
   unfold lnum
   rw[if_pos (by rw[decide_eq_true g9,Bool.or_true,Bool.true_or,Bool.true_or])]
  have h9:¬9<x.length:=by
   have:¬(9:Int)<x.length:=by simpa using g
   omega
  refine ⟨_,rfl,_,rfl,fun p np=>?_⟩
  refine zbF (fun i=>if decide (x.cps.getD i 0∈figS.cps.toList)=true then none else some (.str ⟨#[x.cps.getD i 0]⟩)) (fun σ=>∃v,σ=[v]) ⟨none,rfl⟩ np (by show x.length≤_;omega) zcv (fun i σ H1 C hi ⟨v,hv⟩ hS hC=>?_) (fun σ H1 hS hH=>?_)
  ·subst hv
   have hC':=hC [some (.str ⟨#[x.cps.getD i 0]⟩)] H1 ⟨_,rfl⟩ (Same.refl _)
   refine ⟨_,rfl,_,_,rfl,rfl,_,rfl,?_⟩
   rw[StrLaws.found_one]
   cases hd:decide (x.cps.getD i 0∈figS.cps.toList) with
   |true=>
    rw[hd,if_pos rfl] at hC'
    exact iteF hC'
   |false=>
    rw[hd,if_neg Bool.false_ne_true] at hC'
    exact iteT ⟨_,rfl,hC'⟩
  have eF:(flatN (fun i=>(if decide (x.cps.getD i 0∈figS.cps.toList)=true then none else some (V.str ⟨#[x.cps.getD i 0]⟩)).toList) x.cps.size).isEmpty=figB x:=zhV x
  refine ⟨Nat.zero_le _,fun l nl=>?_⟩
  have s2:=Same.new (o:=.lst []) nl
  have S2:=hS.trans s2
  refine ⟨p,l,_,rfl,rfl,s2 _ _ hH,zac,_,rfl,?_⟩
  rw[eF]
  generalize upd H1 l (.lst [])=H2 at S2 ⊢
  cases hf:figB x with
  |false=>
   refine iteT (no ?_ H2 S2)
   unfold lnum
   rw[hf,if_pos (by rw[Bool.not_false,Bool.or_true,Bool.true_or])]
  |true=>
   refine iteF ?_
   obtain ⟨c,r,hcr⟩:∃c r,x.cps.toList=c::r:=by
    cases hl:x.cps.toList with
    |nil=>rw[←zaW,hl] at h0;exact absurd rfl h0
    |cons c r=>exact ⟨c,r,rfl⟩
   have hat:atI x.cps.toList 0=some c:=zan (j:=0) (by rw[hcr];rfl)
   have hne:x.cps.toList≠[]:=by rw[hcr];exact fun z=>nomatch z
   have yes:(decide (x.cps.toList.head?=some 48)&&decide (x≠Str.ofString "0"))=false→Q (.int (valN x)) H2:=fun e=>by
    have:=k H2 S2
    unfold lnum at this
    rw[hf,e,decide_eq_false h0,decide_eq_false h9,if_neg (by decide)] at this
    exact this
   have fin:(decide (x.cps.toList.head?=some 48)&&decide (x≠Str.ofString "0"))=false→(∃v,[V.str x]=v)→True:=fun _ _=>trivial
   have run:(decide (x.cps.toList.head?=some 48)&&decide (x≠Str.ofString "0"))=false→∃(y:Str) (n:Int),[V.str x]=[V.str y]∧PySem.intText? y=some n∧y.length≤640∧Q (.int n) H2:=fun e=>⟨x,valN x,rfl,PySem.intText_digits (zc3 hf) hne (by omega),by omega,yes e⟩
   refine ⟨_,rfl,x,0,c,rfl,rfl,by omega,hat,rfl,_,rfl,ite2 (fun g=>?_) (fun g=>?_)⟩
   ·have g0:c=48:=by
     have e0:Str.ofString "0"=⟨#[48]⟩:=by decide +kernel
     have:(⟨#[c]⟩:Str)=Str.ofString "0":=by simpa using g
     rw[e0] at this
     simpa using this
    refine ⟨_,rfl,rfl,_,rfl,ite2 (fun g=>?_) (fun g=>?_)⟩
    ·have g2:x≠Str.ofString "0":=by simpa using g
     refine no ?_ H2 S2
     unfold lnum
     rw[if_pos (by rw[hcr,g0,decide_eq_true g2,List.head?_cons,decide_eq_true (rfl:some 48=some 48),Bool.and_true,Bool.or_true])]
    ·have g2:x=Str.ofString "0":=by simpa using g
     exact ⟨_,rfl,run (by rw[decide_eq_false (fun z:x≠Str.ofString "0"=>z g2),Bool.and_false])⟩
   ·have g0:c≠48:=fun z=>g (by rw[z];decide +kernel)
    refine iteF ?_
    exact ⟨_,rfl,run (by rw[hcr,List.head?_cons,decide_eq_false (fun z:some c=some 48=>g0 (Option.some.inj z)),Bool.false_and])⟩
inductive zeq:List V→Hp→VK→XK→Prop where
 |mk {vs:List V} {H:Hp} {Q:VK} {E:XK} (z:Addr) (x:Str) (c1:vs=[.str x]) (c2:Bag z H) (c3:x.length≤20000)
  (q0:dueD x=none→∀H',Same H H'→Q .non H') (q1:∀d v H',dueD x=some d→Same H H'→Rep z H' v d→Q v H'):zeq vs H Q E
theorem zjT {n:Nat}(h:n % 3=2):Builtin.Range.rangeSize 2 (n:Int) 3=(((n-2) / 3:Nat):Int):=by
 unfold Builtin.Range.rangeSize
 rw[if_pos (by decide)]
 split
 ·omega
 ·omega
theorem zjU {n:Nat}(h:n % 3=2) (hn:n≤100000):Builtin.Range.small 2 (n:Int) 3=true:=by
 have:=zhL (n:=n+2) (by omega)
 rw[show (((n+2:Nat):Int)-2)=(n:Int) by omega] at this
 exact this
theorem zer (o:Option Str):NoL (strO o):=by
 cases o with
 |none=>exact .non
 |some x=>exact .str x
theorem zb9 (ws:List Str):∀l:List Nat,NoLs (l.map fun i=>doorL ws (2+3*i))
 |[]=>.nil
 |i::r=>.cons (.tup (.cons (zer _) (.cons (zhM _) (.cons (zer _) .nil)))) (zb9 ws r)
theorem zdt:∀l:List (List Str),NoLs (l.map lineD)
 |[]=>.nil
 |ws::r=>.cons (.tup (.cons (zer _) (.cons (.tup (zb9 ws _)) .nil))) (zdt r)
theorem zdu:∀l:List Nat,l.length≤(encL l).length
 |[]=>Nat.le_refl _
 |k::r=>by
  have ih:=zdu r
  show _≤(escC k++encL r).length
  rw[List.length_append,List.length_cons]
  have:1≤(escC k).length:=by unfold escC;split<;>(try split)<;>(try split)<;>simp
  omega
theorem zfE (x:Str):x.length≤(encS x).length:=by
 rw[←zaW x,←zaW (encS x),zbD]
 exact zdu _
theorem ziy {w x:Str}(h:lrdS w=some x):x.length≤w.length:=by
 rw[zen h]
 exact zfE x
theorem ziz {z:Addr}{H:Hp}{o:Option Str}(h:∀x,o=some x→x.length≤20000):Rep z H (strOV o) (strO o):=by
 cases o with
 |none=>exact .non
 |some x=>exact .str x (h x rfl)
theorem zfF {z:Addr}{H:Hp}{w:Str}(h:w.length≤20000):Rep z H (strOV (lrdS w)) (strO (lrdS w)):=ziz fun x e=>Nat.le_trans (ziy e) h
theorem zjV {z:Addr}{H:Hp}{w:Str}(h:w.length≤20000):Rep z H (strOV (escL w)) (strO (escL w)):=by
 unfold escL
 split
 ·exact .str _ (by decide +kernel)
 ·exact zfF h
theorem scDue:zar ["text","book","line","words","escape","doors","k"] ["text"] (zag lDue):=⟨rfl,rfl,rfl,by decide +kernel,rfl,by decide +kernel,by decide +kernel⟩
theorem zkT {f f1 f2 f3:Addr}{fd fd1 fd2 fd3:FuncData}(F:Fun K "_law_due" "_law_due" lDue f fd) (T:Txt mg)
  (k1:W.keepIn K (.ref f1)=true) (b1:Binds K fd1 ["text"] []) (m1:mg "_law_read"=some (.ref f1)) (G1:FnOk P w K mg base CX0 1 f1 fd1 ["text"] spLR)
  (k2:W.keepIn K (.ref f2)=true) (b2:Binds K fd2 ["word"] []) (m2:mg "_law_number"=some (.ref f2)) (G2:FnOk P w K mg base CX0 1 f2 fd2 ["word"] spLN)
  (k3:W.keepIn K (.ref f3)=true) (b3:Binds K fd3 ["thing"] []) (m3:mg "is_book"=some (.ref f3)) (G3:FnOk P w K mg base CX0 5 f3 fd3 ["thing"] (spD bookD)):FnOk P w K mg base CX0 6 f fd ["text"] zeq:=by
 refine F.ok scDue (fun vs H Q E h=>?_) (fun cdv A outer s H vs Q E hr h=>?_)
 ·obtain ⟨z,x,rfl,_⟩:=h
  rfl
 ·obtain ⟨z,x,rfl,hB,hx,q0,q1⟩:=h
  have nd:=scDue.nd
  have hr1:Room 1 _:=hr.mono (by decide)
  refine ⟨_,zad (zas (i:=1) nd rfl (Or.inl rfl) (zay zab))
   (zad (zbm PassesOwn.never rfl (zbR (zbi PySem.F.plainAttrs_str PySem.F.slot_str_split PySem.F.type_str_split zbG (pv 0) (zaa zai zab))) (zal (i:=2) nd rfl (Or.inl rfl))
    (zad (zas (i:=3) nd rfl (Or.inl rfl) (zbi PySem.F.plainAttrs_str PySem.F.slot_str_split PySem.F.type_str_split zbG (pv 2) (zaa zai zab)))
    (zad (zaL (PW.pt (zcm (zaq zdx (zaw zco (zap zav (by rfl) T.len zbe (zaa (pv 3) zab)) zah) zah (zax _)) (zbK (zaq zdx (zaC ix_list (pv 3) zah (fun _ _=>rfl)) zai (zax _))))) (zaf (zam zbr)) zau)
    (zad (zas (i:=4) nd rfl (Or.inl rfl) (zak G1 hr1 rfl m1 k1 b1 .nil pass0 (zaa (zaC ix_list (pv 3) zah (fun _ _=>rfl)) zab)))
    (zad (zaL (zaq zbw (zaC ix_list (pv 3) zah (fun _ _=>rfl)) zai (zax _)) (zaf (zas (i:=4) nd rfl (Or.inl rfl) zai)) (zaf (zaL (zaq zbw (pv 4) zai (zax _)) (zaf (zam zbr)) zau)))
    (zad (zas (i:=5) nd rfl (Or.inl rfl) (zay zab))
    (zad (zbm PassesOwn.never rfl (zeK (lo:=2) (c:=3) rfl T.range (pa_K zah (zaa (zap zav (by rfl) T.len zbe (zaa (pv 3) zab)) (pa_K zah zab))) (by decide)) (zal (i:=6) nd rfl (Or.inl rfl))
     (zaf (zbP (zbi PySem.F.plainAttrs_list PySem.F.slot_list_append PySem.F.type_list_append zbd (pv 5) (pa_T (zcp (zaa (zak G1 hr1 rfl m1 k1 b1 .nil pass0 (zaa (zaC ix_list (pv 3) (pv 6) (fun _ _=>rfl)) zab)) (zaa (zak G2 hr1 rfl m2 k2 b2 .nil pass0 (zaa (zaC ix_list (pv 3) (zaw zaK (pv 6) zah) (fun _ _=>rfl)) zab)) (zaa (zak G1 hr1 rfl m1 k1 b1 .nil pass0 (zaa (zaC ix_list (pv 3) (zaw zaK (pv 6) zah) (fun _ _=>rfl)) zab)) zab)))) zab)))))
    (zaf (zbP (zbi PySem.F.plainAttrs_list PySem.F.slot_list_append PySem.F.type_list_append zbd (pv 1) (pa_T (zcp (zaa (pv 4) (zaa (zaG za0 (by rfl) T.tuple zbx (zaa (pv 5) zab)) zab))) zab)))))))))))
   (zaf (zam (zaC ix_list (zay (pa_K zbr (zaa (zaG za0 (by rfl) T.tuple zbx (zaa (pv 1) zab)) zab))) (zaG zdc (by rfl) T.int zgo (zaa (zak G3 hr rfl m3 k3 b3 .nil pass0 (zaa (zaG za0 (by rfl) T.tuple zbx (zaa (pv 1) zab)) zab)) zab)) (fun _ _=>rfl))))),?_⟩
  dsimp only[cxOf,Cx.nox,Cx.wish]
  have hz:(100000:Nat)≤sizeLine:=by rw[sizeLine_eq];decide
  refine zbs fun D1 _ hR1 _ _=>zaj fun U hU=>?_
  refine ⟨Nat.zero_le _,fun pb npb=>hU _ _ (zaj fun U hU=>?_)⟩
  have s0:=Same.new (o:=.lst []) npb
  have hpb0:upd H pb (.lst []) pb=some (.lst []):=zac
  have npbz:pb≠z:=hB.ne npb
  generalize upd H pb (.lst [])=H1 at s0 hpb0 ⊢
  refine ⟨_,rfl,rfl,x,_,rfl,rfl,by decide +kernel,by omega,fun pa npa=>?_⟩
  have s1:=Same.new (o:=.lst ((Txt.split x (Str.ofString "\n")).map V.str)) npa
  have hpa:upd H1 pa (.lst ((Txt.split x (Str.ofString "\n")).map V.str)) pa=some (.lst ((Txt.split x (Str.ofString "\n")).map V.str)):=zac
  have wtx:=zaZ x (Str.ofString "\n") (by decide +kernel)
  have hps:∀q∈Txt.split x (Str.ofString "\n"),q.length≤20000:=fun q hq=>Nat.le_trans (PyProof.Rows.part_short hq) hx
  have eL:zaI x=(Txt.split x (Str.ofString "\n")).map fun l=>Txt.split l (Str.ofString " "):=rfl
  have hab:pa≠pb:=(zae hpb0 npa).symm
  have hpb1:=s1 _ _ hpb0
  generalize Txt.split x (Str.ofString "\n")=ls at *
  have S1:=s0.trans s1
  generalize upd H1 pa (.lst (ls.map V.str))=H2 at s1 hpa hpb1 S1 ⊢
  have B2:=hB.same S1
  have bad:∀ws,ws∈zaI x→lineG ws=false→∀H',Same H H'→D1.rt .non H':=fun ws hm hg H' s'=>hR1 _ _ (q0 (by
   unfold dueD
   rw[if_neg]
   intro c
   rw[Bool.and_eq_true,List.all_eq_true] at c
   have:=c.1 ws hm
   rw[hg] at this
   cases this) H' s')
  refine ⟨pa,rfl,⟨_,SqL.of hpa⟩,zdP (K:=K) (a:=pa) (xs:=ls.map V.str) (fun t σ H3=>∃u2 u3 u4 u5 u6 bv,σ=[some (.str x),some (.ref pb),u2,u3,u4,u5,u6]∧SameX pb H2 H3∧H3 pb=some (.lst bv)∧Reps z H3 bv (((zaI x).take t).map lineD)∧∀ws∈(zaI x).take t,lineG ws=true)
   ⟨none,none,none,none,none,[],rfl,.refl,hpb1,.nil,fun ws h=>nomatch h⟩ (fun t σ H3 _ ⟨_,_,_,_,_,_,_,sx,_⟩=>SqL.of (sx _ _ hab hpa)) ?_ ?_⟩
  ·rintro t y σ H3 hty ⟨u2,u3,u4,u5,u6,bv,rfl,sx3,hpb3,RB,hall⟩
   have htl:t<ls.length:=by have:=(List.getElem?_eq_some_iff.mp hty).1;rw[List.length_map] at this;exact this
   obtain ⟨l,hl,rfl⟩:∃l,ls[t]?=some l∧y=.str l:=by
    rw[List.getElem?_map] at hty
    cases hq:ls[t]? with
    |none=>rw[hq] at hty;cases hty
    |some l=>rw[hq] at hty;exact ⟨l,rfl,(Option.some.inj hty).symm⟩
   have hll:l.length≤20000:=hps l (List.mem_of_getElem? hl)
   have hwm:(zaI x)[t]?=some (Txt.split l (Str.ofString " ")):=by rw[eL,List.getElem?_map,hl];rfl
   have hmem:=List.mem_of_getElem? hwm
   have etk:(zaI x).take (t+1)=(zaI x).take t++[Txt.split l (Str.ofString " ")]:=by rw[List.take_succ,hwm];rfl
   have wtl:=zaZ l (Str.ofString " ") (by decide +kernel)
   have hpl:∀q∈Txt.split l (Str.ofString " "),q.length≤20000:=fun q hq=>Nat.le_trans (PyProof.Rows.part_short hq) hll
   have hwne:=zc2 l (Str.ofString " ")
   have bvl:bv.length=t:=by
    have:=RB.length
    rw[List.length_map,List.length_take] at this
    have h2:t<(zaI x).length:=(List.getElem?_eq_some_iff.mp hwm).1
    omega
   have S3:∀b o,H b=some o→H3 b=some o:=fun b o e=>sx3 b o (zae e npb) (S1 b o e)
   have B3:Bag z H3:=by
    obtain ⟨c,d,e⟩:=B2
    exact ⟨c,d,sx3 _ _ npbz.symm e⟩
   show (tSeq _ _) _ _ _
   refine zbs fun D2 hD2 hR2 _ _=>zaj fun U2 hU2=>?_
   refine ⟨_,rfl,rfl,l,_,rfl,rfl,by decide +kernel,by omega,fun pw npw=>hU2 _ _ (zaj fun U2 hU2=>?_)⟩
   have s4:=Same.new (o:=.lst ((Txt.split l (Str.ofString " ")).map V.str)) npw
   have hpw:upd H3 pw (.lst ((Txt.split l (Str.ofString " ")).map V.str)) pw=some (.lst ((Txt.split l (Str.ofString " ")).map V.str)):=zac
   generalize Txt.split l (Str.ofString " ")=ws at *
   generalize upd H3 pw (.lst (ws.map V.str))=H4 at s4 hpw ⊢
   have S4:Same H H4:=fun b o e=>s4 b o (S3 b o e)
   have hwl:∀i,i<ws.length→(ws.map V.str)[i]?=some (.str (wAt ws i))∧(wAt ws i).length≤20000:=fun i hi=>by
    have e:wAt ws i=ws[i]:=by unfold wAt;rw[List.getD_eq_getElem?_getD,List.getElem?_eq_getElem hi];rfl
    rw[e,List.getElem?_map,List.getElem?_eq_getElem hi]
    exact ⟨rfl,hpl _ (List.getElem_mem hi)⟩
   refine ⟨_,rfl,pw,_,rfl,.inl (SqL.of hpw),_,_,rfl,rfl,(show (0:Int)<3 by decide),rfl,_,rfl,?_⟩
   rw[List.length_map]
   refine ite2 (fun g=>?_) (fun g=>?_)
   ·have g':¬ws.length % 3=2:=by
     have:¬((ws.length:Int) % 3=2):=by simpa using g
     omega
    refine hR2 _ _ (bad ws hmem ?_ H4 S4)
    unfold lineG
    rw[decide_eq_false g',Bool.false_and,Bool.false_and]
   have g3:ws.length % 3=2:=by
    have:(ws.length:Int) % 3=2:=by simpa using g
    omega
   obtain ⟨e0,l0⟩:=hwl 0 (by omega)
   obtain ⟨e1,l1⟩:=hwl 1 (by omega)
   refine ⟨_,rfl,pw,_,0,_,rfl,rfl,SqL.of hpw,zan (j:=0) e0,rfl,_,rfl,ite2 (fun g=>?_) (fun g=>hU2 _ _ (zaj fun U2 hU2=>?_))⟩
   ·have g':¬wAt ws 0=Str.ofString "escape":=by simpa using g
    refine hR2 _ _ (bad ws hmem ?_ H4 S4)
    unfold lineG
    rw[decide_eq_false g',Bool.and_false,Bool.false_and]
   have g0:wAt ws 0=Str.ofString "escape":=by simpa using g
   refine ⟨_,rfl,pw,_,1,_,rfl,rfl,SqL.of hpw,zan (j:=1) e1,wAt ws 1,rfl,l1,fun H5 s5=>hU2 _ _ (zaj fun U2 hU2=>?_)⟩
   have S5:=S4.trans s5
   have hpw5:=s5 _ _ hpw
   have fin:lineG ws=true→U2 [some (.str x),some (.ref pb),some (.str l),some (.ref pw),some (strOV (escL (wAt ws 1))),u5,u6] H5:=by
    intro hgood
    refine hU2 _ _ (zaj fun U2 hU2=>?_)
    refine ⟨Nat.zero_le _,fun q nq=>hU2 _ _ (zaj fun U2 hU2=>?_)⟩
    have s6:=Same.new (o:=.lst []) nq
    have hq0:upd H5 q (.lst []) q=some (.lst []):=zac
    have S35:Same H3 H5:=s4.trans s5
    have nq3:=S35.free nq
    have hqz:q≠z:=(B3.same S35).ne nq
    have hpq:pw≠q:=zae hpw5 nq
    have hbq:pb≠q:=zae (S35 _ _ hpb3) nq
    have S36:=S35.trans s6
    have hpw6:=s6 _ _ hpw5
    generalize upd H5 q (.lst [])=H6 at s6 hq0 S36 hpw6 ⊢
    refine ⟨_,rfl,pw,_,rfl,.inl (SqL.of hpw6),_,(ws.length-2) / 3,rfl,?_,?_,?_,?_⟩
    ·rw[List.length_map]
     exact zjT g3
    ·rw[List.length_map]
     exact zjU g3 (by omega)
    ·exact py3 _
    refine zdC (fun j σ H7=>∃u6 dv,σ=[some (.str x),some (.ref pb),some (.str l),some (.ref pw),some (strOV (escL (wAt ws 1))),some (.ref q),u6]∧SameX q H6 H7∧H7 q=some (.lst dv)∧Reps z H7 dv ((List.range j).map fun i=>doorL ws (2+3*i))) ⟨_,[],rfl,.refl,hq0,.nil⟩ ?_ ?_
    ·rintro j σ H7 hj ⟨v6,dv,rfl,s7,hq7,RD⟩
     have hpw7:=s7 _ _ hpq hpw6
     have B7:Bag z H7:=by
      obtain ⟨c,d,e⟩:=B3.same S36
      exact ⟨c,d,s7 _ _ hqz.symm e⟩
     have i2:2+3*j+2<ws.length:=by omega
     obtain ⟨ea,la⟩:=hwl (2+3*j) (by omega)
     obtain ⟨eb,lb⟩:=hwl (2+3*j+1) (by omega)
     obtain ⟨ec,lc⟩:=hwl (2+3*j+2) (by omega)
     have et:(2:Int)+(j:Int)*3=((2+3*j:Nat):Int):=by omega
     dsimp only[gName]
     rw[et]
     refine ⟨_,rfl,.inl ⟨rfl,_,SqL.of hq7⟩,_,rfl,_,rfl,pw,_,_,_,rfl,rfl,SqL.of hpw7,zan ea,_,rfl,la,fun H8 s8=>?_⟩
     refine ⟨_,rfl,_,rfl,_,_,rfl,rfl,pw,_,_,_,rfl,rfl,SqL.of (s8 _ _ hpw7),(zan (j:=2+3*j+1) eb:atI _ (((2+3*j:Nat):Int)+1)=_),_,rfl,lb,fun H9 s9=>?_⟩
     refine ⟨_,rfl,_,rfl,_,_,rfl,rfl,pw,_,_,_,rfl,rfl,SqL.of (s9 _ _ (s8 _ _ hpw7)),(zan (j:=2+3*j+2) ec:atI _ (((2+3*j:Nat):Int)+2)=_),_,rfl,lc,fun HA sA=>⟨by show (3:Nat)≤_;omega,fun pt npt=>?_⟩⟩
     have SA:=(s8.trans s9).trans sA
     have BA:=B7.same SA
     have sB:=Same.new (o:=.tup [strOV (lrdS (wAt ws (2+3*j))),optV (lnum (wAt ws (2+3*j+1))),strOV (lrdS (wAt ws (2+3*j+2)))]) npt
     have SB:=SA.trans sB
     have hqB:=SB _ _ hq7
     have hdl:dv.length=j:=by have:=RD.length;simpa using this
     refine ⟨q,dv,_,rfl,rfl,hqB,by omega,_,_,rfl,(s7.trans SB.x).upd,zac,?_⟩
     rw[List.range_succ,List.map_append]
     refine Reps.updL hqB ((RD.mono SB.x).append (.cons (.tup zac (BA.ne npt) (.cons (zfF la) (.cons (zhJ _) (.cons (zfF lc) .nil)))) .nil)) ?_
     exact (zb9 ws _).append (zb9 ws [j])
    ·rintro σ H7 ⟨v6,dv,rfl,s7,hq7,RD⟩
     have S37:Same H3 H7:=fun b o e=>s7 b o (zae e nq3) (S36 b o e)
     have B7:=B3.same S37
     refine hU2 _ _ ⟨_,rfl,.inl ⟨rfl,_,SqL.of (S37 _ _ hpb3)⟩,_,rfl,_,rfl,q,dv,rfl,.inl ⟨SqL.of hq7,fun l2 nl2=>⟨by show (2:Nat)≤_;omega,fun pt npt=>?_⟩⟩⟩
     have s8:=Same.new (o:=.tup dv) nl2
     have s9:=Same.new (o:=.tup [strOV (escL (wAt ws 1)),.ref l2]) npt
     have S9:=s8.trans s9
     have S39:=S37.trans S9
     have hpb9:=S39 _ _ hpb3
     refine ⟨pb,bv,_,rfl,rfl,hpb9,by omega,hD2 _ _ ⟨_,_,_,_,_,_,rfl,(sx3.trans S39.x).upd,zac,?_,?_⟩⟩
     ·rw[etk,List.map_append]
      refine Reps.updL hpb9 ((RB.mono S39.x).append (.cons (.tup zac ((B7.same s8).ne npt) (.cons (zjV l1) (.cons (.tup (s9 _ _ zac) (B7.ne nl2) (RD.mono S9.x)) .nil))) .nil)) ?_
      exact (zdt _).append (zdt [ws])
     ·rw[etk]
      intro w' hw'
      rcases List.mem_append.mp hw' with c|c
      ·exact hall _ c
      ·rw[List.mem_singleton.mp c]
       exact hgood
   refine ⟨_,rfl,pw,_,1,_,rfl,rfl,SqL.of hpw5,zan (j:=1) e1,rfl,_,rfl,ite2 (fun g=>?_) (fun g=>?_)⟩
   ·have g':wAt ws 1=Str.ofString "none":=by simpa using g
    have e:strOV (escL (wAt ws 1))=.str (Str.ofString ""):=by unfold escL;rw[if_pos g'];rfl
    rw[e] at fin
    exact fin (by unfold lineG;rw[decide_eq_true g3,decide_eq_true g0,decide_eq_true g'];rfl)
   ·have g':¬wAt ws 1=Str.ofString "none":=by simpa using g
    have e:escL (wAt ws 1)=lrdS (wAt ws 1):=by unfold escL;rw[if_neg g']
    rw[e] at fin
    refine ⟨_,rfl,?_⟩
    cases hlr:lrdS (wAt ws 1) with
    |none=>
     rw[hlr] at fin
     exact ⟨rfl,_,rfl,ite2 (fun g=>by simp[strOV] at g) (fun _=>fin (by unfold lineG;rw[decide_eq_true g3,decide_eq_true g0,hlr];simp))⟩
    |some y=>
     rw[hlr] at fin
     refine ⟨rfl,_,rfl,ite2 (fun g=>?_) (fun g=>?_)⟩
     ·have gy:y=Str.ofString "":=by simpa [strOV] using g
      refine hR2 _ _ (bad ws hmem ?_ H5 S5)
      unfold lineG
      rw[decide_eq_false g',hlr,gy]
      simp
     ·have gy:¬y=Str.ofString "":=by simpa [strOV] using g
      refine fin ?_
      unfold lineG
      rw[decide_eq_true g3,decide_eq_true g0,hlr]
      simp[gy]
  ·rintro σ H3 ⟨u2,u3,u4,u5,u6,bv,rfl,sx3,hpb3,RB,hall⟩
   have hlen:(ls.map V.str).length=(zaI x).length:=by rw[eL,List.length_map,List.length_map]
   rw[hlen,List.take_length] at RB hall
   have S3:Same H H3:=fun b o e=>sx3 b o (zae e npb) (S1 b o e)
   have B3:=hB.same S3
   have hbl:bv.length≤20001:=by
    have:=RB.length
    rw[List.length_map,←hlen,List.length_map] at this
    omega
   have hallB:(zaI x).all lineG=true:=List.all_eq_true.mpr hall
   refine hU _ _ ⟨_,rfl,pb,bv,rfl,.inl ⟨SqL.of hpb3,fun l1 nl1=>⟨by show (2:Nat)≤_;omega,fun pl npl=>?_⟩⟩⟩
   have s4:=Same.new (o:=.tup bv) nl1
   have s5:=Same.new (o:=.lst [.non,.ref l1]) npl
   have S5:=s4.trans s5
   refine ⟨_,rfl,pb,bv,rfl,.inl ⟨SqL.of (S5 _ _ hpb3),fun l2 nl2=>?_⟩⟩
   have s6:=Same.new (o:=.tup bv) nl2
   have S6:=S5.trans s6
   refine ⟨z,_,.tup ((zaI x).map lineD),rfl,.tup zac ((B3.same S5).ne nl2) (RB.mono S6.x),fun H7 s7=>?_⟩
   have R1:Rep z H7 (.ref l1) (.tup ((zaI x).map lineD)):=.tup (s7 _ _ (s6 _ _ (s5 _ _ zac))) (B3.ne nl1) (RB.mono (S6.trans s7).x)
   have hpl:=s7 _ _ (s6 _ _ (zac (H:=upd H3 l1 (.tup bv)) (a:=pl) (o:=.lst [.non,.ref l1])))
   have SE:Same H H7:=(S3.trans S6).trans s7
   refine .inr ⟨_,rfl,?_⟩
   cases hb:bookD (.tup ((zaI x).map lineD)) with
   |false=>
    refine ⟨pl,_,0,_,rfl,rfl,SqL.of hpl,rfl,hR1 _ _ (q0 ?_ _ SE)⟩
    unfold dueD
    rw[hb,Bool.and_false]
    rfl
   |true=>
    refine ⟨pl,_,1,_,rfl,rfl,SqL.of hpl,rfl,hR1 _ _ (q1 (.tup ((zaI x).map lineD)) _ _ ?_ SE R1)⟩
    unfold dueD
    rw[hb,hallB]
    rfl
theorem zge {α:Type}(l:List α) (k:Nat):(l.drop (min k l.length)).take (l.length-min k l.length)=l.drop k:=by
 rw[List.take_of_length_le (by rw[List.length_drop];exact Nat.le_refl _)]
 by_cases h:k≤l.length
 ·rw[Nat.min_eq_left h]
 ·rw[Nat.min_eq_right (by omega),List.drop_of_length_le (Nat.le_refl _),List.drop_of_length_le (by omega)]
theorem cutA {xs:List V}(k:Nat):cutV xs none (some (k:Int))=xs.take k:=by
 have:=clipW xs 0 k
 unfold cutV
 rw[HT.sIx_nat]
 show (xs.drop 0).take (min k xs.length-0)=_
 simp
theorem cutB {xs:List V}(k:Nat):cutV xs (some (k:Int)) none=xs.drop k:=by
 unfold cutV
 rw[HT.sIx_nat]
 exact zge xs k
theorem cutC {xs:List V}(i k:Nat):cutV xs (some (i:Int)) (some ((i+k:Nat):Int))=(xs.drop i).take k:=by
 unfold cutV
 rw[HT.sIx_nat,HT.sIx_nat]
 exact clipW xs i k
theorem cutSA (x:Str) (k:Nat):(cutS x none (some (k:Int))).length≤min k x.length:=by
 unfold cutS
 rw[HT.sIx_nat]
 show (List.toArray _).size≤_
 rw[List.size_toArray,List.length_take]
 exact Nat.min_le_left _ _
theorem cutSB (x:Str) (k:Nat):(cutS x (some (k:Int)) none).length≤x.length-k:=by
 unfold cutS
 rw[HT.sIx_nat]
 show (List.toArray _).size≤_
 rw[List.size_toArray,←zaW x]
 show (List.take (x.cps.toList.length-min k x.cps.toList.length) (List.drop (min k x.cps.toList.length) x.cps.toList)).length≤_
 rw[zge,List.length_drop]
 exact Nat.le_refl _
theorem cutSC (x:Str) (i k:Nat):(cutS x (some (i:Int)) (some ((i+k:Nat):Int))).length≤min k (x.length-i):=by
 rw[←zaW,show ((i+k:Nat):Int)=(i:Int)+(k:Int) by omega,cutW,List.length_take,List.length_drop,zaW]
 exact Nat.le_refl _
theorem zbh (ws:List Str) (k:Nat):wt (ws.take k)+wt (ws.drop k)=wt ws:=by rw[←zb1,List.take_append_drop]
theorem zkU (ws:List Str):wt ws.reverse=wt ws:=by
 unfold wt
 rw[List.map_reverse,List.sum_reverse,List.length_reverse]
theorem zcH (ws:List Str) (k:Nat):(ws.map V.str).take k=(ws.take k).map V.str:=by rw[List.map_take]
theorem zcI (ws:List Str) (k:Nat):(ws.map V.str).drop k=(ws.drop k).map V.str:=by rw[List.map_drop]
inductive spMA:List V→Hp→VK→XK→Prop where
 |str {vs:List V} {H:Hp} {Q:VK} {E:XK} (z:Addr) (x y:Str) (c1:vs=[.ref z,.str x,.str y]) (c2:Bag z H) (c3:x.length≤10000) (c4:y.length≤10) (q:∀r H',Aft z H H'→r.length≤x.length+12→Q (.str r) H'):spMA vs H Q E
 |lst {vs:List V} {H:Hp} {Q:VK} {E:XK} (z a b:Addr) (ws ns:List Str) (c1:vs=[.ref z,.ref a,.ref b]) (c2:Bag z H) (c3:H a=some (.lst (ws.map V.str))) (c4:H b=some (.lst (ns.map V.str))) (c5:wt ws≤10001) (c6:wt ns≤10000) (na:a≠z) (nb:b≠z) (M:Nat) (m1:wt ws≤M) (m2:wt ns≤M)
  (q:∀p us H',Aft z H H'→H' p=some (.lst (us.map V.str))→wt us≤wt ws+M→Q (.ref p) H'):spMA vs H Q E
theorem scMA:zar ["bag","some","new","at","way"] ["bag","some","new"] (zag zck):=⟨rfl,rfl,rfl,by decide +kernel,rfl,by decide +kernel,by decide +kernel⟩
theorem zlf {f f1:Addr}{fd fd1:FuncData}(F:Fun K "_law_moved_about" "_law_moved_about" zck f fd) (T:Txt mg)
  (k1:W.keepIn K (.ref f1)=true) (b1:Binds K fd1 ["bag","many"] []) (m1:mg "_law_take"=some (.ref f1)) (G1:FnOk P w K mg base CX0 1 f1 fd1 ["bag","many"] zcU):FnOk P w K mg base CX0 2 f fd ["bag","some","new"] spMA:=by
 refine F.ok scMA (fun vs H Q E h=>?_) (fun cdv A outer s H vs Q E hr h=>?_)
 ·cases h with
  |str z x y c1=>rw[c1];rfl
  |lst z a b ws ns c1=>rw[c1];rfl
 ·have nd:=scMA.nd
  have hz:(100000:Nat)≤sizeLine:=by rw[sizeLine_eq];decide
  cases h with
  |str z x y c1 hB hx hy q=>
   subst c1
   refine ⟨_,(zad (zas (i:=3) nd rfl (Or.inl rfl) (zak G1 hr rfl m1 k1 b1 .nil pass0 (zaa (pv 0) (pa_B (zaw zaK (zap zaP (by rfl) T.len zbe (zaa (pv 1) zab)) zah) zab))))
    (zad (zas (i:=4) nd rfl (Or.inl rfl) (zak G1 hr rfl m1 k1 b1 .nil pass0 (zaa (pv 0) (pa_K zah zab))))
    (zad (zaL (zaq zbw (pv 4) zah (zax _)) (zaf (zam (zaw zaF (zaz zbL (pv 1) zaM (zaB (pv 3))) (zaz zbL (pv 1) (zaB (zaw zaK (pv 3) zah)) zaM)))) zau)
    (zad (zaL (zaq zbw (pv 4) zah (zax _)) (zaf (zam (zaw zaF (zaz zbL (pv 1) zaM (zaB (zaw zaK (pv 3) zah))) (zaz zbL (pv 1) (zaB (pv 3)) zaM)))) zau)
    (zad (zaL (zaq zbw (pv 4) zah (zax _)) (zaf (zam (zaw zaF (zaw zaF (zaz zbL (pv 1) zaM (zaB (pv 3))) (pv 2)) (zaz zbL (pv 1) (zaB (pv 3)) zaM)))) zau)
    (zad (zaL (zaq zbw (pv 4) zah (zax _)) (zaf (zam (zaw zaF (zaw zaF (zaz zbL (pv 1) zaM (zaB (pv 3))) (zjp (zaz zbL (pv 1) (zaB (pv 3)) (zaB (zaw zaK (pv 3) zah))) (zaB (ziZ zgI zah)))) (zaz zbL (pv 1) (zaB (zaw zaK (pv 3) zah)) zaM)))) zau)
    (zaf (zam (zaw zaF (zaw zaF (zaz zbL (pv 1) zaM (zaB (pv 3))) (pv 2)) (zaz zbL (pv 1) (zaB (zaw zaK (pv 3) zah)) zaM)))))))))),?_⟩
   refine zbs fun D1 _ hR1 _ _=>zaj fun U hU=>?_
   refine ⟨_,rfl,_,rfl,x,rfl,by omega,_,_,rfl,rfl,z,(x.length:Int)+1,rfl,hB,by omega,by omega,fun at_ H1 hat a1=>hU _ _ (zaj fun U hU=>?_)⟩
   refine ⟨_,rfl,z,5,rfl,a1.2,by decide,by decide,fun way H2 hway a2=>hU _ _ (zaj fun U hU=>?_)⟩
   have A2:=a1.trans a2
   have e1:(at_:Int)+1=((at_+1:Nat):Int):=by omega
   have e2:(at_:Int)+2=((at_+2:Nat):Int):=by omega
   have lA:=cutSA x at_
   have lA1:=cutSA x (at_+1)
   have lB:=cutSB x at_
   have lB1:=cutSB x (at_+1)
   have lB2:=cutSB x (at_+2)
   have lC:=cutSC x at_ 2
   have la:∀a b:Str,(a++b).length=a.length+b.length:=fun a b=>Array.size_append
   have fin:∀r,r.length≤x.length+12→D1.rt (.str r) H2:=fun r hr=>hR1 _ _ (q r H2 A2 hr)
   refine ⟨_,rfl,rfl,_,rfl,ite2 (fun _=>?_) (fun _=>hU _ _ (zaj fun U hU=>?_))⟩
   ·refine ⟨_,rfl,_,rfl,_,rfl,x,rfl,by omega,_,rfl,_,rfl,_,_,rfl,rfl,_,rfl,x,rfl,by omega,_,_,rfl,rfl,?_,?_⟩
    ·rw[e1];omega
    ·refine fin _ ?_
     rw[e1,la];omega
   refine ⟨_,rfl,rfl,_,rfl,ite2 (fun _=>?_) (fun _=>hU _ _ (zaj fun U hU=>?_))⟩
   ·refine ⟨_,rfl,_,rfl,_,_,rfl,rfl,_,rfl,x,rfl,by omega,_,rfl,_,rfl,_,rfl,x,rfl,by omega,_,_,rfl,rfl,?_,?_⟩
    ·rw[e1];omega
    ·refine fin _ ?_
     rw[e1,la];omega
   refine ⟨_,rfl,rfl,_,rfl,ite2 (fun _=>?_) (fun _=>hU _ _ (zaj fun U hU=>?_))⟩
   ·refine ⟨_,rfl,_,rfl,_,rfl,x,rfl,by omega,_,rfl,_,_,rfl,rfl,by omega,_,rfl,_,rfl,_,rfl,x,rfl,by omega,_,_,rfl,rfl,?_,?_⟩
    ·rw[la];omega
    ·refine fin _ ?_
     rw[la,la];omega
   refine ⟨_,rfl,rfl,_,rfl,ite2 (fun _=>?_) (fun _=>hU _ _ ?_)⟩
   ·refine ⟨_,rfl,_,rfl,_,rfl,x,rfl,by omega,_,rfl,_,rfl,_,rfl,_,rfl,_,_,rfl,rfl,_,rfl,x,rfl,by omega,1,rfl,_,rfl,rfl,_,rfl,?_,fun b hb=>?_⟩
    ·rw[e2];omega
    rw[e2] at hb
    refine ⟨_,_,rfl,rfl,by omega,_,rfl,_,rfl,_,_,rfl,rfl,_,rfl,x,rfl,by omega,_,_,rfl,rfl,?_,?_⟩
    ·rw[e2,la];omega
    ·refine fin _ ?_
     rw[e2,la,la];omega
   ·refine ⟨_,rfl,_,rfl,_,rfl,x,rfl,by omega,_,rfl,_,_,rfl,rfl,by omega,_,rfl,_,rfl,_,_,rfl,rfl,_,rfl,x,rfl,by omega,_,_,rfl,rfl,?_,?_⟩
    ·rw[e1,la];omega
    ·refine fin _ ?_
     rw[e1,la,la];omega
  |lst z a b ws ns c1 hB ha hb hw hn na nb M hM1 hM2 q=>
   subst c1
   refine ⟨_,(zad (zas (i:=3) nd rfl (Or.inl rfl) (zak G1 hr rfl m1 k1 b1 .nil pass0 (zaa (pv 0) (pa_B (zaw zaK (zap zav (by rfl) T.len zbe (zaa (pv 1) zab)) zah) zab))))
    (zad (zas (i:=4) nd rfl (Or.inl rfl) (zak G1 hr rfl m1 k1 b1 .nil pass0 (zaa (pv 0) (pa_K zah zab))))
    (zad (zaL (zaq zbw (pv 4) zah (zax _)) (zaf (zam (zaw zca (zaz zbn (pv 1) zaM (zaB (pv 3))) (zaz zbn (pv 1) (zaB (zaw zaK (pv 3) zah)) zaM)))) zau)
    (zad (zaL (zaq zbw (pv 4) zah (zax _)) (zaf (zam (zaw zca (zaz zbn (pv 1) zaM (zaB (zaw zaK (pv 3) zah))) (zaz zbn (pv 1) (zaB (pv 3)) zaM)))) zau)
    (zad (zaL (zaq zbw (pv 4) zah (zax _)) (zaf (zam (zaw zca (zaw zca (zaz zbn (pv 1) zaM (zaB (pv 3))) (pv 2)) (zaz zbn (pv 1) (zaB (pv 3)) zaM)))) zau)
    (zad (zaL (zaq zbw (pv 4) zah (zax _)) (zaf (zam (zaw zca (zaw zca (zaz zbn (pv 1) zaM (zaB (pv 3))) (zjh (zaz zbn (pv 1) (zaB (pv 3)) (zaB (zaw zaK (pv 3) zah))) (zaB (ziZ zgI zah)))) (zaz zbn (pv 1) (zaB (zaw zaK (pv 3) zah)) zaM)))) zau)
    (zaf (zam (zaw zca (zaw zca (zaz zbn (pv 1) zaM (zaB (pv 3))) (pv 2)) (zaz zbn (pv 1) (zaB (zaw zaK (pv 3) zah)) zaM)))))))))),?_⟩
   have hl:ws.length≤10001:=by unfold wt at hw;omega
   have hnl:ns.length≤10000:=by unfold wt at hn;omega
   have hml:(ws.map V.str).length=ws.length:=List.length_map ..
   refine zbs fun D1 _ hR1 _ _=>zaj fun U hU=>?_
   refine ⟨_,rfl,_,rfl,a,_,rfl,.inl (SqL.of ha),_,_,rfl,rfl,z,(ws.length:Int)+1,by rw[←hml];rfl,hB,by omega,by omega,fun at_ H1 hat a1=>hU _ _ (zaj fun U hU=>?_)⟩
   refine ⟨_,rfl,z,5,rfl,a1.2,by decide,by decide,fun way H2 hway a2=>hU _ _ (zaj fun U hU=>?_)⟩
   have A2:=a1.trans a2
   have e1:(at_:Int)+1=((at_+1:Nat):Int):=by omega
   have e2:(at_:Int)+2=((at_+2:Nat):Int):=by omega
   have ha2:=A2.1 _ _ na ha
   have hb2:=A2.1 _ _ nb hb
   have cl:∀lo hi,(cutV (ws.map V.str) lo hi).length≤10001:=fun lo hi=>Nat.le_trans (zdd _ _ _) (by rw[hml];exact hl)
   have w0:=zbh ws at_
   have w1:=zbh ws (at_+1)
   have w2:=zbh ws (at_+2)
   have w3:=zbh (ws.drop at_) 2
   rw[List.drop_drop] at w3
   have w4:=zbh (ws.drop at_) 1
   rw[List.drop_drop] at w4
   have fin:∀p (us:List Str) vs H',Same H2 H'→H' p=some (.lst vs)→vs=us.map V.str→wt us≤wt ws+M→D1.rt (.ref p) H':=fun p us vs H' s' hp ev hu=>hR1 _ _ (q p us H' (A2.same s') (by rw[hp,ev]) hu)
   clear hB ha hb a1 a2
   refine ⟨_,rfl,rfl,_,rfl,ite2 (fun _=>?_) (fun _=>hU _ _ (zaj fun U hU=>?_))⟩
   ·refine ⟨_,rfl,_,rfl,_,rfl,a,_,rfl,SqL.of ha2,fun p1 np1=>?_⟩
    have s1:=Same.new (o:=.lst (cutV (ws.map V.str) none (some (at_:Int)))) np1
    refine ⟨_,rfl,_,rfl,_,_,rfl,rfl,_,rfl,a,_,rfl,SqL.of (s1 _ _ ha2),fun p2 np2=>?_⟩
    have s2:=Same.new (o:=.lst (cutV (ws.map V.str) (some ((at_:Int)+1)) none)) np2
    have c1:=cl none (some (at_:Int))
    have c2:=cl (some ((at_:Int)+1)) none
    refine ⟨p1,p2,_,_,rfl,rfl,s2 _ _ zac,zac,by omega,fun p3 np3=>fin p3 (ws.take at_++ws.drop (at_+1)) _ _ ((s1.trans s2).trans (Same.new np3)) zac ?_ ?_⟩
    ·rw[e1,cutA,cutB,zcH,zcI,List.map_append]
    ·rw[zb1];omega
   refine ⟨_,rfl,rfl,_,rfl,ite2 (fun _=>?_) (fun _=>hU _ _ (zaj fun U hU=>?_))⟩
   ·refine ⟨_,rfl,_,rfl,_,_,rfl,rfl,_,rfl,a,_,rfl,SqL.of ha2,fun p1 np1=>?_⟩
    have s1:=Same.new (o:=.lst (cutV (ws.map V.str) none (some ((at_:Int)+1)))) np1
    refine ⟨_,rfl,_,rfl,_,rfl,a,_,rfl,SqL.of (s1 _ _ ha2),fun p2 np2=>?_⟩
    have s2:=Same.new (o:=.lst (cutV (ws.map V.str) (some (at_:Int)) none)) np2
    have c1:=cl none (some ((at_:Int)+1))
    have c2:=cl (some (at_:Int)) none
    refine ⟨p1,p2,_,_,rfl,rfl,s2 _ _ zac,zac,by omega,fun p3 np3=>fin p3 (ws.take (at_+1)++ws.drop at_) _ _ ((s1.trans s2).trans (Same.new np3)) zac ?_ ?_⟩
    ·rw[e1,cutA,cutB,zcH,zcI,List.map_append]
    ·rw[zb1];omega
   refine ⟨_,rfl,rfl,_,rfl,ite2 (fun _=>?_) (fun _=>hU _ _ (zaj fun U hU=>?_))⟩
   ·refine ⟨_,rfl,_,rfl,_,rfl,a,_,rfl,SqL.of ha2,fun p1 np1=>?_⟩
    have s1:=Same.new (o:=.lst (cutV (ws.map V.str) none (some (at_:Int)))) np1
    have c1:=cl none (some (at_:Int))
    have c2:=cl (some (at_:Int)) none
    refine ⟨_,rfl,p1,b,_,_,rfl,rfl,zac,s1 _ _ hb2,by rw[List.length_map];omega,fun p2 np2=>?_⟩
    have s2:=Same.new (o:=.lst (cutV (ws.map V.str) none (some (at_:Int))++ns.map V.str)) np2
    refine ⟨_,rfl,_,rfl,_,rfl,a,_,rfl,SqL.of (s2 _ _ (s1 _ _ ha2)),fun p3 np3=>?_⟩
    have s3:=Same.new (o:=.lst (cutV (ws.map V.str) (some (at_:Int)) none)) np3
    refine ⟨p2,p3,_,_,rfl,rfl,s3 _ _ zac,zac,by rw[List.length_append,List.length_map];omega,fun p4 np4=>fin p4 (ws.take at_++ns++ws.drop at_) _ _ (((s1.trans s2).trans s3).trans (Same.new np4)) zac ?_ ?_⟩
    ·rw[cutA,cutB,zcH,zcI,List.map_append,List.map_append]
    ·rw[zb1,zb1];omega
   refine ⟨_,rfl,rfl,_,rfl,ite2 (fun _=>?_) (fun _=>hU _ _ ?_)⟩
   ·refine ⟨_,rfl,_,rfl,_,rfl,a,_,rfl,SqL.of ha2,fun p1 np1=>?_⟩
    have s1:=Same.new (o:=.lst (cutV (ws.map V.str) none (some (at_:Int)))) np1
    have c1:=cl none (some (at_:Int))
    have c2:=cl (some (at_:Int)) (some ((at_:Int)+2))
    have c3:=cl (some ((at_:Int)+2)) none
    refine ⟨_,rfl,_,rfl,_,rfl,_,rfl,_,_,rfl,rfl,_,rfl,a,_,rfl,SqL.of (s1 _ _ ha2),fun p2 np2=>?_⟩
    have s2:=Same.new (o:=.lst (cutV (ws.map V.str) (some (at_:Int)) (some ((at_:Int)+2)))) np2
    refine ⟨1,rfl,_,rfl,rfl,p2,_,rfl,SqL.of zac,fun p3 np3=>?_⟩
    have s3:=Same.new (o:=.lst (cutV (ws.map V.str) (some (at_:Int)) (some ((at_:Int)+2))).reverse) np3
    refine ⟨p1,p3,_,_,rfl,rfl,s3 _ _ (s2 _ _ zac),zac,by rw[List.length_reverse];omega,fun p4 np4=>?_⟩
    have s4:=Same.new (o:=.lst (cutV (ws.map V.str) none (some (at_:Int))++(cutV (ws.map V.str) (some (at_:Int)) (some ((at_:Int)+2))).reverse)) np4
    refine ⟨_,rfl,_,rfl,_,_,rfl,rfl,_,rfl,a,_,rfl,SqL.of (s4 _ _ (s3 _ _ (s2 _ _ (s1 _ _ ha2)))),fun p5 np5=>?_⟩
    have s5:=Same.new (o:=.lst (cutV (ws.map V.str) (some ((at_:Int)+2)) none)) np5
    refine ⟨p4,p5,_,_,rfl,rfl,s5 _ _ zac,zac,by rw[List.length_append,List.length_reverse];omega,fun p6 np6=>fin p6 (ws.take at_++((ws.drop at_).take 2).reverse++ws.drop (at_+2)) _ _ (((((s1.trans s2).trans s3).trans s4).trans s5).trans (Same.new np6)) zac ?_ ?_⟩
    ·rw[e2,cutA,cutB,cutC]
     simp only[List.map_append,List.map_reverse,List.map_take,List.map_drop]
    ·rw[zb1,zb1,zkU];omega
   ·refine ⟨_,rfl,_,rfl,_,rfl,a,_,rfl,SqL.of ha2,fun p1 np1=>?_⟩
    have s1:=Same.new (o:=.lst (cutV (ws.map V.str) none (some (at_:Int)))) np1
    have c1:=cl none (some (at_:Int))
    have c2:=cl (some ((at_:Int)+1)) none
    refine ⟨_,rfl,p1,b,_,_,rfl,rfl,zac,s1 _ _ hb2,by rw[List.length_map];omega,fun p2 np2=>?_⟩
    have s2:=Same.new (o:=.lst (cutV (ws.map V.str) none (some (at_:Int))++ns.map V.str)) np2
    refine ⟨_,rfl,_,rfl,_,_,rfl,rfl,_,rfl,a,_,rfl,SqL.of (s2 _ _ (s1 _ _ ha2)),fun p3 np3=>?_⟩
    have s3:=Same.new (o:=.lst (cutV (ws.map V.str) (some ((at_:Int)+1)) none)) np3
    refine ⟨p2,p3,_,_,rfl,rfl,s3 _ _ zac,zac,by rw[List.length_append,List.length_map];omega,fun p4 np4=>fin p4 (ws.take at_++ns++ws.drop (at_+1)) _ _ (((s1.trans s2).trans s3).trans (Same.new np4)) zac ?_ ?_⟩
    ·rw[e1,cutA,cutB,zcH,zcI,List.map_append,List.map_append]
    ·rw[zb1,zb1];omega
inductive spSG:List V→Hp→VK→XK→Prop where
 |mk {vs:List V} {H:Hp} {Q:VK} {E:XK} (z:Addr) (c1:vs=[.ref z]) (c2:Bag z H) (q:∀r H',Aft z H H'→r.length≤10→Q (.str r) H'):spSG vs H Q E
inductive spSP:List V→Hp→VK→XK→Prop where
 |mk {vs:List V} {H:Hp} {Q:VK} {E:XK} (z:Addr) (x:Str) (c1:vs=[.ref z,.str x]) (c2:Bag z H) (c3:x.length≤9000) (q:∀r H',Aft z H H'→r.length≤2*x.length+30→Q (.str r) H'):spSP vs H Q E
theorem zkV (c:Nat){r:Nat}(h:r<6):∃y:Str,([.str ⟨#[c]⟩,.str (Str.ofString "\\"),.str (Str.ofString " "),.str (Str.ofString "0"),.str (Str.ofString "s"),.str (Str.ofString "1")]:List V)[r]?=some (.str y)∧y.length≤10:=by
 rcases (by omega:r=0∨r=1∨r=2∨r=3∨r=4∨r=5) with rfl|rfl|rfl|rfl|rfl|rfl
 ·exact ⟨_,rfl,by show 1≤10;decide⟩
 all_goals exact ⟨_,rfl,by decide +kernel⟩
theorem zkW {r:Nat}(h:r<10):∃y:Str,([.str (Str.ofString ""),.str (Str.ofString "none"),.str (Str.ofString "escape"),.str (Str.ofString "0"),.str (Str.ofString "1"),.str (Str.ofString "6"),.str (Str.ofString "a"),.str (Str.ofString "\\n"),.str (Str.ofString "\\x"),.str (Str.ofString "abcde")]:List V)[r]?=some (.str y)∧y.length≤10:=by
 rcases (by omega:r=0∨r=1∨r=2∨r=3∨r=4∨r=5∨r=6∨r=7∨r=8∨r=9) with rfl|rfl|rfl|rfl|rfl|rfl|rfl|rfl|rfl|rfl
 all_goals exact ⟨_,rfl,by decide +kernel⟩
theorem scSG:zar ["bag","signs"] ["bag"] (zag zfr):=⟨rfl,rfl,rfl,by decide +kernel,rfl,by decide +kernel,by decide +kernel⟩
theorem zlg {f f1:Addr}{fd fd1:FuncData}(F:Fun K "_law_sign_of" "_law_sign_of" zfr f fd) (T:Txt mg)
  (k1:W.keepIn K (.ref f1)=true) (b1:Binds K fd1 ["bag","many"] []) (m1:mg "_law_take"=some (.ref f1)) (G1:FnOk P w K mg base CX0 1 f1 fd1 ["bag","many"] zcU):FnOk P w K mg base CX0 2 f fd ["bag"] spSG:=by
 refine F.ok scSG (fun vs H Q E h=>?_) (fun cdv A outer s H vs Q E hr h=>?_)
 ·obtain ⟨z,rfl,_⟩:=h
  rfl
 ·obtain ⟨z,rfl,hB,q⟩:=h
  have nd:=scSG.nd
  refine ⟨_,zad (zas (i:=1) nd rfl (Or.inl rfl) zai)
   (zad (zas (i:=1) nd rfl (Or.inl rfl) (zaw zaF (pv 1) zai))
   (zaf (zam (zaC ix_list (zay (zaa (zaC zde (pv 1) (zak G1 hr rfl m1 k1 b1 .nil pass0 (zaa (pv 0) (zaa (zap zaP (by rfl) T.len zbe (zaa (pv 1) zab)) zab))) (fun _ _=>rfl)) (pa_K zai (pa_K zai (pa_K zai (pa_K zai (pa_K zai zab))))))) (zak G1 hr rfl m1 k1 b1 .nil pass0 (zaa (pv 0) (pa_K zah zab))) (fun _ _=>rfl))))),?_⟩
  dsimp only[cxOf,Cx.nox,Cx.wish]
  have hz:(100000:Nat)≤sizeLine:=by rw[sizeLine_eq];decide
  refine zbs fun D1 _ hR1 _ _=>zaj fun U hU=>?_
  refine hU _ _ (zaj fun U hU=>?_)
  refine ⟨_,rfl,_,_,rfl,rfl,by decide +kernel,hU _ _ ?_⟩
  have hlen:(Str.ofString " !\"#$&'()*+,-./0123456789:;<=>?@ABCDEFGHIJKLMNOPQRSTUVWXYZ[\\]^_`"++Str.ofString "abcdefghijklmnopqrstuvwxyz{|}~\n").length=95:=by decide +kernel
  generalize Str.ofString " !\"#$&'()*+,-./0123456789:;<=>?@ABCDEFGHIJKLMNOPQRSTUVWXYZ[\\]^_`"++Str.ofString "abcdefghijklmnopqrstuvwxyz{|}~\n"=sg at hlen ⊢
  refine ⟨_,rfl,_,rfl,_,rfl,sg,rfl,by omega,z,(sg.length:Int),rfl,hB,by omega,by omega,fun r1 H1 h1 a1=>?_⟩
  have h1':r1<sg.cps.toList.length:=by rw[zaW];omega
  refine ⟨sg,r1,sg.cps.toList[r1],rfl,rfl,by omega,zan (by rw[List.getElem?_eq_getElem h1']),by show (6:Nat)≤_;omega,fun p np=>?_⟩
  generalize sg.cps.toList[r1]=c
  have A2:=a1.new (o:=.lst [.str ⟨#[c]⟩,.str (Str.ofString "\\"),.str (Str.ofString " "),.str (Str.ofString "0"),.str (Str.ofString "s"),.str (Str.ofString "1")]) np
  have hp:upd H1 p (.lst [.str ⟨#[c]⟩,.str (Str.ofString "\\"),.str (Str.ofString " "),.str (Str.ofString "0"),.str (Str.ofString "s"),.str (Str.ofString "1")]) p=some (.lst [.str ⟨#[c]⟩,.str (Str.ofString "\\"),.str (Str.ofString " "),.str (Str.ofString "0"),.str (Str.ofString "s"),.str (Str.ofString "1")]):=zac
  have npz:p≠z:=a1.2.ne np
  refine ⟨_,rfl,z,6,rfl,A2.2,by decide,by decide,fun r2 H3 h3 a3=>?_⟩
  obtain ⟨y,ey,ly⟩:=zkV c (r:=r2) (by omega)
  exact ⟨p,_,(r2:Int),_,rfl,rfl,SqL.of (a3.1 _ _ npz hp),zan ey,hR1 _ _ (q y _ (A2.trans a3) ly)⟩
theorem zjW {ls:List Str}(h:ls≠[]):∃l,l∈ls∧atI (ls.map V.str) (-1)=some (.str l):=by
 refine ⟨ls.getLast h,List.getLast_mem h,?_⟩
 have hl:0<ls.length:=List.length_pos_iff.mpr h
 have e1:ixN (ls.map V.str).length (-1)=some (ls.length-1):=by
  unfold ixN
  rw[if_neg (by decide),List.length_map,if_pos (by omega)]
  congr 1
  omega
 unfold atI
 rw[e1]
 show (ls.map V.str)[ls.length-1]?=_
 rw[List.getElem?_map,List.getLast_eq_getElem,List.getElem?_eq_getElem (by omega)]
 rfl
theorem zjX (l:Str){r:Nat}(h:r<4):∃y:Str,([.str (Str.ofString ""),.str (Str.ofString "escape none"),.str (Str.ofString "escape ~"),.str l]:List V)[r]?=some (.str y)∧y.length≤l.length+11:=by
 have a1:(Str.ofString "").length≤11:=by decide +kernel
 have a2:(Str.ofString "escape none").length≤11:=by decide +kernel
 have a3:(Str.ofString "escape ~").length≤11:=by decide +kernel
 rcases (by omega:r=0∨r=1∨r=2∨r=3) with rfl|rfl|rfl|rfl
 ·exact ⟨_,rfl,by omega⟩
 ·exact ⟨_,rfl,by omega⟩
 ·exact ⟨_,rfl,by omega⟩
 ·exact ⟨_,rfl,by omega⟩
theorem scSP:zar ["bag","text","way","some","lines"] ["bag","text"] (zag zfs):=⟨rfl,rfl,rfl,by decide +kernel,rfl,by decide +kernel,by decide +kernel⟩
theorem zlh {f f1 f2 f3:Addr}{fd fd1 fd2 fd3:FuncData}(F:Fun K "_law_spoilt" "_law_spoilt" zfs f fd)
  (k1:W.keepIn K (.ref f1)=true) (b1:Binds K fd1 ["bag","many"] []) (m1:mg "_law_take"=some (.ref f1)) (G1:FnOk P w K mg base CX0 1 f1 fd1 ["bag","many"] zcU)
  (k2:W.keepIn K (.ref f2)=true) (b2:Binds K fd2 ["bag"] []) (m2:mg "_law_sign_of"=some (.ref f2)) (G2:FnOk P w K mg base CX0 2 f2 fd2 ["bag"] spSG)
  (k3:W.keepIn K (.ref f3)=true) (b3:Binds K fd3 ["bag","some","new"] []) (m3:mg "_law_moved_about"=some (.ref f3)) (G3:FnOk P w K mg base CX0 2 f3 fd3 ["bag","some","new"] spMA):FnOk P w K mg base CX0 3 f fd ["bag","text"] spSP:=by
 refine F.ok scSP (fun vs H Q E h=>?_) (fun cdv A outer s H vs Q E hr h=>?_)
 ·obtain ⟨z,x,rfl,_⟩:=h
  rfl
 ·obtain ⟨z,x,rfl,hB,hx,q⟩:=h
  have nd:=scSP.nd
  have hr1:Room 1 _:=hr.mono (by decide)
  refine ⟨_,zad (zas (i:=2) nd rfl (Or.inl rfl) (zak G1 hr1 rfl m1 k1 b1 .nil pass0 (zaa (pv 0) (pa_K zah zab))))
   (zad (zaL (zaq zbw (pv 2) zah (zax _)) (zaf (zam (zak G3 hr rfl m3 k3 b3 .nil pass0 (zaa (pv 0) (zaa (pv 1) (zaa (zak G2 hr rfl m2 k2 b2 .nil pass0 (zaa (pv 0) zab)) zab)))))) zau)
   (zad (zaL (zaq zbw (pv 2) zah (zax _))
    (zad (zas (i:=3) nd rfl (Or.inl rfl) (zay (pa_K zai (pa_K zai (pa_K zai (pa_K zai (pa_K zai (pa_K zai (pa_K zai (pa_K zai (pa_K zai (pa_K zai zab))))))))))))
    (zaf (zam (zbi PySem.F.plainAttrs_str PySem.F.slot_str_join PySem.F.type_str_join zbt zai (zaa (zak G3 hr rfl m3 k3 b3 .nil pass0 (zaa (pv 0) (zaa (zbi PySem.F.plainAttrs_str PySem.F.slot_str_split PySem.F.type_str_split zbG (pv 1) (zaa zai zab)) (pa_L (zay (zaa (zaC ix_list (pv 3) (zak G1 hr1 rfl m1 k1 b1 .nil pass0 (zaa (pv 0) (pa_K zah zab))) (fun _ _=>rfl)) zab)) zab)))) zab))))) zau)
   (zad (zas (i:=4) nd rfl (Or.inl rfl) (zbi PySem.F.plainAttrs_str PySem.F.slot_str_split PySem.F.type_str_split zbG (pv 1) (zaa zai zab)))
   (zaf (zam (zbi PySem.F.plainAttrs_str PySem.F.slot_str_join PySem.F.type_str_join zbt zai (zaa (zak G3 hr rfl m3 k3 b3 .nil pass0 (zaa (pv 0) (zaa (pv 4) (pa_L (zay (zaa (zaC ix_list (zay (pa_K zai (pa_K zai (pa_K zai (zaa (zaC ix_list (pv 4) (ziZ zgI zah) (fun _ _=>rfl)) zab))))) (zak G1 hr1 rfl m1 k1 b1 .nil pass0 (zaa (pv 0) (pa_K zah zab))) (fun _ _=>rfl)) zab)) zab)))) zab))))))),?_⟩
  dsimp only[cxOf,Cx.nox,Cx.wish]
  have hz:(100000:Nat)≤sizeLine:=by rw[sizeLine_eq];decide
  refine zbs fun D1 _ hR1 _ _=>zaj fun U hU=>?_
  refine ⟨_,rfl,z,3,rfl,hB,by decide,by decide,fun way H1 hw1 a1=>hU _ _ (zaj fun U hU=>?_)⟩
  refine ⟨_,rfl,rfl,_,rfl,ite2 (fun _=>?_) (fun _=>hU _ _ (zaj fun U hU=>?_))⟩
  ·refine ⟨_,rfl,_,rfl,_,rfl,z,rfl,a1.2,fun y H2 a2 hy=>?_⟩
   exact .str z x y rfl a2.2 (by omega) hy fun r H3 a3 hr=>hR1 _ _ (q r H3 ((a1.trans a2).trans a3) (by omega))
  refine ⟨_,rfl,rfl,_,rfl,ite2 (fun _=>?_) (fun _=>hU _ _ (zaj fun U hU=>?_))⟩
  ·show (tSeq _ _) _ _ _
   refine zaj fun U hU=>?_
   refine ⟨by show (10:Nat)≤_;omega,fun p np=>hU _ _ ?_⟩
   obtain ⟨L10,eL⟩:∃l:List V,l=[.str (Str.ofString ""),.str (Str.ofString "none"),.str (Str.ofString "escape"),.str (Str.ofString "0"),.str (Str.ofString "1"),.str (Str.ofString "6"),.str (Str.ofString "a"),.str (Str.ofString "\\n"),.str (Str.ofString "\\x"),.str (Str.ofString "abcde")]:=⟨_,rfl⟩
   rw[←eL]
   have A2:=a1.new (o:=.lst L10) np
   have hp:upd H1 p (.lst L10) p=some (.lst L10):=zac
   have npz:p≠z:=a1.2.ne np
   generalize upd H1 p (.lst L10)=H2 at A2 hp ⊢
   have wtx:=zaZ x (Str.ofString " ") (by decide +kernel)
   refine ⟨rfl,_,rfl,_,rfl,rfl,x,_,rfl,rfl,by decide +kernel,by omega,fun pa npa=>?_⟩
   have A3:=A2.new (o:=.lst ((Txt.split x (Str.ofString " ")).map V.str)) npa
   have hpa:upd H2 pa (.lst ((Txt.split x (Str.ofString " ")).map V.str)) pa=some (.lst ((Txt.split x (Str.ofString " ")).map V.str)):=zac
   have hp3:=Same.new (o:=.lst ((Txt.split x (Str.ofString " ")).map V.str)) npa _ _ hp
   have npaz:pa≠z:=A2.2.ne npa
   generalize Txt.split x (Str.ofString " ")=ws at *
   generalize upd H2 pa (.lst (ws.map V.str))=H3 at A3 hpa hp3 ⊢
   refine ⟨_,rfl,_,rfl,z,10,rfl,A3.2,by decide,by decide,fun r H4 hr4 a4=>?_⟩
   obtain ⟨y,ey,ly⟩:=zkW (r:=r) (by omega)
   rw[←eL] at ey
   refine ⟨p,_,(r:Int),_,rfl,rfl,SqL.of (a4.1 _ _ npz hp3),zan ey,by show (1:Nat)≤_;omega,fun pn npn=>?_⟩
   have A4:=A3.trans a4
   have s5:=Same.new (o:=.lst ([y].map V.str)) npn
   have wy:wt [y]=y.length+0+1:=rfl
   have hw:wt ws≤x.length+1:=wtx
   refine .lst z pa pn ws [y] rfl (A4.2.same s5) (s5 _ _ (a4.1 _ _ npaz hpa)) zac (by omega) (by omega) npaz (A4.2.ne npn) (x.length+20) (by omega) (by omega) fun pr us H6 a6 hpr hus=>?_
   have jl:=zel (Str.ofString " ") (by decide +kernel) us
   refine ⟨_,pr,us,rfl,rfl,SqL.of hpr,by decide +kernel,by unfold wt at hus hw;omega,hR1 _ _ (q _ H6 ((A4.new npn).trans a6) (by omega))⟩
  ·have wtx:=zaZ x (Str.ofString "\n") (by decide +kernel)
   have hne:=zc2 x (Str.ofString "\n")
   have hps:∀q∈Txt.split x (Str.ofString "\n"),q.length≤x.length:=fun q hq=>PyProof.Rows.part_short hq
   refine ⟨_,rfl,rfl,x,_,rfl,rfl,by decide +kernel,by omega,fun pa npa=>hU _ _ ?_⟩
   have A3:=a1.new (o:=.lst ((Txt.split x (Str.ofString "\n")).map V.str)) npa
   have hpa:upd H1 pa (.lst ((Txt.split x (Str.ofString "\n")).map V.str)) pa=some (.lst ((Txt.split x (Str.ofString "\n")).map V.str)):=zac
   have npaz:pa≠z:=a1.2.ne npa
   generalize Txt.split x (Str.ofString "\n")=ws at *
   generalize upd H1 pa (.lst (ws.map V.str))=H3 at A3 hpa ⊢
   obtain ⟨ll,hll,eat⟩:=zjW hne
   have lll:=hps ll hll
   refine ⟨rfl,_,rfl,_,rfl,_,rfl,1,rfl,pa,_,-1,_,rfl,rfl,SqL.of hpa,eat,by show (4:Nat)≤_;omega,fun p4 np4=>?_⟩
   have A4:=A3.new (o:=.lst [.str (Str.ofString ""),.str (Str.ofString "escape none"),.str (Str.ofString "escape ~"),.str ll]) np4
   have hp4:upd H3 p4 (.lst [.str (Str.ofString ""),.str (Str.ofString "escape none"),.str (Str.ofString "escape ~"),.str ll]) p4=some (.lst [.str (Str.ofString ""),.str (Str.ofString "escape none"),.str (Str.ofString "escape ~"),.str ll]):=zac
   have hpa4:=Same.new (o:=.lst [.str (Str.ofString ""),.str (Str.ofString "escape none"),.str (Str.ofString "escape ~"),.str ll]) np4 _ _ hpa
   have np4z:p4≠z:=A3.2.ne np4
   generalize upd H3 p4 (.lst [.str (Str.ofString ""),.str (Str.ofString "escape none"),.str (Str.ofString "escape ~"),.str ll])=H4 at A4 hp4 hpa4 ⊢
   refine ⟨_,rfl,z,4,rfl,A4.2,by decide,by decide,fun r H5 hr5 a5=>?_⟩
   obtain ⟨y,ey,ly⟩:=zjX ll (r:=r) (by omega)
   refine ⟨p4,_,(r:Int),_,rfl,rfl,SqL.of (a5.1 _ _ np4z hp4),zan ey,by show (1:Nat)≤_;omega,fun pn npn=>?_⟩
   have A5:=A4.trans a5
   have s6:=Same.new (o:=.lst ([y].map V.str)) npn
   have wy:wt [y]=y.length+0+1:=rfl
   have hw:wt ws≤x.length+1:=wtx
   refine .lst z pa pn ws [y] rfl (A5.2.same s6) (s6 _ _ (a5.1 _ _ npaz hpa4)) zac (by omega) (by omega) npaz (A5.2.ne npn) (x.length+20) (by omega) (by omega) fun pr us H6 a6 hpr hus=>?_
   have jl:=zel (Str.ofString "\n") (by decide +kernel) us
   refine ⟨_,pr,us,rfl,rfl,SqL.of hpr,by decide +kernel,by unfold wt at hus hw;omega,hR1 _ _ (q _ H6 ((A5.new npn).trans a6) (by omega))⟩
def nmK:List (Key×V):=[(.inr (Str.ofString " "),.str (Str.ofString "\\s")),(.inr (Str.ofString "\n"),.str (Str.ofString "\\n")),(.inr (Str.ofString "\\"),.str (Str.ofString "\\\\"))]
theorem ziA:zcx [] nmK=nmK:=by
 have e1:(Sum.inr (Str.ofString " "):Key)≠.inr (Str.ofString "\n"):=by decide +kernel
 have e2:(Sum.inr (Str.ofString " "):Key)≠.inr (Str.ofString "\\"):=by decide +kernel
 have e3:(Sum.inr (Str.ofString "\n"):Key)≠.inr (Str.ofString "\\"):=by decide +kernel
 simp[zcx,nmK,putK,e1,e2,e3,e1.symm,e2.symm,e3.symm]
theorem zkX (c:Nat):(valV nmK (.inr ⟨#[c]⟩)).getD (.str ⟨#[c]⟩)=.str ⟨(escC c).toArray⟩:=by
 unfold valV nmK
 rw[ofs1,ofs2,ofs3,ofs4,ofs5,ofs6]
 by_cases h2:c=32
 ·subst h2;rfl
 by_cases h3:c=10
 ·subst h3;rfl
 by_cases h1:c=92
 ·subst h1;rfl
 have n:∀k:Nat,c≠k→decide ((Sum.inr (⟨#[k]⟩:Str):Key)=.inr ⟨#[c]⟩)=false:=fun k hk=>by
  rw[decide_eq_false_iff_not]
  intro z
  injection z with z
  injection z with z
  injection z with z
  injection z with z
  exact hk z.symm
 rw[zft h1 h2 h3]
 simp only[List.find?_cons,List.find?_nil,n 32 h2,n 10 h3,n 92 h1]
 rfl
inductive spLW:List V→Hp→VK→XK→Prop where
 |mk {vs:List V} {H:Hp} {Q:VK} {E:XK} (x:Str) (c1:vs=[.str x]) (c2:x.length≤20000) (c3:∀H',Same H H'→Q (.str (encS x)) H'):spLW vs H Q E
theorem zcJ:∀ps:List (List Nat),zaA [] ps=ps.flatten
 |[]=>rfl
 |[p]=>by simp[zaA]
 |p::q::r=>by
  have ih:=zcJ (q::r)
  have e:zaA [] (p::q::r)=p++[]++zaA [] (q::r):=rfl
  rw[e,ih]
  simp
theorem ziB (x:Str):Str.join (Str.ofString "") (x.cps.toList.map fun c=>(⟨(escC c).toArray⟩:Str))=encS x:=by
 refine zbz ?_
 rw[zbg,List.map_map]
 have e0:(Str.ofString "").cps.toList=[]:=by decide +kernel
 rw[e0,zcJ,zbD]
 unfold encL
 rw[List.flatMap_def]
 rfl
theorem zjY (c:Nat):(escC c).length≤2:=by unfold escC;split<;>(try split)<;>(try split)<;>simp
theorem scLW:zar ["signs","names"] ["signs"] (zag zc1):=⟨rfl,rfl,rfl,by decide +kernel,rfl,by decide +kernel,by decide +kernel⟩
theorem ndSN:(["sign","names"]:List Str).Nodup:=by decide +kernel
theorem zli {f:Addr}{fd:FuncData}(F:Fun K "_law_written" "_law_written" zc1 f fd):FnOk P w K mg base CX0 1 f fd ["signs"] spLW:=by
 refine F.ok scLW (fun vs H Q E h=>?_) (fun cdv A outer s H vs Q E hr h=>?_)
 ·obtain ⟨x,rfl,_⟩:=h
  rfl
 ·obtain ⟨x,rfl,hx,k⟩:=h
  have nd:=scLW.nd
  refine ⟨_,zad (zas (i:=1) nd rfl (Or.inr rfl) (zha (zb4 zai zai (zb4 zai zai (zb4 zai zai zg9))) rfl rfl (by intro z;cases z) (by decide)))
   (zaf (zam (zbi PySem.F.plainAttrs_str PySem.F.slot_str_join PySem.F.type_str_join zbt zai (zaa (za1 (N':=["sign","names"]) (js:=[none,some 1]) rfl rfl (za3 (zag zc1) (by decide +kernel)) ⟨rfl,Or.inr (Or.inl rfl),rfl,trivial⟩ (zeE (pv 0)) (fun cl s H fp=>zal (i:=0) ndSN rfl (Or.inl rfl)) (fun cl s H fp=>zaS)
    (fun cl s H fp=>zh9 (zke hr) (pv 1) (pv 0) (pv 0) ⟨rfl,rfl,rfl,rfl⟩)) zab)))),?_⟩
  dsimp only[cxOf,Cx.nox,Cx.wish]
  have hz:(100000:Nat)≤sizeLine:=by rw[sizeLine_eq];decide
  refine fun p np=>⟨zac,nmK,rfl,by decide,?_⟩
  rw[ziA]
  have S1:Same H (upd (upd H p (.dK [])) p (.dK nmK)):=fun b o e=>by rw[zat (zae e np),zat (zae e np)];exact e
  have hp:upd (upd H p (.dK [])) p (.dK nmK) p=some (.dK nmK):=zac
  generalize upd (upd H p (.dK [])) p (.dK nmK)=H1 at S1 hp ⊢
  refine ⟨rfl,_,rfl,_,rfl,fun pC npC=>?_⟩
  refine zbk (fun i=>.str ⟨(escC (x.cps.getD i 0)).toArray⟩) (fun σ=>∃v,σ=[v,some (.ref p)]) ⟨none,rfl⟩ npC (by show x.length≤_;omega) zcv (fun i σ H2 C hi ⟨v,hv⟩ hS hC=>?_) (fun σ H2 hS hH=>?_)
  ·subst hv
   have hC':=hC [some (.str ⟨#[x.cps.getD i 0]⟩),some (.ref p)] H2 ⟨_,rfl⟩ (Same.refl _)
   rw[←zkX] at hC'
   have hp2:=hS _ _ hp
   exact ⟨_,rfl,p,rfl,.inl ⟨_,.inl hp2⟩,_,rfl,_,rfl,_,.inl ⟨nmK,.inr ⟨#[x.cps.getD i 0]⟩,.inl hp2,rfl,rfl⟩,hC'⟩
  ·have em:(List.range x.cps.size).map (fun i=>V.str ⟨(escC (x.cps.getD i 0)).toArray⟩)=(x.cps.toList.map fun c=>(⟨(escC c).toArray⟩:Str)).map V.str:=by
    rw[List.map_map,←range_map 0 _ x.cps.toList]
    refine List.map_congr_left fun i hi=>?_
    simp
   rw[em] at hH
   rw[←ziB] at k
   have hwt:((x.cps.toList.map fun c=>(⟨(escC c).toArray⟩:Str)).map (·.length)).sum≤2*x.cps.toList.length:=by
    rw[List.map_map]
    generalize x.cps.toList=l
    induction l with
    |nil=>exact Nat.le_refl _
    |cons c r ih=>
     have:=zjY c
     rw[List.map_cons,List.sum_cons,List.length_cons]
     show (escC c).length+_≤_
     omega
   rw[zaW] at hwt
   exact ⟨_,pC,_,rfl,rfl,SqL.of hH,by decide +kernel,by rw[List.length_map,zaW];omega,k _ (S1.trans hS)⟩
theorem zjZ {e:Str}:(if decide (V.str e=V.str (Str.ofString ""))=true then Str.ofString "none" else encS e)=escW e:=by
 by_cases h:e=Str.ofString ""
 ·rw[if_pos (by simpa using h)]
  unfold escW
  rw[if_pos (by rw[h];decide +kernel)]
 ·rw[if_neg (by simpa using h)]
  unfold escW
  rw[if_neg (fun z=>h (zbE (zep z)))]
theorem zkY {e:Str}:atI ([.str (encS e),.str (Str.ofString "none")]:List V) (if decide (V.str e=V.str (Str.ofString ""))=true then 1 else 0)=some (V.str (escW e)):=by
 rw[←zjZ]
 split
 ·exact zan (j:=1) rfl
 ·exact zan (j:=0) rfl
theorem scLBT:zar ["book","lines","escape","doors","words","mark","inner","close"] ["book"] (zag zdo):=⟨rfl,rfl,rfl,by decide +kernel,rfl,by decide +kernel,by decide +kernel⟩
theorem zkZ {f f1:Addr}{fd fd1:FuncData}(F:Fun K "_law_book_text" "_law_book_text" zdo f fd) (T:Txt mg)
  (k1:W.keepIn K (.ref f1)=true) (b1:Binds K fd1 ["signs"] []) (m1:mg "_law_written"=some (.ref f1)) (G1:FnOk P w K mg base CX0 1 f1 fd1 ["signs"] spLW):FnOk P w K mg base CX0 2 f fd ["book"] spBT:=by
 refine F.ok scLBT (fun vs H Q E h=>?_) (fun cdv A outer s H vs Q E hr h=>?_)
 ·obtain ⟨z,v,b,rfl,_⟩:=h
  rfl
 ·obtain ⟨z,v,b,rfl,R,ht,hb6,k⟩:=h
  have nd:=scLBT.nd
  refine ⟨_,zad (zas (i:=1) nd rfl (Or.inl rfl) (zay zab))
   (zad (zbm PassesOwn.never rfl (za6 (pv 0)) (zbQ rfl (zao (zal (i:=2) nd rfl (Or.inl rfl)) (zao (zal (i:=3) nd rfl (Or.inl rfl)) za2)))
    (zad (zas (i:=4) nd rfl (Or.inl rfl) (zay (pa_K zai (zaa (zaC ix_list (zay (zaa (zak G1 hr rfl m1 k1 b1 .nil pass0 (zaa (pv 2) zab)) (pa_K zai zab))) (zaG zdc (by rfl) T.int zgo (zaa (zbT zbw (pv 2) zai (zax _)) zab)) (fun _ _=>rfl)) zab))))
    (zad (zbm PassesOwn.never rfl (za6 (pv 3)) (zbQ rfl (zao (zal (i:=5) nd rfl (Or.inl rfl)) (zao (zal (i:=6) nd rfl (Or.inl rfl)) (zao (zal (i:=7) nd rfl (Or.inl rfl)) za2))))
     (zaf (zas (i:=4) nd rfl (Or.inl rfl) (zaw zca (pv 4) (zay (zaa (zak G1 hr rfl m1 k1 b1 .nil pass0 (zaa (pv 5) zab)) (zaa (zaG zbU (by rfl) T.str zgn (zaa (pv 6) zab)) (zaa (zak G1 hr rfl m1 k1 b1 .nil pass0 (zaa (pv 7) zab)) zab))))))))
    (zaf (zbP (zbi PySem.F.plainAttrs_list PySem.F.slot_list_append PySem.F.type_list_append zbd (pv 1) (zaa (zbi PySem.F.plainAttrs_str PySem.F.slot_str_join PySem.F.type_str_join zbt zai (zaa (pv 4) zab)) zab)))))))
   (zaf (zam (zbi PySem.F.plainAttrs_str PySem.F.slot_str_join PySem.F.type_str_join zbt zai (zaa (pv 1) zab))))),?_⟩
  dsimp only[cxOf,Cx.nox,Cx.wish]
  have hz:(100000:Nat)≤sizeLine:=by rw[sizeLine_eq];decide
  obtain ⟨a,xs,rfl,haz,ha,hl,Rb⟩:=zb5 R
  refine zbs fun D1 _ hR1 _ _=>zaj fun U hU=>?_
  refine ⟨Nat.zero_le _,fun p np=>hU _ _ (zaj fun U hU=>?_)⟩
  have s0:=Same.new (o:=.lst []) np
  have hp0:upd H p (.lst []) p=some (.lst []):=zac
  generalize upd H p (.lst [])=H1 at s0 hp0 ⊢
  refine ⟨_,rfl,a,rfl,⟨_,SqT.of (s0 _ _ ha)⟩,zcd (K:=K) (a:=a) (xs:=xs) (fun i σ H2=>∃u2 u3 u4 u5 u6 u7,σ=[some (.ref a),some (.ref p),u2,u3,u4,u5,u6,u7]∧SameX p H1 H2∧H2 p=some (.lst (((b.take i).map lineS).map V.str)))
   ⟨none,none,none,none,none,none,rfl,.refl,by rw[hp0];simp⟩ (fun i σ H2 _ ⟨_,_,_,_,_,_,_,s2,_⟩=>SqT.of (s2 _ _ (zae ha np) (s0 _ _ ha))) ?_ ?_⟩
  ·rintro i y σ H2 hi ⟨u2,u3,u4,u5,u6,u7,rfl,s2,hp2⟩
   have hil:i<b.length:=by have:=(List.getElem?_eq_some_iff.mp hi).1;omega
   have ey:y=xs.getD i .non:=by rw[List.getD_eq_getElem?_getD,hi];rfl
   have S02:∀b o,H b=some o→H2 b=some o:=fun b o e=>s2 b o (zae e np) (s0 b o e)
   obtain ⟨c,d,ys,e,hcz,hdz,hc,hd,hyl,Rd⟩:=zaO (zaJ (b:=b) Rb hil)
   have htw:=ht _ (show b.getD i (⟨#[]⟩,[])∈b by rw[List.getD_eq_getElem?_getD,List.getElem?_eq_getElem hil];exact List.getElem_mem hil)
   have etake:b.take (i+1)=b.take i++[b.getD i (⟨#[]⟩,[])]:=by rw[List.take_succ,List.getElem?_eq_getElem hil,List.getD_eq_getElem?_getD,List.getElem?_eq_getElem hil];rfl
   rw[ey,e,etake]
   have hbl:(b.take i).length≤6:=by rw[List.length_take];omega
   generalize b.getD i (⟨#[]⟩,[])=t at *
   generalize b.take i=bt at *
   obtain ⟨h1,h2,h3⟩:=id htw
   refine ⟨c,_,rfl,SqT.of (S02 _ _ hc),rfl,_,_,rfl,_,_,rfl,rfl,?_⟩
   show (tSeq _ _) _ _ _
   refine zbs fun D2 hD2 _ _ _=>zaj fun U2 hU2=>?_
   refine ⟨_,rfl,t.1,rfl,by omega,fun H3 s3=>⟨by show (2:Nat)≤_;omega,fun l nl=>⟨_,rfl,rfl,.inr ⟨_,rfl,?_⟩⟩⟩⟩
   have s4:=Same.new (o:=.lst [.str (encS t.1),.str (Str.ofString "none")]) nl
   have hl4:upd H3 l (.lst [.str (encS t.1),.str (Str.ofString "none")]) l=some (.lst [.str (encS t.1),.str (Str.ofString "none")]):=zac
   generalize upd H3 l (.lst [.str (encS t.1),.str (Str.ofString "none")])=H4 at s4 hl4 ⊢
   refine ⟨l,_,_,_,rfl,rfl,SqL.of hl4,zkY,by show (2:Nat)≤_;omega,fun q nq=>hU2 _ _ (zaj fun U2 hU2=>?_)⟩
   have s5:=Same.new (o:=.lst [.str (Str.ofString "escape"),.str (escW t.1)]) nq
   have hq5:upd H4 q (.lst [.str (Str.ofString "escape"),.str (escW t.1)]) q=some (.lst [.str (Str.ofString "escape"),.str (escW t.1)]):=zac
   have S5:∀b o,H b=some o→upd H4 q (.lst [.str (Str.ofString "escape"),.str (escW t.1)]) b=some o:=fun b o e=>s5 b o (s4 b o (s3 b o (S02 b o e)))
   have hp5:=s5 _ _ (s4 _ _ (s3 _ _ hp2))
   have hqp:q≠p:=(zae (s4 _ _ (s3 _ _ hp2)) nq).symm
   have X5:SameX p H1 (upd H4 q (.lst [.str (Str.ofString "escape"),.str (escW t.1)])):=fun b o hb e=>s5 b o (s4 b o (s3 b o (s2 b o hb e)))
   generalize upd H4 q (.lst [.str (Str.ofString "escape"),.str (escW t.1)])=H5 at s5 hq5 S5 hp5 X5 ⊢
   refine ⟨_,rfl,d,rfl,⟨_,SqT.of (S5 _ _ hd)⟩,zcd (K:=K) (a:=d) (xs:=ys) (fun j σ H6=>∃q u5 u6 u7,σ=[some (.ref a),some (.ref p),some (.str t.1),some (.ref d),some (.ref q),u5,u6,u7]∧SameX p H1 H6∧(∀b o,H b=some o→H6 b=some o)∧H6 p=some (.lst ((bt.map lineS).map V.str))∧q≠p∧H6 q=some (.lst (([Str.ofString "escape",escW t.1]++(t.2.take j).flatMap doorW).map V.str)))
    ⟨q,_,_,_,rfl,X5,S5,hp5,hqp,by rw[hq5];simp⟩ (fun j σ H6 _ ⟨_,_,_,_,_,_,S6,_⟩=>SqT.of (S6 _ _ hd)) ?_ ?_⟩
   ·rintro j y2 σ H6 hj ⟨q,u5,u6,u7,rfl,X6,S6,hp6,hqp,hq6⟩
    have hjl:j<t.2.length:=by have:=(List.getElem?_eq_some_iff.mp hj).1;omega
    have ey2:y2=ys.getD j .non:=by rw[List.getD_eq_getElem?_getD,hj];rfl
    obtain ⟨r,e2,hrz,hr6⟩:=zbc (za4 (ds:=t.2) Rd hjl)
    have hdr:DrW (t.2.getD j (⟨#[]⟩,0,⟨#[]⟩)):=h3 _ (by rw[List.getD_eq_getElem?_getD,List.getElem?_eq_getElem hjl];exact List.getElem_mem hjl)
    have hwt:=zc4 (t.2.take j) fun d hd=>h3 d (List.mem_of_mem_take hd)
    have etk:t.2.take (j+1)=t.2.take j++[t.2.getD j (⟨#[]⟩,0,⟨#[]⟩)]:=by rw[List.take_succ,List.getElem?_eq_getElem hjl,List.getD_eq_getElem?_getD,List.getElem?_eq_getElem hjl];rfl
    rw[ey2,e2,etk]
    generalize t.2.getD j (⟨#[]⟩,0,⟨#[]⟩)=dr at hdr hr6
    obtain ⟨g1,g2,g3⟩:=id hdr
    refine ⟨r,_,rfl,SqT.of (S6 _ _ hr6),rfl,_,_,rfl,_,_,rfl,_,_,rfl,rfl,?_⟩
    refine ⟨_,rfl,_,rfl,dr.1,rfl,by omega,fun H7 s7=>⟨_,rfl,dr.2.1,rfl,zdq (by omega),_,rfl,dr.2.2,rfl,by omega,fun H8 s8=>⟨by show (3:Nat)≤_;omega,fun l2 nl2=>?_⟩⟩⟩
    have S8:=s7.trans s8
    have s9:=Same.new (o:=.lst [.str (encS dr.1),.str (numS dr.2.1),.str (encS dr.2.2)]) nl2
    have S9:=S8.trans s9
    refine ⟨q,l2,_,_,rfl,rfl,S9 _ _ hq6,zac,?_,fun q2 nq2=>?_⟩
    ·rw[List.length_map,List.length_append]
     unfold wt at hwt
     rw[List.length_take] at hwt
     show 2+_+3≤_
     omega
    ·have s10:=Same.new (o:=.lst ((([Str.ofString "escape",escW t.1]++(t.2.take j).flatMap doorW).map V.str)++[.str (encS dr.1),.str (numS dr.2.1),.str (encS dr.2.2)])) nq2
     have S10:=S9.trans s10
     refine ⟨q2,_,_,_,rfl,fun b o hb e=>S10 b o (X6 b o hb e),fun b o e=>S10 b o (S6 b o e),S10 _ _ hp6,(zae (S9 _ _ hp6) nq2).symm,?_⟩
     rw[zac]
     simp[doorW,List.flatMap_append]
     rfl
   ·rintro σ H6 ⟨q,u5,u6,u7,rfl,X6,S6,hp6,hqp,hq6⟩
    have e6:t.2.take ys.length=t.2:=by rw[hyl];exact List.take_length
    rw[e6] at hq6
    have hw:=zfx htw
    refine hU2 _ _ ⟨_,rfl,.inl ⟨rfl,_,SqL.of hp6⟩,rfl,_,rfl,_,q,lineW t,rfl,rfl,SqL.of hq6,by decide +kernel,by unfold wt at hw;omega,p,_,_,rfl,rfl,hp6,by rw[List.length_map,List.length_map];omega,hD2 _ _ ⟨_,_,_,_,_,_,rfl,X6.upd,?_⟩⟩
    rw[zac]
    simp[lineS]
  ·rintro σ H2 ⟨u2,u3,u4,u5,u6,u7,rfl,s2,hp2⟩
   have hw:=zc5 ht
   have e:b.take xs.length=b:=by rw[hl];exact List.take_length
   rw[e] at hp2
   exact hU _ _ ⟨rfl,_,rfl,_,p,b.map lineS,rfl,rfl,SqL.of hp2,by decide +kernel,by unfold wt at hw;omega,hR1 _ _ (k H2 fun b o e=>s2 b o (zae e np) (s0 b o e))⟩
inductive zdv (K:W.Frag):List V→Hp→VK→XK→Prop where
 |mk {vs:List V} {H:Hp} {Q:VK} {E:XK} (a:_) (ns:List Int) (c1:vs=[.ref a]) (c2:SqL K H a (ns.map V.int)) (q:∀H',Q (.bl true) H'):zdv K vs H Q E
theorem sqs18 {K:W.Frag}{H H':Hp}{a:Addr}{xs:List V}(s:Same H H') (h:SqL K H a xs):SqL K H' a xs:=by
 rcases h with (h|⟨o,h⟩)|h
 ·exact .inl (.inl (s _ _ h))
 ·exact .inl (.inr ⟨o,s _ _ h⟩)
 ·exact .inr h
theorem zcS {x:Str}(h:dueD x=none):∀b,¬GoodB x b:=fun b g=>by rw[zkQ g] at h;cases h
theorem zdw {x:Str}(h:(dueD x).isNone=true):dueD x=none:=Option.isNone_iff_eq_none.mp h
theorem due1:dueD (Str.ofString "")=none:=zdw (by decide +kernel)
theorem due2:dueD (Str.ofString "escape")=none:=zdw (by decide +kernel)
theorem due3:dueD (Str.ofString "escape none x")=none:=zdw (by decide +kernel)
theorem due4:dueD (Str.ofString "escape \\s")=none:=zdw (by decide +kernel)
theorem due5:dueD (Str.ofString "escape ")=none:=zdw (by decide +kernel)
theorem zdN:∀ds:List Dr,Deps 1 (ds.map drD)
 |[]=>.nil _
 |d::r=>.cons (.tup (.cons (.str _ _) (.cons (.int _ _) (.cons (.str _ _) (.nil _))))) (zdN r)
theorem zgf:∀b:Bk,Deps 3 (b.map tgD)
 |[]=>.nil _
 |t::r=>.cons (.tup (.cons (.str _ _) (.cons (.tup (zdN t.2)) (.nil _)))) (zgf r)
theorem ziX (b:Bk):Dep 4 (bkD b):=.tup (zgf b)
theorem scLaw18:zar ["script","k","bag","book","text","turn","due","thing"] ["script"] (zag lLaw):=⟨rfl,rfl,rfl,by decide +kernel,rfl,by decide +kernel,by decide +kernel⟩
theorem ziC {f f1 f2 f3 f4 f5 f6 f7:Addr}{fd fd1 fd2 fd3 fd4 fd5 fd6 fd7:FuncData}(F:Fun K "law" "law" lLaw f fd) (T:Txt mg) (T2:Txt2 mg)
  (k1:W.keepIn K (.ref f1)=true) (b1:Binds K fd1 ["script","k"] []) (m1:mg "_law_bag"=some (.ref f1)) (G1:FnOk P w K mg base CX0 1 f1 fd1 ["script","k"] (spBag K))
  (k2:W.keepIn K (.ref f2)=true) (b2:Binds K fd2 ["bag"] []) (m2:mg "_law_book"=some (.ref f2)) (G2:FnOk P w K mg base CX0 3 f2 fd2 ["bag"] zfX)
  (k3:W.keepIn K (.ref f3)=true) (b3:Binds K fd3 ["book"] []) (m3:mg "_law_book_text"=some (.ref f3)) (G3:FnOk P w K mg base CX0 2 f3 fd3 ["book"] spBT)
  (k4:W.keepIn K (.ref f4)=true) (b4:Binds K fd4 ["book"] []) (m4:mg "book_text"=some (.ref f4)) (G4:FnOk P w K mg base CX0 3 f4 fd4 ["book"] spBT)
  (k5:W.keepIn K (.ref f5)=true) (b5:Binds K fd5 ["text"] []) (m5:mg "_law_asked"=some (.ref f5)) (G5:FnOk P w K mg base CX0 7 f5 fd5 ["text"] spAsk)
  (k6:W.keepIn K (.ref f6)=true) (b6:Binds K fd6 ["bag","text"] []) (m6:mg "_law_spoilt"=some (.ref f6)) (G6:FnOk P w K mg base CX0 3 f6 fd6 ["bag","text"] spSP)
  (k7:W.keepIn K (.ref f7)=true) (b7:Binds K fd7 ["text"] []) (m7:mg "_law_due"=some (.ref f7)) (G7:FnOk P w K mg base CX0 6 f7 fd7 ["text"] zeq):FnOkT 0 P w K mg base CX0 8 f fd ["script"] (zdv K):=by
 refine F.ok0 scLaw18 (fun vs H Q E h=>?_) (fun cdv A outer s H vs Q E hr h=>?_)
 ·obtain ⟨a,ns,rfl,_⟩:=h
  rfl
 ·obtain ⟨a,ns,rfl,hS,k⟩:=h
  have nd:=scLaw18.nd
  have hr1:Room 1 _:=hr.mono (by decide)
  have hr2:Room 2 _:=hr.mono (by decide)
  have hr3:Room 3 _:=hr.mono (by decide)
  have hr5:Room 5 _:=hr.mono (by decide)
  have hr6:Room 6 _:=hr.mono (by decide)
  refine ⟨_,zad (zia rfl PassesOwn.never rfl (zfg rfl T.range (pa_B (zaw zaK (zap (zgM rfl) (by rfl) T2.min zk1 (zaa (zap zav (by rfl) T.len zbe (zaa (pv 0) zab)) (pa_K zah zab))) zah) zab)) (zal (i:=1) nd rfl (Or.inl rfl))
    (zad (zas (i:=2) nd rfl (Or.inl rfl) (zak G1 hr1 rfl m1 k1 b1 .nil pass0 (zaa (pv 0) (zaa (pv 1) zab))))
    (zad (zas (i:=3) nd rfl (Or.inl rfl) (zak G2 hr3 rfl m2 k2 b2 .nil pass0 (zaa (pv 2) zab)))
    (zad (zas (i:=4) nd rfl (Or.inl rfl) (zak G3 hr2 rfl m3 k3 b3 .nil pass0 (zaa (pv 3) zab)))
    (zad (zaL (PW.pt (zcm (zaq zdx (zak G4 hr3 rfl m4 k4 b4 .nil pass0 (zaa (pv 3) zab)) (pv 4) (zax _)) (zbK (zaq (zcP hr5) (zak G5 hr rfl m5 k5 b5 .nil pass0 (zaa (pv 4) zab)) (zay (pa_K zai (zaa (pv 3) zab))) (zax _))))) (zaf (zam zbN)) zau)
    (zad (zbm PassesOwn.never rfl (zbS rfl T.range (pa_K zah zab)) (zal (i:=5) nd rfl (Or.inl rfl))
     (zad (zas (i:=4) nd rfl (Or.inl rfl) (zak G6 hr3 rfl m6 k6 b6 .nil pass0 (zaa (pv 2) (zaa (pv 4) zab))))
     (zad (zas (i:=6) nd rfl (Or.inl rfl) (zak G7 hr6 rfl m7 k7 b7 .nil pass0 (zaa (pv 4) zab)))
     (zaf (zaL (zaq (zcP hr5) (zak G5 hr rfl m5 k5 b5 .nil pass0 (zaa (pv 4) zab)) (zaC ix_list (zay (zaa (zay (pa_K zai (zaa (pv 6) zab))) (zaa (zay (pa_K zai (pa_K zbr zab))) zab))) (zaG zdc (by rfl) T.int zgo (zaa (zbT zj8 (pv 6) zbr (zax _)) zab)) (fun _ _=>rfl)) (zax _)) (zaf (zam zbN)) zau)))))
    (zaf (zbm PassesOwn.never rfl (zbR (zay (pa_K zbr (pa_K zah (zaa (pv 3) (pa_K zai (zaa (zay (zaa (pv 4) zab)) (pa_K zai (pa_K zai (pa_K zai (pa_K zai zab))))))))))) (zal (i:=7) nd rfl (Or.inl rfl))
     (zaf (zaL (zaq (zcP hr5) (zak G5 hr rfl m5 k5 b5 .nil pass0 (zaa (pv 7) zab)) (zay (pa_K zai (pa_K zbr zab))) (zax _)) (zaf (zam zbN)) zau))))))))))
   (zaf (zam zbN)),?_⟩
  have hz:(100000:Nat)≤sizeLine:=by rw[sizeLine_eq];decide
  have hmin:∃n:Nat,(if (30:Int)<((ns.map V.int).length:Int) then (30:Int) else ((ns.map V.int).length:Int))=(n:Int)∧n≤30:=by
   by_cases h:(30:Int)<((ns.map V.int).length:Int)
   ·exact ⟨30,by rw[if_pos h];rfl,by decide⟩
   ·exact ⟨(ns.map V.int).length,by rw[if_neg h],by omega⟩
  obtain ⟨n,en,hn⟩:=hmin
  refine ⟨_,rfl,a,_,rfl,.inl hS,_,_,rfl,_,_,rfl,rfl,(n:Int)+2,?_,by omega,by omega,?_⟩
  ·show [V.int ((if (30:Int)<((ns.map V.int).length:Int) then (30:Int) else ((ns.map V.int).length:Int))+2)]=_
   rw[en]
  refine zcn (fun i σ H2=>∃u1 u2 u3 u4 u5 u6 u7,σ=[some (.ref a),u1,u2,u3,u4,u5,u6,u7]∧Same H H2) ⟨none,none,none,none,none,none,none,rfl,fun _ _ e=>e⟩ ?_ ?_
  ·rintro i σ H0 hi ⟨u1,u2,u3,u4,u5,u6,u7,rfl,s0⟩
   have hi':i<n+2:=by omega
   show (tSeq _ _) _ _ _
   refine zbs fun D1 hD1 hR1 _ _=>zaj fun U hU=>?_
   refine ⟨_,rfl,_,rfl,a,ns,i,by simp,sqs18 s0 hS,by omega,fun z H1 nz s1 hB1=>hU _ _ (zaj fun U hU=>?_)⟩
   have out:∀ {H'},Aft z H1 H'→Same H H':=fun A b o e=>A.1 b o (zae (s0 b o e) nz) (s1 b o (s0 b o e))
   refine ⟨_,rfl,z,rfl,hB1,fun v b H2 A2 Rb okb=>hU _ _ (zaj fun U hU=>?_)⟩
   have hbd:=zjO okb
   have gw:=zcY okb hbd
   have hl:=zhI okb.wq okb.2.1
   refine ⟨_,rfl,z,v,b,rfl,Rb,okb.wq,okb.2.1,fun H3 s3=>hU _ _ (zaj fun U hU=>?_)⟩
   have A3:=A2.same s3
   have R3:Rep z H3 v (bkD b):=Rb.mono s3.x
   refine ⟨_,rfl,z,v,b,rfl,R3,okb.wq,okb.2.1,fun H4 s4=>⟨_,rfl,rfl,_,rfl,ite2 (fun g=>by simp at g) (fun _=>?_)⟩⟩
   have A4:=A3.same s4
   have R4:Rep z H4 v (bkD b):=R3.mono s4.x
   refine ⟨_,rfl,.str z (bookS b) rfl A4.2 (by omega) (fun b' v' p H5 s5 np hp R5 g5=>?_) (fun c=>absurd gw (c b))⟩
   have eb:b'=b:=zem (g5.1.symm.trans gw.1)
   rw[eb] at R5
   refine ⟨_,rfl,by show (2:Nat)≤_;omega,fun pl npl=>?_⟩
   have s6:=Same.new (o:=.lst [.str (Str.ofString ""),v]) npl
   have A5:=A4.same s5
   have A6:=A5.same s6
   have R6:Rep z _ v (bkD b):=R4.mono (s5.trans s6).x
   refine ⟨z,z,[.str (Str.ofString ""),bkD b],.lst (s6 _ _ hp) (A4.2.ne np) (.cons (.str _ (by decide +kernel)) (.cons (R5.mono s6.x) .nil)),.lst zac (A5.2.ne npl) (.cons (.str _ (by decide +kernel)) (.cons R6 .nil)),.cons (.str _ _) (.cons (ziX b) (.nil _)),_,rfl,ite2 (fun g=>by simp at g) (fun _=>?_)⟩
   generalize upd H5 pl (.lst [.str (Str.ofString ""),v])=H6 at *
   refine hU _ _ (zaj fun U hU=>?_)
   refine ⟨3,rfl,by decide,by decide,?_⟩
   refine zcn (fun j σ H7=>∃x w5 w6,σ=[some (.ref a),some (.int (0+i)),some (.ref z),some v,some (.str x),w5,w6,u7]∧Aft z H1 H7∧Rep z H7 v (bkD b)∧x.length+30≤876*2 ^ j) ⟨bookS b,u5,u6,rfl,A6,R6,by omega⟩ ?_ ?_
   ·rintro j σ H7 hj ⟨x,w5,w6,rfl,A7,R7,hx⟩
    have hj4:2 ^ j≤4:=by
     have:j=0∨j=1∨j=2:=by omega
     rcases this with rfl|rfl|rfl<;>decide
    show (tSeq _ _) _ _ _
    refine zbs fun D2 hD2 hR2 _ _=>zaj fun U hU=>?_
    refine ⟨_,rfl,_,rfl,z,x,rfl,A7.2,by omega,fun r H8 A8 hr8=>hU _ _ (zaj fun U hU=>?_)⟩
    have A8':=A7.trans A8
    have R8:=R7.mono A8.1
    have hrl:r.length+30≤876*2 ^ (j+1):=by rw[Nat.pow_succ];omega
    refine ⟨_,rfl,z,r,rfl,A8.2,by omega,fun hd H9 s9=>hU _ _ ?_,fun d v' H9 hd s9 R9=>hU _ _ ?_⟩
    ·have A9:=A8'.same s9
     refine ⟨_,rfl,.str z r rfl A9.2 (by omega) (fun b' v' p HA sA np hp RA gA=>absurd gA (zcS hd b')) (fun _ p HA sA np hp=>?_)⟩
     refine ⟨_,rfl,by show (2:Nat)≤_;omega,fun p1 n1=>⟨by show (2:Nat)≤_;omega,fun p2 n2=>⟨by show (2:Nat)≤_;omega,fun p3 n3=>?_⟩⟩⟩
     have t1:=Same.new (o:=.lst [.str (Str.ofString ""),.non]) n1
     have t2:=Same.new (o:=.lst [.str (Str.ofString "NoText+"),.non]) n2
     have t3:=Same.new (o:=.lst [.ref p1,.ref p2]) n3
     have tt:=(t1.trans t2).trans t3
     have AA:=A9.same sA
     refine ⟨_,rfl,rfl,.inr ⟨_,rfl,p3,_,1,_,rfl,rfl,SqL.of zac,rfl,?_⟩⟩
     refine ⟨z,z,[.str (Str.ofString "NoText+"),.non],.lst (tt _ _ hp) (A9.2.ne np) (.cons (.str _ (by decide +kernel)) (.cons .non .nil)),.lst (t3 _ _ zac) ((AA.same t1).2.ne n2) (.cons (.str _ (by decide +kernel)) (.cons .non .nil)),.cons (.str _ _) (.cons (.non _) (.nil _)),_,rfl,ite2 (fun g=>by simp at g) (fun _=>?_)⟩
     exact hD2 _ _ ⟨r,_,_,rfl,AA.same tt,R8.mono ((s9.trans sA).trans tt).x,hrl⟩
    ·have A9:=A8'.same s9
     obtain ⟨b2,rfl,g2⟩:=zjP hd
     refine ⟨_,rfl,.str z r rfl A9.2 (by omega) (fun b' v2 p HA sA np hp RA gA=>?_) (fun c=>absurd g2 (c b2))⟩
     have eb:b'=b2:=zem (gA.1.symm.trans g2.1)
     rw[eb] at RA
     have R9':Rep z H9 v' (.tup (b2.map tgD)):=R9
     obtain ⟨q,rfl⟩:∃q,v'=.ref q:=by
      cases R9' with
      |tup h hz r=>exact ⟨_,rfl⟩
     refine ⟨_,rfl,by show (2:Nat)≤_;omega,fun p1 n1=>⟨by show (2:Nat)≤_;omega,fun p2 n2=>⟨by show (2:Nat)≤_;omega,fun p3 n3=>?_⟩⟩⟩
     have t1:=Same.new (o:=.lst [.str (Str.ofString ""),.ref q]) n1
     have t2:=Same.new (o:=.lst [.str (Str.ofString "NoText+"),.non]) n2
     have t3:=Same.new (o:=.lst [.ref p1,.ref p2]) n3
     have tt:=(t1.trans t2).trans t3
     have AA:=A9.same sA
     refine ⟨_,rfl,rfl,.inr ⟨_,rfl,p3,_,0,_,rfl,rfl,SqL.of zac,rfl,?_⟩⟩
     refine ⟨z,z,[.str (Str.ofString ""),bkD b2],.lst (tt _ _ hp) (A9.2.ne np) (.cons (.str _ (by decide +kernel)) (.cons (RA.mono tt.x) .nil)),.lst (t3 _ _ (t2 _ _ zac)) (AA.2.ne n1) (.cons (.str _ (by decide +kernel)) (.cons (R9.mono (sA.trans tt).x) .nil)),.cons (.str _ _) (.cons (ziX b2) (.nil _)),_,rfl,ite2 (fun g=>by simp at g) (fun _=>?_)⟩
     exact hD2 _ _ ⟨r,_,_,rfl,AA.same tt,R8.mono ((s9.trans sA).trans tt).x,hrl⟩
   ·rintro σ H7 ⟨x,w5,w6,rfl,A7,R7,hx⟩
    refine hU _ _ ?_
    have hx':x.length≤20000:=by
     have:(2:Nat) ^ 3=8:=by decide
     have h8:x.length+30≤876*2 ^ 3:=hx
     omega
    refine ⟨_,rfl,_,rfl,by show (1:Nat)≤_;omega,fun pt npt=>⟨by show (9:Nat)≤_;omega,fun pl npl=>?_⟩⟩
    have t1:=Same.new (o:=.lst [.str x]) npt
    have hpt:upd H7 pt (.lst [.str x]) pt=some (.lst [.str x]):=zac
    have t2:=Same.new (o:=.lst [.non,.int 5,v,.str (Str.ofString ""),.ref pt,.str (Str.ofString "escape"),.str (Str.ofString "escape none x"),.str (Str.ofString "escape \\s"),.str (Str.ofString "escape ")]) npl
    have hpl:upd (upd H7 pt (.lst [.str x])) pl (.lst [.non,.int 5,v,.str (Str.ofString ""),.ref pt,.str (Str.ofString "escape"),.str (Str.ofString "escape none x"),.str (Str.ofString "escape \\s"),.str (Str.ofString "escape ")]) pl=some (.lst [.non,.int 5,v,.str (Str.ofString ""),.ref pt,.str (Str.ofString "escape"),.str (Str.ofString "escape none x"),.str (Str.ofString "escape \\s"),.str (Str.ofString "escape ")]):=zac
    have tt:=t1.trans t2
    have hpt2:=t2 _ _ hpt
    have A8:=A7.same tt
    have hptz:=A7.2.ne npt
    refine ⟨pl,rfl,⟨_,SqL.of hpl⟩,?_⟩
    generalize upd (upd H7 pt (.lst [.str x])) pl (.lst [.non,.int 5,v,.str (Str.ofString ""),.ref pt,.str (Str.ofString "escape"),.str (Str.ofString "escape none x"),.str (Str.ofString "escape \\s"),.str (Str.ofString "escape ")])=H8 at *
    have R8:Rep z H8 v (bkD b):=R7.mono tt.x
    have key:∀y∈([.non,.int 5,v,.str (Str.ofString ""),.ref pt,.str (Str.ofString "escape"),.str (Str.ofString "escape none x"),.str (Str.ofString "escape \\s"),.str (Str.ofString "escape ")]:List V),∀H9,Bag z H9→Same H8 H9→∀(Qk:VK) (Ek:XK),(∀p H',Same H9 H'→H9 p=none→H' p=some (.lst [.str (Str.ofString "NoText+"),.non])→Qk (.ref p) H')→spAsk [y] H9 Qk Ek:=by
     intro y hy H9 B9 s9 Qk Ek e
     simp only[List.mem_cons,List.not_mem_nil,or_false] at hy
     rcases hy with rfl|rfl|rfl|rfl|rfl|rfl|rfl|rfl|rfl
     ·exact .other z .non .non rfl .non (fun x h=>nomatch h) e
     ·exact .other z (.int 5) (.int 5) rfl (.int 5) (fun x h=>nomatch h) e
     ·exact .other z _ (bkD b) rfl (R8.mono s9.x) (fun x h=>nomatch h) e
     ·exact .str z _ rfl B9 (by decide +kernel) (fun b' _ _ _ _ _ _ _ g=>absurd g (zcS due1 b')) (fun _=>e)
     ·exact .other z (.ref pt) (.lst [.str x]) rfl (.lst (s9 _ _ hpt2) hptz (.cons (.str x hx') .nil)) (fun x h=>nomatch h) e
     ·exact .str z _ rfl B9 (by decide +kernel) (fun b' _ _ _ _ _ _ _ g=>absurd g (zcS due2 b')) (fun _=>e)
     ·exact .str z _ rfl B9 (by decide +kernel) (fun b' _ _ _ _ _ _ _ g=>absurd g (zcS due3 b')) (fun _=>e)
     ·exact .str z _ rfl B9 (by decide +kernel) (fun b' _ _ _ _ _ _ _ g=>absurd g (zcS due4 b')) (fun _=>e)
     ·exact .str z _ rfl B9 (by decide +kernel) (fun b' _ _ _ _ _ _ _ g=>absurd g (zcS due5 b')) (fun _=>e)
    refine zdP (K:=K) (a:=pl) (xs:=[.non,.int 5,v,.str (Str.ofString ""),.ref pt,.str (Str.ofString "escape"),.str (Str.ofString "escape none x"),.str (Str.ofString "escape \\s"),.str (Str.ofString "escape ")]) (fun _ σ H9=>∃w7,σ=[some (.ref a),some (.int (0+i)),some (.ref z),some v,some (.str x),w5,w6,w7]∧Same H8 H9) ⟨u7,rfl,fun _ _ e=>e⟩ (fun _ σ H9 _ ⟨_,_,s9⟩=>SqL.of (s9 _ _ hpl)) ?_ ?_
    ·rintro j y σ H9 hy ⟨w7,rfl,s9⟩
     have A9:=A8.same s9
     refine ⟨_,rfl,key y (List.mem_of_getElem? hy) H9 A9.2 s9 _ _ fun p HA sA np hp=>?_⟩
     refine ⟨by show (2:Nat)≤_;omega,fun p2 n2=>?_⟩
     have t3:=Same.new (o:=.lst [.str (Str.ofString "NoText+"),.non]) n2
     refine ⟨z,z,[.str (Str.ofString "NoText+"),.non],.lst (t3 _ _ hp) (A9.2.ne np) (.cons (.str _ (by decide +kernel)) (.cons .non .nil)),.lst zac ((A9.same sA).2.ne n2) (.cons (.str _ (by decide +kernel)) (.cons .non .nil)),.cons (.str _ _) (.cons (.non _) (.nil _)),_,rfl,ite2 (fun g=>by simp at g) (fun _=>?_)⟩
     exact ⟨_,rfl,(s9.trans sA).trans t3⟩
    ·rintro σ H9 ⟨w7,rfl,s9⟩
     exact hD1 _ _ ⟨_,_,_,_,_,_,_,rfl,out (A8.same s9)⟩
  ·rintro σ H2 ⟨u1,u2,u3,u4,u5,u6,u7,rfl,s2⟩
   exact k _
structure FK (K:W.Frag) (n:Str) (st:Stmt) (f:Addr) (fd:FuncData):Prop where
 a:W.nsIn K mainGlobals n=some (some (.ref f))
 F:Fun K n n st f fd
section
variable {K:W.Frag}{n q x:Str}{st:Stmt}{f C:Addr}{fd:FuncData}{oc kV doc pm cdv ct:Value}{od an:Option Addr}{osl:Array (Option Value)}
theorem fk (a:W.nsIn K mainGlobals n=some (some (.ref f))) (l:K.lookup f=some ⟨oc,od,.func (W.fnOf n n (zce st) (zbo st) (zag st) .none kV doc pm an cdv ct),osl⟩) (c:W.codeIn K cdv n=true) (k:W.keepIn K (.ref f)=true) :
  FK K n st f (W.fnOf n n (zce st) (zbo st) (zag st) .none kV doc pm an cdv ct):=⟨a,zkd l c k⟩
theorem FK.m {h:Heap}{mg:Str→Option Value}(A:FK K n st f fd) (X:K.In h) (G:h.Ns mainGlobals mg):mg n=some (.ref f):=W.mg_of X G A.a
theorem FK.law {h:Heap}{mg:Str→Option Value}(A:FK K n st f fd) (X:K.In h) (G:h.Ns mainGlobals mg){g:Addr}(e:mg n=some (.ref g)):g=f:=by
 have:=e.symm.trans (A.m X G)
 injection this with this
 injection this
abbrev fo (x q:Str) (st:Stmt) (kV doc pm:Value) (an:Option Addr) (cdv ct:Value):FuncData:=W.fnOf x q (zce st) (zbo st) (zag st) .none kV doc pm an cdv ct
theorem bn1 {p:Str}(F:Fun K x q st f fd) (h:∀kV doc pm an cdv ct a,bindArgs (fo x q st kV doc pm an cdv ct) ⟨[a],[]⟩=pure [(p,a)]):Binds K fd [p] []:=
 F.binds fun _ _ _ _ _ _ us hl=>bd1 (f:=fun us=>bindArgs _ ⟨us,[]⟩) (g:=fun us=>pure (List.zip _ us)) (h _ _ _ _ _ _) us hl
theorem bn2 {p p2:Str}(F:Fun K x q st f fd) (h:∀kV doc pm an cdv ct a b,bindArgs (fo x q st kV doc pm an cdv ct) ⟨[a,b],[]⟩=pure [(p,a),(p2,b)]):Binds K fd [p,p2] []:=
 F.binds fun _ _ _ _ _ _ us hl=>bd2 (f:=fun us=>bindArgs _ ⟨us,[]⟩) (g:=fun us=>pure (List.zip _ us)) (h _ _ _ _ _ _) us hl
theorem bn3 {p p2 p3:Str}(F:Fun K x q st f fd) (h:∀kV doc pm an cdv ct a b c,bindArgs (fo x q st kV doc pm an cdv ct) ⟨[a,b,c],[]⟩=pure [(p,a),(p2,b),(p3,c)]):Binds K fd [p,p2,p3] []:=
 F.binds fun _ _ _ _ _ _ us hl=>bd3 (f:=fun us=>bindArgs _ ⟨us,[]⟩) (g:=fun us=>pure (List.zip _ us)) (h _ _ _ _ _ _) us hl
theorem bnl (F:Fun K x q st f fd) (h:∀kV doc pm an cdv ct (s:Shared) (v:Value),BindsTo s (fo x q st kV doc pm an cdv ct) ⟨[v],[]⟩ [("script",v)]):∀(s:Shared) (v:Value),BindsTo s fd ⟨[v],[]⟩ [("script",v)]:=by
 obtain ⟨oc,od,kV,doc,pm,an,cdv,ct,osl,rfl,lk,hcd⟩:=F.ex
 exact h _ _ _ _ _ _
end
/-! ### what the top has written,and the law's own head -/
theorem all_mk {l:W.OpenLaw}{w:World}{K:W.Frag}{h:Heap}{mg:Str→Option Value}{fa  f1 f2 f3 f4 f5 f6 f7 f8 f9 f10 f11 f12 f13 f14 f15 f16 f17 f18 f19 f20 f21 f22 f23 f24 f25 f26 f27 f28 f29 f30 f31 f32 f33 f34 f35 yN y1 y2 y3 y4 y5 y6 y7 y8:Addr}{d1 d2 d3 d4 d5 d6 d7 d8 d9 d10 d11 d12 d13 d14 d15 d16 d17 d18 d19 d20 d21 d22 d23 d24 d25 d26 d27 d28 d29 d30 d31 d32 d33 d34 d35:FuncData}{tI1 tF:Tok}{tI2:Tok}{tI3:Tok}{tI4:Tok}{tI5:Tok}(X:K.In h) (G:h.Ns mainGlobals mg) (hfa:mg "law"=some (.ref fa))
  (A1:FK K "is_plain_sign" zbf f1 d1)
  (A2:FK K "is_escape" zdn f2 d2)
  (A3:FK K "is_mark" zec f3 d3)
  (A4:FK K "is_number_below" zby f4 d4)
  (A5:FK K "is_door" zfq f5 d5)
  (A6:FK K "is_tongue" zcC f6 d6)
  (A7:FK K "opens_differ" zbv f7 d7)
  (A8:FK K "marks_of" zed f8 d8)
  (A9:FK K "has_escape_in_mark" zaU f9 d9)
  (A10:FK K "closes_within" zbl f10 d10)
  (A11:FK K "has_open_behind_close" zaT f11 d11)
  (A12:FK K "is_book" zcQ f12 d12)
  (A13:FK K "write_signs" zch f13 d13)
  (A14:FK K "read_signs" zb6 f14 d14)
  (A15:FK K "read_number" zbI f15 d15)
  (A16:FK K "tongue_line" zci f16 d16)
  (A17:FK K "book_text" zcD f17 d17)
  (A18:FK K "read_tongue" zcj f18 d18)
  (A19:FK K "read_book" zcE f19 d19)
  (A20:FK K "_law_bag" lBag f20 d20)
  (A21:FK K "_law_take" lTake f21 d21)
  (A22:FK K "_law_mark" lMk f22 d22)
  (A23:FK K "_law_fits_book" lFits f23 d23)
  (A24:FK K "_law_book" lBook f24 d24)
  (A25:FK K "_law_written" zc1 f25 d25)
  (A26:FK K "_law_read" lRead f26 d26)
  (A27:FK K "_law_book_text" zdo f27 d27)
  (A28:FK K "_law_number" zee f28 d28)
  (A29:FK K "_law_sign_of" zfr f29 d29)
  (A30:FK K "_law_kinds" zfY f30 d30)
  (A31:FK K "_law_moved_about" zck f31 d31)
  (A32:FK K "_law_due" lDue f32 d32)
  (A33:FK K "_law_asked" zht f33 d33)
  (A34:FK K "_law_spoilt" zfs f34 d34)
  (A35:FK K "law" lLaw f35 d35)
  (z1:W.nsIn K mainGlobals "len"=some none)
  (z2:W.nsIn K mainGlobals "ord"=some none)
  (z3:W.nsIn K mainGlobals "all"=some none)
  (z4:W.nsIn K mainGlobals "any"=some none)
  (z5:W.nsIn K mainGlobals "isinstance"=some none)
  (z6:W.nsIn K mainGlobals "str"=some none)
  (z7:W.nsIn K mainGlobals "int"=some none)
  (z8:W.nsIn K mainGlobals "bool"=some none)
  (z9:W.nsIn K mainGlobals "tuple"=some none)
  (z10:W.nsIn K mainGlobals "range"=some none)
  (z11:W.nsIn K mainGlobals "sorted"=some none)
  (z12:W.nsIn K mainGlobals "max"=some none)
  (z13:W.nsIn K mainGlobals "list"=some none)
  (z14:W.nsIn K mainGlobals "set"=some none)
  (z15:W.nsIn K mainGlobals "min"=some none)
  (z16:W.nsIn K mainGlobals "ValueError"=some none)
  (gi1:W.nsIn K mainGlobals "PERCENT"=some (some (.int 37 tI1)))
  (gi2:W.nsIn K mainGlobals "LONGEST_MARK"=some (some (.int 4 tI2)))
  (gi3:W.nsIn K mainGlobals "MOST_DOORS"=some (some (.int 6 tI3)))
  (gi4:W.nsIn K mainGlobals "MOST_TONGUES"=some (some (.int 6 tI4)))
  (gi5:W.nsIn K mainGlobals "MOST_FIGURES"=some (some (.int 9 tI5)))
  (aE0:W.nsIn K mainGlobals "NestError"=some (some (.ref yN)))
  (aE1:W.nsIn K mainGlobals "NoDoor"=some (some (.ref y1)))
  (aE2:W.nsIn K mainGlobals "NoPlace"=some (some (.ref y2)))
  (aE3:W.nsIn K mainGlobals "NoRow"=some (some (.ref y3)))
  (aE4:W.nsIn K mainGlobals "NoText"=some (some (.ref y4)))
  (aE5:W.nsIn K mainGlobals "NoTongue"=some (some (.ref y5)))
  (aE6:W.nsIn K mainGlobals "NoWay"=some (some (.ref y6)))
  (aE7:W.nsIn K mainGlobals "Nothing"=some (some (.ref y7)))
  (aE8:W.nsIn K mainGlobals "TooMany"=some (some (.ref y8)))
  (xE4:errB K yN [y1,y2,y3,y4,y5,y6,y7,y8] y4 [false,false,false,true,false,false,false,false]=true)
  (aFg:W.nsIn K mainGlobals "FIGURES"=some (some (.str figS tF))) :
  ∃fd:FuncData,(∀(s:Shared) (v:Value),BindsTo s fd ⟨[v],[]⟩ [("script",v)])∧∀base:Heap,K.In base→base.Ns mainGlobals mg→FnOkT 0 l.prog w K mg base CX0 8 fa fd ["script"] (zdv K):=by
 have e:=A35.law X G hfa
 subst e
 have T:TxtB mg:=⟨W.mg_none_of X G z1,W.mg_none_of X G z2,W.mg_none_of X G z3,W.mg_none_of X G z4,W.mg_none_of X G z5,W.mg_none_of X G z6,W.mg_none_of X G z7,W.mg_none_of X G z8,W.mg_none_of X G z9,W.mg_none_of X G z10,W.mg_none_of X G z11,W.mg_none_of X G z12⟩
 have T2:Txt2 mg:=⟨W.mg_none_of X G z13,W.mg_none_of X G z14,W.mg_none_of X G z15⟩
 have hve:=W.mg_none_of X G z16
 have hI1:=W.mg_of X G gi1
 have hI2:=W.mg_of X G gi2
 have hI3:=W.mg_of X G gi3
 have hI4:=W.mg_of X G gi4
 have hI5:=W.mg_of X G gi5
 have b1:=bn1 (p:="sign") A1.F fun _ _ _ _ _ _ _=>rfl
 have b2:=bn1 (p:="thing") A2.F fun _ _ _ _ _ _ _=>rfl
 have b3:=bn1 (p:="thing") A3.F fun _ _ _ _ _ _ _=>rfl
 have b4:=bn2 (p:="thing") (p2:="bound") A4.F fun _ _ _ _ _ _ _ _=>rfl
 have b5:=bn2 (p:="thing") (p2:="tongue_count") A5.F fun _ _ _ _ _ _ _ _=>rfl
 have b6:=bn2 (p:="thing") (p2:="tongue_count") A6.F fun _ _ _ _ _ _ _ _=>rfl
 have b7:=bn1 (p:="doors") A7.F fun _ _ _ _ _ _ _=>rfl
 have b8:=bn1 (p:="book") A8.F fun _ _ _ _ _ _ _=>rfl
 have b9:=bn1 (p:="book") A9.F fun _ _ _ _ _ _ _=>rfl
 have b10:=bn2 (p:="book") (p2:="tongue") A10.F fun _ _ _ _ _ _ _ _=>rfl
 have b11:=bn2 (p:="book") (p2:="tongue") A11.F fun _ _ _ _ _ _ _ _=>rfl
 have b12:=bn1 (p:="thing") A12.F fun _ _ _ _ _ _ _=>rfl
 have b13:=bn1 (p:="text") A13.F fun _ _ _ _ _ _ _=>rfl
 have b14:=bn1 (p:="word") A14.F fun _ _ _ _ _ _ _=>rfl
 have b15:=bn1 (p:="word") A15.F fun _ _ _ _ _ _ _=>rfl
 have b16:=bn1 (p:="tongue") A16.F fun _ _ _ _ _ _ _=>rfl
 have b17:=bn1 (p:="book") A17.F fun _ _ _ _ _ _ _=>rfl
 have b18:=bn1 (p:="line") A18.F fun _ _ _ _ _ _ _=>rfl
 have b19:=bn1 (p:="text") A19.F fun _ _ _ _ _ _ _=>rfl
 have b20:=bn2 (p:="script") (p2:="k") A20.F fun _ _ _ _ _ _ _ _=>rfl
 have b21:=bn2 (p:="bag") (p2:="many") A21.F fun _ _ _ _ _ _ _ _=>rfl
 have b22:=bn2 (p:="bag") (p2:="signs") A22.F fun _ _ _ _ _ _ _ _=>rfl
 have b23:=bn1 (p:="book") A23.F fun _ _ _ _ _ _ _=>rfl
 have b24:=bn1 (p:="bag") A24.F fun _ _ _ _ _ _ _=>rfl
 have b25:=bn1 (p:="signs") A25.F fun _ _ _ _ _ _ _=>rfl
 have b26:=bn1 (p:="text") A26.F fun _ _ _ _ _ _ _=>rfl
 have b27:=bn1 (p:="book") A27.F fun _ _ _ _ _ _ _=>rfl
 have b28:=bn1 (p:="word") A28.F fun _ _ _ _ _ _ _=>rfl
 have b29:=bn1 (p:="bag") A29.F fun _ _ _ _ _ _ _=>rfl
 have b30:=bn1 (p:="e") A30.F fun _ _ _ _ _ _ _=>rfl
 have b31:=bn3 (p:="bag") (p2:="some") (p3:="new") A31.F fun _ _ _ _ _ _ _ _ _=>rfl
 have b32:=bn1 (p:="text") A32.F fun _ _ _ _ _ _ _=>rfl
 have b33:=bn1 (p:="text") A33.F fun _ _ _ _ _ _ _=>rfl
 have b34:=bn2 (p:="bag") (p2:="text") A34.F fun _ _ _ _ _ _ _ _=>rfl
 refine ⟨_,bnl A35.F fun _ _ _ _ _ _ s v=>.of_eq rfl,fun base _ _=>?_⟩
 have TA:Txt mg:=⟨T.len,T.ord,T.all_,T.any_,T.isinst,T.str,T.int,T.bool,T.tuple,T.range,⟨_,hI1⟩,⟨_,hI2⟩,⟨_,hI3⟩,⟨_,hI4⟩⟩
 have TW:TxtW mg:=⟨⟨_,hI5⟩,⟨_,W.mg_of X G aFg⟩⟩
 have TN:TxtN mg yN y1 y2 y3 y4 y5 y6 y7 y8:=⟨⟨W.mg_of X G aE1,W.mg_of X G aE2,W.mg_of X G aE3,W.mg_of X G aE4,W.mg_of X G aE5,W.mg_of X G aE6,W.mg_of X G aE7,W.mg_of X G aE8,hve⟩,W.mg_of X G aE0⟩
 have XE4:=zjn xE4
 have G2:FnOk l.prog w K mg base CX0 2 f2 _ ["thing"] (spD escD):=zkC A2.F A1.F b1 (A1.m X G) TA 
 have G3:FnOk l.prog w K mg base CX0 2 f3 _ ["thing"] (spD markD):=zjx A3.F A1.F b1 (A1.m X G) TA 
 have G4:FnOk l.prog w K mg base CX0 1 f4 _ ["thing","bound"] (spDN numD):=zkE A4.F TA 
 have G5:FnOk l.prog w K mg base CX0 3 f5 _ ["thing","tongue_count"] (spDN doorD):=zjy A5.F TA A3.F.kp b3 (A3.m X G) G3 A4.F.kp b4 (A4.m X G) G4
 have G6:FnOk l.prog w K mg base CX0 4 f6 _ ["thing","tongue_count"] (spDN zaN):=zhu A6.F TA A2.F.kp b2 (A2.m X G) G2 A5.F.kp b5 (A5.m X G) G5
 have G7:FnOk l.prog w K mg base CX0 1 f7 _ ["doors"] zd7:=zhv A7.F TA 
 have G8:FnOk l.prog w K mg base CX0 1 f8 _ ["book"] (zhk zaD):=zgx A8.F TA 
 have G9:FnOk l.prog w K mg base CX0 2 f9 _ ["book"] (spB escB):=zin A9.F TA A8.F.kp b8 (A8.m X G) G8
 have G10:FnOk l.prog w K mg base CX0 1 f10 _ ["book","tongue"] zd9:=zhw A10.F TA 
 have G11:FnOk l.prog w K mg base CX0 2 f11 _ ["book","tongue"] zea:=zhx A11.F TA A10.F.kp b10 (A10.m X G) G10
 have G12:FnOk l.prog w K mg base CX0 5 f12 _ ["thing"] (spD bookD):=zjz A12.F TA A6.F.kp b6 (A6.m X G) G6 A7.F.kp b7 (A7.m X G) G7 A9.F.kp b9 (A9.m X G) G9 A11.F.kp b11 (A11.m X G) G11
 have G13:FnOk l.prog w K mg base CX0 1 f13 _ ["text"] spWS:=zk6 A13.F 
 have G14:FnOk l.prog w K mg base CX0 1 f14 _ ["word"] spRS:=zk7 A14.F 
 have G15:FnOk l.prog w K mg base CX0 1 f15 _ ["word"] spRN:=zk8 A15.F TA TW 
 have G16:FnOk l.prog w K mg base CX0 2 f16 _ ["tongue"] spTL:=zk9 A16.F TA A13.F.kp b13 (A13.m X G) G13
 have G17:FnOk l.prog w K mg base CX0 3 f17 _ ["book"] spBT:=zla A17.F A16.F.kp b16 (A16.m X G) G16
 have G18:FnOk l.prog w K mg base CX0 2 f18 _ ["line"] spRT:=zlb A18.F TA A14.F.kp b14 (A14.m X G) G14 A15.F.kp b15 (A15.m X G) G15
 have G19:FnOk l.prog w K mg base (CXE l.prog w) 6 f19 _ ["text"] (spRB y4):=zlc A19.F TA XE4.ex TN.e4 A18.F.kp b18 (A18.m X G) G18 A12.F.kp b12 (A12.m X G) G12 A17.F.kp b17 (A17.m X G) G17
 have G20:FnOk l.prog w K mg base CX0 1 f20 _ ["script","k"] (spBag K):=zkB A20.F T 
 have G21:FnOk l.prog w K mg base CX0 1 f21 _ ["bag","many"] zcU:=zju A21.F 
 have G22:FnOk l.prog w K mg base CX0 2 f22 _ ["bag","signs"] spMk:=zk5 A22.F T A21.F.kp b21 (A21.m X G) G21
 have G23:FnOk l.prog w K mg base CX0 1 f23 _ ["book"] zfU:=zjv A23.F T T2 
 have G24:FnOk l.prog w K mg base CX0 3 f24 _ ["bag"] zfX:=zil A24.F T T2 A21.F.kp b21 (A21.m X G) G21 A22.F.kp b22 (A22.m X G) G22 A23.F.kp b23 (A23.m X G) G23
 have G25:FnOk l.prog w K mg base CX0 1 f25 _ ["signs"] spLW:=zli A25.F 
 have G26:FnOk l.prog w K mg base CX0 1 f26 _ ["text"] spLR:=zld A26.F TA 
 have G27:FnOk l.prog w K mg base CX0 2 f27 _ ["book"] spBT:=zkZ A27.F TA A25.F.kp b25 (A25.m X G) G25
 have G28:FnOk l.prog w K mg base CX0 1 f28 _ ["word"] spLN:=zle A28.F TA 
 have G29:FnOk l.prog w K mg base CX0 2 f29 _ ["bag"] spSG:=zlg A29.F TA A21.F.kp b21 (A21.m X G) G21
 have G31:FnOk l.prog w K mg base CX0 2 f31 _ ["bag","some","new"] spMA:=zlf A31.F TA A21.F.kp b21 (A21.m X G) G21
 have G32:FnOk l.prog w K mg base CX0 6 f32 _ ["text"] zeq:=zkT A32.F TA A26.F.kp b26 (A26.m X G) G26 A28.F.kp b28 (A28.m X G) G28 A12.F.kp b12 (A12.m X G) G12
 have GK:FnOkU l.prog w K mg base 1 f30 _ ["e"] (zds K y1 y2 y3 y4 y5 y6 y7 y8):=zix A30.F T TN.toTxtE
 have G33:FnOk l.prog w K mg base CX0 7 f33 _ ["text"] spAsk:=zkR A33.F TN XE4 A19.F.kp b19 (A19.m X G) G19 A30.F.kp b30 (A30.m X G) GK
 have G34:FnOk l.prog w K mg base CX0 3 f34 _ ["bag","text"] spSP:=zlh A34.F A21.F.kp b21 (A21.m X G) G21 A29.F.kp b29 (A29.m X G) G29 A31.F.kp b31 (A31.m X G) G31
 exact ziC A35.F TA T2 A20.F.kp b20 (A20.m X G) G20 A24.F.kp b24 (A24.m X G) G24 A27.F.kp b27 (A27.m X G) G27 A17.F.kp b17 (A17.m X G) G17 A33.F.kp b33 (A33.m X G) G33 A34.F.kp b34 (A34.m X G) G34 A32.F.kp b32 (A32.m X G) G32
theorem walk {l:W.OpenLaw}{q:Program}{loose:List Str}{XP:(Str→Option Value)→Heap→Prop}{YP:World→Heap→Prop}{d:DefRec}{K:Params→W.Frag}(hn:l.most=some 63) (hdf:d.params.defaults=[])
  (hY:∀(w:World) (h:Heap),YP w h→(K w.params).In h)
  (F:∀(w:World) (mg:Str→Option Value) (fa:Addr) (h:Heap),(K w.params).In h→h.Ns mainGlobals mg→mg d.name=some (.ref fa) →
   ∃fd:FuncData,(∀(s:Shared) (u:Value),BindsTo s fd ⟨[u],[]⟩ [("script",u)])∧∀base:Heap,(K w.params).In base→base.Ns mainGlobals mg→FnOkT 0 l.prog w (K w.params) mg base CX0 8 fa fd ["script"] (zdv (K w.params))) :
  W.WalkO q loose XP YP l.row.toRowW d [] (fun f vs=>PySem.call f vs):=
 L2.walk_of (n:=63) (k:=8) (x:="script") (CX:=fun _=>CX0) (sp:=fun w=>zdv (K w.params)) hn (by decide) hdf ⟨rfl,by decide,by decide⟩ hY F (fun _ _ a ns hl _ hS=>⟨a,ns,rfl,hS,fun _=>rfl⟩) fun _ _ _ _ _ z=>z
end T1
open PySem PySem.W PyProof.Rows
local macro_rules|`(tactic| walk_at "own def")=>`(tactic| (refine' T1.fk ?k1 ?k2 ?k3 ?k4;(case k1=>k_is);(case k2=>k_is);(case k3=>k_is);(case k4=>k_is)))
local macro_rules|`(tactic| walk_at "own method")=>`(tactic| (refine' T1.mkm ?k1 ?k2 ?k3 ?k4 ?k5;(case k1=>k_is);(case k2=>k_is);(case k3=>k_is);(case k4=>k_is);(case k5=>k_is)))
def PySem.W.Fast.tw6224208072967582066 : Nat := 0
def PySem.W.Fast.tw12004905052129147674 : Nat := 0
def PySem.W.Fast.tw9006740944509019934 : Nat := 0
def PySem.W.Fast.tw12368114513243239751 : Nat := 0
def PySem.W.Fast.tw3973152847597521978 : Nat := 0
def PySem.W.Fast.tw5674894533623995546 : Nat := 0
def PySem.W.Fast.tw1407070127761666541 : Nat := 0
def PySem.W.Fast.tw18176508811697190211 : Nat := 0
def PySem.W.Fast.tw5398972901207170466 : Nat := 0
def PySem.W.Fast.tw5241120034407700870 : Nat := 0
def PySem.W.Fast.tw13316772257968764216 : Nat := 0
def PySem.W.Fast.tw18212290007027627029 : Nat := 0
def PySem.W.Fast.tw13918649765125831672 : Nat := 0
def PySem.W.Fast.tw5969511410204339282 : Nat := 0
def PySem.W.Fast.tw17899582571771483020 : Nat := 0
def PySem.W.Fast.tw10198346839721981592 : Nat := 0
def PySem.W.Fast.tw6232657911596424074 : Nat := 0
def PySem.W.Fast.tw5755595786273074331 : Nat := 0
def PySem.W.Fast.tw16374457789158377607 : Nat := 0
def PySem.W.Fast.tw9206278900899523538 : Nat := 0
def PySem.W.Fast.tw3506476073803440749 : Nat := 0
def PySem.W.Fast.tw6468878537081718786 : Nat := 0
def PySem.W.Fast.tw10918685404204516871 : Nat := 0
def PySem.W.Fast.tw5120409628165408301 : Nat := 0
def PySem.W.Fast.tw2337270032304379727 : Nat := 0
def PySem.W.Fast.tw8105113631701765492 : Nat := 0
def PySem.W.Fast.tw16508217619335145253 : Nat := 0
def PySem.W.Fast.tw14614661363924798702 : Nat := 0
def PySem.W.Fast.tw2844821409979698800 : Nat := 0
def PySem.W.Fast.tw14359122335340297959 : Nat := 0
def PySem.W.Fast.tw16845590231674351410 : Nat := 0
def PySem.W.Fast.tw682690780762870168 : Nat := 0
def PySem.W.Fast.tw3025276681723760818 : Nat := 0
def PySem.W.Fast.tw17679303115765028313 : Nat := 0
def PySem.W.Fast.tw2277177086241045115 : Nat := 0
def PySem.W.Fast.tw11499001658844728757 : Nat := 0
def PySem.W.Fast.tw2004487677948663714 : Nat := 0
def PySem.W.Fast.tw5382635015284698427 : Nat := 0
def PySem.W.Fast.tw6326655328433927306 : Nat := 0
def PySem.W.Fast.tw5610865799944422090 : Nat := 0
def PySem.W.Fast.tw18173351808814784838 : Nat := 0
def PySem.W.Fast.tw14251566636309360975 : Nat := 0
def PySem.W.Fast.tw2756030471705218451 : Nat := 0
def PySem.W.Fast.tw7012360573302660434 : Nat := 0
def PySem.W.Fast.tw7856773934099251565 : Nat := 0
def PySem.W.Fast.tw2424771418801711362 : Nat := 0
def PySem.W.Fast.tw17851916567861752748 : Nat := 0
def PySem.W.Fast.tw2526185185620482351 : Nat := 0
def PySem.W.Fast.tw15899260042514395244 : Nat := 0
def PySem.W.Fast.tw13264014215145352350 : Nat := 0
def PySem.W.Fast.tw11311636047981181734 : Nat := 0
def PySem.W.Fast.tw8871096728087775947 : Nat := 0
def PySem.W.Fast.tw8864161104672944021 : Nat := 0
def PySem.W.Fast.tw15213929523305275623 : Nat := 0
def PySem.W.Fast.tw8194520574481326637 : Nat := 0
def PySem.W.Fast.tw11124947085162887370 : Nat := 0
def PySem.W.Fast.tw9292352489419839910 : Nat := 0
def PySem.W.Fast.tw3415293428434403364 : Nat := 0
def PySem.W.Fast.tw13256274950077236257 : Nat := 0
def PySem.W.Fast.tw18049169711584233946 : Nat := 0
def PySem.W.Fast.tw742802733214801492 : Nat := 0
def PySem.W.Fast.tw2591674536987109035 : Nat := 0
def PySem.W.Fast.tw2056723388175411156 : Nat := 0
def PySem.W.Fast.tw9144518096616706117 : Nat := 0
def PySem.W.Fast.tw3159442084494971346 : Nat := 0
def PySem.W.Fast.tw5562103636348865383 : Nat := 0
def PySem.W.Fast.tw5791482970007167593 : Nat := 0
def PySem.W.Fast.tw13136272665628708859 : Nat := 0
def PySem.W.Fast.tw16270245403455231408 : Nat := 0
def PySem.W.Fast.tw17754147442615561579 : Nat := 0
def PySem.W.Fast.tw69511452236101494 : Nat := 0
def PySem.W.Fast.tw17869495159511239623 : Nat := 0
def PySem.W.Fast.tw17215619289750142765 : Nat := 0
def PySem.W.Fast.tw10117040213786982792 : Nat := 0
def PySem.W.Fast.tw14325773185360946752 : Nat := 0
def PySem.W.Fast.tw6737482408039765068 : Nat := 0
def PySem.W.Fast.tw14749879965673496734 : Nat := 0
def PySem.W.Fast.tw15713378954681213234 : Nat := 0
def PySem.W.Fast.tw3790995132614508824 : Nat := 0
def PySem.W.Fast.tw17378108874341308529 : Nat := 0
def PySem.W.Fast.tw5724495922317061154 : Nat := 0
def PySem.W.Fast.tw12537551280272855245 : Nat := 0
def PySem.W.Fast.tw603125586285945087 : Nat := 0
def PySem.W.Fast.tw9806561964197315291 : Nat := 0
def PySem.W.Fast.tw11765514884390603674 : Nat := 0
def PySem.W.Fast.tw5964329537843198272 : Nat := 0
def PySem.W.Fast.tw9932612291291964844 : Nat := 0
def PySem.W.Fast.tw14199124493750748187 : Nat := 0
def PySem.W.Fast.tw7549040149622046160 : Nat := 0
def PySem.W.Fast.tw976382891448438358 : Nat := 0
def PySem.W.Fast.tw17036006563062170038 : Nat := 0
def PySem.W.Fast.tw11166753698018510009 : Nat := 0
def PySem.W.Fast.tw6335221562028230603 : Nat := 0
def PySem.W.Fast.tw16398571344909305060 : Nat := 0
def PySem.W.Fast.tw3564835328036875867 : Nat := 0
set_option maxRecDepth 100000 in
set_option maxHeartbeats 0 in
theorem PySem.Challenge.cw_tonguenest_k18_books_as_texts_holds : PySem.Challenge.rw_tonguenest_k18_books_as_texts.Holds := by
  w_on; o_law; k_head; (case hw => w_witness2)
  k_fill
  refine T1.walk (l := PySem.Challenge.rw_tonguenest_k18_books_as_texts) rfl rfl (fun w h Y => PySem.W.kIn_of Y) ?F
  case F =>
    intro w mg fa h KX G hmg
    refine' T1.all_mk KX G hmg ?A1 ?A2 ?A3 ?A4 ?A5 ?A6 ?A7 ?A8 ?A9 ?A10 ?A11 ?A12 ?A13 ?A14 ?A15 ?A16 ?A17 ?A18 ?A19 ?A20 ?A21 ?A22 ?A23 ?A24 ?A25 ?A26 ?A27 ?A28 ?A29 ?A30 ?A31 ?A32 ?A33 ?A34 ?A35 ?z1 ?z2 ?z3 ?z4 ?z5 ?z6 ?z7 ?z8 ?z9 ?z10 ?z11 ?z12 ?z13 ?z14 ?z15 ?z16 ?gi1 ?gi2 ?gi3 ?gi4 ?gi5 ?aE0 ?aE1 ?aE2 ?aE3 ?aE4 ?aE5 ?aE6 ?aE7 ?aE8 ?xE4 ?aFg
    (case A1 => walk_at "own def")
    (case A2 => walk_at "own def")
    (case A3 => walk_at "own def")
    (case A4 => walk_at "own def")
    (case A5 => walk_at "own def")
    (case A6 => walk_at "own def")
    (case A7 => walk_at "own def")
    (case A8 => walk_at "own def")
    (case A9 => walk_at "own def")
    (case A10 => walk_at "own def")
    (case A11 => walk_at "own def")
    (case A12 => walk_at "own def")
    (case A13 => walk_at "own def")
    (case A14 => walk_at "own def")
    (case A15 => walk_at "own def")
    (case A16 => walk_at "own def")
    (case A17 => walk_at "own def")
    (case A18 => walk_at "own def")
    (case A19 => walk_at "own def")
    (case A20 => walk_at "own def")
    (case A21 => walk_at "own def")
    (case A22 => walk_at "own def")
    (case A23 => walk_at "own def")
    (case A24 => walk_at "own def")
    (case A25 => walk_at "own def")
    (case A26 => walk_at "own def")
    (case A27 => walk_at "own def")
    (case A28 => walk_at "own def")
    (case A29 => walk_at "own def")
    (case A30 => walk_at "own def")
    (case A31 => walk_at "own def")
    (case A32 => walk_at "own def")
    (case A33 => walk_at "own def")
    (case A34 => walk_at "own def")
    (case A35 => walk_at "own def")
    (case z1 => k_is)
    (case z2 => k_is)
    (case z3 => k_is)
    (case z4 => k_is)
    (case z5 => k_is)
    (case z6 => k_is)
    (case z7 => k_is)
    (case z8 => k_is)
    (case z9 => k_is)
    (case z10 => k_is)
    (case z11 => k_is)
    (case z12 => k_is)
    (case z13 => k_is)
    (case z14 => k_is)
    (case z15 => k_is)
    (case z16 => k_is)
    (case gi1 => k_is)
    (case gi2 => k_is)
    (case gi3 => k_is)
    (case gi4 => k_is)
    (case gi5 => k_is)
    (case aE0 => k_is)
    (case aE1 => k_is)
    (case aE2 => k_is)
    (case aE3 => k_is)
    (case aE4 => k_is)
    (case aE5 => k_is)
    (case aE6 => k_is)
    (case aE7 => k_is)
    (case aE8 => k_is)
    (case xE4 => kernel_rfl)
    (case aFg => k_is)
