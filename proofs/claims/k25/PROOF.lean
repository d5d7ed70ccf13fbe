import PyProof.Rows.All
import Wide.All
import OpenK.AllK
import Wide.FinOn
import Lean
import PyProof.EqAt
import PyProof.EqKinds
import PyProof.TupleCall
import PyProof.NeKinds
import KE.KSortKey
import KE.KMinKey
import PyProof.StrBlockG
import PyProof.StrBlockI
import KE.KRevSl
import PyProof.MeetsStr
import KE.KLam
import KE.KNestM
import PyProof.Rows.ZipForRows
import PyProof.Rows.FactsT2
import PyProof.StrOps2
import PyProof.Rows.SumAny
import PyProof.CollectStr
import PyProof.DictIter
import PyProof.MakeMany
import PyProof.FactsAll.set
import PyProof.Rows.SortStr
import PyProof.CollectIter
import KE.KDictSum
import PyProof.WalkInts
import PyProof.Rows.MinMaxN
import PyProof.StrLawsIn
import PyProof.ListMulRoad
import PySem.Challenge.RW_tonguenest_k25_whole_small_texts_gone_th
set_option Elab.async false
set_option linter.all false
set_option maxRecDepth 100000
-- CHANGE: your row's module here, as the last of these rows
namespace L2
open PySem PySem.Spec PyProof.Rows
abbrev Key := Sum Int Str
def keyIs : Key → Value → Bool
  | .inl k, v => Value.isInt k v
  | .inr x, v => Value.isStrOf x v
def keyH (w : World) : Key → Int
  | .inl k => hashInt k
  | .inr x => hashStr w x
theorem keyIs_shape : ∀ {k : Key} {v : Value}, keyIs k v = true → (∃ i t, k = Sum.inl i ∧ v = Value.int i t) ∨ (∃ x t, k = Sum.inr x ∧ v = Value.str x t)
  | .inl i, v, h => by
    obtain ⟨t, e⟩ := Value.isInt_shape (k := i) (v := v) h
    exact .inl ⟨i, t, rfl, e⟩
  | .inr x, v, h => by
    obtain ⟨t, e⟩ := Value.isStrOf_shape (x := x) (v := v) h
    exact .inr ⟨x, t, rfl, e⟩
theorem key_ll (a b : Int) : decide ((Sum.inl a : Key) = Sum.inl b) = (a == b) := by
  by_cases e : a = b
  · subst e; simp
  · have h : ¬ (Sum.inl a : Key) = Sum.inl b := fun q => e (Sum.inl.inj q)
    rw [decide_eq_false h]
    exact (beq_eq_false_iff_ne.mpr e).symm
theorem key_rr (a b : Str) : decide ((Sum.inr a : Key) = Sum.inr b) = decide (a = b) := by
  by_cases e : a = b
  · subst e; simp
  · have h : ¬ (Sum.inr a : Key) = Sum.inr b := fun q => e (Sum.inr.inj q)
    rw [decide_eq_false h, decide_eq_false e]
theorem key_lr (a : Int) (b : Str) : decide ((Sum.inl a : Key) = Sum.inr b) = false := decide_eq_false (fun q => nomatch q)
theorem key_rl (a : Str) (b : Int) : decide ((Sum.inr a : Key) = Sum.inl b) = false := decide_eq_false (fun q => nomatch q)
def mixKind (prog : Program) (w : World) : PySem.KeyKind prog w Key where
  is := keyIs
  hash := keyH w
  inj := fun v a b ha hb => by
    rcases keyIs_shape ha with ⟨i, t, rfl, rfl⟩ | ⟨x, t, rfl, rfl⟩
    · rcases keyIs_shape hb with ⟨j, u, rfl, e⟩ | ⟨y, u, rfl, e⟩
      · injection e with e1 _; rw [e1]
      · exact nomatch e
    · rcases keyIs_shape hb with ⟨j, u, rfl, e⟩ | ⟨y, u, rfl, e⟩
      · exact nomatch e
      · injection e with e1 _; rw [e1]
  byValue := fun k v h => by
    rcases keyIs_shape h with ⟨i, t, rfl, rfl⟩ | ⟨x, t, rfl, rfl⟩ <;> rfl
  pyHash := fun hv h => by
    rcases keyIs_shape hv with ⟨i, t, rfl, rfl⟩ | ⟨x, t, rfl, rfl⟩
    · exact wpAny_pyHash_int h
    · exact wpAny_pyHash_str h
  eqBool := fun hu hv h => by
    rcases keyIs_shape hu with ⟨i, t, rfl, rfl⟩ | ⟨x, t, rfl, rfl⟩
    · rcases keyIs_shape hv with ⟨j, u, rfl, rfl⟩ | ⟨y, u, rfl, rfl⟩
      · rw [key_ll] at h; exact wpAny_eqBool_int h
      · rw [key_lr] at h; exact SeqAt.EqAt.int_str i t y u _ _ _ _ h
    · rcases keyIs_shape hv with ⟨j, u, rfl, rfl⟩ | ⟨y, u, rfl, rfl⟩
      · rw [key_rl] at h; exact SeqAt.EqAt.str_int x t j u _ _ _ _ h
      · rw [key_rr] at h; exact wpAny_eqBool_str h
  «strs» := fun k x t v h => by
    rcases keyIs_shape h with ⟨i, u, rfl, e⟩ | ⟨y, u, rfl, e⟩
    · exact nomatch e
    · injection e with e1 _
      subst e1
      cases v <;> rfl
end L2
namespace L2
open PySem PySem.Spec PyProof.Rows
inductive V where
  | non | bl (b : Bool) | int (i : Int) | str (x : Str) | byt (b : Array UInt8) | flt (b : UInt64) | ref (a : Addr) | ty (n : String)
  deriving DecidableEq
def RelV : V → Value → Prop
  | .non, u => u = Value.none
  | .bl b, u => u = Value.bool b
  | .int i, u => ∃ t, u = Value.int i t
  | .str x, u => ∃ t, u = Value.str x t
  | .byt b, u => ∃ t, u = Value.bytes b t
  | .flt b, u => ∃ t, u = Value.float b t
  | .ref a, u => u = Value.ref a
  | .ty n, u => u = Value.type n
abbrev Vals : List V → List Value → Prop := Paired RelV
theorem Vals.length {xs : List V} {us : List Value} (r : Vals xs us) : xs.length = us.length := Paired.length r
theorem Vals.get : ∀ {xs : List V} {us : List Value} {i : Nat} {x : V}, Vals xs us → xs[i]? = some x → ∃ u, us[i]? = some u ∧ RelV x u
  | _, _, _, _, .nil, e => by simp at e
  | _, _, 0, _, .cons r _, e => by simp at e; subst e; exact ⟨_, rfl, r⟩
  | _, _, i + 1, x, .cons _ t, e => by
    obtain ⟨u, h1, h2⟩ := Vals.get (i := i) (x := x) t (by simpa using e)
    exact ⟨u, by simpa using h1, h2⟩
theorem Vals.set {x : V} {u : Value} (r : RelV x u) : ∀ {xs : List V} {us : List Value} (i : Nat), Vals xs us → Vals (xs.set i x) (us.set i u)
  | _, _, _, .nil => .nil
  | _, _, 0, .cons _ t => .cons r t
  | _, _, i + 1, .cons q t => .cons q (Vals.set r i t)
theorem Vals.append : ∀ {xs ys : List V} {us ws : List Value}, Vals xs us → Vals ys ws → Vals (xs ++ ys) (us ++ ws)
  | _, _, _, _, .nil, s => s
  | _, _, _, _, .cons r t, s => .cons r (Vals.append t s)
theorem Vals.take : ∀ {xs : List V} {us : List Value} (n : Nat), Vals xs us → Vals (xs.take n) (us.take n)
  | _, _, 0, _ => .nil
  | _, _, _ + 1, .nil => .nil
  | _, _, n + 1, .cons r t => .cons r (Vals.take n t)
theorem Vals.drop : ∀ {xs : List V} {us : List Value} (n : Nat), Vals xs us → Vals (xs.drop n) (us.drop n)
  | _, _, 0, r => r
  | _, _, _ + 1, .nil => .nil
  | _, _, n + 1, .cons _ t => Vals.drop n t
def RelO : Option V → Option Value → Prop
  | some v, some u => RelV v u
  | none, none => True
  | _, _ => False
def KV {κ : Type} : List (κ × V) → List (κ × Value) → Prop := Paired fun (p : κ × V) (q : κ × Value) => p.1 = q.1 ∧ RelV p.2 q.2
def kV : Key → V
  | .inl i => .int i
  | .inr x => .str x
inductive HO where
  /-- a list -/
  | lst (xs : List V)
  /-- a tuple (never changes) -/
  | tup (xs : List V)
  /-- a dict whose keys are ints and texts; one whose keys are tuples of ints and texts (the empty one is both) -/
  | dK (kvs : List (Key × V)) | dT (kvs : List (List Key × V))
  /-- a set of ints: its members, its size -/
  | set (S : Int → Bool) (n : Nat)
  /-- an instance of the class at C, its dict at dx, its attributes -/
  | ins (C dx : Addr) (fs : List (Str × V))
  /-- the dict of the instance at x -/
  | own (x : Addr)
  /-- the dict of an exception -/
  | xd (fs : List (Str × V))
  /-- a bound method, f of x -/
  | met (f x : Addr)
  /-- a range object lo, lo + 1, .. below hi -/
  | rng (lo hi : Int)
  /-- a thing that is known to the object (the script; a dict while a loop walks it): read, never written while it is so -/
  | frz (o : Obj) (u : HO)
  /-- a code object's table -/
  | tbl (ps : Array Value)
  /-- any other thing, by what is true of its one object (a def of one's own: SetO a S n := HO.ext fun h => ..) -/
  | ext (φ : Heap → Prop)
abbrev Hp := Addr → Option HO
def upd (H : Hp) (a : Addr) (o : HO) : Hp := fun b => if b = a then some o else H b
theorem upd_same {H : Hp} {a : Addr} {o : HO} : upd H a o a = some o := by unfold upd; rw [if_pos rfl]
theorem upd_ne {H : Hp} {a b : Addr} {o : HO} (h : b ≠ a) : upd H a o b = H b := by unfold upd; rw [if_neg h]
theorem ne_of {H : Hp} {a b : Addr} {o u : HO} (h : H a = some o) (h' : H b = some u) (d : o ≠ u) : a ≠ b := by
  intro e; subst e; rw [h] at h'; exact d (Option.some.inj h')
theorem ne_of_none {H : Hp} {a b : Addr} {o : HO} (h : H a = some o) (h' : H b = none) : a ≠ b := by
  intro e; subst e; rw [h] at h'; cases h'
section
variable (P : Program) (w : World)
def ObjOk (H : Hp) (h : Heap) (a : Addr) : HO → Prop
  | .lst xs => xs.length ≤ sizeLine ∧ ∃ (its : List Value) (n : Nat), Vals xs its ∧ h.get? a = some { cls := .type "list", data := .seq its.toArray n }
  | .tup xs => xs.length ≤ sizeLine ∧ ∃ its : List Value, Vals xs its ∧ IsTup h a its.toArray
  | .dK kvs => kvs.length ≤ sizeLine ∧ (a == sysModules) = false ∧ ∃ vs, KV kvs vs ∧ h.DictOf (mixKind P w) a vs
  | .dT kvs => kvs.length ≤ sizeLine ∧ (a == sysModules) = false ∧ ∃ xs : List (List Key × Addr × Value),
      Paired (fun (p : List Key × V) (q : List Key × Addr × Value) => p.1 = q.1 ∧ H q.2.1 = some (.tup (p.1.map kV)) ∧ RelV p.2 q.2.2) kvs xs ∧
      ∃ o es ep, h.get? a = some o ∧ o.ExactDict ∧ o.data = .dict es ep ∧ es.toList = xs.map (entryOfKey (tupleKind (mixKind P w))) ∧ (xs.map (·.1)).Nodup
  | .set S n => h.SetOf (intKind P w) a S n
  | .ins C dx fs => H dx = some (.own a) ∧ fs.length ≤ 1000 ∧ dx ≠ a ∧ h.get? a = some (PySem.W.instObj C dx) ∧
      ∃ mA, h.Ns1 dx mA ∧ (∀ f, RelO (fs.lookup f) (mA f)) ∧ PySem.Within mA (fs.map (·.1))
  | .own _ => ∃ o, h.get? a = some o
  | .xd fs => ∃ mA, h.Ns1 a mA ∧ ∀ f, RelO (fs.lookup f) (mA f)
  | .rng lo hi => ∃ t u v, h.get? a = some { cls := .type "range", data := .fields #[.int lo t, .int hi u, .int 1 v] }
  | .frz o u => h.get? a = some o ∧ ObjOk H h a u
  | .tbl ps => h.get? a = some { cls := .none, data := .fields ps }
  | .met f x => h.get? a = some (PySem.W.methodObj (.ref f) (.ref x))
  | .ext φ => φ h ∧ (∃ o, h.get? a = some o) ∧ ∀ h1 h2 : Heap, φ h1 → (∀ o, h1.get? a = some o → h2.get? a = some o) → φ h2
def HOk (H : Hp) (h : Heap) : Prop := ∀ a o, H a = some o → ObjOk P w H h a o
end
section
variable {P : Program} {w : World} {H H' : Hp} {h h' : Heap} {a : Addr} {o : HO}
theorem ObjOk.lt (x : ObjOk P w H h a o) : a < h.objs.size := by
  cases o with
  | lst xs => obtain ⟨_, _, _, _, e⟩ := x; exact Heap.lt_size e
  | tup xs => obtain ⟨_, _, _, p⟩ := x; exact p.lt
  | dK kvs => obtain ⟨_, _, _, _, o, _, _, e, _⟩ := x; exact Heap.lt_size e
  | dT kvs => obtain ⟨_, _, _, _, o, _, _, e, _⟩ := x; exact Heap.lt_size e
  | set S n => obtain ⟨o, _, _, _, e, _⟩ := x; exact Heap.lt_size e
  | ins C dx fs => obtain ⟨_, _, _, e, _⟩ := x; exact Heap.lt_size e
  | own y => obtain ⟨_, e⟩ := x; exact Heap.lt_size e
  | xd fs => obtain ⟨_, ⟨_, _, _, e, _⟩, _⟩ := x; exact Heap.lt_size e
  | rng lo hi => obtain ⟨_, _, _, e⟩ := x; exact Heap.lt_size e
  | frz ob u => obtain ⟨e, _⟩ := x; exact Heap.lt_size e
  | tbl ps => exact Heap.lt_size (show h.get? a = some _ from x)
  | met f y => exact Heap.lt_size (show h.get? a = some _ from x)
  | ext φ => obtain ⟨_, ⟨_, e⟩, _⟩ := x; exact Heap.lt_size e
theorem Paired.mapP {α β : Type} {F G : α → β → Prop} : ∀ {l₁ : List α} {l₂ : List β}, Paired F l₁ l₂ → (∀ a b, F a b → G a b) → Paired G l₁ l₂
  | _, _, .nil, _ => .nil
  | _, _, .cons r t, f => .cons (f _ _ r) (Paired.mapP t f)
theorem ObjOk.stay (x : ObjOk P w H h a o) (k : ∀ b u, (b = a ∨ H b = some (.own a)) → h.get? b = some u → h'.get? b = some u)
    (ho : ∀ b, H b = some (.own a) → H' b = some (.own a)) (ht : ∀ b xs, H b = some (.tup xs) → H' b = some (.tup xs)) : ObjOk P w H' h' a o := by
  induction o with
  | lst xs => obtain ⟨z, its, n, r, e⟩ := x; exact ⟨z, its, n, r, k _ _ (.inl rfl) e⟩
  | tup xs => obtain ⟨z, its, r, ob, e, c⟩ := x; exact ⟨z, its, r, ob, k _ _ (.inl rfl) e, c⟩
  | dK kvs => obtain ⟨z, y, vs, r, ob, es, ep, e, c⟩ := x; exact ⟨z, y, vs, r, ob, es, ep, k _ _ (.inl rfl) e, c⟩
  | dT kvs =>
    obtain ⟨z, y, xs, r, ob, es, ep, e, c⟩ := x
    exact ⟨z, y, xs, Paired.mapP r fun p q z => ⟨z.1, ht _ _ z.2.1, z.2.2⟩, ob, es, ep, k _ _ (.inl rfl) e, c⟩
  | set S n => obtain ⟨ob, es, ep, t, e, c⟩ := x; exact ⟨ob, es, ep, t, k _ _ (.inl rfl) e, c⟩
  | ins C dx fs =>
    obtain ⟨d, z, ne, e, mA, ⟨od, es, ep, e2, c⟩, r⟩ := x
    exact ⟨ho _ d, z, ne, k _ _ (.inl rfl) e, mA, ⟨od, es, ep, k _ _ (.inr d) e2, c⟩, r⟩
  | own y => obtain ⟨ob, e⟩ := x; exact ⟨ob, k _ _ (.inl rfl) e⟩
  | xd fs => obtain ⟨mA, ⟨od, es, ep, e, c⟩, r⟩ := x; exact ⟨mA, ⟨od, es, ep, k _ _ (.inl rfl) e, c⟩, r⟩
  | rng lo hi => obtain ⟨t, u, v, e⟩ := x; exact ⟨t, u, v, k _ _ (.inl rfl) e⟩
  | frz ob u ih => obtain ⟨e, q⟩ := x; exact ⟨k _ _ (.inl rfl) e, ih q⟩
  | tbl ps =>
    have e : h.get? a = some { cls := .none, data := .fields ps } := x
    show h'.get? a = some { cls := .none, data := .fields ps }
    exact k a _ (.inl rfl) e
  | met f y =>
    have e : h.get? a = some (PySem.W.methodObj (.ref f) (.ref y)) := x
    show h'.get? a = some (PySem.W.methodObj (.ref f) (.ref y))
    exact k a _ (.inl rfl) e
  | ext φ => obtain ⟨p, ⟨o, e⟩, st⟩ := x; exact ⟨st _ _ p fun o q => k _ _ (.inl rfl) q, ⟨o, k _ _ (.inl rfl) e⟩, st⟩
theorem HOk.lt (x : HOk P w H h) (e : H a = some o) : a < h.objs.size := (x a o e).lt
theorem HOk.fresh (x : HOk P w H h) (e : h.objs.size ≤ a) : H a = none := by
  cases q : H a with
  | none => rfl
  | some u => exact absurd (Nat.lt_of_lt_of_le (x.lt q) e) (Nat.lt_irrefl _)
theorem HOk.kept (x : HOk P w H h) (k : ∀ b u, h.get? b = some u → h'.get? b = some u) : HOk P w H h' := fun a o e =>
  (x a o e).stay (fun b u _ q => k b u q) (fun _ q => q) fun _ _ q => q
theorem HOk.laid (x : HOk P w H h) (k : ∀ b u, h.get? b = some u → h'.get? b = some u) (hp : h.objs.size ≤ a) (new : ObjOk P w (upd H a o) h' a o) : HOk P w (upd H a o) h' := fun b u e => by
  have hn := x.fresh hp
  by_cases hb : b = a
  · subst hb; rw [upd_same] at e; cases e; exact new
  · rw [upd_ne hb] at e
    exact (x b u e).stay (fun c v _ q => k c v q) (fun c q => by rw [upd_ne (ne_of_none q hn)]; exact q) fun c xs q => by rw [upd_ne (ne_of_none q hn)]; exact q
end
def Rd (H : Hp) (a : Addr) (u : HO) : Prop := H a = some u ∨ ∃ o, H a = some (.frz o u)
theorem Rd.ok {P : Program} {w : World} {H : Hp} {h : Heap} {a : Addr} {u : HO} (r : Rd H a u) (x : HOk P w H h) : ObjOk P w H h a u := by
  rcases r with r | ⟨o, r⟩
  · exact x a u r
  · obtain ⟨_, q⟩ := x a _ r
    exact q
def Mut : Option HO → Prop
  | some (.lst _) => True
  | some (.dK _) => True
  | some (.dT _) => True
  | some (.set _ _) => True
  | some (.ins _ _ _) => True
  | some (.ext _) => True
  | _ => False
section
variable {P : Program} {w : World} {H : Hp} {h h' : Heap} {x e : Addr} {o' : HO}
theorem HOk.write (ok : HOk P w H h) (mu : Mut (H x)) (he : e = x ∨ H e = some (.own x)) (k : ∀ b u, b ≠ e → h.get? b = some u → h'.get? b = some u) (heo : ∃ u, h'.get? e = some u)
    (new : ObjOk P w (upd H x o') h' x o') : HOk P w (upd H x o') h' := fun b u q => by
  have nown : ∀ c y, H c = some (.own y) → c ≠ x := fun c y r z => by subst z; rw [r] at mu; exact mu
  have ntup : ∀ c xs, H c = some (.tup xs) → c ≠ x := fun c xs r z => by subst z; rw [r] at mu; exact mu
  by_cases hb : b = x
  · subst hb; rw [upd_same] at q; cases q; exact new
  · rw [upd_ne hb] at q
    by_cases hbe : b = e
    · have q' : H b = some (.own x) := by
        rcases he with z | z
        · exact absurd (hbe.trans z) hb
        · rw [hbe]; exact z
      rw [q] at q'; cases q'
      obtain ⟨v, hv⟩ := heo
      exact ⟨v, by rw [hbe]; exact hv⟩
    · refine (ok b u q).stay (fun c v hc r => k c v ?_ r) (fun c r => by rw [upd_ne (nown c b r)]; exact r) fun c xs r => by rw [upd_ne (ntup c xs r)]; exact r
      rcases hc with rfl | hc
      · exact hbe
      · rintro rfl
        rcases he with z | z
        · exact nown c b hc z
        · rw [hc] at z; cases z; exact hb rfl
end
structure Un (fs ex : List Addr) (H H' : Hp) (h h' : Heap) : Prop where
  keep : ∀ b o, h.get? b = some o → H b = none → b ∉ fs → b ∉ ex → h'.get? b = some o
  slot : ∀ b o, h.get? b = some o → H b = none → b ∈ fs → b ∉ ex → ∃ sl, h'.get? b = some { o with slots := sl }
  free : ∀ b o, h.get? b = some o → H b = none → b ∉ ex → H' b = none
  there : ∀ b o, h.get? b = some o → b ∉ ex → ∃ o', h'.get? b = some o'
  tups : ∀ b xs, H b = some (.tup xs) → H' b = some (.tup xs)
  frzs : ∀ b o u, H b = some (.frz o u) → H' b = some (.frz o u)
  tbls : ∀ b ps, H b = some (.tbl ps) → ∃ more, H' b = some (.tbl (ps ++ more))
section
variable {fs fs' ex ex' : List Addr} {H H1 H2 : Hp} {h h1 h2 h' : Heap} {a x e : Addr} {o : HO}
theorem Un.any (u : Un fs ex H H1 h h1) {b : Addr} {ob : Obj} (q : h.get? b = some ob) (n : H b = none) (hx : b ∉ ex) : ∃ sl, h1.get? b = some { ob with slots := sl } := by
  by_cases hb : b ∈ fs
  · exact u.slot b ob q n hb hx
  · exact ⟨ob.slots, u.keep b ob q n hb hx⟩
theorem Un.kept (k : ∀ b u, h.get? b = some u → h'.get? b = some u) : Un fs ex H H h h' :=
  ⟨fun b ob q _ _ _ => k b ob q, fun b ob q _ _ _ => ⟨ob.slots, k b ob q⟩, fun _ _ _ n _ => n, fun b ob q _ => ⟨ob, k b ob q⟩, fun _ _ q => q, fun _ _ _ q => q, fun _ ps q => ⟨#[], by rw [q]; simp⟩⟩
theorem Un.refl : Un fs ex H H h h := Un.kept fun _ _ q => q
theorem Un.laid (k : ∀ b u, h.get? b = some u → h'.get? b = some u) (hp : h.objs.size ≤ a) (hn : H a = none) : Un fs ex H (upd H a o) h h' where
  keep := fun b u q _ _ _ => k b u q
  slot := fun b u q _ _ _ => ⟨u.slots, k b u q⟩
  free := fun b u q n _ => by rw [upd_ne (Nat.ne_of_lt (Nat.lt_of_lt_of_le (Heap.lt_size q) hp))]; exact n
  there := fun b u q _ => ⟨u, k b u q⟩
  tups := fun b xs q => by rw [upd_ne (ne_of_none q hn)]; exact q
  frzs := fun b u xs q => by rw [upd_ne (ne_of_none q hn)]; exact q
  tbls := fun b ps q => ⟨#[], by rw [upd_ne (ne_of_none q hn), q]; simp⟩
theorem Un.write (mu : Mut (H x)) (he : e = x ∨ H e = some (.own x)) (k : ∀ b u, b ≠ e → h.get? b = some u → h'.get? b = some u) (heo : ∃ u, h'.get? e = some u) : Un fs ex H (upd H x o) h h' := by
  have hx : ∀ b, H b = none → b ≠ x := fun b n z => by subst z; rw [n] at mu; exact mu
  have hb : ∀ b, H b = none → b ≠ e := fun b n z => by
    subst z
    rcases he with r | r
    · exact hx b n r
    · rw [n] at r; cases r
  have hm : ∀ b u, H b = some u → ¬ Mut (some u) → b ≠ x := fun b u q nm z => by subst z; rw [q] at mu; exact nm mu
  refine ⟨fun b u q n _ _ => k b u (hb b n) q, fun b u q n _ _ => ⟨u.slots, k b u (hb b n) q⟩, fun b u q n _ => by rw [upd_ne (hx b n)]; exact n, fun b u q _ => ?_,
    fun b xs q => by rw [upd_ne (hm b _ q fun z => z)]; exact q, fun b u xs q => by rw [upd_ne (hm b _ q fun z => z)]; exact q, fun b ps q => ⟨#[], by rw [upd_ne (hm b _ q fun z => z), q]; simp⟩⟩
  by_cases hbe : b = e
  · subst hbe; exact heo
  · exact ⟨u, k b u hbe q⟩
end
def trk (h : Heap) (H : Hp) : List Addr := (List.range h.objs.size).filter fun a => (H a).isSome
def hidT (h : Heap) (H : Hp) : Heap := PySem.W.hideAll h (trk h H)
theorem hidT_size (h : Heap) (H : Hp) : (hidT h H).objs.size = h.objs.size := PySem.W.hideAll_size _ _
theorem hidT_get {h : Heap} {H : Hp} {b : Addr} {o : Obj} (e : h.get? b = some o) (n : H b = none) : (hidT h H).get? b = some o :=
  PySem.W.hideAll_get _ e fun hm => by
    have q : (H b).isSome = true := (List.mem_filter.mp hm).2
    rw [n] at q; simp at q
theorem of_hidT {h : Heap} {H : Hp} {b : Addr} {o : Obj} (e : (hidT h H).get? b = some o) : h.get? b = some o ∧ H b = none := by
  have e' : h.get? b = some o := PySem.W.of_hideAll (trk h H) e
  refine ⟨e', ?_⟩
  cases q : H b with
  | none => rfl
  | some x =>
    have hm : b ∈ trk h H := List.mem_filter.mpr ⟨List.mem_range.mpr (Heap.lt_size e'), by simp [q]⟩
    have z : (hidT h H).get? b = none := PySem.W.hideAll_none (trk h H) hm
    rw [z] at e; cases e
end L2
namespace L2
open PySem PySem.Spec PyProof.Rows
structure Mod (K : PySem.W.Frag) (mg : Str → Option Value) (base : Heap) : Prop where
  kin : K.In base
  glob : base.Ns mainGlobals mg
  blt : ∃ mb, base.Ns builtinsNs mb ∧ ∀ x : Str, x ≠ "__name__" → mb x = bootBuiltins x
  nolimit : base.NoLimit
structure Cx where
  prog : Program
  w : World
  K : PySem.W.Frag
  mg : Str → Option Value
  base : Heap
  A : Around
  N : List Str
  s₀ : Shared
  H₀ : Hp
  env : Env
  outer : List Env
  stack : List Env
  ex : List Addr
  fn : Str → Bool
  calm : Bool
  pn : List (Addr × Obj)
  xe : Value → Shared → Prop
def frs (l : List Env) : List Addr := l.filterMap (·.frame)
abbrev Cx.fs (X : Cx) : List Addr := frs X.outer
def Vis (sc : Scope) (x : Str) : Prop := sc.names.lookup x = some .local ∨ sc.names.lookup x = some .cell ∨ sc.names.lookup x = some .free
def Loc (sc : Scope) (x : Str) : Prop := sc.names.lookup x = some .local ∨ sc.names.lookup x = some .cell
def Look (env : Env) (h : Heap) (m : Str → Option Value) (x : Str) (u : Value) : Prop :=
  (env.kindOf x = some .local ∧ m x = some u) ∨ ((env.kindOf x = some .cell ∨ env.kindOf x = some .free) ∧ ∃ c, env.cells.lookup x = some c ∧ h.IsCell c (some u))
structure Cx.Ok (X : Cx) : Prop where
  mod : Mod X.K X.mg X.base
  kind : X.env.scope.kind = .function
  glob : X.env.globals = mainGlobals
  blt : X.env.builtins = builtinsNs
  above : X.s₀.heap.objs.size ≤ X.env.locals
  inj : ∀ x y c, X.env.cells.lookup x = some c → X.env.cells.lookup y = some c → x = y
  has : ∀ x, (X.env.kindOf x = some .cell ∨ X.env.kindOf x = some .free) → ∃ c, X.env.cells.lookup x = some c
  cab : ∀ x c, X.fn x = true → X.env.cells.lookup x = some c → X.s₀.heap.objs.size ≤ c
  hd : X.calm = true → X.A.handled = none
  frames : X.A.frames = some X.stack
  stk : X.stack = X.outer ∨ (X.stack = X.env :: X.outer ∧ X.env.frame = some X.env.locals)
  exf : ∀ b ∈ X.ex, b ≠ X.env.locals ∧ ∀ x c, X.env.cells.lookup x = some c → c ≠ b
  bs : ∀ b o, X.base.get? b = some o → X.s₀.heap.get? b = some o ∧ X.H₀ b = none
  bsz : X.base.objs.size ≤ X.s₀.heap.objs.size
  noex : ∀ b o, X.base.get? b = some o → b ∉ X.ex
  exfs : ∀ b ∈ X.ex, b ∉ X.fs
  funs : X.s₀.heap.FunFrames X.base X.outer
  frf : ∀ b ∈ X.fs, X.H₀ b = none
structure Inv (X : Cx) (pins : List (Addr × Obj)) (σ : List (Option V)) (H : Hp) (s : Shared) : Prop where
  ok : X.Ok
  os : s.os = X.s₀.os
  bare : AllBare s.gens
  base : Un X.fs X.ex X.H₀ H X.s₀.heap s.heap
  loc : ∃ m, s.heap.Ns X.env.locals m ∧ ∀ (i : Nat) (x : Str) (v : V), X.N[i]? = some x → σ[i]? = some (some v) → Vis X.env.scope x → ∃ u, RelV v u ∧ Look X.env s.heap m x u
  cell : ∀ x c, X.env.cells.lookup x = some c → ∃ v, s.heap.IsCell c v
  free : H X.env.locals = none
  freeC : ∀ x c, X.env.cells.lookup x = some c → H c = none
  pin : ∀ p ∈ X.pn ++ pins, s.heap.get? p.1 = some p.2 ∧ H p.1 = none ∧ p.1 ≠ X.env.locals ∧ p.1 ∉ X.fs ∧ ∀ v, p.2.data ≠ .cell v
  hok : HOk X.prog X.w H s.heap
  len : σ.length = X.N.length
section
variable {X : Cx} {pins : List (Addr × Obj)} {σ : List (Option V)} {H H' : Hp} {s : Shared} {h' : Heap}
theorem Cx.Ok.nofr (ok : X.Ok) {b : Addr} {o : Obj} (e : X.base.get? b = some o) : b ∉ X.fs := fun hb => by
  have := (ok.funs.mem hb).1
  rw [e] at this; cases this
theorem Inv.bs (I : Inv X pins σ H s) : ∀ b o, X.base.get? b = some o → s.heap.get? b = some o ∧ H b = none := fun b o e =>
  ⟨I.base.keep b o (I.ok.bs b o e).1 (I.ok.bs b o e).2 (I.ok.nofr e) (I.ok.noex b o e), I.base.free b o (I.ok.bs b o e).1 (I.ok.bs b o e).2 (I.ok.noex b o e)⟩
theorem Inv.bk (I : Inv X pins σ H s) : ∀ b o, X.base.get? b = some o → s.heap.get? b = some o := fun b o e => (I.bs b o e).1
theorem Inv.mod (I : Inv X pins σ H s) : Mod X.K X.mg X.base := I.ok.mod
theorem Inv.kIn (I : Inv X pins σ H s) : X.K.In s.heap := I.ok.mod.kin.keeps I.bk
theorem Inv.lt (I : Inv X pins σ H s) : X.env.locals < s.heap.objs.size := let ⟨_, hn, _⟩ := I.loc; hn.lt
theorem Inv.sz (I : Inv X pins σ H s) : X.s₀.heap.objs.size ≤ s.heap.objs.size := Nat.le_trans I.ok.above (Nat.le_of_lt I.lt)
theorem Inv.nofs (I : Inv X pins σ H s) {a : Addr} (h : s.heap.objs.size ≤ a) : a ∉ X.fs := fun hb => by
  obtain ⟨_, o, ho, _⟩ := I.ok.funs.mem hb
  exact absurd (Nat.lt_of_lt_of_le (Heap.lt_size ho) (Nat.le_trans I.sz h)) (Nat.lt_irrefl _)
theorem Inv.cne (I : Inv X pins σ H s) : ∀ x c, X.env.cells.lookup x = some c → c ≠ X.env.locals := fun x c e z => by
  obtain ⟨v, o, ho, hd⟩ := I.cell x c e
  obtain ⟨m, ⟨o', es, ep, ho', hd', _⟩, _⟩ := I.loc
  rw [z, ho'] at ho; cases ho; rw [hd'] at hd; cases hd
theorem Inv.funs (I : Inv X pins σ H s) : s.heap.FunFrames X.base X.outer := by
  have all : ∀ (l : List Env), (∀ b ∈ frs l, b ∈ X.fs) → X.s₀.heap.FunFrames X.base l → s.heap.FunFrames X.base l := by
    intro l
    induction l with
    | nil => intro _ _; trivial
    | cons env r ih =>
      intro hs hl
      obtain ⟨hk, ⟨L, o, hf, hn, ho, hd⟩, hr⟩ := hl
      have hL : L ∈ X.fs := hs L (by unfold frs; rw [List.filterMap_cons, hf]; exact List.mem_cons_self)
      obtain ⟨sl, e⟩ := I.base.slot L o ho (I.ok.frf L hL) hL fun z => I.ok.exfs L z hL
      exact ⟨hk, ⟨L, _, hf, hn, e, hd⟩, ih (fun b hb => hs b (by unfold frs; rw [List.filterMap_cons, hf]; exact List.mem_cons_of_mem _ hb)) hr⟩
  exact all X.outer (fun _ hb => hb) I.ok.funs
theorem Inv.stack (I : Inv X pins σ H s) : s.heap.FunFrames X.base X.stack := by
  rcases I.ok.stk with e | ⟨e, hf⟩
  · rw [e]; exact I.funs
  · rw [e]
    obtain ⟨m, hn, _⟩ := I.loc
    refine .cons (by rw [I.ok.kind]; decide) hf hn ?_ I.funs
    exact Heap.get?_none_of_le (Nat.le_trans I.ok.bsz I.ok.above)
theorem Inv.stkSub (I : Inv X pins σ H s) : ∀ b ∈ frs X.stack, b ∈ X.env.locals :: X.fs := fun b hb => by
  rcases I.ok.stk with e | ⟨e, hf⟩
  · rw [e] at hb; exact List.mem_cons_of_mem _ hb
  · rw [e] at hb
    unfold frs at hb
    rw [List.filterMap_cons, hf] at hb
    exact hb
theorem Inv.stkFree (I : Inv X pins σ H s) : ∀ b ∈ frs X.stack, H b = none := fun b hb => by
  rcases List.mem_cons.mp (I.stkSub b hb) with e | hb
  · rw [e]; exact I.free
  · obtain ⟨_, o, ho, _⟩ := I.ok.funs.mem hb
    exact I.base.free b o ho (I.ok.frf b hb) fun z => I.ok.exfs b z hb
theorem Inv.step {g' : Array GenState} {t' : Nat} {d' : Drawn} {ch : List Addr} (I : Inv X pins σ H s)
    (hch : ∀ b ∈ ch, (b ∈ X.ex ∨ X.s₀.heap.objs.size ≤ b) ∧ b ≠ X.env.locals ∧ (∀ x c, X.env.cells.lookup x = some c → c ≠ b) ∧ ∀ p ∈ X.pn ++ pins, p.1 ≠ b)
    (keep : ∀ b o, b ≠ X.env.locals → b ∉ X.fs → b ∉ ch → s.heap.get? b = some o → H b = none → h'.get? b = some o)
    (slot : ∀ b o, b ≠ X.env.locals → b ∈ X.fs → b ∉ ch → s.heap.get? b = some o → H b = none → ∃ sl, h'.get? b = some { o with slots := sl }) (free : ∀ b o, b ∉ ch → s.heap.get? b = some o → H b = none → H' b = none)
    (there : ∀ b o, b ∉ ch → s.heap.get? b = some o → ∃ o', h'.get? b = some o')
    (tups : ∀ b xs, H b = some (.tup xs) → H' b = some (.tup xs)) (frzs : ∀ b o u, H b = some (.frz o u) → H' b = some (.frz o u)) (tbls : ∀ b ps, H b = some (.tbl ps) → ∃ more, H' b = some (.tbl (ps ++ more)))
    (ns : ∀ m, s.heap.Ns X.env.locals m → h'.Ns X.env.locals m) (hok : HOk X.prog X.w H' h') (hg : AllBare g') :
    Inv X pins σ H' { s with heap := h', gens := g', drawn := d', toks := t' } := by
  have neL : ∀ b o, X.s₀.heap.get? b = some o → b ≠ X.env.locals := fun b o e => Nat.ne_of_lt (Nat.lt_of_lt_of_le (Heap.lt_size e) I.ok.above)
  have neC : ∀ b o, X.s₀.heap.get? b = some o → b ∉ X.ex → b ∉ ch := fun b o e hx hb => by
    rcases (hch b hb).1 with z | z
    · exact hx z
    · exact absurd (Nat.lt_of_lt_of_le (Heap.lt_size e) z) (Nat.lt_irrefl _)
  have cellK : ∀ x c, X.env.cells.lookup x = some c → ∀ v, s.heap.IsCell c v → h'.IsCell c v := fun x c e v ⟨o, ho, hd⟩ => by
    have nch : c ∉ ch := fun z => (hch c z).2.2.1 x c e rfl
    by_cases hc : c ∈ X.fs
    · obtain ⟨sl, q⟩ := slot c o (I.cne x c e) hc nch ho (I.freeC x c e)
      exact ⟨_, q, hd⟩
    · exact ⟨o, keep c o (I.cne x c e) hc nch ho (I.freeC x c e), hd⟩
  refine ⟨I.ok, I.os, hg, ⟨fun b o e n hb hx => ?_, fun b o e n hb hx => ?_, fun b o e n hx => ?_, fun b o e hx => ?_, fun b xs e => tups b xs (I.base.tups b xs e), fun b o xs e => frzs b o xs (I.base.frzs b o xs e), fun b ps e => ?_⟩, ?_, fun x c e => ?_, ?_, fun x c e => ?_, fun p hp => ?_, hok, I.len⟩
  · exact keep b o (neL b o e) hb (neC b o e hx) (I.base.keep b o e n hb hx) (I.base.free b o e n hx)
  · obtain ⟨sl, e1⟩ := I.base.slot b o e n hb hx
    obtain ⟨sl', e2⟩ := slot b _ (neL b o e) hb (neC b o e hx) e1 (I.base.free b o e n hx)
    exact ⟨sl', e2⟩
  · obtain ⟨o', e1⟩ := I.base.there b o e hx
    exact free b o' (neC b o e hx) e1 (I.base.free b o e n hx)
  · obtain ⟨o', e1⟩ := I.base.there b o e hx
    exact there b o' (neC b o e hx) e1
  · obtain ⟨m1, e1⟩ := I.base.tbls b ps e
    obtain ⟨m2, e2⟩ := tbls b _ e1
    exact ⟨m1 ++ m2, by rw [e2, Array.append_assoc]⟩
  · obtain ⟨m, hn, hl⟩ := I.loc
    refine ⟨m, ns m hn, fun i x v e1 e2 e3 => ?_⟩
    obtain ⟨u, r, l⟩ := hl i x v e1 e2 e3
    refine ⟨u, r, ?_⟩
    rcases l with l | ⟨k, c, e, z⟩
    · exact .inl l
    · exact .inr ⟨k, c, e, cellK x c e _ z⟩
  · obtain ⟨v, z⟩ := I.cell x c e
    exact ⟨v, cellK x c e v z⟩
  · obtain ⟨m, ⟨o, _, _, ho, _⟩, _⟩ := I.loc
    exact free _ o (fun z => (hch _ z).2.1 rfl) ho I.free
  · obtain ⟨v, o, ho, hd⟩ := I.cell x c e
    exact free c o (fun z => (hch c z).2.2.1 x c e rfl) ho (I.freeC x c e)
  · obtain ⟨e, n, ne, nf, d⟩ := I.pin p hp
    have nch : p.1 ∉ ch := fun z => (hch p.1 z).2.2.2 p hp rfl
    exact ⟨keep p.1 p.2 ne nf nch e n, free p.1 p.2 nch e n, ne, nf, d⟩
theorem Inv.un {t' : Nat} (I : Inv X pins σ H s) (u : Un X.fs [] H H' s.heap h') (hok : HOk X.prog X.w H' h') : Inv X pins σ H' { s with heap := h', toks := t' } := by
  obtain ⟨m, ⟨o, es, ep, ho, r⟩, _⟩ := id I.loc
  obtain ⟨sl, hL⟩ := u.any ho I.free (by simp)
  exact I.step (g' := s.gens) (d' := s.drawn) (ch := []) (fun _ z => nomatch z) (fun b o _ hb _ e n => u.keep b o e n hb (by simp)) (fun b o _ hb _ e n => u.slot b o e n hb (by simp)) (fun b o _ e n => u.free b o e n (by simp)) (fun b o _ e => u.there b o e (by simp)) u.tups u.frzs u.tbls (fun m' hm => by
    obtain ⟨o', es', ep', ho', r'⟩ := hm
    rw [ho] at ho'; cases ho'
    exact ⟨_, es', ep', hL, r'⟩) hok I.bare
theorem Inv.call {g' : Array GenState} {t' : Nat} {d' : Drawn} {ch : List Addr} (I : Inv X pins σ H s) (u : Un (frs X.stack) ch H H' s.heap h') (hok : HOk X.prog X.w H' h') (hg : AllBare g')
    (hch : ∀ b ∈ ch, (b ∈ X.ex ∨ X.s₀.heap.objs.size ≤ b) ∧ b ≠ X.env.locals ∧ (∀ x c, X.env.cells.lookup x = some c → c ≠ b) ∧ ∀ p ∈ X.pn ++ pins, p.1 ≠ b) :
    Inv X pins σ H' { s with heap := h', gens := g', drawn := d', toks := t' } := by
  obtain ⟨m, ⟨o, es, ep, ho, r⟩, _⟩ := id I.loc
  obtain ⟨sl, hL⟩ := u.any ho I.free fun z => (hch _ z).2.1 rfl
  exact I.step (ch := ch) hch (fun b o hL hb hc e n => u.keep b o e n (fun z => (List.mem_cons.mp (I.stkSub b z)).elim hL hb) hc) (fun b o _ _ hc e n => u.any e n hc) (fun b o hc e n => u.free b o e n hc) (fun b o hc e => u.there b o e hc) u.tups u.frzs u.tbls (fun m' hm => by
    obtain ⟨o', es', ep', ho', r'⟩ := hm
    rw [ho] at ho'; cases ho'
    exact ⟨_, es', ep', hL, r'⟩) hok hg
theorem Inv.turned {t' : Nat} {it : Addr} (I : Inv X pins σ H s) (k : ∀ b o, b ≠ it → s.heap.get? b = some o → h'.get? b = some o) (hn : H it = none) (hL : it ≠ X.env.locals)
    (h1 : it ∈ X.ex ∨ X.s₀.heap.objs.size ≤ it) (h2 : ∀ x c, X.env.cells.lookup x = some c → c ≠ it) (h3 : ∀ p ∈ X.pn ++ pins, p.1 ≠ it) : Inv X pins σ H { s with heap := h', toks := t' } := by
  have nit : ∀ b u, H b = some u → b ≠ it := fun b u e z => by rw [z, hn] at e; cases e
  refine I.step (g' := s.gens) (d' := s.drawn) (ch := [it]) (fun b hb => ?_) (fun b o _ _ hc e _ => k b o (fun z => hc (by simp [z])) e) (fun b o _ _ hc e _ => ⟨o.slots, k b o (fun z => hc (by simp [z])) e⟩) (fun _ _ _ _ n => n)
    (fun b o hc e => ⟨o, k b o (fun z => hc (by simp [z])) e⟩) (fun _ _ e => e) (fun _ _ _ e => e) (fun b ps e => ⟨#[], by rw [e]; simp⟩) (fun m hm => ?_) (fun b u e => ?_) I.bare
  · have e : b = it := by simpa using hb
    subst e
    exact ⟨h1, hL, h2, h3⟩
  · obtain ⟨o, es, ep, ho, r⟩ := hm
    exact ⟨o, es, ep, k _ o (Ne.symm hL) ho, r⟩
  · refine (I.hok b u e).stay (fun c v hc q => k c v ?_ q) (fun _ q => q) fun _ _ q => q
    rcases hc with z | z
    · rw [z]; exact nit b u e
    · exact nit c _ z
theorem Inv.tok (I : Inv X pins σ H s) (t : Nat) : Inv X pins σ H { s with toks := t } := I.un (h' := s.heap) (t' := t) Un.refl I.hok
theorem Inv.kept {t' : Nat} (I : Inv X pins σ H s) (k : ∀ b u, s.heap.get? b = some u → h'.get? b = some u) : Inv X pins σ H { s with heap := h', toks := t' } := I.un (Un.kept k) (I.hok.kept k)
theorem Inv.laid {a : Addr} {o : HO} {t' : Nat} (I : Inv X pins σ H s) (k : ∀ b u, s.heap.get? b = some u → h'.get? b = some u) (hp : s.heap.objs.size ≤ a) (new : ObjOk X.prog X.w (upd H a o) h' a o) :
    Inv X pins σ (upd H a o) { s with heap := h', toks := t' } := I.un (Un.laid k hp (I.hok.fresh hp)) (I.hok.laid k hp new)
theorem Inv.write {x e : Addr} {o : HO} {t' : Nat} (I : Inv X pins σ H s) (mu : Mut (H x)) (he : e = x ∨ H e = some (.own x)) (k : ∀ b u, b ≠ e → s.heap.get? b = some u → h'.get? b = some u) (heo : ∃ u, h'.get? e = some u)
    (new : ObjOk X.prog X.w (upd H x o) h' x o) : Inv X pins σ (upd H x o) { s with heap := h', toks := t' } := I.un (Un.write mu he k heo) (I.hok.write mu he k heo new)
theorem Inv.pins_of {pins' : List (Addr × Obj)} (I : Inv X pins σ H s) (h : ∀ p ∈ pins', s.heap.get? p.1 = some p.2 ∧ H p.1 = none ∧ p.1 ≠ X.env.locals ∧ p.1 ∉ X.fs ∧ ∀ v, p.2.data ≠ .cell v) : Inv X pins' σ H s :=
  ⟨I.ok, I.os, I.bare, I.base, I.loc, I.cell, I.free, I.freeC, fun p hp => (List.mem_append.mp hp).elim (fun z => I.pin p (List.mem_append_left _ z)) (h p), I.hok, I.len⟩
theorem nodup_ix {N : List Str} (hN : N.Nodup) {i j : Nat} {x : Str} (a : N[i]? = some x) (b : N[j]? = some x) : i = j := by
  obtain ⟨h1, e1⟩ := List.getElem?_eq_some_iff.mp a
  obtain ⟨h2, e2⟩ := List.getElem?_eq_some_iff.mp b
  exact (List.getElem_inj hN).mp (e1.trans e2.symm)
theorem store_ok2 {M : Model} {A : Around} {E : Value → Shared → Prop} {i : Nat} {x : Str} {v : V} {u : Value} {Q : Unit → Shared → Prop} (I : Inv X pins σ H s) (hN : X.N.Nodup) (hi : X.N[i]? = some x) (hx : Loc X.env.scope x) (r : RelV v u)
    (h : ∀ s', Inv X pins (σ.set i (some v)) H s' → (∃ a, Heap.SameBut a s.heap s'.heap ∧ (a = X.env.locals ∨ X.env.cells.lookup x = some a)) → Q () s') (hf : X.fn x = true ∨ X.env.scope.names.lookup x = some .local := by first | exact .inl rfl | exact .inr rfl | assumption) : wpAny M A (storeName X.env x u) Q E s := by
  obtain ⟨m, hn, hl⟩ := id I.loc
  have hcls : (X.env.scope.kind == .class || (X.env.scope.kind == .module && X.env.locals != X.env.globals)) = false := by rw [I.ok.kind]; rfl
  have hiσ : i < σ.length := by rw [I.len]; exact (List.getElem?_eq_some_iff.mp hi).1
  have cne := I.cne
  have tracked : ∀ {a : Addr} {h' : Heap}, (∃ o, s.heap.get? a = some o ∧ H a = none) → Heap.SameBut a s.heap h' → HOk X.prog X.w H h' := fun {a h'} ha hs b ob e => by
    obtain ⟨_, _, hfree⟩ := ha
    refine (I.hok b ob e).stay (fun c w' hc q => (hs.2 c ?_).trans q) (fun _ q => q) fun _ _ q => q
    rintro rfl
    rcases hc with rfl | hc
    · rw [hfree] at e; cases e
    · rw [hfree] at hc; cases hc
  rcases hx with hk | hk
  · refine wpAny_storeName_local hk hn (fun h' hn' hs => ?_) hcls
    obtain ⟨oL, _, _, hoL, _⟩ := id hn
    refine h _ ⟨I.ok, I.os, I.bare, ⟨fun b o e n hb hx => ?_, fun b o e n hb hx => ?_, I.base.free, fun b o e hx => ?_, I.base.tups, I.base.frzs, I.base.tbls⟩, ⟨_, hn', fun j y v' e1 e2 e3 => ?_⟩, fun y c e => ?_, I.free, I.freeC, fun p hp => ?_, tracked ⟨oL, hoL, I.free⟩ hs, by simpa using I.len⟩ ⟨_, hs, .inl rfl⟩
    · exact (hs.2 b (Nat.ne_of_lt (Nat.lt_of_lt_of_le (Heap.lt_size e) I.ok.above))).trans (I.base.keep b o e n hb hx)
    · obtain ⟨sl, e1⟩ := I.base.slot b o e n hb hx
      exact ⟨sl, (hs.2 b (Nat.ne_of_lt (Nat.lt_of_lt_of_le (Heap.lt_size e) I.ok.above))).trans e1⟩
    · obtain ⟨o', e1⟩ := I.base.there b o e hx
      exact ⟨o', (hs.2 b (Nat.ne_of_lt (Nat.lt_of_lt_of_le (Heap.lt_size e) I.ok.above))).trans e1⟩
    · by_cases hj : j = i
      · subst hj
        rw [hi] at e1; cases e1
        rw [List.getElem?_set_self hiσ] at e2
        cases e2
        exact ⟨u, r, .inl ⟨hk, by simp⟩⟩
      · rw [List.getElem?_set_ne (Ne.symm hj)] at e2
        obtain ⟨u', r', q⟩ := hl j y v' e1 e2 e3
        refine ⟨u', r', ?_⟩
        rcases q with ⟨k, e⟩ | ⟨k, c, e, z⟩
        · refine .inl ⟨k, ?_⟩
          have : y ≠ x := fun e => hj (nodup_ix hN e1 (e ▸ hi))
          simp [this, e]
        · exact .inr ⟨k, c, e, z.sameBut hs (cne y c e)⟩
    · obtain ⟨w', z⟩ := I.cell y c e
      exact ⟨w', z.sameBut hs (cne y c e)⟩
    · obtain ⟨e, n, ne, nf, d⟩ := I.pin p hp
      exact ⟨(hs.2 p.1 ne).trans e, n, ne, nf, d⟩
  · have hfn : X.fn x = true := by
      rcases hf with z | z
      · exact z
      · rw [z] at hk; cases hk
    obtain ⟨c, hc⟩ := I.ok.has x (.inl hk)
    obtain ⟨w', z⟩ := I.cell x c hc
    refine wpAny_storeName_cell I.ok.kind hk hc z (fun h' hc' hs => ?_)
    obtain ⟨oc, hoc, hocd⟩ := id z
    refine h { s with heap := h' } ⟨I.ok, I.os, I.bare, ⟨fun b o e n hb hx => ?_, fun b o e n hb hx => ?_, I.base.free, fun b o e hx => ?_, I.base.tups, I.base.frzs, I.base.tbls⟩, ⟨m, hn.sameBut hs (Ne.symm (cne x c hc)), fun j y v' e1 e2 e3 => ?_⟩, fun y c' e => ?_, I.free, I.freeC, fun p hp => ?_, tracked ⟨oc, hoc, I.freeC x c hc⟩ hs, by simpa using I.len⟩ ⟨c, hs, .inr hc⟩
    · exact (hs.2 b (Nat.ne_of_lt (Nat.lt_of_lt_of_le (Heap.lt_size e) (I.ok.cab x c hfn hc)))).trans (I.base.keep b o e n hb hx)
    · obtain ⟨sl, e1⟩ := I.base.slot b o e n hb hx
      exact ⟨sl, (hs.2 b (Nat.ne_of_lt (Nat.lt_of_lt_of_le (Heap.lt_size e) (I.ok.cab x c hfn hc)))).trans e1⟩
    · obtain ⟨o', e1⟩ := I.base.there b o e hx
      exact ⟨o', (hs.2 b (Nat.ne_of_lt (Nat.lt_of_lt_of_le (Heap.lt_size e) (I.ok.cab x c hfn hc)))).trans e1⟩
    · by_cases hj : j = i
      · subst hj
        rw [hi] at e1; cases e1
        rw [List.getElem?_set_self hiσ] at e2
        cases e2
        exact ⟨u, r, .inr ⟨.inl hk, c, hc, hc'⟩⟩
      · rw [List.getElem?_set_ne (Ne.symm hj)] at e2
        obtain ⟨u', r', q⟩ := hl j y v' e1 e2 e3
        refine ⟨u', r', ?_⟩
        rcases q with q | ⟨k, c', e, z'⟩
        · exact .inl q
        · refine .inr ⟨k, c', e, z'.sameBut hs ?_⟩
          rintro rfl
          exact hj (nodup_ix hN e1 (I.ok.inj _ _ _ e hc ▸ hi))
    · by_cases hcc : c' = c
      · subst hcc; exact ⟨_, hc'⟩
      · obtain ⟨w2, z2⟩ := I.cell y c' e
        exact ⟨w2, z2.sameBut hs hcc⟩
    · obtain ⟨e, n, ne, nf, d⟩ := I.pin p hp
      refine ⟨(hs.2 p.1 ?_).trans e, n, ne, nf, d⟩
      intro q
      rw [q, hoc] at e
      have q' : oc = p.2 := Option.some.inj e
      exact d w' (by rw [← q']; exact hocd)
theorem store_ok {M : Model} {A : Around} {E : Value → Shared → Prop} {i : Nat} {x : Str} {v : V} {u : Value} {Q : Unit → Shared → Prop} (I : Inv X pins σ H s) (hN : X.N.Nodup) (hi : X.N[i]? = some x) (hx : Loc X.env.scope x) (r : RelV v u)
    (h : ∀ s', Inv X pins (σ.set i (some v)) H s' → Q () s') (hf : X.fn x = true ∨ X.env.scope.names.lookup x = some .local := by first | exact .inl rfl | exact .inr rfl | assumption) : wpAny M A (storeName X.env x u) Q E s :=
  store_ok2 I hN hi hx r (fun s' I' _ => h s' I') hf
theorem Inv.call' {s' : Shared} {ch : List Addr} (I : Inv X pins σ H s) (ho : s'.os = s.os) (u : Un (frs X.stack) ch H H' s.heap s'.heap) (hok : HOk X.prog X.w H' s'.heap) (hg : AllBare s'.gens)
    (hch : ∀ b ∈ ch, (b ∈ X.ex ∨ X.s₀.heap.objs.size ≤ b) ∧ b ≠ X.env.locals ∧ (∀ x c, X.env.cells.lookup x = some c → c ≠ b) ∧ ∀ p ∈ X.pn ++ pins, p.1 ≠ b) : Inv X pins σ H' s' := by
  obtain ⟨h', g', d', t', o'⟩ := s'
  have e : o' = s.os := ho
  subst e
  exact I.call (g' := g') (t' := t') (d' := d') u hok hg hch
end
abbrev XK := Value → Option Addr → Hp → Prop
abbrev St := List (Option V)
abbrev VK := V → Hp → Prop
abbrev TE := St → Hp → VK → Prop
abbrev TT := St → Hp → (Bool → Hp → Prop) → Prop
abbrev TA := St → Hp → (List V → Hp → Prop) → Prop
structure Ends where
  nx : St → Hp → Prop
  rt : VK
  bk : St → Hp → Prop := fun _ _ => False
  ct : St → Hp → Prop := fun _ _ => False
abbrev TS := Ends → St → Hp → Prop
def EP (X : Cx) (pins : List (Addr × Obj)) (σ : St) (Q : VK) (u : Value) (s' : Shared) : Prop := ∃ v H', Inv X pins σ H' s' ∧ RelV v u ∧ Q v H'
def TP (X : Cx) (pins : List (Addr × Obj)) (σ : St) (Q : Bool → Hp → Prop) (b : Bool) (s' : Shared) : Prop := ∃ H', Inv X pins σ H' s' ∧ Q b H'
def AP (X : Cx) (pins : List (Addr × Obj)) (σ : St) (Q : List V → Hp → Prop) (us : List Value) (s' : Shared) : Prop := ∃ vs H', Inv X pins σ H' s' ∧ Vals vs us ∧ Q vs H'
def SP (X : Cx) (pins : List (Addr × Obj)) (D : Ends) (f : Flow) (s' : Shared) : Prop :=
  match f with
  | .next => ∃ σ' H', Inv X pins σ' H' s' ∧ D.nx σ' H'
  | .brk => ∃ σ' H', Inv X pins σ' H' s' ∧ D.bk σ' H'
  | .cont => ∃ σ' H', Inv X pins σ' H' s' ∧ D.ct σ' H'
  | .ret u => ∃ v σ' H', Inv X pins σ' H' s' ∧ RelV v u ∧ D.rt v H'
def PE (X : Cx) (e : Expr) (t : TE) : Prop :=
  ∀ (pins : List (Addr × Obj)) (s : Shared) (σ : St) (H : Hp) (Q : VK), Inv X pins σ H s → t σ H Q → wpAny (model X.prog X.w) X.A (eval e X.env) (EP X pins σ Q) X.xe s
def PT (X : Cx) (e : Expr) (t : TT) : Prop :=
  ∀ (pins : List (Addr × Obj)) (s : Shared) (σ : St) (H : Hp) (Q : Bool → Hp → Prop), Inv X pins σ H s → t σ H Q → wpAny (model X.prog X.w) X.A (isTrue e X.env (eval e X.env)) (TP X pins σ Q) X.xe s
def PW (X : Cx) (e : Expr) (t : TT) : Prop :=
  ∀ (whole : Sem Value) (pins : List (Addr × Obj)) (s : Shared) (σ : St) (H : Hp) (Q : Bool → Hp → Prop), Inv X pins σ H s → t σ H Q → wpAny (model X.prog X.w) X.A (isTrue e X.env whole) (TP X pins σ Q) X.xe s
theorem PW.pt {X : Cx} {e : Expr} {t : TT} (h : PW X e t) : PT X e t := h _
def PA (X : Cx) (es : List Expr) (t : TA) : Prop :=
  ∀ (pos : Pos) (pins : List (Addr × Obj)) (s : Shared) (σ : St) (H : Hp) (Q : List V → Hp → Prop), Inv X pins σ H s → t σ H Q → wpAny (model X.prog X.w) X.A (spliced (backTo pos (starEach es X.env))) (AP X pins σ Q) X.xe s
def PS (X : Cx) (st : Stmt) (t : TS) : Prop :=
  ∀ (pins : List (Addr × Obj)) (s : Shared) (σ : St) (H : Hp) (D : Ends), Inv X pins σ H s → t D σ H → wpAny (model X.prog X.w) X.A (exec st X.env) (SP X pins D) X.xe s
def PSs (X : Cx) (st : List Stmt) (t : TS) : Prop :=
  ∀ (pins : List (Addr × Obj)) (s : Shared) (σ : St) (H : Hp) (D : Ends), Inv X pins σ H s → t D σ H → wpAny (model X.prog X.w) X.A (execs st X.env) (SP X pins D) X.xe s
theorem thn {α : Type} {t : Sem α} {Q Q' : α → Shared → Prop} {M : Model} {A : Around} {E : Value → Shared → Prop} {s : Shared} (h : wpAny M A t Q E s) (hQ : ∀ a s, Q a s → Q' a s) : wpAny M A t Q' E s := wpAny_mono h hQ fun _ _ x => x
end L2
namespace L2
open PySem PySem.Spec PyProof.Rows
section
variable {X : Cx}
theorem bin {a b : Expr} {ta tb : TE} (ha : PE X a ta) (hb : PE X b tb) {pins : List (Addr × Obj)} {s : Shared} {σ : St} {H : Hp} {R : V → V → Hp → Prop} (I : Inv X pins σ H s) (h : ta σ H fun x H1 => tb σ H1 fun y H2 => R x y H2)
    {α : Type} {Q : α → Shared → Prop} {f : Value → Value → Sem α}
    (hf : ∀ v u s2 x y H2, Inv X pins σ H2 s2 → RelV x v → RelV y u → R x y H2 → wpAny (model X.prog X.w) X.A (f v u) Q X.xe s2) :
    wpAny (model X.prog X.w) X.A (eval a X.env) (fun v s₁ => wpAny (model X.prog X.w) X.A (eval b X.env) (fun u s₂ => wpAny (model X.prog X.w) X.A (f v u) Q X.xe s₂) X.xe s₁) X.xe s := by
  refine thn (ha pins s σ H _ I h) fun v s1 ⟨x, H1, I1, r1, q1⟩ => ?_
  refine thn (hb pins s1 σ H1 _ I1 q1) fun u s2 ⟨y, H2, I2, r2, q2⟩ => ?_
  exact hf v u s2 x y H2 I2 r1 r2 q2
def tVar (i : Nat) : TE := fun σ H Q => ∃ v, σ[i]? = some (some v) ∧ Q v H
def tC (v : V) : TE := fun _ H Q => Q v H
theorem pe_var {i : Nat} {x : Str} {pos : Pos} (hN : X.N[i]? = some x) (hv : Vis X.env.scope x) (hd : (x == ("__debug__" : Str)) = false := by decide) (hcd : (x == ("__classdict__" : Str)) = false := by decide) : PE X (.Name x pos) (tVar i) := by
  intro pins s σ H Q I h
  obtain ⟨v, e, h⟩ := h
  obtain ⟨m, hn, hl⟩ := I.loc
  obtain ⟨u, r, l⟩ := hl i x v hN e hv
  have fin : EP X pins σ Q u s := ⟨v, H, I, r, h⟩
  rcases l with ⟨hk, hm⟩ | ⟨hk, c, hc, hcell⟩
  · exact wpAny_Name (wpAny_loadName_local I.ok.kind hk hn hm fin) hd
  · rcases hk with hk | hk
    · exact wpAny_Name (wpAny_loadName_cell I.ok.kind hk hc hcell fin) hd
    · exact wpAny_Name (wpAny_loadName_free I.ok.kind hk hc hcell fin hcd) hd
theorem pe_int {i j pos} : PE X (.Constant (.int i) j pos) (tC (.int i)) := fun _ _ _ H _ I h => wpAny_Constant_int ⟨.int i, H, I.tok _, ⟨_, rfl⟩, h⟩
theorem pe_bl {b j pos} : PE X (.Constant (.bool b) j pos) (tC (.bl b)) := fun _ _ _ H _ I h => Constant_bool ⟨.bl b, H, I, rfl, h⟩
theorem pe_non {j pos} : PE X (.Constant .none j pos) (tC .non) := fun _ _ _ H _ I h => Constant_none ⟨.non, H, I, rfl, h⟩
theorem pe_str {x j pos} : PE X (.Constant (.str x) j pos) (tC (.str x)) := fun _ _ _ H _ I h => Calls.Constant_str ⟨.str x, H, I.tok _, ⟨_, rfl⟩, h⟩
def Gl (X : Cx) (x : Str) : Prop := X.env.kindOf x = some .globalImplicit
theorem ld_glob {E : Value → Shared → Prop} {pins : List (Addr × Obj)} {s : Shared} {σ : St} {H : Hp} {x : Str} {u : Value} {pos : Pos} {Q : Value → Shared → Prop} (I : Inv X pins σ H s) (hg : Gl X x) (hm : X.mg x = some u) (h : Q u s)
    (hd : (x == ("__debug__" : Str)) = false := by decide) : wpAny (model X.prog X.w) X.A (eval (.Name x pos) X.env) Q E s :=
  Calls.Name_function_global I.ok.kind hg (Calls.loadGlobal_global (by rw [I.ok.glob]; exact I.mod.glob.keeps I.bk) hm h) hd
theorem ld_blt {E : Value → Shared → Prop} {pins : List (Addr × Obj)} {s : Shared} {σ : St} {H : Hp} {x : Str} {u : Value} {pos : Pos} {Q : Value → Shared → Prop} (I : Inv X pins σ H s) (hg : Gl X x) (hm : X.mg x = none) (hv : bootBuiltins x = some u) (h : Q u s)
    (hn : x ≠ "__name__" := by decide) (hd : (x == ("__debug__" : Str)) = false := by decide) : wpAny (model X.prog X.w) X.A (eval (.Name x pos) X.env) Q E s := by
  obtain ⟨mb, h1, h2⟩ := I.mod.blt
  exact Calls.Name_function_global I.ok.kind hg (Calls.loadGlobal_builtin (by rw [I.ok.glob]; exact I.mod.glob.keeps I.bk) hm (by rw [I.ok.blt]; exact h1.keeps I.bk) ((h2 x hn).trans hv) h) hd
variable {a b : Expr} {ta tb : TE} {pos : Pos}
def PC (X : Cx) (op : CmpOp) (a b : Expr) (t : TE) : Prop :=
  ∀ (pins : List (Addr × Obj)) (s : Shared) (σ : St) (H : Hp) (Q : VK), Inv X pins σ H s → t σ H Q →
    wpAny (model X.prog X.w) X.A (eval a X.env) (fun v s₁ => wpAny (model X.prog X.w) X.A (eval b X.env) (fun u s₂ => wpAny (model X.prog X.w) X.A (compareOp op v u) (EP X pins σ Q) X.xe s₂) X.xe s₁) X.xe s
def tB (t : TE) : TT := fun σ H Q => t σ H fun x H1 => ∃ c, x = .bl c ∧ Q c H1
theorem pt_cmp {op : CmpOp} {t : TE} (h : PC X op a b t) (h1 : behindInMarks op b = false := by first | exact nobehind _ (by decide) (by decide) | rfl) : PT X (.Compare a [op] [b] pos) (tB t) := by
  intro pins s σ H Q I hw
  refine wpAny_isTrue_Compare1 (thn (h pins s σ H _ I hw) fun v s1 h1 => thn h1 fun u s2 h2 => thn h2 fun c s3 ⟨x, H1, I1, r1, q1⟩ => ?_) h1
  obtain ⟨d, rfl, q⟩ := q1
  cases r1
  exact wpAny_truthy_bool ⟨H1, I1, q⟩
theorem pt_val {e : Expr} {t : TE} (h : PE X e t) (he : ∀ whole, isTrue e X.env whole = (do let v ← whole; standAt e.pos; holding [v] (truthy v)) := by intro _; rfl) : PT X e (tB t) := by
  intro pins s σ H Q I hw
  refine isTrue_plain (thn (h pins s σ H _ I hw) fun v s1 ⟨x, H1, I1, r1, q1⟩ => ?_) (he _)
  obtain ⟨d, rfl, q⟩ := q1
  cases r1
  exact wpAny_truthy_bool ⟨H1, I1, q⟩
variable {tA tB' : TT} {rest : List Expr}
def tAnd (t u : TT) : TT := fun σ H Q => t σ H fun c H1 => if c = true then u σ H1 Q else Q false H1
def tOr (t u : TT) : TT := fun σ H Q => t σ H fun c H1 => if c = true then Q true H1 else u σ H1 Q
def tNot (t : TT) : TT := fun σ H Q => t σ H fun c H1 => Q (!c) H1
theorem pw_and1 (ha : PT X a tA) : PW X (.BoolOp .And [a] pos) tA := by
  intro wh pins s σ H Q I h
  refine isTrue_and (thn (ha pins s σ H Q I h) fun c s1 e => ?_)
  cases c with
  | true => exact isTrue_and_nil e
  | false => exact e
theorem pw_or1 (ha : PT X a tA) : PW X (.BoolOp .Or [a] pos) tA := by
  intro wh pins s σ H Q I h
  refine isTrue_or (thn (ha pins s σ H Q I h) fun c s1 e => ?_)
  cases c with
  | false => exact isTrue_or_nil e
  | true => exact e
theorem pw_and (ha : PT X a tA) (hb : PW X (.BoolOp .And (b :: rest) pos) tB') : PW X (.BoolOp .And (a :: b :: rest) pos) (tAnd tA tB') := by
  intro wh pins s σ H Q I h
  refine isTrue_and (thn (ha pins s σ H _ I h) fun c s1 ⟨H1, I1, q1⟩ => ?_)
  cases c with
  | true => exact hb wh pins s1 σ H1 Q I1 q1
  | false => exact ⟨H1, I1, q1⟩
theorem pw_or (ha : PT X a tA) (hb : PW X (.BoolOp .Or (b :: rest) pos) tB') : PW X (.BoolOp .Or (a :: b :: rest) pos) (tOr tA tB') := by
  intro wh pins s σ H Q I h
  refine isTrue_or (thn (ha pins s σ H _ I h) fun c s1 ⟨H1, I1, q1⟩ => ?_)
  cases c with
  | true => exact ⟨H1, I1, q1⟩
  | false => exact hb wh pins s1 σ H1 Q I1 q1
theorem pt_not (ha : PT X a tA) : PT X (.UnaryOp .Not a pos) (tNot tA) := by
  intro pins s σ H Q I h
  exact isTrue_not (ha pins s σ H (fun c H1 => Q (!c) H1) I h)
def tAndV (ta tb : TE) : TE := fun σ H Q => ta σ H fun x H1 => ∃ c, x = .bl c ∧ if c = true then tb σ H1 Q else Q (.bl false) H1
def tNotV (ta : TE) : TE := fun σ H Q => ta σ H fun x H1 => ∃ c, x = .bl c ∧ Q (.bl (!c)) H1
theorem pe_one {op} {t : TE} (h : PE X a t) : PE X (.BoolOp op [a] pos) t := fun pins s σ H Q I hw => BoolOp_one (h pins s σ H Q I hw)
theorem pe_and (ha : PE X a ta) (hb : PE X (.BoolOp .And (b :: rest) pos) tb) : PE X (.BoolOp .And (a :: b :: rest) pos) (tAndV ta tb) := by
  intro pins s σ H Q I h
  refine BoolOp_and (thn (ha pins s σ H _ I h) fun v s1 ⟨x, H1, I1, r1, q1⟩ => ?_)
  obtain ⟨c, rfl, q1⟩ := q1
  cases r1
  refine wpAny_truthy_bool ?_
  cases c with
  | true => exact hb pins s1 σ H1 Q I1 q1
  | false => exact ⟨.bl false, H1, I1, rfl, q1⟩
theorem pe_not (ha : PE X a ta) : PE X (.UnaryOp .Not a pos) (tNotV ta) := by
  intro pins s σ H Q I h
  refine UnaryOp_ (thn (ha pins s σ H _ I h) fun v s1 ⟨x, H1, I1, r1, q1⟩ => ?_)
  obtain ⟨c, rfl, q1⟩ := q1
  cases r1
  exact not_of (wpAny_truthy_bool ⟨.bl (!c), H1, I1, rfl, q1⟩)
end
end L2
namespace L2
open PySem PySem.Spec PyProof.Rows
def SqL (K : PySem.W.Frag) (H : Hp) (a : Addr) (xs : List V) : Prop :=
  Rd H a (.lst xs) ∨
    ∃ (o : Obj) (its : Array Value) (n : Nat), K.lookup a = some o ∧ o.cls = .type "list" ∧ o.dict = none ∧ o.data = .seq its n ∧ its.size ≤ sizeLine ∧ Vals xs its.toList
def SqT (K : PySem.W.Frag) (H : Hp) (a : Addr) (xs : List V) : Prop :=
  Rd H a (.tup xs) ∨
    ∃ (o : Obj) (its : Array Value) (n : Nat), K.lookup a = some o ∧ o.cls = .type "tuple" ∧ o.data = .seq its n ∧ its.size ≤ sizeLine ∧ Vals xs its.toList
def absV : Value → Option V
  | .none => some .non
  | .bool b => some (.bl b)
  | .int i _ => some (.int i)
  | .str x _ => some (.str x)
  | .bytes b _ => some (.byt b)
  | .float b _ => some (.flt b)
  | .ref a => some (.ref a)
  | .type n => some (.ty n)
  | _ => none
theorem RelV.abs {x : V} {u : Value} (r : RelV x u) : absV u = some x := by
  cases x with
  | non => cases r; rfl
  | bl _ => cases r; rfl
  | int _ => obtain ⟨t, rfl⟩ := r; rfl
  | str _ => obtain ⟨t, rfl⟩ := r; rfl
  | byt _ => obtain ⟨t, rfl⟩ := r; rfl
  | flt _ => obtain ⟨t, rfl⟩ := r; rfl
  | ref _ => cases r; rfl
  | ty _ => cases r; rfl
theorem RelV.inj {x y : V} {u : Value} (r : RelV x u) (q : RelV y u) : x = y := Option.some.inj (r.abs.symm.trans q.abs)
theorem Vals.inj : ∀ {xs ys : List V} {us : List Value}, Vals xs us → Vals ys us → xs = ys
  | _, _, _, .nil, .nil => rfl
  | _, _, _, .cons r t, .cons r' t' => by rw [r.inj r', Vals.inj t t']
section
variable {X : Cx} {pins : List (Addr × Obj)} {σ : St} {H : Hp} {s : Shared} {a : Addr} {xs ys : List V}
theorem SqL.of {K : PySem.W.Frag} (h : H a = some (.lst xs)) : SqL K H a xs := .inl (.inl h)
theorem SqT.of {K : PySem.W.Frag} (h : H a = some (.tup xs)) : SqT K H a xs := .inl (.inl h)
theorem Inv.list (I : Inv X pins σ H s) (h : SqL X.K H a xs) : ∃ its : List Value, Vals xs its ∧ PlainL s.heap a its.toArray ∧ xs.length ≤ sizeLine := by
  rcases h with h | ⟨o, its, n, hk, hc, hd, hs, hz, r⟩
  · obtain ⟨z, its, n, r, e⟩ := h.ok I.hok
    exact ⟨its, r, ⟨_, n, e, rfl, rfl, rfl⟩, z⟩
  · refine ⟨its.toList, r, ⟨o, n, I.kIn a o hk, hc, hd, by simpa using hs⟩, ?_⟩
    have e := r.length
    simp only [Array.length_toList] at e
    omega
theorem Inv.tuple (I : Inv X pins σ H s) (h : SqT X.K H a xs) : ∃ its : List Value, Vals xs its ∧ IsTup s.heap a its.toArray ∧ xs.length ≤ sizeLine := by
  rcases h with h | ⟨o, its, n, hk, hc, hs, hz, r⟩
  · obtain ⟨z, its, r, p⟩ := h.ok I.hok
    exact ⟨its, r, p, z⟩
  · refine ⟨its.toList, r, ⟨o, I.kIn a o hk, hc, n, by simpa using hs⟩, ?_⟩
    have e := r.length
    simp only [Array.length_toList] at e
    omega
theorem Inv.list_inj (I : Inv X pins σ H s) (h : SqL X.K H a xs) (h' : SqL X.K H a ys) : xs = ys := by
  obtain ⟨its, r, ⟨o, n, e, _, _, d⟩, _⟩ := I.list h
  obtain ⟨its', r', ⟨o', n', e', _, _, d'⟩, _⟩ := I.list h'
  rw [e] at e'; cases e'
  rw [d] at d'
  injection d' with d1 _
  have : its = its' := by simpa using congrArg Array.toList d1
  subst this
  exact r.inj r'
theorem Inv.tuple_inj (I : Inv X pins σ H s) (h : SqT X.K H a xs) (h' : SqT X.K H a ys) : xs = ys := by
  obtain ⟨its, r, ⟨o, e, _, n, d⟩, _⟩ := I.tuple h
  obtain ⟨its', r', ⟨o', e', _, n', d'⟩, _⟩ := I.tuple h'
  rw [e] at e'; cases e'
  rw [d] at d'
  injection d' with d1 _
  have : its = its' := by simpa using congrArg Array.toList d1
  subst this
  exact r.inj r'
end
abbrev Cx.wish (X : Cx) (E : Value → Shared → Prop) : Cx := { X with xe := E }
abbrev Cx.nox (X : Cx) : Cx := X.wish fun _ _ => False
theorem Cx.Ok.wish {X : Cx} (ok : X.Ok) (E : Value → Shared → Prop) : (X.wish E).Ok :=
  ⟨ok.mod, ok.kind, ok.glob, ok.blt, ok.above, ok.inj, ok.has, ok.cab, ok.hd, ok.frames, ok.stk, ok.exf, ok.bs, ok.bsz, ok.noex, ok.exfs, ok.funs, ok.frf⟩
theorem Cx.Ok.unwish {X : Cx} {E : Value → Shared → Prop} (ok : (X.wish E).Ok) : X.Ok :=
  ⟨ok.mod, ok.kind, ok.glob, ok.blt, ok.above, ok.inj, ok.has, ok.cab, ok.hd, ok.frames, ok.stk, ok.exf, ok.bs, ok.bsz, ok.noex, ok.exfs, ok.funs, ok.frf⟩
section
variable {X : Cx} {pins : List (Addr × Obj)} {σ : St} {H : Hp} {s : Shared} {E : Value → Shared → Prop}
theorem Inv.wish (I : Inv X pins σ H s) (E : Value → Shared → Prop) : Inv (X.wish E) pins σ H s := ⟨I.ok.wish E, I.os, I.bare, I.base, I.loc, I.cell, I.free, I.freeC, I.pin, I.hok, I.len⟩
theorem Inv.unwish (I : Inv (X.wish E) pins σ H s) : Inv X pins σ H s := ⟨I.ok.unwish, I.os, I.bare, I.base, I.loc, I.cell, I.free, I.freeC, I.pin, I.hok, I.len⟩
theorem SP.unwish {D : Ends} {f : Flow} {s' : Shared} (h : SP (X.wish E) pins D f s') : SP X pins D f s' := by
  cases f with
  | next => obtain ⟨σ', H', I, q⟩ := h; exact ⟨σ', H', I.unwish, q⟩
  | brk => obtain ⟨σ', H', I, q⟩ := h; exact ⟨σ', H', I.unwish, q⟩
  | cont => obtain ⟨σ', H', I, q⟩ := h; exact ⟨σ', H', I.unwish, q⟩
  | ret u => obtain ⟨v, σ', H', I, r, q⟩ := h; exact ⟨v, σ', H', I.unwish, r, q⟩
theorem PSs.nox {st : List Stmt} {t : TS} (h : PSs X.nox st t) : PSs X st t := fun pins s σ H D I hw =>
  wpAny_mono (h pins s σ H D (I.wish _) hw) (fun _ _ q => q.unwish) fun _ _ z => False.elim z
end
section
variable {X : Cx} {st : Stmt} {rest : List Stmt} {t u : TS} {e : Expr} {te : TE} {pos : Pos}
def tNext : TS := fun D σ H => D.nx σ H
def tSeq (t u : TS) : TS := fun D σ H => t { D with nx := u D } σ H
theorem pss_nil : PSs X [] tNext := fun _ _ σ H _ I h => wpAny_execs_nil ⟨σ, H, I, h⟩
theorem pss_cons (h1 : PS X st t) (h2 : PSs X rest u) : PSs X (st :: rest) (tSeq t u) := by
  intro pins s σ H D I h
  refine wpAny_execs_cons (thn (h1 pins s σ H { D with nx := u D } I h) fun f s1 q => ?_)
  cases f with
  | next =>
    obtain ⟨σ', H', I', q⟩ := q
    exact h2 pins s1 σ' H' D I' q
  | ret v => exact q
  | brk => exact q
  | cont => exact q
theorem pss_one (h1 : PS X st t) : PSs X [st] t := by
  intro pins s σ H D I h
  refine wpAny_execs_cons (thn (h1 pins s σ H D I h) fun f s1 q => ?_)
  cases f with
  | next => exact wpAny_execs_nil q
  | ret v => exact q
  | brk => exact q
  | cont => exact q
theorem Inv.quiet {pins : List (Addr × Obj)} {σ : St} {H : Hp} {s : Shared} (I : Inv X pins σ H s) : interactive X.env = false := by simp [interactive, I.ok.kind]
def tDrop (te : TE) : TS := fun D σ H => te σ H fun _ H1 => D.nx σ H1
theorem ps_expr (he : PE X e te) (hs : swapsWith e none pos.line X.env = pure false := by rfl) : PS X (.Expr e pos) (tDrop te) := by
  intro pins s σ H D I h
  exact wpAny_Expr_any (thn (he pins s σ H _ I h) fun v s1 ⟨x, H1, I1, r1, q1⟩ => ⟨σ, H1, I1, q1⟩) I.quiet hs
def tRet (te : TE) : TS := fun D σ H => te σ H D.rt
theorem ps_ret (he : PE X e te) : PS X (.Return (some e) pos) (tRet te) := by
  intro pins s σ H D I h
  exact wpAny_Return_some (thn (he pins s σ H _ I h) fun v s1 ⟨x, H1, I1, r1, q1⟩ => ⟨x, σ, H1, I1, r1, q1⟩)
def tIfS (c : TT) (t u : TS) : TS := fun D σ H => c σ H fun b H1 => if b = true then t D σ H1 else u D σ H1
theorem ps_if {c : Expr} {a b : List Stmt} {tc : TT} (hc : PT X c tc) (ha : PSs X a t) (hb : PSs X b u) : PS X (.If c a b pos) (tIfS tc t u) := by
  intro pins s σ H D I h
  refine wpAny_If (thn (hc pins s σ H _ I h) fun d s1 ⟨H1, I1, q1⟩ => ?_)
  cases d with
  | true => exact ha pins s1 σ H1 D I1 q1
  | false => exact hb pins s1 σ H1 D I1 q1
end
abbrev TG := V → St → Hp → (St → Hp → Prop) → Prop
abbrev TGs := List V → St → Hp → (St → Hp → Prop) → Prop
def PG (X : Cx) (target : Expr) (t : TG) : Prop :=
  ∀ (pins : List (Addr × Obj)) (s : Shared) (σ : St) (H : Hp) (v : V) (u : Value) (Q : St → Hp → Prop), Inv X pins σ H s → RelV v u → t v σ H Q →
    wpAny (model X.prog X.w) X.A (assign target X.env u) (fun _ s' => ∃ σ' H', Inv X pins σ' H' s' ∧ Q σ' H') X.xe s
def PGs (X : Cx) (ts : List Expr) (t : TGs) : Prop :=
  ∀ (pins : List (Addr × Obj)) (s : Shared) (σ : St) (H : Hp) (vs : List V) (us : List Value) (Q : St → Hp → Prop), Inv X pins σ H s → Vals vs us → t vs σ H Q →
    wpAny (model X.prog X.w) X.A (assignInOrder ((assignEach ts X.env).map (·.2)) us) (fun _ s' => ∃ σ' H', Inv X pins σ' H' s' ∧ Q σ' H') X.xe s
abbrev TSet := V → V → V → Hp → (Hp → Prop) → Prop
def PSet (X : Cx) (t : TSet) : Prop :=
  ∀ (pins : List (Addr × Obj)) (s : Shared) (σ : St) (H : Hp) (o i v : V) (ov iv u : Value) (Q : Hp → Prop), Inv X pins σ H s → RelV o ov → RelV i iv → RelV v u → t o i v H Q →
    wpAny (model X.prog X.w) X.A (setItem ov iv u) (fun _ s' => ∃ H', Inv X pins σ H' s' ∧ Q H') X.xe s
abbrev TIp := V → V → Hp → VK → Prop
def PIp (X : Cx) (op : Operator) (t : TIp) : Prop :=
  ∀ (pins : List (Addr × Obj)) (s : Shared) (σ : St) (H : Hp) (x y : V) (v u : Value) (Q : VK), Inv X pins σ H s → RelV x v → RelV y u → t x y H Q →
    wpAny (model X.prog X.w) X.A (inplaceOp op v u) (EP X pins σ Q) X.xe s
section
variable {X : Cx} {pos : Pos}
def gName (i : Nat) : TG := fun v σ H Q => Q (σ.set i (some v)) H
theorem pg_name {i : Nat} {x : Str} (hN : X.N.Nodup) (hi : X.N[i]? = some x) (hx : Loc X.env.scope x) (hf : X.fn x = true ∨ X.env.scope.names.lookup x = some .local := by first | exact .inl rfl | exact .inr rfl | assumption) : PG X (.Name x pos) (gName i) := by
  intro pins s σ H v u Q I r h
  exact wpAny_assign_Name (store_ok I hN hi hx r (fun s' I' => ⟨_, H, I', h⟩) hf)
def gNil : TGs := fun vs σ H Q => vs = [] ∧ Q σ H
def gCons (t : TG) (u : TGs) : TGs := fun vs σ H Q => ∃ v r, vs = v :: r ∧ t v σ H fun σ' H' => u r σ' H' Q
theorem pgs_nil : PGs X [] gNil := by
  intro pins s σ H vs us Q I r h
  obtain ⟨e, h⟩ := h
  subst e
  cases r
  exact assignInOrder_nil ⟨σ, H, I, h⟩
theorem pgs_cons {e : Expr} {es : List Expr} {t : TG} {u : TGs} (h1 : PG X e t) (h2 : PGs X es u)
    (hs : (assignEach (e :: es) X.env).map (·.2) = assign e X.env :: (assignEach es X.env).map (·.2) := by rfl) : PGs X (e :: es) (gCons t u) := by
  intro pins s σ H vs us Q I r h
  obtain ⟨v, vr, e1, h⟩ := h
  subst e1
  cases r with
  | cons r rr =>
    rw [hs]
    refine assignInOrder_cons (thn (h1 pins s σ H _ _ _ I r h) fun _ s1 ⟨σ1, H1, I1, q1⟩ => ?_)
    exact h2 pins s1 σ1 H1 _ _ Q I1 rr q1
def gTup (K : PySem.W.Frag) (n : Nat) (t : TGs) : TG := fun v σ H Q => ∃ a xs, v = .ref a ∧ SqT K H a xs ∧ xs.length = n ∧ t xs σ H Q
theorem pg_tup {es : List Expr} {k : Nat} {t : TGs} {n : Nat} (hc : X.calm = true) (h : PGs X es t)
    (hn : (assignEach es X.env).length = n := by rfl) (hst : (assignEach es X.env).findIdx? (·.1) = none := by rfl) : PG X (.Tuple es k pos) (gTup X.K n t) := by
  intro pins s σ H v u Q I r hw
  obtain ⟨a, xs, e1, hq, hl, hw⟩ := hw
  subst e1
  cases r
  obtain ⟨its, rv, ht, hz⟩ := I.tuple hq
  refine assign_Tuple_tuple (I.ok.hd hc) ht (by simp [hn, ← hl, rv.length]) hst fun h' hx => ?_
  have I1 : Inv X pins σ H { s with heap := h' } := I.kept (t' := s.toks) fun b o e => hx b o (Nat.ne_of_lt (Heap.lt_size e)) e
  exact h pins _ σ H xs _ Q I1 (by simpa using rv) hw
def gSub (to ti : TE) (t : TSet) : TG := fun v σ H Q => to σ H fun o H1 => ti σ H1 fun i H2 => t o i v H2 fun H3 => Q σ H3
theorem pg_sub {o i : Expr} {to ti : TE} {t : TSet} (ho : PE X o to) (hi : PE X i ti) (hs : PSet X t)
    (ha : ∀ v, assign (.Subscript o i pos) X.env v = (do
      let ov ← holding [v] (eval o X.env)
      let iv ← holding [v, ov] (eval i X.env)
      standAt pos
      holding [v, ov, iv] (setItem ov iv v)
      release [v, ov, iv] []) := by intro _; rfl) : PG X (.Subscript o i pos) (gSub to ti t) := by
  intro pins s σ H v u Q I r h
  rw [ha]
  refine wpAny_bind (wpAny_holding (thn (ho pins s σ H _ I h) fun ov s1 ⟨x, H1, I1, r1, q1⟩ => ?_))
  refine wpAny_bind (wpAny_holding (thn (hi pins s1 σ H1 _ I1 q1) fun iv s2 ⟨y, H2, I2, r2, q2⟩ => ?_))
  refine wpAny_bind (wpAny_standAt (wpAny_bind (wpAny_holding (thn (hs pins s2 σ H2 x y v ov iv u _ I2 r1 r2 r q2) fun _ s3 ⟨H3, I3, q3⟩ => ?_))))
  exact wpAny_release ⟨σ, H3, I3, q3⟩
def tAsg (te : TE) (g : TG) : TS := fun D σ H => te σ H fun x H1 => g x σ H1 D.nx
theorem ps_asg {tg e : Expr} {te : TE} {g : TG} (he : PE X e te) (hg : PG X tg g) (hs : swapsWithSole [tg] e pos.line X.env = pure false := by rfl) (hw : swappedStores [tg] e X.env = pure none := by rfl)
    (h1 : (assignEach [tg] X.env).map (·.2) = [assign tg X.env] := by rfl) : PS X (.Assign [tg] e pos) (tAsg te g) := by
  intro pins s σ H D I h
  refine wpAny_Assign_stores (thn (he pins s σ H _ I h) fun v s1 ⟨x, H1, I1, r1, q1⟩ => ?_) hs hw
  rw [h1]
  exact thn (hg pins s1 σ H1 x v _ I1 r1 q1) fun _ s2 q => q
theorem ps_set {i : Nat} {x : Str} {e : Expr} {te : TE} {pos' : Pos} (hN : X.N.Nodup) (hi : X.N[i]? = some x) (hx : Loc X.env.scope x) (he : PE X e te) (hs : swapsWith e (some (.Name x pos')) pos.line X.env = pure false := by rfl) (hf : X.fn x = true ∨ X.env.scope.names.lookup x = some .local := by first | exact .inl rfl | exact .inr rfl | assumption) :
    PS X (.Assign [.Name x pos'] e pos) (tAsg te (gName i)) := by
  intro pins s σ H D I h
  refine wpAny_Assign_Name (thn (he pins s σ H _ I h) fun v s1 ⟨y, H1, I1, r1, q1⟩ => ?_) hs
  exact store_ok I1 hN hi hx r1 (fun s2 I2 => ⟨_, H1, I2, q1⟩) hf
def tAug (i : Nat) (te : TE) (ti : TIp) : TS := fun D σ H => ∃ x, σ[i]? = some (some x) ∧ te σ H fun y H1 => ti x y H1 fun z H2 => D.nx (σ.set i (some z)) H2
theorem ps_aug {i : Nat} {x : Str} {e : Expr} {te : TE} {op : Operator} {ti : TIp} {pos' : Pos} (hN : X.N.Nodup) (hi : X.N[i]? = some x) (hx : Loc X.env.scope x) (he : PE X e te) (ho : PIp X op ti) (hf : X.fn x = true ∨ X.env.scope.names.lookup x = some .local := by first | exact .inl rfl | exact .inr rfl | assumption) :
    PS X (.AugAssign (.Name x pos') op e pos) (tAug i te ti) := by
  intro pins s σ H D I h
  obtain ⟨v, e1, h⟩ := h
  obtain ⟨m, hn, hl⟩ := I.loc
  have vis : Vis X.env.scope x := by rcases hx with k | k; exact .inl k; exact .inr (.inl k)
  obtain ⟨u, r, l⟩ := hl i x v hi e1 vis
  refine wpAny_AugAssign_Name ?_
  have go : wpAny (model X.prog X.w) X.A (eval e X.env) (fun w s₂ => wpAny (model X.prog X.w) X.A (inplaceOp op u w) (fun r s₃ => wpAny (model X.prog X.w) X.A (storeName X.env x r) (fun _ => SP X pins D .next) X.xe s₃) X.xe s₂) X.xe s := by
    refine thn (he pins s σ H _ I h) fun w s1 ⟨y, H1, I1, r1, q1⟩ => ?_
    refine thn (ho pins s1 σ H1 v y u w _ I1 r r1 q1) fun z s2 ⟨zv, H2, I2, r2, q2⟩ => ?_
    exact store_ok I2 hN hi hx r2 (fun s3 I3 => ⟨_, H2, I3, q2⟩) hf
  rcases l with ⟨hk, hm⟩ | ⟨hk, c, hc, hcell⟩
  · exact wpAny_loadName_local I.ok.kind hk hn hm go
  · rcases hk with hk | hk
    · exact wpAny_loadName_cell I.ok.kind hk hc hcell go
    · rcases hx with k | k
      · have : X.env.scope.names.lookup x = some .free := hk
        rw [k] at this; cases this
      · have : X.env.scope.names.lookup x = some .free := hk
        rw [k] at this; cases this
def ipI (f : Int → Int → Int) : TIp := fun x y H Q => ∃ i j, x = .int i ∧ y = .int j ∧ Q (.int (f i j)) H
theorem ip_add : PIp X .Add (ipI fun i j => i + j) := by
  intro pins s σ H x y v u Q I r1 r2 h
  obtain ⟨i, j, e1, e2, q⟩ := h
  subst e1; subst e2
  obtain ⟨t, rfl⟩ := r1
  obtain ⟨t', rfl⟩ := r2
  exact iadd_int ⟨.int _, H, I.tok _, ⟨_, rfl⟩, q⟩
end
section
variable {X : Cx} {pos : Pos}
def tWhile (c : TT) (tb : TS) : TS := fun D σ H => ∃ W : Nat → St → Hp → Prop, (∃ m, W m σ H) ∧ ∀ m σ H, W m σ H →
  c σ H fun b H1 => if b = true then ∃ N : St → Hp → Prop, (∀ σ' H', N σ' H' → ∃ m', m' < m ∧ W m' σ' H') ∧ tb { D with nx := N, ct := N, bk := D.nx } σ H1 else D.nx σ H1
theorem ps_while {c : Expr} {body : List Stmt} {tc : TT} {tb : TS} (hp : PassesOwn (model X.prog X.w) X.A X.env X.xe) (hc : PT X c tc) (hb : PSs X body tb) : PS X (.While c body [] pos) (tWhile tc tb) := by
  intro pins s σ H D I h
  obtain ⟨W, ⟨m0, w0⟩, turn⟩ := h
  refine wpAny_While (codeAny_whileLoop (fun n s' => ∃ σ' H', Inv X pins σ' H' s' ∧ W n σ' H') ?_ m0 ⟨σ, H, I, w0⟩)
  rintro n s1 ⟨σ1, H1, I1, w1⟩
  refine wpAny_passesOwn hp (thn (hc pins s1 σ1 H1 _ I1 (turn n σ1 H1 w1)) fun b s2 ⟨H2, I2, q2⟩ => ?_)
  cases b with
  | true =>
    obtain ⟨N, hN, q2⟩ := q2
    rw [if_pos rfl]
    refine wpAny_passesOwn hp (thn (hb pins s2 σ1 H2 _ I2 q2) fun f s3 q3 => ?_)
    cases f with
    | next =>
      obtain ⟨σ3, H3, I3, n3⟩ := q3
      obtain ⟨m', hm, w3⟩ := hN σ3 H3 n3
      exact ⟨m', hm, σ3, H3, I3, w3⟩
    | cont =>
      obtain ⟨σ3, H3, I3, n3⟩ := q3
      obtain ⟨m', hm, w3⟩ := hN σ3 H3 n3
      exact ⟨m', hm, σ3, H3, I3, w3⟩
    | brk => exact q3
    | ret v => exact q3
  | false =>
    rw [if_neg Bool.false_ne_true]
    exact wpAny_execs_nil ⟨σ1, H2, I2, q2⟩
end
structure It where
  go : Nat → Hp → Prop
  yld : Nat → Hp → V → Hp → Prop
  stop : Nat → Hp → Prop
def FpOk (X : Cx) (pins : List (Addr × Obj)) (H : Hp) (b : Addr) : Prop :=
  H b = none ∧ b ≠ X.env.locals ∧ b ∉ X.fs ∧ (b ∈ X.ex ∨ X.s₀.heap.objs.size ≤ b) ∧ (∀ x c, X.env.cells.lookup x = some c → c ≠ b) ∧ ∀ p ∈ X.pn ++ pins, p.1 ≠ b
theorem Inv.fpOk {X : Cx} {pins : List (Addr × Obj)} {σ : St} {H H' : Hp} {s : Shared} {b : Addr} (I : Inv X pins σ H s) (hb : s.heap.objs.size ≤ b) (hn : H' b = none) : FpOk X pins H' b := by
  refine ⟨hn, Nat.ne_of_gt (Nat.lt_of_lt_of_le I.lt hb), I.nofs hb, .inr (Nat.le_trans I.sz hb), fun x c e z => ?_, fun p hp z => ?_⟩
  · obtain ⟨v, q⟩ := I.cell x c e
    exact absurd (Nat.lt_of_lt_of_le q.lt (by rw [z]; exact hb)) (Nat.lt_irrefl _)
  · exact absurd (Nat.lt_of_lt_of_le (Heap.lt_size (I.pin p hp).1) (by rw [z]; exact hb)) (Nat.lt_irrefl _)
structure Turn (P : Program) (w : World) (K : PySem.W.Frag) (tg : Expr) (J : It) (fp : List Addr) (it : Addr) (tn : Nat → Heap → Prop) : Prop where
  mem : it ∈ fp
  obj : ∀ i h, tn i h → ∀ b ∈ fp, ∃ o, h.get? b = some o ∧ ∀ v, o.data ≠ .cell v
  keep : ∀ i h h', tn i h → (∀ b ∈ fp, ∀ o, h.get? b = some o → h'.get? b = some o) → tn i h'
  item : ∀ (X : Cx), X.prog = P → X.w = w → X.K = K → X.calm = true → ∀ (i : Nat) (pins : List (Addr × Obj)) (s : Shared) (σ : St) (H : Hp) (E : Value → Shared → Prop), Inv X pins σ H s → (∀ b ∈ fp, FpOk X pins H b) → tn i s.heap → J.go i H →
    wpAny (model P w) X.A (pyNext (.ref it)) (fun r s1 => ∃ u, r = some u ∧
      wpAny (model P w) X.A (letOwnedTupleGo tg (.ref it) u) (fun _ s2 => ∃ x H', Inv X pins σ H' s2 ∧ RelV x u ∧ J.yld i H x H' ∧ tn (i + 1) s2.heap ∧ ∀ b ∈ fp, H' b = none) E s1) E s
  done : ∀ (X : Cx), X.prog = P → X.w = w → X.K = K → X.calm = true → ∀ (i : Nat) (pins : List (Addr × Obj)) (s : Shared) (σ : St) (H : Hp) (E : Value → Shared → Prop), Inv X pins σ H s → (∀ b ∈ fp, FpOk X pins H b) → tn i s.heap → J.stop i H →
    wpAny (model P w) X.A (pyNext (.ref it)) (fun r s1 => r = none ∧ Inv X pins σ H s1) E s
  self : ∀ (A : Around) (i : Nat) (s : Shared) (Q : Value → Shared → Prop) (E : Value → Shared → Prop), tn i s.heap → Q (.ref it) s → wpAny (model P w) A (pyIter (.ref it)) Q E s
abbrev TI := St → Hp → (It → Hp → Prop) → Prop
def PIE (X : Cx) (pins : List (Addr × Obj)) (σ : St) (tg : Expr) (R : It → Hp → Prop) (itv : Value) (s2 : Shared) : Prop :=
  ∃ (it : Addr) (fp : List Addr) (tn : Nat → Heap → Prop) (J : It) (H' : Hp), itv = .ref it ∧ Inv X pins σ H' s2 ∧ Turn X.prog X.w X.K tg J fp it tn ∧ tn 0 s2.heap ∧ (∀ b ∈ fp, FpOk X pins H' b) ∧ R J H'
def PI (X : Cx) (tg iter : Expr) (wi : TI) : Prop :=
  ∀ (pins : List (Addr × Obj)) (s : Shared) (σ : St) (H : Hp) (R : It → Hp → Prop), Inv X pins σ H s → wi σ H R →
    wpAny (model X.prog X.w) X.A (eval iter X.env) (fun v s1 => wpAny (model X.prog X.w) X.A (pyIter v) (PIE X pins σ tg R) X.xe s1) X.xe s
theorem go_of {M : Model} {A : Around} {E : Value → Shared → Prop} {s : Shared} {tg : Expr} {it : Addr} {u : Value} {o : Obj} {n : String} {vs : Array Value} {Q : Unit → Shared → Prop} (ho : s.heap.get? it = some o) (hc : o.cls = .type n) (hd : o.data = .fields vs)
    (hn : ["enumerate", "zip", "dict_itemiterator", "dict_reverseitemiterator", "odict_iterator", "itertools.zip_longest", "itertools.pairwise"].contains n = false) (hQ : Q () s) : wpAny M A (letOwnedTupleGo tg (.ref it) u) Q E s := by
  unfold letOwnedTupleGo
  cases tg <;> first
    | exact wpAny_pure hQ
    | (cases u <;> first
        | exact wpAny_pure hQ
        | (refine wpAny_bind (wpAny_load ho ?_)
           rw [hc, hd]
           show wpAny M A (if (["enumerate", "zip", "dict_itemiterator", "dict_reverseitemiterator", "odict_iterator", "itertools.zip_longest", "itertools.pairwise"].contains n && vs[0]? == some (rawInt _)) = true then _ else _) Q E s
           rw [if_neg (by intro h; rw [hn, Bool.false_and] at h; cases h)]
           exact wpAny_pure hQ))
def Itl (K : PySem.W.Frag) (a : Addr) : It :=
  ⟨fun i H => ∃ xs x, SqL K H a xs ∧ xs[i]? = some x, fun i H x H' => H' = H ∧ ∀ xs, SqL K H a xs → xs[i]? = some x, fun i H => ∃ xs, SqL K H a xs ∧ xs.length ≤ i⟩
def Itt (K : PySem.W.Frag) (a : Addr) : It :=
  ⟨fun i H => ∃ xs x, SqT K H a xs ∧ xs[i]? = some x, fun i H x H' => H' = H ∧ ∀ xs, SqT K H a xs → xs[i]? = some x, fun i H => ∃ xs, SqT K H a xs ∧ xs.length ≤ i⟩
def Itr (lo : Int) (n : Nat) : It := ⟨fun i _ => i < n, fun i H x H' => H' = H ∧ x = .int (lo + i), fun i _ => n ≤ i⟩
theorem turn_list {P : Program} {w : World} {K : PySem.W.Frag} {tg : Expr} (a it : Addr) : Turn P w K tg (Itl K a) [it] it (fun i h => h.IsListIter it a i) where
  mem := by simp
  obj := fun i h st b hb => by
    have e : b = it := by simpa using hb
    subst e
    obtain ⟨o, e, c, d⟩ := st
    exact ⟨o, e, fun v z => by rw [d] at z; cases z⟩
  keep := fun i h h' st k => st.at fun o e => k it (by simp) o e
  item := by
    intro X hP hw hK hc i pins s σ H E I hf st hg
    subst hP hw hK
    obtain ⟨xs, x, hq, hx⟩ := hg
    obtain ⟨its, rv, p, hz⟩ := I.list hq
    obtain ⟨u, hu, ru⟩ := rv.get hx
    obtain ⟨f0, f1, f2, f3, f4, f5⟩ := hf it (by simp)
    refine wpAny_pyNext_list_item st p.isList (x := u) (by simpa using hu) fun h' st' sb => ?_
    have I1 : Inv X pins σ H { s with heap := h' } := I.turned (t' := s.toks) (fun b o hb e => (sb.2 b hb).trans e) f0 f1 f3 f4 f5
    obtain ⟨o, e, c, d⟩ := id st'
    exact ⟨u, rfl, go_of (s := { s with heap := h' }) e c d (by decide) ⟨x, H, I1, ru, ⟨rfl, fun ys hy => by rw [I.list_inj hy hq]; exact hx⟩, st', fun b hb => (hf b hb).1⟩⟩
  done := by
    intro X hP hw hK hc i pins s σ H E I hf st hg
    subst hP hw hK
    obtain ⟨xs, hq, hx⟩ := hg
    obtain ⟨its, rv, p, hz⟩ := I.list hq
    obtain ⟨f0, f1, f2, f3, f4, f5⟩ := hf it (by simp)
    have hl := rv.length
    exact wpAny_pyNext_list_end (I.ok.hd hc) st p.isList (by simp; omega) fun h' eb => ⟨rfl, I.turned (t' := s.toks) (fun b o hb e => eb b o hb e) f0 f1 f3 f4 f5⟩
  self := fun _ _ _ _ _ st h => wpAny_pyIter_listiter st h
theorem turn_tuple {P : Program} {w : World} {K : PySem.W.Frag} {tg : Expr} (a it : Addr) : Turn P w K tg (Itt K a) [it] it (fun i h => h.IsTupleIter it a i) where
  mem := by simp
  obj := fun i h st b hb => by
    have e : b = it := by simpa using hb
    subst e
    obtain ⟨o, e, c, d⟩ := st
    exact ⟨o, e, fun v z => by rw [d] at z; cases z⟩
  keep := fun i h h' st k => st.at fun o e => k it (by simp) o e
  item := by
    intro X hP hw hK hc i pins s σ H E I hf st hg
    subst hP hw hK
    obtain ⟨xs, x, hq, hx⟩ := hg
    obtain ⟨its, rv, p, hz⟩ := I.tuple hq
    obtain ⟨u, hu, ru⟩ := rv.get hx
    obtain ⟨f0, f1, f2, f3, f4, f5⟩ := hf it (by simp)
    refine wpAny_pyNext_tuple_item st (show s.heap.IsTuple a its.toArray from p) (x := u) (by simpa using hu) fun h' st' sb => ?_
    have I1 : Inv X pins σ H { s with heap := h' } := I.turned (t' := s.toks) (fun b o hb e => (sb.2 b hb).trans e) f0 f1 f3 f4 f5
    obtain ⟨o, e, c, d⟩ := id st'
    exact ⟨u, rfl, go_of (s := { s with heap := h' }) e c d (by decide) ⟨x, H, I1, ru, ⟨rfl, fun ys hy => by rw [I.tuple_inj hy hq]; exact hx⟩, st', fun b hb => (hf b hb).1⟩⟩
  done := by
    intro X hP hw hK hc i pins s σ H E I hf st hg
    subst hP hw hK
    obtain ⟨xs, hq, hx⟩ := hg
    obtain ⟨its, rv, p, hz⟩ := I.tuple hq
    obtain ⟨f0, f1, f2, f3, f4, f5⟩ := hf it (by simp)
    have hl := rv.length
    exact wpAny_pyNext_tuple_end (I.ok.hd hc) st (show s.heap.IsTuple a its.toArray from p) (by simp; omega) fun h' eb => ⟨rfl, I.turned (t' := s.toks) (fun b o hb e => eb b o hb e) f0 f1 f3 f4 f5⟩
  self := fun _ _ _ _ _ st h => wpAny_pyIter_tupleiter st h
theorem turn_range {P : Program} {w : World} {K : PySem.W.Frag} {tg : Expr} (it : Addr) (lo : Int) (n : Nat) : Turn P w K tg (Itr lo n) [it] it (fun i h => IsRangeIter h it (lo + (i : Nat) * 1) ((n : Int) - (i : Nat)) 1) where
  mem := by simp
  obj := fun i h st b hb => by
    have e : b = it := by simpa using hb
    subst e
    exact ⟨_, st, fun v z => by
      have z' : Data.fields _ = Data.cell v := z
      cases z'⟩
  keep := fun i h h' st k => k it (by simp) _ st
  item := by
    intro X hP hw hK hc i pins s σ H E I hf st hg
    subst hP hw hK
    obtain ⟨f0, f1, f2, f3, f4, f5⟩ := hf it (by simp)
    have W := Walks.range (prog := X.prog) (w := X.w) (I.ok.hd hc) it lo 1 n
    refine W.item i s _ _ hg st fun v h' tk hv st' kk => ?_
    obtain ⟨t, rfl⟩ := hv
    have I1 : Inv X pins σ H { s with heap := h', toks := tk } := I.turned (fun b o hb e => kk b o (by simpa using hb) e) f0 f1 f3 f4 f5
    refine ⟨_, rfl, go_of (s := { s with heap := h', toks := tk }) (n := "range_iterator") st' rfl rfl (by decide) ⟨.int (lo + i), H, I1, ⟨t, ?_⟩, ⟨rfl, rfl⟩, st', fun b hb => (hf b hb).1⟩⟩
    rw [Int.mul_one]
  done := by
    intro X hP hw hK hc i pins s σ H E I hf st hg
    subst hP hw hK
    obtain ⟨f0, f1, f2, f3, f4, f5⟩ := hf it (by simp)
    exact wpAny_pyNext_range_end (I.ok.hd hc) st (by have : n ≤ i := hg; omega) fun h' eb => ⟨rfl, I.turned (t' := s.toks) (fun b o hb e => eb b o hb e) f0 f1 f3 f4 f5⟩
  self := fun _ _ _ _ _ st h => wpAny_pyIter_rangeiter st h
end L2
namespace L2
open PySem PySem.Spec PyProof.Rows
section
variable {X : Cx} {tg : Expr}
def iList (K : PySem.W.Frag) (tl : TE) : TI := fun σ H R => tl σ H fun x H1 => ∃ a, x = .ref a ∧ (∃ xs, SqL K H1 a xs) ∧ R (Itl K a) H1
def iTup (K : PySem.W.Frag) (tl : TE) : TI := fun σ H R => tl σ H fun x H1 => ∃ a, x = .ref a ∧ (∃ xs, SqT K H1 a xs) ∧ R (Itt K a) H1
theorem pi_list {l : Expr} {tl : TE} (hl : PE X l tl) : PI X tg l (iList X.K tl) := by
  intro pins s σ H R I h
  refine thn (hl pins s σ H _ I h) fun v s1 ⟨x, H1, I1, r1, q1⟩ => ?_
  obtain ⟨a, e, ⟨xs, hq⟩, q⟩ := q1
  subst e
  cases r1
  obtain ⟨its, rv, p, hz⟩ := I1.list hq
  refine wpAny_pyIter_list p.isList ?_
  refine ⟨s1.heap.objs.size, [s1.heap.objs.size], _, _, H1, rfl, I1.kept (t' := s1.toks) fun b o e => Heap.get?_push_of_some _ e, turn_list a _, ⟨_, Heap.get?_push_size _ rfl, rfl, rfl⟩, fun b hb => ?_, q⟩
  have e : b = s1.heap.objs.size := by simpa using hb
  subst e
  exact I1.fpOk (Nat.le_refl _) (I1.hok.fresh (Nat.le_refl _))
theorem pi_tup {l : Expr} {tl : TE} (hl : PE X l tl) : PI X tg l (iTup X.K tl) := by
  intro pins s σ H R I h
  refine thn (hl pins s σ H _ I h) fun v s1 ⟨x, H1, I1, r1, q1⟩ => ?_
  obtain ⟨a, e, ⟨xs, hq⟩, q⟩ := q1
  subst e
  cases r1
  obtain ⟨its, rv, p, hz⟩ := I1.tuple hq
  refine wpAny_pyIter_tuple (show s1.heap.IsTuple a its.toArray from p) ?_
  refine ⟨s1.heap.objs.size, [s1.heap.objs.size], _, _, H1, rfl, I1.kept (t' := s1.toks) fun b o e => Heap.get?_push_of_some _ e, turn_tuple a _, ⟨_, Heap.get?_push_size _ rfl, rfl, rfl⟩, fun b hb => ?_, q⟩
  have e : b = s1.heap.objs.size := by simpa using hb
  subst e
  exact I1.fpOk (Nat.le_refl _) (I1.hok.fresh (Nat.le_refl _))
theorem range_it {pins : List (Addr × Obj)} {σ : St} {H : Hp} {s : Shared} {R : It → Hp → Prop} {E : Value → Shared → Prop} {lo hi : Int} {t u v : Tok} {tk : Nat} (I : Inv X pins σ H s) (h1 : -(2 ^ 62) ≤ lo) (h2 : lo < 2 ^ 62) (h3 : -(2 ^ 62) ≤ hi) (h4 : hi < 2 ^ 62)
    (q : R (Itr lo (hi - lo).toNat) H) : wpAny (model X.prog X.w) X.A (pyIter (.ref s.heap.objs.size)) (PIE X pins σ tg R) E { s with heap := s.heap.push { cls := .type "range", data := .fields #[.int lo t, .int hi u, .int 1 v] }, toks := tk } := by
  refine wpAny_pyIter_range (IsRange.new ..) (small_one h1 h2 h3 h4) ?_
  have I1 : Inv X pins σ H { s with heap := s.heap.push { cls := .type "range", data := .fields #[.int lo t, .int hi u, .int 1 v] }, toks := tk } := I.kept fun b o e => Heap.get?_push_of_some _ e
  refine ⟨(s.heap.push { cls := .type "range", data := .fields #[.int lo t, .int hi u, .int 1 v] }).objs.size, [(s.heap.push { cls := .type "range", data := .fields #[.int lo t, .int hi u, .int 1 v] }).objs.size], _, _, H, rfl,
    I1.kept (t' := tk) fun b o e => Heap.get?_push_of_some _ e, turn_range _ lo (hi - lo).toNat, ?_, fun b hb => ?_, q⟩
  · have e1 : lo + ((0 : Nat) : Int) * 1 = lo := by simp
    have e2 : (((hi - lo).toNat : Nat) : Int) - ((0 : Nat) : Int) = Builtin.Range.rangeSize lo hi 1 := by rw [rangeSize_one]; split <;> omega
    show IsRangeIter _ _ (lo + ((0 : Nat) : Int) * 1) ((((hi - lo).toNat : Nat) : Int) - ((0 : Nat) : Int)) 1
    rw [e1, e2]
    exact Heap.get?_push_size _ rfl
  · have e : b = (s.heap.push { cls := .type "range", data := .fields #[.int lo t, .int hi u, .int 1 v] }).objs.size := by simpa using hb
    subst e
    exact I1.fpOk (Nat.le_refl _) (I1.hok.fresh (Nat.le_refl _))
def iRng1 (ta : TA) : TI := fun σ H R => ta σ H fun vs H1 => ∃ j : Int, vs = [.int j] ∧ -(2 ^ 62) ≤ j ∧ j < 2 ^ 62 ∧ R (Itr 0 j.toNat) H1
theorem pi_range1 {a : Expr} {ta : TA} {p pos : Pos} (hg : Gl X "range") (hm : X.mg "range" = none) (ha : PA X [a] ta) (hs : starEach [a] X.env = [(false, eval a X.env)] := by rfl) : PI X tg (.Call (.Name "range" p) [a] [] pos) (iRng1 ta) := by
  intro pins s σ H R I h
  refine Call_ (ld_blt I hg hm boot_range (PyProof.Rows.callWith_type1 (thn (ha pos pins s σ H _ I h) fun us s1 ⟨vs, H1, I1, r1, q1⟩ => ?_) hs rfl))
  obtain ⟨j, e, q1, q2, q⟩ := q1
  subst e
  cases r1 with
  | cons r rr =>
    cases rr
    obtain ⟨t, rfl⟩ := r
    exact call_range_1 (range_it I1 (by omega) (by omega) q1 q2 (by simpa using q))
def tFor (wi : TI) (g : TG) (tb : TS) : TS := fun D σ H => wi σ H fun J H1 => ∃ W : Nat → Nat → St → Hp → Prop, (∃ m, W 0 m σ H1) ∧ ∀ i m σ H, W i m σ H →
  (J.stop i H ∧ D.nx σ H) ∨ (J.go i H ∧ ∃ N : St → Hp → Prop, (∀ σ' H', N σ' H' → ∃ m', m' < m ∧ W (i + 1) m' σ' H') ∧ ∀ x H', J.yld i H x H' → g x σ H' fun σ2 H2 => tb { D with nx := N, ct := N, bk := D.nx } σ2 H2)
def pinsAt (fp : List Addr) (h : Heap) : List (Addr × Obj) := fp.filterMap fun b => (h.get? b).map fun o => (b, o)
theorem mem_pinsAt {fp : List Addr} {h : Heap} {b : Addr} {o : Obj} (hb : b ∈ fp) (e : h.get? b = some o) : (b, o) ∈ pinsAt fp h := List.mem_filterMap.mpr ⟨b, hb, by rw [e]; rfl⟩
theorem of_pinsAt {fp : List Addr} {h : Heap} {p : Addr × Obj} (hp : p ∈ pinsAt fp h) : p.1 ∈ fp ∧ h.get? p.1 = some p.2 := by
  obtain ⟨b, hb, e⟩ := List.mem_filterMap.mp hp
  cases q : h.get? b with
  | none => rw [q] at e; cases e
  | some o =>
    rw [q] at e
    have e' : (b, o) = p := Option.some.inj e
    subst e'
    exact ⟨hb, q⟩
theorem Inv.pinned {pins : List (Addr × Obj)} {σ : St} {H : Hp} {s : Shared} {fp : List Addr} (I : Inv X pins σ H s) (hf : ∀ b ∈ fp, FpOk X pins H b) (ho : ∀ b ∈ fp, ∃ o, s.heap.get? b = some o ∧ ∀ v, o.data ≠ .cell v) : Inv X (pins ++ pinsAt fp s.heap) σ H s :=
  I.pins_of fun p hp => (List.mem_append.mp hp).elim (fun z => I.pin p (List.mem_append_right _ z)) fun z => by
    obtain ⟨hb, e⟩ := of_pinsAt z
    obtain ⟨f0, f1, f2, _⟩ := hf p.1 hb
    obtain ⟨o, e', d⟩ := ho p.1 hb
    rw [e] at e'; cases e'
    exact ⟨e, f0, f1, f2, d⟩
theorem Inv.unpinned {pins pl : List (Addr × Obj)} {σ : St} {H : Hp} {s : Shared} (I : Inv X (pins ++ pl) σ H s) : Inv X pins σ H s := I.pins_of fun p hp => I.pin p (List.mem_append_right _ (List.mem_append_left _ hp))
theorem ps_for {iter : Expr} {body : List Stmt} {wi : TI} {g : TG} {tb : TS} {pos : Pos} (hp : PassesOwn (model X.prog X.w) X.A X.env X.xe) (hc : X.calm = true) (hi : PI X tg iter wi) (hg : PG X tg g) (hb : PSs X body tb)
    (hs : ∀ x, foldedSetIterable iter X.env x = pure x := by intro _; rfl) : PS X (.For tg iter body [] pos) (tFor wi g tb) := by
  intro pins s σ H D I h
  refine wpAny_For (thn (hi pins s σ H _ I h) fun v s1 h1 => thn h1 fun itv s2 h2 => ?_) hs
  obtain ⟨it, fp, tn, J, H2, e, I2, T, st2, f2, W, ⟨m0, w0⟩, turn⟩ := h2
  subst e
  -- what stays true of the iterator's objects through the loop
  have stat : ∀ {H' : Hp}, (∀ b ∈ fp, H' b = none) → ∀ b ∈ fp, FpOk X pins H' b := fun hn b hb => ⟨hn b hb, (f2 b hb).2⟩
  refine codeAny_forLoop_any (fun n s' => ∃ i σ' H', Inv X pins σ' H' s' ∧ tn i s'.heap ∧ (∀ b ∈ fp, H' b = none) ∧ W i n σ' H') ?_ m0 ⟨0, σ, H2, I2, st2, fun b hb => (f2 b hb).1, w0⟩
  rintro n s3 ⟨i, σ3, H3, I3, st3, fr3, w3⟩
  rcases turn i n σ3 H3 w3 with ⟨stop, qn⟩ | ⟨go, N, hN, step⟩
  · refine wpAny_passesOwn hp (thn (T.done X rfl rfl rfl hc i pins s3 σ3 H3 X.xe I3 (stat fr3) st3 stop) fun r s4 ⟨hr, I4⟩ => ?_)
    subst hr
    exact wpAny_execs_nil ⟨σ3, H3, I4, qn⟩
  · refine wpAny_passesOwn hp (thn (T.item X rfl rfl rfl hc i pins s3 σ3 H3 X.xe I3 (stat fr3) st3 go) fun r s4 ⟨u, hr, h4⟩ => ?_)
    subst hr
    refine wpAny_passesOwn hp (thn h4 fun _ s5 ⟨x, H5, I5, r5, y5, st5, fr5⟩ => ?_)
    have I5' := I5.pinned (stat fr5) (T.obj _ _ st5)
    refine wpAny_passesOwn hp (thn (hg _ s5 σ3 H5 x u _ I5' r5 (step x H5 y5)) fun _ s6 ⟨σ6, H6, I6, q6⟩ => ?_)
    refine wpAny_passesOwn hp (thn (hb _ s6 σ6 H6 _ I6 q6) fun f s7 q7 => ?_)
    have again : ∀ {σ7 : St} {H7 : Hp}, Inv X (pins ++ pinsAt fp s5.heap) σ7 H7 s7 → N σ7 H7 → ∃ m, m < n ∧ ∃ i σ' H', Inv X pins σ' H' s7 ∧ tn i s7.heap ∧ (∀ b ∈ fp, H' b = none) ∧ W i m σ' H' := fun {σ7 H7} I7 n7 => by
      obtain ⟨m', hm, w7⟩ := hN σ7 H7 n7
      refine ⟨m', hm, i + 1, σ7, H7, I7.unpinned, T.keep _ _ _ st5 fun b hb o e => (I7.pin (b, o) (List.mem_append_right _ (List.mem_append_right _ (mem_pinsAt hb e)))).1, fun b hb => ?_, w7⟩
      obtain ⟨o, e, d⟩ := T.obj _ _ st5 b hb
      exact (I7.pin (b, o) (List.mem_append_right _ (List.mem_append_right _ (mem_pinsAt hb e)))).2.1
    cases f with
    | next => obtain ⟨σ7, H7, I7, n7⟩ := q7; exact again I7 n7
    | cont => obtain ⟨σ7, H7, I7, n7⟩ := q7; exact again I7 n7
    | brk => obtain ⟨σ7, H7, I7, q7⟩ := q7; exact ⟨σ7, H7, I7.unpinned, q7⟩
    | ret v => obtain ⟨x7, σ7, H7, I7, r7, q7⟩ := q7; exact ⟨x7, σ7, H7, I7.unpinned, r7, q7⟩
end
theorem for_list {K : PySem.W.Frag} {a : Addr} {xs : List V} {g : TG} {tb : TS} {D : Ends} {σ : St} {H : Hp} (Pv : Nat → St → Hp → Prop) (h0 : Pv 0 σ H) (hl : ∀ i σ H, i ≤ xs.length → Pv i σ H → SqL K H a xs)
    (hs : ∀ i x σ H, xs[i]? = some x → Pv i σ H → g x σ H fun σ2 H2 => tb { D with nx := Pv (i + 1), ct := Pv (i + 1), bk := D.nx } σ2 H2) (hd : ∀ σ H, Pv xs.length σ H → D.nx σ H) :
    ∃ W : Nat → Nat → St → Hp → Prop, (∃ m, W 0 m σ H) ∧ ∀ i m σ H, W i m σ H →
      ((Itl K a).stop i H ∧ D.nx σ H) ∨ ((Itl K a).go i H ∧ ∃ N : St → Hp → Prop, (∀ σ' H', N σ' H' → ∃ m', m' < m ∧ W (i + 1) m' σ' H') ∧ ∀ x H', (Itl K a).yld i H x H' → g x σ H' fun σ2 H2 => tb { D with nx := N, ct := N, bk := D.nx } σ2 H2) := by
  refine ⟨fun i m σ H => m = xs.length - i ∧ i ≤ xs.length ∧ Pv i σ H, ⟨xs.length, by simp, Nat.zero_le _, h0⟩, ?_⟩
  rintro i m σ H ⟨rfl, hi, p⟩
  have q := hl i σ H hi p
  by_cases hlt : i < xs.length
  · refine .inr ⟨⟨xs, xs[i], q, by simp [hlt]⟩, Pv (i + 1), fun σ' H' p' => ⟨xs.length - (i + 1), by omega, rfl, hlt, p'⟩, fun x H' y => ?_⟩
    obtain ⟨e, y⟩ := y
    subst e
    exact hs i x σ _ (y xs q) p
  · have e : i = xs.length := by omega
    subst e
    exact .inl ⟨⟨xs, q, Nat.le_refl _⟩, hd σ H p⟩
theorem for_tup {K : PySem.W.Frag} {a : Addr} {xs : List V} {g : TG} {tb : TS} {D : Ends} {σ : St} {H : Hp} (Pv : Nat → St → Hp → Prop) (h0 : Pv 0 σ H) (hl : ∀ i σ H, i ≤ xs.length → Pv i σ H → SqT K H a xs)
    (hs : ∀ i x σ H, xs[i]? = some x → Pv i σ H → g x σ H fun σ2 H2 => tb { D with nx := Pv (i + 1), ct := Pv (i + 1), bk := D.nx } σ2 H2) (hd : ∀ σ H, Pv xs.length σ H → D.nx σ H) :
    ∃ W : Nat → Nat → St → Hp → Prop, (∃ m, W 0 m σ H) ∧ ∀ i m σ H, W i m σ H →
      ((Itt K a).stop i H ∧ D.nx σ H) ∨ ((Itt K a).go i H ∧ ∃ N : St → Hp → Prop, (∀ σ' H', N σ' H' → ∃ m', m' < m ∧ W (i + 1) m' σ' H') ∧ ∀ x H', (Itt K a).yld i H x H' → g x σ H' fun σ2 H2 => tb { D with nx := N, ct := N, bk := D.nx } σ2 H2) := by
  refine ⟨fun i m σ H => m = xs.length - i ∧ i ≤ xs.length ∧ Pv i σ H, ⟨xs.length, by simp, Nat.zero_le _, h0⟩, ?_⟩
  rintro i m σ H ⟨rfl, hi, p⟩
  have q := hl i σ H hi p
  by_cases hlt : i < xs.length
  · refine .inr ⟨⟨xs, xs[i], q, by simp [hlt]⟩, Pv (i + 1), fun σ' H' p' => ⟨xs.length - (i + 1), by omega, rfl, hlt, p'⟩, fun x H' y => ?_⟩
    obtain ⟨e, y⟩ := y
    subst e
    exact hs i x σ _ (y xs q) p
  · have e : i = xs.length := by omega
    subst e
    exact .inl ⟨⟨xs, q, Nat.le_refl _⟩, hd σ H p⟩
theorem for_range {lo : Int} {n : Nat} {g : TG} {tb : TS} {D : Ends} {σ : St} {H : Hp} (Pv : Nat → St → Hp → Prop) (h0 : Pv 0 σ H)
    (hs : ∀ i σ H, i < n → Pv i σ H → g (.int (lo + i)) σ H fun σ2 H2 => tb { D with nx := Pv (i + 1), ct := Pv (i + 1), bk := D.nx } σ2 H2) (hd : ∀ σ H, Pv n σ H → D.nx σ H) :
    ∃ W : Nat → Nat → St → Hp → Prop, (∃ m, W 0 m σ H) ∧ ∀ i m σ H, W i m σ H →
      ((Itr lo n).stop i H ∧ D.nx σ H) ∨ ((Itr lo n).go i H ∧ ∃ N : St → Hp → Prop, (∀ σ' H', N σ' H' → ∃ m', m' < m ∧ W (i + 1) m' σ' H') ∧ ∀ x H', (Itr lo n).yld i H x H' → g x σ H' fun σ2 H2 => tb { D with nx := N, ct := N, bk := D.nx } σ2 H2) := by
  refine ⟨fun i m σ H => m = n - i ∧ i ≤ n ∧ Pv i σ H, ⟨n, by simp, Nat.zero_le _, h0⟩, ?_⟩
  rintro i m σ H ⟨rfl, hi, p⟩
  by_cases hlt : i < n
  · refine .inr ⟨hlt, Pv (i + 1), fun σ' H' p' => ⟨n - (i + 1), by omega, rfl, hlt, p'⟩, fun x H' y => ?_⟩
    obtain ⟨e, y⟩ := y
    subst e y
    exact hs i σ _ hlt p
  · have e : i = n := by omega
    subst e
    exact .inl ⟨Nat.le_refl _, hd σ H p⟩
theorem while_by {c : TT} {tb : TS} {D : Ends} {σ : St} {H : Hp} (Pv : St → Hp → Prop) (μ : St → Hp → Nat) (h0 : Pv σ H)
    (hs : ∀ σ H, Pv σ H → c σ H fun b H1 => if b = true then tb { D with nx := fun σ' H' => Pv σ' H' ∧ μ σ' H' < μ σ H, ct := fun σ' H' => Pv σ' H' ∧ μ σ' H' < μ σ H, bk := D.nx } σ H1 else D.nx σ H1)
    (mono : ∀ σ H Q Q', (∀ b H1, Q b H1 → Q' b H1) → c σ H Q → c σ H Q') : tWhile c tb D σ H := by
  refine ⟨fun m σ H => m = μ σ H ∧ Pv σ H, ⟨_, rfl, h0⟩, ?_⟩
  rintro m σ H ⟨rfl, p⟩
  refine mono σ H _ _ (fun b H1 q => ?_) (hs σ H p)
  cases b with
  | true => exact ⟨_, fun σ' H' ⟨p', l⟩ => ⟨_, l, rfl, p'⟩, q⟩
  | false => exact q
end L2
namespace L2
open PySem PySem.Spec PyProof.Rows
abbrev R2 := V → V → Hp → VK → Prop
def OpR (X : Cx) (f : Value → Value → Sem Value) (r : R2) : Prop :=
  ∀ (pins : List (Addr × Obj)) (s : Shared) (σ : St) (H : Hp) (x y : V) (v u : Value) (Q : VK), Inv X pins σ H s → RelV x v → RelV y u → r x y H Q →
    wpAny (model X.prog X.w) X.A (f v u) (EP X pins σ Q) X.xe s
def UnR (X : Cx) (f : Value → Sem Value) (r : V → Hp → VK → Prop) : Prop :=
  ∀ (pins : List (Addr × Obj)) (s : Shared) (σ : St) (H : Hp) (x : V) (v : Value) (Q : VK), Inv X pins σ H s → RelV x v → r x H Q →
    wpAny (model X.prog X.w) X.A (f v) (EP X pins σ Q) X.xe s
def CallR (X : Cx) (f : Value) (r : List V → Hp → VK → Prop) : Prop :=
  ∀ (pins : List (Addr × Obj)) (s : Shared) (σ : St) (H : Hp) (xs : List V) (us : List Value) (Q : VK), Inv X pins σ H s → Vals xs us → r xs H Q →
    wpAny (model X.prog X.w) X.A (call f us) (EP X pins σ Q) X.xe s
def TruR (X : Cx) (r : V → Hp → (Bool → Hp → Prop) → Prop) : Prop :=
  ∀ (pins : List (Addr × Obj)) (s : Shared) (σ : St) (H : Hp) (x : V) (v : Value) (Q : Bool → Hp → Prop), Inv X pins σ H s → RelV x v → r x H Q →
    wpAny (model X.prog X.w) X.A (truthy v) (TP X pins σ Q) X.xe s
def tOp (r : R2) (ta tb : TE) : TE := fun σ H Q => ta σ H fun x H1 => tb σ H1 fun y H2 => r x y H2 Q
def tUn (r : V → Hp → VK → Prop) (ta : TE) : TE := fun σ H Q => ta σ H fun x H1 => r x H1 Q
def rI (C : Int → Int → Prop) (g : Int → Int → V) : R2 := fun x y H Q => ∃ i j, x = .int i ∧ y = .int j ∧ C i j ∧ Q (g i j) H
def rI0 (g : Int → Int → V) : R2 := fun x y H Q => ∃ i j, x = .int i ∧ y = .int j ∧ Q (g i j) H
def rU (g : Int → V) : V → Hp → VK → Prop := fun x H Q => ∃ i, x = .int i ∧ Q (g i) H
section
variable {X : Cx} {a b c : Expr} {ta tb tc : TE} {pos : Pos}
theorem binT (ha : PE X a ta) (hb : PE X b tb) {pins : List (Addr × Obj)} {s : Shared} {σ : St} {H : Hp} {R : V → V → Hp → Prop} (I : Inv X pins σ H s)
    (h : ta σ H fun x H1 => tb σ H1 fun y H2 => R x y H2) {Q : Value → Shared → Prop} {f : Value → Value → Sem Value}
    (hf : ∀ v u s2 x y H2, Inv X pins σ H2 s2 → RelV x v → RelV y u → R x y H2 → wpAny (model X.prog X.w) X.A (f v u) Q X.xe s2) :
    wpAny (model X.prog X.w) X.A (eval a X.env) (fun v s₁ => wpAny (model X.prog X.w) X.A (eval b X.env) (fun u s₂ => wpAny (model X.prog X.w) X.A (f v u) Q X.xe s₂) X.xe s₁) X.xe s := by
  refine thn (ha pins s σ H _ I h) fun v s1 ⟨x, H1, I1, r1, q1⟩ => ?_
  refine thn (hb pins s1 σ H1 _ I1 q1) fun u s2 ⟨y, H2, I2, r2, q2⟩ => ?_
  exact hf v u s2 x y H2 I2 r1 r2 q2
theorem pe_op {op : Operator} {r : R2} (ho : OpR X (binaryOp op) r) (ha : PE X a ta) (hb : PE X b tb) : PE X (.BinOp a op b pos) (tOp r ta tb) := by
  intro pins s σ H Q I h
  exact wpAny_BinOp (binT ha hb I h fun v u s2 x y H2 I2 rx ry q => ho pins s2 σ H2 x y v u Q I2 rx ry q)
theorem pe_un {op : UnaryOp} {r : V → Hp → VK → Prop} (ho : UnR X (unaryOp op) r) (ha : PE X a ta) : PE X (.UnaryOp op a pos) (tUn r ta) := by
  intro pins s σ H Q I h
  exact UnaryOp_ (thn (ha pins s σ H _ I h) fun v s1 ⟨x, H1, I1, r1, q1⟩ => ho pins s1 σ H1 x v Q I1 r1 q1)
theorem opI {f : Value → Value → Sem Value} {C : Int → Int → Prop} {g : Int → Int → Int}
    (rule : ∀ (i j : Int) (t u : Tok) (s : Shared) (Q : Value → Shared → Prop) (E : Value → Shared → Prop), C i j → Q (.int (g i j) s.toks) { s with toks := s.toks + 1 } → wpAny (model X.prog X.w) X.A (f (.int i t) (.int j u)) Q E s) :
    OpR X f (rI C fun i j => .int (g i j)) := by
  intro pins s σ H x y v u Q I rx ry h
  obtain ⟨i, j, rfl, rfl, hc, q⟩ := h
  obtain ⟨t, rfl⟩ := rx
  obtain ⟨t', rfl⟩ := ry
  exact rule i j t t' s _ _ hc ⟨.int (g i j), H, I.tok _, ⟨_, rfl⟩, q⟩
theorem opI0 {f : Value → Value → Sem Value} {g : Int → Int → Int}
    (rule : ∀ (i j : Int) (t u : Tok) (s : Shared) (Q : Value → Shared → Prop) (E : Value → Shared → Prop), Q (.int (g i j) s.toks) { s with toks := s.toks + 1 } → wpAny (model X.prog X.w) X.A (f (.int i t) (.int j u)) Q E s) :
    OpR X f (rI0 fun i j => .int (g i j)) := by
  intro pins s σ H x y v u Q I rx ry h
  obtain ⟨i, j, rfl, rfl, q⟩ := h
  obtain ⟨t, rfl⟩ := rx
  obtain ⟨t', rfl⟩ := ry
  exact rule i j t t' s _ _ ⟨.int (g i j), H, I.tok _, ⟨_, rfl⟩, q⟩
theorem opB0 {f : Value → Value → Sem Value} {g : Int → Int → Bool}
    (rule : ∀ (i j : Int) (t u : Tok) (s : Shared) (Q : Value → Shared → Prop) (E : Value → Shared → Prop), Q (.bool (g i j)) s → wpAny (model X.prog X.w) X.A (f (.int i t) (.int j u)) Q E s) :
    OpR X f (rI0 fun i j => .bl (g i j)) := by
  intro pins s σ H x y v u Q I rx ry h
  obtain ⟨i, j, rfl, rfl, q⟩ := h
  obtain ⟨t, rfl⟩ := rx
  obtain ⟨t', rfl⟩ := ry
  exact rule i j t t' s _ _ ⟨.bl (g i j), H, I, rfl, q⟩
def CDiv (i j : Int) : Prop := 0 < j ∧ j < 1073741824
def CPow (i j : Int) : Prop := 0 ≤ j ∧ j ≤ 1000000 ∧ i.natAbs < 2 ^ 64
def CMul (i j : Int) : Prop := (-(2 ^ 64) < i ∧ i < 2 ^ 64) ∨ (-(2 ^ 64) < j ∧ j < 2 ^ 64)
theorem CMul.ok {i j : Int} (h : CMul i j) : IntMulOk i j := by
  rcases h with ⟨h1, h2⟩ | ⟨h1, h2⟩
  · exact .of_left (intBits_le_64 h1 h2)
  · exact .of_right (intBits_le_64 h1 h2)
theorem op_add : OpR X (binaryOp .Add) (rI0 fun i j => .int (i + j)) := opI0 fun _ _ _ _ _ _ _ q => add_int q
theorem op_sub : OpR X (binaryOp .Sub) (rI0 fun i j => .int (i - j)) := opI0 fun _ _ _ _ _ _ _ q => sub_int q
theorem op_mul : OpR X (binaryOp .Mult) (rI CMul fun i j => .int (i * j)) := opI fun _ _ _ _ _ _ _ hc q => mul_int q hc.ok
theorem op_fdiv : OpR X (binaryOp .FloorDiv) (rI CDiv fun i j => .int (i / j)) := opI fun i j _ _ _ _ _ hc q => by
  have h1 : (0 : Int) < j := hc.1
  have h2 : j < 1073741824 := hc.2
  exact floordiv_int (by omega) (by rw [Int.fdiv_eq_ediv_of_nonneg i (by omega)]; exact q) (.inl (PyProof.noPylong_small (by omega)))
theorem op_mod : OpR X (binaryOp .Mod) (rI (fun _ j => 0 < j) fun i j => .int (i % j)) := opI fun i j _ _ _ _ _ hc q => by
  have h1 : (0 : Int) < j := hc
  exact mod_int' (by omega) (by rw [Int.fmod_eq_emod_of_nonneg i (by omega)]; exact q)
theorem op_pow : OpR X (binaryOp .Pow) (rI CPow fun i j => .int (i ^ j.toNat)) := opI fun _ _ _ _ _ _ _ hc q => pow_int_small hc.1 hc.2.1 hc.2.2 q
theorem unI {f : Value → Sem Value} {g : Int → Int}
    (rule : ∀ (i : Int) (t : Tok) (s : Shared) (Q : Value → Shared → Prop) (E : Value → Shared → Prop), Q (.int (g i) s.toks) { s with toks := s.toks + 1 } → wpAny (model X.prog X.w) X.A (f (.int i t)) Q E s) :
    UnR X f (rU fun i => .int (g i)) := by
  intro pins s σ H x v Q I rx h
  obtain ⟨i, rfl, q⟩ := h
  obtain ⟨t, rfl⟩ := rx
  exact rule i t s _ _ ⟨.int (g i), H, I.tok _, ⟨_, rfl⟩, q⟩
theorem un_neg : UnR X (unaryOp .USub) (rU fun i => .int (-i)) := unI fun _ _ _ _ _ q => neg_int q
end
def scal : V → V → Bool
  | .non, .non => true | .non, .int _ => true | .int _, .non => true | .non, .bl _ => true | .bl _, .non => true | .non, .str _ => true | .str _, .non => true
  | .int _, .int _ => true | .bl _, .bl _ => true | .str _, .str _ => true | .byt _, .byt _ => true
  | .int _, .str _ => true | .str _, .int _ => true | .bl _, .str _ => true | .str _, .bl _ => true
  | _, _ => false
def rEq : R2 := fun x y H Q => scal x y = true ∧ Q (.bl (decide (x = y))) H
def rNe : R2 := fun x y H Q => scal x y = true ∧ Q (.bl (!decide (x = y))) H
theorem dec_int {i j : Int} : decide (V.int i = V.int j) = (i == j) := by
  rw [Bool.eq_iff_iff]
  simp
theorem dec_bl {i j : Bool} : decide (V.bl i = V.bl j) = (i == j) := by
  rw [Bool.eq_iff_iff]
  simp
theorem dec_str {i j : Str} : decide (V.str i = V.str j) = (i == j) := by
  rw [Bool.eq_iff_iff]
  simp
theorem dec_byt {i j : Array UInt8} : decide (V.byt i = V.byt j) = (i.toList == j.toList) := by
  rw [Bool.eq_iff_iff]
  cases i
  cases j
  simp
section
variable {X : Cx} {a b c : Expr} {ta tb tc : TE} {pos : Pos}
theorem fin_bl {pins : List (Addr × Obj)} {σ : St} {H : Hp} {s : Shared} {Q : VK} {k k' : Bool} (I : Inv X pins σ H s) (q : Q (.bl k) H) (e : k = k') : EP X pins σ Q (.bool k') s := by
  subst e
  exact ⟨.bl k, H, I, rfl, q⟩
theorem op_eq : OpR X (compareOp .Eq) rEq := by
  intro pins s σ H x y v u Q I rx ry h
  obtain ⟨hs, q⟩ := h
  cases x with
  | non =>
    cases rx
    cases y with
    | non => cases ry; exact PySem.EqNone.eq_none_none (fin_bl I q (by simp))
    | bl j => cases ry; exact PySem.EqNone.eq_none_bool (fin_bl I q (by simp))
    | int j => obtain ⟨t', rfl⟩ := ry; exact PySem.EqNone.eq_none_int (fin_bl I q (by simp))
    | str j => obtain ⟨t', rfl⟩ := ry; exact PySem.EqNone.eq_none_str (fin_bl I q (by simp))
    | _ => exact absurd (show false = true from hs) Bool.false_ne_true
  | bl i =>
    cases rx
    cases y with
    | non => cases ry; exact PySem.EqNone.eq_bool_none (fin_bl I q (by simp))
    | bl j => cases ry; exact eq_bool (fin_bl I q dec_bl)
    | str j => obtain ⟨t', rfl⟩ := ry; exact PySem.EqMixed.eq_bool_str (fin_bl I q (by simp))
    | _ => exact absurd (show false = true from hs) Bool.false_ne_true
  | int i =>
    obtain ⟨t, rfl⟩ := rx
    cases y with
    | non => cases ry; exact PySem.EqNone.eq_int_none (fin_bl I q (by simp))
    | int j => obtain ⟨t', rfl⟩ := ry; exact eq_int (fin_bl I q dec_int)
    | str j => obtain ⟨t', rfl⟩ := ry; exact PySem.EqMixed.eq_int_str (fin_bl I q (by simp))
    | _ => exact absurd (show false = true from hs) Bool.false_ne_true
  | str i =>
    obtain ⟨t, rfl⟩ := rx
    cases y with
    | non => cases ry; exact PySem.EqNone.eq_str_none (fin_bl I q (by simp))
    | bl j => cases ry; exact PySem.EqMixed.eq_str_bool (fin_bl I q (by simp))
    | int j => obtain ⟨t', rfl⟩ := ry; exact PySem.EqMixed.eq_str_int (fin_bl I q (by simp))
    | str j => obtain ⟨t', rfl⟩ := ry; exact eq_str (fin_bl I q dec_str)
    | _ => exact absurd (show false = true from hs) Bool.false_ne_true
  | byt i =>
    obtain ⟨t, rfl⟩ := rx
    cases y with
    | byt j => obtain ⟨t', rfl⟩ := ry; exact PySem.W.eq_bytes (fin_bl I q dec_byt)
    | _ => exact absurd (show false = true from hs) Bool.false_ne_true
  | _ => cases y <;> exact absurd (show false = true from hs) Bool.false_ne_true
theorem op_ne : OpR X (compareOp .NotEq) rNe := by
  intro pins s σ H x y v u Q I rx ry h
  obtain ⟨hs, q⟩ := h
  cases x with
  | non =>
    cases rx
    cases y with
    | non => cases ry; exact PySem.EqNone.ne_none_none (fin_bl I q (by simp))
    | bl j => cases ry; exact PySem.EqNone.ne_none_bool (fin_bl I q (by simp))
    | int j => obtain ⟨t', rfl⟩ := ry; exact PySem.EqNone.ne_none_int (fin_bl I q (by simp))
    | str j => obtain ⟨t', rfl⟩ := ry; exact PySem.EqNone.ne_none_str (fin_bl I q (by simp))
    | _ => exact absurd (show false = true from hs) Bool.false_ne_true
  | bl i =>
    cases rx
    cases y with
    | non => cases ry; exact PySem.EqNone.ne_bool_none (fin_bl I q (by simp))
    | bl j => cases ry; exact ne_bool (fin_bl I q (congrArg not dec_bl))
    | str j => obtain ⟨t', rfl⟩ := ry; exact PySem.EqMixed.ne_bool_str (fin_bl I q (by simp))
    | _ => exact absurd (show false = true from hs) Bool.false_ne_true
  | int i =>
    obtain ⟨t, rfl⟩ := rx
    cases y with
    | non => cases ry; exact PySem.EqNone.ne_int_none (fin_bl I q (by simp))
    | int j => obtain ⟨t', rfl⟩ := ry; exact ne_int (fin_bl I q (congrArg not dec_int))
    | str j => obtain ⟨t', rfl⟩ := ry; exact PySem.EqMixed.ne_int_str (fin_bl I q (by simp))
    | _ => exact absurd (show false = true from hs) Bool.false_ne_true
  | str i =>
    obtain ⟨t, rfl⟩ := rx
    cases y with
    | non => cases ry; exact PySem.EqNone.ne_str_none (fin_bl I q (by simp))
    | bl j => cases ry; exact PySem.EqMixed.ne_str_bool (fin_bl I q (by simp))
    | int j => obtain ⟨t', rfl⟩ := ry; exact PySem.EqMixed.ne_str_int (fin_bl I q (by simp))
    | str j => obtain ⟨t', rfl⟩ := ry; exact ne_str (fin_bl I q (congrArg not dec_str))
    | _ => exact absurd (show false = true from hs) Bool.false_ne_true
  | byt i =>
    obtain ⟨t, rfl⟩ := rx
    cases y with
    | byt j => obtain ⟨t', rfl⟩ := ry; exact PySem.W.ne_bytes (fin_bl I q (congrArg not dec_byt))
    | _ => exact absurd (show false = true from hs) Bool.false_ne_true
  | _ => cases y <;> exact absurd (show false = true from hs) Bool.false_ne_true
theorem op_lt : OpR X (compareOp .Lt) (rI0 fun i j => .bl (decide (i < j))) := opB0 fun _ _ _ _ _ _ _ q => lt_int q
theorem op_gt : OpR X (compareOp .Gt) (rI0 fun i j => .bl (decide (j < i))) := opB0 fun _ _ _ _ _ _ _ q => gt_int q
theorem op_in_str : OpR X (compareOp .In) (fun x y H Q => ∃ i j, x = .str i ∧ y = .str j ∧ Q (.bl (!(Builtin.Str.occurrences j i 0 j.length 1).isEmpty)) H) := by
  intro pins s σ H x y v u Q I rx ry h
  obtain ⟨i, j, rfl, rfl, q⟩ := h
  obtain ⟨t, rfl⟩ := rx
  obtain ⟨t', rfl⟩ := ry
  exact in_str (fin_bl I q rfl)
theorem op_isN : OpR X (compareOp .Is) (fun x y H Q => y = .non ∧ Q (.bl (decide (x = .non))) H) := by
  intro pins s σ H x y v u Q I rx ry h
  obtain ⟨rfl, q⟩ := h
  cases ry
  refine is_none_gen (fin_bl I q ?_)
  cases x <;> first
    | (cases rx; rfl)
    | (obtain ⟨t, rfl⟩ := rx; rfl)
theorem nomark (b : Expr) {op : CmpOp} (h : op ≠ .In := by decide) (h2 : op ≠ .NotIn := by decide) : behindInMarks op b = false := by
  have e1 : (op == CmpOp.In) = false := by cases op <;> first | rfl | exact absurd rfl h
  have e2 : (op == CmpOp.NotIn) = false := by cases op <;> first | rfl | exact absurd rfl h2
  cases b <;> simp [behindInMarks, e1, e2]
theorem pe_cmpR {op : CmpOp} {r : R2} (ho : OpR X (compareOp op) r) (ha : PE X a ta) (hb : PE X b tb) (hm : behindInMarks op b = false) : PE X (.Compare a [op] [b] pos) (tOp r ta tb) := by
  intro pins s σ H Q I h
  exact wpAny_Compare1 (binT ha hb I h fun v u s2 x y H2 I2 rx ry q => ho pins s2 σ H2 x y v u Q I2 rx ry q) hm
def tTest (t : TE) : TT := fun σ H Q => t σ H fun x H' => ∃ k, x = .bl k ∧ Q k H'
theorem pt_cmpR {op : CmpOp} {r : R2} (ho : OpR X (compareOp op) r) (ha : PE X a ta) (hb : PE X b tb) (hm : behindInMarks op b = false) : PT X (.Compare a [op] [b] pos) (tTest (tOp r ta tb)) := by
  intro pins s σ H Q I h
  refine wpAny_isTrue_Compare1 (thn (ha pins s σ H _ I h) fun v s1 ⟨x, H1, I1, r1, q1⟩ => thn (hb pins s1 σ H1 _ I1 q1) fun u s2 ⟨y, H2, I2, r2, q2⟩ =>
    thn (ho pins s2 σ H2 x y v u _ I2 r1 r2 q2) fun c s3 ⟨z, H3, I3, r3, k, e, q3⟩ => ?_) hm
  subst e
  cases r3
  exact wpAny_truthy_bool ⟨H3, I3, q3⟩
def TruV (K : PySem.W.Frag) (x : V) (H : Hp) (k : Bool) : Prop :=
  match x with
  | .non => k = false
  | .bl b => k = b
  | .int i => k = (i != 0)
  | .str y => y.length ≤ sizeLine ∧ k = ((y.length : Int) != 0)
  | .byt y => y.size ≤ sizeLine ∧ k = ((y.size : Int) != 0)
  | .ref p => (∃ xs, SqL K H p xs ∧ k = !xs.isEmpty) ∨ (∃ xs, SqT K H p xs ∧ k = !xs.isEmpty) ∨ ∃ kvs, H p = some (.dK kvs) ∧ k = !kvs.isEmpty
  | _ => False
theorem isEmpty_kv {κ : Type} {kvs : List (κ × V)} {vs : List (κ × Value)} (r : KV kvs vs) : (!vs.isEmpty) = !kvs.isEmpty := by
  cases r <;> rfl
theorem isEmpty_of {xs : List V} {its : List Value} (r : Vals xs its) : (!its.toArray.isEmpty) = !xs.isEmpty := by
  cases r <;> simp
theorem line63 : (sizeLine : Nat) < 2 ^ 63 := by rw [sizeLine_eq]; decide
theorem tru_ok : TruR X (fun x H Q => ∃ k, TruV X.K x H k ∧ Q k H) := by
  intro pins s σ H x v Q I rx h
  obtain ⟨k, e, q⟩ := h
  have hl := line63
  have hs : sizeLine = 16777216 := sizeLine_eq
  cases x with
  | non =>
    cases rx
    have e' : k = false := e
    subst e'
    exact truthy_none ⟨H, I, q⟩
  | bl b =>
    cases rx
    have e' : k = b := e
    subst e'
    exact wpAny_truthy_bool ⟨H, I, q⟩
  | int i =>
    obtain ⟨t, rfl⟩ := rx
    have e' : k = (i != 0) := e
    subst e'
    exact PySem.P.truthy_int ⟨H, I, q⟩
  | str y =>
    obtain ⟨t, rfl⟩ := rx
    obtain ⟨hy, e'⟩ : y.length ≤ sizeLine ∧ k = ((y.length : Int) != 0) := e
    subst e'
    exact PySem.P.truthy_str (by omega) ⟨H, I.tok _, q⟩
  | byt y =>
    obtain ⟨t, rfl⟩ := rx
    obtain ⟨hy, e'⟩ : y.size ≤ sizeLine ∧ k = ((y.size : Int) != 0) := e
    subst e'
    exact PySem.W.truthy_bytes (by omega) ⟨H, I.tok _, q⟩
  | ref p =>
    cases rx
    have e' : (∃ xs, SqL X.K H p xs ∧ k = !xs.isEmpty) ∨ (∃ xs, SqT X.K H p xs ∧ k = !xs.isEmpty) ∨ ∃ kvs, H p = some (.dK kvs) ∧ k = !kvs.isEmpty := e
    rcases e' with ⟨xs, hx, e'⟩ | ⟨xs, hx, e'⟩ | ⟨kvs, hx, e'⟩
    · subst e'
      obtain ⟨its, r, pl, hz⟩ := I.list hx
      have hlen := r.length
      exact wpAny_truthy_list pl.isList (by simp only [List.size_toArray]; omega) ⟨H, I.tok _, by rw [isEmpty_of r]; exact q⟩
    · subst e'
      obtain ⟨its, r, pl, hz⟩ := I.tuple hx
      have hlen := r.length
      exact truthy_tuple pl (by simp only [List.size_toArray]; omega) ⟨H, I.tok _, by rw [isEmpty_of r]; exact q⟩
    · subst e'
      obtain ⟨hz, hS, vs, r, m⟩ : kvs.length ≤ sizeLine ∧ (p == sysModules) = false ∧ ∃ vs, KV kvs vs ∧ s.heap.DictOf (mixKind X.prog X.w) p vs := I.hok p _ hx
      have hlen : kvs.length = vs.length := Paired.length r
      exact wpAny_truthy_dict hS m (by omega) ⟨H, I.tok _, by rw [isEmpty_kv r]; exact q⟩
  | _ => exact (show False from e).elim
theorem pt_truth (ha : PE X a ta) (he : ∀ whole, isTrue a X.env whole = (do let v ← whole; standAt a.pos; holding [v] (truthy v))) :
    PT X a (fun σ H Q => ta σ H fun x H' => ∃ k, TruV X.K x H' k ∧ Q k H') := by
  intro pins s σ H Q I h
  exact isTrue_plain (thn (ha pins s σ H _ I h) fun v s1 ⟨x, H1, I1, r1, q1⟩ => tru_ok pins s1 σ H1 x v Q I1 r1 q1) (he _)
theorem op_add_str : OpR X (binaryOp .Add) (fun x y H Q => ∃ i j, x = .str i ∧ y = .str j ∧ i.length + j.length ≤ sizeLine ∧ Q (.str (i ++ j)) H) := by
  intro pins s σ H x y v u Q I rx ry h
  obtain ⟨i, j, rfl, rfl, hz, q⟩ := h
  obtain ⟨t, rfl⟩ := rx
  obtain ⟨t', rfl⟩ := ry
  exact add_str (fun t' tk => ⟨.str (i ++ j), H, I.tok _, ⟨_, rfl⟩, q⟩) hz
theorem vals1 {x : V} {us : List Value} (r : Vals [x] us) : ∃ u, us = [u] ∧ RelV x u := by
  cases r with
  | cons r1 r2 => cases r2; exact ⟨_, rfl, r1⟩
theorem vals2 {x y : V} {us : List Value} (r : Vals [x, y] us) : ∃ u w', us = [u, w'] ∧ RelV x u ∧ RelV y w' := by
  cases r with
  | cons r1 r2 =>
    cases r2 with
    | cons r3 r4 => cases r4; exact ⟨_, _, rfl, r1, r3⟩
theorem call_min2 (hc : X.calm = true) : CallR X (.builtin "min") (fun xs H Q => ∃ i j, xs = [.int i, .int j] ∧ Q (.int (if j < i then j else i)) H) := by
  intro pins s σ H xs us Q I r h
  obtain ⟨i, j, rfl, q⟩ := h
  obtain ⟨u, w', rfl, ⟨t, rfl⟩, ⟨t', rfl⟩⟩ := vals2 r
  refine min_two_ints (I.ok.hd hc) fun h' tk k => ⟨_, H, I.kept k, ?_, q⟩
  by_cases hj : j < i
  · rw [if_pos hj, if_pos hj]; exact ⟨_, rfl⟩
  · rw [if_neg hj, if_neg hj]; exact ⟨_, rfl⟩
theorem call_int1 : CallR X (.type "int") (fun xs H Q => (∃ i, xs = [.int i] ∧ Q (.int i) H) ∨ ∃ k, xs = [.bl k] ∧ Q (.int (if k then 1 else 0)) H) := by
  intro pins s σ H xs us Q I r h
  rcases h with ⟨i, rfl, q⟩ | ⟨k, rfl, q⟩
  · obtain ⟨u, rfl, t, rfl⟩ := vals1 r
    exact call_int_int ⟨.int i, H, I, ⟨_, rfl⟩, q⟩
  · obtain ⟨u, rfl, r1⟩ := vals1 r
    cases r1
    exact call_int_bool ⟨.int (if k then 1 else 0), H, I.tok _, ⟨_, rfl⟩, q⟩
end
end L2
namespace L2
open PySem PySem.Spec PyProof.Rows
structure ObjM (h : Heap) (x dx C : Addr) (mA : Str → Option Value) : Prop where
  obj : h.get? x = some (PySem.W.instObj C dx)
  ns : h.Ns1 dx mA
  ne : dx ≠ x
theorem lookIn_ns {h : Heap} {dx : Addr} {mA : Str → Option Value} (n : h.Ns1 dx mA) : ∃ od, h.get? dx = some od ∧ ∀ name, PySem.W.lookIn name od = some (mA name) := by
  obtain ⟨o, es, ep, ho, hd, hk, _, hm⟩ := n
  refine ⟨o, ho, fun name => ?_⟩
  have e := hm name
  unfold nsFind findBy at e
  rw [← Array.find?_toList] at e
  unfold PySem.W.lookIn
  rw [hd]
  dsimp only
  split
  · rename_i y q
    rw [q] at e
    exact congrArg some e
  · rename_i q
    rw [q] at e
    have a : es.toList.any (·.refKey) = false := by
      rw [List.any_eq_false]
      intro y hy
      obtain ⟨z, t, hkey⟩ := hk y (Array.mem_toList_iff.mp hy)
      simp [DictEntry.refKey, hkey]
    have a' : ¬ es.toList.any (·.refKey) = true := by rw [a]; exact Bool.false_ne_true
    rw [if_neg a']
    exact congrArg some e
theorem ObjM.look {h : Heap} {x dx C : Addr} {mA : Str → Option Value} (I : ObjM h x dx C mA) : ∃ od, PySem.W.InstAt h x (PySem.W.instObj C dx) C (some od) ∧ ∀ name, PySem.W.lookIn name od = some (mA name) :=
  let ⟨od, ho, hl⟩ := lookIn_ns I.ns
  ⟨od, ⟨I.obj, rfl, rfl, ho⟩, hl⟩
section
variable {prog : Program} {w : World} {A : Around} {E : Value → Shared → Prop} {s : Shared} {K : PySem.W.Frag} {x dx C f : Addr} {mA : Str → Option Value} {name : Str} {v : Value}
theorem get_map {expr : Bool} {Q : Value → Shared → Prop} (X : K.In s.heap) (I : ObjM s.heap x dx C mA) (hg : PySem.W.plainGet K C name = true) (hh : PySem.W.hasDictIn K C = true)
    (ha : PySem.W.findIn K (.ref C) name = some none) (hv : mA name = some v) (hv' : PySem.W.handedIn v = true) (h : Q v { s with toks := s.toks + 1 }) :
    wpAny (model prog w) A (getAttr (.ref x) name expr) Q E s := by
  obtain ⟨od, J, hl⟩ := I.look
  exact PySem.W.get_value X J (PySem.W.plainGet_of hg).1 (PySem.W.findObj_own hh ha rfl (by rw [hl, hv])) hv' h
theorem get_meth {pl : Sem Bool} {Q : Value × List Value → Shared → Prop} (X : K.In s.heap) (I : ObjM s.heap x dx C mA) (hg : PySem.W.plainGet K C name = true)
    (hf : PySem.W.findIn K (.ref C) name = some (some (.ref f))) (ht : PySem.W.isFn K (.ref f) = true) (hv : mA name = none) (h : Q (.ref f, [.ref x]) s) :
    wpAny (model prog w) A (getMethod (.ref x) name pl) Q E s := by
  obtain ⟨od, J, hl⟩ := I.look
  exact PySem.W.method_fn X J (PySem.W.plainGet_of hg).1 (PySem.W.plainGet_of hg).2 hf (beq_iff_eq.mp ht) (by show (PySem.W.lookIn name od).map (·.isSome) = some false; rw [hl, hv]; rfl) h
theorem set_map {ns : List Str} {Q : Unit → Shared → Prop} (X : K.In s.heap) (I : ObjM s.heap x dx C mA)
    (hs : PySem.W.findIn K (.ref C) "__setattr__" = some (some (.builtin "object.__setattr__"))) (hp : PySem.W.plainOver K C = true) (ht : PySem.W.takerIn K C name = some none) (hh : PySem.W.hasDictIn K C = true)
    (hw : PySem.Within mA ns) (hsz : ns.length ≤ sizeLine)
    (h : ∀ h', ObjM h' x dx C (fun y => if y = name then some v else mA y) → Heap.SameBut dx s.heap h' → Q () { s with heap := h', toks := s.toks + 2 }) :
    wpAny (model prog w) A (setAttr (.ref x) name v) Q E s := by
  obtain ⟨od, J, hl⟩ := I.look
  refine PySem.W.set_plain X J hs (PySem.W.osa_open (s := { s with toks := s.toks + 1 }) (r := none) X J hp ht fun b => ?_)
  obtain ⟨cd, hc, hd'⟩ := PySem.W.any_some hh
  have hx : s.heap.get? x = some ⟨.ref C, some dx, .plain, #[]⟩ := I.obj
  refine wpAny_bind (wpAny_pure (wpAny_bind (wpAny_bind (wpAny_loadPart hx (wpAny_bind (PySem.W.Looks.here (s := { s with toks := s.toks + 1 }) (PySem.W.looks_clsIn X hc) ?_))))))
  rw [hd']
  refine wpAny_pure (a := some dx) (wpAny_bind (wpAny_pure (wpAny_bind ?_)))
  refine wpAny_nsSet1 (s := { s with toks := s.toks + 1 }) I.ns fun h' hn2 hs2 => ?_
  obtain ⟨oD, esD, epD, hoD, hdD, hcD⟩ := hn2.count (PySem.Within.cons name v hw)
  refine wpAny_bind (wpAny_lookBehind hoD (by rw [hdD]; exact pastItsLine_dict (Nat.le_trans hcD (by rw [List.length_cons]; omega))) ?_)
  exact wpAny_pure (h _ ⟨(hs2.2 _ (Ne.symm I.ne)).trans I.obj, hn2, I.ne⟩ hs2)
theorem make_map {R : Result → Shared → Prop} {vs : List Value} {kw : List (Str × Value)} (X : K.In s.heap) (hm : PySem.W.makesIn K C = true)
    (hi : PySem.W.findIn K (.ref C) "__init__" = some (some (.ref f))) (hf : PySem.W.typeIn K (.ref f) = some (.type "function"))
    (h : codeAny (model prog w) (A.under (.builtin "type.__call__" ⟨.ref C :: vs, kw⟩)) (.call (.ref f) ⟨.ref (s.heap.objs.size + 1) :: vs, kw⟩) (PySem.W.InitBack (s.heap.objs.size + 1) R)
      { s with heap := (s.heap.push PySem.W.emptyDict).push (PySem.W.instObj C s.heap.objs.size) }) :
    codeAny (model prog w) A (.call (.ref C) ⟨vs, kw⟩) R s := by
  obtain ⟨hh, g, d, t, os⟩ := s
  exact PySem.W.make_core (PySem.W.makes_of X hm) (PySem.W.looks_findIn X hi) (fun self => PySem.W.bind_fn X self hf) (.inl rfl) h
end
def putF (f : Str) (v : V) : List (Str × V) → List (Str × V)
  | [] => [(f, v)]
  | (g, x) :: r => if g = f then (g, v) :: r else (g, x) :: putF f v r
theorem lookup_putF (f g : Str) (v : V) : ∀ fs : List (Str × V), (putF f v fs).lookup g = if g = f then some v else fs.lookup g
  | [] => by
    show List.lookup g [(f, v)] = _
    by_cases h : g = f
    · have hb : (g == f) = true := beq_iff_eq.mpr h
      simp only [List.lookup, hb, if_pos h]
    · have hb : (g == f) = false := beq_eq_false_iff_ne.mpr h
      simp only [List.lookup, hb, if_neg h]
  | (k, x) :: r => by
    have ih := lookup_putF f g v r
    rw [show putF f v ((k, x) :: r) = (if k = f then (k, v) :: r else (k, x) :: putF f v r) from rfl]
    by_cases hk : k = f
    · rw [if_pos hk]
      by_cases h : g = k
      · have hb : (g == k) = true := beq_iff_eq.mpr h
        simp only [List.lookup, hb, if_pos (h.trans hk)]
      · have hb : (g == k) = false := beq_eq_false_iff_ne.mpr h
        simp only [List.lookup, hb, if_neg (fun e : g = f => h (e.trans hk.symm))]
    · rw [if_neg hk]
      by_cases h : g = k
      · have hb : (g == k) = true := beq_iff_eq.mpr h
        simp only [List.lookup, hb, if_neg (fun e : g = f => hk (h.symm.trans e))]
      · have hb : (g == k) = false := beq_eq_false_iff_ne.mpr h
        simp only [List.lookup, hb]
        exact ih
theorem keys_putF (f : Str) (v : V) : ∀ fs : List (Str × V), f ∈ (putF f v fs).map (·.1) ∧ ∀ g, g ∈ fs.map (·.1) → g ∈ (putF f v fs).map (·.1)
  | [] => ⟨by simp [putF], fun g h => by simp at h⟩
  | (k, x) :: r => by
    obtain ⟨i1, i2⟩ := keys_putF f v r
    rw [show putF f v ((k, x) :: r) = (if k = f then (k, v) :: r else (k, x) :: putF f v r) from rfl]
    by_cases hk : k = f
    · rw [if_pos hk]
      subst hk
      exact ⟨by simp, fun g h => by simpa using h⟩
    · rw [if_neg hk]
      refine ⟨?_, fun g h => ?_⟩
      · rw [List.map_cons]
        exact List.mem_cons_of_mem _ i1
      · rw [List.map_cons] at h ⊢
        rcases List.mem_cons.mp h with e | e
        · exact List.mem_cons.mpr (.inl e)
        · exact List.mem_cons_of_mem _ (i2 g e)
theorem length_putF (f : Str) (v : V) : ∀ fs : List (Str × V), (putF f v fs).length ≤ fs.length + 1
  | [] => by simp [putF]
  | (k, x) :: r => by
    have ih := length_putF f v r
    rw [show putF f v ((k, x) :: r) = (if k = f then (k, v) :: r else (k, x) :: putF f v r) from rfl]
    by_cases hk : k = f
    · rw [if_pos hk, List.length_cons, List.length_cons]; omega
    · rw [if_neg hk, List.length_cons, List.length_cons]; omega
theorem RelO.some_of {v : V} {o : Option Value} (r : RelO (some v) o) : ∃ u, o = some u ∧ RelV v u := by
  cases o with
  | none => exact (show False from r).elim
  | some u => exact ⟨u, rfl, r⟩
theorem RelO.none_of {o : Option Value} (r : RelO none o) : o = none := by
  cases o with
  | none => rfl
  | some u => exact (show False from r).elim
theorem handed_of {v : V} {u : Value} (r : RelV v u) : PySem.W.handedIn u = true := by
  cases v with
  | non => cases (show u = Value.none from r); rfl
  | bl b => cases (show u = Value.bool b from r); rfl
  | int i => obtain ⟨t, e⟩ := (show ∃ t, u = Value.int i t from r); cases e; rfl
  | str x => obtain ⟨t, e⟩ := (show ∃ t, u = Value.str x t from r); cases e; rfl
  | byt b => obtain ⟨t, e⟩ := (show ∃ t, u = Value.bytes b t from r); cases e; rfl
  | flt b => obtain ⟨t, e⟩ := (show ∃ t, u = Value.float b t from r); cases e; rfl
  | ref a => cases (show u = Value.ref a from r); rfl
  | ty n => cases (show u = Value.type n from r); rfl
section
variable {P : Program} {w : World} {H H' : Hp} {h h' : Heap} {a C dx : Addr} {fs fs' : List (Str × V)}
theorem ins_get (hok : HOk P w H h) (e : H a = some (.ins C dx fs)) : ∃ mA, ObjM h a dx C mA ∧ (∀ f, RelO (fs.lookup f) (mA f)) ∧ PySem.Within mA (fs.map (·.1)) ∧ fs.length ≤ 1000 ∧ H dx = some (.own a) := by
  obtain ⟨d, z, ne, ob, mA, n, r, q⟩ := (show ObjOk P w H h a (.ins C dx fs) from hok a _ e)
  exact ⟨mA, ⟨ob, n, ne⟩, r, q, z, d⟩
end
structure Cls (K : PySem.W.Frag) (C : Addr) : Prop where
  pg : PySem.W.plainGet K C Str.empty = true
  hd : PySem.W.hasDictIn K C = true
  po : PySem.W.plainOver K C = true
  sa : PySem.W.findIn K (.ref C) "__setattr__" = some (some (.builtin "object.__setattr__"))
theorem Cls.get {K : PySem.W.Frag} {C : Addr} (c : Cls K C) (f : Str) : PySem.W.plainGet K C f = true := c.pg
def NoAttr (K : PySem.W.Frag) (C : Addr) (f : Str) : Prop := PySem.W.findIn K (.ref C) f = some none
theorem NoAttr.taker {K : PySem.W.Frag} {C : Addr} {f : Str} (n : NoAttr K C f) : PySem.W.takerIn K C f = some none := by
  unfold PySem.W.takerIn
  rw [show PySem.W.findIn K (.ref C) f = some none from n]
  rfl
structure Meth (K : PySem.W.Frag) (C : Addr) (m : Str) (f : Addr) : Prop where
  at_ : PySem.W.findIn K (.ref C) m = some (some (.ref f))
  fn : PySem.W.isFn K (.ref f) = true
  kp : PySem.W.keepIn K (.ref f) = true
section
variable {X : Cx} {pins : List (Addr × Obj)} {σ : St} {H : Hp} {s : Shared} {a C dx : Addr} {fs : List (Str × V)} {f : Str} {v : V} {A : Around} {E : Value → Shared → Prop}
theorem getattr_ok {b : Bool} {Q : Value → Shared → Prop} (I : Inv X pins σ H s) (e : H a = some (.ins C dx fs)) (c : Cls X.K C) (n : NoAttr X.K C f) (l : fs.lookup f = some v)
    (h : ∀ u s', Inv X pins σ H s' → RelV v u → Q u s') : wpAny (model X.prog X.w) A (getAttr (.ref a) f b) Q E s := by
  obtain ⟨mA, O, r, _, _, _⟩ := ins_get I.hok e
  obtain ⟨u, hu, ru⟩ := RelO.some_of (v := v) (o := mA f) (by rw [← l]; exact r f)
  exact get_map I.kIn O (c.get f) c.hd n hu (handed_of ru) (h u _ (I.tok _) ru)
theorem getmeth_ok {m : Str} {g : Addr} {pl : Sem Bool} {Q : Value × List Value → Shared → Prop} (I : Inv X pins σ H s) (e : H a = some (.ins C dx fs)) (c : Cls X.K C) (k : Meth X.K C m g) (l : fs.lookup m = none)
    (h : Q (.ref g, [.ref a]) s) : wpAny (model X.prog X.w) A (getMethod (.ref a) m pl) Q E s := by
  obtain ⟨mA, O, r, _, _, _⟩ := ins_get I.hok e
  have hn : mA m = none := RelO.none_of (by rw [← l]; exact r m)
  exact get_meth I.kIn O (c.get m) k.at_ k.fn hn h
theorem setattr_ok {y : V} {u : Value} {Q : Unit → Shared → Prop} (I : Inv X pins σ H s) (e : H a = some (.ins C dx fs)) (c : Cls X.K C) (n : NoAttr X.K C f) (hl : fs.length < 1000) (ry : RelV y u)
    (h : ∀ s', Inv X pins σ (upd H a (.ins C dx (putF f y fs))) s' → Q () s') : wpAny (model X.prog X.w) A (setAttr (.ref a) f u) Q E s := by
  obtain ⟨mA, O, r, wi, _, ho⟩ := ins_get I.hok e
  have hz : (fs.map (·.1)).length ≤ sizeLine := by rw [List.length_map, sizeLine_eq]; omega
  refine set_map I.kIn O c.sa c.po n.taker c.hd wi hz fun h' O' sb => h _ ?_
  have hd : ∃ o, h'.get? dx = some o := let ⟨o, _, _, e', _⟩ := O'.ns; ⟨o, e'⟩
  refine I.write (x := a) (e := dx) (by rw [e]; exact True.intro) (.inr ho) (fun b q hb z => (sb.2 b hb).trans z) hd ?_
  refine ⟨by rw [upd_ne O.ne]; exact ho, ?_, O.ne, O'.obj, _, O'.ns, fun g => ?_, fun g hg => ?_⟩
  · have := length_putF f y fs; omega
  · show RelO ((putF f y fs).lookup g) (if g = f then some u else mA g)
    rw [lookup_putF]
    by_cases q : g = f
    · rw [if_pos q, if_pos q]; exact ry
    · rw [if_neg q, if_neg q]; exact r g
  · by_cases q : g = f
    · rw [q]; exact (keys_putF f y fs).1
    · refine (keys_putF f y fs).2 g (wi g fun z => hg ?_)
      show (if g = f then some u else mA g) = none
      rw [if_neg q]; exact z
theorem Inv.made (I : Inv X pins σ H s) : Inv X pins σ (upd (upd H s.heap.objs.size (.own (s.heap.objs.size + 1))) (s.heap.objs.size + 1) (.ins C s.heap.objs.size []))
    { s with heap := (s.heap.push PySem.W.emptyDict).push (PySem.W.instObj C s.heap.objs.size) } := by
  have e1 : (s.heap.push PySem.W.emptyDict).get? s.heap.objs.size = some PySem.W.emptyDict := Heap.get?_push_size s.heap rfl
  have e2 : ((s.heap.push PySem.W.emptyDict).push (PySem.W.instObj C s.heap.objs.size)).get? (s.heap.objs.size + 1) = some (PySem.W.instObj C s.heap.objs.size) := by
    have := Heap.get?_push_size (s.heap.push PySem.W.emptyDict) (o := PySem.W.instObj C s.heap.objs.size) rfl
    rwa [Heap.size_push] at this
  have e3 : (s.heap.push PySem.W.emptyDict).Ns s.heap.objs.size (fun _ => none) := ⟨PySem.W.emptyDict, #[], _, e1, rfl, (fun e he => absurd he (by simp)), fun _ => rfl⟩
  have I1 := I.laid (a := s.heap.objs.size) (o := .own (s.heap.objs.size + 1)) (h' := s.heap.push PySem.W.emptyDict) (t' := s.toks) (fun b u q => Heap.get?_push_of_some _ q) (Nat.le_refl _) ⟨_, e1⟩
  refine I1.laid (a := s.heap.objs.size + 1) (o := .ins C s.heap.objs.size []) (t' := s.toks) (fun b u q => Heap.get?_push_of_some _ q) (Nat.le_of_eq (Heap.size_push _ _)) ?_
  have ne : s.heap.objs.size ≠ s.heap.objs.size + 1 := Nat.ne_of_lt (Nat.lt_succ_self _)
  refine ⟨by rw [upd_ne ne, upd_same], Nat.zero_le _, ne, e2, fun _ => none, (Heap.Ns1.of_empty e3).at fun o q => Heap.get?_push_of_some _ q, fun _ => True.intro, fun y hy => absurd rfl hy⟩
theorem attr_of {prog : Program} {w : World} {env : Env} {e : Expr} {f : Str} {pos : Pos} {s : Shared} {Q : Value → Shared → Prop} (hb : attributeBase e f env (eval e env) = eval e env)
    (h : wpAny (model prog w) A (eval e env) (fun o s₁ => wpAny (model prog w) A (getAttr o f true) Q E s₁) E s) : wpAny (model prog w) A (eval (.Attribute e f pos) env) Q E s :=
  Attribute_any_ h (by rw [arm_eval_Attribute, hb])
end
def tFld (K : PySem.W.Frag) (ta : TE) (f : Str) : TE := fun σ H Q => ta σ H fun x H1 => ∃ a C dx fs v, x = .ref a ∧ H1 a = some (.ins C dx fs) ∧ Cls K C ∧ NoAttr K C f ∧ fs.lookup f = some v ∧ Q v H1
def sFld (K : PySem.W.Frag) (ta tv : TE) (f : Str) : TS := fun D σ H => tv σ H fun y H1 => ta σ H1 fun x H2 => ∃ a C dx fs, x = .ref a ∧ H2 a = some (.ins C dx fs) ∧ Cls K C ∧ NoAttr K C f ∧ fs.length < 1000 ∧
  D.nx σ (upd H2 a (.ins C dx (putF f y fs)))
def InOp (X : Cx) (op : Operator) (rd : V → V → Hp → VK → Prop) : Prop :=
  ∀ (pins : List (Addr × Obj)) (s : Shared) (σ : St) (H : Hp) (x y : V) (u v : Value) (Q : VK), Inv X pins σ H s → RelV x u → RelV y v → rd x y H Q → wpAny (model X.prog X.w) X.A (inplaceOp op u v) (EP X pins σ Q) X.xe s
def sFldAug (K : PySem.W.Frag) (ta tv : TE) (rd : V → V → Hp → VK → Prop) (f : Str) : TS := fun D σ H => ta σ H fun x H1 => ∃ a C dx fs v, x = .ref a ∧ H1 a = some (.ins C dx fs) ∧ Cls K C ∧ NoAttr K C f ∧ fs.lookup f = some v ∧
  tv σ H1 fun y H2 => rd v y H2 fun z H3 => ∃ dx' fs', H3 a = some (.ins C dx' fs') ∧ fs'.length < 1000 ∧ D.nx σ (upd H3 a (.ins C dx' (putF f z fs')))
section
variable {X : Cx} {o e value : Expr} {f : Str} {pos pos' tpos : Pos} {ta tv : TE}
theorem pe_fld (he : PE X e ta) (hb : attributeBase e f X.env (eval e X.env) = eval e X.env) : PE X (.Attribute e f pos) (tFld X.K ta f) := by
  intro pins s σ H Q I h
  refine attr_of hb (thn (he pins s σ H _ I h) fun u s1 ⟨x, H1, I1, rx, a, C, dx, fs, v, ex, ea, c, n, l, q⟩ => ?_)
  subst ex
  obtain rfl : u = Value.ref a := rx
  exact getattr_ok I1 ea c n l fun u' s2 I2 ru => ⟨v, H1, I2, ru, q⟩
theorem ps_fld (ha : PE X o ta) (hv : PE X value tv) (hs : swapsWith value (some (.Attribute o f pos')) pos.line X.env = pure false) : PS X (.Assign [.Attribute o f pos'] value pos) (sFld X.K ta tv f) := by
  intro pins s σ H D I h
  refine plainObj_wpAny_Assign_Attribute (thn (hv pins s σ H _ I h) fun u s1 ⟨y, H1, I1, ry, q⟩ => thn (ha pins s1 σ H1 _ I1 q) fun ov s2 ⟨x, H2, I2, rx, a, C, dx, fs, ex, ea, c, n, l, q2⟩ => ?_) hs
  subst ex
  obtain rfl : ov = Value.ref a := rx
  exact setattr_ok I2 ea c n l ry fun s3 I3 => ⟨σ, _, I3, q2⟩
theorem ps_fldaug {op : Operator} {rd : V → V → Hp → VK → Prop} (ha : PE X o ta) (hv : PE X value tv) (hop : InOp X op rd) : PS X (.AugAssign (.Attribute o f tpos) op value pos) (sFldAug X.K ta tv rd f) := by
  intro pins s σ H D I h
  refine wpAny_AugAssign_AttributeAny (thn (ha pins s σ H _ I h) fun ov s1 ⟨x, H1, I1, rx, a, C, dx, fs, v, ex, ea, c, n, l, q⟩ => ?_)
  subst ex
  obtain rfl : ov = Value.ref a := rx
  refine getattr_ok I1 ea c n l fun u s2 I2 ru => thn (hv pins s2 σ H1 _ I2 q) fun w3 s3 ⟨y, H2, I3, ry, q3⟩ => thn (hop pins s3 σ H2 v y u w3 _ I3 ru ry q3) fun w4 s4 ⟨z, H3, I4, rz, dx', fs', ea', l', q4⟩ => ?_
  exact setattr_ok I4 ea' c n l' rz fun s5 I5 => ⟨σ, _, I5, q4⟩
def rAdd : V → V → Hp → VK → Prop := fun x y H Q => ∃ i j, x = .int i ∧ y = .int j ∧ Q (.int (i + j)) H
theorem in_add : InOp X .Add rAdd := by
  rintro pins s σ H x y u v Q I rx ry ⟨i, j, rfl, rfl, q⟩
  obtain ⟨t, rfl⟩ := (show ∃ t, u = Value.int i t from rx)
  obtain ⟨t', rfl⟩ := (show ∃ t', v = Value.int j t' from ry)
  exact PyProof.Rows.iadd_int ⟨.int (i + j), H, I.tok _, ⟨_, rfl⟩, q⟩
theorem methcall_of {pl : Sem Bool} {m : Str} {apos : Pos} {args : List Expr} {pins : List (Addr × Obj)} {s : Shared} {σ : St} {H : Hp} {Q : Value → Shared → Prop} {te : TE} (he : PE X e te) (I : Inv X pins σ H s)
    (h : te σ H fun x H1 => ∃ a C dx fs g, x = .ref a ∧ H1 a = some (.ins C dx fs) ∧ Cls X.K C ∧ Meth X.K C m g ∧ fs.lookup m = none ∧
      ∀ s1, Inv X pins σ H1 s1 → wpAny (model X.prog X.w) X.A (callWith pos (.ref g) [.ref a] (backTo pos (starEach args X.env)) (backToKw pos (keywordEach [] X.env))) Q X.xe s1)
    (ht : eval (.Call (.Attribute e m apos) args [] pos) X.env = (do
      let ov ← eval e X.env
      standAt apos.atName
      let (f, first) ← holding [ov] (getMethod ov m pl)
      callWith pos f first (backTo pos (starEach args X.env)) (backToKw pos (keywordEach [] X.env)))) :
    wpAny (model X.prog X.w) X.A (eval (.Call (.Attribute e m apos) args [] pos) X.env) Q X.xe s := by
  refine PySem.W.methodCall_KW (pl := pl) (thn (he pins s σ H _ I h) fun u s1 ⟨x, H1, I1, rx, a, C, dx, fs, g, ex, ea, c, k, l, q⟩ => ?_) ht
  subst ex
  obtain rfl : u = Value.ref a := rx
  exact getmeth_ok I1 ea c k l (q s1 I1)
end
section
variable {X : Cx} {pins : List (Addr × Obj)} {σ : St} {H : Hp} {s : Shared} {A : Around} {E : Value → Shared → Prop} {Q : Value → Shared → Prop} {c : Value} {b : Bool}
end
end L2
namespace L2
open PySem PySem.Spec PyProof.Rows
structure Room (k : Nat) (A : Around) : Prop where
  hd : A.handled = none
  dp : A.depth + 3 * k + 5 < recursionLimit
  un : A.units + 16 * k + 200 < cLine
theorem Room.mono {j k : Nat} {A : Around} (r : Room k A) (h : j ≤ k) : Room j A := ⟨r.hd, by have := r.dp; omega, by have := r.un; omega⟩
theorem Room.deeper {k : Nat} {A : Around} (r : Room (k + 1) A) (env : Env) : Room k (A.deeper env) :=
  ⟨r.hd, by have := r.dp; show A.depth + 1 + 3 * k + 5 < _; omega, by have := r.un; show A.units + 3 + 16 * k + 200 < _; omega⟩
theorem Room.in1 {k : Nat} {A : Around} (r : Room (k + 1) A) : Room k A.in1 :=
  ⟨r.hd, by have := r.dp; show A.depth + 3 * k + 5 < _; omega, by have := r.un; show A.units + 1 + 16 * k + 200 < _; omega⟩
theorem make_depth {A : Around} {C : Addr} {us : List Value} {kw : List (Str × Value)} : (A.under (.builtin "type.__call__" ⟨.ref C :: us, kw⟩)).depth = A.depth + 1 := by
  first | rfl | simp [Around.under, Code.weight, Code.isCreation, Code.isGuard, Code.isCaller, Code.frames, Code.isFrame, guardIds]
theorem make_units {A : Around} {C : Addr} {us : List Value} {kw : List (Str × Value)} : (A.under (.builtin "type.__call__" ⟨.ref C :: us, kw⟩)).units = A.units + 1 := by
  first | rfl | simp [Around.under, Code.cUnits, Code.frames, Code.isFrame]
theorem Room.make {k : Nat} {A : Around} (r : Room (k + 1) A) (C : Addr) (us : List Value) (kw : List (Str × Value)) : Room k (A.under (.builtin "type.__call__" ⟨.ref C :: us, kw⟩)) :=
  ⟨r.hd, by have := r.dp; rw [make_depth]; omega, by have := r.un; rw [make_units]; omega⟩
theorem Room.depth {k : Nat} {A : Around} (r : Room k A) : A.depth < recursionLimit := by have := r.dp; omega
theorem Room.units0 {k : Nat} {A : Around} (r : Room k A) : A.units < cLine := by have := r.un; omega
def tNil : TA := fun _ H Q => Q [] H
def tCons (ta : TE) (tr : TA) : TA := fun σ H Q => ta σ H fun x H1 => tr σ H1 fun xs H2 => Q (x :: xs) H2
section
variable {X : Cx} {e : Expr} {es : List Expr} {te : TE} {t : TA} {pos : Pos}
theorem pa_nil : PA X [] tNil := fun _ _ _ _ H Q I h => Calls.spliced_nil ⟨[], H, I, .nil, h⟩
theorem pa_cons (ha : PE X e te) (hr : PA X es t) (hs : starEach (e :: es) X.env = (false, eval e X.env) :: starEach es X.env := by rfl) : PA X (e :: es) (tCons te t) := by
  intro pos pins s σ H Q I h
  rw [hs]
  show wpAny _ _ (spliced ((false, eval e X.env) :: backTo pos (starEach es X.env))) _ _ s
  refine Calls.spliced_cons (thn (ha pins s σ H _ I h) fun u s1 ⟨x, H1, I1, r1, q1⟩ => ?_)
  exact thn (hr pos pins s1 σ H1 _ I1 q1) fun us s2 ⟨xs, H2, I2, r2, q2⟩ => ⟨x :: xs, H2, I2, .cons r1 r2, q2⟩
def tTup (t : TA) : TE := fun σ H Q => t σ H fun xs H1 => xs.length ≤ sizeLine ∧ ∀ p, H1 p = none → Q (.ref p) (upd H1 p (.tup xs))
def tLst (t : TA) : TE := fun σ H Q => t σ H fun xs H1 => xs.length ≤ sizeLine ∧ ∀ p, H1 p = none → Q (.ref p) (upd H1 p (.lst xs))
theorem pe_tup {x1} (h : PA X es t) : PE X (.Tuple es x1 pos) (tTup t) := by
  intro pins s σ H Q I hq
  refine wpAny_Tuple_spliced (thn (h pos pins s σ H _ I hq) fun us s1 ⟨xs, H1, I1, r, z, q⟩ => ⟨by rw [← r.length]; exact z, ?_⟩)
  have hf : H1 s1.heap.objs.size = none := I1.hok.fresh (Nat.le_refl _)
  refine ⟨.ref s1.heap.objs.size, upd H1 s1.heap.objs.size (.tup xs), I1.laid (t' := s1.toks) (fun b u e => Heap.get?_push_of_some _ e) (Nat.le_refl _) ?_, rfl, q _ hf⟩
  exact ⟨z, us, r, ⟨_, Heap.get?_push_size _ rfl, rfl, _, rfl⟩⟩
theorem pe_lst (h : PA X es t) : PE X (.List es pos) (tLst t) := by
  intro pins s σ H Q I hq
  refine wpAny_List_spliced (thn (h pos pins s σ H _ I hq) fun us s1 ⟨xs, H1, I1, r, z, q⟩ => ⟨by rw [← r.length]; exact z, ?_⟩)
  have hf : H1 s1.heap.objs.size = none := I1.hok.fresh (Nat.le_refl _)
  refine ⟨.ref s1.heap.objs.size, upd H1 s1.heap.objs.size (.lst xs), I1.laid (t' := s1.toks) (fun b u e => Heap.get?_push_of_some _ e) (Nat.le_refl _) ?_, rfl, q _ hf⟩
  exact ⟨z, us, 0, r, Heap.get?_push_size _ rfl⟩
end
abbrev Sp := List V → Hp → VK → XK → Prop
abbrev CXT := List Env → Hp → Shared → XK → Value → Shared → Prop
structure Env0 (P : Program) (w : World) (K : PySem.W.Frag) (mg : Str → Option Value) (base : Heap) (A : Around) (outer : List Env) (s : Shared) (H : Hp) : Prop where
  frames : A.frames = some outer
  mod : Mod K mg base
  bs : ∀ b o, base.get? b = some o → s.heap.get? b = some o ∧ H b = none
  bsz : base.objs.size ≤ s.heap.objs.size
  funs : s.heap.FunFrames base outer
  frf : ∀ b ∈ frs outer, H b = none
  hok : HOk P w H s.heap
  bare : AllBare s.gens
def CE (outer : List Env) (P : Program) (w : World) (H : Hp) (s : Shared) (Q : VK) (u : Value) (s' : Shared) : Prop :=
  ∃ v H', s'.os = s.os ∧ AllBare s'.gens ∧ Un (frs outer) [] H H' s.heap s'.heap ∧ HOk P w H' s'.heap ∧ RelV v u ∧ Q v H'
def CR (CX : CXT) (outer : List Env) (P : Program) (w : World) (H : Hp) (s : Shared) (Q : VK) (E : XK) (r : Result) (s' : Shared) : Prop :=
  match r with
  | .ok (.ret u) => CE outer P w H s Q u s'
  | .ok _ => False
  | .error e => CX outer H s E e s'
structure FnOk (P : Program) (w : World) (K : PySem.W.Frag) (mg : Str → Option Value) (base : Heap) (CX : CXT) (k : Nat) (f : Addr) (fd : FuncData) (ps : List Str) (sp : Sp) : Prop where
  len : ∀ vs H Q E, sp vs H Q E → vs.length = ps.length
  run : ∀ (A : Around) (outer : List Env) (s : Shared) (H : Hp) (args : Args) (us : List Value) (vs : List V) (Q : VK) (E : XK), Room k A → Env0 P w K mg base A outer s H → BindsTo s fd args (ps.zip us) → Vals vs us → sp vs H Q E →
    codeAny (model P w) A (.call (.ref f) args) (CR CX outer P w H s Q E) s
theorem FnOk.mono {P : Program} {w : World} {K : PySem.W.Frag} {mg : Str → Option Value} {base : Heap} {CX : CXT} {j k : Nat} {f : Addr} {fd : FuncData} {ps : List Str} {sp : Sp} (F : FnOk P w K mg base CX j f fd ps sp) (h : j ≤ k) :
    FnOk P w K mg base CX k f fd ps sp := ⟨F.len, fun A outer s H args us vs Q E hr => F.run A outer s H args us vs Q E (hr.mono h)⟩
theorem Env0.make {P : Program} {w : World} {K : PySem.W.Frag} {mg : Str → Option Value} {base : Heap} {A : Around} {outer : List Env} {s : Shared} {H : Hp} (e : Env0 P w K mg base A outer s H) (C : Addr) (us : List Value) (kw : List (Str × Value)) :
    Env0 P w K mg base (A.under (.builtin "type.__call__" ⟨.ref C :: us, kw⟩)) outer s H := ⟨by first | exact e.frames | (simpa [Around.under, Code.envs, Code.isFrame, pushEnvs] using e.frames), e.mod, e.bs, e.bsz, e.funs, e.frf, e.hok, e.bare⟩
section
variable {X : Cx} {pins : List (Addr × Obj)} {σ : St} {H : Hp} {s s' : Shared}
theorem Inv.env0 (I : Inv X pins σ H s) : Env0 X.prog X.w X.K X.mg X.base X.A X.stack s H :=
  ⟨I.ok.frames, I.ok.mod, I.bs, Nat.le_trans I.ok.bsz I.sz, I.stack, I.stkFree, I.hok, I.bare⟩
theorem Inv.after {Q : VK} {u : Value} (I : Inv X pins σ H s) (h : CE X.stack X.prog X.w H s Q u s') : EP X pins σ Q u s' := by
  obtain ⟨v, H', os, bare, un, hok, r, q⟩ := h
  obtain ⟨hh, g, d, t, os'⟩ := s'
  obtain rfl : os' = s.os := os
  exact ⟨v, H', I.call (h' := hh) (g' := g) (d' := d) (t' := t) (ch := []) un hok bare (fun b z => absurd z (by simp)), r, q⟩
end
def tCall (sp : Sp) (dvs : List V) (E : XK) (t : TA) : TE := fun σ H Q => t σ H fun vs H1 => sp (vs ++ dvs) H1 Q E
def tMeth (C : Addr) (m : Str) (sp : Sp) (dvs : List V) (E : XK) (ta : TE) (t : TA) : TE := fun σ H Q => ta σ H fun x H1 => ∃ a dx fs, x = .ref a ∧ H1 a = some (.ins C dx fs) ∧ fs.lookup m = none ∧
  t σ H1 fun vs H2 => sp (x :: (vs ++ dvs)) H2 Q E
def tMake (C : Addr) (sp : Sp) (dvs : List V) (E : XK) (t : TA) : TE := fun σ H Q => t σ H fun vs H1 => ∀ x dx, H1 x = none → H1 dx = none → dx ≠ x →
  sp (.ref x :: (vs ++ dvs)) (upd (upd H1 dx (.own x)) x (.ins C dx [])) (fun v H2 => v = .non ∧ Q (.ref x) H2) E
def Binds (K : PySem.W.Frag) (fd : FuncData) (ps : List Str) (ds : List Value) : Prop :=
  ∀ (s : Shared) (us : List Value), K.In s.heap → (us ++ ds).length = ps.length → BindsTo s fd ⟨us, []⟩ (ps.zip (us ++ ds))
theorem Binds.all {K : PySem.W.Frag} {fd : FuncData} {ps : List Str} (h : ∀ us : List Value, us.length = ps.length → bindArgs fd ⟨us, []⟩ = pure (ps.zip us)) : Binds K fd ps [] := fun s us _ hl => by
  rw [List.append_nil] at hl ⊢
  exact .of_eq (h us hl)
def Passes (CX : CXT) (X : Cx) (E : XK) : Prop := ∀ (pins : List (Addr × Obj)) (σ : St) (H : Hp) (s : Shared) (e : Value) (s' : Shared), Inv X pins σ H s → CX X.stack H s E e s' → X.xe e s'
section
variable {X : Cx} {CX : CXT} {k : Nat} {f C : Addr} {fd : FuncData} {ps : List Str} {sp : Sp} {dvs : List V} {ds : List Value} {E : XK} {x m : Str} {p pos apos : Pos} {e o : Expr} {es : List Expr} {ta : TE} {t : TA}
theorem run_fn {pins : List (Addr × Obj)} {σ : St} {H : Hp} {s : Shared} {Q : VK} {us : List Value} {vs : List V} (F : FnOk X.prog X.w X.K X.mg X.base CX k f fd ps sp) (hr : Room k X.A) (hb : Binds X.K fd ps ds) (hd : Vals dvs ds) (hx : Passes CX X E)
    (I : Inv X pins σ H s) (r : Vals vs us) (h : sp (vs ++ dvs) H Q E) : wpAny (model X.prog X.w) X.A (call (.ref f) us) (EP X pins σ Q) X.xe s := by
  have r2 : Vals (vs ++ dvs) (us ++ ds) := r.append hd
  have hl : (us ++ ds).length = ps.length := by rw [← r2.length]; exact F.len _ _ _ _ h
  refine wpAny_call (codeAny_mono (F.run X.A X.stack s H ⟨us, []⟩ (us ++ ds) (vs ++ dvs) Q E hr I.env0 (hb s us I.kIn hl) r2 h) fun r s' hq => ?_)
  cases r with
  | error e => exact hx pins σ H s e s' I hq
  | ok fl =>
    cases fl with
    | ret u => exact I.after hq
    | next => exact False.elim hq
    | brk => exact False.elim hq
    | cont => exact False.elim hq
theorem pe_call (F : FnOk X.prog X.w X.K X.mg X.base CX k f fd ps sp) (hr : Room k X.A) (hg : Gl X x) (hm : X.mg x = some (.ref f)) (hk : PySem.W.keepIn X.K (.ref f) = true) (hb : Binds X.K fd ps ds) (hd : Vals dvs ds) (hx : Passes CX X E)
    (ha : PA X (e :: es) t) (hdb : (x == ("__debug__" : Str)) = false := by decide) (he : starEach (e :: es) X.env = (false, eval e X.env) :: starEach es X.env := by rfl) (hpl : (backTo pos (starEach es X.env)).any (·.1) = false := by rfl) :
    PE X (.Call (.Name x p) (e :: es) [] pos) (tCall sp dvs E t) := by
  intro pins s σ H Q I h
  refine wpAny_Call_Name_kw (ld_glob I hg hm ?_ hdb)
  refine PySem.W.callWith_K (h₀ := X.base) I.ok.mod.kin hk (thn (ha pos pins s σ H _ I h) fun us s1 ⟨vs, H1, I1, r, q⟩ => ⟨I1.kIn, ?_⟩) he hpl
  exact run_fn F hr hb hd hx I1 r q
theorem pe_meth {pl : Sem Bool} (he : PE X o ta) (c : Cls X.K C) (hm : Meth X.K C m f) (F : FnOk X.prog X.w X.K X.mg X.base CX k f fd ps sp) (hr : Room k X.A) (hb : Binds X.K fd ps ds) (hd : Vals dvs ds) (hx : Passes CX X E) (ha : PA X (e :: es) t)
    (hst : starEach (e :: es) X.env = (false, eval e X.env) :: starEach es X.env := by rfl) (hpl : (backTo pos (starEach es X.env)).any (·.1) = false := by rfl)
    (ht : eval (.Call (.Attribute o m apos) (e :: es) [] pos) X.env = (do
      let ov ← eval o X.env
      standAt apos.atName
      let (f, first) ← holding [ov] (getMethod ov m pl)
      callWith pos f first (backTo pos (starEach (e :: es) X.env)) (backToKw pos (keywordEach [] X.env))) := by rfl) :
    PE X (.Call (.Attribute o m apos) (e :: es) [] pos) (tMeth C m sp dvs E ta t) := by
  intro pins s σ H Q I h
  refine PySem.W.methodCall_KW (pl := pl) (thn (he pins s σ H _ I h) fun u s1 ⟨x, H1, I1, rx, a, dx, fs, ex, ea, l, q⟩ => ?_) ht
  subst ex
  obtain rfl : u = Value.ref a := rx
  refine getmeth_ok I1 ea c hm l ?_
  refine PySem.W.callWith_K (first := [.ref a]) (h₀ := X.base) I.ok.mod.kin hm.kp (thn (ha pos pins s1 σ H1 _ I1 q) fun us s2 ⟨vs, H2, I2, r, q2⟩ => ⟨I2.kIn, ?_⟩) hst hpl
  exact run_fn (us := .ref a :: us) (vs := .ref a :: vs) F hr hb hd hx I2 (.cons rfl r) q2
theorem pe_meth0 {pl : Sem Bool} (he : PE X o ta) (c : Cls X.K C) (hm : Meth X.K C m f) (F : FnOk X.prog X.w X.K X.mg X.base CX k f fd ps sp) (hr : Room k X.A) (hb : Binds X.K fd ps ds) (hd : Vals dvs ds) (hx : Passes CX X E)
    (ht : eval (.Call (.Attribute o m apos) [] [] pos) X.env = (do
      let ov ← eval o X.env
      standAt apos.atName
      let (f, first) ← holding [ov] (getMethod ov m pl)
      callWith pos f first (backTo pos (starEach [] X.env)) (backToKw pos (keywordEach [] X.env))) := by rfl) :
    PE X (.Call (.Attribute o m apos) [] [] pos) (tMeth C m sp dvs E ta tNil) := by
  intro pins s σ H Q I h
  refine PySem.W.methodCall_KW (pl := pl) (thn (he pins s σ H _ I h) fun u s1 ⟨x, H1, I1, rx, a, dx, fs, ex, ea, l, q⟩ => ?_) ht
  subst ex
  obtain rfl : u = Value.ref a := rx
  refine getmeth_ok I1 ea c hm l ?_
  exact PySem.W.callWith_K0 (first := [.ref a]) I1.kIn hm.kp (run_fn (us := [.ref a]) (vs := [.ref a]) F hr hb hd hx I1 (.cons rfl .nil) q)
structure Mk (K : PySem.W.Frag) (C f : Addr) : Prop where
  makes : PySem.W.makesIn K C = true
  init : PySem.W.findIn K (.ref C) "__init__" = some (some (.ref f))
  fn : PySem.W.isFn K (.ref f) = true
  kp : PySem.W.keepIn K (.ref C) = true
theorem run_make {pins : List (Addr × Obj)} {σ : St} {H : Hp} {s : Shared} {Q : VK} {us : List Value} {vs : List V} (M : Mk X.K C f) (F : FnOk X.prog X.w X.K X.mg X.base CX k f fd ps sp) (hr : Room (k + 1) X.A) (hb : Binds X.K fd ps ds) (hd : Vals dvs ds)
    (hx : Passes CX X E) (I : Inv X pins σ H s) (r : Vals vs us)
    (h : ∀ x dx, H x = none → H dx = none → dx ≠ x → sp (.ref x :: (vs ++ dvs)) (upd (upd H dx (.own x)) x (.ins C dx [])) (fun v H2 => v = .non ∧ Q (.ref x) H2) E) :
    wpAny (model X.prog X.w) X.A (call (.ref C) us) (EP X pins σ Q) X.xe s := by
  have hq := h (s.heap.objs.size + 1) s.heap.objs.size (I.hok.fresh (Nat.le_succ _)) (I.hok.fresh (Nat.le_refl _)) (Nat.ne_of_lt (Nat.lt_succ_self _))
  have I2 := Inv.made (C := C) I
  have r2 : Vals (V.ref (s.heap.objs.size + 1) :: (vs ++ dvs)) (Value.ref (s.heap.objs.size + 1) :: (us ++ ds)) := .cons rfl (r.append hd)
  have hl : (Value.ref (s.heap.objs.size + 1) :: us ++ ds).length = ps.length := by
    have e := r2.length
    rw [F.len _ _ _ _ hq] at e
    exact e.symm
  refine wpAny_call (make_map (f := f) I.kIn M.makes M.init (beq_iff_eq.mp M.fn) (codeAny_mono (F.run _ X.stack _ _ ⟨Value.ref (s.heap.objs.size + 1) :: us, []⟩ (Value.ref (s.heap.objs.size + 1) :: (us ++ ds)) _ _ E (hr.make C us [])
    (I2.env0.make C us []) (hb _ (Value.ref (s.heap.objs.size + 1) :: us) I2.kIn hl) r2 hq) fun r s' hq' => ?_))
  cases r with
  | error e => exact hx pins σ _ _ e s' I2 hq'
  | ok fl =>
    cases fl with
    | ret u =>
      obtain ⟨v, H', I3, rv, ev, q3⟩ := I2.after hq'
      subst ev
      exact ⟨rv, ⟨V.ref (s.heap.objs.size + 1), H', I3, rfl, q3⟩⟩
    | next => exact False.elim hq'
    | brk => exact False.elim hq'
    | cont => exact False.elim hq'
theorem pe_make (M : Mk X.K C f) (F : FnOk X.prog X.w X.K X.mg X.base CX k f fd ps sp) (hr : Room (k + 1) X.A) (hg : Gl X x) (hm : X.mg x = some (.ref C)) (hb : Binds X.K fd ps ds) (hd : Vals dvs ds) (hx : Passes CX X E)
    (ha : PA X (e :: es) t) (hdb : (x == ("__debug__" : Str)) = false := by decide) (he : starEach (e :: es) X.env = (false, eval e X.env) :: starEach es X.env := by rfl) (hpl : (backTo pos (starEach es X.env)).any (·.1) = false := by rfl) :
    PE X (.Call (.Name x p) (e :: es) [] pos) (tMake C sp dvs E t) := by
  intro pins s σ H Q I h
  refine wpAny_Call_Name_kw (ld_glob I hg hm ?_ hdb)
  refine PySem.W.callWith_K (h₀ := X.base) I.ok.mod.kin M.kp (thn (ha pos pins s σ H _ I h) fun us s1 ⟨vs, H1, I1, r, q⟩ => ⟨I1.kIn, ?_⟩) he hpl
  exact run_make M F hr hb hd hx I1 r q
end
section
variable {X : Cx} {CX : CXT} {k : Nat} {f C : Addr} {fd : FuncData} {ps ks : List Str} {sp : Sp} {E : XK} {x m : Str} {p pos apos kpos : Pos} {e o : Expr} {es : List Expr} {kws : List Keyword} {te ta : TE} {t tk : TA} {nm : Option Str}
variable {g : List Value → List Value → List Value} {gV : List V → List V → List V}
end
structure FnScope (N P : List Str) (sc : Scope) : Prop where
  kind : sc.kind = .function
  co : sc.isCoroutine = false
  gen : sc.isGenerator = false
  nd : N.Nodup
  pre : N.take P.length = P
  par : ∀ x ∈ P, sc.names.lookup x = some .local ∨ sc.names.lookup x = some .cell
  nofree : ∀ y ∈ sc.names, y.2 ≠ .free
theorem bindL_out {kindOf : Str → Option NameKind} {x : Str} : ∀ {binds : List (Str × Value)} {m : Str → Option Value}, (∀ v, (x, v) ∉ binds) → bindL kindOf binds m x = m x
  | [], _, _ => rfl
  | (n, v) :: r, m, h => by
    unfold bindL
    rw [bindL_out fun w hw => h w (List.mem_cons_of_mem _ hw)]
    split
    · have : x ≠ n := by rintro rfl; exact h v List.mem_cons_self
      simp [this]
    · rfl
theorem bindC_out {kindOf : Str → Option NameKind} {x : Str} : ∀ {binds : List (Str × Value)} {m : Str → Option Value}, (∀ v, (x, v) ∉ binds) → bindC kindOf binds m x = m x
  | [], _, _ => rfl
  | (n, v) :: r, m, h => by
    unfold bindC
    rw [bindC_out fun w hw => h w (List.mem_cons_of_mem _ hw)]
    split
    · rfl
    · have : x ≠ n := by rintro rfl; exact h v List.mem_cons_self
      simp [this]
theorem bindL_get {kindOf : Str → Option NameKind} {x : Str} {v : Value} : ∀ {P : List Str} {vs : List Value} {i : Nat} {m : Str → Option Value}, P.Nodup → P[i]? = some x → vs[i]? = some v → kindOf x = some .local →
    bindL kindOf (P.zip vs) m x = some v
  | [], _, _, _, _, h, _, _ => by simp at h
  | _ :: _, [], _, _, _, _, h, _ => by simp at h
  | p :: P, w :: vs, 0, m, nd, h1, h2, hk => by
    simp at h1 h2; subst h1; subst h2
    show bindL kindOf ((p, w) :: P.zip vs) m p = _
    unfold bindL
    rw [bindL_out fun v hv => (List.nodup_cons.mp nd).1 (List.of_mem_zip hv).1, if_pos hk]
    simp
  | p :: P, w :: vs, i + 1, m, nd, h1, h2, hk => by
    show bindL kindOf ((p, w) :: P.zip vs) m x = _
    unfold bindL
    exact bindL_get (i := i) (List.nodup_cons.mp nd).2 (by simpa using h1) (by simpa using h2) hk
theorem bindC_get {kindOf : Str → Option NameKind} {x : Str} {v : Value} : ∀ {P : List Str} {vs : List Value} {i : Nat} {m : Str → Option Value}, P.Nodup → P[i]? = some x → vs[i]? = some v → kindOf x ≠ some .local →
    bindC kindOf (P.zip vs) m x = some v
  | [], _, _, _, _, h, _, _ => by simp at h
  | _ :: _, [], _, _, _, _, h, _ => by simp at h
  | p :: P, w :: vs, 0, m, nd, h1, h2, hk => by
    simp at h1 h2; subst h1; subst h2
    show bindC kindOf ((p, w) :: P.zip vs) m p = _
    unfold bindC
    rw [bindC_out fun v hv => (List.nodup_cons.mp nd).1 (List.of_mem_zip hv).1, if_neg hk]
    simp
  | p :: P, w :: vs, i + 1, m, nd, h1, h2, hk => by
    show bindC kindOf ((p, w) :: P.zip vs) m x = _
    unfold bindC
    exact bindC_get (i := i) (List.nodup_cons.mp nd).2 (by simpa using h1) (by simpa using h2) hk
def start (N : List Str) (vs : List V) : St := vs.map some ++ List.replicate (N.length - vs.length) none
def cxOf (CX : CXT) (P : Program) (w : World) (K : PySem.W.Frag) (mg : Str → Option Value) (base : Heap) (N : List Str) (qual : Str) (scope : Scope) (f : Addr) (cd : Value) (A : Around) (outer : List Env) (s : Shared) (H : Hp) (E : XK) : Cx where
  prog := P
  w := w
  K := K
  mg := mg
  base := base
  A := A.deeper (envOfC qual scope s.heap.objs.size f cd)
  N := N
  s₀ := s
  H₀ := H
  env := envOfC qual scope s.heap.objs.size f cd
  outer := outer
  stack := envOfC qual scope s.heap.objs.size f cd :: outer
  ex := []
  calm := true
  fn := fun _ => true
  pn := []
  xe := fun e s' => wpAny (model P w) (A.deeper (envOfC qual scope s.heap.objs.size f cd)) (leaving (envOfC qual scope s.heap.objs.size f cd) e) (fun _ s'' => CX outer H s E e s'') (fun e' s'' => CX outer H s E e' s'') s'
theorem cell_has {sc : Scope} {n : Nat} {x : Str} (h : sc.names.lookup x = some .cell) : ∃ c, (cellsFrom n sc.names []).lookup x = some c := by
  have q := PySem.W.cellsFrom_some sc.names n [] (.inl h)
  exact Option.isSome_iff_exists.mp q
theorem inv_start {CX : CXT} {P : Program} {w : World} {K : PySem.W.Frag} {mg : Str → Option Value} {base : Heap} {N ps : List Str} {qual : Str} {scope : Scope} {f : Addr} {cd : Value} {A : Around} {outer : List Env} {s s1 : Shared} {H : Hp} {E : XK} {us : List Value} {vs : List V}
    (S : FnScope N ps scope) (hd : A.handled = none) (e0 : Env0 P w K mg base A outer s H) (hl : vs.length = ps.length) (r : Vals vs us)
    (x : InCallC s s.heap.objs.size (bindL (envOfC qual scope s.heap.objs.size f cd).kindOf (ps.zip us) fun _ => none) (cellsFrom (s.heap.objs.size + 1) scope.names []) (bindC (envOfC qual scope s.heap.objs.size f cd).kindOf (ps.zip us) fun _ => none) s1) :
    Inv (cxOf CX P w K mg base N qual scope f cd A outer s H E) [] (start N vs) H s1 := by
  have hpl : ps.length ≤ N.length := by have := congrArg List.length S.pre; rw [List.length_take] at this; omega
  obtain ⟨h1, tk, rfl, hk⟩ := x.done
  have noA : ∀ b : Addr, b ∉ (cxOf CX P w K mg base N qual scope f cd A outer s H E).ex := fun b z => absurd (show b ∈ ([] : List Addr) from z) (by simp)
  refine ⟨⟨e0.mod, S.kind, rfl, rfl, Nat.le_refl _, fun y z c h1 h2 => ?_, fun y hy => ?_, fun y c _ h => ?_, fun _ => hd, Around.frames_deeper e0.frames, .inr ⟨rfl, rfl⟩, fun b z => absurd z (noA b), e0.bs, e0.bsz, fun b _ _ => noA b, fun b z => absurd z (noA b), e0.funs, e0.frf⟩,
    rfl, e0.bare, Un.kept hk, ⟨_, x.toInCall.ns, fun i y v h1 h2 h3 => ?_⟩, fun y c h => ⟨_, x.cell y c h⟩, e0.hok.fresh (Nat.le_refl _), fun y c h => ?_, fun p hp => absurd (show p ∈ ([] : List (Addr × Obj)) from hp) (by simp), e0.hok.kept hk, ?_⟩
  · exact name_of_addr x.apart (PySem.mem_of_lookup h1) (PySem.mem_of_lookup h2)
  · have hy : scope.names.lookup y = some .cell ∨ scope.names.lookup y = some .free := hy
    rcases hy with hy | hy
    · exact cell_has hy
    · exact absurd rfl (S.nofree _ (PySem.mem_of_lookup hy))
  · exact Nat.le_of_lt (x.above y c (PySem.mem_of_lookup h))
  · have hi : i < vs.length := by
      unfold start at h2
      by_cases hi : i < vs.length
      · exact hi
      · rw [List.getElem?_append_right (by simpa using hi)] at h2
        rw [List.getElem?_replicate] at h2
        split at h2 <;> cases h2
    have ha : vs[i]? = some v := by
      unfold start at h2
      rw [List.getElem?_append_left (by simpa using hi), List.getElem?_map] at h2
      cases e : vs[i]? with
      | none => rw [e] at h2; cases h2
      | some a => rw [e] at h2; cases h2; rfl
    obtain ⟨u, hu, rv⟩ := r.get ha
    have hp : ps[i]? = some y := by
      rw [← S.pre, List.getElem?_take_of_lt (by omega)]; exact h1
    have ndP : ps.Nodup := by rw [← S.pre]; exact S.nd.sublist (List.take_sublist _ _)
    refine ⟨u, rv, ?_⟩
    rcases S.par y (List.mem_of_getElem? hp) with k | k
    · exact .inl ⟨k, bindL_get ndP hp hu k⟩
    · obtain ⟨c, e⟩ := cell_has (n := s.heap.objs.size + 1) k
      refine .inr ⟨.inl k, c, e, ?_⟩
      have q := x.cell y c e
      rw [bindC_get ndP hp hu (by show scope.names.lookup y ≠ _; rw [k]; decide)] at q
      exact q
  · exact e0.hok.fresh (Nat.le_of_lt (x.above y c (PySem.mem_of_lookup h)))
  · unfold start
    show _ = N.length
    rw [List.length_append, List.length_map, List.length_replicate]
    omega
theorem fn_of {CX : CXT} {P : Program} {w : World} {K : PySem.W.Frag} {mg : Str → Option Value} {base : Heap} {k : Nat} {f : Addr} {name qual : Str} {params : Arguments} {body : List Stmt} {scope : Scope} {dV kV doc pm cdv ct oc : Value} {an od : Option Addr}
    {osl : Array (Option Value)} {N ps : List Str} {sp : Sp} (lk : K.lookup f = some ⟨oc, od, .func (PySem.W.fnOf name qual params body scope dV kV doc pm an cdv ct), osl⟩) (hcd : PySem.W.codeIn K cdv qual = true) (S : FnScope N ps scope)
    (len : ∀ vs H Q E, sp vs H Q E → vs.length = ps.length)
    (hbody : ∀ (A : Around) (outer : List Env) (s : Shared) (H : Hp) (vs : List V) (Q : VK) (E : XK), Room k (A.deeper (envOfC qual scope s.heap.objs.size f cdv)) → sp vs H Q E →
      ∃ t, PSs (cxOf CX P w K mg base N qual scope f cdv A outer s H E) body t ∧ t { nx := fun _ H' => Q .non H', rt := Q } (start N vs) H) :
    FnOk P w K mg base CX (k + 1) f (PySem.W.fnOf name qual params body scope dV kV doc pm an cdv ct) ps sp := by
  refine ⟨len, fun A outer s H args us vs Q E hr e0 hb r hsp => ?_⟩
  have hl := len _ _ _ _ hsp
  have KX : K.In s.heap := e0.mod.kin.keeps fun b o e => (e0.bs b o e).1
  have lim : s.heap.NoLimit := e0.mod.nolimit.keeps fun b o e => (e0.bs b o e).1
  have hkind : ∀ y ∈ ps.zip us, scope.names.lookup y.1 = some .local ∨ (scope.names.lookup y.1 = some .cell ∧ ((cellsFrom (s.heap.objs.size + 1) scope.names []).lookup y.1).isSome = true) := fun ⟨n, v⟩ hy => by
    rcases S.par n (List.of_mem_zip hy).1 with q | q
    · exact .inl q
    · exact .inr ⟨q, PySem.W.cellsFrom_some _ _ _ (.inl q)⟩
  refine codeAny_call_function hr.depth (KX _ _ lk) rfl S.co S.gen rfl (PySem.W.codeRec_of KX hcd) (hb _ _ _ _ ?_)
  refine wpAny_newFunctionEnv_cells S.kind hkind fun env he s1 x => ?_
  subst he
  refine ⟨lim.keeps x.toInCall.keep, codeAny_func ?_⟩
  obtain ⟨t, ht, hq⟩ := hbody A outer s H vs Q E (hr.deeper _) hsp
  have I : Inv (cxOf CX P w K mg base N qual scope f cdv A outer s H E) [] (start N vs) H s1 := inv_start S hr.hd e0 hl r x
  refine wpAny_mono (ht [] s1 (start N vs) H _ I hq) (fun fl s' hs => ?_) fun e s' hs => hs
  have fin : ∀ {σ' : St} {H' : Hp} {v : V} {u : Value}, Inv (cxOf CX P w K mg base N qual scope f cdv A outer s H E) [] σ' H' s' → RelV v u → Q v H' → CE outer P w H s Q u s' :=
    fun {σ' H' v u} J rv q => ⟨v, H', J.os, J.bare, J.base, J.hok, rv, q⟩
  cases fl with
  | ret u =>
    obtain ⟨v, σ', H', J, rv, q⟩ := hs
    exact fin J rv q
  | next =>
    obtain ⟨σ', H', J, q⟩ := hs
    exact fin (v := V.non) (u := Value.none) J rfl q
  | brk =>
    obtain ⟨_, _, _, q⟩ := hs
    exact False.elim q
  | cont =>
    obtain ⟨_, _, _, q⟩ := hs
    exact False.elim q
end L2
namespace L2
open PySem PySem.Spec PyProof.Rows
section
variable {X : Cx} {x : Str} {p pos : Pos} {e : Expr} {es : List Expr} {t : TA} {id T : String} {r : List V → Hp → VK → Prop}
def tCB (r : List V → Hp → VK → Prop) (t : TA) : TE := fun σ H Q => t σ H fun vs H1 => r vs H1 Q
theorem pe_callB (hc : CallR X (.builtin id) r) (hg : Gl X x) (hm : X.mg x = none) (hv : bootBuiltins x = some (.builtin id)) (ha : PA X (e :: es) t) (hn : x ≠ "__name__" := by decide) (hdb : (x == ("__debug__" : Str)) = false := by decide)
    (he : starEach (e :: es) X.env = (false, eval e X.env) :: starEach es X.env := by rfl) (hpl : (backTo pos (starEach es X.env)).any (·.1) = false := by rfl) : PE X (.Call (.Name x p) (e :: es) [] pos) (tCB r t) := by
  intro pins s σ H Q I h
  refine wpAny_Call_Name_kw (ld_blt I hg hm hv ?_ hn hdb)
  exact PyProof.Rows.callWith_builtin1 (thn (ha pos pins s σ H _ I h) fun us s1 ⟨vs, H1, I1, r1, q1⟩ => hc pins s1 σ H1 vs us Q I1 r1 q1) he hpl
theorem pe_callTy (hc : CallR X (.type T) r) (hg : Gl X x) (hm : X.mg x = none) (hv : bootBuiltins x = some (.type T)) (ha : PA X (e :: es) t) (hn : x ≠ "__name__" := by decide) (hdb : (x == ("__debug__" : Str)) = false := by decide)
    (he : starEach (e :: es) X.env = (false, eval e X.env) :: starEach es X.env := by rfl) (hpl : (backTo pos (starEach es X.env)).any (·.1) = false := by rfl) : PE X (.Call (.Name x p) (e :: es) [] pos) (tCB r t) := by
  intro pins s σ H Q I h
  refine wpAny_Call_Name_kw (ld_blt I hg hm hv ?_ hn hdb)
  exact PyProof.Rows.callWith_type1 (thn (ha pos pins s σ H _ I h) fun us s1 ⟨vs, H1, I1, r1, q1⟩ => hc pins s1 σ H1 vs us Q I1 r1 q1) he hpl
end
end L2
namespace HT
open PySem PyProof.Rows
section
open PySem.SeqAt
open PySem.AutoSeq1 (wpAny_loadPart')
open PySem.MeetsSeq PySem.MeetsSeq2 PySem.MeetsSeq3
end
section
variable {prog : Program} {w : World} {A : Around} {E : Value → Shared → Prop} {s : Shared}
theorem cat_tup {t b : Addr} {vs ws : List Value} {Q : Value → Shared → Prop} (ht : IsTup s.heap t vs.toArray) (hb : IsTup s.heap b ws.toArray) (hv : vs ≠ [])
    (h1 : ws = [] → Q (.ref t) s) (h2 : ws ≠ [] → Q (.ref s.heap.objs.size) { s with heap := s.heap.push { cls := .type "tuple", data := .seq (vs ++ ws).toArray } })
    (hsz : vs.length + ws.length ≤ sizeLine) : wpAny (model prog w) A (binaryOp .Add (.ref t) (.ref b)) Q E s := by
  obtain ⟨⟨cls, dd, data, sl⟩, ho, hc, n, hd⟩ := id ht
  obtain ⟨⟨cls2, dd2, data2, sl2⟩, ho2, hc2, n2, hd2⟩ := id hb
  simp only at hc hd hc2 hd2
  subst hc hd hc2 hd2
  have e : vs.toArray ++ ws.toArray = (vs ++ ws).toArray := by simp
  by_cases hw : ws = []
  · exact concat_meets ⟨_, ho, rfl⟩ ⟨_, ho2, rfl⟩ noFill_tuple_add seq_tuple_add PySem.F.slot_tuple_add PySem.F.entry_tuple_add (PySem.F.args_tuple_add_2 _ _)
      (tuple_addW1 t b vs.toArray ws.toArray n n2 dd dd2 sl sl2 (by simpa using hv) (by simp [hw])) ⟨ho, ho2, h1 hw⟩
  · refine concat_meets ⟨_, ho, rfl⟩ ⟨_, ho2, rfl⟩ noFill_tuple_add seq_tuple_add PySem.F.slot_tuple_add PySem.F.entry_tuple_add (PySem.F.args_tuple_add_2 _ _)
      (tuple_addW2 t b vs.toArray ws.toArray n n2 dd dd2 sl sl2 (by simpa using hv) (by simpa using hw) (by rw [List.size_toArray, List.size_toArray]; exact hsz)) ⟨ho, ho2, ?_⟩
    rw [e]
    exact h2 hw
def sIx (n d : Nat) : Option Int → Nat
  | none => d
  | some v => if v < 0 then (v + (n : Int)).toNat else min v.toNat n
theorem sIx_none (n d : Nat) : sIx n d none = d := rfl
theorem sIx_nat (n d k : Nat) : sIx n d (some (k : Int)) = min k n := by
  show (if (k : Int) < 0 then ((k : Int) + (n : Int)).toNat else min (k : Int).toNat n) = min k n
  rw [if_neg (by omega), Int.toNat_natCast]
theorem sIx_le (n d : Nat) (hd : d ≤ n) (o : Option Int) : sIx n d o ≤ n := by
  cases o with
  | none => exact hd
  | some v =>
    show (if v < 0 then (v + (n : Int)).toNat else min v.toNat n) ≤ n
    by_cases hv : v < 0
    · rw [if_pos hv]; omega
    · rw [if_neg hv]; exact Nat.min_le_right _ _
end
end HT
namespace L2
open PySem PySem.Spec PyProof.Rows
abbrev TO := St → Hp → (Option Int → Hp → Prop) → Prop
def PO (X : Cx) (e : Option Expr) (t : TO) : Prop :=
  ∀ (pins : List (Addr × Obj)) (s : Shared) (σ : St) (H : Hp) (Q : Option Int → Hp → Prop), Inv X pins σ H s → t σ H Q →
    wpAny (model X.prog X.w) X.A (evalPart e X.env) (fun u s' => ∃ o H', Inv X pins σ H' s' ∧ IsPart u o ∧ Q o H') X.xe s
def tNoPart : TO := fun _ H Q => Q none H
def tPart (t : TE) : TO := fun σ H Q => t σ H fun x H1 => ∃ i, x = .int i ∧ Q (some i) H1
theorem intsAre_of {ns : List Int} : ∀ {us : List Value}, Vals (ns.map V.int) us → IntsAre us ns := by
  induction ns with
  | nil => intro us r; rw [List.map_nil] at r; cases r; exact .nil
  | cons n ns ih =>
    intro us r
    rw [List.map_cons] at r
    cases r with
    | cons r1 r2 =>
      obtain ⟨t, e⟩ := r1
      subst e
      exact .cons n t (ih r2)
section
variable {X : Cx} {e : Expr} {te : TE} {lo hi : Option Expr} {tl th : TO} {pos p2 : Pos}
theorem po_none : PO X none tNoPart := by
  intro pins s σ H Q I h
  rw [evalPart_none]
  exact wpAny_pure ⟨none, H, I, .none, h⟩
theorem po_some (h : PE X e te) : PO X (some e) (tPart te) := by
  intro pins s σ H Q I hw
  rw [evalPart_some]
  refine thn (h pins s σ H _ I hw) fun u s1 ⟨x, H1, I1, r1, q1⟩ => ?_
  obtain ⟨i, rfl, q⟩ := q1
  obtain ⟨t, rfl⟩ := r1
  exact ⟨some i, H1, I1, .int i t, q⟩
def SlR (X : Cx) (r : V → Option Int → Option Int → Hp → VK → Prop) : Prop :=
  ∀ (pins : List (Addr × Obj)) (s : Shared) (σ : St) (H : Hp) (x : V) (v vl vu : Value) (lo hi : Option Int) (sl : Addr) (Q : VK), Inv X pins σ H s → RelV x v → s.heap.IsSliceOf sl vl vu .none → IsPart vl lo → IsPart vu hi → r x lo hi H Q →
    ∃ T id, typeLookup (.type T) "__getitem__" = pure (some (.builtin id)) ∧ s.TypeIs v T ∧ wpAny (model X.prog X.w) X.A (getItem v (.ref sl)) (EP X pins σ Q) X.xe s
def tSl (r : V → Option Int → Option Int → Hp → VK → Prop) (te : TE) (tl th : TO) : TE := fun σ H Q => te σ H fun x H1 => tl σ H1 fun l H2 => th σ H2 fun u H3 => r x l u H3 Q
theorem pe_slice {r : V → Option Int → Option Int → Hp → VK → Prop} (hr : SlR X r) (he : PE X e te) (hl : PO X lo tl) (hu : PO X hi th) : PE X (.Subscript e (.Slice lo hi none p2) pos) (tSl r te tl th) := by
  intro pins s σ H Q I h
  refine Subscript_ (thn (he pins s σ H _ I h) fun v s1 ⟨x, H1, I1, r1, q1⟩ => ?_)
  refine wpAny_Slice (thn (hl pins s1 σ H1 _ I1 q1) fun vl s2 ⟨l, H2, I2, pl, q2⟩ => thn (hu pins s2 σ H2 _ I2 q2) fun vu s3 ⟨u, H3, I3, pu, q3⟩ => ?_)
  rw [evalPart_none]
  refine wpAny_pure ?_
  have I4 : Inv X pins σ H3 { s3 with heap := s3.heap.push { cls := .type "slice", data := .fields #[vl, vu, .none] } } := I3.kept (t' := s3.toks) fun b ob q => Heap.get?_push_of_some _ q
  obtain ⟨T, id, hT, ht, hg⟩ := hr pins { s3 with heap := s3.heap.push { cls := .type "slice", data := .fields #[vl, vu, .none] } } σ H3 x v vl vu l u s3.heap.objs.size Q I4 r1 (Heap.IsSliceOf.new ..) pl pu q3
  show wpAny (model X.prog X.w) X.A (subscriptTail e (.Slice lo hi none p2) v (.ref s3.heap.objs.size)) (EP X pins σ Q) X.xe { s3 with heap := s3.heap.push { cls := .type "slice", data := .fields #[vl, vu, .none] } }
  exact tail_any (ops := [.ref s3.heap.objs.size, v]) ht hT hg (by with_unfolding_all rfl)
def cutV (xs : List V) (lo hi : Option Int) : List V := (xs.drop (HT.sIx xs.length 0 lo)).take (HT.sIx xs.length xs.length hi - HT.sIx xs.length 0 lo)
theorem cutV_length (xs : List V) (lo hi : Option Int) : (cutV xs lo hi).length ≤ xs.length := by
  unfold cutV
  rw [List.length_take, List.length_drop]
  omega
def rCatT (K : PySem.W.Frag) : R2 := fun x y H Q => ∃ a b xs ys, x = .ref a ∧ y = .ref b ∧ SqT K H a xs ∧ SqT K H b ys ∧ xs ≠ [] ∧ xs.length + ys.length ≤ sizeLine ∧
  (ys = [] → Q (.ref a) H) ∧ (ys ≠ [] → ∀ p, H p = none → Q (.ref p) (upd H p (.tup (xs ++ ys))))
theorem Vals.nil_iff {xs : List V} {us : List Value} (r : Vals xs us) : us = [] ↔ xs = [] := by
  cases r with
  | nil => simp
  | cons _ _ => simp
theorem op_catT : OpR X (binaryOp .Add) (rCatT X.K) := by
  intro pins s σ H x y v u Q I rx ry h
  obtain ⟨a, b, xs, ys, rfl, rfl, ha, hb, hx, hz, q1, q2⟩ := h
  cases rx
  cases ry
  obtain ⟨its, r1, p1, _⟩ := I.tuple ha
  obtain ⟨its2, r2, p2, _⟩ := I.tuple hb
  refine HT.cat_tup p1 p2 (fun z => hx (r1.nil_iff.mp z)) (fun z => ⟨.ref a, H, I, rfl, q1 (r2.nil_iff.mp z)⟩) (fun z => ?_) (by rw [← r1.length, ← r2.length]; exact hz)
  refine ⟨.ref s.heap.objs.size, _, I.laid (t' := s.toks) (o := .tup (xs ++ ys)) (fun b ob q => Heap.get?_push_of_some _ q) (Nat.le_refl _) ?_, rfl, q2 (fun w => z (r2.nil_iff.mpr w)) _ (I.hok.fresh (Nat.le_refl _))⟩
  exact ⟨by rw [List.length_append]; exact hz, _, r1.append r2, IsTup.new _ _⟩
end
end L2
namespace L2
open PySem PySem.Spec PyProof.Rows
def ixN (n : Nat) (i : Int) : Option Nat := if 0 ≤ i then (if i < n then some i.toNat else none) else if -(n : Int) ≤ i then some (i + n).toNat else none
def atI {α : Type} (xs : List α) (i : Int) : Option α := (ixN xs.length i).bind fun j => xs[j]?
theorem ixN_seq {n : Nat} {i : Int} {j : Nat} (h : ixN n i = some j) : seqIndex? i n = some j ∧ j < n ∧ -(n : Int) ≤ i ∧ i < n := by
  unfold ixN at h
  by_cases h0 : 0 ≤ i
  · rw [if_pos h0] at h
    by_cases h1 : i < n
    · rw [if_pos h1] at h
      have e : i.toNat = j := Option.some.inj h
      exact ⟨by rw [seqIndex_of h0 h1, e], by omega, by omega, h1⟩
    · rw [if_neg h1] at h; cases h
  · rw [if_neg h0] at h
    by_cases h1 : -(n : Int) ≤ i
    · rw [if_pos h1] at h
      have e : (i + n).toNat = j := Option.some.inj h
      exact ⟨by rw [seqIndex_neg (by omega) h1, e], by omega, h1, by omega⟩
    · rw [if_neg h1] at h; cases h
theorem atI_get {α : Type} {xs : List α} {i : Int} {v : α} (h : atI xs i = some v) : ∃ j, seqIndex? i xs.length = some j ∧ xs[j]? = some v ∧ j < xs.length ∧ -(xs.length : Int) ≤ i ∧ i < xs.length := by
  unfold atI at h
  cases e : ixN xs.length i with
  | none => rw [e] at h; cases h
  | some j =>
    rw [e] at h
    obtain ⟨h1, h2, h3, h4⟩ := ixN_seq e
    exact ⟨j, h1, h, h2, h3, h4⟩
theorem atI_nat {α : Type} {xs : List α} {j : Nat} {v : α} (h : xs[j]? = some v) : atI xs (j : Int) = some v := by
  have hj : j < xs.length := (List.getElem?_eq_some_iff.mp h).1
  have e : ixN xs.length (j : Int) = some j := by
    unfold ixN
    rw [if_pos (by omega), if_pos (by omega)]; simp
  unfold atI; rw [e]; exact h
theorem atI_last {α : Type} (xs : List α) (v : α) : atI (xs ++ [v]) (-1) = some v := by
  have hl : (xs ++ [v]).length = xs.length + 1 := by simp
  have e : ixN (xs ++ [v]).length (-1) = some xs.length := by
    unfold ixN
    rw [hl, if_neg (by decide), if_pos (by omega)]
    congr 1
    omega
  unfold atI
  rw [e]
  show (xs ++ [v])[xs.length]? = some v
  simp
def PlainIx (b : Expr) : Prop := ∀ o i, subscripted b false o i = operate [o, i] (getItem o i)
def IxR (X : Cx) (r : R2) : Prop :=
  ∀ (value slice : Expr) (pins : List (Addr × Obj)) (s : Shared) (σ : St) (H : Hp) (x y : V) (v u : Value) (Q : VK), Inv X pins σ H s → RelV x v → RelV y u → r x y H Q →
    subscripted slice false v u = operate [v, u] (getItem v u) → wpAny (model X.prog X.w) X.A (subscriptTail value slice v u) (EP X pins σ Q) X.xe s
def MtR (X : Cx) (id : String) (r : V → List V → Hp → VK → Prop) : Prop :=
  ∀ (pins : List (Addr × Obj)) (s : Shared) (σ : St) (H : Hp) (x : V) (xs : List V) (v : Value) (us : List Value) (Q : VK), Inv X pins σ H s → RelV x v → Vals xs us → r x xs H Q →
    wpAny (model X.prog X.w) X.A (call (.builtin id) (v :: us)) (EP X pins σ Q) X.xe s
section
variable {X : Cx} {a b : Expr} {ta tb : TE} {pos : Pos}
theorem IxR.or {r r' : R2} (h : IxR X r) (h' : IxR X r') : IxR X (fun x y H Q => r x y H Q ∨ r' x y H Q) := by
  intro value slice pins s σ H x y v u Q I rx ry q hs
  rcases q with q | q
  · exact h value slice pins s σ H x y v u Q I rx ry q hs
  · exact h' value slice pins s σ H x y v u Q I rx ry q hs
theorem pe_ix {r : R2} (hr : IxR X r) (ha : PE X a ta) (hb : PE X b tb) (hs : PlainIx b) : PE X (.Subscript a b pos) (tOp r ta tb) := by
  intro pins s σ H Q I h
  exact Subscript_ (binT ha hb I h fun v u s2 x y H2 I2 rx ry q => hr a b pins s2 σ H2 x y v u Q I2 rx ry q (hs _ _))
def rIxL (K : PySem.W.Frag) : R2 := fun x y H Q => ∃ p xs i v, x = .ref p ∧ y = .int i ∧ SqL K H p xs ∧ atI xs i = some v ∧ Q v H
def rIxT (K : PySem.W.Frag) : R2 := fun x y H Q => ∃ p xs i v, x = .ref p ∧ y = .int i ∧ SqT K H p xs ∧ atI xs i = some v ∧ Q v H
def rIxS : R2 := fun x y H Q => ∃ z i c, x = .str z ∧ y = .int i ∧ z.length ≤ sizeLine ∧ atI z.cps.toList i = some c ∧ Q (.str ⟨#[c]⟩) H
theorem ix_list : IxR X (rIxL X.K) := by
  intro value slice pins s σ H x y v u Q I rx ry h hs
  obtain ⟨p, xs, i, z, rfl, rfl, hq, he, q⟩ := h
  cases rx
  obtain ⟨t, rfl⟩ := ry
  obtain ⟨its, r, pl, hz⟩ := I.list hq
  obtain ⟨j, h1, h2, h3, h4, h5⟩ := atI_get he
  obtain ⟨w, ew, rw'⟩ := r.get h2
  have hl := r.length
  have hn := line63
  have fin : EP X pins σ Q w s := ⟨z, H, I, rw', q⟩
  by_cases h0 : 0 ≤ i
  · have hj : i.toNat = j := by
      rw [seqIndex_of h0 h5] at h1
      exact Option.some.inj h1
    exact item_listR pl.isList h0 (by omega) (by rw [hj]; simpa using ew) fin hs
  · have hj : (i + (its.toArray.size : Int)).toNat = j := by
      rw [seqIndex_neg (by omega) h4] at h1
      rw [List.size_toArray, ← hl]
      exact Option.some.inj h1
    exact subscriptTail_builtinR (x := w) pl.isList.typeIs slot_list_getitem.lookup
      (wpAny_getItem_list_neg (Q := fun r s' => r = w ∧ EP X pins σ Q r s') pl.isList (by omega) (by rw [List.size_toArray] <;> omega) (by omega) (by rw [hj]; simpa using ew) ⟨rfl, fin⟩) hs
theorem ix_tup : IxR X (rIxT X.K) := by
  intro value slice pins s σ H x y v u Q I rx ry h hs
  obtain ⟨p, xs, i, z, rfl, rfl, hq, he, q⟩ := h
  cases rx
  obtain ⟨t, rfl⟩ := ry
  obtain ⟨its, r, pl, hz⟩ := I.tuple hq
  obtain ⟨j, h1, h2, h3, h4, h5⟩ := atI_get he
  obtain ⟨w, ew, rw'⟩ := r.get h2
  have hl := r.length
  have hn := line63
  have fin : EP X pins σ Q w s := ⟨z, H, I, rw', q⟩
  exact subscriptTail_builtinR (x := w) pl.typeIs slot_tuple_getitem.lookup
    (getItem_tuple (j := j) (Q := fun r s' => r = w ∧ EP X pins σ Q r s') pl (by omega) (by omega) (by rw [List.size_toArray, ← hl]; exact h1) (by simpa using ew) ⟨rfl, fin⟩) hs
theorem ix_str : IxR X rIxS := by
  intro value slice pins s σ H x y v u Q I rx ry h hs
  obtain ⟨z, i, c, rfl, rfl, hz, he, q⟩ := h
  obtain ⟨t, rfl⟩ := rx
  obtain ⟨t', rfl⟩ := ry
  obtain ⟨j, h1, h2, h3, h4, h5⟩ := atI_get he
  have hl : z.cps.toList.length = z.length := by simp [Str.length]
  rw [hl] at h1 h4 h5
  have hn := line63
  exact tail_any (typeIs_str s z t) slot_str_getitem.lookup (getItem_str (c := c) (by
    have e1 : decide (i < -(2 ^ 63 : Int)) = false := decide_eq_false (by omega)
    have e2 : decide (i ≥ 2 ^ 63) = false := decide_eq_false (by omega)
    rw [e1, e2, Bool.or_false]) (by rw [h1]; simpa using h2) ⟨.str ⟨#[c]⟩, H, I.tok _, ⟨_, rfl⟩, q⟩) hs
def rIx (K : PySem.W.Frag) : R2 := fun x y H Q => rIxL K x y H Q ∨ rIxT K x y H Q ∨ rIxS x y H Q
theorem ix_seq : IxR X (rIx X.K) := ix_list.or (ix_tup.or ix_str)
theorem mapSeq_set (its : List Value) (n j : Nat) (u : Value) : Obj.mapSeq (·.setIfInBounds j u) { cls := .type "list", data := .seq its.toArray n } = { cls := .type "list", data := .seq (its.set j u).toArray n } := by
  simp [Obj.mapSeq]
theorem Inv.lst {pins : List (Addr × Obj)} {σ : St} {H : Hp} {s : Shared} {p : Addr} {xs : List V} (I : Inv X pins σ H s) (h : H p = some (.lst xs)) :
    ∃ (its : List Value) (n : Nat), Vals xs its ∧ s.heap.get? p = some { cls := .type "list", data := .seq its.toArray n } ∧ xs.length ≤ sizeLine := by
  obtain ⟨z, its, n, r, e⟩ := I.hok p _ h
  exact ⟨its, n, r, e, z⟩
theorem Inv.lstUpd {pins : List (Addr × Obj)} {σ : St} {H : Hp} {s : Shared} {p : Addr} {xs ys : List V} {its its' : List Value} {n n' : Nat} {f : Obj → Obj} (I : Inv X pins σ H s) (h : H p = some (.lst xs))
    (ho : s.heap.get? p = some { cls := .type "list", data := .seq its.toArray n }) (hf : f { cls := .type "list", data := .seq its.toArray n } = { cls := .type "list", data := .seq its'.toArray n' }) (r : Vals ys its') (hz : ys.length ≤ sizeLine) (t : Nat) :
    Inv X pins σ (upd H p (.lst ys)) { s with heap := s.heap.update p f, toks := t } := by
  have e : (s.heap.update p f).get? p = some { cls := .type "list", data := .seq its'.toArray n' } := by
    rw [Heap.get?_update_self f ho (by rw [hf] <;> rfl), hf]
  refine I.write (x := p) (e := p) (by rw [h]; trivial) (.inl rfl) (fun b u hb q => (Heap.get?_update_other _ _ (Ne.symm hb)).trans q) ⟨_, e⟩ ?_
  exact ⟨hz, its', n', r, e⟩
def rSetL : V → V → V → Hp → (Hp → Prop) → Prop := fun o i v H Q => ∃ p xs k j, o = .ref p ∧ i = .int k ∧ H p = some (.lst xs) ∧ ixN xs.length k = some j ∧ Q (upd H p (.lst (xs.set j v)))
theorem set_list : PSet X rSetL := by
  intro pins s σ H o i v ov iv u Q I ro ri rv h
  obtain ⟨p, xs, k, j, rfl, rfl, hp, hj, q⟩ := h
  cases ro
  obtain ⟨t, rfl⟩ := ri
  obtain ⟨its, n, r, ho, hz⟩ := I.lst hp
  obtain ⟨h1, h2, h3, h4⟩ := ixN_seq hj
  have hl := r.length
  have hn := line63
  have I' : Inv X pins σ (upd H p (.lst (xs.set j v))) { s with heap := s.heap.update p (Obj.mapSeq (·.setIfInBounds j u)) } :=
    I.lstUpd hp ho (mapSeq_set its n j u) (r.set rv j) (by rw [List.length_set]; exact hz) s.toks
  by_cases h0 : 0 ≤ k
  · have hk : k.toNat = j := by
      rw [seqIndex_of h0 h4] at h1
      exact Option.some.inj h1
    exact PySem.W.ki_setAt ho h0 (by omega) (by rw [List.size_toArray, ← hl]; exact h4) (by rw [hk]; exact ⟨_, I', q⟩)
  · have hk : (k + (its.toArray.size : Int)).toNat = j := by
      rw [seqIndex_neg (by omega) h3] at h1
      rw [List.size_toArray, ← hl]
      exact Option.some.inj h1
    exact PySem.W.ki_setBack ho (by omega) (by rw [List.size_toArray, ← hl]; exact h3) (by omega) (by rw [hk]; exact ⟨_, I', q⟩)
theorem slice_bounds (lo hi : Option Int) (n : Nat) : (sliceBounds lo hi none n).1 = ((HT.sIx n 0 lo : Nat) : Int) ∧ (sliceBounds lo hi none n).2.1 = ((HT.sIx n n hi : Nat) : Int) ∧ (sliceBounds lo hi none n).2.2 = 1 := by
  refine ⟨?_, ?_, rfl⟩
  · cases lo with
    | none => simp [sliceBounds, HT.sIx]
    | some i =>
      simp only [sliceBounds, HT.sIx, Option.getD_none, show (1 : Int) > 0 by decide, if_true]
      by_cases h : i < 0
      · simp only [h, if_true] <;> omega
      · simp only [h, if_false] <;> omega
  · cases hi with
    | none => simp [sliceBounds, HT.sIx]
    | some i =>
      simp only [sliceBounds, HT.sIx, Option.getD_none, show (1 : Int) > 0 by decide, if_true]
      by_cases h : i < 0
      · simp only [h, if_true] <;> omega
      · simp only [h, if_false] <;> omega
theorem slicePick_cut (its : List Value) (lo hi : Option Int) : slicePick its.toArray lo hi none = ((its.drop (HT.sIx its.length 0 lo)).take (HT.sIx its.length its.length hi - HT.sIx its.length 0 lo)).toArray := by
  obtain ⟨h1, h2, h3⟩ := slice_bounds lo hi its.toArray.size
  unfold slicePick
  rw [h1, h2, h3]
  simp only [sliceRange_one, pick_run, List.size_toArray] <;> rfl
def rSlL (K : PySem.W.Frag) : V → Option Int → Option Int → Hp → VK → Prop := fun x lo hi H Q => ∃ a xs, x = .ref a ∧ SqL K H a xs ∧ ∀ p, H p = none → Q (.ref p) (upd H p (.lst (cutV xs lo hi)))
theorem sl_list : SlR X (rSlL X.K) := by
  intro pins s σ H x v vl vu lo hi sl Q I rx hs pl pu h
  obtain ⟨a, xs, rfl, hx, q⟩ := h
  cases rx
  obtain ⟨its, r, ht, hz⟩ := I.list hx
  have hlen := r.length
  refine ⟨"list", _, slot_list_getitem.lookup, ht.isList.typeIs, ?_⟩
  refine wpAny_getItem_list_slice ht.isList hs pl pu .none (by simp) ?_ (by rw [List.size_toArray] <;> omega)
  rw [slicePick_cut, ← hlen]
  refine ⟨.ref s.heap.objs.size, _, I.laid (t' := s.toks) (o := .lst (cutV xs lo hi)) (fun b ob q => Heap.get?_push_of_some _ q) (Nat.le_refl _) ?_, rfl, q _ (I.hok.fresh (Nat.le_refl _))⟩
  exact ⟨Nat.le_trans (cutV_length xs lo hi) hz, _, 0, (r.drop (HT.sIx xs.length 0 lo)).take (HT.sIx xs.length xs.length hi - HT.sIx xs.length 0 lo), Heap.get?_push_size _ rfl⟩
theorem call_len_seq : CallR X (.builtin "len") (fun xs H Q => ∃ p ys, xs = [.ref p] ∧ (SqL X.K H p ys ∨ SqT X.K H p ys) ∧ Q (.int ys.length) H) := by
  intro pins s σ H xs us Q I r h
  obtain ⟨p, ys, rfl, hq, q⟩ := h
  obtain ⟨u, rfl, rx⟩ := vals1 r
  cases rx
  have hn := line63
  rcases hq with hq | hq
  · obtain ⟨its, r', pl, hz⟩ := I.list hq
    have hlen := r'.length
    exact Calls.call_len_list pl.isList (by simp only [List.size_toArray] <;> omega) ⟨.int ys.length, H, I.tok _, ⟨s.toks + 1, by rw [List.size_toArray, hlen]⟩, q⟩
  · obtain ⟨its, r', pl, hz⟩ := I.tuple hq
    have hlen := r'.length
    exact len_tuple pl (by simp only [List.size_toArray] <;> omega) ⟨.int ys.length, H, I.tok _, ⟨s.toks + 1, by rw [List.size_toArray, hlen]⟩, q⟩
theorem call_len_str : CallR X (.builtin "len") (fun xs H Q => ∃ z, xs = [.str z] ∧ z.length ≤ sizeLine ∧ Q (.int z.length) H) := by
  intro pins s σ H xs us Q I r h
  obtain ⟨z, rfl, hz, q⟩ := h
  obtain ⟨u, rfl, t, rfl⟩ := vals1 r
  have hn := line63
  exact len_str (by omega) ⟨.int z.length, H, I.tok _, ⟨_, rfl⟩, q⟩
theorem call_list_of : CallR X (.type "list") (fun xs H Q => ∃ p ys, xs = [.ref p] ∧ (SqL X.K H p ys ∨ SqT X.K H p ys) ∧ ∀ l, H l = none → Q (.ref l) (upd H l (.lst ys))) := by
  intro pins s σ H xs us Q I r h
  obtain ⟨p, ys, rfl, hq, q⟩ := h
  obtain ⟨u, rfl, rx⟩ := vals1 r
  cases rx
  have fin : ∀ (its : List Value), Vals ys its → ys.length ≤ sizeLine → ∀ (h' : Heap) (c' : Nat), (∀ b o', s.heap.get? b = some o' → h'.get? b = some o') →
      h'.get? s.heap.objs.size = some { cls := .type "list", dict := none, data := .seq its.toArray c', slots := #[] } → EP X pins σ Q (.ref s.heap.objs.size) { s with heap := h' } := fun its r' hz h' c' kp e =>
    ⟨.ref s.heap.objs.size, _, I.laid (t' := s.toks) kp (Nat.le_refl _) (show ObjOk X.prog X.w _ h' _ (.lst ys) from ⟨hz, its, c', r', e⟩), rfl, q _ (I.hok.fresh (Nat.le_refl _))⟩
  rcases hq with hq | hq
  · obtain ⟨its, r', pl, hz⟩ := I.list hq
    have hlen := r'.length
    obtain ⟨o, ho, hc, n, hd⟩ := pl.isList
    exact call_list_seq p (.inl rfl) ho hc hd (fun h' c' kp e => fin its r' hz h' c' kp e) (by simp only [List.size_toArray] <;> omega)
  · obtain ⟨its, r', pl, hz⟩ := I.tuple hq
    have hlen := r'.length
    obtain ⟨o, ho, hc, n, hd⟩ := pl
    exact call_list_seq p (.inr rfl) ho hc hd (fun h' c' kp e => fin its r' hz h' c' kp e) (by simp only [List.size_toArray] <;> omega)
theorem call_tuple_of : CallR X (.type "tuple") (fun xs H Q => ∃ p ys, xs = [.ref p] ∧ ((SqL X.K H p ys ∧ ∀ l, H l = none → Q (.ref l) (upd H l (.tup ys))) ∨ (SqT X.K H p ys ∧ Q (.ref p) H))) := by
  intro pins s σ H xs us Q I r h
  obtain ⟨p, ys, rfl, h⟩ := h
  obtain ⟨u, rfl, rx⟩ := vals1 r
  cases rx
  rcases h with ⟨hq, q⟩ | ⟨hq, q⟩
  · obtain ⟨its, r', pl, hz⟩ := I.list hq
    have hlen := r'.length
    refine call_tuple_list pl.isList (fun h' kp => ?_) (by simp only [List.size_toArray] <;> omega)
    have I1 : Inv X pins σ H { s with heap := h' } := I.kept (t' := s.toks) kp
    have I2 : Inv X pins σ (upd H h'.objs.size (.tup ys)) { s with heap := h'.push { cls := .type "tuple", data := .seq its.toArray } } :=
      I1.laid (t' := s.toks) (fun b o e => Heap.get?_push_of_some _ e) (Nat.le_refl _) (show ObjOk X.prog X.w _ _ _ (.tup ys) from ⟨hz, its, r', IsTup.new _ _⟩)
    exact ⟨.ref h'.objs.size, _, I2, rfl, q _ (I1.hok.fresh (Nat.le_refl _))⟩
  · obtain ⟨its, r', pl, hz⟩ := I.tuple hq
    exact call_tuple_same pl ⟨.ref p, H, I, rfl, q⟩
def tyV (K : PySem.W.Frag) (T : String) (x : V) (H : Hp) : Prop := match x with
  | .str _ => T = "str"
  | .int _ => T = "int"
  | .ref p => (T = "list" ∧ ∃ xs, SqL K H p xs) ∨ (T = "tuple" ∧ ∃ o, K.lookup p = some o ∧ o.cls = .type "tuple" ∧ o.dict = none) ∨
      (T = "dict" ∧ ((∃ kvs, H p = some (.dK kvs)) ∨ ∃ kvs, H p = some (.dT kvs))) ∨ (T = "set" ∧ ∃ S n, H p = some (.set S n))
  | _ => False
theorem tyV_is {pins : List (Addr × Obj)} {σ : St} {H : Hp} {s : Shared} {T : String} {x : V} {v : Value} (I : Inv X pins σ H s) (r : RelV x v) (ty : tyV X.K T x H) :
    s.TypeIs v T ∧ ∀ a, v = .ref a → ∃ ob, s.heap.get? a = some ob ∧ ob.dict = none := by
  cases x with
  | str z =>
    obtain ⟨t, rfl⟩ := r
    cases (show T = "str" from ty)
    exact ⟨typeIs_str s z t, fun _ e => nomatch e⟩
  | int i =>
    obtain ⟨t, rfl⟩ := r
    cases (show T = "int" from ty)
    exact ⟨typeIs_int s i t, fun _ e => nomatch e⟩
  | ref p =>
    cases r
    rcases ty with ⟨rfl, xs, hq⟩ | ⟨rfl, o, hk, hc, hd⟩ | ⟨rfl, hk⟩ | ⟨rfl, S, n, hk⟩
    · obtain ⟨its, _, pl, _⟩ := I.list hq
      refine ⟨pl.isList.typeIs, fun a e => ?_⟩
      cases e
      obtain ⟨o, n, e, c, hd, _⟩ := pl
      exact ⟨o, e, hd⟩
    · refine ⟨⟨o, I.kIn p o hk, hc⟩, fun a e => ?_⟩
      cases e
      exact ⟨o, I.kIn _ o hk, hd⟩
    · have z : ∃ o, s.heap.get? p = some o ∧ o.ExactDict := by
        rcases hk with ⟨kvs, hk⟩ | ⟨kvs, hk⟩
        · obtain ⟨_, _, _, _, o, _, _, e, ex, _⟩ := I.hok p _ hk
          exact ⟨o, e, ex⟩
        · obtain ⟨_, _, _, _, o, _, _, e, ex, _⟩ := I.hok p _ hk
          exact ⟨o, e, ex⟩
      obtain ⟨o, e, ex⟩ := z
      refine ⟨⟨o, e, ex.1⟩, fun a e2 => ?_⟩
      cases e2
      exact ⟨o, e, ex.2.1⟩
    · obtain ⟨o, _, _, _, e, ex, _⟩ := I.hok p _ hk
      refine ⟨⟨o, e, ex.1⟩, fun a e2 => ?_⟩
      cases e2
      exact ⟨o, e, ex.2.1⟩
  | _ => exact False.elim ty
def tBM0 (K : PySem.W.Frag) (T : String) (r : V → List V → Hp → VK → Prop) (to : TE) : TE := fun σ H Q => to σ H fun x H1 => tyV K T x H1 ∧ r x [] H1 Q
def tBM (K : PySem.W.Frag) (T : String) (r : V → List V → Hp → VK → Prop) (to : TE) (t : TA) : TE := fun σ H Q => to σ H fun x H1 => tyV K T x H1 ∧ t σ H1 fun xs H2 => r x xs H2 Q
variable {o e : Expr} {es : List Expr} {to : TE} {t : TA} {name : Str} {apos cpos : Pos} {T id : String} {r : V → List V → Hp → VK → Prop}
theorem pe_bm0 (pa : PlainAttrs T) (slot : Slot T name id) (hty : typeOf (.builtin id) = pure (.type "method_descriptor")) (hm : MtR X id r) (ho : PE X o to)
    (hbase : attributeBase o name X.env (eval o X.env) = eval o X.env := by rfl) (hline : (apos.endLine == cpos.line) = true := by rfl) : PE X (.Call (.Attribute o name apos) [] [] cpos) (tBM0 X.K T r to) := by
  intro pins s σ H Q I h
  refine wpAny_Call_method0_late hbase hline (thn (ho pins s σ H _ I h) fun v s1 ⟨x, H1, I1, r1, ty, q1⟩ => ?_)
  obtain ⟨h1, h2⟩ := tyV_is I1 r1 ty
  exact ⟨T, id, pa, slot, hty, h1, h2, Calls.callWith_builtin rfl (PySem.evalArgs_none (hm pins s1 σ H1 x [] v [] Q I1 r1 .nil q1))⟩
theorem pe_bm (pa : PlainAttrs T) (slot : Slot T name id) (hty : typeOf (.builtin id) = pure (.type "method_descriptor")) (hm : MtR X id r) (ho : PE X o to) (ha : PA X (e :: es) t)
    (hbase : attributeBase o name X.env (eval o X.env) = eval o X.env := by rfl)
    (hfew : ((backTo cpos (starEach (e :: es) X.env)).all (fun x => !x.1) && (backToKw cpos (keywordEach [] X.env)).all (fun x => x.1.isSome)
      && decide ((e :: es).length + ([] : List Keyword).length + (if ([] : List Keyword).isEmpty then 0 else 1) < 30)) = true := by rfl)
    (hline : (apos.endLine == cpos.line) = true := by rfl) (hs : starEach (e :: es) X.env = (false, eval e X.env) :: starEach es X.env := by rfl) (hplain : (backTo cpos (starEach es X.env)).any (·.1) = false := by rfl) :
    PE X (.Call (.Attribute o name apos) (e :: es) [] cpos) (tBM X.K T r to t) := by
  intro pins s σ H Q I h
  refine wpAny_Call_method_late hbase hfew hline rfl (thn (ho pins s σ H _ I h) fun v s1 ⟨x, H1, I1, r1, ty, q1⟩ => ?_)
  obtain ⟨h1, h2⟩ := tyV_is I1 r1 ty
  refine ⟨T, id, pa, slot, hty, h1, h2, ?_⟩
  have hA := ha cpos pins s1 σ H1 _ I1 q1
  rw [hs] at hA ⊢
  refine Calls.callWith_builtin (by show (false || (backTo cpos (starEach es X.env)).any (·.1)) = false; rw [hplain] <;> rfl) (Calls.evalArgs_plain ?_)
  exact thn hA fun us s2 ⟨vs, H2, I2, r2, q2⟩ => hm pins s2 σ H2 x vs v us Q I2 r1 r2 q2
end
end L2
namespace L2
open PySem PySem.Spec PyProof.Rows
def MtM (X : Cx) (id : String) (r : V → List V → Hp → VK → Prop) : Prop :=
  ∀ (pins : List (Addr × Obj)) (s : Shared) (σ : St) (H : Hp) (x : V) (xs : List V) (v : Value) (us : List Value) (Q : VK), Inv X pins σ H s → RelV x v → Vals xs us → r x xs H Q →
    wpAny (model X.prog X.w) X.A (call (.builtin id) (v :: us)) (EP X pins σ Q) X.xe s
theorem Vals.one : ∀ {x : V} {us : List Value}, Vals [x] us → ∃ u, us = [u] ∧ RelV x u
  | _, _, .cons r .nil => ⟨_, rfl, r⟩
theorem Vals.two : ∀ {x y : V} {us : List Value}, Vals [x, y] us → ∃ u v, us = [u, v] ∧ RelV x u ∧ RelV y v
  | _, _, _, .cons r (.cons q .nil) => ⟨_, _, rfl, r, q⟩
theorem Vals.zero : ∀ {us : List Value}, Vals [] us → us = []
  | _, .nil => rfl
theorem Vals.dropLast {xs : List V} {us : List Value} (h : Vals xs us) : Vals xs.dropLast us.dropLast := by
  induction h with
  | nil => exact .nil
  | cons r t ih =>
    cases t with
    | nil => exact .nil
    | cons q t' => exact .cons r ih
theorem Vals.reverse {xs : List V} {us : List Value} (h : Vals xs us) : Vals xs.reverse us.reverse := by
  induction h with
  | nil => exact .nil
  | cons r t ih => rw [List.reverse_cons, List.reverse_cons]; exact Vals.append ih (.cons r .nil)
theorem erase_last {α : Type} (l : List α) : l.eraseIdx (l.length - 1) = l.dropLast := by
  induction l with
  | nil => rfl
  | cons a r ih =>
    cases r with
    | nil => rfl
    | cons b r =>
      have e : (a :: b :: r).length - 1 = ((b :: r).length - 1) + 1 := by
        have h1 : (a :: b :: r).length = r.length + 2 := rfl
        have h2 : (b :: r).length = r.length + 1 := rfl
        omega
      rw [e, List.eraseIdx_cons_succ, ih]
      all_goals rfl
section
variable {X : Cx} {pins : List (Addr × Obj)} {σ : St} {H : Hp} {s : Shared} {l b : Addr} {xs ys zs : List V}
theorem Inv.lset {its its' : List Value} {n : Nat} {f : Array Value → Array Value} {t' : Nat} (I : Inv X pins σ H s) (hH : H l = some (.lst xs))
    (e : s.heap.get? l = some { cls := .type "list", data := .seq its.toArray n }) (hf : f its.toArray = its'.toArray) (hv : Vals ys its') (hz : ys.length ≤ sizeLine) :
    Inv X pins σ (upd H l (.lst ys)) { s with heap := s.heap.update l (Obj.mapSeq f), toks := t' } := by
  have q := PySem.IsL.update e f
  rw [hf] at q
  refine I.write (x := l) (e := l) (by rw [hH]; exact trivial) (.inl rfl) (fun b' u hb hu => (Heap.get?_update_other s.heap (Obj.mapSeq f) (Ne.symm hb)).trans hu) ⟨_, q⟩ ?_
  exact ⟨hz, its', _, hv, q⟩
theorem Inv.lnew {its : List Value} {t' : Nat} (I : Inv X pins σ H s) (hv : Vals ys its) (hz : ys.length ≤ sizeLine) :
    Inv X pins σ (upd H s.heap.objs.size (.lst ys)) { s with heap := s.heap.push { cls := .type "list", data := .seq its.toArray }, toks := t' } :=
  I.laid (fun _ _ q => Heap.get?_push_of_some _ q) (Nat.le_refl _) ⟨hz, its, 0, hv, Heap.get?_push_size _ rfl⟩
theorem Inv.fresh (I : Inv X pins σ H s) : H s.heap.objs.size = none := I.hok.fresh (Nat.le_refl _)
theorem Inv.lstM (I : Inv X pins σ H s) (hH : H l = some (.lst xs)) : xs.length ≤ sizeLine ∧ ∃ (its : List Value) (n : Nat), Vals xs its ∧ xs.length = its.length ∧ s.heap.get? l = some { cls := .type "list", data := .seq its.toArray n } := by
  obtain ⟨z, its, n, r, e⟩ := I.hok l _ hH
  exact ⟨z, its, n, r, r.length, e⟩
theorem notLongL {n : Nat} (h : n ≤ sizeLine) : Builtin.List.listTooLong n = false := by
  unfold Builtin.List.listTooLong
  exact decide_eq_false (by omega)
end
section
variable {X : Cx}
def rAppend : V → List V → Hp → VK → Prop := fun x vs H Q => ∃ l xs y, x = .ref l ∧ vs = [y] ∧ H l = some (.lst xs) ∧ xs.length < sizeLine ∧ Q .non (upd H l (.lst (xs ++ [y])))
theorem mt_append : MtM X "list.append" rAppend := by
  intro pins s σ H x vs v us Q I rx rv h
  obtain ⟨l, xs, y, rfl, rfl, hH, hz, q⟩ := h
  cases rx
  obtain ⟨u, rfl, ru⟩ := rv.one
  obtain ⟨z, its, n, r, hl, e⟩ := I.lstM hH
  refine call_meets F.slot_list_append ⟨_, e, rfl⟩ F.entry_list_append (F.args_list_append_2 _ _) (PySem.list_append l its.toArray n u (by rw [List.size_toArray]; omega)) ⟨e, ?_⟩
  refine ⟨.non, _, I.lset (its' := its ++ [u]) hH e (by simp) (r.append (.cons ru .nil)) ?_, rfl, q⟩
  rw [List.length_append, List.length_singleton]
  omega
def rExtend : V → List V → Hp → VK → Prop := fun x vs H Q => ∃ l b xs zs, x = .ref l ∧ vs = [.ref b] ∧ H l = some (.lst xs) ∧ H b = some (.lst zs) ∧ xs.length + zs.length ≤ sizeLine ∧ Q .non (upd H l (.lst (xs ++ zs)))
theorem mt_extend : MtM X "list.extend" rExtend := by
  intro pins s σ H x vs v us Q I rx rv h
  obtain ⟨l, b, xs, zs, rfl, rfl, hH, hB, hz, q⟩ := h
  cases rx
  obtain ⟨u, rfl, ru⟩ := rv.one
  cases ru
  obtain ⟨z, its, n, r, hl, e⟩ := I.lstM hH
  obtain ⟨z2, its2, n2, r2, hl2, e2⟩ := I.lstM hB
  have hsz : its.toArray.size + its2.toArray.size ≤ sizeLine := by rw [List.size_toArray, List.size_toArray]; omega
  have hlong : ¬ (!its.toArray.isEmpty && Builtin.List.listTooLong (its.toArray.size + its2.toArray.size)) = true := by
    rw [notLongL hsz, Bool.and_false]
    exact Bool.false_ne_true
  refine call_meets F.slot_list_extend ⟨_, e, rfl⟩ F.entry_list_extend (F.args_list_extend_2 _ _)
    (AutoSeq1.list_extend_list_list_0 l its.toArray n b its2.toArray n2 hlong (by rw [List.size_toArray]; omega) (by omega)) ⟨e, e2, ?_⟩
  refine ⟨.non, _, I.lset (its' := its ++ its2) hH e (by simp) (r.append r2) ?_, rfl, q⟩
  rw [List.length_append]
  omega
def rPop : V → List V → Hp → VK → Prop := fun x vs H Q => ∃ l xs y, x = .ref l ∧ vs = [] ∧ H l = some (.lst xs) ∧ xs[xs.length - 1]? = some y ∧ Q y (upd H l (.lst xs.dropLast))
theorem mt_pop : MtM X "list.pop" rPop := by
  intro pins s σ H x vs v us Q I rx rv h
  obtain ⟨l, xs, y, rfl, rfl, hH, hy, q⟩ := h
  cases rx
  have hus := rv.zero
  subst hus
  obtain ⟨z, its, n, r, hl, e⟩ := I.lstM hH
  obtain ⟨u, hu, ru⟩ := r.get hy
  have hy' : its.toArray[its.toArray.size - 1]? = some u := by
    show its.toArray[its.length - 1]? = some u
    rw [← Array.getElem?_toList, ← hl]
    exact hu
  refine call_meets F.slot_list_pop ⟨_, e, rfl⟩ F.entry_list_pop (F.args_list_pop_1 _) (MeetsSeq.list_pop_last l its.toArray n u hy' (by rw [List.size_toArray]; omega)) ⟨e, ?_⟩
  refine ⟨y, _, I.lset (its' := its.dropLast) hH e ?_ r.dropLast ?_, ru, q⟩
  · show its.toArray.eraseIdxIfInBounds (its.toArray.size - 1) = its.dropLast.toArray
    rw [List.size_toArray, List.eraseIdxIfInBounds_toArray, erase_last]
  · rw [List.length_dropLast]
    omega
def rCat : R2 := fun x y H Q => ∃ l b xs zs, x = .ref l ∧ y = .ref b ∧ H l = some (.lst xs) ∧ H b = some (.lst zs) ∧ xs.length + zs.length ≤ sizeLine ∧ ∀ p, H p = none → Q (.ref p) (upd H p (.lst (xs ++ zs)))
theorem op_cat : OpR X (binaryOp .Add) rCat := by
  intro pins s σ H x y v u Q I rx ry h
  obtain ⟨l, b, xs, zs, rfl, rfl, hH, hB, hz, q⟩ := h
  cases rx
  cases ry
  obtain ⟨z, its, n, r, hl, e⟩ := I.lstM hH
  obtain ⟨z2, its2, n2, r2, hl2, e2⟩ := I.lstM hB
  refine PySem.P.add_list e e2 ?_ (by rw [List.size_toArray, List.size_toArray]; omega)
  have ea : its.toArray ++ its2.toArray = (its ++ its2).toArray := by simp
  rw [ea]
  exact ⟨.ref _, _, I.lnew (t' := s.toks) (r.append r2) (by rw [List.length_append]; omega), rfl, q _ I.fresh⟩
end
section
variable {prog : Program} {w : World} {A : Around} {E : Value → Shared → Prop} {s : Shared}
end
section
variable {X : Cx}
end
end L2
namespace Att
open PySem PySem.W PySem.Calls PyProof.Rows
theorem ints_of_wellAll {P : Params} {h : Heap} : ∀ (ns : List Int) (vs : List Value), WellAll P h vs (ns.map WData.int) → IntsAre vs ns := by
  intro ns
  induction ns with
  | nil =>
    intro vs w
    rw [List.map_nil] at w
    cases w
    exact .nil
  | cons n ns ih =>
    intro vs w
    rw [List.map_cons] at w
    cases w with
    | cons a b =>
      cases a
      exact .cons _ _ (ih _ b)
theorem script_of {l : OpenLaw} {n : Nat} (hn : l.most = some n) {P : Params} {h : Heap} {args : List WData} {vals : List Value}
    (hpre : l.row.toRowW.claim.pre args = true) (hwl : WellAll P h vals args) :
    ∃ a vs ns, vals = [Value.ref a] ∧ args = [WData.list (ns.map WData.int)] ∧ h.get? a = some { cls := .type "list", data := .seq vs.toArray } ∧ IntsAre vs ns ∧ ns.length ≤ n := by
  have hsh : WShape.hasAll [] args [.list .int] = true := (pre_splitW hpre).1
  have hc : l.pre.holds [] { args := args } = true := (pre_splitW hpre).2
  obtain ⟨d, r, rfl, h1, h2⟩ := hasAllW_cons hsh
  obtain rfl := hasAllW_nil h2
  obtain ⟨xs, rfl, h3⟩ := hasW_list h1
  obtain ⟨ns, rfl⟩ := items_int h3
  have hlen : ns.length ≤ n := by
    unfold OpenLaw.pre at hc
    have h4 : (WTm.not (.lt (.lit (.int (n : Int))) (.len (.arg 0)))).holds [] { args := [.list (ns.map .int)] } = true := by
      have h4 := (holds_andW hc).1
      rw [hn] at h4
      exact h4
    have h5 := condW_of h4 (w_not (w_lt w_lit (w_len_list (w_arg rfl))))
    rw [List.length_map] at h5
    refine Nat.le_of_not_lt fun q => ?_
    have q' : (n : Int) < ((ns.length : Nat) : Int) := by omega
    first
      | (rw [decide_eq_true q'] at h5; exact absurd h5 (by decide))
      | (simp at h5; omega)
  cases hwl with
  | cons w1 w2 =>
    cases w2
    cases w1 with
    | list ho hall => exact ⟨_, _, ns, rfl, rfl, ho, ints_of_wellAll ns _ hall, hlen⟩
theorem post_true (l : OpenLaw) (args : List WData) : l.row.toRowW.claim.post args (.bool true) args = true :=
  postW_of (r := l.row.toRowW) (X := (true == true))
    (show WShape.has [] (.bool true) .bool = true by first | rfl | decide | simp [WShape.has, WShape.arms, WShape.armsAll])
    (show (WTm.eq .res (.lit (.bool true))).value [] { args := args, res := some (.bool true), after := args } = some (.bool (true == true)) from w_eq_bool (w_res rfl) w_lit) rfl
theorem attach_call {l : OpenLaw} {n : Nat} {q : Program} {loose : List Str} {XP : (Str → Option Value) → Heap → Prop} {YP : World → Heap → Prop} {d : DefRec}
    (hn : l.most = some n) (hdf : d.params.defaults = [])
    (call : ∀ (w : World) (s₀ s₁ : Shared) (mg mb : Str → Option Value) (fa : Addr) (o : Obj) (pm cd doc : Value) (a : Addr) (vs : List Value) (ns : List Int),
      Ground q loose [] XP w s₀ mg mb s₁.heap → YP w s₁.heap →
      s₁.heap.get? fa = some o → o.data = .func (docDef d.name d.params d.body d.scope pm cd doc) → s₁.heap.CodeRec cd d.name → mg d.name = some (.ref fa) →
      s₁.heap.get? a = some { cls := .type "list", data := .seq vs.toArray } → IntsAre vs ns → ns.length ≤ n → s₁.gens = #[] →
      codeAny (model l.prog w) callerA (.call (.ref fa) ⟨[.ref a], []⟩) (fun r s' => r = .ok (.ret (.bool true)) ∧ OldK s₁.heap s'.heap ∧ s'.os = s₁.os ∧ AllBare s'.gens) s₁) :
    WalkO q loose XP YP l.row.toRowW d [] (fun f vs => PySem.call f vs) := by
  intro w s₀ s₁ mg mb G Y fa o pm cd doc dV kV ho hd hcd hD hmg hg args vals as hpre hlay hrd hwl hlo
  obtain rfl : dV = .none := Dflts.none hD hdf
  obtain rfl : kV = .none := Dflts.noKw hD
  obtain ⟨a, vs, ns, rfl, rfl, hobj, hints, hlen⟩ := script_of hn hpre hwl
  refine enter_call (codeAny_mono (call w s₀ s₁ mg mb fa o pm cd doc a vs ns G Y ho (fd_plain hd) hcd hmg hobj hints hlen hg) fun r s' hq => ?_)
  obtain ⟨rfl, h2, h3, h4⟩ := hq
  exact ⟨.inl ⟨.bool true, .bool true, [], rfl, fun _ => rfl, .bool true, post_true l _, fun _ => ⟨List.Pairwise.nil, fun _ hm => (nomatch hm)⟩⟩, h2, h3, h4⟩
section
variable {prog : Program} {w : World} {A : Around} {E : Value → Shared → Prop} {s : Shared} {K : Frag}
def noObjs (h : Heap) : Heap := { h with objs := #[] }
theorem noObjs_get (h : Heap) (b : Addr) : (noObjs h).get? b = none := by
  cases e : (noObjs h).get? b with
  | none => rfl
  | some o => exact absurd (Heap.lt_size e) (Nat.not_lt_zero _)
def ledger (h : Heap) (L d : Addr) : List (Addr × Obj) := (List.range h.objs.size).filterMap fun a => if a = L ∨ a = d then none else (h.get? a).map fun o => (a, o)
theorem mem_ledger {h : Heap} {L d a : Addr} {o : Obj} : (a, o) ∈ ledger h L d ↔ a ≠ L ∧ a ≠ d ∧ h.get? a = some o := by
  unfold ledger
  rw [List.mem_filterMap]
  constructor
  · rintro ⟨b, _, e⟩
    split at e
    · cases e
    · rename_i hb
      obtain ⟨o', ho, e'⟩ := Option.map_eq_some_iff.mp e
      cases e'
      exact ⟨fun q => hb (.inl q), fun q => hb (.inr q), ho⟩
  · rintro ⟨n1, n2, ho⟩
    refine ⟨a, List.mem_range.mpr (Heap.lt_size ho), ?_⟩
    rw [if_neg (show ¬ (a = L ∨ a = d) from fun q => q.elim n1 n2), ho] <;> rfl
theorem fr_all {h : Heap} {L : Addr} {m : Str → Option Value} (n : h.Ns L m) : Fr (noObjs h) L h m :=
  ⟨n, fun b o e => (by rw [noObjs_get] at e; cases e), Nat.zero_le _⟩
end
end Att
namespace L2
open PySem PySem.Spec PyProof.Rows
theorem vals_ints : ∀ {vs : List Value} {ns : List Int}, IntsAre vs ns → Vals (ns.map V.int) vs
  | _, _, .nil => .nil
  | _, _, .cons n t h => .cons ⟨t, rfl⟩ (vals_ints h)
end L2
namespace L2
open PySem PySem.Spec PyProof.Rows
end L2
namespace L2
open PySem PySem.Spec PyProof.Rows
def inClass (s : Stmt) (j : Nat) : Stmt := match s with
  | .ClassDef _ _ _ body _ _ _ _ _ _ _ => body.getD j (.Pass ⟨0, 0, 0, 0⟩)
  | _ => .Pass ⟨0, 0, 0, 0⟩
def defArgs (s : Stmt) : Arguments := match s with
  | .FunctionDef _ a _ _ _ _ _ _ _ _ => a
  | _ => { posonlyargs := [], args := [], vararg := none, kwonlyargs := [], kw_defaults := [], kwarg := none, defaults := [] }
def defBody (s : Stmt) : List Stmt := match s with
  | .FunctionDef _ _ b _ _ _ _ _ _ _ => b
  | _ => []
def defScope (s : Stmt) : Scope := match s with
  | .FunctionDef _ _ _ _ _ _ sc _ _ _ => sc
  | _ => { kind := .function, names := [], isGenerator := false, isCoroutine := false }
abbrev CX0 : CXT := fun _ _ _ _ _ _ => False
abbrev E0 : XK := fun _ _ _ => False
theorem pass0 {X : Cx} : Passes CX0 X E0 := fun _ _ _ _ _ _ _ h => h.elim
structure Fun (K : PySem.W.Frag) (x qual : Str) (st : Stmt) (f : Addr) (fd : FuncData) : Prop where
  ex : ∃ (oc : Value) (od : Option Addr) (kV doc pm : Value) (an : Option Addr) (cdv ct : Value) (osl : Array (Option Value)),
    fd = PySem.W.fnOf x qual (defArgs st) (defBody st) (defScope st) .none kV doc pm an cdv ct ∧ K.lookup f = some ⟨oc, od, .func fd, osl⟩ ∧ PySem.W.codeIn K cdv qual = true
  kp : PySem.W.keepIn K (.ref f) = true
section
variable {P : Program} {w : World} {K : PySem.W.Frag} {mg : Str → Option Value} {base : Heap}
theorem Fun.ok {x qual : Str} {st : Stmt} {f : Addr} {fd : FuncData} {N ps : List Str} {k : Nat} {sp : Sp} (F : Fun K x qual st f fd) (S : FnScope N ps (defScope st)) (len : ∀ vs H Q E, sp vs H Q E → vs.length = ps.length)
    (hbody : ∀ (cdv : Value) (A : Around) (outer : List Env) (s : Shared) (H : Hp) (vs : List V) (Q : VK) (E : XK), Room k (A.deeper (envOfC qual (defScope st) s.heap.objs.size f cdv)) → sp vs H Q E →
      ∃ t, PSs (cxOf CX0 P w K mg base N qual (defScope st) f cdv A outer s H E).nox (defBody st) t ∧ t { nx := fun _ H' => Q .non H', rt := Q } (start N vs) H) : FnOk P w K mg base CX0 (k + 1) f fd ps sp := by
  obtain ⟨oc, od, kV, doc, pm, an, cdv, ct, osl, rfl, lk, hcd⟩ := F.ex
  refine fn_of lk hcd S len fun A outer s H vs Q E hr hsp => ?_
  obtain ⟨t, h, q⟩ := hbody cdv A outer s H vs Q E hr hsp
  exact ⟨t, h.nox, q⟩
theorem Fun.binds {x qual : Str} {st : Stmt} {f : Addr} {fd : FuncData} {ps : List Str} (F : Fun K x qual st f fd)
    (h : ∀ (kV doc pm : Value) (an : Option Addr) (cdv ct : Value) (us : List Value), us.length = ps.length → bindArgs (PySem.W.fnOf x qual (defArgs st) (defBody st) (defScope st) .none kV doc pm an cdv ct) ⟨us, []⟩ = pure (ps.zip us)) : Binds K fd ps [] := by
  obtain ⟨oc, od, kV, doc, pm, an, cdv, ct, osl, rfl, lk, hcd⟩ := F.ex
  exact .all (h kV doc pm an cdv ct)
theorem fun_mk {x qual : Str} {st : Stmt} {f : Addr} {oc : Value} {od an : Option Addr} {osl : Array (Option Value)} {kV doc pm cdv ct : Value} (l : K.lookup f = some ⟨oc, od, .func (PySem.W.fnOf x qual (defArgs st) (defBody st) (defScope st) .none kV doc pm an cdv ct), osl⟩)
    (c : PySem.W.codeIn K cdv qual = true) (k : PySem.W.keepIn K (.ref f) = true) : Fun K x qual st f (PySem.W.fnOf x qual (defArgs st) (defBody st) (defScope st) .none kV doc pm an cdv ct) := ⟨⟨oc, od, kV, doc, pm, an, cdv, ct, osl, rfl, l, c⟩, k⟩
end
section
variable {X : Cx}
theorem pv (i : Nat) {x : Str} {pos : Pos} (hN : X.N[i]? = some x := by rfl) (hv : Vis X.env.scope x := by first | exact Or.inl rfl | exact Or.inr (Or.inl rfl) | exact Or.inr (Or.inr rfl)) (hd : (x == ("__debug__" : Str)) = false := by decide)
    (hcd : (x == ("__classdict__" : Str)) = false := by decide) : PE X (.Name x pos) (tVar i) := pe_var hN hv hd hcd
end
theorem iteF {A B : Prop} (h : B) : if false = true then A else B := by
  rw [if_neg Bool.false_ne_true]
  exact h
theorem iteT {A B : Prop} (h : A) : if true = true then A else B := by
  rw [if_pos rfl]
  exact h
theorem ite2 {c A B : Prop} [Decidable c] (h1 : c → A) (h2 : ¬ c → B) : if c then A else B := by
  by_cases h : c
  · rw [if_pos h]
    exact h1 h
  · rw [if_neg h]
    exact h2 h
def Same (H H' : Hp) : Prop := ∀ b o, H b = some o → H' b = some o
theorem Same.refl (H : Hp) : Same H H := fun _ _ h => h
theorem Same.trans {H H1 H2 : Hp} (a : Same H H1) (b : Same H1 H2) : Same H H2 := fun c o h => b c o (a c o h)
theorem Same.free {H H' : Hp} (e : Same H H') {l : Addr} (h : H' l = Option.none) : H l = Option.none := by
  cases q : H l with
  | none => rfl
  | some o =>
    rw [e l o q] at h
    cases h
end L2
namespace L2
open PySem PySem.Spec PyProof.Rows
theorem closure_go (env : Env) : ∀ (names : List (Str × NameKind)) (acc : List (Str × Addr)), (∀ x ∈ names, x.2 = .free → ∃ c, env.cells.lookup x.1 = some c) →
    (∀ x c, acc.lookup x = some c → env.cells.lookup x = some c) →
    ∃ cl : List (Str × Addr), (forIn names acc (fun (x : Str × NameKind) r => (if (x.2 == .free) = true then cellOf env x.1 >>= fun a => pure (ForInStep.yield ((x.1, a) :: r)) else pure (ForInStep.yield r) : Sem (ForInStep (List (Str × Addr)))))) = pure cl ∧
      (∀ x c, cl.lookup x = some c → env.cells.lookup x = some c) ∧ (∀ x c, acc.lookup x = some c → ∃ d, cl.lookup x = some d) ∧ (∀ x ∈ names, x.2 = .free → ∃ c, cl.lookup x.1 = some c)
  | [], acc, _, h2 => ⟨acc, rfl, h2, fun x c e => ⟨c, e⟩, fun x hx => by simp at hx⟩
  | (n, k) :: r, acc, h1, h2 => by
    rw [List.forIn_cons]
    by_cases hk : k = .free
    · subst hk
      obtain ⟨c, hc⟩ := h1 (n, .free) List.mem_cons_self rfl
      obtain ⟨cl, e, a1, a2, a3⟩ := closure_go env r ((n, c) :: acc) (fun x hx => h1 x (List.mem_cons_of_mem _ hx)) (fun x d e => by
        rw [List.lookup_cons] at e
        cases hb : x == n with
        | true =>
          rw [hb] at e
          have hxn : x = n := by simpa using hb
          cases e
          rw [hxn]; exact hc
        | false => rw [hb] at e; exact h2 x d e)
      have hco : cellOf env n = pure c := by unfold cellOf; simp only at hc; rw [hc]
      refine ⟨cl, ?_, a1, fun x d e => ?_, fun x hx hf => ?_⟩
      · simp only [beq_self_eq_true, if_true, hco, pure_bind]
        exact e
      · by_cases hx : x = n
        · subst hx; exact a2 x c (by simp [List.lookup_cons])
        · exact a2 x d (by rw [List.lookup_cons]; have : (x == n) = false := by simpa using hx
                           rw [this]; exact e)
      · rcases List.mem_cons.mp hx with rfl | hx
        · exact a2 n c (by simp [List.lookup_cons])
        · exact a3 x hx hf
    · obtain ⟨cl, e, a1, a2, a3⟩ := closure_go env r acc (fun x hx => h1 x (List.mem_cons_of_mem _ hx)) h2
      have hb : (k == NameKind.free) = false := by simpa using hk
      refine ⟨cl, ?_, a1, a2, fun x hx hf => ?_⟩
      · simp only [hb, Bool.false_eq_true, if_false, pure_bind]
        exact e
      · rcases List.mem_cons.mp hx with rfl | hx
        · exact absurd hf hk
        · exact a3 x hx hf
theorem closure_ok (env : Env) (sc : Scope) (h1 : ∀ x ∈ sc.names, x.2 = .free → ∃ c, env.cells.lookup x.1 = some c) :
    ∃ cl : List (Str × Addr), closureFor sc env = pure cl ∧ (∀ x c, cl.lookup x = some c → env.cells.lookup x = some c) ∧ (∀ x ∈ sc.names, x.2 = .free → ∃ c, cl.lookup x.1 = some c) := by
  obtain ⟨cl, e, a1, _, a3⟩ := closure_go env sc.names [] h1 (fun x c e => by simp at e)
  refine ⟨cl, ?_, a1, a3⟩
  unfold closureFor
  simp only [bind_pure]
  exact e
end L2
namespace L2
open PySem PySem.Spec PyProof.Rows
def Cx.blk (X : Cx) (sc : Scope) (cl : List (Str × Addr)) (N' : List Str) (s3 : Shared) (H3 : Hp) (ex : List Addr) : Cx :=
  { X with N := N', s₀ := s3, H₀ := H3, env := compEnvC sc cl s3.heap.objs.size X.env, outer := X.stack, stack := X.stack, ex := ex, fn := fun _ => false, pn := [], xe := fun _ _ => False }
structure BlkOk (X : Cx) (sc : Scope) : Prop where
  kind : sc.kind = .function
  names : ∀ x ∈ sc.names, x.2 = .local → sc.names.lookup x.1 = some .local
  nocell : ∀ x ∈ sc.names, x.2 ≠ .cell
  free : ∀ x ∈ sc.names, x.2 = .free → X.env.kindOf x.1 = some .cell
theorem lookup_mem_kind {names : List (Str × NameKind)} {x : Str} {k : NameKind} (h : names.lookup x = some k) : (x, k) ∈ names := PySem.mem_of_lookup h
theorem lookup_relabel_back {env : Env} : ∀ {names : List (Str × NameKind)} {x : Str} {k : NameKind},
    (names.map fun (n, k) => if (k == NameKind.free && env.scope.kind == .function && env.kindOf n == some .cell) then (n, NameKind.cell) else (n, k)).lookup x = some k →
    names.lookup x = some k ∨ (k = .cell ∧ names.lookup x = some .free)
  | [], _, _, h => by simp at h
  | (n, k0) :: r, x, k, h => by
    have ih := @lookup_relabel_back env r x k
    change List.lookup x ((if (k0 == NameKind.free && env.scope.kind == .function && env.kindOf n == some .cell) = true then (n, NameKind.cell) else (n, k0)) :: _) = _ at h
    cases hx : x == n with
    | true =>
      by_cases hc : (k0 == NameKind.free && env.scope.kind == .function && env.kindOf n == some .cell) = true
      · rw [if_pos hc] at h
        simp only [List.lookup_cons, hx] at h
        have hk : k0 = .free := by simp only [Bool.and_eq_true, beq_iff_eq] at hc; exact hc.1.1
        cases h
        exact .inr ⟨rfl, by simp only [List.lookup_cons, hx, hk]⟩
      · rw [if_neg hc] at h
        simp only [List.lookup_cons, hx] at h
        cases h
        exact .inl (by simp only [List.lookup_cons, hx])
    | false =>
      have h' : List.lookup x (r.map fun (n, k) => if (k == NameKind.free && env.scope.kind == .function && env.kindOf n == some .cell) then (n, NameKind.cell) else (n, k)) = some k := by
        by_cases hc : (k0 == NameKind.free && env.scope.kind == .function && env.kindOf n == some .cell) = true
        · rw [if_pos hc] at h; simp only [List.lookup_cons, hx] at h; exact h
        · rw [if_neg hc] at h; simp only [List.lookup_cons, hx] at h; exact h
      simp only [List.lookup_cons, hx]
      exact ih h'
section
variable {X : Cx} {pins : List (Addr × Obj)} {σ σ' : St} {H : Hp} {s : Shared} {sc : Scope} {cl : List (Str × Addr)} {N' : List Str} {fp : List Addr}
theorem blk_start (I : Inv X pins σ H s) (B : BlkOk X sc) (c1 : ∀ x c, cl.lookup x = some c → X.env.cells.lookup x = some c) (c2 : ∀ x ∈ sc.names, x.2 = .free → ∃ c, cl.lookup x.1 = some c)
    (hf : ∀ b ∈ fp, FpOk X pins H b ∧ b < s.heap.objs.size) (hlen : σ'.length = N'.length)
    (hcap : ∀ (i : Nat) (x : Str) (v : V), N'[i]? = some x → σ'[i]? = some (some v) → Vis (relabel sc X.env) x → ∃ j : Nat, X.N[j]? = some x ∧ σ[j]? = some (some v) ∧ Vis X.env.scope x ∧ sc.names.lookup x = some .free)
    {h' : Heap} {tk : Nat} (hns : h'.Ns s.heap.objs.size (fun _ => none)) (hsb : Heap.SameBut s.heap.objs.size (s.heap.push { cls := .type "dict", data := .dict #[] }) h') :
    Inv (X.blk sc cl N' s H fp) [] σ' H { s with heap := h', toks := tk } := by
  have hk : ∀ b u, s.heap.get? b = some u → h'.get? b = some u := fun b u e => (hsb.2 b (Nat.ne_of_lt (Heap.lt_size e))).trans (Heap.get?_push_of_some _ e)
  have hcell : ∀ x c, cl.lookup x = some c → c < s.heap.objs.size := fun x c e => by
    obtain ⟨v, q⟩ := I.cell x c (c1 x c e)
    exact q.lt
  have cll : ∀ x c, cl.lookup x = some c → ∃ v, h'.IsCell c v := fun x c e => by
    obtain ⟨v, o, e1, e2⟩ := I.cell x c (c1 x c e)
    exact ⟨v, o, hk _ _ e1, e2⟩
  refine ⟨⟨I.ok.mod, B.kind, I.ok.glob, I.ok.blt, Nat.le_refl _, fun x y c e1 e2 => I.ok.inj x y c (c1 x c e1) (c1 y c e2), fun x hx => ?_, fun x c z => (by cases z), I.ok.hd, I.ok.frames, .inl rfl, fun b hb => ⟨Nat.ne_of_lt (hf b hb).2, fun x c e => (hf b hb).1.2.2.2.2.1 x c (c1 x c e)⟩,
    I.bs, ?_, fun b o e hb => ?_, fun b hb hb' => ?_, I.stack, I.stkFree⟩, rfl, I.bare, Un.kept hk, ⟨_, hns, fun i x v e1 e2 e3 => ?_⟩, cll, I.hok.fresh (Nat.le_refl _), fun x c e => I.freeC x c (c1 x c e), fun p hp => absurd (show p ∈ ([] : List (Addr × Obj)) from hp) (by simp), I.hok.kept hk, hlen⟩
  · have hx' : (relabel sc X.env).names.lookup x = some .cell ∨ (relabel sc X.env).names.lookup x = some .free := hx
    have : sc.names.lookup x = some .free := by
      rcases hx' with h | h
      · rcases lookup_relabel_back h with h | ⟨_, h⟩
        · exact absurd rfl (B.nocell _ (lookup_mem_kind h))
        · exact h
      · rcases lookup_relabel_back h with h | ⟨h0, h⟩
        · exact h
        · cases h0
    exact c2 (x, .free) (lookup_mem_kind this) rfl
  · exact Nat.le_trans I.ok.bsz I.sz
  · have := (hf b hb).1.2.2.2.1
    rcases this with z | z
    · exact I.ok.noex b o e z
    · exact absurd (Nat.lt_of_lt_of_le (Heap.lt_size e) (Nat.le_trans I.ok.bsz z)) (Nat.lt_irrefl _)
  · have := I.stkSub b hb'
    rcases List.mem_cons.mp this with z | z
    · exact (hf b hb).1.2.1 z
    · exact (hf b hb).1.2.2.1 z
  · obtain ⟨j, e4, e5, e6, e7⟩ := hcap i x v e1 e2 e3
    obtain ⟨m, hn, hl⟩ := I.loc
    obtain ⟨u, r, l⟩ := hl j x v e4 e5 e6
    refine ⟨u, r, ?_⟩
    have kf := B.free (x, .free) (lookup_mem_kind e7) rfl
    have kf' : X.env.kindOf x = some .cell := kf
    rcases l with ⟨k1, _⟩ | ⟨_, c, e8, e9⟩
    · rw [kf'] at k1; cases k1
    · obtain ⟨d, hd⟩ := c2 (x, .free) (lookup_mem_kind e7) rfl
      have hd' : cl.lookup x = some d := hd
      have := c1 x d hd'
      rw [e8] at this
      cases this
      refine .inr ⟨?_, c, hd', ?_⟩
      · rcases e3 with z | z | z
        · rcases lookup_relabel_back z with h | ⟨h0, h⟩
          · rw [e7] at h; cases h
          · cases h0
        · exact .inl z
        · exact .inr z
      · obtain ⟨o, q1, q2⟩ := e9
        exact ⟨o, hk _ _ q1, q2⟩
theorem blk_end {H' : Hp} {σ'' : St} {pins' : List (Addr × Obj)} {s' : Shared} {h'' : Heap} (I : Inv X pins σ H s) (hf : ∀ b ∈ fp, FpOk X pins H b ∧ b < s.heap.objs.size) (J : Inv (X.blk sc cl N' s H fp) pins' σ'' H' s')
    (hsb : Heap.SameBut s.heap.objs.size s'.heap h'') : Inv X pins σ H' { s' with heap := h'' } := by
  have ne : ∀ b o, s.heap.get? b = some o → b ≠ s.heap.objs.size := fun b o e => Nat.ne_of_lt (Heap.lt_size e)
  have hfree : H' s.heap.objs.size = none := J.free
  have B : Un (frs X.stack) fp H H' s.heap s'.heap := J.base
  refine I.call' (ch := fp) (s' := { s' with heap := h'' }) J.os ⟨fun b o e n hb hx => ?_, fun b o e n hb hx => ?_, B.free, fun b o e hx => ?_, B.tups, B.frzs, B.tbls⟩ (fun b o e => ?_) J.bare fun b hb => ?_
  · exact (hsb.2 b (ne b o e)).trans (B.keep b o e n hb hx)
  · obtain ⟨sl, q⟩ := B.slot b o e n hb hx
    exact ⟨sl, (hsb.2 b (ne b o e)).trans q⟩
  · obtain ⟨o', q⟩ := B.there b o e hx
    exact ⟨o', (hsb.2 b (ne b o e)).trans q⟩
  · refine (J.hok b o e).stay (fun c w' hc q => (hsb.2 c ?_).trans q) (fun _ q => q) fun _ _ q => q
    rintro rfl
    rcases hc with rfl | hc
    · rw [hfree] at e; cases e
    · rw [hfree] at hc; cases hc
  · obtain ⟨f0, f1, f2, f3, f4, f5⟩ := (hf b hb).1
    exact ⟨f3, f1, f4, f5⟩
end
abbrev TR := St → Hp → (St → Hp → Prop) → Prop
def PR (X : Cx) (rest : Sem Unit) (t : TR) : Prop :=
  ∀ (pins : List (Addr × Obj)) (s : Shared) (σ : St) (H : Hp) (N : St → Hp → Prop), Inv X pins σ H s → t σ H N → wpAny (model X.prog X.w) X.A rest (fun _ s' => ∃ σ' H', Inv X pins σ' H' s' ∧ N σ' H') X.xe s
def PTs (X : Cx) (ifs : List Expr) (t : TT) : Prop :=
  ∀ (pins : List (Addr × Obj)) (s : Shared) (σ : St) (H : Hp) (Q : Bool → Hp → Prop), Inv X pins σ H s → t σ H Q →
    wpAny (model X.prog X.w) X.A (forIn ifs true fun c r => if r = true then do let ok ← isTrue c X.env (eval c X.env); pure (ForInStep.yield ok) else pure (ForInStep.yield r)) (TP X pins σ Q) X.xe s
def tYes : TT := fun _ H Q => Q true H
theorem pts_nil {X : Cx} : PTs X [] tYes := fun _ _ _ H _ I h => wpAny_tests_nil ⟨H, I, h⟩
theorem pts_one {X : Cx} {c : Expr} {t : TT} (h : PT X c t) : PTs X [c] t := fun pins s σ H Q I q => wpAny_tests_one (h pins s σ H Q I q)
def tLoop (J : It) (g : TG) (tt : TT) (tr : TR) (Qe : St → Hp → Prop) (σ : St) (H : Hp) : Prop := ∃ W : Nat → Nat → St → Hp → Prop, (∃ m, W 0 m σ H) ∧ ∀ i m σ H, W i m σ H →
  (J.stop i H ∧ Qe σ H) ∨ (J.go i H ∧ ∃ N : St → Hp → Prop, (∀ σ' H', N σ' H' → ∃ m', m' < m ∧ W (i + 1) m' σ' H') ∧ ∀ x H', J.yld i H x H' → g x σ H' fun σ2 H2 => tt σ2 H2 fun b H3 => if b = true then tr σ2 H3 N else N σ2 H3)
theorem comp_loop {X : Cx} (hE : X.xe = fun _ _ => False) (hc : X.calm = true) {e : Expr} {d : Nat} {tg iter : Expr} {ifs : List Expr} {acc : Value} {rest : Sem Unit} {g : TG} {tt : TT} {tr : TR} {J : It} {fp : List Addr} {it : Addr} {tn : Nat → Heap → Prop}
    (heq : compTurn e d (.ref it) acc X.env = (do
      standAt iter.pos
      match ← pyNext (.ref it) with
      | none => pure (.done .next)
      | some v =>
        letOwnedTupleGo tg (.ref it) v
        assign tg X.env v
        let mut ok := true
        for c in ifs do
          if ok then ok ← isTrue c X.env (eval c X.env)
        if ok then rest
        again (.compLoop e d (.ref it) acc X.env)))
    (hq : (Code.compLoop e d (.ref it) acc X.env).quiet = true) (hu : X.A.under (.compLoop e d (.ref it) acc X.env) = X.A) (hden : (model X.prog X.w).den (.compLoop e d (.ref it) acc X.env) = (compTurn e d (.ref it) acc X.env).onRaise (fun x => do noteFrame x X.env; theTreesLotGoes x))
    (hg : PG X tg g) (ht : PTs X ifs tt) (hr : PR X rest tr) (T : Turn X.prog X.w X.K tg J fp it tn)
    {pins : List (Addr × Obj)} {σ : St} {H : Hp} {s : Shared} {Qe : St → Hp → Prop} {R : Result → Shared → Prop} (I : Inv X pins σ H s) (st : tn 0 s.heap) (f2 : ∀ b ∈ fp, FpOk X pins H b) (h : tLoop J g tt tr Qe σ H)
    (hR : ∀ s' σ' H', Inv X pins σ' H' s' → Qe σ' H' → R (.ok .next) s') :
    codeAny (model X.prog X.w) X.A (.compLoop e d (.ref it) acc X.env) R s := by
  obtain ⟨W, ⟨m0, w0⟩, turn⟩ := h
  have stat : ∀ {H' : Hp}, (∀ b ∈ fp, H' b = none) → ∀ b ∈ fp, FpOk X pins H' b := fun hn b hb => ⟨hn b hb, (f2 b hb).2⟩
  have no : ∀ {α : Type} {t : Sem α} {Q : α → Shared → Prop} {s : Shared} {E : Value → Shared → Prop}, wpAny (model X.prog X.w) X.A t Q X.xe s → wpAny (model X.prog X.w) X.A t Q E s := fun {α t Q s E} h =>
    wpAny_mono h (fun _ _ x => x) fun _ _ x => by rw [hE] at x; exact x.elim
  refine codeAny_loop hq (fun n s' => ∃ i σ' H', Inv X pins σ' H' s' ∧ tn i s'.heap ∧ (∀ b ∈ fp, H' b = none) ∧ W i n σ' H') (fun n s3 hI => ?_) m0 ⟨0, σ, H, I, st, fun b hb => (f2 b hb).1, w0⟩
  rw [hu, hden]
  refine wpAny_noted ?_
  rw [heq]
  obtain ⟨i, σ3, H3, I3, st3, fr3, w3⟩ := hI
  refine wpAny_bind (wpAny_standAt (wpAny_bind ?_))
  rcases turn i n σ3 H3 w3 with ⟨stop, qn⟩ | ⟨go, N, hN, step⟩
  · refine no (thn (T.done X rfl rfl rfl hc i pins s3 σ3 H3 X.xe I3 (stat fr3) st3 stop) fun r s4 ⟨hr4, I4⟩ => ?_)
    subst hr4
    exact wpAny_pure (hR _ _ _ I4 qn)
  · refine no (thn (T.item X rfl rfl rfl hc i pins s3 σ3 H3 X.xe I3 (stat fr3) st3 go) fun r s4 ⟨u, hr4, h4⟩ => ?_)
    subst hr4
    refine wpAny_bind (no (thn h4 fun _ s5 ⟨x, H5, I5, r5, y5, st5, fr5⟩ => ?_))
    have I5' := I5.pinned (stat fr5) (T.obj _ _ st5)
    refine wpAny_bind (no (thn (hg _ s5 σ3 H5 x u _ I5' r5 (step x H5 y5)) fun _ s6 ⟨σ6, H6, I6, q6⟩ => ?_))
    have again : ∀ {σ7 : St} {H7 : Hp} {s7 : Shared}, Inv X (pins ++ pinsAt fp s5.heap) σ7 H7 s7 → N σ7 H7 → ∃ m, m < n ∧ ∃ i σ' H', Inv X pins σ' H' s7 ∧ tn i s7.heap ∧ (∀ b ∈ fp, H' b = none) ∧ W i m σ' H' := fun {σ7 H7 s7} I7 n7 => by
      obtain ⟨m', hm, w7⟩ := hN σ7 H7 n7
      refine ⟨m', hm, i + 1, σ7, H7, I7.unpinned, T.keep _ _ _ st5 fun b hb o e => (I7.pin (b, o) (List.mem_append_right _ (List.mem_append_right _ (mem_pinsAt hb e)))).1, fun b hb => ?_, w7⟩
      obtain ⟨o, e, dd⟩ := T.obj _ _ st5 b hb
      exact (I7.pin (b, o) (List.mem_append_right _ (List.mem_append_right _ (mem_pinsAt hb e)))).2.1
    refine wpAny_bind (no (thn (ht _ s6 σ6 H6 _ I6 q6) fun ok s7 ⟨H7, I7, q7⟩ => ?_))
    cases ok with
    | false =>
      rw [if_neg (by simp)] at q7
      exact wpAny_pure ⟨rfl, again I7 q7⟩
    | true =>
      rw [if_pos rfl] at q7
      refine wpAny_bind (no (thn (hr _ s7 σ6 H7 _ I7 q7) fun _ s8 ⟨σ8, H8, I8, q8⟩ => ?_))
      exact wpAny_pure ⟨rfl, again I8 q8⟩
end L2
namespace L2
open PySem PySem.Spec PyProof.Rows
def tApp (p : Addr) (te : TE) : TR := fun σ H N => te σ H fun v H5 => ∃ ys, H5 p = some (.lst ys) ∧ ys.length < sizeLine ∧ N σ (upd H5 p (.lst (ys ++ [v])))
theorem pr_app {X : Cx} {elt : Expr} {te : TE} {p : Addr} (he : PE X elt te) : PR X (do let _ ← call (.builtin "list.append") [.ref p, ← eval elt X.env]) (tApp p te) := by
  intro pins s σ H N I h
  refine wpAny_bind (thn (he pins s σ H _ I h) fun u s1 ⟨v, H1, I1, r1, ys, hp, hl, q1⟩ => ?_)
  refine wpAny_bind (thn (mt_append pins s1 σ H1 (.ref p) [v] _ [u] (fun _ H2 => N σ H2) I1 rfl (.cons r1 .nil) ⟨p, ys, v, rfl, rfl, hp, hl, q1⟩) fun _ s2 ⟨_, H2, I2, _, q2⟩ => ?_)
  exact wpAny_pure ⟨σ, H2, I2, q2⟩
def capSt (σ : St) : List (Option Nat) → St
  | [] => []
  | none :: js => none :: capSt σ js
  | some j :: js => (σ[j]?).join :: capSt σ js
def CapsOk (X : Cx) (sc : Scope) : List Str → List (Option Nat) → Prop
  | [], [] => True
  | _ :: xs, none :: js => CapsOk X sc xs js
  | x :: xs, some j :: js => X.N[j]? = some x ∧ Vis X.env.scope x ∧ sc.names.lookup x = some .free ∧ CapsOk X sc xs js
  | _, _ => False
theorem CapsOk.len {X : Cx} {sc : Scope} {σ : St} : ∀ {N' : List Str} {js : List (Option Nat)}, CapsOk X sc N' js → (capSt σ js).length = N'.length
  | [], [], _ => rfl
  | _ :: xs, none :: js, h => by simp only [capSt, List.length_cons]; rw [CapsOk.len (N' := xs) (js := js) h]
  | x :: xs, some j :: js, h => by simp only [capSt, List.length_cons]; rw [CapsOk.len (N' := xs) (js := js) h.2.2.2]
  | [], _ :: _, h => by cases h
  | _ :: _, [], h => by cases h
theorem CapsOk.get {X : Cx} {sc : Scope} {σ : St} : ∀ {N' : List Str} {js : List (Option Nat)} {i : Nat} {x : Str} {v : V}, CapsOk X sc N' js → N'[i]? = some x → (capSt σ js)[i]? = some (some v) →
    ∃ j : Nat, X.N[j]? = some x ∧ σ[j]? = some (some v) ∧ Vis X.env.scope x ∧ sc.names.lookup x = some .free
  | [], [], i, x, v, _, h1, _ => by simp at h1
  | y :: xs, none :: js, 0, x, v, h, h1, h2 => by simp [capSt] at h2
  | y :: xs, none :: js, i + 1, x, v, h, h1, h2 => CapsOk.get (N' := xs) (js := js) (i := i) h (by simpa using h1) (by simpa [capSt] using h2)
  | y :: xs, some j :: js, 0, x, v, h, h1, h2 => by
    have e1 : y = x := by simpa using h1
    subst e1
    refine ⟨j, h.1, ?_, h.2.1, h.2.2.1⟩
    have e2 : (σ[j]?).join = some v := by simpa [capSt] using h2
    cases q : σ[j]? with
    | none => rw [q] at e2; cases e2
    | some o => rw [q] at e2; exact congrArg some e2
  | y :: xs, some j :: js, i + 1, x, v, h, h1, h2 => CapsOk.get (N' := xs) (js := js) (i := i) h.2.2.2 (by simpa using h1) (by simpa [capSt] using h2)
  | [], _ :: _, _, _, _, h, _, _ => by cases h
  | _ :: _, [], _, _, _, h, _, _ => by cases h
def tComp (js : List (Option Nat)) (wi : TI) (g : TG) (tt : TT) (te : TE) : TE := fun σ H Q => wi σ H fun J H1 => ∀ p, H1 p = none → tLoop J g tt (tApp p te) (fun _ H' => Q (.ref p) H') (capSt σ js) (upd H1 p (.lst []))
section
variable {X : Cx} {elt tg iter : Expr} {ifs : List Expr} {sc : Scope} {pos : Pos} {N' : List Str} {js : List (Option Nat)} {wi : TI} {g : TG} {tt : TT} {te : TE}
theorem comp1_block (hc : X.calm = true) (B : BlkOk X sc) (C : CapsOk X sc N' js) {cl : List (Str × Addr)}
    (c1 : ∀ x c, cl.lookup x = some c → X.env.cells.lookup x = some c) (c2 : ∀ x ∈ sc.names, x.2 = .free → ∃ c, cl.lookup x.1 = some c)
    (hg : ∀ cl s H fp, PG (X.blk sc cl N' s H fp) tg g) (ht : ∀ cl s H fp, PTs (X.blk sc cl N' s H fp) ifs tt) (he : ∀ cl s H fp, PE (X.blk sc cl N' s H fp) elt te)
    {pins : List (Addr × Obj)} {σ : St} {H : Hp} {s : Shared} {Qe : Addr → Hp → Prop} {it : Addr} {fp : List Addr} {tn : Nat → Heap → Prop} {J : It} {RR : Value → Addr → Result → Shared → Prop}
    (I : Inv X pins σ H s) (T : Turn X.prog X.w X.K tg J fp it tn) (st : tn 0 s.heap) (hf : ∀ b ∈ fp, FpOk X pins H b)
    (h : ∀ p, H p = none → tLoop J g tt (tApp p te) (fun _ H' => Qe p H') (capSt σ js) (upd H p (.lst [])))
    (hRR : ∀ p C s' H', C ≠ p → (∀ b o, s.heap.get? b = some o → b ≠ C) → H' C = none → (∃ m, s'.heap.Ns C m) → Qe p H' → (∀ h'', Heap.SameBut C s'.heap h'' → Inv X pins σ H' { s' with heap := h'' }) → FpOk X pins H' C → RR (.ref p) C (.ok .next) s') :
    wpAny (model X.prog X.w) X.A (newList []) (fun acc s₃ => wpAny (model X.prog X.w) X.A (newFunctionEnv sc X.env.globals cl [] X.env.qual none .none (some X.env)) (fun cenv s₄ =>
      codeAny (model X.prog X.w) X.A (.compStart (.ListComp elt [⟨tg, iter, ifs, 0⟩] sc pos) 0 (.ref it) acc { cenv with scope := relabel sc X.env }) (RR acc cenv.locals) s₄) X.xe s₃) X.xe s := by
  refine wpAny_newObj_type ?_
  have I3 := I.lnew (ys := []) (its := []) (t' := s.toks) .nil (by simp)
  generalize hs3 : ({ s with heap := s.heap.push { cls := .type "list", data := .seq ([] : List Value).toArray }, toks := s.toks } : Shared) = s3 at I3
  have hp : H s.heap.objs.size = none := I.fresh
  have h3 := h _ hp
  have f3 : ∀ b ∈ fp, FpOk X pins (upd H s.heap.objs.size (.lst [])) b ∧ b < s3.heap.objs.size := fun b hb => by
    obtain ⟨f0, f1⟩ := hf b hb
    obtain ⟨o, e, _⟩ := T.obj _ _ st b hb
    have lt := Heap.lt_size e
    refine ⟨⟨by rw [upd_ne (Nat.ne_of_lt lt)]; exact f0, f1⟩, ?_⟩
    rw [← hs3]
    show b < (s.heap.push _).objs.size
    rw [Heap.size_push]
    exact Nat.lt_succ_of_lt lt
  have hsz : s3.heap.objs.size = s.heap.objs.size + 1 := by rw [← hs3]; exact Heap.size_push ..
  have hst3 : tn 0 s3.heap := by rw [← hs3]; exact T.keep _ _ _ st fun b hb o e => Heap.get?_push_of_some _ e
  refine wpAny_newFunctionEnv B.nocell (by intro y hy; simp at hy) (fun h₁ hns₁ hsb₁ => ?_) B.kind
  have J4 := blk_start (cl := cl) (N' := N') (σ' := capSt σ js) (tk := s3.toks + ([] : List (Str × Value)).length) I3 B c1 c2 f3 C.len (fun i x v e1 e2 _ => C.get e1 e2) (show h₁.Ns s3.heap.objs.size (fun _ => none) from hns₁) (show Heap.SameBut s3.heap.objs.size (s3.heap.push { cls := .type "dict", data := .dict #[] }) h₁ from hsb₁)
  have hst4 : tn 0 h₁ := T.keep _ _ _ hst3 fun b hb o e => (hsb₁.2 b (Nat.ne_of_lt (Heap.lt_size e))).trans (Heap.get?_push_of_some _ e)
  have f4 : ∀ b ∈ fp, FpOk (X.blk sc cl N' s3 (upd H s.heap.objs.size (.lst [])) fp) [] (upd H s.heap.objs.size (.lst [])) b := fun b hb => by
    obtain ⟨⟨g0, g1, g2, g3, g4, g5⟩, lt⟩ := f3 b hb
    refine ⟨g0, Nat.ne_of_lt lt, fun z => ?_, .inl hb, fun x c e => g4 x c (c1 x c e), fun p hp => absurd (show p ∈ ([] : List (Addr × Obj)) from hp) (by simp)⟩
    rcases List.mem_cons.mp (I3.stkSub b z) with z | z
    · exact g1 z
    · exact g2 z
  have loop : codeAny (model X.prog X.w) X.A (.compLoop (.ListComp elt [⟨tg, iter, ifs, 0⟩] sc pos) 0 (.ref it) (.ref s.heap.objs.size) (compEnvC sc cl s3.heap.objs.size X.env)) (RR (.ref s.heap.objs.size) s3.heap.objs.size) { s3 with heap := h₁, toks := s3.toks + ([] : List (Str × Value)).length } := by
    refine comp_loop (X := X.blk sc cl N' s3 (upd H s.heap.objs.size (.lst [])) fp) rfl hc (compTurn_list ..) rfl rfl rfl (hg _ _ _ _) (ht _ _ _ _) (pr_app (he _ _ _ _)) T J4 hst4 f4 h3 fun s' σ' H' J' q => ?_
    have hend : ∀ h'', Heap.SameBut s3.heap.objs.size s'.heap h'' → Inv X pins σ H' { s' with heap := h'' } := fun h'' hs'' => blk_end I3 f3 J' hs''
    obtain ⟨m, hn, _⟩ := J'.loc
    refine hRR _ _ _ H' (by rw [hsz]; exact Nat.succ_ne_self _) (fun b o e => ?_) J'.free ⟨m, hn⟩ q hend (I3.fpOk (Nat.le_refl _) J'.free)
    rw [hsz]
    exact Nat.ne_of_lt (Nat.lt_succ_of_lt (Heap.lt_size e))
  exact codeAny_compStart_list loop (T.self _ 0 _ _ _ hst4 loop)
theorem pe_comp1 (hE : X.xe = fun _ _ => False) (hc : X.calm = true) (B : BlkOk X sc) (C : CapsOk X sc N' js) (hi : PI X tg iter wi) (hg : ∀ cl s H fp, PG (X.blk sc cl N' s H fp) tg g) (ht : ∀ cl s H fp, PTs (X.blk sc cl N' s H fp) ifs tt) (he : ∀ cl s H fp, PE (X.blk sc cl N' s H fp) elt te)
    (hs : ∀ x, foldedSetIterable iter X.env x = pure x := by intro _; rfl) : PE X (.ListComp elt [⟨tg, iter, ifs, 0⟩] sc pos) (tComp js wi g tt te) := by
  intro pins s σ H Q I h
  obtain ⟨cl, hcl, c1, c2⟩ := closure_ok X.env sc fun x hx hfr => I.ok.has x.1 (.inl (B.free x hx hfr))
  rw [eval_ListComp]
  refine wpAny_comprehension_free (use := none) rfl hs hcl B.kind B.names (thn (hi pins s σ H _ I h) fun v s1 h1 => thn h1 fun itv s2 h2 => ?_)
  obtain ⟨it, fp, tn, J, H2, e, I2, T, st2, f2, h2⟩ := h2
  subst e
  refine comp1_block (Qe := fun p H' => Q (.ref p) H') (RR := fun acc C => compPost (model X.prog X.w) X.A X.xe none (EP X pins σ Q) acc C) hc B C c1 c2 hg ht he I2 T st2 f2 h2 ?_
  intro p C s' H' hne hold hfree hns q hend _
  obtain ⟨m, hn⟩ := hns
  exact ⟨m, hn, fun h'' hs'' => ⟨.ref p, H', hend h'' hs'', rfl, q⟩⟩
def tSetComp (i : Nat) (js : List (Option Nat)) (wi : TI) (g : TG) (tt : TT) (te : TE) : TS := fun D σ H => tComp js wi g tt te σ H fun v H' => D.nx (σ.set i (some v)) H'
theorem ps_setcomp1 {i : Nat} {y : Str} {py spos : Pos} (hE : X.xe = fun _ _ => False) (hc : X.calm = true) (hN : X.N.Nodup) (hi' : X.N[i]? = some y) (hx : Loc X.env.scope y) (B : BlkOk X sc) (C : CapsOk X sc N' js) (hi : PI X tg iter wi) (hg : ∀ cl s H fp, PG (X.blk sc cl N' s H fp) tg g) (ht : ∀ cl s H fp, PTs (X.blk sc cl N' s H fp) ifs tt) (he : ∀ cl s H fp, PE (X.blk sc cl N' s H fp) elt te)
    (hsw : swapsWith (.ListComp elt [⟨tg, iter, ifs, 0⟩] sc pos) (some (.Name y py)) spos.line X.env = pure true := by rfl)
    (hs : ∀ x, foldedSetIterable iter X.env x = pure x := by intro _; rfl) (hf : X.fn y = true ∨ X.env.scope.names.lookup y = some .local := by first | exact .inl rfl | exact .inr rfl | assumption) : PS X (.Assign [.Name y py] (.ListComp elt [⟨tg, iter, ifs, 0⟩] sc pos) spos) (tSetComp i js wi g tt te) := by
  intro pins s σ H D I h
  obtain ⟨cl, hcl, c1, c2⟩ := closure_ok X.env sc fun x hx hfr => I.ok.has x.1 (.inl (B.free x hx hfr))
  rw [exec_Assign_Name_used _ _ _ _ hsw]
  refine wpAny_bind (wpAny_standAt (wpAny_bind ?_))
  show wpAny _ X.A (do let _ ← comprehension (.ListComp elt [⟨tg, iter, ifs, 0⟩] sc pos) sc X.env _ (newList []) false (eval iter X.env) (some (assign (.Name y py) X.env))) _ _ s
  refine wpAny_bind (thn (wpAny_comprehension_free (use := some (assign (.Name y py) X.env)) (Q := fun _ s' => SP X pins D .next s') rfl hs hcl B.kind B.names (thn (hi pins s σ H _ I h) fun v s1 h1 => thn h1 fun itv s2 h2 => ?_)) fun _ s' hq => wpAny_pure (wpAny_pure hq))
  obtain ⟨it, fp, tn, J, H2, e, I2, T, st2, f2, h2⟩ := h2
  subst e
  refine comp1_block (Qe := fun p H' => D.nx (σ.set i (some (.ref p))) H') (RR := fun acc C => compPost (model X.prog X.w) X.A X.xe (some (assign (.Name y py) X.env)) (fun _ s' => SP X pins D .next s') acc C) hc B C c1 c2 hg ht he I2 T st2 f2 h2 ?_
  intro p C s' H' hne hold hfree hns q hend fpC
  obtain ⟨m, hn⟩ := hns
  have I4 : Inv X pins σ H' s' := hend s'.heap (.refl ..)
  obtain ⟨f0, f1, f2', f3, f4, f5⟩ := fpC
  show wpAny _ X.A (assign (.Name y py) X.env (.ref p)) _ _ s'
  refine wpAny_assign_Name (store_ok2 (v := .ref p) I4 hN hi' hx rfl (fun s'' I5 ⟨a, hsa, ha⟩ => ?_) hf)
  have hCa : C ≠ a := by
    rcases ha with rfl | ha
    · exact f1
    · exact fun z => f4 y a ha z.symm
  refine ⟨m, hn.sameBut hsa hCa, fun h'' hs'' => ⟨_, H', I5.turned (t' := s''.toks) (it := C) (fun b o hb e => (hs''.2 b hb).trans e) f0 f1 f3 f4 f5, q⟩⟩
end
end L2
namespace L2
open PySem PySem.Spec PyProof.Rows
section
variable {X : Cx} {e : Expr} {tg : Expr} {sc : Scope} {N' : List Str} {js : List (Option Nat)}
end
end L2
namespace L2
open PySem PySem.Spec PyProof.Rows
section
variable {X : Cx}
theorem vals_bl : ∀ {bs : List Bool} {us : List Value}, Vals (bs.map V.bl) us → us = bs.map Value.bool
  | [], _, .nil => rfl
  | b :: bs, _, .cons r t => by
    have e := vals_bl (bs := bs) t
    cases r
    rw [e]
    rfl
theorem truth_bl {prog : Program} {w : World} {A : Around} (bs : List Bool) : TruthOf prog w A (fun i v => (bs.map Value.bool).toArray[i]? = some v) (fun i => bs.getD i false) := by
  intro i v s Q E hP hQ
  have e : (bs.map Value.bool)[i]? = some v := by simpa using hP
  rw [List.getElem?_map] at e
  cases hb : bs[i]? with
  | none => rw [hb] at e; cases e
  | some b =>
    rw [hb] at e
    cases e
    have : bs.getD i false = b := by rw [List.getD_eq_getElem?_getD, hb]; rfl
    have hQ' : Q (bs.getD i false) s := hQ
    rw [this] at hQ'
    exact wpAny_truthy_bool hQ'
theorem range_any (bs : List Bool) : (List.range bs.length).any (fun i => bs.getD i false) = bs.any id := by
  rw [Bool.eq_iff_iff, List.any_eq_true, List.any_eq_true]
  constructor
  · rintro ⟨i, hi, h⟩
    have hi := List.mem_range.mp hi
    exact ⟨bs[i], List.getElem_mem hi, by simpa [hi] using h⟩
  · rintro ⟨b, hb, h⟩
    obtain ⟨i, hi, rfl⟩ := List.mem_iff_getElem.mp hb
    exact ⟨i, List.mem_range.mpr hi, by simpa [hi] using h⟩
theorem call_any (hc : X.calm = true) : CallR X (.builtin "any") (fun xs H Q => ∃ (p : Addr) (bs : List Bool), xs = [.ref p] ∧ SqL X.K H p (bs.map V.bl) ∧ Q (.bl (bs.any id)) H) := by
  intro pins s σ H xs us Q I r h
  obtain ⟨p, bs, rfl, hq, q⟩ := h
  obtain ⟨u, rfl, ru⟩ := vals1 r
  cases ru
  obtain ⟨its, rv, pl, hz⟩ := I.list hq
  have e := vals_bl rv
  subst e
  have lt : p < s.heap.objs.size := by obtain ⟨o, n, e, _⟩ := pl; exact Heap.lt_size e
  refine call_any_walk (wpAny_pyIter_list pl.isList ⟨s.heap.objs.size, _, [s.heap.objs.size], _, _, _, fun i => bs.getD i false, rfl, Walks.list (A := X.A.in1) (show X.A.in1.handled = none from I.ok.hd hc) _ p (Nat.ne_of_lt lt) (bs.map Value.bool).toArray, ⟨⟨_, Heap.get?_push_size _ rfl, rfl, rfl⟩, ?_⟩, truth_bl bs, fun h' tk hk => ?_⟩)
  · exact pl.isList.at fun o e => Heap.get?_push_of_some _ e
  · have el : (bs.map Value.bool).toArray.size = bs.length := by simp
    rw [el, range_any]
    refine ⟨.bl _, H, I.kept (t' := tk) fun b o e => hk b o ?_ (Heap.get?_push_of_some _ e), rfl, q⟩
    intro hb
    have e2 : b = s.heap.objs.size := by simpa using hb
    exact absurd (e2 ▸ Heap.lt_size e) (Nat.lt_irrefl _)
def stAt (x y : Str) (k : Nat) : Bool := decide (k + y.length ≤ x.length) && Builtin.Str.subAt x y k
theorem mt_startswith : MtR X "str.startswith" (fun x vs H Q => ∃ a b, x = .str a ∧ vs = [.str b] ∧ Q (.bl (stAt a b 0)) H) := by
  intro pins s σ H x vs v us Q I rx rv h
  obtain ⟨a, b, rfl, rfl, q⟩ := h
  obtain ⟨t, rfl⟩ := rx
  obtain ⟨u, rfl, t', rfl⟩ := rv.one
  exact call_gives F.slot_str_startswith (typeIs_str s a t) F.entry_str_startswith (F.args_str_startswith_2 _ _) (gives_str_startswith a b t t') ⟨.bl _, H, I, rfl, q⟩
theorem mt_startswith_from : MtR X "str.startswith" (fun x vs H Q => ∃ a b k, x = .str a ∧ vs = [.str b, .int (k : Nat)] ∧ Q (.bl (stAt a b k)) H) := by
  intro pins s σ H x vs v us Q I rx rv h
  obtain ⟨a, b, k, rfl, rfl, q⟩ := h
  obtain ⟨t, rfl⟩ := rx
  obtain ⟨u, u2, rfl, ⟨t', rfl⟩, ⟨t2, rfl⟩⟩ := rv.two
  refine call_gives F.slot_str_startswith (typeIs_str s a t) F.entry_str_startswith (F.args_str_startswith_3 _ _ _) (gives_str_startswith_from a b k t t' t2) ?_
  have e : fromIndex a.length (k : Int) = k := by unfold fromIndex; rw [if_neg (by omega)]; omega
  rw [e]
  exact ⟨.bl _, H, I, rfl, q⟩
end
end L2
namespace L2
open PySem PySem.Spec PyProof.Rows
section
variable {X : Cx} {e : Expr} {tg : Expr} {sc : Scope} {N' : List Str} {js : List (Option Nat)}
end
end L2
namespace L2
open PySem PySem.Spec PyProof.Rows
def ddS (acc : List Str) (x : Str) : List Str := if x ∈ acc then acc else acc ++ [x]
def dd (xs : List Str) : List Str := xs.foldl ddS []
theorem dd_snoc (xs : List Str) (x : Str) : dd (xs ++ [x]) = ddS (dd xs) x := by unfold dd; rw [List.foldl_append]; rfl
theorem mem_ddS {acc : List Str} {x k : Str} : k ∈ ddS acc x ↔ k ∈ acc ∨ k = x := by
  unfold ddS
  split
  · constructor
    · exact .inl
    · rintro (h | rfl)
      · exact h
      · assumption
  · simp
theorem mem_foldl {xs : List Str} : ∀ {acc : List Str} {k : Str}, k ∈ xs.foldl ddS acc ↔ k ∈ acc ∨ k ∈ xs := by
  induction xs with
  | nil => intro acc k; simp
  | cons x r ih =>
    intro acc k
    rw [List.foldl_cons, ih, mem_ddS]
    simp only [List.mem_cons]
    constructor
    · rintro ((h | h) | h)
      · exact .inl h
      · exact .inr (.inl h)
      · exact .inr (.inr h)
    · rintro (h | h | h)
      · exact .inl (.inl h)
      · exact .inl (.inr h)
      · exact .inr h
theorem mem_dd {xs : List Str} {k : Str} : k ∈ dd xs ↔ k ∈ xs := by unfold dd; rw [mem_foldl]; simp
theorem len_ddS (acc : List Str) (x : Str) : (ddS acc x).length = if x ∈ acc then acc.length else acc.length + 1 := by
  unfold ddS
  split <;> simp
theorem len_foldl : ∀ (xs acc : List Str), (xs.foldl ddS acc).length ≤ acc.length + xs.length ∧ ((xs.foldl ddS acc).length = acc.length + xs.length ↔ (xs.Nodup ∧ ∀ x ∈ xs, x ∉ acc))
  | [], acc => by simp
  | x :: r, acc => by
    obtain ⟨h1, h2⟩ := len_foldl r (ddS acc x)
    rw [List.foldl_cons]
    have h3 := len_ddS acc x
    simp only [List.length_cons]
    by_cases hx : x ∈ acc
    · rw [if_pos hx] at h3
      refine ⟨by omega, ⟨fun h => by omega, fun ⟨_, h⟩ => absurd hx (h x List.mem_cons_self)⟩⟩
    · rw [if_neg hx] at h3
      refine ⟨by omega, ?_⟩
      constructor
      · intro h
        obtain ⟨a, b⟩ := h2.mp (by omega)
        refine ⟨List.nodup_cons.mpr ⟨fun hm => b x hm (mem_ddS.mpr (.inr rfl)), a⟩, fun y hy => ?_⟩
        rcases List.mem_cons.mp hy with rfl | hy
        · exact hx
        · exact fun hm => b y hy (mem_ddS.mpr (.inl hm))
      · rintro ⟨a, b⟩
        obtain ⟨a1, a2⟩ := List.nodup_cons.mp a
        have := h2.mpr ⟨a2, fun y hy hm => by
          rcases mem_ddS.mp hm with h | h
          · exact b y (List.mem_cons_of_mem _ hy) h
          · exact a1 (h ▸ hy)⟩
        omega
theorem dd_len (xs : List Str) : (dd xs).length ≤ xs.length := by have := (len_foldl xs []).1; simpa [dd] using this
theorem dd_all (xs : List Str) : (dd xs).length = xs.length ↔ xs.Nodup := by
  have := (len_foldl xs []).2
  simpa [dd] using this
def setL (P : Program) (w : World) (p : Addr) (xs : List Str) : HO := .ext fun h => h.SetOf (strKind P w) p (fun k => decide (k ∈ xs)) (dd xs).length
theorem setL_ok {P : Program} {w : World} {H : Hp} {h : Heap} {p : Addr} {xs : List Str} (hS : h.SetOf (strKind P w) p (fun k => decide (k ∈ xs)) (dd xs).length) : ObjOk P w H h p (setL P w p xs) := by
  refine ⟨hS, ?_, fun h1 h2 q k => ?_⟩
  · obtain ⟨o, _, _, _, e, _⟩ := hS
    exact ⟨o, e⟩
  · obtain ⟨o, es, ep, t, e, r⟩ := q
    exact ⟨o, es, ep, t, k o e, r⟩
theorem setL_add (xs : List Str) (x : Str) : (fun k => decide (k ∈ xs) || decide (k = x)) = fun k => decide (k ∈ xs ++ [x]) := by
  funext k
  rw [Bool.eq_iff_iff]
  simp
theorem setL_len (xs : List Str) (x : Str) : (if decide (x ∈ xs) = true then (dd xs).length else (dd xs).length + 1) = (dd (xs ++ [x])).length := by
  rw [dd_snoc, len_ddS]
  by_cases h : x ∈ xs
  · rw [if_pos (decide_eq_true h), if_pos (mem_dd.mpr h)]
  · rw [if_neg (by simp [h]), if_neg (fun z => h (mem_dd.mp z))]
section
variable {X : Cx}
theorem call_len_setL : CallR X (.builtin "len") (fun vs H Q => ∃ p xs, vs = [.ref p] ∧ H p = some (setL X.prog X.w p xs) ∧ Q (.int (dd xs).length) H) := by
  intro pins s σ H vs us Q I r h
  obtain ⟨p, xs, rfl, hp, q⟩ := h
  obtain ⟨u, rfl, ru⟩ := vals1 r
  cases ru
  obtain ⟨hS, _, _⟩ := I.hok p _ hp
  obtain ⟨o, es, ep, t, e, hex, hd, _, _, hb, hf, hn⟩ := (show s.heap.SetOf (strKind X.prog X.w) p (fun k => decide (k ∈ xs)) (dd xs).length from hS)
  refine call_len_set e hex hd hf (by unfold scanBound at hb; omega) ?_
  rw [hn]
  exact ⟨.int _, H, I.tok _, ⟨_, rfl⟩, q⟩
end
end L2
namespace L2
open PySem PySem.Spec PyProof.Rows
theorem upd_loopT {P : Program} {w : World} {A : Around} {R : Result → Shared → Prop} {I S l : Addr} {its : List Value} {xs : List Str} (hh : A.in1.handled = none) (hlI : l ≠ I) (hSI : S ≠ I) (hSl : S ≠ l) (hv : ∀ (i : Nat) v, its[i]? = some v → ∃ x t, xs[i]? = some x ∧ v = .str x t) (hlen : its.length = xs.length) (hb : xs.length + 1 < scanBound) :
    ∀ (k i : Nat) (s : Shared), xs.length - i = k → i ≤ xs.length → s.heap.IsListIter I l i → s.heap.IsList l its.toArray → s.heap.SetOf (PySem.strKind P w) S (fun k' => decide (k' ∈ xs.take i)) (dd (xs.take i)).length →
      (∀ h' tk, (∀ b o, b ≠ S → b ≠ I → s.heap.get? b = some o → h'.get? b = some o) → h'.SetOf (PySem.strKind P w) S (fun k' => decide (k' ∈ xs)) (dd xs).length → R (.ok (.ret .none)) { s with heap := h', toks := tk }) →
      codeAny (model P w) A (.builtin "set.update.loop" ⟨[.ref S, .ref I], []⟩) R s := by
  intro k
  induction k with
  | zero =>
    intro i s hk hi it ls hS hR
    have e : i = xs.length := by omega
    subst e
    refine codeAny_builtin PyProof.Rows.F.entry_set_update_loop ?_
    rw [Around.under_plainId PyProof.Rows.F.plain_set_update_loop _]
    show wpAny _ A.in1 (pyNext (.ref I) >>= _) _ _ s
    refine wpAny_bind (wpAny_pyNext_list_end hh it ls (by simp [hlen]) fun h' eb => ?_)
    show wpAny _ A.in1 (ret Value.none) _ _ _
    refine wpAny_pure (hR h' s.toks (fun b o _ h2 e => eb b o h2 e) ?_)
    rw [List.take_length] at hS
    obtain ⟨o, es, ep, t, ho, rest⟩ := hS
    exact ⟨o, es, ep, t, eb S o hSI ho, rest⟩
  | succ k ih =>
    intro i s hk hi it ls hS hR
    have lt : i < xs.length := by omega
    have lt' : i < its.length := by omega
    refine codeAny_builtin PyProof.Rows.F.entry_set_update_loop ?_
    rw [Around.under_plainId PyProof.Rows.F.plain_set_update_loop _]
    show wpAny _ A.in1 (pyNext (.ref I) >>= _) _ _ s
    refine wpAny_bind (wpAny_pyNext_list_item it ls (x := its[i]) (by simp [lt']) fun h' it' sb => ?_)
    obtain ⟨x, t, hx, ev⟩ := hv i its[i] (by simp [lt'])
    rw [ev]
    have hS1 : h'.SetOf (PySem.strKind P w) S (fun k' => decide (k' ∈ xs.take i)) (dd (xs.take i)).length := by
      obtain ⟨o, es, ep, tb, ho, rest⟩ := hS
      exact ⟨o, es, ep, tb, (sb.2 S hSI).trans ho, rest⟩
    have ls1 : h'.IsList l its.toArray := ls.extBut sb.extBut hlI
    show wpAny _ A.in1 (holding [Value.str x t] (setAdd S (.str x t)) >>= _) _ _ { s with heap := h' }
    refine wpAny_bind (wpAny_holding ?_)
    unfold setAdd
    refine wpAny_holding ?_
    have hkey : (PySem.strKind P w).is x (.str x t) = true := by simp [PySem.strKind, Value.isStrOf]
    refine wpAny_bind ((PySem.strKind P w).pyHash hkey ?_)
    have hroom : (dd (xs.take i)).length + 1 < scanBound := by
      have := dd_len (xs.take i)
      rw [List.length_take] at this
      omega
    refine wpAny_setAddHashed_of (knd := PySem.strKind P w) (s := { s with heap := h', toks := s.toks + 1 }) hkey rfl hS1 hroom fun h2 sb2 hS2 => ?_
    have et : xs.take i ++ [x] = xs.take (i + 1) := by rw [List.take_add_one, hx]; rfl
    have hS3 : h2.SetOf (PySem.strKind P w) S (fun k' => decide (k' ∈ xs.take (i + 1))) (dd (xs.take (i + 1))).length := by
      rw [← et]
      exact SetOf_congr hS2 (fun k' => congrFun (setL_add (xs.take i) x) k') (setL_len (xs.take i) x)
    refine wpAny_pure ⟨plainId_quiet PyProof.Rows.F.plain_set_update_loop _, ih (i + 1) _ (by omega) lt (it'.extBut sb2.extBut (Ne.symm hSI)) (ls1.extBut sb2.extBut (Ne.symm hSl)) hS3 fun h3 tk q hS4 => ?_⟩
    exact hR h3 tk (fun b o h1 h2' e => q b o h1 h2' ((sb2.2 b h1).trans ((sb.2 b h2').trans e))) hS4
end L2
namespace L2
open PySem PySem.Spec PyProof.Rows
section
variable {prog : Program} {w : World} {A : Around} {E : Value → Shared → Prop} {s : Shared}
set_option maxHeartbeats 3200000 in
theorem set_of_texts {l : Addr} {its : List Value} {xs : List Str} {Q : Value → Shared → Prop} (hh : A.handled = none) (hl : s.heap.IsList l its.toArray)
    (hv : ∀ (i : Nat) v, its[i]? = some v → ∃ x t, xs[i]? = some x ∧ v = .str x t) (hlen : its.length = xs.length) (hb : xs.length + 1 < scanBound)
    (h : ∀ (h' : Heap) (tk : Nat), h'.SetOf (PySem.strKind prog w) s.heap.objs.size (fun k' => decide (k' ∈ xs)) (dd xs).length →
      (∀ b o, s.heap.get? b = some o → h'.get? b = some o) → Q (.ref s.heap.objs.size) { s with heap := h', toks := tk }) :
    wpAny (model prog w) A (call (.type "set") [.ref l]) Q E s := by
  obtain ⟨c, tl, hmro⟩ := F.called_set.mro
  have hmade := F.called_set.made
  have hsub := F.called_set.sub
  refine wpAny_call (codeAny_of_tree ?_)
  show wpAny _ _ (callAny (.type "set") _) _ _ _
  refine wpAny_pure ⟨Code.quiet_builtin _ (by decide +kernel), codeAny_builtin F.entry_type_call ?_⟩
  rw [Around.under_plain (weight_type_call_type "set" [.ref l] []) rfl]
  have h1 := F.called_set.notType
  have h2 := F.called_set.canCreate
  have hct := F.typeCall_set_1 (.ref l)
  repeat (any_goals (first | assumption | wp_step))
  refine codeAny_mono (code_set_new_1 (.ref l) (E := E) (Q₁ := fun obj s₁ => ∃ led : Bool, obj = .ref s.heap.objs.size ∧ s₁ = { s with heap := s.heap.push { cls := .type "set", dict := none, data := .set #[] 0 (.fresh 0 0 led) } }) fun led => ⟨led, rfl, rfl⟩) fun r s₁ hr => ?_
  cases r with
  | error e => exact hr
  | ok fl =>
    cases fl with
    | ret obj =>
      obtain ⟨led, rfl, rfl⟩ := hr
      generalize hH1 : s.heap.push { cls := .type "set", dict := none, data := .set #[] 0 (.fresh 0 0 led) } = H1
      have hS : H1.get? s.heap.objs.size = some { cls := .type "set", dict := none, data := .set #[] 0 (.fresh 0 0 led) } := by rw [← hH1]; exact Heap.get?_push_size _ rfl
      have hold : ∀ b o, s.heap.get? b = some o → H1.get? b = some o := fun b o e => by rw [← hH1]; exact Heap.get?_push_of_some _ e
      have hsz : H1.objs.size = s.heap.objs.size + 1 := by rw [← hH1]; exact Heap.size_push ..
      have hT : Shared.TypeIs { s with heap := H1 } (.ref s.heap.objs.size) "set" := ⟨_, hS, rfl⟩
      have hli := F.called_set.init.lookup
      have hbi := F.called_set.init.bind (.ref s.heap.objs.size)
      repeat (any_goals (first | assumption | wp_step))
      refine codeAny_mono (codeAny_call_builtin (R := wants (fun r s₂ => r = .none ∧ ∃ h' tk, s₂ = { s with heap := h', toks := tk } ∧
          h'.SetOf (PySem.strKind prog w) s.heap.objs.size (fun k' => decide (k' ∈ xs)) (dd xs).length ∧ (∀ b o, s.heap.get? b = some o → h'.get? b = some o)) E) F.called_set.init.plain F.entry_set_init (check_set_init_1 hT ?_)) fun r₂ s₂ hr₂ => ?_
      · obtain ⟨ol, hol, hcl, nl, hdl⟩ := hl
        obtain ⟨ocls, odict, odata, oslots⟩ := ol
        simp only at hcl hdl
        subst hcl; subst hdl
        have hol' := hold _ _ hol
        have hsls := F.sub_list_set
        have hslf := F.sub_list_frozenset
        have hne : (Value.type "list" == Value.type "dict") = false := by decide
        have hl1 : H1.IsList l its.toArray := ⟨_, hol', rfl, nl, rfl⟩
        unfold Builtin.«set.__init__» noKeywords Builtin.Frozenset.updateFrom
        generalize hPI : pyIter = PI
        wp_walk
        subst hPI
        refine wpAny_pyIter_list hl1 ?_
        refine wpAny_bind (wpAny_runValue ?_)
        have hlS : l < s.heap.objs.size := Heap.lt_size hol
        have hh3 : A.in1.in1.in1.handled = none := by simp [hh]
        refine upd_loopT (P := prog) (w := w) (l := l) (its := its) (xs := xs) hh3 (by rw [hsz]; exact Nat.ne_of_lt (Nat.lt_succ_of_lt hlS)) (by rw [hsz]; exact Nat.ne_of_lt (Nat.lt_succ_self _)) (Nat.ne_of_gt hlS) hv hlen hb xs.length 0 _ (by omega) (Nat.zero_le _) ⟨_, Heap.get?_push_size _ rfl, rfl, rfl⟩ (hl1.push _) ?hS0 ?hR
        case hS0 =>
          exact SetOf_congr ((setObjOf_fresh (knd := PySem.strKind prog w) led).setOf (Heap.get?_push_of_some _ hS) (by unfold scanBound; omega)) (fun _ => by simp) rfl
        case hR =>
          intro h' tk' hk hS'
          show wpAny _ _ _ _ _ _
          refine wpAny_pure ?_
          show wpAny _ _ (ret Value.none) _ _ _
          refine wpAny_pure ⟨rfl, h', tk', rfl, hS', fun b o e => ?_⟩
          have lt := Heap.lt_size e
          exact hk b o (Nat.ne_of_lt lt) (by rw [hsz]; exact Nat.ne_of_lt (Nat.lt_succ_of_lt lt)) (Heap.get?_push_of_some _ (hold b o e))
      · cases r₂ with
        | error e => exact hr₂
        | ok fl₂ =>
          cases fl₂ with
          | ret r =>
            obtain ⟨rfl, h', tk, rfl, hS', hk'⟩ := hr₂
            repeat (any_goals (first | assumption | wp_step))
            exact h _ _ hS' hk'
          | _ => exact hr₂.elim
    | _ => exact hr.elim
end
theorem vals_strs : ∀ {xs : List Str} {us : List Value}, Vals (xs.map V.str) us → us.length = xs.length ∧ ∀ (i : Nat) v, us[i]? = some v → ∃ x t, xs[i]? = some x ∧ v = .str x t
  | [], _, .nil => ⟨rfl, fun i v e => by simp at e⟩
  | x :: xs, _, .cons r t => by
    obtain ⟨h1, h2⟩ := vals_strs (xs := xs) t
    obtain ⟨tk, rfl⟩ := r
    refine ⟨by simp [h1], fun i v e => ?_⟩
    cases i with
    | zero => simp at e; exact ⟨x, tk, by simp, e.symm⟩
    | succ i => simpa using h2 i v (by simpa using e)
theorem call_set_texts {X : Cx} (hc : X.calm = true) : CallR X (.type "set") (fun vs H Q => ∃ p xs, vs = [.ref p] ∧ SqL X.K H p (xs.map V.str) ∧ xs.length + 1 < scanBound ∧ ∀ q, H q = none → Q (.ref q) (upd H q (setL X.prog X.w q xs))) := by
  intro pins s σ H vs us Q I r h
  obtain ⟨p, xs, rfl, hq, hb, q⟩ := h
  obtain ⟨u, rfl, ru⟩ := vals1 r
  cases ru
  obtain ⟨its, rv, pl, hz⟩ := I.list hq
  obtain ⟨h1, h2⟩ := vals_strs rv
  refine set_of_texts (I.ok.hd hc) pl.isList h2 h1 hb fun h' tk hS hk => ?_
  exact ⟨.ref _, _, I.laid (t' := tk) hk (Nat.le_refl _) (setL_ok hS), rfl, q _ I.fresh⟩
end L2
namespace L2
open PySem PySem.Spec PyProof.Rows
def SameX (p : Addr) (H H' : Hp) : Prop := ∀ b o, b ≠ p → H b = some o → H' b = some o
theorem SameX.refl {p : Addr} {H : Hp} : SameX p H H := fun _ _ _ e => e
theorem SameX.trans {p : Addr} {H H1 H2 : Hp} (a : SameX p H H1) (b : SameX p H1 H2) : SameX p H H2 := fun c o n e => b c o n (a c o n e)
theorem SameX.upd {p : Addr} {H H' : Hp} {o : HO} (a : SameX p H H') : SameX p H (upd H' p o) := fun c u n e => by rw [upd_ne n]; exact a c u n e
theorem Same.x {p : Addr} {H H' : Hp} (a : Same H H') : SameX p H H' := fun c o _ e => a c o e
theorem Same.new {H : Hp} {p : Addr} {o : HO} (h : H p = none) : Same H (upd H p o) := fun b u e => by rw [upd_ne (ne_of_none e h)]; exact e
structure ItOk (J : It) (n : Nat) (item : Nat → V) (H0 : Hp) (p : Addr) : Prop where
  go : ∀ i H, i < n → SameX p H0 H → J.go i H
  stop : ∀ H, SameX p H0 H → J.stop n H
  yld : ∀ i H x H', i < n → SameX p H0 H → J.yld i H x H' → H' = H ∧ x = item i
theorem itok_tup {K : PySem.W.Frag} {a p : Addr} {xs : List V} {H0 : Hp} (h : H0 a = some (.tup xs)) (hp : a ≠ p) : ItOk (Itt K a) xs.length (fun i => xs.getD i .non) H0 p where
  go := fun i H hi k => ⟨xs, xs[i], SqT.of (k a _ hp h), by simp [hi]⟩
  stop := fun H k => ⟨xs, SqT.of (k a _ hp h), Nat.le_refl _⟩
  yld := fun i H v H' hi k ⟨e, q⟩ => ⟨e, by
    have := q xs (SqT.of (k a _ hp h))
    rw [List.getD_eq_getElem?_getD, this]; rfl⟩
theorem itok_lst {K : PySem.W.Frag} {a p : Addr} {xs : List V} {H0 : Hp} (h : H0 a = some (.lst xs)) (hp : a ≠ p) : ItOk (Itl K a) xs.length (fun i => xs.getD i .non) H0 p where
  go := fun i H hi k => ⟨xs, xs[i], SqL.of (k a _ hp h), by simp [hi]⟩
  stop := fun H k => ⟨xs, SqL.of (k a _ hp h), Nat.le_refl _⟩
  yld := fun i H v H' hi k ⟨e, q⟩ => ⟨e, by
    have := q xs (SqL.of (k a _ hp h))
    rw [List.getD_eq_getElem?_getD, this]; rfl⟩
def flatN (F : Nat → List V) : Nat → List V
  | 0 => []
  | i + 1 => flatN F i ++ F i
theorem loop_gen {J : It} {g : TG} {tt : TT} {tr : TR} {Qe : St → Hp → Prop} {σ0 : St} {H0 : Hp} {p : Addr} {cur : List V} {n : Nat} {item : Nat → V} (F : Nat → List V) (P : St → Prop) (hσ : P σ0) (hp : H0 p = some (.lst cur)) (ok : ItOk J n item H0 p)
    (turn : ∀ i σ H (N : St → Hp → Prop), i < n → P σ → SameX p H0 H → H p = some (.lst (cur ++ flatN F i)) → (∀ σ2 H4, P σ2 → SameX p H H4 → H4 p = some (.lst (cur ++ flatN F i ++ F i)) → N σ2 H4) →
      g (item i) σ H fun σ2 H2 => tt σ2 H2 fun b H3 => if b = true then tr σ2 H3 N else N σ2 H3)
    (hQ : ∀ σ H, P σ → SameX p H0 H → H p = some (.lst (cur ++ flatN F n)) → Qe σ H) : tLoop J g tt tr Qe σ0 H0 := by
  refine ⟨fun i m σ H => m = n - i ∧ i ≤ n ∧ P σ ∧ SameX p H0 H ∧ H p = some (.lst (cur ++ flatN F i)), ⟨n, rfl, Nat.zero_le _, hσ, .refl, by simpa [flatN] using hp⟩, ?_⟩
  rintro i m σ H ⟨rfl, hi, hP, hS, hH⟩
  by_cases hlt : i < n
  · refine .inr ⟨ok.go i H hlt hS, fun σ' H' => P σ' ∧ SameX p H0 H' ∧ H' p = some (.lst (cur ++ flatN F (i + 1))), fun σ' H' ⟨a, b, c⟩ => ⟨n - (i + 1), by omega, rfl, hlt, a, b, c⟩, fun x H' y => ?_⟩
    obtain ⟨rfl, rfl⟩ := ok.yld i H x H' hlt hS y
    refine turn i σ H' _ hlt hP hS hH fun σ2 H4 hP2 hS2 hH2 => ⟨hP2, hS.trans hS2, ?_⟩
    rw [hH2]
    simp only [flatN, List.append_assoc]
  · have e : i = n := by omega
    subst e
    exact .inl ⟨ok.stop H hS, hQ σ H hP hS hH⟩
theorem flatN_le {F : Nat → List V} {k : Nat} (h : ∀ i, (F i).length ≤ k) : ∀ n, (flatN F n).length ≤ n * k
  | 0 => by simp [flatN]
  | n + 1 => by
    have := flatN_le h n
    have h2 := h n
    simp only [flatN, List.length_append, Nat.succ_mul]
    omega
theorem loop_app {J : It} {g : TG} {tt : TT} {te : TE} {Qe : St → Hp → Prop} {σ0 : St} {H0 : Hp} {p : Addr} {cur : List V} {n : Nat} {item : Nat → V} (f : Nat → Option V) (P : St → Prop) (hσ : P σ0) (hp : H0 p = some (.lst cur)) (hsz : cur.length + n ≤ 100000) (ok : ItOk J n item H0 p)
    (turn : ∀ i σ H (C : Option V → St → Hp → Prop), i < n → P σ → SameX p H0 H → (∀ σ2 H4, P σ2 → Same H H4 → C (f i) σ2 H4) →
      g (item i) σ H fun σ2 H2 => tt σ2 H2 fun b H3 => if b = true then te σ2 H3 fun v H4 => C (some v) σ2 H4 else C none σ2 H3)
    (hQ : ∀ σ H, P σ → SameX p H0 H → H p = some (.lst (cur ++ flatN (fun i => (f i).toList) n)) → Qe σ H) : tLoop J g tt (tApp p te) Qe σ0 H0 := by
  refine loop_gen (fun i => (f i).toList) P hσ hp ok (fun i σ H N hi hP hS hH hN => ?_) hQ
  refine turn i σ H (fun o σ2 H4 => match o with
    | some v => ∃ ys, H4 p = some (.lst ys) ∧ ys.length < sizeLine ∧ N σ2 (upd H4 p (.lst (ys ++ [v])))
    | none => N σ2 H4) hi hP hS fun σ2 H4 hP2 hS2 => ?_
  have hp4 := hS2 p _ hH
  cases e : f i with
  | none =>
    refine hN σ2 H4 hP2 hS2.x ?_
    rw [e]
    simpa using hp4
  | some v =>
    refine ⟨_, hp4, ?_, hN σ2 _ hP2 (hS2.x.upd) ?_⟩
    · have h1 := flatN_le (F := fun i => (f i).toList) (k := 1) (fun i => by show ((f i).toList).length ≤ 1; cases f i <;> simp) i
      have h2 : (100000 : Nat) < sizeLine := by rw [sizeLine_eq]; decide
      rw [List.length_append]
      omega
    · rw [upd_same, e]
      rfl
theorem loop_new {J : It} {g : TG} {tt : TT} {te : TE} {Qe : St → Hp → Prop} {σ0 : St} {H0 : Hp} {p : Addr} {n : Nat} {item : Nat → V} (f : Nat → Option V) (P : St → Prop) (hσ : P σ0) (hp : H0 p = none) (hsz : n ≤ 100000) (ok : ItOk J n item (upd H0 p (.lst [])) p)
    (turn : ∀ i σ H (C : Option V → St → Hp → Prop), i < n → P σ → Same H0 H → (∀ σ2 H4, P σ2 → Same H H4 → C (f i) σ2 H4) →
      g (item i) σ H fun σ2 H2 => tt σ2 H2 fun b H3 => if b = true then te σ2 H3 fun v H4 => C (some v) σ2 H4 else C none σ2 H3)
    (hQ : ∀ σ H, Same H0 H → H p = some (.lst (flatN (fun i => (f i).toList) n)) → Qe σ H) : tLoop J g tt (tApp p te) Qe σ0 (upd H0 p (.lst [])) := by
  have s0 : Same H0 (upd H0 p (.lst [])) := Same.new hp
  have up : ∀ {H}, SameX p (upd H0 p (.lst [])) H → Same H0 H := fun {H} h b o e => h b o (ne_of_none e hp) (s0 b o e)
  refine loop_app f P hσ upd_same (by simpa using hsz) ok (fun i σ H C hi hP hS hC => turn i σ H C hi hP (up hS) hC) fun σ H _ hS hH => hQ σ H (up hS) (by simpa using hH)
theorem flatN_map (f : Nat → V) : ∀ n, flatN (fun i => (some (f i)).toList) n = (List.range n).map f
  | 0 => rfl
  | n + 1 => by
    have := flatN_map f n
    simp only [Option.toList_some] at this
    simp only [flatN, List.range_succ, List.map_append, this, Option.toList_some, List.map_cons, List.map_nil]
end L2
namespace T1
open PySem L2
inductive D where
  | non | bl (b : Bool) | int (i : Int) | str (x : Str) | tup (xs : List D) | lst (xs : List D)
mutual
/-- the value v stands for d; z is an address apart (the law's bag) -/
inductive Rep (z : Addr) (H : Hp) : V → D → Prop where
  | non : Rep z H .non .non
  | bl (b : Bool) : Rep z H (.bl b) (.bl b)
  | int (i : Int) : Rep z H (.int i) (.int i)
  | str (x : Str) (h : x.length ≤ 1000) : Rep z H (.str x) (.str x)
  | tup {a : Addr} {xs : List V} {ds : List D} (h : H a = some (.tup xs)) (hz : a ≠ z) (r : Reps z H xs ds) : Rep z H (.ref a) (.tup ds)
  | lst {a : Addr} {xs : List V} {ds : List D} (h : H a = some (.lst xs)) (hz : a ≠ z) (r : Reps z H xs ds) : Rep z H (.ref a) (.lst ds)
inductive Reps (z : Addr) (H : Hp) : List V → List D → Prop where
  | nil : Reps z H [] []
  | cons {v : V} {d : D} {vs : List V} {ds : List D} (h : Rep z H v d) (t : Reps z H vs ds) : Reps z H (v :: vs) (d :: ds)
end
mutual
theorem Rep.mono {z : Addr} {H H' : Hp} (k : SameX z H H') : ∀ {v : V} {d : D}, Rep z H v d → Rep z H' v d
  | _, _, .non => .non
  | _, _, .bl b => .bl b
  | _, _, .int i => .int i
  | _, _, .str x h => .str x h
  | _, _, .tup h hz r => .tup (k _ _ hz h) hz (Reps.mono k r)
  | _, _, .lst h hz r => .lst (k _ _ hz h) hz (Reps.mono k r)
theorem Reps.mono {z : Addr} {H H' : Hp} (k : SameX z H H') : ∀ {vs : List V} {ds : List D}, Reps z H vs ds → Reps z H' vs ds
  | _, _, .nil => .nil
  | _, _, .cons h t => .cons (Rep.mono k h) (Reps.mono k t)
end
theorem Reps.length {z : Addr} {H : Hp} : ∀ {vs : List V} {ds : List D}, Reps z H vs ds → vs.length = ds.length
  | _, _, .nil => rfl
  | _, _, .cons _ t => by simp [Reps.length t]
theorem Reps.get {z : Addr} {H : Hp} : ∀ {vs : List V} {ds : List D} {i : Nat}, Reps z H vs ds → i < ds.length → Rep z H (vs.getD i .non) (ds.getD i .non)
  | _, _, 0, .cons h _, _ => h
  | _, _, i + 1, .cons _ t, hi => by
    have := Reps.get (i := i) t (by simpa using hi)
    simpa using this
end T1
namespace T1
open PySem L2
theorem b_len : bootBuiltins "len" = some (.builtin "len") := by decide +kernel
theorem b_any : bootBuiltins "any" = some (.builtin "any") := by decide +kernel
theorem b_min : bootBuiltins "min" = some (.builtin "min") := by decide +kernel
theorem b_sorted : bootBuiltins "sorted" = some (.builtin "sorted") := by decide +kernel
theorem b_int : bootBuiltins "int" = some (.type "int") := by decide +kernel
theorem b_tuple : bootBuiltins "tuple" = some (.type "tuple") := by decide +kernel
theorem b_list : bootBuiltins "list" = some (.type "list") := by decide +kernel
theorem b_set : bootBuiltins "set" = some (.type "set") := by decide +kernel
def blkChk (S sc : Scope) : Bool := sc.names.all fun x => (x.2 != .local || sc.names.lookup x.1 == some .local) && x.2 != .cell && (x.2 != .free || S.names.lookup x.1 == some .cell)
theorem blk_of {X : Cx} {sc : Scope} (S : Scope) (h : blkChk S sc = true) (hS : X.env.scope = S := by rfl) (hk : sc.kind = .function := by rfl) : BlkOk X sc := by
  unfold blkChk at h
  rw [List.all_eq_true] at h
  refine ⟨hk, fun x hx hl => ?_, fun x hx hc => ?_, fun x hx hf => ?_⟩
  · have := h x hx
    rw [hl] at this
    simp at this
    exact this
  · have := h x hx
    rw [hc] at this
    simp at this
  · have := h x hx
    rw [hf] at this
    simp at this
    show X.env.scope.names.lookup x.1 = some .cell
    rw [hS]
    exact this
end T1
namespace L2
open PySem PySem.Spec PyProof.Rows
theorem loop_map {J : It} {g : TG} {te : TE} {Qe : St → Hp → Prop} {σ0 : St} {H0 : Hp} {p : Addr} {n : Nat} {item : Nat → V} (f : Nat → V) (P : St → Prop) (hσ : P σ0) (hp : H0 p = none) (hsz : n ≤ 100000) (ok : ItOk J n item (upd H0 p (.lst [])) p)
    (turn : ∀ i σ H (C : V → St → Hp → Prop), i < n → P σ → Same H0 H → (∀ σ2 H4, P σ2 → Same H H4 → C (f i) σ2 H4) → g (item i) σ H fun σ2 H2 => te σ2 H2 fun v H4 => C v σ2 H4)
    (hQ : ∀ σ H, Same H0 H → H p = some (.lst ((List.range n).map f)) → Qe σ H) : tLoop J g tYes (tApp p te) Qe σ0 (upd H0 p (.lst [])) :=
  loop_new (fun i => some (f i)) P hσ hp hsz ok (fun i σ H C hi hP hS hC => turn i σ H (fun v σ2 H4 => C (some v) σ2 H4) hi hP hS hC) fun σ H hS hH => hQ σ H hS (by rw [flatN_map] at hH; exact hH)
theorem range_map {α : Type} [Inhabited α] (xs : List α) (d : α) (f : α → V) : (List.range xs.length).map (fun i => f (xs.getD i d)) = xs.map f := by
  apply List.ext_getElem?
  intro i
  rw [List.getElem?_map, List.getElem?_map]
  by_cases h : i < xs.length
  · simp [h]
  · simp [h]
end L2
namespace L2
open PySem PySem.Spec PyProof.Rows
section
variable {X : Cx} {sc : Scope} {cl : List (Str × Addr)} {N' : List Str} {s : Shared} {H : Hp} {fp : List Addr}
theorem pg_tupB {es : List Expr} {k : Nat} {t : TGs} {pos : Pos} (n : Nat) (hc : X.calm = true) (h : PGs (X.blk sc cl N' s H fp) es t)
    (hn : (assignEach es (X.blk sc cl N' s H fp).env).length = n := by rfl) (hst : (assignEach es (X.blk sc cl N' s H fp).env).findIdx? (·.1) = none := by rfl) : PG (X.blk sc cl N' s H fp) (.Tuple es k pos) (gTup X.K n t) := pg_tup hc h hn hst
theorem ix_tupB : IxR (X.blk sc cl N' s H fp) (rIxT X.K) := ix_tup
theorem ix_listB : IxR (X.blk sc cl N' s H fp) (rIxL X.K) := ix_list
theorem call_len_seqB : CallR (X.blk sc cl N' s H fp) (.builtin "len") (fun xs H Q => ∃ p ys, xs = [.ref p] ∧ (SqL X.K H p ys ∨ SqT X.K H p ys) ∧ Q (.int ys.length) H) := call_len_seq
end
end L2
namespace L2
open PySem PySem.Spec PyProof.Rows
section
variable {X : Cx}
def rNeNil : R2 := fun x y H Q => ∃ p q xs, x = .ref p ∧ y = .ref q ∧ H p = some (.lst xs) ∧ H q = some (.lst []) ∧ Q (.bl (!xs.isEmpty)) H
theorem op_ne_nil (hu : X.A.units < cLine) : OpR X (compareOp .NotEq) rNeNil := by
  intro pins s σ H x y v u Q I rx ry h
  obtain ⟨p, q, xs, rfl, rfl, hp, hq, k⟩ := h
  cases rx
  cases ry
  obtain ⟨its, rv, pl, hz⟩ := I.list (SqL.of hp)
  obtain ⟨its2, rv2, pl2, hz2⟩ := I.list (SqL.of hq)
  cases rv2
  show wpAny _ _ (richCompare .NotEq _ _) _ _ _
  cases rv with
  | nil => exact SeqAt.RcNeAt.lists (e := fun _ => true) pl.isList pl2.isList rfl hu (fun j h1 _ => absurd h1 (by simp)) _ _ _ _ ⟨.bl _, H, I, rfl, k⟩
  | cons r t => exact SeqAt.RcNeAt.lists_lengths pl.isList pl2.isList (by simp) hu _ _ _ _ ⟨.bl _, H, I, rfl, k⟩
theorem PI.or {tg l : Expr} {wi wi' : TI} (h : PI X tg l wi) (h' : PI X tg l wi') : PI X tg l (fun σ H R => wi σ H R ∨ wi' σ H R) := by
  intro pins s σ H R I q
  rcases q with q | q
  · exact h pins s σ H R I q
  · exact h' pins s σ H R I q
end
end L2
namespace L2
open PySem PySem.Spec PyProof.Rows
section
variable {X : Cx} {pins : List (Addr × Obj)} {σ : St} {H : Hp} {s : Shared} {h' : Heap} {m : Str → Option Value}
theorem news_lib (L : Addr) : News (Att.noObjs s.heap) L s.heap (Att.ledger s.heap L L) := by
  rintro ⟨a, o⟩ hp
  obtain ⟨n1, _, e⟩ := Att.mem_ledger.mp hp
  exact ⟨e, n1, Att.noObjs_get _ _⟩
theorem kept_lib {L : Addr} (N : News (Att.noObjs s.heap) L h' (Att.ledger s.heap L L)) : ∀ b o, b ≠ L → s.heap.get? b = some o → h'.get? b = some o := fun b o hb e => (N (b, o) (Att.mem_ledger.mpr ⟨hb, hb, e⟩)).1
theorem Inv.lib {tk : Nat} (I : Inv X pins σ H s) (hn : s.heap.Ns X.env.locals m) (F : Fr (Att.noObjs s.heap) X.env.locals h' m) (N : News (Att.noObjs s.heap) X.env.locals h' (Att.ledger s.heap X.env.locals X.env.locals)) : Inv X pins σ H { s with heap := h', toks := tk } := by
  have k := kept_lib N
  have nL : ∀ b u, H b = some u → b ≠ X.env.locals := fun b u e z => by rw [z, I.free] at e; cases e
  refine I.step (g' := s.gens) (d' := s.drawn) (ch := []) (fun _ z => nomatch z) (fun b o hb _ _ e _ => k b o hb e) (fun b o hb _ _ e _ => ⟨o.slots, k b o hb e⟩) (fun _ _ _ _ n => n) (fun b o _ e => ?_) (fun _ _ e => e) (fun _ _ _ e => e) (fun b ps e => ⟨#[], by rw [e]; simp⟩) (fun m' hm => ?_) (fun b u e => ?_) I.bare
  · by_cases hb : b = X.env.locals
    · obtain ⟨o', _, _, ho', _⟩ := F.ns
      exact ⟨o', by rw [hb]; exact ho'⟩
    · exact ⟨o, k b o hb e⟩
  · have : m' = m := funext fun x => hm.agree hn x
    rw [this]
    exact F.ns
  · refine (I.hok b u e).stay (fun c v hc q => k c v ?_ q) (fun _ q => q) fun _ _ q => q
    rcases hc with z | z
    · rw [z]; exact nL b u e
    · exact nL c _ z
theorem Inv.libNew {tk : Nat} {D : Addr} {ob : Obj} {o : HO} (I : Inv X pins σ H s) (hn : s.heap.Ns X.env.locals m) (F : Fr (Att.noObjs s.heap) X.env.locals h' m) (N : News (Att.noObjs s.heap) X.env.locals h' ((D, ob) :: Att.ledger s.heap X.env.locals X.env.locals))
    (hD : ∀ q ∈ Att.ledger s.heap X.env.locals X.env.locals, q.1 < D) (new : ObjOk X.prog X.w (upd H D o) h' D o) : H D = none ∧ Inv X pins σ (upd H D o) { s with heap := h', toks := tk } := by
  have N' : News (Att.noObjs s.heap) X.env.locals h' (Att.ledger s.heap X.env.locals X.env.locals) := fun p hp => N p (List.mem_cons_of_mem _ hp)
  have k := kept_lib N'
  have hDL : D ≠ X.env.locals := (N (D, ob) List.mem_cons_self).2.1
  have nold : ∀ o', s.heap.get? D ≠ some o' := fun o' e => absurd (hD (D, o') (Att.mem_ledger.mpr ⟨hDL, hDL, e⟩)) (Nat.lt_irrefl _)
  have nL : ∀ b u, H b = some u → b ≠ X.env.locals := fun b u e z => by rw [z, I.free] at e; cases e
  have old : ∀ b u, H b = some u → ∃ o', s.heap.get? b = some o' := fun b u e => by
    have hlt := (I.hok b u e).lt
    cases u with
    | lst xs => obtain ⟨_, _, _, _, q⟩ := I.hok b _ e; exact ⟨_, q⟩
    | tup xs => obtain ⟨_, _, _, ob, q, _⟩ := I.hok b _ e; exact ⟨ob, q⟩
    | dK kvs => obtain ⟨_, _, _, _, ob, _, _, q, _⟩ := I.hok b _ e; exact ⟨ob, q⟩
    | dT kvs => obtain ⟨_, _, _, _, ob, _, _, q, _⟩ := I.hok b _ e; exact ⟨ob, q⟩
    | set S n => obtain ⟨ob, _, _, _, q, _⟩ := I.hok b _ e; exact ⟨ob, q⟩
    | ins C dx fs => obtain ⟨_, _, _, q, _⟩ := I.hok b _ e; exact ⟨_, q⟩
    | own y => obtain ⟨ob, q⟩ := I.hok b _ e; exact ⟨ob, q⟩
    | xd fs => obtain ⟨_, ⟨ob, _, _, q, _⟩, _⟩ := I.hok b _ e; exact ⟨ob, q⟩
    | rng lo hi => obtain ⟨_, _, _, q⟩ := I.hok b _ e; exact ⟨_, q⟩
    | frz ob u => obtain ⟨q, _⟩ := I.hok b _ e; exact ⟨_, q⟩
    | tbl ps => exact ⟨_, show s.heap.get? b = some _ from I.hok b _ e⟩
    | met f y => exact ⟨_, show s.heap.get? b = some _ from I.hok b _ e⟩
    | ext φ => obtain ⟨_, q, _⟩ := I.hok b _ e; exact q
  have hn0 : H D = none := by
    cases e : H D with
    | none => rfl
    | some u =>
      obtain ⟨o', q⟩ := old D u e
      exact absurd q (nold o')
  have ne : ∀ b u, H b = some u → b ≠ D := fun b u e => ne_of_none e hn0
  refine ⟨hn0, I.step (g' := s.gens) (d' := s.drawn) (ch := []) (fun _ z => nomatch z) (fun b o hb _ _ e _ => k b o hb e) (fun b o hb _ _ e _ => ⟨o.slots, k b o hb e⟩) (fun b o' _ e n => ?_) (fun b o _ e => ?_) (fun b xs e => by rw [upd_ne (ne b _ e)]; exact e) (fun b _ _ e => by rw [upd_ne (ne b _ e)]; exact e) (fun b ps e => ⟨#[], by rw [upd_ne (ne b _ e), e]; simp⟩) (fun m' hm => ?_) (fun b u e => ?_) I.bare⟩
  · rw [upd_ne (fun z => nold o' (by rw [← z]; exact e))]
    exact n
  · by_cases hb : b = X.env.locals
    · obtain ⟨o', _, _, ho', _⟩ := F.ns
      exact ⟨o', by rw [hb]; exact ho'⟩
    · exact ⟨o, k b o hb e⟩
  · have : m' = m := funext fun x => hm.agree hn x
    rw [this]
    exact F.ns
  · by_cases hb : b = D
    · subst hb
      rw [upd_same] at e
      cases e
      exact new
    · rw [upd_ne hb] at e
      refine (I.hok b u e).stay (fun c v hc q => k c v ?_ q) (fun c q => by rw [upd_ne (ne c _ q)]; exact q) fun c _ q => by rw [upd_ne (ne c _ q)]; exact q
      rcases hc with z | z
      · rw [z]; exact nL b u e
      · exact nL c _ z
end
def strOf : Value → Str
  | .str x _ => x
  | _ => ⟨#[]⟩
theorem vals_strOf : ∀ {xs : List Str} {us : List Value}, Vals (xs.map V.str) us → us.map strOf = xs ∧ ∀ u ∈ us, ∃ t, u = .str (strOf u) t
  | [], _, .nil => ⟨rfl, fun u hu => nomatch hu⟩
  | x :: r, _, .cons h t => by
    obtain ⟨t1, rfl⟩ := h
    obtain ⟨e, q⟩ := vals_strOf t
    refine ⟨by rw [List.map_cons, e]; rfl, fun u hu => ?_⟩
    rcases List.mem_cons.mp hu with rfl | hu
    · exact ⟨t1, rfl⟩
    · exact q u hu
theorem vals_of_strs : ∀ {us : List Value}, (∀ u ∈ us, ∃ t, u = .str (strOf u) t) → Vals ((us.map strOf).map V.str) us
  | [], _ => .nil
  | u :: r, h => .cons (h u List.mem_cons_self) (vals_of_strs fun v hv => h v (List.mem_cons_of_mem _ hv))
theorem zip_lens : ∀ its : List Value, (its.map fun u => ((strOf u).length : Int)).zip its = its.map fun u => (((strOf u).length : Int), u)
  | [] => rfl
  | a :: r => by rw [List.map_cons, List.zip_cons_cons, List.map_cons, zip_lens r]
def rSortLen (K : PySem.W.Frag) (b : Bool) : List V → Hp → VK → Prop := fun vs H Q => ∃ (l : Addr) (xs : List Str), vs = [.ref l] ∧ SqL K H l (xs.map V.str) ∧ xs.length < 64 ∧ (∀ y ∈ xs, y.length ≤ sizeLine) ∧
  ∀ (p : Addr) (ys : List Str), H p = none → ys.Perm xs → ys.Pairwise (fun a c => if b then c.length ≤ a.length else a.length ≤ c.length) → Q (.ref p) (upd H p (.lst (ys.map V.str)))
theorem run_sorted_len {X : Cx} {pins : List (Addr × Obj)} {σ : St} {H : Hp} {s : Shared} {Q : VK} {vs : List V} {us : List Value} {kw : List (Str × Value)} {b : Bool} (I : Inv X pins σ H s) (r : Vals vs us) (h : rSortLen X.K b vs H Q)
    (ha1 : ∀ l, argsOk "sorted" ⟨[.ref l], kw⟩) (ha2 : ∀ x, argsOk "list.sort" ⟨[.ref x], kw⟩) (ht : ∀ x, Builtin.«list.sort» ⟨[.ref x], kw⟩ = ksk_tree x (.builtin "len") b) : wpAny (model X.prog X.w) X.A (call (.builtin "sorted") us kw) (EP X pins σ Q) X.xe s := by
  obtain ⟨l, xs, rfl, hl, h64, hz, q⟩ := h
  obtain ⟨u, rfl, ru⟩ := vals1 r
  cases ru
  obtain ⟨its, rv, pl, _⟩ := I.list hl
  obtain ⟨m, hn, _⟩ := id I.loc
  obtain ⟨e1, e2⟩ := vals_strOf rv
  have hlen : its.length = xs.length := by rw [← e1, List.length_map]
  have hn63 := line63
  refine ksk_sorted (b := b) (kz := its.map fun u => ((strOf u).length : Int)) (f := .builtin "len") (Att.fr_all hn) (news_lib X.env.locals) pl.isList (by simp) (by omega) (ha1 l) ha2 ht (fun i v k hv hk h tk own F N => ?_) (fun D h' tk out c F N hD ko => ?_)
  · have hmem := List.mem_of_getElem? hv
    obtain ⟨t, et⟩ := e2 v hmem
    have ek : k = ((strOf v).length : Int) := by
      rw [List.getElem?_map, hv] at hk
      exact (Option.some.inj hk).symm
    have hx : (strOf v).length ≤ sizeLine := hz _ (by rw [← e1]; exact List.mem_map_of_mem hmem)
    rw [et, ek]
    refine len_str (by omega) ?_
    exact KskEnd.intro F N fun p hp => hp
  · obtain ⟨ps, hp, ho, hs⟩ := ko
    have ezip : (its.map fun u => ((strOf u).length : Int)).zip its = its.map fun u => (((strOf u).length : Int), u) := by
      exact zip_lens its
    rw [ezip] at hp
    have hmem : ∀ p ∈ ps, p.1 = ((strOf p.2).length : Int) ∧ p.2 ∈ its := fun p hpp => by
      obtain ⟨u, hu, rfl⟩ := List.mem_map.mp (hp.mem_iff.mp hpp)
      exact ⟨rfl, hu⟩
    have hperm : (ps.map fun p => strOf p.2).Perm xs := by
      have := hp.map fun p => strOf p.2
      rw [List.map_map] at this
      have e3 : its.map ((fun p : Int × Value => strOf p.2) ∘ fun u => (((strOf u).length : Int), u)) = xs := by rw [← e1]; rfl
      rw [e3] at this
      exact this
    have hpair : (ps.map fun p => strOf p.2).Pairwise (fun a c => if b then c.length ≤ a.length else a.length ≤ c.length) := by
      rw [List.pairwise_map]
      refine hs.imp_of_mem fun {p q} h1 h2 h3 => ?_
      have a1 := (hmem p h1).1
      have a2 := (hmem q h2).1
      rw [a1, a2] at h3
      cases b
      · simp at h3 ⊢; omega
      · simp at h3 ⊢; omega
    have hvals : Vals ((ps.map fun p => strOf p.2).map V.str) out.toList := by
      rw [ho]
      have := vals_of_strs (us := ps.map Prod.snd) fun u hu => by
        obtain ⟨p, hpp, rfl⟩ := List.mem_map.mp hu
        exact e2 _ (hmem p hpp).2
      have e4 : (ps.map Prod.snd).map strOf = ps.map fun p => strOf p.2 := by rw [List.map_map]; rfl
      rw [e4] at this
      exact this
    have hlo : (ps.map fun p => strOf p.2).length = xs.length := hperm.length_eq
    have h64' : (64 : Nat) ≤ sizeLine := by rw [sizeLine_eq]; decide
    obtain ⟨hn0, I'⟩ := I.libNew (tk := tk) (o := .lst ((ps.map fun p => strOf p.2).map V.str)) hn F N hD ⟨by rw [List.length_map, hlo]; omega, out.toList, c, hvals, (N (D, seqObj "list" out c) List.mem_cons_self).1⟩
    exact ⟨.ref D, _, I', rfl, q D _ hn0 hperm hpair⟩
theorem pe_sorted_len {X : Cx} {e : Expr} {te : TE} {p p2 kp pos : Pos} (hm : X.mg "sorted" = none) (hm2 : X.mg "len" = none) (he : PE X e te) (hg : Gl X "sorted" := by rfl) (hg2 : Gl X "len" := by rfl)
    (h1 : starEach [e] X.env = (false, eval e X.env) :: starEach [] X.env := by rfl) (h2 : backTo pos (starEach [e] X.env) = (false, eval e X.env) :: backTo pos (starEach [] X.env) := by rfl) (h3 : (backTo pos (starEach [e] X.env)).any (·.1) = false := by rfl) :
    PE X (.Call (.Name "sorted" p) [e] [⟨some "key", .Name "len" p2, kp⟩] pos) (tCB (rSortLen X.K false) (tCons te tNil)) := by
  intro pins s σ H Q I h
  refine wpAny_Call_Name_kw (ld_blt I hg hm T1.b_sorted ?_ (by decide) (by decide))
  refine callWith_kw (thn ((pa_cons he pa_nil h1) pos pins s σ H _ I h) fun us s1 ⟨vs, H1, I1, r, q⟩ => ?_) h2 h3
  refine kws_cons (ld_blt I1 hg2 hm2 T1.b_len (kws_nil ?_) (by decide) (by decide))
  exact run_sorted_len I1 r q (fun l => ksk_s1 _ _) (fun x => ksk_l1 _ _) (fun x => ksk_t4 "len" x)
end L2
namespace L2
open PySem PySem.Spec PyProof.Rows
def cutS (z : Str) (lo hi : Option Int) : Str := ⟨((z.cps.toList.drop (HT.sIx z.length 0 lo)).take (HT.sIx z.length z.length hi - HT.sIx z.length 0 lo)).toArray⟩
theorem clip_s (v : Int) (n d : Nat) : max (0 : Int) (min (if v < 0 then v + (n : Int) else v) (n : Int)) = ((HT.sIx n d (some v) : Nat) : Int) := by
  show _ = (((if v < 0 then (v + (n : Int)).toNat else min v.toNat n) : Nat) : Int)
  by_cases hv : v < 0
  · rw [if_pos hv, if_pos hv]; omega
  · rw [if_neg hv, if_neg hv]; omega
theorem indices_cut (lo hi : Option Int) (n : Nat) : Builtin.Str.strSliceIndices lo hi 1 n = (List.range (HT.sIx n n hi - HT.sIx n 0 lo)).map fun k => HT.sIx n 0 lo + k := by
  have key : ∀ a b : Nat, sliceRange (a : Int) (b : Int) 1 = (List.range (b - a)).map fun k => a + k := fun a b => by
    unfold sliceRange
    have e : ((if (1 : Int) > 0 then (if (a : Int) < b then ((b : Int) - a + 1 - 1) / 1 else 0) else (if (a : Int) > b then ((a : Int) - b - 1 - 1) / (-1) else 0)) : Int).toNat = b - a := by
      rw [if_pos (by decide)]
      by_cases h : (a : Int) < b
      · rw [if_pos h, Int.ediv_one]; omega
      · rw [if_neg h]; omega
    simp only [e]
    refine List.map_congr_left fun k _ => ?_
    omega
  have hlo : (match lo with | none => (if (1 : Int) > 0 then (0 : Int) else (n : Int) - 1) | some i => if (1 : Int) > 0 then max 0 (min (if i < 0 then i + (n : Int) else i) (n : Int)) else max (-1) (min (if i < 0 then i + (n : Int) else i) ((n : Int) - 1))) = ((HT.sIx n 0 lo : Nat) : Int) := by
    cases lo with
    | none => rfl
    | some v =>
      show (if (1 : Int) > 0 then _ else _) = _
      rw [if_pos (by decide)]
      exact clip_s v n 0
  have hhi : (match hi with | none => (if (1 : Int) > 0 then (n : Int) else -1) | some i => if (1 : Int) > 0 then max 0 (min (if i < 0 then i + (n : Int) else i) (n : Int)) else max (-1) (min (if i < 0 then i + (n : Int) else i) ((n : Int) - 1))) = ((HT.sIx n n hi : Nat) : Int) := by
    cases hi with
    | none => rfl
    | some v =>
      show (if (1 : Int) > 0 then _ else _) = _
      rw [if_pos (by decide)]
      exact clip_s v n n
  unfold Builtin.Str.strSliceIndices
  refine Eq.trans ?_ (key _ _)
  rw [← hlo, ← hhi]
  cases lo <;> cases hi <;> rfl
theorem slice_cut (z : Str) (lo hi : Option Int) : Txt.slice z lo hi = cutS z lo hi := by
  have e := indices_cut lo hi z.length
  have h2 := HT.sIx_le z.length z.length (Nat.le_refl _) hi
  have hz : z.cps.toList.length = z.length := by simp; rfl
  have pick : (Builtin.Str.strSliceIndices lo hi 1 z.length).filterMap (z.cps[·]?) = (z.cps.toList.drop (HT.sIx z.length 0 lo)).take (HT.sIx z.length z.length hi - HT.sIx z.length 0 lo) := by
    rw [e]
    by_cases h : HT.sIx z.length 0 lo ≤ HT.sIx z.length z.length hi
    · have h3 := StrLaws.picks z.cps.toList (HT.sIx z.length z.length hi - HT.sIx z.length 0 lo) (HT.sIx z.length 0 lo) (by omega)
      simpa using h3
    · have : HT.sIx z.length z.length hi - HT.sIx z.length 0 lo = 0 := by omega
      rw [this]
      simp
  unfold Txt.slice
  split
  · rename_i hw
    have hl : (Builtin.Str.strSliceIndices lo hi 1 z.length).length = z.length := by simpa using hw
    rw [e, List.length_map, List.length_range] at hl
    unfold cutS
    rw [hl]
    obtain ⟨cs⟩ := z
    by_cases h0 : cs.size = 0
    · have : cs = #[] := Array.eq_empty_of_size_eq_zero h0
      subst this
      simp [Str.length]
    · have a0 : HT.sIx (Str.mk cs).length 0 lo = 0 := by
        have : (Str.mk cs).length = cs.size := rfl
        omega
      rw [a0]
      have : (Str.mk cs).length = cs.toList.length := by simp; rfl
      rw [this, List.drop_zero]
      show Str.mk cs = ⟨(cs.toList.take cs.toList.length).toArray⟩
      rw [List.take_length]
  · unfold cutS
    rw [pick]
def rSlS : V → Option Int → Option Int → Hp → VK → Prop := fun x lo hi H Q => ∃ z, x = .str z ∧ z.length ≤ sizeLine ∧ Q (.str (cutS z lo hi)) H
theorem sl_str {X : Cx} : SlR X rSlS := by
  intro pins s σ H x v vl vu lo hi sl Q I rx hs pl pu h
  obtain ⟨z, rfl, hz, q⟩ := h
  obtain ⟨t, rfl⟩ := rx
  rw [← slice_cut] at q
  refine ⟨"str", _, F.slot_str_getitem.lookup, typeIs_str _ _ _, ?_⟩
  have fin : ∀ (l u : Option (Int × Tok)), l.map (·.1) = lo → u.map (·.1) = hi → vl = partValue l → vu = partValue u → wpAny (model X.prog X.w) X.A (getItem (.str z t) (.ref sl)) (EP X pins σ Q) X.xe s := fun l u e1 e2 e3 e4 => by
    subst e1 e2 e3 e4
    obtain ⟨o, ho, hc, hd⟩ := hs
    refine wpAny_getItem_str_slice (l := l) (u := u) (st := none) ⟨o, ho, hc, hd⟩ rfl ?_
    exact post_val_or_str ⟨Nat.le_trans (Txt.slice_le z _ _) hz, fun t' k => ⟨.str _, H, I.tok _, ⟨_, rfl⟩, q⟩⟩
  cases pl with
  | none =>
    cases pu with
    | none => exact fin none none rfl rfl rfl rfl
    | int j u => exact fin none (some (j, u)) rfl rfl rfl rfl
  | int i t1 =>
    cases pu with
    | none => exact fin (some (i, t1)) none rfl rfl rfl rfl
    | int j u => exact fin (some (i, t1)) (some (j, u)) rfl rfl rfl rfl
end L2
namespace L2
open PySem PySem.Spec PyProof.Rows
def tRev (K : PySem.W.Frag) (te ts : TE) : TE := fun σ H Q => te σ H fun x H1 => ts σ H1 fun k H2 => ∃ a xs, x = .ref a ∧ k = .int (-1) ∧ SqL K H2 a xs ∧ ∀ p, H2 p = none → Q (.ref p) (upd H2 p (.lst xs.reverse))
theorem pe_rev {X : Cx} {e st : Expr} {te ts : TE} {p2 pos : Pos} (he : PE X e te) (hst : PE X st ts) (hmono : ∀ σ H (Q Q' : VK), ts σ H Q → (∀ v H', Q v H' → Q' v H') → ts σ H Q') : PE X (.Subscript e (.Slice none none (some st) p2) pos) (tRev X.K te ts) := by
  intro pins s σ H Q I h
  refine Subscript_ (thn (he pins s σ H _ I h) fun v s1 ⟨x, H1, I1, r1, q1⟩ => ?_)
  refine wpAny_Slice ?_
  rw [evalPart_none]
  refine wpAny_pure ?_
  refine wpAny_pure ?_
  have hp : PO X (some st) (tPart ts) := po_some hst
  have hrd : tPart ts σ H1 (fun o H2 => ∃ i, o = some i ∧ ∃ a xs, x = .ref a ∧ V.int i = .int (-1) ∧ SqL X.K H2 a xs ∧ ∀ p, H2 p = none → Q (.ref p) (upd H2 p (.lst xs.reverse))) := hmono σ H1 _ _ q1 fun k H2 ⟨a, xs, e1, e2, e3, e4⟩ => ⟨-1, e2, -1, rfl, a, xs, e1, rfl, e3, e4⟩
  refine thn (hp pins s1 σ H1 (fun o H2 => ∃ i, o = some i ∧ ∃ a xs, x = .ref a ∧ V.int i = .int (-1) ∧ SqL X.K H2 a xs ∧ ∀ p, H2 p = none → Q (.ref p) (upd H2 p (.lst xs.reverse))) I1 ?_) fun vk s2 ⟨k, H2, I2, pk, q2⟩ => ?_
  · exact hrd
  · obtain ⟨i, rfl, a, xs, rfl, ei, hx, q⟩ := q2
    cases ei
    cases r1
    have I4 : Inv X pins σ H2 { s2 with heap := s2.heap.push { cls := .type "slice", data := .fields #[.none, .none, vk] } } := I2.kept (t' := s2.toks) fun b ob q => Heap.get?_push_of_some _ q
    obtain ⟨its, r, ht, hz⟩ := I4.list hx
    show wpAny (model X.prog X.w) X.A (subscriptTail e (.Slice none none (some st) p2) (.ref a) (.ref s2.heap.objs.size)) (EP X pins σ Q) X.xe { s2 with heap := s2.heap.push { cls := .type "slice", data := .fields #[.none, .none, vk] } }
    refine tail_any (ops := [.ref a, .ref s2.heap.objs.size]) ht.isList.typeIs slot_list_getitem.lookup ?_ (by with_unfolding_all rfl)
    refine wpAny_getItem_list_slice ht.isList (Heap.IsSliceOf.new ..) .none .none pk (by decide) ?_ (by rw [List.size_toArray]; have := r.length; omega)
    rw [PySem.W.krv_pick]
    refine ⟨.ref _, _, I4.laid (t' := s2.toks) (o := .lst xs.reverse) (fun b ob q => Heap.get?_push_of_some _ q) (Nat.le_refl _) ?_, rfl, q _ (I4.hok.fresh (Nat.le_refl _))⟩
    exact ⟨by rw [List.length_reverse]; exact hz, _, 0, r.reverse, by
      have := Heap.get?_push_size { s2.heap.push { cls := .type "slice", data := .fields #[.none, .none, vk] } with } (o := { cls := .type "list", data := .seq its.toArray.toList.reverse.toArray }) rfl
      exact this⟩
end L2
namespace T1
open PySem L2 PyProof.Rows
mutual
inductive Dep : Nat → D → Prop where
  | non (k : Nat) : Dep k .non
  | bl (k : Nat) (b : Bool) : Dep k (.bl b)
  | int (k : Nat) (i : Int) : Dep k (.int i)
  | str (k : Nat) (x : Str) : Dep k (.str x)
  | tup {k : Nat} {ds : List D} (t : Deps k ds) : Dep (k + 1) (.tup ds)
  | lst {k : Nat} {ds : List D} (t : Deps k ds) : Dep (k + 1) (.lst ds)
inductive Deps : Nat → List D → Prop where
  | nil (k : Nat) : Deps k []
  | cons {k : Nat} {d : D} {ds : List D} (h : Dep k d) (t : Deps k ds) : Deps k (d :: ds)
end
theorem Deps.get {k : Nat} : ∀ {ds : List D} {i : Nat}, Deps k ds → i < ds.length → Dep k (ds.getD i .non)
  | _, 0, .cons h _, _ => h
  | _, i + 1, .cons _ t, hi => by
    have := Deps.get (i := i) t (by simpa using hi)
    simpa using this
theorem vals_at {xs : List V} {us : List Value} (r : Vals xs us) {j : Nat} (h : j < us.toArray.size) : RelV (xs.getD j .non) us.toArray[j] := by
  have hl := r.length
  have h' : j < xs.length := by rw [hl]; simpa using h
  obtain ⟨u, hu, ru⟩ := r.get (i := j) (x := xs.getD j .non) (by simp [h'])
  have : us.toArray[j] = u := by
    have h2 : j < us.length := by simpa using h
    have e : us[j]? = some us[j] := List.getElem?_eq_getElem h2
    rw [e] at hu
    simpa using Option.some.inj hu
  rw [this]
  exact ru
section
variable {X : Cx} {pins : List (Addr × Obj)} {σ : L2.St} {H : Hp} {s : Shared} {z z' : Addr}
theorem eq_same (I : Inv X pins σ H s) : ∀ (k : Nat) {d : D}, Dep k d → ∀ {A : Around} {x y : V} {u v : Value}, Room k A → Rep z H x d → Rep z' H y d → RelV x u → RelV y v → SeqAt.EqAt A s u v true := by
  intro k
  induction k with
  | zero =>
    intro d hd A x y u v hr rx ry ru rv
    cases hd with
    | non => cases rx; cases ry; cases ru; cases rv; exact SeqAt.EqAt.same _
    | bl _ b => cases rx; cases ry; cases ru; cases rv; exact SeqAt.EqAt.same _
    | int _ i => cases rx; cases ry; obtain ⟨t, rfl⟩ := ru; obtain ⟨t', rfl⟩ := rv; have := SeqAt.EqAt.int_int (A := A) (s := s) i t i t'; simpa using this
    | str _ x => cases rx; cases ry; obtain ⟨t, rfl⟩ := ru; obtain ⟨t', rfl⟩ := rv; have := SeqAt.EqAt.str_str (A := A) (s := s) x t x t'; simpa using this
  | succ k ih =>
    intro d hd A x y u v hr rx ry ru rv
    cases hd with
    | non => cases rx; cases ry; cases ru; cases rv; exact SeqAt.EqAt.same _
    | bl _ b => cases rx; cases ry; cases ru; cases rv; exact SeqAt.EqAt.same _
    | int _ i => cases rx; cases ry; obtain ⟨t, rfl⟩ := ru; obtain ⟨t', rfl⟩ := rv; have := SeqAt.EqAt.int_int (A := A) (s := s) i t i t'; simpa using this
    | str _ x => cases rx; cases ry; obtain ⟨t, rfl⟩ := ru; obtain ⟨t', rfl⟩ := rv; have := SeqAt.EqAt.str_str (A := A) (s := s) x t x t'; simpa using this
    | @tup _ ds t =>
      cases rx with
      | @tup a xs _ ha _ r1 =>
        cases ry with
        | @tup b ys _ hb _ r2 =>
          cases ru
          cases rv
          by_cases hab : a = b
          · subst hab; exact SeqAt.EqAt.same _
          · obtain ⟨its, q1, p1, _⟩ := I.tuple (SqT.of ha)
            obtain ⟨its2, q2, p2, _⟩ := I.tuple (SqT.of hb)
            have l1 := q1.length
            have l2 := q2.length
            have e1 := r1.length
            have e2 := r2.length
            have key := SeqAt.RcAt.tuples (e := fun _ => true) p1 p2 hr.units0 fun j h1 h2 => ih (t.get (i := j) (by rw [← e1, l1]; simpa using h1)) hr.in1 (r1.get (i := j) (by rw [← e1, l1]; simpa using h1)) (r2.get (i := j) (by rw [← e2, l2]; simpa using h2)) (vals_at q1 h1) (vals_at q2 h2)
            have e : ((List.range (min its.toArray.size its2.toArray.size)).all (fun _ => true) && its.toArray.size == its2.toArray.size) = true := by
              have : its.toArray.size = its2.toArray.size := by simp; omega
              rw [this]
              simp
            rw [e] at key
            exact SeqAt.EqAt.of_refs hab key
    | @lst _ ds t =>
      cases rx with
      | @lst a xs _ ha _ r1 =>
        cases ry with
        | @lst b ys _ hb _ r2 =>
          cases ru
          cases rv
          by_cases hab : a = b
          · subst hab; exact SeqAt.EqAt.same _
          · obtain ⟨its, q1, p1, _⟩ := I.list (SqL.of ha)
            obtain ⟨its2, q2, p2, _⟩ := I.list (SqL.of hb)
            have l1 := q1.length
            have l2 := q2.length
            have e1 := r1.length
            have e2 := r2.length
            have hsz : its.toArray.size = its2.toArray.size := by simp; omega
            have key := SeqAt.RcAt.lists (e := fun _ => true) p1.isList p2.isList hsz hr.units0 fun j h1 h2 => ih (t.get (i := j) (by rw [← e1, l1]; simpa using h1)) hr.in1 (r1.get (i := j) (by rw [← e1, l1]; simpa using h1)) (r2.get (i := j) (by rw [← e2, l2]; simpa using h2)) (vals_at q1 h1) (vals_at q2 h2)
            have e : (List.range its.toArray.size).all (fun _ => true) = true := by simp
            rw [e] at key
            exact SeqAt.EqAt.of_refs hab key
def rSame (b : Bool) : R2 := fun x y H Q => ∃ z z' ds, Rep z H x (.lst ds) ∧ Rep z' H y (.lst ds) ∧ Deps 4 ds ∧ Q (.bl b) H
theorem op_ne_same (hr : Room 5 X.A) : OpR X (compareOp .NotEq) (rSame false) := by
  intro pins s σ H x y v u Q I rx ry h
  obtain ⟨z, z', ds, r1, r2, dp, q⟩ := h
  cases r1 with
  | @lst a xs _ ha _ r1 =>
    cases r2 with
    | @lst b ys _ hb _ r2 =>
      cases rx
      cases ry
      obtain ⟨its, q1, p1, _⟩ := I.list (SqL.of ha)
      obtain ⟨its2, q2, p2, _⟩ := I.list (SqL.of hb)
      have l1 := q1.length
      have l2 := q2.length
      have e1 := r1.length
      have e2 := r2.length
      have hsz : its.toArray.size = its2.toArray.size := by simp; omega
      show wpAny _ _ (richCompare .NotEq _ _) _ _ _
      refine SeqAt.RcNeAt.lists (e := fun _ => true) p1.isList p2.isList hsz hr.units0 (fun j h1 h2 => eq_same I 4 (dp.get (i := j) (by rw [← e1, l1]; simpa using h1)) hr.in1 (r1.get (i := j) (by rw [← e1, l1]; simpa using h1)) (r2.get (i := j) (by rw [← e2, l2]; simpa using h2)) (vals_at q1 h1) (vals_at q2 h2)) _ _ _ _ ?_
      have e : (!(List.range its.toArray.size).all (fun _ => true)) = false := by simp
      rw [e]
      exact ⟨.bl _, H, I, rfl, q⟩
end
end T1
namespace L2
open PySem PySem.Spec PyProof.Rows
def tokOf : Value → Tok
  | .str _ t => t
  | _ => 0
theorem strValues_of : ∀ {us : List Value}, (∀ u ∈ us, ∃ t, u = .str (strOf u) t) → us = strValues (us.map fun u => (strOf u, tokOf u))
  | [], _ => rfl
  | u :: r, h => by
    obtain ⟨t, e⟩ := h u List.mem_cons_self
    have ih := strValues_of fun v hv => h v (List.mem_cons_of_mem _ hv)
    rw [List.map_cons]
    show u :: r = .str (strOf u) (tokOf u) :: strValues (r.map fun u => (strOf u, tokOf u))
    rw [← ih]
    congr 1
    rw [e]
    rfl
def joinOf (xs : List Str) : Str := xs.headD ⟨#[]⟩
theorem mt_join1 {X : Cx} : MtR X "str.join" (fun x vs H Q => ∃ sep l xs, x = .str sep ∧ vs = [.ref l] ∧ SqL X.K H l (xs.map V.str) ∧ xs.length ≤ 1 ∧ sep.length ≤ 100 ∧ (∀ y ∈ xs, y.length ≤ 1000) ∧ Q (.str (joinOf xs)) H) := by
  intro pins s σ H x vs v us Q I rx rv h
  obtain ⟨sep, l, xs, rfl, rfl, hl, h1, hsep, hz, q⟩ := h
  obtain ⟨t, rfl⟩ := rx
  obtain ⟨u, rfl, ru⟩ := rv.one
  cases ru
  obtain ⟨its, r, pl, _⟩ := I.list hl
  obtain ⟨e1, e2⟩ := vals_strOf r
  have e3 := strValues_of e2
  have e4 : (its.map fun u => (strOf u, tokOf u)).map (·.1) = xs := by rw [List.map_map, ← e1]; rfl
  have hI : s.heap.IsList l (strValues (its.map fun u => (strOf u, tokOf u))).toArray := by rw [← e3]; exact pl.isList
  refine call_meets F.slot_str_join (typeIs_str s sep t) F.entry_str_join (F.args_str_join_2 _ _) (meets_str_join_list sep t l (its.map fun u => (strOf u, tokOf u)) ?_) ⟨hI, ?_⟩
  · rw [e4]
    exact StrLaws.joinFits (B := 1000) hz (by have : xs.length * sep.length ≤ 1 * 100 := Nat.mul_le_mul h1 hsep; omega)
  · generalize its.map (fun u => (strOf u, tokOf u)) = ps at e4
    match ps, e4 with
    | [], e4 =>
      have : xs = [] := by rw [← e4]; rfl
      subst this
      show (Made.str _).post _ s
      exact ⟨by show (0 : Nat) ≤ _; exact Nat.zero_le _, ⟨.str _, H, I.tok _, ⟨_, rfl⟩, q⟩⟩
    | [p], e4 =>
      have : xs = [p.1] := by rw [← e4]; rfl
      subst this
      exact ⟨.str _, H, I, ⟨_, rfl⟩, q⟩
    | p :: p2 :: r', e4 =>
      exfalso
      rw [← e4] at h1
      simp at h1
end L2
namespace L2
open PySem PySem.Spec PyProof.Rows
theorem seq_hide {t u : TS} {D : Ends} {σ : St} {H : Hp} (h : ∀ U : St → Hp → Prop, (∀ σ H, u D σ H → U σ H) → t { D with nx := U } σ H) : tSeq t u D σ H := h (u D) fun _ _ q => q
theorem D_hide {t : TS} {D : Ends} {σ : St} {H : Hp} (h : ∀ D' : Ends, (∀ σ H, D.nx σ H → D'.nx σ H) → (∀ v H, D.rt v H → D'.rt v H) → (∀ σ H, D.bk σ H → D'.bk σ H) → (∀ σ H, D.ct σ H → D'.ct σ H) → t D' σ H) : t D σ H := h D (fun _ _ q => q) (fun _ _ q => q) (fun _ _ q => q) fun _ _ q => q
structure Wrq (G : Prop) : Prop where
  out : G
theorem ite_both {c A G : Prop} [Decidable c] (h : c → Wrq G → A) (g : G) : if c then A else G := by
  by_cases q : c
  · rw [if_pos q]
    exact h q ⟨g⟩
  · rw [if_neg q]
    exact g
theorem seq_cut {t u : TS} {D : Ends} {σ : St} {H : Hp} {J : St → Hp → Prop} (h1 : ∀ U : St → Hp → Prop, (∀ σ H, J σ H → U σ H) → t { D with nx := U } σ H) (h2 : ∀ σ H, J σ H → u D σ H) : tSeq t u D σ H := h1 (u D) h2
end L2
namespace L2
open PySem PySem.Spec PySem.Calls PyProof.Rows
section
variable {prog : Program} {w : World} {A : Around} {E : Value → Shared → Prop} {s : Shared}
theorem lam_turn {q a c' : Addr} {qual : Str} {params : Arguments} {scope : Scope} {pm ctv : Value} {kk : Nat} {p1 p2 p3 p4 p5 : Pos} {mg mb : Str → Option Value} {its : List Value} {x : Str} {t : Tok} {Q : Value → Shared → Prop}
    (ho : s.heap.get? q = some (PySem.W.kla_obj "<lambda>" qual params (.Call (.Name "len" p1) [.Subscript (.Name "fit" p2) (.Constant (.int 0) kk p3) p4] [] p5) scope [] pm c' ctv)) (hcd : s.heap.CodeRec (.ref c') qual)
    (hbind : bindArgs (PySem.W.kla_fn "<lambda>" qual params (.Call (.Name "len" p1) [.Subscript (.Name "fit" p2) (.Constant (.int 0) kk p3) p4] [] p5) scope [] pm (.ref c') ctv) ⟨[.ref a], []⟩ = pure [(("fit" : Str), Value.ref a)])
    (hco : scope.isCoroutine = false) (hgen : scope.isGenerator = false) (hk : scope.kind = .function) (hcell : ∀ y ∈ scope.names, y.2 ≠ .cell) (hfit : scope.names.lookup ("fit" : Str) = some .local) (hlen : scope.names.lookup ("len" : Str) = some .globalImplicit)
    (hg : s.heap.Ns mainGlobals mg) (hm : mg "len" = none) (hb : s.heap.Ns builtinsNs mb) (hbb : mb "len" = some (.builtin "len")) (hlim : s.heap.NoLimit) (hroom : A.depth < recursionLimit)
    (ht : IsTup s.heap a its.toArray) (h0 : its[0]? = some (.str x t)) (hz : its.length ≤ sizeLine) (hx : x.length ≤ sizeLine)
    (h : ∀ h' tk t', (∀ b o, s.heap.get? b = some o → h'.get? b = some o) → Q (.int x.length t') { s with heap := h', toks := tk }) : wpAny (model prog w) A (call (.ref q) [.ref a]) Q E s := by
  have line := line63
  refine wpAny_call (PySem.W.kla_callFunE hroom ho rfl hco hgen rfl hcd ?_)
  rw [hbind]
  refine wpAny_pure (wpAny_newFunctionEnv hcell (fun y hy => ?_) (fun h₁ hns hsb => ⟨hlim.fresh _ hsb, ?_⟩) hk)
  · have : y = (("fit" : Str), Value.ref a) := by simpa using hy
    rw [this]
    exact hfit
  have hk₁ : ∀ b o, s.heap.get? b = some o → h₁.get? b = some o := fun b o e => hsb.extBut b o (Nat.ne_of_lt (Heap.lt_size e)) (Heap.get?_push_of_some _ e)
  have hm1 : ([(("fit" : Str), Value.ref a)] : List (Str × Value)).reverse.lookup ("fit" : Str) = some (.ref a) := by simp [List.lookup]
  show codeAny _ _ (.expr _ (PySem.W.envX qual scope s.heap.objs.size q (.ref c') [])) _ _
  refine PySem.W.kla_codeExpr ?_
  refine wpAny_Call_Name_kw (Calls.Name_function_global hk (by show scope.names.lookup _ = _; exact hlen) (Calls.loadGlobal_builtin (hg.keeps hk₁) hm (hb.keeps hk₁) hbb ?_) (by decide))
  refine PyProof.Rows.callWith_builtin1 ?_ rfl rfl
  show wpAny _ _ (spliced ((false, eval _ _) :: backTo p5 (starEach [] _))) _ _ _
  refine Calls.spliced_cons (Subscript_ (wpAny_Name (wpAny_loadName_local hk (by show scope.names.lookup _ = _; exact hfit) hns hm1 ?_) (by decide)))
  refine wpAny_Constant_int ?_
  have ht1 : IsTup h₁ a its.toArray := by
    obtain ⟨ob, e, r⟩ := ht
    exact ⟨ob, hk₁ _ _ e, r⟩
  have hl0 : 0 < its.length := by
    cases its with
    | nil => cases h0
    | cons _ _ => simp
  have hseq : seqIndex? 0 its.toArray.size = some 0 := by
    have := PySem.StrLaws.seqIndex_nonneg (i := 0) (n := its.toArray.size) (by omega) (by simpa using hl0)
    simpa using this
  have fin : ∀ tk, wpAny (model prog w) (A.deeper (PySem.W.envX qual scope s.heap.objs.size q (.ref c') [])) (spliced (backTo p5 (starEach [] (PySem.W.envX qual scope s.heap.objs.size q (.ref c') [])))) (fun vs s₂ => wpAny (model prog w) (A.deeper (PySem.W.envX qual scope s.heap.objs.size q (.ref c') [])) (call (.builtin "len") (.str x t :: vs)) (fun v s' => (fun (r : Result) s' => match r with | .ok (.ret v) => Q v s' | .ok _ => False | .error e => E e s') (.ok (.ret v)) s') (fun e' s' => wpAny (model prog w) (A.deeper (PySem.W.envX qual scope s.heap.objs.size q (.ref c') [])) (leaving (PySem.W.envX qual scope s.heap.objs.size q (.ref c') []) e') (fun _ s'' => (fun (r : Result) s' => match r with | .ok (.ret v) => Q v s' | .ok _ => False | .error e => E e s') (.error e') s'') (fun e'' s'' => (fun (r : Result) s' => match r with | .ok (.ret v) => Q v s' | .ok _ => False | .error e => E e s') (.error e'') s'') s') s₂)
      (fun e' s' => wpAny (model prog w) (A.deeper (PySem.W.envX qual scope s.heap.objs.size q (.ref c') [])) (leaving (PySem.W.envX qual scope s.heap.objs.size q (.ref c') []) e') (fun _ s'' => (fun (r : Result) s' => match r with | .ok (.ret v) => Q v s' | .ok _ => False | .error e => E e s') (.error e') s'') (fun e'' s'' => (fun (r : Result) s' => match r with | .ok (.ret v) => Q v s' | .ok _ => False | .error e => E e s') (.error e'') s'') s') { s with heap := h₁, toks := tk } := fun tk => by
    refine Calls.spliced_nil (len_str (by omega) ?_)
    exact h h₁ _ _ hk₁
  exact subscriptTail_builtinR (x := .str x t) ht1.typeIs slot_tuple_getitem.lookup (getItem_tuple (j := 0) (Q := fun r s' => r = .str x t ∧ _) ht1 (by omega) (by omega) hseq (by simpa using h0) ⟨rfl, fin _⟩) rfl
end
end L2
namespace L2
open PySem PySem.Spec PySem.Calls PyProof.Rows
def ButX (q : Addr) (H H' : Hp) : Prop := ∀ b o, b ≠ q → H b = some o → H' b = some o
def cdO (c : Addr) (q : Str) : HO := .ext fun h => h.CodeRec (.ref c) q
def LamT (P : Addr) (ln cl : Nat) (q : Str) (H : Hp) : Prop :=
  H P = some (.tbl #[]) ∨ ∃ c', H P = some (.tbl #[rawInt ln, rawInt cl, .ref c']) ∧ H c' = some (cdO c' q)
theorem LamT.tbl {P : Addr} {ln cl : Nat} {q : Str} {H : Hp} (h : LamT P ln cl q H) : ∃ ps, H P = some (.tbl ps) := by
  rcases h with h | ⟨c', h, _⟩
  · exact ⟨_, h⟩
  · exact ⟨_, h⟩
theorem codeRec_ok {P : Program} {w : World} {H : Hp} {h : Heap} {c : Addr} {q : Str} (hr : h.CodeRec (.ref c) q) : ObjOk P w H h c (cdO c q) := by
  refine ⟨hr, ?_, fun h1 h2 e k => ?_⟩
  · obtain ⟨c2, oc, vs, t, e, ho, _⟩ := hr
    cases e
    exact ⟨oc, ho⟩
  · obtain ⟨c2, oc, vs, t, e, ho, r⟩ := e
    cases e
    exact ⟨c, oc, vs, t, rfl, k _ ho, r⟩
section
variable {X : Cx} {pins : List (Addr × Obj)} {σ : St} {H : Hp} {s : Shared} {E : Value → Shared → Prop}
theorem lam_make {P c : Addr} {pos : Pos} {nm q : Str} {params : Arguments} {body : Expr} {scope : Scope} {fl : Nat} {Qk : Value → Shared → Prop} (I : Inv X pins σ H s) (hT : LamT P pos.line pos.col q H) (hcl : closureFor scope X.env = pure []) (hcode : X.env.code = .ref c) (hK : PySem.W.codeHdIn X.K c P = true) (hBA : X.base.BuiltinsAt X.mg P)
    (h : ∀ f c' ctv s' H1, Inv X pins σ H1 s' → ButX P H H1 → LamT P pos.line pos.col q H1 → s'.heap.get? f = some (PySem.W.kla_obj nm q params body scope [] ((X.mg "__name__").getD .none) c' ctv) → s'.heap.CodeRec (.ref c') q → f ≠ X.env.locals → c' ≠ X.env.locals → Qk (.ref f) s') :
    wpAny (model X.prog X.w) X.A (makeFunction nm q params (.expr body) scope X.env [] [] [] pos fl) Qk E s := by
  have C := PySem.W.codeHd_of_K I.kIn hK
  have hg := I.mod.glob.keeps I.bk
  have hb := hBA.keeps I.bk
  have hL := I.lt
  obtain ⟨m0, hn0, _⟩ := id I.loc
  rcases hT with hT | ⟨c', hT, hc'⟩
  · have hP : s.heap.get? P = some (PySem.W.tabObj #[]) := I.hok P _ hT
    have hPlt : P < s.heap.objs.size := Heap.lt_size hP
    have hgP : mainGlobals ≠ P := fun z => by
      obtain ⟨o, es, ep, e, hd, _⟩ := hg
      rw [z, hP] at e; cases e; cases hd
    have hLP : X.env.locals ≠ P := fun z => by rw [← z, I.free] at hT; cases hT
    refine PySem.W.kla_makeFunction (mg := X.mg) hcl I.ok.glob hg hcode C hP trivial rfl hgP hb fun c' ctv h' tk hx hge hlt hrec htb => ?_
    have lt1 : ∀ b u, H b = some u → b < s.heap.objs.size := fun b u e => (I.hok b u e).lt
    have nc : ∀ b u, H b = some u → b ≠ c' := fun b u e => Nat.ne_of_lt (Nat.lt_of_lt_of_le (lt1 b u e) hge)
    have hcP : c' ≠ P := (Nat.ne_of_lt (Nat.lt_of_lt_of_le hPlt hge)).symm
    have k : ∀ b o, b ≠ P → s.heap.get? b = some o → (h'.push (PySem.W.kla_obj nm q params body scope [] ((X.mg "__name__").getD .none) c' ctv)).get? b = some o := fun b o hb e => Heap.get?_push_of_some _ (hx b o hb e)
    have htb' : (h'.push (PySem.W.kla_obj nm q params body scope [] ((X.mg "__name__").getD .none) c' ctv)).get? P = some (PySem.W.tabObj #[rawInt pos.line, rawInt pos.col, .ref c']) := Heap.get?_push_of_some _ (by simpa using htb)
    have hrec' : (h'.push (PySem.W.kla_obj nm q params body scope [] ((X.mg "__name__").getD .none) c' ctv)).CodeRec (.ref c') q := by
      obtain ⟨c2, oc, vs, t, e, ho, r⟩ := hrec
      cases e
      exact ⟨c', oc, vs, t, rfl, Heap.get?_push_of_some _ ho, r⟩
    have same : ∀ b u, b ≠ P → H b = some u → upd (upd H c' (cdO c' q)) P (.tbl #[rawInt pos.line, rawInt pos.col, .ref c']) b = some u := fun b u hb e => by
      rw [upd_ne hb, upd_ne (nc b u e)]
      exact e
    refine h h'.objs.size c' ctv _ (upd (upd H c' (cdO c' q)) P (.tbl #[rawInt pos.line, rawInt pos.col, .ref c'])) (I.step (g' := s.gens) (d' := s.drawn) (ch := []) (fun _ z => nomatch z) (fun b o _ _ _ e n => ?_) (fun b o _ _ _ e n => ⟨o.slots, ?_⟩) (fun b o _ e n => ?_) (fun b o _ e => ?_) (fun b xs e => ?_) (fun b o u e => ?_) (fun b ps e => ?_) (fun m' hm => ?_) (fun b u e => ?_) I.bare) (fun b u hb e => same b u hb e) (.inr ⟨c', upd_same, by rw [upd_ne hcP, upd_same]⟩) (Heap.get?_push_size _ rfl) hrec' ?_ ?_
    · exact k b o (ne_of_none hT n).symm e
    · exact k b o (ne_of_none hT n).symm e
    · rw [upd_ne (ne_of_none hT n).symm, upd_ne (Nat.ne_of_lt (Nat.lt_of_lt_of_le (Heap.lt_size e) hge))]
      exact n
    · by_cases hb : b = P
      · exact ⟨_, by rw [hb]; exact htb'⟩
      · exact ⟨o, k b o hb e⟩
    · exact same b _ (ne_of e hT (by intro z; cases z)) e
    · exact same b _ (ne_of e hT (by intro z; cases z)) e
    · by_cases hb : b = P
      · subst hb
        rw [hT] at e
        cases e
        exact ⟨#[rawInt pos.line, rawInt pos.col, .ref c'], by rw [upd_same]; simp⟩
      · exact ⟨#[], by rw [same b _ hb e]; simp⟩
    · exact (hm.extBut hx hLP).push _
    · by_cases hb : b = P
      · subst hb
        rw [upd_same] at e
        cases e
        exact htb'
      · rw [upd_ne hb] at e
        by_cases hc : b = c'
        · subst hc
          rw [upd_same] at e
          cases e
          exact codeRec_ok hrec'
        · rw [upd_ne hc] at e
          refine (I.hok b u e).stay (fun d v hd z => k d v ?_ z) (fun d z => same d _ (ne_of z hT (by intro y; cases y)) z) fun d _ z => same d _ (ne_of z hT (by intro y; cases y)) z
          rcases hd with hd | hd
          · rw [hd]; exact hb
          · exact ne_of hd hT (by intro y; cases y)
    · exact (Nat.ne_of_lt (Nat.lt_of_lt_of_le hL (Nat.le_trans hge (Nat.le_of_lt hlt)))).symm
    · exact (Nat.ne_of_lt (Nat.lt_of_lt_of_le hL hge)).symm
  · have hP : s.heap.get? P = some (PySem.W.tabObj #[rawInt pos.line, rawInt pos.col, .ref c']) := I.hok P _ hT
    have hrec : s.heap.CodeRec (.ref c') q := (I.hok c' _ hc').1
    refine PySem.W.kla_makeFunctionHit (mg := X.mg) hcl I.ok.glob hg hcode C hP (by simp [TriplesOk, rawInt]) (cv := .ref c') (by simp [codeAmong, rawInt]) hb fun ctv h' tk hk hsz => ?_
    have k : ∀ b o, s.heap.get? b = some o → (h'.push (PySem.W.kla_obj nm q params body scope [] ((X.mg "__name__").getD .none) c' ctv)).get? b = some o := fun b o e => Heap.get?_push_of_some _ (hk b o e)
    refine h h'.objs.size c' ctv _ H (I.kept k) (fun _ _ _ e => e) (.inr ⟨c', hT, hc'⟩) (Heap.get?_push_size _ rfl) ?_ (Nat.ne_of_lt (Nat.lt_of_lt_of_le hL hsz)).symm (fun z => by rw [z, I.free] at hc'; cases hc')
    obtain ⟨c2, oc, vs, t, e, ho, r⟩ := hrec
    cases e
    exact ⟨c', oc, vs, t, rfl, k _ _ ho, r⟩
end
end L2
namespace L2
open PySem PySem.Spec PySem.Calls PyProof.Rows
def rMaxLam (P : Addr) (ln cl : Nat) (q : Str) : List V → Hp → VK → Prop := fun vs H Q => ∃ (l : Addr) (xs : List V) (ms : Nat → Str), vs = [.ref l] ∧ H l = some (.lst xs) ∧ 0 < xs.length ∧ (∀ i, i < xs.length → ∃ a ys, xs[i]? = some (.ref a) ∧ H a = some (.tup (.str (ms i) :: ys)) ∧ (ms i).length ≤ 1000) ∧ LamT P ln cl q H ∧
  ∀ H1 i v, ButX P H H1 → LamT P ln cl q H1 → xs[i]? = some v → (∀ j, j < xs.length → (ms j).length ≤ (ms i).length ∧ (j < i → (ms j).length < (ms i).length)) → Q v H1
section
variable {X : Cx} {pins : List (Addr × Obj)} {σ : St} {H : Hp} {s : Shared} {E : Value → Shared → Prop}
theorem run_max_lam {q c' : Addr} {qual : Str} {params : Arguments} {scope : Scope} {pm ctv : Value} {kk : Nat} {p1 p2 p3 p4 p5 : Pos} {l : Addr} {xs : List V} {ms : Nat → Str} {Q : VK}
    (I : Inv X pins σ H s) (hcalm : X.calm = true) (hr : X.A.in1.depth < recursionLimit) (hm : X.mg "len" = none)
    (ho : s.heap.get? q = some (PySem.W.kla_obj "<lambda>" qual params (.Call (.Name "len" p1) [.Subscript (.Name "fit" p2) (.Constant (.int 0) kk p3) p4] [] p5) scope [] pm c' ctv)) (hcd : s.heap.CodeRec (.ref c') qual) (hq : q ≠ X.env.locals) (hc : c' ≠ X.env.locals)
    (hbind : ∀ a, bindArgs (PySem.W.kla_fn "<lambda>" qual params (.Call (.Name "len" p1) [.Subscript (.Name "fit" p2) (.Constant (.int 0) kk p3) p4] [] p5) scope [] pm (.ref c') ctv) ⟨[.ref a], []⟩ = pure [(("fit" : Str), Value.ref a)])
    (hco : scope.isCoroutine = false) (hgen : scope.isGenerator = false) (hk : scope.kind = .function) (hcell : ∀ y ∈ scope.names, y.2 ≠ .cell) (hfit : scope.names.lookup ("fit" : Str) = some .local) (hlen : scope.names.lookup ("len" : Str) = some .globalImplicit)
    (hl : H l = some (.lst xs)) (hpos : 0 < xs.length) (hxs : ∀ i, i < xs.length → ∃ a ys, xs[i]? = some (.ref a) ∧ H a = some (.tup (.str (ms i) :: ys)) ∧ (ms i).length ≤ 1000)
    (h : ∀ i v, xs[i]? = some v → (∀ j, j < xs.length → (ms j).length ≤ (ms i).length ∧ (j < i → (ms j).length < (ms i).length)) → Q v H) :
    wpAny (model X.prog X.w) X.A (call (.builtin "max") [.ref l] [(Str.ofString "key", .ref q)]) (EP X pins σ Q) E s := by
  obtain ⟨zl, its, nn, rv, hlo⟩ := I.hok l _ hl
  obtain ⟨m, hn, _⟩ := id I.loc
  have hlen2 : xs.length = its.length := rv.length
  have hLl : l ≠ X.env.locals := fun z => by rw [z, I.free] at hl; cases hl
  have line : (1000 : Nat) ≤ sizeLine := by rw [sizeLine_eq]; decide
  have kb : ∀ b o, X.base.get? b = some o → b ≠ X.env.locals := fun b o e => Nat.ne_of_lt (Nat.lt_of_lt_of_le (Heap.lt_size e) (Nat.le_trans I.ok.bsz I.ok.above))
  obtain ⟨mb, hb1, hb2⟩ := I.mod.blt
  refine kmk_max (vs := its) (fun i => ((ms i).length : Int)) (I.ok.hd hcalm) (Att.fr_all hn) (news_lib X.env.locals) (fun h1 F N => ?_) (by omega) (fun i v hv h1 tk own F N => ?_) (fun i v h' tk' hv hb F N => ?_)
  · exact ⟨_, kept_lib N _ _ hLl hlo, rfl, nn, rfl⟩
  · have hi : i < its.length := (List.getElem?_eq_some_iff.mp hv).1
    obtain ⟨a, ys, e1, e2, e3⟩ := hxs i (by omega)
    have rel : RelV (.ref a) v := by
      have := rv.get e1
      obtain ⟨u, hu, r⟩ := this
      rw [hv] at hu
      cases hu
      exact r
    cases rel
    obtain ⟨za, tits, rt, ht⟩ := I.hok a _ e2
    have haL : a ≠ X.env.locals := fun z => by rw [z, I.free] at e2; cases e2
    have N0 : News (Att.noObjs s.heap) X.env.locals h1 (Att.ledger s.heap X.env.locals X.env.locals) := fun p hp => N p (List.mem_append_left _ hp)
    have k := kept_lib N0
    have kB : ∀ b o, X.base.get? b = some o → h1.get? b = some o := fun b o e => k b o (kb b o e) (I.bk b o e)
    cases rt with
    | cons r0 rt =>
      rename_i u us
      obtain ⟨t0, e0⟩ := r0
      subst e0
      refine lam_turn (s := { s with heap := h1, toks := tk }) (x := ms i) (k q _ hq ho) ?_ (hbind a) hco hgen hk hcell hfit hlen (I.mod.glob.keeps kB) hm (hb1.keeps kB) ((hb2 "len" (by decide)).trans rfl) (I.mod.nolimit.keeps kB) hr (its := .str (ms i) t0 :: us) ?_ rfl ?_ (by omega) (fun h2 tk2 t2 k2 => ?_)
      · obtain ⟨c2, oc, vs, t, e, ho2, r⟩ := hcd
        cases e
        exact ⟨c', oc, vs, t, rfl, k _ _ hc ho2, r⟩
      · obtain ⟨ob, eo, r⟩ := ht
        exact ⟨ob, k _ _ haL eo, r⟩
      · have := rt.length
        simp at za ⊢
        omega
      · refine KskEnd.intro ⟨F.ns.keeps k2, fun b o e => k2 b o (F.keep b o e), F.above⟩ (fun p hp => ⟨k2 _ _ (N p hp).1, (N p hp).2⟩) fun p hp => hp
  · have hi : i < its.length := (List.getElem?_eq_some_iff.mp hv).1
    obtain ⟨a, ys, e1, e2, e3⟩ := hxs i (by omega)
    have rel : RelV (.ref a) v := by
      obtain ⟨u, hu, r⟩ := rv.get e1
      rw [hv] at hu
      cases hu
      exact r
    refine ⟨.ref a, H, I.lib hn F N, rel, h i _ e1 fun j hj => ?_⟩
    have := hb j (by omega)
    exact ⟨by omega, fun q => by have := this.2 q; omega⟩
theorem pe_max_lam {e : Expr} {te : TE} {P c : Addr} {params : Arguments} {scope : Scope} {kk : Nat} {p p1 p2 p3 p4 p5 lp kp pos : Pos} (hcalm : X.calm = true) (hr : X.A.in1.depth < recursionLimit) (hm : X.mg "max" = none) (hm2 : X.mg "len" = none) (hcode : X.env.code = .ref c) (hK : PySem.W.codeHdIn X.K c P = true) (hBA : X.base.BuiltinsAt X.mg P) (he : PE X e te)
    (hbind : ∀ a c' pm ctv, bindArgs (PySem.W.kla_fn "<lambda>" (X.env.qual ++ "<lambda>") params (.Call (.Name "len" p1) [.Subscript (.Name "fit" p2) (.Constant (.int 0) kk p3) p4] [] p5) scope [] pm (.ref c') ctv) ⟨[.ref a], []⟩ = pure [(("fit" : Str), Value.ref a)])
    (hg : Gl X "max" := by rfl) (hdef : defaultsOf params X.env = ([], []) := by rfl) (hcl : closureFor scope X.env = pure [] := by rfl)
    (hco : scope.isCoroutine = false := by rfl) (hgen : scope.isGenerator = false := by rfl) (hk : scope.kind = .function := by rfl) (hcell : ∀ y ∈ scope.names, y.2 ≠ .cell := by decide) (hfit : scope.names.lookup ("fit" : Str) = some .local := by rfl) (hlen : scope.names.lookup ("len" : Str) = some .globalImplicit := by rfl)
    (h1 : starEach [e] X.env = (false, eval e X.env) :: starEach [] X.env := by rfl) (h2 : backTo pos (starEach [e] X.env) = (false, eval e X.env) :: backTo pos (starEach [] X.env) := by rfl) (h3 : (backTo pos (starEach [e] X.env)).any (·.1) = false := by rfl) :
    PE X (.Call (.Name "max" p) [e] [⟨some "key", .Lambda params (.Call (.Name "len" p1) [.Subscript (.Name "fit" p2) (.Constant (.int 0) kk p3) p4] [] p5) scope lp, kp⟩] pos) (tCB (rMaxLam P lp.line lp.col (X.env.qual ++ "<lambda>")) (tCons te tNil)) := by
  intro pins s σ H Q I h
  refine wpAny_Call_Name_kw (ld_blt I hg hm (u := .builtin "max") rfl ?_ (by decide) (by decide))
  refine callWith_kw (thn ((pa_cons he pa_nil h1) pos pins s σ H _ I h) fun us s1 ⟨vs, H1, I1, r, q⟩ => ?_) h2 h3
  obtain ⟨l, xs, ms, rfl, hl, hpos, hxs, hT, q⟩ := q
  obtain ⟨u, rfl, ru⟩ := vals1 r
  cases ru
  refine kws_cons (PySem.W.kla_eval hdef (lam_make I1 hT hcl hcode hK hBA fun f c' ctv s2 H2 I2 b2 T2 ho hcd hf hc => kws_nil ?_))
  obtain ⟨ps, hPt⟩ := hT.tbl
  refine run_max_lam I2 hcalm hr hm2 ho hcd hf hc (fun a => hbind a c' _ ctv) hco hgen hk hcell hfit hlen (b2 _ _ (ne_of hl hPt (by intro z; cases z)) hl) hpos (fun i hi => ?_) (fun i v hv hb => q H2 i v b2 T2 hv hb)
  obtain ⟨a, ys, e1, e2, e3⟩ := hxs i hi
  exact ⟨a, ys, e1, b2 _ _ (ne_of e2 hPt (by intro z; cases z)) e2, e3⟩
end
end L2
namespace L2
open PySem PySem.Spec PyProof.Rows
theorem Inv.turnedL {X : Cx} {pins : List (Addr × Obj)} {σ : St} {H : Hp} {s : Shared} {h' : Heap} {t' : Nat} {ch : List Addr} (I : Inv X pins σ H s) (k : ∀ b o, b ∉ ch → s.heap.get? b = some o → h'.get? b = some o) (hf : ∀ b ∈ ch, FpOk X pins H b) :
    Inv X pins σ H { s with heap := h', toks := t' } := by
  have nit : ∀ b u, H b = some u → b ∉ ch := fun b u e z => by rw [(hf b z).1] at e; cases e
  refine I.step (g' := s.gens) (d' := s.drawn) (ch := ch) (fun b hb => ?_) (fun b o _ _ hc e _ => k b o hc e) (fun b o _ _ hc e _ => ⟨o.slots, k b o hc e⟩) (fun _ _ _ _ n => n)
    (fun b o hc e => ⟨o, k b o hc e⟩) (fun _ _ e => e) (fun _ _ _ e => e) (fun b ps e => ⟨#[], by rw [e]; simp⟩) (fun m hm => ?_) (fun b u e => ?_) I.bare
  · obtain ⟨_, hL, _, h1, h2, h3⟩ := hf b hb
    exact ⟨h1, hL, h2, h3⟩
  · obtain ⟨o, es, ep, ho, r⟩ := hm
    exact ⟨o, es, ep, k _ o (fun z => (hf _ z).2.1 rfl) ho, r⟩
  · refine (I.hok b u e).stay (fun c v hc q => k c v ?_ q) (fun _ q => q) fun _ _ q => q
    rcases hc with z | z
    · rw [z]; exact nit b u e
    · exact nit c _ z
def Itz (K : PySem.W.Frag) (a b : Addr) : It :=
  ⟨fun i H => (∃ xs x, SqL K H a xs ∧ xs[i]? = some x) ∧ ∃ ys y, SqL K H b ys ∧ ys[i]? = some y,
   fun i H v H' => ∃ p x y, v = .ref p ∧ H p = none ∧ H' = upd H p (.tup [x, y]) ∧ (∀ xs, SqL K H a xs → xs[i]? = some x) ∧ ∀ ys, SqL K H b ys → ys[i]? = some y,
   fun i H => (∃ xs, SqL K H a xs) ∧ (∃ ys, SqL K H b ys) ∧ ((∃ xs, SqL K H a xs ∧ xs.length ≤ i) ∨ ∃ ys, SqL K H b ys ∧ ys.length ≤ i)⟩
def TnZ (z TI TO i1 i2 l1 l2 : Addr) (i : Nat) (h : Heap) : Prop := IsZip h z TI TO .none ∧ IsPair h TI (.ref i1) (.ref i2) ∧ (∃ a b, IsPair h TO a b) ∧ h.IsListIter i1 l1 i ∧ h.IsListIter i2 l2 i
theorem turn_zip {P : Program} {w : World} {K : PySem.W.Frag} {elts : List Expr} {k : Nat} {pos : Pos} {z TI TO i1 i2 l1 l2 : Addr} (D : ZipApart z TI TO i1 i2 l1 l2) : Turn P w K (.Tuple elts k pos) (Itz K l1 l2) [z, TI, TO, i1, i2] z (TnZ z TI TO i1 i2 l1 l2) where
  mem := by simp
  obj := fun i h st b hb => by
    obtain ⟨hz, hTI, ⟨a, b', hTO⟩, ⟨o1, e1, c1, d1⟩, ⟨o2, e2, c2, d2⟩⟩ := st
    simp only [List.mem_cons, List.not_mem_nil, or_false] at hb
    rcases hb with rfl | rfl | rfl | rfl | rfl
    · exact ⟨_, hz, fun v q => by cases q⟩
    · exact ⟨_, hTI, fun v q => by cases q⟩
    · exact ⟨_, hTO, fun v q => by cases q⟩
    · exact ⟨_, e1, fun v q => by rw [d1] at q; cases q⟩
    · exact ⟨_, e2, fun v q => by rw [d2] at q; cases q⟩
  keep := fun i h h' st k => by
    obtain ⟨hz, hTI, ⟨a, b', hTO⟩, h1, h2⟩ := st
    exact ⟨k z (by simp) _ hz, k TI (by simp) _ hTI, ⟨a, b', k TO (by simp) _ hTO⟩, h1.at fun o e => k i1 (by simp) o e, h2.at fun o e => k i2 (by simp) o e⟩
  item := by
    intro X hP hw hK hc i pins s σ H E I hf st hg
    subst hP hw hK
    obtain ⟨⟨xs, x, hq1, hx⟩, ys, y, hq2, hy⟩ := hg
    obtain ⟨hz, hTI, ⟨a, b', hTO⟩, h1, h2⟩ := st
    obtain ⟨its1, rv1, p1, hz1⟩ := I.list hq1
    obtain ⟨its2, rv2, p2, hz2⟩ := I.list hq2
    obtain ⟨u1, hu1, ru1⟩ := rv1.get hx
    obtain ⟨u2, hu2, ru2⟩ := rv2.get hy
    refine wpAny_pyNext_zip_item D hz hTI hTO h1 h2 p1.isList p2.isList (x := u1) (y := u2) (by simpa using hu1) (by simpa using hu2) fun h' a1 a2 a3 a4 a5 a6 hk => ?_
    refine ⟨_, rfl, wpAny_letOwnedTupleGo_zip a1 fun h2' hz' hs' => ?_⟩
    have nT : H s.heap.objs.size = none := I.hok.fresh (Nat.le_refl _)
    have I0 : Inv X pins σ (upd H s.heap.objs.size (.tup [x, y])) { s with heap := s.heap.push { cls := .type "tuple", data := .seq #[u1, u2] }, toks := s.toks } :=
      I.laid (fun b o e => Heap.get?_push_of_some _ e) (Nat.le_refl _) ⟨by simp only [List.length_cons, List.length_nil]; rw [sizeLine_eq]; decide, [u1, u2], .cons ru1 (.cons ru2 .nil), ⟨_, Heap.get?_push_size _ rfl, rfl, _, rfl⟩⟩
    have lt : ∀ {c o}, s.heap.get? c = some o → c ≠ s.heap.objs.size := fun e => Nat.ne_of_lt (Heap.lt_size e)
    have hne : ∀ b ∈ [z, TI, TO, i1, i2], b ≠ s.heap.objs.size := fun b hb => by
      simp only [List.mem_cons, List.not_mem_nil, or_false] at hb
      rcases hb with rfl | rfl | rfl | rfl | rfl
      · exact lt hz
      · exact lt hTI
      · exact lt hTO
      · obtain ⟨_, e, _⟩ := h1; exact lt e
      · obtain ⟨_, e, _⟩ := h2; exact lt e
    have hf' : ∀ b ∈ [z, TI, TO, i1, i2], FpOk X pins (upd H s.heap.objs.size (.tup [x, y])) b := fun b hb => by
      obtain ⟨g1, g2⟩ := hf b hb
      exact ⟨by rw [upd_ne (hne b hb)]; exact g1, g2⟩
    have hT2 : h2'.get? s.heap.objs.size = some { cls := .type "tuple", data := .seq #[u1, u2] } := hs'.extBut _ _ (hne z (by simp)).symm a5
    have I1 :=
      Inv.turnedL (h' := h2') (t' := s.toks) (ch := [z, TI, TO, i1, i2]) I0 (fun b o hb e => by
        by_cases hbs : b = s.heap.objs.size
        · subst hbs
          have e' : (s.heap.push { cls := .type "tuple", data := .seq #[u1, u2] }).get? s.heap.objs.size = some o := e
          rw [Heap.get?_push_size _ rfl] at e'
          cases e'
          exact hT2
        · have e0 : s.heap.get? b = some o := by
            have e' : (s.heap.push { cls := .type "tuple", data := .seq #[u1, u2] }).get? b = some o := e
            rwa [Heap.get?_push_ne _ _ _ hbs] at e'
          simp only [List.mem_cons, List.not_mem_nil, or_false, not_or] at hb
          exact hs'.extBut _ _ hb.1 (hk b o hb.1 hb.2.2.1 hb.2.2.2.1 hb.2.2.2.2 e0)) hf'
    have hTI' := hs'.extBut _ _ D.TIz (hk _ _ D.TIz D.TITO D.TIi1 D.TIi2 hTI)
    exact ⟨.ref s.heap.objs.size, _, I1, rfl, ⟨_, x, y, rfl, nT, rfl, fun zs hq => by rw [I.list_inj hq hq1]; exact hx, fun zs hq => by rw [I.list_inj hq hq2]; exact hy⟩,
      ⟨hz', hTI', ⟨_, _, hs'.extBut _ _ D.TOz a2⟩, a3.extBut hs'.extBut D.i1z, a4.extBut hs'.extBut D.i2z⟩, fun b hb => (hf' b hb).1⟩
  done := by
    intro X hP hw hK hc i pins s σ H E I hf st hg
    subst hP hw hK
    obtain ⟨hz, hTI, ⟨a, b', hTO⟩, h1, h2⟩ := st
    obtain ⟨⟨xs, hq1⟩, ⟨ys, hq2⟩, hend⟩ := hg
    obtain ⟨its1, rv1, p1, hz1⟩ := I.list hq1
    obtain ⟨its2, rv2, p2, hz2⟩ := I.list hq2
    have hl1 := rv1.length
    have hl2 := rv2.length
    have hend' : its1.toArray[i]? = none ∨ its2.toArray[i]? = none := by
      rcases hend with ⟨zs, hq, h⟩ | ⟨zs, hq, h⟩
      · rw [I.list_inj hq hq1] at h
        exact .inl (by simp; omega)
      · rw [I.list_inj hq hq2] at h
        exact .inr (by simp; omega)
    exact wpAny_pyNext_zip_end (I.ok.hd hc) D hz hTI hTO h1 h2 p1.isList p2.isList hend' fun h' hk => ⟨rfl, I.turnedL (t' := s.toks) (ch := [z, TI, TO, i1, i2]) (fun b o hb e => by
      simp only [List.mem_cons, List.not_mem_nil, or_false, not_or] at hb
      exact hk b o hb.1 hb.2.2.1 hb.2.2.2.1 hb.2.2.2.2 e) hf⟩
  self := fun _ _ _ _ _ st h => wpAny_pyIter_zip st.1 h
def iZip (K : PySem.W.Frag) (ta : TA) : TI := fun σ H R => ta σ H fun vs H1 => ∃ l1 l2, vs = [.ref l1, .ref l2] ∧ (∃ xs, SqL K H1 l1 xs) ∧ (∃ ys, SqL K H1 l2 ys) ∧ R (Itz K l1 l2) H1
theorem pi_zip {X : Cx} {elts : List Expr} {k : Nat} {tp : Pos} {a b : Expr} {ta : TA} {p pos : Pos} (hg : Gl X "zip") (hm : X.mg "zip" = none) (ha : PA X [a, b] ta) (hs : starEach [a, b] X.env = [(false, eval a X.env), (false, eval b X.env)] := by rfl) (hs2 : starEach [b] X.env = [(false, eval b X.env)] := by rfl) :
    PI X (.Tuple elts k tp) (.Call (.Name "zip" p) [a, b] [] pos) (iZip X.K ta) := by
  intro pins s σ H R I h
  refine Call_ (ld_blt I hg hm boot_zip (PyProof.Rows.callWith_type1 (thn (ha pos pins s σ H _ I h) fun us s1 ⟨vs, H1, I1, r1, q1⟩ => ?_) (by rw [hs, hs2]) (by rw [hs2]; rfl)))
  obtain ⟨l1, l2, e, ⟨xs, hq1⟩, ⟨ys, hq2⟩, q⟩ := q1
  subst e
  cases r1 with
  | cons r rr =>
    cases rr with
    | cons r' rr =>
      cases rr
      cases r
      cases r'
      obtain ⟨its1, rv1, p1, hz1⟩ := I1.list hq1
      obtain ⟨its2, rv2, p2, hz2⟩ := I1.list hq2
      have lt1 : l1 < s1.heap.objs.size := by obtain ⟨_, e, _⟩ := p1.isList; exact Heap.lt_size e
      have lt2 : l2 < s1.heap.objs.size := by obtain ⟨_, e, _⟩ := p2.isList; exact Heap.lt_size e
      refine call_zip_2 p1.isList p2.isList fun h' hz hTI hTO hi1 hi2 hsz hk => ?_
      have I2 : Inv X pins σ H1 { s1 with heap := h' } := I1.kept (t' := s1.toks) hk
      refine wpAny_pyIter_zip hz ⟨_, _, _, _, H1, rfl, I2, turn_zip (zipApart_new lt1 lt2), ⟨hz, hTI, ⟨_, _, hTO⟩, hi1, hi2⟩, fun b hb => ?_, q⟩
      have hb' : s1.heap.objs.size ≤ b := by
        simp only [List.mem_cons, List.not_mem_nil, or_false] at hb
        rcases hb with e | e | e | e | e <;> rw [e] <;> first | exact Nat.le_refl _ | exact Nat.le_add_right _ _
      have hn := I1.hok.fresh (a := b) hb'
      exact ⟨hn, (I1.fpOk hb' hn).2⟩
theorem loop_zip {K : PySem.W.Frag} {g : TG} {tt : TT} {tr : TR} {Qe : St → Hp → Prop} {σ0 : St} {H0 : Hp} {a b : Addr} {xs ys : List V} (W : Nat → St → Hp → Prop) (h0 : W 0 σ0 H0) (he : xs.length = ys.length)
    (hW : ∀ i σ H, W i σ H → SqL K H a xs ∧ SqL K H b ys) (hE : ∀ σ H, W xs.length σ H → Qe σ H)
    (turn : ∀ i σ H p x y, W i σ H → xs[i]? = some x → ys[i]? = some y → H p = none → g (.ref p) σ (upd H p (.tup [x, y])) fun σ2 H2 => tt σ2 H2 fun b H3 => if b = true then tr σ2 H3 (W (i + 1)) else W (i + 1) σ2 H3) : tLoop (Itz K a b) g tt tr Qe σ0 H0 := by
  refine ⟨fun i m σ H => m = xs.length - i ∧ i ≤ xs.length ∧ W i σ H, ⟨_, rfl, Nat.zero_le _, h0⟩, ?_⟩
  rintro i m σ H ⟨rfl, hi, hw⟩
  obtain ⟨q1, q2⟩ := hW i σ H hw
  by_cases hlt : i < xs.length
  · refine .inr ⟨⟨⟨xs, xs[i], q1, by simp [hlt]⟩, ys, ys[i]'(by omega), q2, by simp⟩, W (i + 1), fun σ' H' q => ⟨xs.length - (i + 1), by omega, rfl, by omega, q⟩, ?_⟩
    rintro x H' ⟨p, x1, y1, rfl, np, rfl, e1, e2⟩
    exact turn i σ H p x1 y1 hw (e1 _ q1) (e2 _ q2) np
  · have e : i = xs.length := by omega
    subst e
    exact .inl ⟨⟨⟨_, q1⟩, ⟨_, q2⟩, .inl ⟨_, q1, Nat.le_refl _⟩⟩, hE σ H hw⟩
end L2
namespace L2
open PySem PySem.Spec PyProof.Rows
section
variable {prog : Program} {w : World} {A : Around} {E : Value → Shared → Prop} {s : Shared}
theorem draw_list {it t : Addr} {items : Array Value} (hne : t ≠ it) : ∀ (n i : Nat) (s : Shared) (Q : List Value → Shared → Prop), s.heap.IsListIter it t i → s.heap.IsList t items → i + n ≤ items.size →
    (∀ h', h'.IsListIter it t (i + n) → Heap.SameBut it s.heap h' → Q ((items.toList.drop i).take n) { s with heap := h' }) → wpAny (model prog w) A (draw (.ref it) n) Q E s
  | 0, i, s, Q, hit, _, _, hQ => by
    show wpAny _ _ (pure []) Q E s
    exact wpAny_pure (by simpa using hQ s.heap hit (Heap.SameBut.refl ..))
  | n + 1, i, s, Q, hit, ht, hle, hQ => by
    have hlt : i < items.size := by omega
    show wpAny _ _ (pyNext (.ref it) >>= _) Q E s
    refine wpAny_bind (wpAny_pyNext_list_item hit ht (x := items[i]) (by simp [hlt]) fun h₁ hit₁ hs₁ => ?_)
    refine wpAny_bind (wpAny_holding (draw_list hne n (i + 1) _ _ hit₁ (ht.extBut hs₁.extBut hne) (by omega) fun h₂ hit₂ hs₂ => wpAny_pure ?_))
    have hd : items.toList.drop i = items[i] :: items.toList.drop (i + 1) := by simp [List.drop_eq_getElem_cons, hlt]
    have := hQ h₂ (by rw [show i + (n + 1) = i + 1 + n by omega]; exact hit₂) (hs₁.trans hs₂)
    rw [hd, List.take_succ_cons] at this
    exact this
theorem unpackItems_list {t : Addr} {items : Array Value} {Q : List Value → Shared → Prop} (hh : A.handled = none) (ht : s.heap.IsList t items)
    (hQ : ∀ h', Heap.ExtBut s.heap.objs.size s.heap h' → Q items.toList { s with heap := h' }) : wpAny (model prog w) A (unpackItems (.ref t) items.size none) Q E s := by
  have hlt : t ≠ s.heap.objs.size := by obtain ⟨o, ho, _⟩ := ht; exact Nat.ne_of_lt (Heap.lt_size ho)
  unfold unpackItems
  refine wpAny_bind ?_
  · unfold notIterableAtAll
    refine wpAny_bind (wpAny_specialOf ht.typeIs F.slot_list_iter.lookup ?_)
    refine wpAny_pure ?_
    simp only [Bool.false_eq_true, if_false]
    refine wpAny_bind (wpAny_holding (wpAny_pyIter_list ht ?_))
    refine wpAny_bind (wpAny_holding (draw_list hlt items.size 0 _ _ ⟨_, Heap.get?_push_size _ rfl, rfl, rfl⟩ (ht.push _) (by omega) fun h₁ hit₁ hs₁ => ?_))
    have hall : List.take items.size (List.drop 0 items.toList) = items.toList := by
      rw [List.drop_zero]; exact List.take_of_length_le (by simp)
    rw [hall]
    rw [if_neg (by simp)]
    have ht₁ : Heap.IsList h₁ t items := (ht.push _).extBut hs₁.extBut hlt
    refine wpAny_bind (wpAny_holding (wpAny_pyNext_list_end hh hit₁ ht₁ (by simp) fun h₂ he₂ => ?_))
    simp only [Option.isSome_none, Bool.false_eq_true, if_false]
    refine wpAny_pure (hQ h₂ fun b o hb e => he₂ b o hb (hs₁.extBut b o hb (Heap.get?_push_of_some _ e)))
theorem assign_Tuple_list {env : Env} {elts : List Expr} {x1} {pos : Pos} {t : Addr} {items : Array Value} {Q : Unit → Shared → Prop} (hh : A.handled = none) (ht : s.heap.IsList t items)
    (hn : (assignEach elts env).length = items.size) (hstar : (assignEach elts env).findIdx? (·.1) = none)
    (h : ∀ h', Heap.ExtBut s.heap.objs.size s.heap h' → wpAny (model prog w) A (assignInOrder ((assignEach elts env).map (·.2)) items.toList) Q E { s with heap := h' }) :
    wpAny (model prog w) A (assign (.Tuple elts x1 pos) env (.ref t)) Q E s := by
  rw [assign_Tuple]
  refine wpAny_bind (wpAny_standAt ?_)
  unfold unpack
  rw [hn, hstar]
  exact wpAny_bind (wpAny_holding (unpackItems_list hh ht h))
end
def gTupL (K : PySem.W.Frag) (n : Nat) (t : TGs) : TG := fun v σ H Q => ∃ a xs, v = .ref a ∧ SqL K H a xs ∧ xs.length = n ∧ t xs σ H Q
theorem pg_tupL {X : Cx} {pos : Pos} {es : List Expr} {k : Nat} {t : TGs} {n : Nat} (hc : X.calm = true) (h : PGs X es t)
    (hn : (assignEach es X.env).length = n := by rfl) (hst : (assignEach es X.env).findIdx? (·.1) = none := by rfl) : PG X (.Tuple es k pos) (gTupL X.K n t) := by
  intro pins s σ H v u Q I r hw
  obtain ⟨a, xs, e1, hq, hl, hw⟩ := hw
  subst e1
  cases r
  obtain ⟨its, rv, ht, hz⟩ := I.list hq
  refine assign_Tuple_list (I.ok.hd hc) ht.isList (by simp [hn, ← hl, rv.length]) hst fun h' hx => ?_
  have I1 : Inv X pins σ H { s with heap := h' } := I.kept (t' := s.toks) fun b o e => hx b o (Nat.ne_of_lt (Heap.lt_size e)) e
  exact h pins _ σ H xs _ Q I1 (by simpa using rv) hw
end L2
namespace T1
open PySem PySem.Spec PyProof.Rows L2
end T1
namespace L2
open PySem PySem.Spec PyProof.Rows
end L2
namespace L2
open PySem PySem.Spec PyProof.Rows
end L2
namespace T1
open PySem PySem.Spec PyProof.Rows L2
end T1
namespace L2
open PySem PySem.Spec PyProof.Rows
theorem call_sum {X : Cx} (hc : X.calm = true) : CallR X (.builtin "sum") (fun xs H Q => ∃ (p : Addr) (ns : List Int), xs = [.ref p] ∧ SqL X.K H p (ns.map V.int) ∧ Q (.int ns.sum) H) := by
  intro pins s σ H xs us Q I r h
  obtain ⟨p, ns, rfl, hq, q⟩ := h
  obtain ⟨u, rfl, ru⟩ := vals1 r
  cases ru
  obtain ⟨its, rv, pl, hz⟩ := I.list hq
  have hi : IntsAre its ns := intsAre_of rv
  obtain ⟨zs, hx⟩ := hi.allInts.items
  have hn : numsOf its.toArray.toList = ns := by rw [show its.toArray.toList = its from rfl, hi.numsOf]
  have hl := pl.isList
  rw [hx] at hl hn
  rw [nums_intItems] at hn
  refine sum_intListG (I.ok.hd hc) hl fun h' tk t' hk => ?_
  rw [preSum_eq, List.take_of_length_le (by simp), hn]
  exact ⟨.int _, H, I.kept (t' := tk) hk, ⟨_, rfl⟩, q⟩
def rAddS : V → V → Hp → VK → Prop := fun x y H Q => ∃ i j, x = .str i ∧ y = .str j ∧ i.length + j.length ≤ sizeLine ∧ Q (.str (i ++ j)) H
theorem in_addS {X : Cx} : InOp X .Add rAddS := by
  rintro pins s σ H x y u v Q I rx ry ⟨i, j, rfl, rfl, hz, q⟩
  obtain ⟨t, rfl⟩ := rx
  obtain ⟨t', rfl⟩ := ry
  exact iadd_str (fun t' tk => ⟨.str (i ++ j), H, I.tok _, ⟨_, rfl⟩, q⟩) hz
end L2
namespace L2
open PySem PySem.Spec PyProof.Rows
def SetP (P : Program) (w : World) (h : Heap) (a : Addr) (xs : List Str) : Prop :=
  ∃ o es ep t, h.get? a = some o ∧ o.ExactSet ∧ o.data = .set es ep t ∧ ElemsOf (PySem.strKind P w) es.toList ∧ (∀ k, decide (k ∈ xs) = true ↔ ∃ e ∈ es.toList, (PySem.strKind P w).is k e.2 = true)
    ∧ es.size < scanBound ∧ t.fits es.size = true ∧ es.size = (dd xs).length ∧ (t.plain = false ∨ es.size = 0)
theorem layNew_plain (t : SetTable) (es : Array (Int × Value)) (h : Int) (x : Value) (hp : t.plain = false) : (layNew t es h x).2.1.plain = false := by
  unfold layNew
  split
  · rename_i slot wd _
    show ((t.put slot).1.orStandIn _).plain = false
    unfold SetTable.orStandIn
    split
    · exact hp
    · rfl
  · rfl
theorem relayAll_plain (t : SetTable) (es : Array (Int × Value)) (n : Nat) (hp : t.plain = false) : (relayAll t es n).2.1.plain = false := by
  unfold relayAll
  split
  · rename_i t' order e
    have : t'.plain = false := by
      unfold SetTable.relaid SetTable.laid at e
      cases q : SetTable.layClean (SetTable.sizeAbove n - 1) (es.map (·.1)) with
      | none => rw [q] at e; cases e
      | some ow =>
        rw [q] at e
        injection e with e
        injection e with e _
        rw [← e]
        exact hp
    dsimp only
    split
    · exact this
    · rfl
  · rfl
section
variable {prog : Program} {w : World} {A : Around} {E : Value → Shared → Prop} {s : Shared}
theorem SetP_store {h : Heap} {a : Addr} {o : Obj} {es : Array (Int × Value)} {ep : Nat} {t : SetTable} (ho : h.get? a = some o) (hex : o.ExactSet) (hd : o.data = .set es ep t)
    {es' : Array (Int × Value)} {t' : SetTable} {xs : List Str} (hel : ElemsOf (PySem.strKind prog w) es'.toList) (hmem : ∀ k, decide (k ∈ xs) = true ↔ ∃ e ∈ es'.toList, (PySem.strKind prog w).is k e.2 = true) (hb : es'.size < scanBound) (hf : t'.fits es'.size = true) (hn : es'.size = (dd xs).length) (hp : t'.plain = false) :
    (h.update a (Obj.putSet es' t')).get? a = some { o with data := .set es' (ep + 1) t' } ∧ SetP prog w (h.update a (Obj.putSet es' t')) a xs := by
  have hg : (h.update a (Obj.putSet es' t')).get? a = some { o with data := .set es' (ep + 1) t' } := by
    have := Heap.get?_update_self (Obj.putSet es' t') ho (by rw [putSet_of es' t' hd]; rfl)
    rw [putSet_of es' t' hd] at this; exact this
  exact ⟨hg, _, es', ep + 1, t', hg, hex, rfl, hel, hmem, hb, hf, hn, .inl hp⟩
theorem addTailP {g : Bool → Sem Unit} (hg : ∀ (b : Bool) (s₁ : Shared) (Q' : Unit → Shared → Prop), Q' () s₁ → wpAny (model prog w) A (g b) Q' E s₁)
    {a : Addr} {o : Obj} {es : Array (Int × Value)} {ep : Nat} {t : SetTable} (ho : s.heap.get? a = some o) (hex : o.ExactSet) (hd : o.data = .set es ep t)
    {es1 : Array (Int × Value)} {t2 : SetTable} {xs : List Str} (hel1 : ElemsOf (PySem.strKind prog w) es1.toList) (hmem1 : ∀ k', decide (k' ∈ xs) = true ↔ ∃ e ∈ es1.toList, (PySem.strKind prog w).is k' e.2 = true)
    (hb1 : es1.size < scanBound) (hf2 : t2.fits es1.size = true) (hn : es1.size = (dd xs).length) (hp2 : t2.plain = false) {wasDummy : Bool} {R : Option Bool → Shared → Prop}
    (h : ∀ h', Heap.SameBut a s.heap h' → SetP prog w h' a xs → R (some true) { s with heap := h' }) :
    wpAny (model prog w) A (do
        storeSet a es1 t2
        if (!wasDummy && t2.tooFull) = true then do
            g (relayAll t2 es1 (SetTable.grown es1.size)).2.2
            storeSet a (relayAll t2 es1 (SetTable.grown es1.size)).1 (relayAll t2 es1 (SetTable.grown es1.size)).2.1
            pure (some true)
          else pure (some true)) R E s := by
  refine wpAny_bind (wpAny_storeSet_of ho hd ?_ (fits_of_scanBound hb1))
  obtain ⟨ho1, hS1⟩ := SetP_store (prog := prog) (w := w) ho hex hd hel1 hmem1 hb1 hf2 hn hp2
  have hsb1 := Heap.SameBut.update s.heap a (Obj.putSet es1 t2)
  split
  · have hp := relayAll_perm t2 es1 (SetTable.grown es1.size)
    have hfr := relayAll_fits t2 es1 (SetTable.grown es1.size)
    have hpl := relayAll_plain t2 es1 (SetTable.grown es1.size) hp2
    generalize hRl : relayAll t2 es1 (SetTable.grown es1.size) = Rl at hp hfr hpl ⊢
    obtain ⟨es2, t3, gave2⟩ := Rl
    dsimp only at hp hfr hpl ⊢
    have hel2 : ElemsOf (PySem.strKind prog w) es2.toList := hel1.perm hp
    have hmem2 : ∀ k', decide (k' ∈ xs) = true ↔ ∃ e ∈ es2.toList, (PySem.strKind prog w).is k' e.2 = true := fun k' => (hmem1 k').trans ⟨fun ⟨e, he, q⟩ => ⟨e, hp.mem_iff.mpr he, q⟩, fun ⟨e, he, q⟩ => ⟨e, hp.mem_iff.mp he, q⟩⟩
    have hsz : es2.size = es1.size := by rw [← Array.length_toList, hp.length_eq, Array.length_toList]
    have hb2 : es2.size < scanBound := by rw [hsz]; exact hb1
    refine wpAny_bind (hg _ _ _ ?_)
    refine wpAny_bind (wpAny_storeSet_of ho1 rfl ?_ (fits_of_scanBound hb2))
    obtain ⟨_, hS2⟩ := SetP_store (prog := prog) (w := w) ho1 hex rfl hel2 hmem2 hb2 hfr (hsz.trans hn) hpl
    exact wpAny_pure (h _ (hsb1.trans (Heap.SameBut.update _ a _)) hS2)
  · exact wpAny_pure (h _ hsb1 hS1)
theorem setAddP {a : Addr} {xs : List Str} {x : Str} {tk : Tok} {Q : Bool → Shared → Prop} (hS : SetP prog w s.heap a xs) (hroom : (dd xs).length + 1 < scanBound)
    (h : ∀ b h', Heap.SameBut a s.heap h' → SetP prog w h' a (xs ++ [x]) → Q b { s with heap := h' }) :
    wpAny (model prog w) A (setAddHashed a (.str x tk) ((PySem.strKind prog w).hash x)) Q E s := by
  have hkey : (PySem.strKind prog w).is x (.str x tk) = true := by simp [PySem.strKind, Value.isStrOf]
  have hsc : (Value.str x tk).scannable = true := rfl
  obtain ⟨o, es, ep, t, ho, hex, hd, hel, hmem, hb, hf, hn, hpl⟩ := hS
  have hb1 : es.size + 1 < scanBound := by rw [hn]; exact hroom
  unfold setAddHashed setAddHashedIn
  refine wpAny_holding (wpAny_bind (wpAny_setState_of ho hd hf ?_))
  dsimp only
  rw [byScan_of hsc hb hel]
  simp only [↓reduceIte]
  unfold setAddByScan
  refine wpAny_bind ?_
  refine wpAny_bind (wpAny_rule ?_)
  refine wpAny_bind (wpAny_setScan_of hkey ho hd hf hel ?_)
  cases hr : List.findIdx? (fun e => (PySem.strKind prog w).is x e.2) es.toList with
  | some j =>
    dsimp only
    obtain ⟨hj, hpj, _⟩ := List.findIdx?_eq_some_iff_getElem.mp hr
    have hSk : x ∈ xs := of_decide_eq_true ((hmem x).mpr ⟨es.toList[j], List.getElem_mem hj, hpj⟩)
    refine wpAny_pure (wpAny_pure ?_)
    have e : s = { s with heap := s.heap } := by cases s; rfl
    rw [e]
    refine h _ s.heap (Heap.SameBut.refl a s.heap) ⟨o, es, ep, t, ho, hex, hd, hel, fun k' => ?_, hb, hf, ?_, hpl⟩
    · rw [← hmem k', decide_eq_true_eq, decide_eq_true_eq, List.mem_append, List.mem_singleton]
      exact ⟨fun hk => hk.elim id (fun e => e ▸ hSk), .inl⟩
    · rw [hn, ← setL_len, if_pos (decide_eq_true hSk)]
  | none =>
    dsimp only
    have hSk : ¬ x ∈ xs := fun hk => by
      obtain ⟨e, he, hp⟩ := (hmem x).mp (decide_eq_true hk); have := List.findIdx?_eq_none_iff.mp hr e he; rw [hp] at this; exact Bool.noConfusion this
    have hgw : ∀ (b : Bool) {s₁ : Shared} {Q' : Unit → Shared → Prop}, Q' () s₁ → wpAny (model prog w) A (match b with | true => rule "set.scan.the-table-gave-way" | false => pure ()) Q' E s₁ :=
      fun b s₁ Q' hq => by cases b <;> first | exact wpAny_pure hq | exact wpAny_rule hq
    have hperm := layNew_perm t es ((PySem.strKind prog w).hash x) (.str x tk)
    have hfits := layNew_fits t es ((PySem.strKind prog w).hash x) (.str x tk)
    have hpn := layNew_plain t es ((PySem.strKind prog w).hash x) (.str x tk)
    generalize hL : layNew t es ((PySem.strKind prog w).hash x) (.str x tk) = L at hperm hfits hpn ⊢
    obtain ⟨es1, t1, wasDummy, gave⟩ := L
    dsimp only at hperm hfits hpn ⊢
    rw [Array.toList_push] at hperm
    have hel1 : ElemsOf (PySem.strKind prog w) es1.toList := (hel.push hkey hsc).perm hperm
    have hmem0 := mem_push_iff (S := fun k => decide (k ∈ xs)) hkey hmem hperm
    have hmem1 : ∀ k', decide (k' ∈ xs ++ [x]) = true ↔ ∃ e ∈ es1.toList, (PySem.strKind prog w).is k' e.2 = true := fun k' => by
      rw [← hmem0 k']
      exact Eq.to_iff (congrArg (· = true) (congrFun (setL_add xs x) k').symm)
    have hb1' : es1.size < scanBound := by rw [← Array.length_toList, hperm.length_eq, List.length_append, Array.length_toList]; simpa using hb1
    refine wpAny_bind (hgw _ ?_)
    have hsz1 : es1.size = (dd (xs ++ [x])).length := by rw [← setL_len, if_neg (by simp [hSk]), ← Array.length_toList, hperm.length_eq, List.length_append, Array.length_toList, hn]; rfl
    split
    · refine wpAny_bind ?_
      rw [hashByValue_scannable 8 hsc]
      refine wpAny_pure ?_
      refine addTailP ?_ ho hex hd hel1 hmem1 hb1' ?_ hsz1 ?_ ?_
      · intro b s₁ Q' hq; cases b <;> first | exact wpAny_pure hq | exact wpAny_rule hq
      · exact SetTable.fits_plain_off hfits
      · rfl
      · intro h' hsb hS'; dsimp only; exact wpAny_pure (h _ h' hsb hS')
    · rename_i hq
      refine wpAny_bind (wpAny_pure ?_)
      simp only [↓reduceIte]
      refine addTailP ?_ ho hex hd hel1 hmem1 hb1' hfits hsz1 (Bool.eq_false_iff.mpr hq) ?_
      · intro b s₁ Q' hq; cases b <;> first | exact wpAny_pure hq | exact wpAny_rule hq
      · intro h' hsb hS'; dsimp only; exact wpAny_pure (h _ h' hsb hS')
end
end L2
namespace L2
open PySem PySem.Spec PyProof.Rows
theorem SetP.keep {P : Program} {w : World} {h h' : Heap} {a : Addr} {xs : List Str} (hS : SetP P w h a xs) (k : ∀ o, h.get? a = some o → h'.get? a = some o) : SetP P w h' a xs := by
  obtain ⟨o, es, ep, t, ho, rest⟩ := hS
  exact ⟨o, es, ep, t, k _ ho, rest⟩
section
variable {prog : Program} {w : World} {A : Around} {R : Result → Shared → Prop} {I : Addr} {fp wr : List Addr} {G : Array GenState → Array GenState → Prop} {n : Nat} {P : Nat → Value → Prop} {St : Nat → Shared → Prop}
theorem upd_loopP (W : WalksS prog w A.in1 I fp wr G n P St) (S : Addr) (hSf : S ∉ fp) (val : Nat → Str) (hval : ∀ i v, P i v → ∃ t, v = .str (val i) t) (hb : n + 1 < scanBound) :
    ∀ (k i : Nat) (s : Shared), n - i = k → i ≤ n → St i s → SetP prog w s.heap S ((List.range i).map val) →
      (∀ s', Moved (S :: wr) G s s' → SetP prog w s'.heap S ((List.range n).map val) → R (.ok (.ret .none)) s') →
      codeAny (model prog w) A (.builtin "set.update.loop" ⟨[.ref S, .ref I], []⟩) R s := by
  have hSw : S ∉ wr := fun h => hSf (W.sub _ h)
  have hsub : ∀ b ∈ wr, b ∈ S :: wr := fun b hb => List.mem_cons_of_mem _ hb
  intro k
  induction k with
  | zero =>
    intro i s hk hi hst hS hR
    have hin : i = n := by omega
    subst hin
    refine codeAny_builtin PyProof.Rows.F.entry_set_update_loop ?_
    rw [Around.under_plainId PyProof.Rows.F.plain_set_update_loop _]
    show wpAny _ A.in1 (pyNext (.ref I) >>= _) _ _ s
    refine wpAny_bind (W.done s _ _ hst fun s' hm => ?_)
    show wpAny _ A.in1 (ret Value.none) _ _ s'
    exact wpAny_pure (hR s' (hm.mono hsub) (hS.keep fun o e => hm.heap S _ hSw e))
  | succ k ih =>
    intro i s hk hi hst hS hR
    have hlt : i < n := by omega
    refine codeAny_builtin PyProof.Rows.F.entry_set_update_loop ?_
    rw [Around.under_plainId PyProof.Rows.F.plain_set_update_loop _]
    show wpAny _ A.in1 (pyNext (.ref I) >>= _) _ _ s
    refine wpAny_bind (W.item i s _ _ hlt hst fun v s' hP hst' hm => ?_)
    obtain ⟨t, rfl⟩ := hval i v hP
    have hS' : SetP prog w s'.heap S ((List.range i).map val) := hS.keep fun o e => hm.heap S _ hSw e
    show wpAny _ A.in1 (holding [Value.str (val i) t] (setAdd S (.str (val i) t)) >>= _) _ _ s'
    refine wpAny_bind (wpAny_holding ?_)
    unfold setAdd
    refine wpAny_holding ?_
    have hkey : (PySem.strKind prog w).is (val i) (.str (val i) t) = true := by simp [PySem.strKind, Value.isStrOf]
    refine wpAny_bind ((PySem.strKind prog w).pyHash hkey ?_)
    have hroom : (dd ((List.range i).map val)).length + 1 < scanBound := by
      have := dd_len ((List.range i).map val)
      rw [List.length_map, List.length_range] at this
      omega
    refine setAddP (s := { s' with toks := s'.toks + 1 }) hS' hroom fun b h' hsb hS2 => ?_
    have hSi : SetP prog w h' S ((List.range (i + 1)).map val) := by
      rw [List.range_succ, List.map_append]
      exact hS2
    refine wpAny_pure ⟨plainId_quiet PyProof.Rows.F.plain_set_update_loop _, ih (i + 1) _ (by omega) hlt (W.frame _ s' _ _ hst' (Nat.le_succ _) fun b hb o e => ?_) hSi fun s'' hm'' hS'' => ?_⟩
    · rw [hsb.2 b (fun h : b = S => hSf (by rw [← h]; exact hb))]; exact e
    · refine hR s'' (Moved.trans W.gtrans ((hm.mono hsub).then_heap (Nat.le_succ _) fun b o hb e => ?_) hm'') hS''
      rw [hsb.2 b (fun h : b = S => hb (by rw [h]; exact List.mem_cons_self))]; exact e
end
theorem SetP.fresh {P : Program} {w : World} {h : Heap} {a : Addr} {led : Bool} (e : h.get? a = some { cls := .type "set", dict := none, data := .set #[] 0 (.fresh 0 0 led) }) : SetP P w h a [] :=
  ⟨_, #[], 0, _, e, ⟨rfl, rfl, rfl⟩, rfl, fun e he => by simp at he, fun k => by simp, by decide, by rfl, rfl, .inr rfl⟩
theorem sub_str_set : isSubtype (.type "str") (.type "set") = pure false := by rw [isSubtype_type]; kernel_rfl
theorem sub_str_frozenset : isSubtype (.type "str") (.type "frozenset") = pure false := by rw [isSubtype_type]; kernel_rfl
def sgns (x : Str) : List Str := x.cps.toList.map fun c => ⟨#[c]⟩
theorem sgns_range (x : Str) : (List.range x.cps.size).map (fun i => (⟨#[x.cps.getD i 0]⟩ : Str)) = sgns x := by
  unfold sgns
  refine List.ext_getElem (by simp) fun i h1 h2 => ?_
  simp at h1
  simp [h1]
section
variable {prog : Program} {w : World} {A : Around} {E : Value → Shared → Prop} {s : Shared}
set_option maxHeartbeats 3200000 in
theorem set_of_text {x : Str} {tx : Tok} {Q : Value → Shared → Prop} (hh : A.handled = none) (hb : x.length + 1 < scanBound)
    (h : ∀ (s' : Shared), SetP prog w s'.heap s.heap.objs.size (sgns x) → s'.gens = s.gens → s'.drawn = s.drawn → s'.os = s.os →
      (∀ b o, s.heap.get? b = some o → s'.heap.get? b = some o) → Q (.ref s.heap.objs.size) s') :
    wpAny (model prog w) A (call (.type "set") [.str x tx]) Q E s := by
  obtain ⟨c, tl, hmro⟩ := F.called_set.mro
  have hmade := F.called_set.made
  have hsub := F.called_set.sub
  refine wpAny_call (codeAny_of_tree ?_)
  show wpAny _ _ (callAny (.type "set") _) _ _ _
  refine wpAny_pure ⟨Code.quiet_builtin _ (by decide +kernel), codeAny_builtin F.entry_type_call ?_⟩
  rw [Around.under_plain (weight_type_call_type "set" [.str x tx] []) rfl]
  have h1 := F.called_set.notType
  have h2 := F.called_set.canCreate
  have hct := F.typeCall_set_1 (.str x tx)
  repeat (any_goals (first | assumption | wp_step))
  refine codeAny_mono (code_set_new_1 (.str x tx) (E := E) (Q₁ := fun obj s₁ => ∃ led : Bool, obj = .ref s.heap.objs.size ∧ s₁ = { s with heap := s.heap.push { cls := .type "set", dict := none, data := .set #[] 0 (.fresh 0 0 led) } }) fun led => ⟨led, rfl, rfl⟩) fun r s₁ hr => ?_
  cases r with
  | error e => exact hr
  | ok fl =>
    cases fl with
    | ret obj =>
      obtain ⟨led, rfl, rfl⟩ := hr
      generalize hH1 : s.heap.push { cls := .type "set", dict := none, data := .set #[] 0 (.fresh 0 0 led) } = H1
      have hS : H1.get? s.heap.objs.size = some { cls := .type "set", dict := none, data := .set #[] 0 (.fresh 0 0 led) } := by rw [← hH1]; exact Heap.get?_push_size _ rfl
      have hold : ∀ b o, s.heap.get? b = some o → H1.get? b = some o := fun b o e => by rw [← hH1]; exact Heap.get?_push_of_some _ e
      have hsz : H1.objs.size = s.heap.objs.size + 1 := by rw [← hH1]; exact Heap.size_push ..
      have hT : Shared.TypeIs { s with heap := H1 } (.ref s.heap.objs.size) "set" := ⟨_, hS, rfl⟩
      have hli := F.called_set.init.lookup
      have hbi := F.called_set.init.bind (.ref s.heap.objs.size)
      repeat (any_goals (first | assumption | wp_step))
      refine codeAny_mono (codeAny_call_builtin (R := wants (fun r s₂ => r = .none ∧ SetP prog w s₂.heap s.heap.objs.size (sgns x) ∧ s₂.gens = s.gens ∧ s₂.drawn = s.drawn ∧ s₂.os = s.os ∧ (∀ b o, s.heap.get? b = some o → s₂.heap.get? b = some o)) E) F.called_set.init.plain F.entry_set_init (check_set_init_1 hT ?_)) fun r₂ s₂ hr₂ => ?_
      · have hsls := sub_str_set
        have hslf := sub_str_frozenset
        have hne : (Value.type "str" == Value.type "dict") = false := by decide
        unfold Builtin.«set.__init__» noKeywords Builtin.Frozenset.updateFrom
        generalize hPI : pyIter = PI
        wp_walk
        subst hPI
        refine wpAny_pyIter_str fun o St W hst => ?_
        refine wpAny_bind (wpAny_runValue ?_)
        have hh3 : A.in1.in1.in1.handled = none := by simp [hh]
        have hSf : s.heap.objs.size ∉ [H1.objs.size] := fun hm => by rw [List.mem_singleton.mp hm] at hsz; exact absurd hsz (Nat.ne_of_lt (Nat.lt_succ_self _))
        refine upd_loopP (W A.in1.in1.in1 hh3).toS s.heap.objs.size hSf (fun i => ⟨#[x.cps.getD i 0]⟩) (fun i v ⟨c, u, e1, e2⟩ => ⟨u, by rw [e2, Array.getD_eq_getD_getElem?, e1]; rfl⟩) hb x.cps.size 0 _ (by omega) (Nat.zero_le _) hst (SetP.fresh (Heap.get?_push_of_some _ hS)) fun s' hm hS' => ?_
        show wpAny _ _ _ _ _ _
        refine wpAny_pure ?_
        show wpAny _ _ (ret Value.none) _ _ _
        refine wpAny_pure ⟨rfl, ?_, hm.gens, hm.drawn, hm.os, fun b o' e => ?_⟩
        · rw [sgns_range] at hS'
          exact hS'
        · have lt := Heap.lt_size e
          refine hm.heap b o' (fun hb => ?_) (Heap.get?_push_of_some _ (hold b o' e))
          rcases List.mem_cons.mp hb with q | q
          · rw [q] at lt; exact absurd lt (Nat.lt_irrefl _)
          · rw [List.mem_singleton.mp q, hsz] at lt; exact absurd lt (Nat.not_lt.mpr (Nat.le_succ _))
      · cases r₂ with
        | error e => exact hr₂
        | ok fl₂ =>
          cases fl₂ with
          | ret r =>
            obtain ⟨rfl, hS', g1, g2, g3, hk'⟩ := hr₂
            repeat (any_goals (first | assumption | wp_step))
            exact h _ hS' g1 g2 g3 hk'
          | _ => exact hr₂.elim
    | _ => exact hr.elim
end
end L2
namespace L2
open PySem PySem.Spec PyProof.Rows
theorem erase_perm {α : Type} : ∀ {l : List α} {i : Nat} (h : i < l.length), (l[i] :: l.eraseIdx i).Perm l
  | x :: r, 0, h => by simp
  | x :: r, i + 1, h => by
    have ih := erase_perm (l := r) (i := i) (by simpa using h)
    simp only [List.getElem_cons_succ, List.eraseIdx_cons_succ]
    exact (List.Perm.swap _ _ _).trans (List.Perm.cons _ ih)
theorem pick_go {α : Type} (f : Nat → Nat) : ∀ (n k : Nat) (l : List α) (out : Array α), l.length = n → (pickOrder.go f n k l out).toList.Perm (out.toList ++ l)
  | 0, k, l, out, h => by
    rw [List.length_eq_zero_iff.mp h]
    unfold pickOrder.go
    simp
  | n + 1, k, l, out, h => by
    have hl : f k % l.length < l.length := Nat.mod_lt _ (by omega)
    unfold pickOrder.go
    rw [List.getElem?_eq_getElem hl]
    dsimp only
    refine (pick_go f n (k + 1) (l.eraseIdx (f k % l.length)) (out.push l[f k % l.length]) (by rw [List.length_eraseIdx_of_lt hl]; omega)).trans ?_
    rw [Array.toList_push, List.append_assoc]
    refine List.Perm.append_left _ ?_
    exact (erase_perm hl)
theorem pick_perm {α : Type} (f : Nat → Nat) (xs : Array α) : (pickOrder f xs).toList.Perm xs.toList := by
  unfold pickOrder
  exact pick_go f xs.size 0 xs.toList #[] (by simp)
section
variable {prog : Program} {w : World} {A : Around} {E : Value → Shared → Prop} {s : Shared}
theorem wpAny_choose {src : Source} {n : Nat} {Q : Nat → Shared → Prop} (hn : n ≠ 0) (h : ∀ i d, i < n → Q i { s with drawn := d }) : wpAny (model prog w) A (choose src n) Q E s := fun Γ p hΓ => by
  refine ⟨hn, ?_⟩
  exact h _ _ (Nat.mod_lt _ (Nat.pos_of_ne_zero hn))
theorem wpAny_drawOrder {α : Type} : ∀ (n : Nat) (xs : List α) (s : Shared) {Q : List α → Shared → Prop}, xs.length = n → (∀ ys d, ys.Perm xs → Q ys { s with drawn := d }) → wpAny (model prog w) A (drawOrder n xs) Q E s
  | 0, xs, s, Q, hx, h => by
    rw [List.length_eq_zero_iff.mp hx]
    unfold drawOrder
    exact wpAny_pure (h [] s.drawn (by rw [List.length_eq_zero_iff.mp hx]))
  | n + 1, [], s, Q, hx, h => by cases hx
  | n + 1, x :: r, s, Q, hx, h => by
    unfold drawOrder
    refine wpAny_bind (wpAny_choose (by rw [List.length_cons]; exact Nat.succ_ne_zero _) fun i d hi => ?_)
    rw [List.getElem?_eq_getElem hi]
    dsimp only
    refine wpAny_bind (wpAny_drawOrder n _ _ (by rw [List.length_eraseIdx_of_lt hi]; omega) fun ys d2 hp => ?_)
    refine wpAny_pure (h _ d2 ?_)
    exact (List.Perm.cons _ hp).trans (erase_perm hi)
end
namespace FS
theorem slot_set_iterator_next : Slot "set_iterator" "__next__" "set_iterator.__next__" :=
  .of (owner := "set_iterator") (n := "__next__") (by rw [typeLookup_type, builtinLookup_eq_fast]; kernel_rfl) (by decide +kernel) (by decide +kernel) (by decide +kernel)
    (by first | exact .inl (by decide +kernel) | exact .inr (by decide +kernel)) (by rw [isSubtype_type]; kernel_rfl)
theorem slot_set_iterator_iter : Slot "set_iterator" "__iter__" "set_iterator.__iter__" :=
  .of (owner := "set_iterator") (n := "__iter__") (by rw [typeLookup_type, builtinLookup_eq_fast]; kernel_rfl) (by decide +kernel) (by decide +kernel) (by decide +kernel)
    (by first | exact .inl (by decide +kernel) | exact .inr (by decide +kernel)) (by rw [isSubtype_type]; kernel_rfl)
theorem entry_set_iterator_iter : entryFor table "set_iterator.__iter__" = some Builtin.«dict_keyiterator.__iter__» :=
  entryFor_alias (id' := "dict_keyiterator.__iter__") (by kernel_rfl) rfl (by decide +kernel) (by kernel_rfl)
theorem args_set_iterator_iter_1 (a : Value) : argsOk "set_iterator.__iter__" ⟨[a], []⟩ := by unfold argsOk; kernel_rfl
theorem entry_set_iterator_next : entryFor table "set_iterator.__next__" = some Builtin.«set_iterator.__next__» := entryFor_of_fast (by kernel_rfl)
theorem args_set_iterator_next_1 (a : Value) : argsOk "set_iterator.__next__" ⟨[a], []⟩ := by unfold argsOk; kernel_rfl
theorem entry_set_iter : entryFor table "set.__iter__" = some Builtin.«frozenset.__iter__» :=
  entryFor_alias (id' := "frozenset.__iter__") (by kernel_rfl) rfl (by decide +kernel) (by kernel_rfl)
end FS
def IsSetIter (h : Heap) (it : Addr) (fst : Value) (i : Nat) (S : Addr) (n ep : Nat) : Prop :=
  ∃ o, h.get? it = some o ∧ o.cls = .type "set_iterator" ∧ o.data = .fields #[fst, .int i 0, .ref S, .int n 0, .int ep 0]
theorem IsSetIter.typeIs {s : Shared} {it S : Addr} {fst : Value} {i n ep : Nat} (x : IsSetIter s.heap it fst i S n ep) : s.TypeIs (.ref it) "set_iterator" := let ⟨o, ho, hc, _⟩ := x; ⟨o, ho, hc⟩
def SetAt (h : Heap) (S : Addr) (es : Array (Int × Value)) (ep : Nat) (t : SetTable) : Prop := ∃ o, h.get? S = some o ∧ o.ExactSet ∧ o.data = .set es ep t ∧ t.fits es.size = true
section
variable {prog : Program} {w : World} {A : Around} {E : Value → Shared → Prop} {s : Shared} {it S tp : Addr} {i ep : Nat} {es : Array (Int × Value)} {t : SetTable}
theorem next_drawn {j : Nat} {x : Int × Value} {pl : Array Value} {ot : Obj} {m : Nat} {Q : Option Value → Shared → Prop} (hit : IsSetIter s.heap it (.ref tp) i S es.size ep) (hS : SetAt s.heap S es ep t) (htp : s.heap.get? tp = some ot) (hpl : ot.data = .seq pl m) (hi : pl[i]? = some (rawInt j)) (hx : es[j]? = some x)
    (hQ : ∀ h', IsSetIter h' it (.ref tp) (i + 1) S es.size ep → Heap.SameBut it s.heap h' → Q (some x.2) { s with heap := h' }) : wpAny (model prog w) A (pyNext (.ref it)) Q E s := by
  obtain ⟨o, ho, hc, hd⟩ := id hit
  obtain ⟨os, hos, hex, hds, hf⟩ := hS
  unfold pyNext
  refine wpAny_bind (wpAny_attempt (wpAny_callSpecial?_slot (name := Str.ofString "__next__") hit.typeIs FS.slot_set_iterator_next
    (wpAny_call_entry FS.slot_set_iterator_next hit.typeIs FS.entry_set_iterator_next ?_ (FS.args_set_iterator_next_1 _))))
  unfold Builtin.«set_iterator.__next__»
  refine wpAny_bind (wpAny_of_eq (a := (Value.ref it, [])) (by first | rfl | kernel_rfl) ?_)
  refine wpAny_bind (wpAny_fieldsOf ho hd ?_)
  dsimp only
  refine wpAny_bind (wpAny_setEntries_of hos hds hf ?_)
  rw [if_neg (by simp)]
  refine wpAny_bind (wpAny_seqItems htp hpl ?_)
  dsimp only
  rw [show (↑i : Int).toNat = i from rfl, hi]
  show wpAny _ _ (setNextDrawn S (j : Int).toNat (ep : Int).toNat >>= _) _ _ s
  refine wpAny_bind ?_
  unfold setNextDrawn
  refine wpAny_bind (wpAny_setState_of hos hds hf ?_)
  dsimp only
  rw [if_neg (by simp), show (j : Int).toNat = j from rfl, hx]
  refine wpAny_pure ?_
  refine wpAny_bind (wpAny_setField ho hd (by simp) ?_)
  have hit' : IsSetIter (s.heap.update it (Obj.mapFields (·.setIfInBounds 1 (rawInt ((i : Int) + 1))))) it (.ref tp) (i + 1) S es.size ep :=
    ⟨_, Heap.get?_update_self _ ho (Obj.isFreed_of_fields (Obj.data_mapFields hd _)), (Obj.cls_mapFields ..).trans hc, by rw [Obj.data_mapFields hd]; simp [rawInt]⟩
  exact wpAny_pure ⟨_, rfl, wpAny_pure (hQ _ hit' (Heap.SameBut.update ..))⟩
theorem next_drawn_end {pl : Array Value} {ot : Obj} {m : Nat} {Q : Option Value → Shared → Prop} (hh : A.handled = none) (hit : IsSetIter s.heap it (.ref tp) i S es.size ep) (hS : SetAt s.heap S es ep t) (htp : s.heap.get? tp = some ot) (hpl : ot.data = .seq pl m) (hi : pl[i]? = none)
    (hQ : ∀ h', Heap.ExtBut it s.heap h' → Q none { s with heap := h' }) : wpAny (model prog w) A (pyNext (.ref it)) Q E s := by
  obtain ⟨o, ho, hc, hd⟩ := id hit
  obtain ⟨os, hos, hex, hds, hf⟩ := hS
  unfold pyNext
  refine wpAny_bind (wpAny_attempt (wpAny_callSpecial?_slot (name := Str.ofString "__next__") hit.typeIs FS.slot_set_iterator_next
    (wpAny_call_entry FS.slot_set_iterator_next hit.typeIs FS.entry_set_iterator_next ?_ (FS.args_set_iterator_next_1 _))))
  unfold Builtin.«set_iterator.__next__»
  refine wpAny_bind (wpAny_of_eq (a := (Value.ref it, [])) (by first | rfl | kernel_rfl) ?_)
  refine wpAny_bind (wpAny_fieldsOf ho hd ?_)
  dsimp only
  refine wpAny_bind (wpAny_setEntries_of hos hds hf ?_)
  rw [if_neg (by simp)]
  refine wpAny_bind (wpAny_seqItems htp hpl ?_)
  dsimp only
  rw [show (↑i : Int).toNat = i from rfl, hi]
  show wpAny _ _ (setField (.ref it) 0 (rawInt 0) >>= _) _ _ s
  refine wpAny_bind (wpAny_setField ho hd (by simp) ?_)
  have ho1 := Heap.get?_update_self (Obj.mapFields (·.setIfInBounds 0 (rawInt 0))) ho (Obj.isFreed_of_fields (Obj.data_mapFields hd _))
  refine wpAny_bind (wpAny_setField ho1 (Obj.data_mapFields hd _) (by simp) ?_)
  show wpAny _ _ (newExc (.type "StopIteration") [] >>= _) _ _ _
  refine wpAny_bind ?_
  simp only [newExc, newTuple]
  refine wpAny_bind (wpAny_newObj_type ?_ (by size_fits))
  refine wpAny_bind (m := firstArgMember _ _) (wpAny_of_eq (a := Value.none) (by first | rfl | (simp only [firstArgMember]; rfl)) ?_)
  refine wpAny_newObj_type ?_ (by size_fits)
  simp only [raiseNew]
  refine wpAny_bind (wpAny_handled ?_)
  rw [show A.in1.handled = none from hh]
  refine wpAny_bind (wpAny_pure (wpAny_throw ?_))
  refine wpAny_bind (wpAny_isInstance (T := "StopIteration") (b := true) ⟨_, Heap.get?_push_size _ rfl, rfl⟩ isSubtype_stop ?_)
  refine wpAny_pure (hQ _ ((Heap.ExtBut.push ?_ _).push _))
  exact ((Heap.SameBut.update ..).trans (Heap.SameBut.update ..)).extBut
theorem next_text {x : Int × Value} {Q : Option Value → Shared → Prop} (hb : w.params.followText "set-order" = true) (hit : IsSetIter s.heap it (rawInt 0) i S es.size ep) (hS : SetAt s.heap S es ep t) (hx : (pickOrder (w.params.setOrder S ep) es)[i]? = some x)
    (hQ : ∀ h', IsSetIter h' it (rawInt 0) (i + 1) S es.size ep → Heap.SameBut it s.heap h' → Q (some x.2) { s with heap := h' }) : wpAny (model prog w) A (pyNext (.ref it)) Q E s := by
  obtain ⟨o, ho, hc, hd⟩ := id hit
  obtain ⟨os, hos, hex, hds, hf⟩ := hS
  unfold pyNext
  refine wpAny_bind (wpAny_attempt (wpAny_callSpecial?_slot (name := Str.ofString "__next__") hit.typeIs FS.slot_set_iterator_next
    (wpAny_call_entry FS.slot_set_iterator_next hit.typeIs FS.entry_set_iterator_next ?_ (FS.args_set_iterator_next_1 _))))
  unfold Builtin.«set_iterator.__next__»
  refine wpAny_bind (wpAny_of_eq (a := (Value.ref it, [])) (by first | rfl | kernel_rfl) ?_)
  refine wpAny_bind (wpAny_fieldsOf ho hd ?_)
  dsimp only
  refine wpAny_bind (wpAny_setEntries_of hos hds hf ?_)
  rw [if_neg (by simp)]
  show wpAny _ _ (setNext S (0 : Int).toNat (i : Int).toNat (ep : Int).toNat >>= _) _ _ s
  refine wpAny_bind ?_
  unfold setNext setsByText
  refine wpAny_bind (wpAny_setState_of hos hds hf ?_)
  dsimp only
  refine wpAny_bind (wpAny_bind (wpAny_askSetting (wpAny_pure ?_)))
  show wpAny _ _ (if w.params.followText "set-order" = true then _ else _) _ _ s
  rw [if_pos hb, if_neg (by simp)]
  refine wpAny_bind ?_
  unfold setWalk setsByText
  refine wpAny_bind (wpAny_setState_of hos hds hf ?_)
  dsimp only
  refine wpAny_bind (wpAny_bind (wpAny_askSetting (wpAny_pure ?_)))
  show wpAny _ _ (if w.params.followText "set-order" = true then _ else _) _ _ s
  rw [if_pos hb]
  refine wpAny_bind (wpAny_askSetting (wpAny_pure ?_))
  show wpAny _ _ (pure (((pickOrder (w.params.setOrder S ep) es)[i]?).map fun e => (e.2, 0))) _ _ s
  rw [hx]
  refine wpAny_pure ?_
  show wpAny _ _ (setField (.ref it) 0 (rawInt 0) >>= _) _ _ s
  refine wpAny_bind (wpAny_setField ho hd (by simp) ?_)
  have ho1 := Heap.get?_update_self (Obj.mapFields (·.setIfInBounds 0 (rawInt 0))) ho (Obj.isFreed_of_fields (Obj.data_mapFields hd _))
  refine wpAny_bind (wpAny_setField ho1 (Obj.data_mapFields hd _) (by simp) ?_)
  have hd1 : (Obj.mapFields (·.setIfInBounds 0 (rawInt 0)) o).data = .fields #[rawInt 0, .int i 0, .ref S, .int es.size 0, .int ep 0] := by rw [Obj.data_mapFields hd]; simp
  have hit' : IsSetIter ((s.heap.update it (Obj.mapFields (·.setIfInBounds 0 (rawInt 0)))).update it (Obj.mapFields (·.setIfInBounds 1 (rawInt ((i : Int) + 1))))) it (rawInt 0) (i + 1) S es.size ep :=
    ⟨_, Heap.get?_update_self _ ho1 (Obj.isFreed_of_fields (Obj.data_mapFields hd1 _)), (Obj.cls_mapFields ..).trans ((Obj.cls_mapFields ..).trans hc), by rw [Obj.data_mapFields hd1]; simp [rawInt]⟩
  exact wpAny_pure ⟨_, rfl, wpAny_pure (hQ _ hit' ((Heap.SameBut.update ..).trans (Heap.SameBut.update ..)))⟩
theorem next_text_end {Q : Option Value → Shared → Prop} (hh : A.handled = none) (hb : w.params.followText "set-order" = true) (hit : IsSetIter s.heap it (rawInt 0) i S es.size ep) (hS : SetAt s.heap S es ep t) (hx : (pickOrder (w.params.setOrder S ep) es)[i]? = none)
    (hQ : ∀ h', Heap.ExtBut it s.heap h' → Q none { s with heap := h' }) : wpAny (model prog w) A (pyNext (.ref it)) Q E s := by
  obtain ⟨o, ho, hc, hd⟩ := id hit
  obtain ⟨os, hos, hex, hds, hf⟩ := hS
  unfold pyNext
  refine wpAny_bind (wpAny_attempt (wpAny_callSpecial?_slot (name := Str.ofString "__next__") hit.typeIs FS.slot_set_iterator_next
    (wpAny_call_entry FS.slot_set_iterator_next hit.typeIs FS.entry_set_iterator_next ?_ (FS.args_set_iterator_next_1 _))))
  unfold Builtin.«set_iterator.__next__»
  refine wpAny_bind (wpAny_of_eq (a := (Value.ref it, [])) (by first | rfl | kernel_rfl) ?_)
  refine wpAny_bind (wpAny_fieldsOf ho hd ?_)
  dsimp only
  refine wpAny_bind (wpAny_setEntries_of hos hds hf ?_)
  rw [if_neg (by simp)]
  show wpAny _ _ (setNext S (0 : Int).toNat (i : Int).toNat (ep : Int).toNat >>= _) _ _ s
  refine wpAny_bind ?_
  unfold setNext setsByText
  refine wpAny_bind (wpAny_setState_of hos hds hf ?_)
  dsimp only
  refine wpAny_bind (wpAny_bind (wpAny_askSetting (wpAny_pure ?_)))
  show wpAny _ _ (if w.params.followText "set-order" = true then _ else _) _ _ s
  rw [if_pos hb, if_neg (by simp)]
  refine wpAny_bind ?_
  unfold setWalk setsByText
  refine wpAny_bind (wpAny_setState_of hos hds hf ?_)
  dsimp only
  refine wpAny_bind (wpAny_bind (wpAny_askSetting (wpAny_pure ?_)))
  show wpAny _ _ (if w.params.followText "set-order" = true then _ else _) _ _ s
  rw [if_pos hb]
  refine wpAny_bind (wpAny_askSetting (wpAny_pure ?_))
  show wpAny _ _ (pure (((pickOrder (w.params.setOrder S ep) es)[i]?).map fun e => (e.2, 0))) _ _ s
  rw [hx]
  refine wpAny_pure ?_
  show wpAny _ _ (setField (.ref it) 2 .none >>= _) _ _ s
  refine wpAny_bind (wpAny_setField ho hd (by simp) ?_)
  show wpAny _ _ (newExc (.type "StopIteration") [] >>= _) _ _ _
  refine wpAny_bind ?_
  simp only [newExc, newTuple]
  refine wpAny_bind (wpAny_newObj_type ?_ (by size_fits))
  refine wpAny_bind (m := firstArgMember _ _) (wpAny_of_eq (a := Value.none) (by first | rfl | (simp only [firstArgMember]; rfl)) ?_)
  refine wpAny_newObj_type ?_ (by size_fits)
  simp only [raiseNew]
  refine wpAny_bind (wpAny_handled ?_)
  rw [show A.in1.handled = none from hh]
  refine wpAny_bind (wpAny_pure (wpAny_throw ?_))
  refine wpAny_bind (wpAny_isInstance (T := "StopIteration") (b := true) ⟨_, Heap.get?_push_size _ rfl, rfl⟩ isSubtype_stop ?_)
  exact wpAny_pure (hQ _ (((Heap.SameBut.update ..).extBut.push _).push _))
end
end L2
namespace L2
open PySem PySem.Spec PyProof.Rows
theorem SetAt.keep {h h' : Heap} {S : Addr} {es : Array (Int × Value)} {ep : Nat} {t : SetTable} (x : SetAt h S es ep t) (k : ∀ o, h.get? S = some o → h'.get? S = some o) : SetAt h' S es ep t := let ⟨o, ho, r⟩ := x; ⟨o, k o ho, r⟩
theorem IsSetIter.keep {h h' : Heap} {it S : Addr} {fst : Value} {i n ep : Nat} (x : IsSetIter h it fst i S n ep) (k : ∀ o, h.get? it = some o → h'.get? it = some o) : IsSetIter h' it fst i S n ep := let ⟨o, ho, r⟩ := x; ⟨o, k o ho, r⟩
section
variable {prog : Program} {w : World} {E : Value → Shared → Prop} {s : Shared} {I S tp : Addr} {i ep : Nat} {es : Array (Int × Value)} {t : SetTable}
theorem self_set {A : Around} {fst : Value} {n : Nat} {Q : Value → Shared → Prop} (hit : IsSetIter s.heap I fst i S n ep) (h : Q (.ref I) s) : wpAny (model prog w) A (pyIter (.ref I)) Q E s := by
  refine wpAny_pyIter_slot hit.typeIs FS.slot_set_iterator_iter (wpAny_call_entry FS.slot_set_iterator_iter hit.typeIs FS.entry_set_iterator_iter ?_ (FS.args_set_iterator_iter_1 _))
  show wpAny _ _ (ret (.ref I)) _ _ s
  exact wpAny_pure ⟨_, rfl, "set_iterator", _, hit.typeIs, FS.slot_set_iterator_next.lookup, h⟩
theorem walks_drawn {A : Around} (hh : A.handled = none) {pl : List Nat} {m : Nat} (hIS : I ≠ S) (hIt : I ≠ tp) (hp : pl.Perm (List.range es.size)) :
    WalksS prog w A I [I, S, tp] [I] (fun a b => b = a) es.size (fun i v => (pl.map fun j => (es.getD j (0, .none)).2)[i]? = some v)
      (fun i s => IsSetIter s.heap I (.ref tp) i S es.size ep ∧ SetAt s.heap S es ep t ∧ s.heap.get? tp = some { cls := .type "tuple", data := .seq (pl.map fun j : Nat => rawInt (j : Int)).toArray m }) where
  sub := fun b hb => by rw [List.mem_singleton.mp hb]; exact List.mem_cons_self
  grefl := fun _ => rfl
  gtrans := fun _ _ _ h1 h2 => h2.trans h1
  frame := fun i s h' tk ⟨a, b, c⟩ _ k => ⟨a.keep fun o e => k I (by simp) o e, b.keep fun o e => k S (by simp) o e, k tp (by simp) _ c⟩
  item := fun i s Q E hi ⟨a, b, c⟩ hQ => by
    have hl : pl.length = es.size := by rw [hp.length_eq, List.length_range]
    have hil : i < pl.length := by omega
    have hj : pl[i] < es.size := List.mem_range.mp (hp.mem_iff.mp (List.getElem_mem hil))
    refine next_drawn (j := pl[i]) (x := es[pl[i]]) a b c rfl (by simp [hil]) (by simp [hj]) fun h' it' sb => ?_
    refine hQ _ _ (by simp [hil, hj]) ⟨it', b.keep fun o e => (sb.2 S (Ne.symm hIS)).trans e, (sb.2 tp (Ne.symm hIt)).trans c⟩ ⟨fun b' o hb e => (sb.2 b' (fun q => hb (by simp [q]))).trans e, rfl, rfl, rfl, Nat.le_refl _⟩
  done := fun s Q E ⟨a, b, c⟩ hQ => by
    have hl : pl.length = es.size := by rw [hp.length_eq, List.length_range]
    refine next_drawn_end hh a b c rfl (by simp [hl]) fun h' eb => ?_
    exact hQ _ ⟨fun b' o hb e => eb b' o (fun q => hb (by simp [q])) e, rfl, rfl, rfl, Nat.le_refl _⟩
  self := fun i s Q E ⟨a, b, c⟩ hQ => self_set a hQ
theorem walks_text {A : Around} (hh : A.handled = none) (hb : w.params.followText "set-order" = true) (hIS : I ≠ S) :
    WalksS prog w A I [I, S] [I] (fun a b => b = a) es.size (fun i v => ((pickOrder (w.params.setOrder S ep) es).toList.map (·.2))[i]? = some v)
      (fun i s => IsSetIter s.heap I (rawInt 0) i S es.size ep ∧ SetAt s.heap S es ep t) where
  sub := fun b hb => by rw [List.mem_singleton.mp hb]; exact List.mem_cons_self
  grefl := fun _ => rfl
  gtrans := fun _ _ _ h1 h2 => h2.trans h1
  frame := fun i s h' tk ⟨a, b⟩ _ k => ⟨a.keep fun o e => k I (by simp) o e, b.keep fun o e => k S (by simp) o e⟩
  item := fun i s Q E hi ⟨a, b⟩ hQ => by
    have hl := (pick_perm (w.params.setOrder S ep) es).length_eq
    rw [Array.length_toList, Array.length_toList] at hl
    have hil : i < (pickOrder (w.params.setOrder S ep) es).size := by omega
    refine next_text (x := (pickOrder (w.params.setOrder S ep) es)[i]) hb a b (by simp [hil]) fun h' it' sb => ?_
    refine hQ _ _ (by simp [hil]) ⟨it', b.keep fun o e => (sb.2 S (Ne.symm hIS)).trans e⟩ ⟨fun b' o hb e => (sb.2 b' (fun q => hb (by simp [q]))).trans e, rfl, rfl, rfl, Nat.le_refl _⟩
  done := fun s Q E ⟨a, b⟩ hQ => by
    have hl := (pick_perm (w.params.setOrder S ep) es).length_eq
    rw [Array.length_toList, Array.length_toList] at hl
    refine next_text_end hh hb a b (by simp [hl]) fun h' eb => ?_
    exact hQ _ ⟨fun b' o hb e => eb b' o (fun q => hb (by simp [q])) e, rfl, rfl, rfl, Nat.le_refl _⟩
  self := fun i s Q E ⟨a, b⟩ hQ => self_set a hQ
theorem iter_set {A : Around} {Q : Value → Shared → Prop} (hS : SetAt s.heap S es ep t) (hpl : t.plain = false) (h2 : 1 < es.size) (hb : es.size < scanBound)
    (hQ : ∀ (s' : Shared) (I : Addr) (fp : List Addr) (ord : List Value) (St : Nat → Shared → Prop), ord.Perm (es.toList.map (·.2)) → (∀ A' : Around, A'.handled = none → WalksS prog w A' I fp [I] (fun a b => b = a) es.size (fun i v => ord[i]? = some v) St) → St 0 s' →
      (∀ b ∈ fp, b < s'.heap.objs.size ∧ (b = S ∨ s.heap.objs.size ≤ b)) → I ∈ fp → s.heap.objs.size ≤ I → (∀ b o, s.heap.get? b = some o → s'.heap.get? b = some o) → s'.gens = s.gens → s'.os = s.os → Q (.ref I) s') : wpAny (model prog w) A (pyIter (.ref S)) Q E s := by
  obtain ⟨o, ho, hex, hd, hf⟩ := id hS
  have hT : s.TypeIs (.ref S) "set" := ⟨o, ho, hex.1⟩
  have hSl := Heap.lt_size ho
  refine wpAny_pyIter_slot hT PySem.F.slot_set_iter (wpAny_call_entry PySem.F.slot_set_iter hT FS.entry_set_iter ?_ (PySem.F.args_set_iter_1 _))
  unfold Builtin.«frozenset.__iter__» Builtin.Frozenset.slot0
  refine wpAny_bind (wpAny_bind (wpAny_of_eq (a := (Value.ref S, [])) (by first | rfl | kernel_rfl) (wpAny_pure ?_)))
  dsimp only
  unfold Builtin.Frozenset.sizeOf
  refine wpAny_bind (wpAny_bind (wpAny_setEntries_of ho hd hf (wpAny_pure ?_)))
  refine wpAny_bind ?_
  unfold setDrawn setsByText
  refine wpAny_bind (wpAny_setState_of ho hd hf ?_)
  dsimp only
  refine wpAny_bind (wpAny_bind (wpAny_askSetting (wpAny_pure ?_)))
  show wpAny _ _ (pure (!w.params.followText "set-order" && (!t.plain && decide (es.size > 1)))) _ _ s
  rw [hpl, decide_eq_true h2]
  refine wpAny_pure ?_
  cases hbt : w.params.followText "set-order" with
  | false =>
    simp only [Bool.not_false, Bool.and_self, ↓reduceIte]
    refine wpAny_bind (wpAny_drawOrder es.size (List.range es.size) s (by simp) fun pl d hp => ?_)
    have hl : pl.length = es.size := by rw [hp.length_eq, List.length_range]
    refine wpAny_bind (wpAny_newTuple ?_ (by rw [List.length_map, hl]; exact fits_of_scanBound hb))
    have hS1 : SetAt (s.heap.push { cls := .type "tuple", data := .seq (pl.map fun j : Nat => rawInt (j : Int)).toArray }) S es ep t := hS.keep fun o e => Heap.get?_push_of_some _ e
    obtain ⟨o1, ho1, hex1, hd1, hf1⟩ := id hS1
    refine wpAny_bind (wpAny_setEpoch_of (s := { s with heap := s.heap.push { cls := .type "tuple", data := .seq (pl.map fun j : Nat => rawInt (j : Int)).toArray }, drawn := d }) ho1 hd1 hf1 ?_)
    unfold newFields
    refine wpAny_bind (wpAny_newObj_type ?_)
    refine wpAny_pure ⟨_, rfl, "set_iterator", _, ⟨_, Heap.get?_push_size _ rfl, rfl⟩, FS.slot_set_iterator_next.lookup, ?_⟩
    have hz := Heap.size_push s.heap ({ cls := .type "tuple", data := .seq (pl.map fun j : Nat => rawInt (j : Int)).toArray } : Obj)
    have hperm : (pl.map fun j => (es.getD j (0, .none)).2).Perm (es.toList.map (·.2)) := by
      refine (hp.map _).trans ?_
      have e : (List.range es.size).map (fun j => (es.getD j (0, .none)).2) = es.toList.map (·.2) := by
        refine List.ext_getElem (by simp) fun i h1 h2 => ?_
        simp at h1
        simp [h1]
      rw [e]
    have hIS : (s.heap.push { cls := .type "tuple", data := .seq (pl.map fun j : Nat => rawInt (j : Int)).toArray }).objs.size ≠ S := by rw [hz]; exact Nat.ne_of_gt (Nat.lt_succ_of_lt hSl)
    have hIt : (s.heap.push { cls := .type "tuple", data := .seq (pl.map fun j : Nat => rawInt (j : Int)).toArray }).objs.size ≠ s.heap.objs.size := by rw [hz]; exact Nat.ne_of_gt (Nat.lt_succ_self _)
    refine hQ _ _ _ _ _ hperm (fun A' hA => walks_drawn (es := es) (ep := ep) (t := t) (m := 0) hA hIS hIt hp) ⟨⟨_, Heap.get?_push_size _ rfl, rfl, rfl⟩, hS1.keep fun o e => Heap.get?_push_of_some _ e, Heap.get?_push_of_some _ (Heap.get?_push_size _ rfl)⟩ (fun b hb => ?_) List.mem_cons_self (by rw [hz]; exact Nat.le_succ _) (fun b o e => Heap.get?_push_of_some _ (Heap.get?_push_of_some _ e)) rfl rfl
    have hz2 := Heap.size_push (s.heap.push { cls := .type "tuple", data := .seq (pl.map fun j : Nat => rawInt (j : Int)).toArray }) ({ cls := .type "set_iterator", dict := none, data := .fields [Value.ref s.heap.objs.size, rawInt 0, .ref S, rawInt es.size, rawInt ep].toArray } : Obj)
    show b < (Heap.push _ _).objs.size ∧ _
    rw [hz2]
    rcases List.mem_cons.mp hb with q | hb
    · rw [q]; exact ⟨Nat.lt_succ_self _, .inr (by rw [hz]; exact Nat.le_succ _)⟩
    · rw [hz]
      rcases List.mem_cons.mp hb with q | hb
      · rw [q]; exact ⟨Nat.lt_succ_of_lt (Nat.lt_succ_of_lt hSl), .inl rfl⟩
      · rw [List.mem_singleton.mp hb]; exact ⟨Nat.lt_succ_of_lt (Nat.lt_succ_self _), .inr (Nat.le_refl _)⟩
  | true =>
    simp only [Bool.not_true, Bool.false_and, Bool.false_eq_true, ↓reduceIte]
    refine wpAny_bind (wpAny_pure ?_)
    refine wpAny_bind (wpAny_setEpoch_of ho hd hf ?_)
    unfold newFields
    refine wpAny_bind (wpAny_newObj_type ?_)
    refine wpAny_pure ⟨_, rfl, "set_iterator", _, ⟨_, Heap.get?_push_size _ rfl, rfl⟩, FS.slot_set_iterator_next.lookup, ?_⟩
    have hIS : s.heap.objs.size ≠ S := Nat.ne_of_gt hSl
    refine hQ _ _ _ _ _ ((pick_perm (w.params.setOrder S ep) es).map _) (fun A' hA => walks_text (es := es) (ep := ep) (t := t) hA hbt hIS) ⟨⟨_, Heap.get?_push_size _ rfl, rfl, rfl⟩, hS.keep fun o e => Heap.get?_push_of_some _ e⟩ (fun b hb => ?_) List.mem_cons_self (Nat.le_refl _) (fun b o e => Heap.get?_push_of_some _ e) rfl rfl
    have hz2 := Heap.size_push s.heap ({ cls := .type "set_iterator", dict := none, data := .fields [rawInt 0, rawInt 0, .ref S, rawInt es.size, rawInt ep].toArray } : Obj)
    show b < (Heap.push _ _).objs.size ∧ _
    rw [hz2]
    rcases List.mem_cons.mp hb with q | hb
    · rw [q]; exact ⟨Nat.lt_succ_self _, .inr (Nat.le_refl _)⟩
    · rw [List.mem_singleton.mp hb]; exact ⟨Nat.lt_succ_of_lt hSl, .inl rfl⟩
theorem len_slot_set : typeLookup (.type "set") "__len__" = pure (some (.builtin "set.__len__")) := by rw [typeLookup_type, builtinLookup_eq_fast]; kernel_rfl
theorem collect_set {A : Around} {Q : List Value → Shared → Prop} (hh : A.handled = none) (hS : SetAt s.heap S es ep t) (hpl : t.plain = false) (h2 : 1 < es.size) (hb : es.size < scanBound)
    (hQ : ∀ s' (ord : List Value), ord.Perm (es.toList.map (·.2)) → s.heap.objs.size ≤ s'.heap.objs.size → (∀ b o, s.heap.get? b = some o → s'.heap.get? b = some o) → s'.gens = s.gens → s'.os = s.os → Q ord s') : wpAny (model prog w) A (collect (.ref S)) Q E s := by
  obtain ⟨o, ho, hex, hd, hf⟩ := id hS
  have hSl := Heap.lt_size ho
  unfold collect
  refine wpAny_bind (wpAny_runValue (codeAny_builtin F.entry_proto_collect ?_))
  rw [Around.under_plainId F.plain_proto_collect _]
  show wpAny _ A.in1 (newList [] >>= fun l => again (.builtin "list.__iadd__" ⟨[l, .ref S], []⟩)) _ _ s
  refine wpAny_bind (wpAny_newObj_type ?_)
  refine wpAny_pure ⟨plainId_quiet F.plain_list_iadd _, codeAny_builtin F.entry_list_iadd ?_⟩
  rw [Around.under_plainId F.plain_list_iadd _]
  have hS1 : SetAt (s.heap.push { cls := .type "list", data := .seq ([] : List Value).toArray }) S es ep t := hS.keep fun o e => Heap.get?_push_of_some _ e
  obtain ⟨o1, ho1, hex1, hd1, hf1⟩ := id hS1
  have hT1 : Shared.TypeIs { s with heap := s.heap.push { cls := .type "list", data := .seq ([] : List Value).toArray } } (.ref S) "set" := ⟨o1, ho1, hex1.1⟩
  have hL : (s.heap.push { cls := .type "list", data := .seq ([] : List Value).toArray }).get? s.heap.objs.size = some { cls := .type "list", data := .seq ([] : List Value).toArray } := Heap.get?_push_size _ rfl
  have hz := Heap.size_push s.heap ({ cls := .type "list", data := .seq ([] : List Value).toArray } : Obj)
  have hold : ∀ b o, s.heap.get? b = some o → (s.heap.push { cls := .type "list", data := .seq ([] : List Value).toArray }).get? b = some o := fun b o e => Heap.get?_push_of_some _ e
  show wpAny _ A.in1 (Builtin.List.listExtendWith (.ref s.heap.objs.size) (.ref S) (.ref s.heap.objs.size)) _ _ _
  generalize s.heap.push { cls := .type "list", data := .seq ([] : List Value).toArray } = H1 at *
  unfold Builtin.List.listExtendWith
  refine wpAny_bind (wpAny_typeOf hT1 ?_)
  have h1 : Builtin.List.listSameRef (.ref s.heap.objs.size) (.ref S) = false := by simp [Builtin.List.listSameRef]; exact Nat.ne_of_gt hSl
  have e2 : (Value.type "set" == Value.type "list") = false := by decide
  have e3 : (Value.type "set" == Value.type "tuple") = false := by decide
  simp only [h1, e2, e3, Bool.or_false, Bool.false_eq_true, if_false]
  refine wpAny_bind (iter_set hS1 hpl h2 hb fun s' I fp ord St hperm W hst hfp hI hge hk g1 g2 => ?_)
  refine wpAny_bind (wpAny_holding ?_)
  have hT2 : s'.TypeIs (.ref S) "set" := ⟨o1, hk _ _ ho1, hex1.1⟩
  unfold Builtin.List.listLengthHint
  refine wpAny_bind (wpAny_specialOf hT2 len_slot_set ?_)
  wp_delta
  refine wpAny_bind (wpAny_isInstance (b := true) hT2 (by rw [isSubtype_type]; kernel_rfl) ?_)
  show wpAny _ A.in1 (typeOf (Value.ref S) >>= _) _ _ _
  refine wpAny_bind (wpAny_typeOf hT2 ?_)
  refine wpAny_pure ?_
  rw [if_pos (by decide)]
  refine wpAny_bind (wpAny_rule ?_)
  refine wpAny_bind ?_
  have hL2 := hk _ _ hL
  show wpAny _ A.in1 (updateSeq s.heap.objs.size (·.push .none) >>= fun _ => updateSeq s.heap.objs.size (·.pop)) _ _ _
  refine wpAny_bind (wpAny_updateSeq hL2 rfl ?_)
  have hL3 := Heap.get?_update_self (Obj.mapSeq (·.push Value.none)) hL2 rfl
  refine wpAny_updateSeq hL3 rfl ?_
  have hL4 := Heap.get?_update_self (Obj.mapSeq (·.pop)) hL3 rfl
  have hSf : s.heap.objs.size ∉ fp := fun hm => by
    obtain ⟨_, q | q⟩ := hfp _ hm
    · rw [← q] at hSl; exact absurd hSl (Nat.lt_irrefl _)
    · rw [hz] at q; exact absurd q (Nat.not_le.mpr (Nat.lt_succ_self _))
  have oth : ∀ b o, b ≠ s.heap.objs.size → s'.heap.get? b = some o → ((s'.heap.update s.heap.objs.size (Obj.mapSeq (·.push Value.none))).update s.heap.objs.size (Obj.mapSeq (·.pop))).get? b = some o :=
    fun b o hb e => (Heap.get?_update_other _ _ (Ne.symm hb)).trans ((Heap.get?_update_other _ _ (Ne.symm hb)).trans e)
  have hh1 : A.in1.handled = none := by simp [hh]
  have W1 := W A.in1 hh1
  refine wpAny_pure ⟨plainId_quiet F.plain_extend_loop _, codeAny_extend_loopS W1 (fits_of_scanBound hb) _ hSf _ es.size 0 _ _ _ rfl (Nat.zero_le _)
    (W1.frame 0 s' _ s'.toks hst (Nat.le_refl _) fun b hb o e => oth b o (fun h => hSf (h ▸ hb)) e) hL4 (ItemsOf.nil _) fun s2 acc' c' hm hS' hacc => ?_⟩
  show wpAny _ A (load s.heap.objs.size >>= _) _ _ s2
  refine wpAny_bind (wpAny_load hS' ?_)
  have eacc : acc'.toList = ord := by
    have hol : ord.length = es.size := by rw [hperm.length_eq, List.length_map, Array.length_toList]
    refine List.ext_getElem? fun i => ?_
    by_cases hi : i < es.size
    · have hi2 : i < acc'.size := by rw [hacc.1]; exact hi
      have := hacc.2 i acc'[i] (by simp [hi2])
      rw [this]
      simp [hi2]
    · rw [List.getElem?_eq_none (by rw [Array.length_toList, hacc.1]; omega), List.getElem?_eq_none (by omega)]
  refine wpAny_pure ?_
  show Q acc'.toList s2
  rw [eacc]
  refine hQ s2 ord hperm (Nat.le_of_lt (Heap.lt_size hS')) (fun b o' e => ?_) (hm.gens.trans g1) (hm.os.trans g2)
  have hlt := Heap.lt_size e
  refine hm.heap b o' (fun hb => ?_) (oth b o' (Nat.ne_of_lt hlt) (hk _ _ (hold _ _ e)))
  rcases List.mem_cons.mp hb with q | q
  · rw [q] at hlt; exact absurd hlt (Nat.lt_irrefl _)
  · rw [List.mem_singleton.mp q] at hlt
    rw [hz] at hge
    exact absurd (Nat.lt_trans hlt (Nat.lt_of_lt_of_le (Nat.lt_succ_self _) hge)) (Nat.lt_irrefl _)
end
end L2
namespace L2
open PySem PySem.Spec PyProof.Rows
section
variable {prog : Program} {w : World} {E : Value → Shared → Prop} {s : Shared} {S : Addr} {ep : Nat} {es : Array (Int × Value)} {t : SetTable}
set_option maxHeartbeats 0 in
theorem sorted_set {A : Around} {Q : Value → Shared → Prop} (hh : A.handled = none) (hS : SetAt s.heap S es ep t) (hpl : t.plain = false) (h2 : 1 < es.size) (h64 : es.size < 64) (hel : ElemsOf (PySem.strKind prog w) es.toList)
    (h : ∀ (s' : Shared) (L : Addr) (out : Array Value) (ss : List Str) (n : Nat), StrsAre out.toList ss → ss.Perm (es.toList.map fun e => strOf e.2) → s'.heap.get? L = some (seqObj "list" out n) → s.heap.objs.size ≤ L → (∀ b o, s.heap.get? b = some o → s'.heap.get? b = some o) → s'.gens = s.gens → s'.os = s.os → Q (.ref L) s') :
    wpAny (model prog w) A (call (.builtin "sorted") [.ref S]) Q E s := by
  refine Calls.call_function_entry kind_sorted plain_sorted entry_sorted (args_sorted1 _) ?_
  unfold Builtin.«sorted»
  refine wpAny_bind (m := checkCount "sorted" 1 1 _) (wpAny_pure ?_)
  have hb : es.size < scanBound := by unfold scanBound; omega
  refine wpAny_bind (collect_set (by simp [hh]) hS hpl h2 hb fun s' ord hperm hge hk g1 g2 => ?_)
  have hol : ord.length = es.size := by rw [hperm.length_eq, List.length_map, Array.length_toList]
  have hstr : ∀ v, v ∈ ord → ∃ x t, v = .str x t := fun v hv => by
    obtain ⟨e, he, rfl⟩ := List.mem_map.mp (hperm.mem_iff.mp hv)
    obtain ⟨⟨k, hk, _⟩, _⟩ := hel e he
    obtain ⟨t, e⟩ := PySem.Value.isStrOf_shape hk
    exact ⟨k, t, e⟩
  have hSA := strsAre_map ord hstr
  refine wpAny_bind (wpAny_newList ?_ (by rw [hol]; exact fits_of_scanBound hb))
  have hoL : (s'.heap.push (seqObj "list" ord.toArray 0)).get? s'.heap.objs.size = some (seqObj "list" ord.toArray 0) := Heap.get?_push_size _ rfl
  show wpAny _ _ _ _ _ { s' with heap := s'.heap.push (seqObj "list" ord.toArray 0) }
  refine wpAny_bind (wpAny_holding (wpAny_call_entry slot_list_sort ⟨_, hoL, rfl⟩ entry_list_sort (list_sort_treeK strKind_oneLt hoL hSA.keysOf (fun v₁ v₂ rest e => keyKind_strs (by rw [← e]; exact hSA)) (by omega) fun st' a1 a2 => ⟨_, rfl, ?_⟩) (args_list_sort _)))
  obtain ⟨ss, b1, b2, _⟩ := sorted_out_str hSA a1 a2
  obtain ⟨n, hn⟩ := sortedHeap_at (out := (arrOf st').map (·.2)) hoL
  refine wpAny_pure ⟨_, rfl, h _ _ _ ss n b1 (b2.trans ?_) hn hge (fun b o e => ?_) g1 g2⟩
  · rw [show (es.toList.map fun e => strOf e.2) = (es.toList.map (·.2)).map strOf by rw [List.map_map]; rfl]
    exact hperm.map _
  · have e' := hk b o e
    have hlt := Heap.lt_size e'
    rw [sortedHeap_old (Nat.ne_of_lt hlt) (by rw [size_push']; exact Nat.lt_succ_of_lt hlt)]
    exact Heap.get?_push_of_some _ e'
end
def setW (P : Program) (w : World) (p : Addr) (xs : List Str) : HO := .ext fun h => SetP P w h p xs
theorem setW_ok {P : Program} {w : World} {H : Hp} {h : Heap} {p : Addr} {xs : List Str} (hS : SetP P w h p xs) : ObjOk P w H h p (setW P w p xs) := by
  refine ⟨hS, ?_, fun h1 h2 q k => ?_⟩
  · obtain ⟨o, _, _, _, e, _⟩ := hS
    exact ⟨o, e⟩
  · obtain ⟨o, es, ep, t, e, r⟩ := q
    exact ⟨o, es, ep, t, k o e, r⟩
theorem Inv.draw {X : Cx} {pins : List (Addr × Obj)} {σ : List (Option V)} {H : Hp} {s : Shared} (I : Inv X pins σ H s) (d : Drawn) : Inv X pins σ H { s with drawn := d } := ⟨I.ok, I.os, I.bare, I.base, I.loc, I.cell, I.free, I.freeC, I.pin, I.hok, I.len⟩
theorem sh_eq {s s' : Shared} (g : s'.gens = s.gens) (o : s'.os = s.os) : s' = { { s with heap := s'.heap, toks := s'.toks } with drawn := s'.drawn } := by
  cases s; cases s'; simp_all
section
variable {X : Cx}
theorem call_set_text (hc : X.calm = true) : CallR X (.type "set") (fun vs H Q => ∃ x : Str, vs = [.str x] ∧ x.length + 1 < scanBound ∧ ∀ q, H q = none → Q (.ref q) (upd H q (setW X.prog X.w q (sgns x)))) := by
  intro pins s σ H vs us Q I r h
  obtain ⟨x, rfl, hb, q⟩ := h
  obtain ⟨u, rfl, ⟨t, rfl⟩⟩ := vals1 r
  refine set_of_text (I.ok.hd hc) hb fun s' hS g1 g2 g3 hk => ?_
  refine ⟨.ref _, _, ?_, rfl, q _ I.fresh⟩
  rw [sh_eq g1 g3]
  exact (I.laid (t' := s'.toks) (h' := s'.heap) hk (Nat.le_refl _) (setW_ok hS)).draw s'.drawn
theorem strs_vals : ∀ {vs : List Value} {ss : List Str}, StrsAre vs ss → Vals (ss.map V.str) vs := by
  intro vs ss h
  induction h with
  | nil => exact .nil
  | cons => rename_i ih; exact .cons ⟨_, rfl⟩ ih
theorem call_sorted_set (hc : X.calm = true) : CallR X (.builtin "sorted") (fun vs H Q => ∃ (p : Addr) (xs : List Str), vs = [.ref p] ∧ H p = some (setW X.prog X.w p xs) ∧ 2 ≤ (dd xs).length ∧ (dd xs).length < 64 ∧
    ∀ (q : Addr) (ys : List Str), H q = none → ys.length = (dd xs).length → (∀ y ∈ ys, y ∈ xs) → Q (.ref q) (upd H q (.lst (ys.map V.str)))) := by
  intro pins s σ H vs us Q I r h
  obtain ⟨p, xs, rfl, hp, h2, h64, q⟩ := h
  obtain ⟨u, rfl, ru⟩ := vals1 r
  cases ru
  obtain ⟨hS, _, _⟩ := I.hok p _ hp
  obtain ⟨o, es, ep, t, ho, hex, hd, hel, hmem, hb, hf, hn, hpl⟩ := (show SetP X.prog X.w s.heap p xs from hS)
  have hpl' : t.plain = false := hpl.resolve_right (by omega)
  refine sorted_set (I.ok.hd hc) ⟨o, ho, hex, hd, hf⟩ hpl' (by omega) (by omega) hel fun s' L out ss n a1 a2 hL hge hk g1 g2 => ?_
  have hsl : ss.length = (dd xs).length := by rw [a2.length_eq, List.length_map, Array.length_toList, hn]
  have hol : out.toList.length = ss.length := by have := (strs_vals a1).length; rw [List.length_map] at this; exact this.symm
  have big : (64 : Nat) ≤ sizeLine := by rw [sizeLine_eq]; decide
  refine ⟨.ref L, _, ?_, rfl, q L ss (I.hok.fresh hge) hsl fun y hy => ?_⟩
  · rw [sh_eq g1 g2]
    refine (I.laid (t' := s'.toks) (h' := s'.heap) hk hge ?_).draw s'.drawn
    exact ⟨by rw [List.length_map]; omega, out.toList, n, strs_vals a1, by simpa using hL⟩
  · obtain ⟨e, he, rfl⟩ := List.mem_map.mp (a2.mem_iff.mp hy)
    obtain ⟨⟨k, hk', _⟩, _⟩ := hel e he
    obtain ⟨t', e'⟩ := PySem.Value.isStrOf_shape hk'
    have : strOf e.2 = k := by rw [e']; rfl
    rw [this]
    exact of_decide_eq_true ((hmem k).mpr ⟨e, he, hk'⟩)
end
end L2
namespace T1
open PySem L2 PyProof.Rows
section
variable {X : Cx} {pins : List (Addr × Obj)} {σ : L2.St} {H : Hp} {s : Shared} {z z' : Addr}
end
end T1
namespace L2
open PySem PySem.Spec PyProof.Rows
section
variable {κ : Type} [DecidableEq κ]
end
section
variable {P : Program} {w : World} {H : Hp} {h : Heap} {a : Addr}
end
section
variable {X : Cx} {pins : List (Addr × Obj)} {σ : St} {H : Hp} {s : Shared} {a : Addr} {y v : V} {u r : Value} {o : Option V} {A : Around} {E : Value → Shared → Prop}
end
section
variable {X : Cx} {pins : List (Addr × Obj)} {σ : St} {H : Hp} {s : Shared} {a : Addr} {kvs : List (Key × V)} {k : Key} {u : Value} {A : Around} {E : Value → Shared → Prop}
end
section
variable {X : Cx} {o i e value : Expr} {pos pos' tpos : Pos} {td ty tv : TE}
end
section
variable {X : Cx} {pos : Pos}
end
section
variable {X : Cx} {pins : List (Addr × Obj)} {σ : St} {H : Hp} {s : Shared} {a : Addr} {y d : V} {u r : Value} {o : Option V} {A : Around} {E : Value → Shared → Prop}
end
section
variable {X : Cx} {o e f : Expr} {apos cpos : Pos} {td ty tx : TE}
end
section
variable {X : Cx} {pins : List (Addr × Obj)} {σ : St} {H : Hp} {s : Shared} {a : Addr} {kvs : List (Key × V)} {A : Around} {E : Value → Shared → Prop}
end
section
variable {X : Cx} {pins : List (Addr × Obj)} {σ : St} {H : Hp} {s : Shared} {a : Addr} {y : V} {u : Value} {A : Around} {E : Value → Shared → Prop}
end
end L2
namespace L2
open PySem PySem.Spec PyProof.Rows
section
variable {κ : Type} [DecidableEq κ]
end
end L2
namespace L2
open PySem PySem.Spec PyProof.Rows
section
variable {P : Program} {w : World} {A : Around} {X : Value → Shared → Prop} {s : Shared} {b : Array Keyed}
end
theorem mt_join {X : Cx} : MtR X "str.join" (fun x vs H Q => ∃ (sep : Str) (l : Addr) (xs : List Str), x = .str sep ∧ vs = [.ref l] ∧ SqL X.K H l (xs.map V.str) ∧ xs.length ≤ 20000 ∧ sep.length ≤ 100 ∧ (∀ y ∈ xs, y.length ≤ 100) ∧ Q (.str (PySem.Builtin.Str.glued sep xs)) H) := by
  intro pins s σ H x vs v us Q I rx rv h
  obtain ⟨sep, l, xs, rfl, rfl, hl, h1, hsep, hz, q⟩ := h
  obtain ⟨t, rfl⟩ := rx
  obtain ⟨u, rfl, ru⟩ := rv.one
  cases ru
  obtain ⟨its, r, pl, _⟩ := I.list hl
  obtain ⟨e1, e2⟩ := vals_strOf r
  have e3 := strValues_of e2
  have e4 : (its.map fun u => (strOf u, tokOf u)).map (·.1) = xs := by rw [List.map_map, ← e1]; rfl
  have hI : s.heap.IsList l (strValues (its.map fun u => (strOf u, tokOf u))).toArray := by rw [← e3]; exact pl.isList
  have fits : PySem.Builtin.Str.tooLong ((xs.toArray.foldl (fun a y => a + y.length + sep.length) 0)) = false :=
    StrLaws.joinFits (B := 100) hz (by have : xs.length * sep.length ≤ 20000 * 100 := Nat.mul_le_mul h1 hsep; omega)
  refine call_meets F.slot_str_join (typeIs_str s sep t) F.entry_str_join (F.args_str_join_2 _ _) (meets_str_join_list sep t l (its.map fun u => (strOf u, tokOf u)) (by rw [e4]; exact fits)) ⟨hI, ?_⟩
  generalize its.map (fun u => (strOf u, tokOf u)) = ps at e4
  match ps, e4 with
  | [], e4 =>
    subst e4
    exact ⟨by show (0 : Nat) ≤ _; exact Nat.zero_le _, ⟨.str _, H, I.tok _, ⟨_, rfl⟩, q⟩⟩
  | [p], e4 =>
    subst e4
    exact ⟨.str _, H, I, ⟨_, rfl⟩, q⟩
  | p :: p2 :: r', e4 =>
    subst e4
    exact ⟨joinFit_length fits, ⟨.str _, H, I.tok _, ⟨_, rfl⟩, q⟩⟩
end L2
namespace L2
open PySem PySem.Spec PyProof.Rows
end L2
namespace L2
open PySem PySem.Spec PyProof.Rows
section
variable {X : Cx}
end
section
variable {X : Cx} {sc : Scope} {cl : List (Str × Addr)} {N' : List Str} {s : Shared} {H : Hp} {fp : List Addr}
end
end L2
namespace L2
open PySem PySem.Spec PyProof.Rows
theorem bd1 {α : Type} {f g : List Value → α} (h : ∀ a, f [a] = g [a]) : ∀ us : List Value, us.length = 1 → f us = g us
  | [a], _ => h a
theorem bd2 {α : Type} {f g : List Value → α} (h : ∀ a b, f [a, b] = g [a, b]) : ∀ us : List Value, us.length = 2 → f us = g us
  | [a, b], _ => h a b
theorem bd3 {α : Type} {f g : List Value → α} (h : ∀ a b c, f [a, b, c] = g [a, b, c]) : ∀ us : List Value, us.length = 3 → f us = g us
  | [a, b, c], _ => h a b c
theorem bd4 {α : Type} {f g : List Value → α} (h : ∀ a b c d, f [a, b, c, d] = g [a, b, c, d]) : ∀ us : List Value, us.length = 4 → f us = g us
  | [a, b, c, d], _ => h a b c d
theorem bd5 {α : Type} {f g : List Value → α} (h : ∀ a b c d e, f [a, b, c, d, e] = g [a, b, c, d, e]) : ∀ us : List Value, us.length = 5 → f us = g us
  | [a, b, c, d, e], _ => h a b c d e
end L2
namespace T1
open PySem L2
def plainC (c : Nat) : Bool := decide (33 ≤ c) && decide (c ≤ 126) && !decide (c = 37)
def escD : D → Bool
  | .str x => decide (x.length ≤ 1) && (decide (x.length = 0) || plainC (x.cps.getD 0 0))
  | _ => false
def markS (x : Str) : Bool := decide (1 ≤ x.length) && decide (x.length ≤ 4) && x.cps.toList.all fun c => decide (c = 10) || plainC c
section
variable {P : Program} {w : World} {K : PySem.W.Frag} {mg : Str → Option Value} {base : Heap}
end
end T1
namespace T1
open PySem L2
section
variable {P : Program} {w : World} {K : PySem.W.Frag} {mg : Str → Option Value} {base : Heap}
instance : Inhabited D := ⟨.non⟩
end
end T1
namespace L2
open PySem PySem.Spec PyProof.Rows
end L2
namespace T1
open PySem L2
abbrev Dr := Str × Int × Str
abbrev Tg := Str × List Dr
abbrev Bk := List Tg
def drD (d : Dr) : D := .tup [.str d.1, .int d.2.1, .str d.2.2]
def tgD (t : Tg) : D := .tup [.str t.1, .tup (t.2.map drD)]
def bkD (b : Bk) : D := .tup (b.map tgD)
def DrOk (n : Int) (d : Dr) : Prop := markS d.1 = true ∧ (0 ≤ d.2.1 ∧ d.2.1 < n) ∧ markS d.2.2 = true
def TgOk (n : Int) (t : Tg) : Prop := escD (.str t.1) = true ∧ t.2.length ≤ 6 ∧ ∀ d ∈ t.2, DrOk n d
section
variable {z : Addr} {H : Hp}
theorem rep_door {v : V} {d : Dr} (r : Rep z H v (drD d)) : ∃ a, v = .ref a ∧ a ≠ z ∧ H a = some (.tup [.str d.1, .int d.2.1, .str d.2.2]) := by
  cases r with
  | tup h hz r =>
    cases r with
    | cons r1 r =>
      cases r with
      | cons r2 r =>
        cases r with
        | cons r3 r =>
          cases r
          cases r1
          cases r2
          cases r3
          exact ⟨_, rfl, hz, h⟩
theorem rep_doors {v : V} {ds : List Dr} (r : Rep z H v (.tup (ds.map drD))) : ∃ a xs, v = .ref a ∧ a ≠ z ∧ H a = some (.tup xs) ∧ xs.length = ds.length ∧ Reps z H xs (ds.map drD) := by
  cases r with
  | tup h hz r => exact ⟨_, _, rfl, hz, h, by have := r.length; simpa using this, r⟩
theorem rep_tongue {v : V} {t : Tg} (r : Rep z H v (tgD t)) : ∃ a b xs, v = .ref a ∧ a ≠ z ∧ b ≠ z ∧ H a = some (.tup [.str t.1, .ref b]) ∧ H b = some (.tup xs) ∧ xs.length = t.2.length ∧ Reps z H xs (t.2.map drD) := by
  cases r with
  | tup h hz r =>
    cases r with
    | cons r1 r =>
      cases r with
      | cons r2 r =>
        cases r
        cases r1
        obtain ⟨b, xs, rfl, hb, h2, h3, h4⟩ := rep_doors r2
        exact ⟨_, b, xs, rfl, hz, hb, h, h2, h3, h4⟩
theorem rep_book {v : V} {b : Bk} (r : Rep z H v (bkD b)) : ∃ a xs, v = .ref a ∧ a ≠ z ∧ H a = some (.tup xs) ∧ xs.length = b.length ∧ Reps z H xs (b.map tgD) := by
  cases r with
  | tup h hz r => exact ⟨_, _, rfl, hz, h, by have := r.length; simpa using this, r⟩
theorem reps_door {xs : List V} {ds : List Dr} {i : Nat} (r : Reps z H xs (ds.map drD)) (hi : i < ds.length) : Rep z H (xs.getD i .non) (drD (ds.getD i (⟨#[]⟩, 0, ⟨#[]⟩))) := by
  have := r.get (i := i) (by simpa using hi)
  simpa [hi] using this
theorem reps_tongue {xs : List V} {b : Bk} {i : Nat} (r : Reps z H xs (b.map tgD)) (hi : i < b.length) : Rep z H (xs.getD i .non) (tgD (b.getD i (⟨#[]⟩, []))) := by
  have := r.get (i := i) (by simpa using hi)
  simpa [hi] using this
end
def opensOf (ds : List Dr) : List Str := ds.map (·.1)
section
variable {P : Program} {w : World} {K : PySem.W.Frag} {mg : Str → Option Value} {base : Heap}
end
end T1
namespace T1
open PySem L2
abbrev dr0 : Dr := (⟨#[]⟩, 0, ⟨#[]⟩)
abbrev tg0 : Tg := (⟨#[]⟩, [])
def marksT (ds : List Dr) : List Str := ds.flatMap fun d => [d.1, d.2.2]
def marksB (b : Bk) : List Str := b.flatMap fun t => marksT t.2
section
variable {P : Program} {w : World} {K : PySem.W.Frag} {mg : Str → Option Value} {base : Heap}
end
end T1
namespace L2
open PySem PySem.Spec PyProof.Rows
end L2
namespace T1
open PySem L2
theorem getD_mem {α : Type} {xs : List α} {i : Nat} (d : α) (h : i < xs.length) : xs.getD i d ∈ xs := by
  have : xs.getD i d = xs[i] := by simp [h]
  rw [this]
  exact List.getElem_mem h
def escIn (es : List Str) (m : Str) : Bool := m.cps.toList.any fun c => es.any fun e => e == (⟨#[c]⟩ : Str)
def escB (b : Bk) : Bool := (marksB b).any (escIn (b.map (·.1)))
section
variable {P : Program} {w : World} {K : PySem.W.Frag} {mg : Str → Option Value} {base : Heap}
end
end T1
namespace L2
open PySem PySem.Spec PyProof.Rows
theorem pe_bmB {X : Cx} {sc : Scope} {cl : List (Str × Addr)} {N' : List Str} {s : Shared} {H : Hp} {fp : List Addr} {o e : Expr} {es : List Expr} {to : TE} {t : TA} {name : Str} {apos cpos : Pos} {T id : String} {r : V → List V → Hp → VK → Prop} (pa : PlainAttrs T) (slot : Slot T name id) (hty : typeOf (.builtin id) = pure (.type "method_descriptor")) (hm : MtR (X.blk sc cl N' s H fp) id r) (ho : PE (X.blk sc cl N' s H fp) o to) (ha : PA (X.blk sc cl N' s H fp) (e :: es) t)
    (hbase : attributeBase o name (X.blk sc cl N' s H fp).env (eval o (X.blk sc cl N' s H fp).env) = eval o (X.blk sc cl N' s H fp).env := by rfl)
    (hfew : ((backTo cpos (starEach (e :: es) (X.blk sc cl N' s H fp).env)).all (fun x => !x.1) && (backToKw cpos (keywordEach [] (X.blk sc cl N' s H fp).env)).all (fun x => x.1.isSome)
      && decide ((e :: es).length + ([] : List Keyword).length + (if ([] : List Keyword).isEmpty then 0 else 1) < 30)) = true := by rfl)
    (hline : (apos.endLine == cpos.line) = true := by rfl) (hs : starEach (e :: es) (X.blk sc cl N' s H fp).env = (false, eval e (X.blk sc cl N' s H fp).env) :: starEach es (X.blk sc cl N' s H fp).env := by rfl) (hplain : (backTo cpos (starEach es (X.blk sc cl N' s H fp).env)).any (·.1) = false := by rfl) :
    PE (X.blk sc cl N' s H fp) (.Call (.Attribute o name apos) (e :: es) [] cpos) (tBM X.K T r to t) := pe_bm pa slot hty hm ho ha hbase hfew hline hs hplain
end L2
namespace T1
open PySem L2
def closesT (ds : List Dr) (t : Int) : List Str := ds.filterMap fun d => if d.2.1 = t then some d.2.2 else none
def closesB (b : Bk) (t : Int) : List Str := b.flatMap fun g => closesT g.2 t
def behindB (b : Bk) (t : Nat) : Bool := (b.getD t tg0).2.any fun d => (closesB b t).any fun c => stAt d.1 c 0
section
variable {P : Program} {w : World} {K : PySem.W.Frag} {mg : Str → Option Value} {base : Heap}
end
end T1
namespace T1
open PySem L2
def bookB (b : Bk) : Bool := (b.all fun t => decide (opensOf t.2).Nodup) && !escB b && !((List.range b.length).any fun t => behindB b t)
section
variable {P : Program} {w : World} {K : PySem.W.Frag} {mg : Str → Option Value} {base : Heap}
end
end T1
namespace T1
open PySem L2
section
variable {P : Program} {w : World} {K : PySem.W.Frag} {mg : Str → Option Value} {base : Heap}
theorem flatN_nil {f : Nat → Option V} : ∀ n, (flatN (fun i => (f i).toList) n).isEmpty = (List.range n).all fun i => (f i).isNone
  | 0 => rfl
  | n + 1 => by
    rw [List.range_succ, List.all_append, ← flatN_nil n]
    simp only [flatN, List.all_cons, List.all_nil, Bool.and_true]
    cases f n <;> simp
end
end T1
namespace T1
open PySem L2
section
variable {P : Program} {w : World} {K : PySem.W.Frag} {mg : Str → Option Value} {base : Heap}
theorem escD_cases (x : Str) (h : x.length ≤ 1) : (x = Str.ofString "" ∧ escD (.str x) = true) ∨ ∃ c, x = ⟨#[c]⟩ ∧ escD (.str x) = plainC c := by
  obtain ⟨cs⟩ := x
  have h : cs.size ≤ 1 := h
  by_cases h0 : cs.size = 0
  · have : cs = #[] := Array.eq_empty_of_size_eq_zero h0
    subst this
    exact .inl ⟨by decide +kernel, by decide +kernel⟩
  · obtain ⟨c, hc⟩ := Array.size_eq_one_iff.mp (show cs.size = 1 by omega)
    subst hc
    exact .inr ⟨c, rfl, rfl⟩
end
end T1
namespace T1
open PySem L2
def Bag (z : Addr) (H : Hp) : Prop := ∃ c s : Int, H z = some (.lst [.int c, .int s])
def Aft (z : Addr) (H H' : Hp) : Prop := SameX z H H' ∧ Bag z H'
theorem Aft.trans {z : Addr} {H H1 H2 : Hp} (a : Aft z H H1) (b : Aft z H1 H2) : Aft z H H2 := ⟨a.1.trans b.1, b.2⟩
theorem Aft.same {z : Addr} {H H1 H2 : Hp} (a : Aft z H H1) (b : Same H1 H2) : Aft z H H2 := ⟨a.1.trans b.x, let ⟨c, s, h⟩ := a.2; ⟨c, s, b _ _ h⟩⟩
theorem Aft.refl {z : Addr} {H : Hp} (h : Bag z H) : Aft z H H := ⟨.refl, h⟩
inductive spTake : List V → Hp → VK → XK → Prop where
  | mk {vs : List V} {H : Hp} {Q : VK} {E : XK} (z : _) (n : Int) (c1 : vs = [.ref z, .int n]) (c2 : Bag z H) (c3 : 0 < n) (c4 : n < 1000000) (c5 : ∀ (r : Nat) H', (r : Int) < n → Aft z H H' → Q (.int r) H') : spTake vs H Q E
section
variable {P : Program} {w : World} {K : PySem.W.Frag} {mg : Str → Option Value} {base : Heap}
structure Txt2 (mg : Str → Option Value) : Prop where
  list : mg "list" = none
  set : mg "set" = none
  min : mg "min" = none
inductive spBag (K : PySem.W.Frag) : List V → Hp → VK → XK → Prop where
  | mk {vs : List V} {H : Hp} {Q : VK} {E : XK} (a : _) (ns : List Int) (i : Nat) (c1 : vs = [.ref a, .int i]) (c2 : SqL K H a (ns.map V.int)) (c3 : i ≤ 100) (c4 : ∀ p H', H p = none → Same H H' → Bag p H' → Q (.ref p) H') : spBag K vs H Q E
end
end T1
namespace T1
open PySem L2
def signsOk (x : Str) : Prop := ∀ c ∈ x.cps.toList, (decide (c = 10) || plainC c) = true
inductive spMk : List V → Hp → VK → XK → Prop where
  | mk {vs : List V} {H : Hp} {Q : VK} {E : XK} (z x : _) (c1 : vs = [.ref z, .str x]) (c2 : Bag z H) (c3 : 1 ≤ x.length) (c4 : x.length ≤ 100) (c5 : signsOk x) (c6 : ∀ m H', markS m = true → (∀ c ∈ m.cps.toList, c ∈ x.cps.toList) → Aft z H H' → Q (.str m) H') : spMk vs H Q E
section
variable {P : Program} {w : World} {K : PySem.W.Frag} {mg : Str → Option Value} {base : Heap}
theorem str_len_append (x y : Str) : (x ++ y).length = x.length + y.length := by
  show (x.cps ++ y.cps).size = _
  rw [Array.size_append]; rfl
theorem str_list_append (x y : Str) : (x ++ y).cps.toList = x.cps.toList ++ y.cps.toList := by
  show (x.cps ++ y.cps).toList = _
  rw [Array.toList_append]
end
end T1
namespace T1
open PySem L2
def inEsc (e : Str) (d : Dr) : Bool := !(Builtin.Str.occurrences (d.1 ++ Str.ofString " " ++ d.2.2) e 0 (d.1 ++ Str.ofString " " ++ d.2.2).length 1).isEmpty
def fit1 (t o : Tg) : Bool := !((!decide (V.str t.1 = V.str (Str.ofString ""))) && o.2.any (inEsc t.1))
def fit3 (b : Bk) (d : Dr) : Bool := !((b.getD d.2.1.toNat tg0).2.any fun o => stAt o.1 d.2.2 0)
def fitT (b : Bk) (t : Tg) : Bool := b.all (fit1 t) && decide (opensOf t.2).Nodup && t.2.all (fit3 b)
def fitsB (b : Bk) : Bool := b.all (fitT b)
theorem all_of {α : Type} (xs : List α) (d : α) (p : α → Bool) (h : ∀ j, j < xs.length → p (xs.getD j d) = true) : xs.all p = true := by
  rw [List.all_eq_true]
  intro x hx
  obtain ⟨i, hi, rfl⟩ := List.mem_iff_getElem.mp hx
  have := h i hi
  simpa [hi] using this
theorem all_no {α : Type} (xs : List α) (d : α) (p : α → Bool) {i : Nat} (hi : i < xs.length) (h : p (xs.getD i d) = false) : xs.all p = false := by
  rw [List.all_eq_false]
  refine ⟨xs[i], List.getElem_mem hi, ?_⟩
  have : xs.getD i d = xs[i] := by simp [hi]
  rw [← this, h]
  simp
theorem flt_empty {α : Type} (ds : List α) (d : α) (p : α → Bool) (g : Nat → V) {n : Nat} (hn : n = ds.length) : (flatN (fun i => (if p (ds.getD i d) then some (g i) else none).toList) n).isEmpty = !(ds.any p) := by
  subst hn
  rw [flatN_nil, Bool.eq_iff_iff, List.all_eq_true, Bool.not_eq_true', List.any_eq_false]
  constructor
  · intro h x hx hp
    obtain ⟨i, hi, rfl⟩ := List.mem_iff_getElem.mp hx
    have h2 := h i (List.mem_range.mpr hi)
    have e : ds.getD i d = ds[i] := by simp [hi]
    rw [e, if_pos hp] at h2
    cases h2
  · intro h i hi
    have hi := List.mem_range.mp hi
    have h2 := h ds[i] (List.getElem_mem hi)
    have e : ds.getD i d = ds[i] := by simp [hi]
    rw [e, if_neg h2]
    rfl
theorem inEsc_iff {c : Nat} (hc : plainC c = true) (d : Dr) : inEsc ⟨#[c]⟩ d = true ↔ c ∈ d.1.cps.toList ∨ c ∈ d.2.2.cps.toList := by
  unfold inEsc
  rw [StrLaws.found_iff]
  have e : (d.1 ++ Str.ofString " " ++ d.2.2).cps.toList = d.1.cps.toList ++ [32] ++ d.2.2.cps.toList := by
    rw [str_list_append, str_list_append]
    have : (Str.ofString " ").cps.toList = [32] := by decide +kernel
    rw [this]
  have h32 : c ≠ 32 := by
    intro h
    subst h
    exact absurd hc (by decide)
  constructor
  · rintro ⟨i, h⟩
    have h2 := (StrLaws.subAt_one _ _ _).mp h
    rw [e] at h2
    have := List.mem_of_getElem? h2
    simp at this
    rcases this with h | h | h
    · exact .inl (by simpa using h)
    · exact absurd h h32
    · exact .inr (by simpa using h)
  · intro h
    have : c ∈ (d.1 ++ Str.ofString " " ++ d.2.2).cps.toList := by
      rw [e]
      simp
      rcases h with h | h
      · exact .inl (by simpa using h)
      · exact .inr (.inr (by simpa using h))
    obtain ⟨i, hi⟩ := List.mem_iff_getElem?.mp this
    exact ⟨i, (StrLaws.subAt_one _ _ _).mpr hi⟩
theorem escB_iff (b : Bk) : escB b = true ↔ ∃ t ∈ b, ∃ o ∈ b, ∃ d ∈ o.2, ∃ c, t.1 = ⟨#[c]⟩ ∧ (c ∈ d.1.cps.toList ∨ c ∈ d.2.2.cps.toList) := by
  unfold escB escIn marksB marksT
  simp only [List.any_eq_true, List.mem_flatMap, List.mem_cons, List.not_mem_nil, or_false, List.mem_map, beq_iff_eq]
  constructor
  · rintro ⟨m, ⟨o, ho, d, hd, hm⟩, c, hc, e, ⟨t, ht, rfl⟩, he⟩
    refine ⟨t, ht, o, ho, d, hd, c, he, ?_⟩
    rcases hm with rfl | rfl
    · exact .inl hc
    · exact .inr hc
  · rintro ⟨t, ht, o, ho, d, hd, c, he, h | h⟩
    · exact ⟨d.1, ⟨o, ho, d, hd, .inl rfl⟩, c, h, t.1, ⟨t, ht, rfl⟩, he⟩
    · exact ⟨d.2.2, ⟨o, ho, d, hd, .inr rfl⟩, c, h, t.1, ⟨t, ht, rfl⟩, he⟩
theorem str_empty : (Str.ofString "") = ⟨#[]⟩ := by decide +kernel
theorem fit1_no {n : Int} {b : Bk} (hb : ∀ t ∈ b, TgOk n t) : (∃ t ∈ b, b.all (fit1 t) = false) ↔ escB b = true := by
  rw [escB_iff]
  constructor
  · rintro ⟨t, ht, h⟩
    rw [List.all_eq_false] at h
    obtain ⟨o, ho, h⟩ := h
    unfold fit1 at h
    simp only [Bool.not_eq_true', Bool.not_eq_false, Bool.and_eq_true, decide_eq_false_iff_not, List.any_eq_true] at h
    obtain ⟨h1, d, hd, h2⟩ := h
    have h1' : t.1 ≠ Str.ofString "" := fun z => h1 (by rw [z])
    have hl : t.1.length ≤ 1 := by
      have := (hb t ht).1
      unfold escD at this
      simp at this
      exact this.1
    rcases escD_cases t.1 hl with ⟨ex, _⟩ | ⟨c, ex, ee⟩
    · exact absurd ex h1'
    · have hc : plainC c = true := by rw [← ee]; exact (hb t ht).1
      rw [ex] at h2
      exact ⟨t, ht, o, ho, d, hd, c, ex, (inEsc_iff hc d).mp h2⟩
  · rintro ⟨t, ht, o, ho, d, hd, c, ex, h⟩
    refine ⟨t, ht, ?_⟩
    rw [List.all_eq_false]
    refine ⟨o, ho, ?_⟩
    have hc : plainC c = true := by
      have := (hb t ht).1
      rw [ex] at this
      exact this
    unfold fit1
    simp only [Bool.not_eq_true', Bool.not_eq_false, Bool.and_eq_true, decide_eq_false_iff_not, List.any_eq_true]
    refine ⟨fun z => ?_, d, hd, ?_⟩
    · have z' : t.1 = Str.ofString "" := by injection z
      rw [ex, str_empty] at z'
      simp at z'
    · rw [ex]
      exact (inEsc_iff hc d).mpr h
theorem fit3_no {b : Bk} (hb : ∀ t ∈ b, TgOk b.length t) : (∃ t ∈ b, t.2.all (fit3 b) = false) ↔ ((List.range b.length).any fun t => behindB b t) = true := by
  unfold behindB closesB closesT
  simp only [List.any_eq_true, List.mem_range, List.mem_flatMap, List.mem_filterMap]
  constructor
  · rintro ⟨t, ht, h⟩
    rw [List.all_eq_false] at h
    obtain ⟨d, hd, h⟩ := h
    unfold fit3 at h
    simp only [Bool.not_eq_true', Bool.not_eq_false, List.any_eq_true] at h
    obtain ⟨o, ho, h⟩ := h
    obtain ⟨_, ⟨h1, h2⟩, _⟩ := (hb t ht).2.2 d hd
    refine ⟨d.2.1.toNat, by omega, o, ho, d.2.2, ⟨t, ht, d, hd, ?_⟩, h⟩
    rw [if_pos (by omega)]
  · rintro ⟨n, hn, o, ho, c, ⟨t, ht, d, hd, hdc⟩, h⟩
    split at hdc
    · rename_i e
      obtain rfl : d.2.2 = c := by simpa using hdc
      refine ⟨t, ht, ?_⟩
      rw [List.all_eq_false]
      refine ⟨d, hd, ?_⟩
      unfold fit3
      simp only [Bool.not_eq_true', Bool.not_eq_false, List.any_eq_true]
      refine ⟨o, ?_, h⟩
      rw [e]
      simpa using ho
    · cases hdc
theorem fits_book {b : Bk} (hb : ∀ t ∈ b, TgOk b.length t) : fitsB b = bookB b := by
  have h1 := fit1_no hb
  have h3 := fit3_no hb
  unfold bookB
  cases e1 : escB b with
  | true =>
    obtain ⟨t, ht, h⟩ := h1.mpr e1
    simp only [Bool.not_true, Bool.and_false, Bool.false_and]
    unfold fitsB
    rw [List.all_eq_false]
    refine ⟨t, ht, ?_⟩
    unfold fitT
    rw [h]
    simp
  | false =>
    cases e3 : ((List.range b.length).any fun t => behindB b t) with
    | true =>
      obtain ⟨t, ht, h⟩ := h3.mpr e3
      simp only [Bool.not_true, Bool.and_false]
      unfold fitsB
      rw [List.all_eq_false]
      refine ⟨t, ht, ?_⟩
      unfold fitT
      rw [h]
      simp
    | false =>
      simp only [Bool.not_false, Bool.and_true]
      unfold fitsB
      rw [Bool.eq_iff_iff, List.all_eq_true, List.all_eq_true]
      have a1 : ∀ t ∈ b, b.all (fit1 t) = true := fun t ht => by
        cases q : b.all (fit1 t) with
        | true => rfl
        | false => rw [h1.mp ⟨t, ht, q⟩] at e1; cases e1
      have a3 : ∀ t ∈ b, t.2.all (fit3 b) = true := fun t ht => by
        cases q : t.2.all (fit3 b) with
        | true => rfl
        | false => rw [h3.mp ⟨t, ht, q⟩] at e3; cases e3
      constructor
      · intro h t ht
        have := h t ht
        unfold fitT at this
        rw [a1 t ht, a3 t ht, Bool.true_and, Bool.and_true] at this
        exact this
      · intro h t ht
        unfold fitT
        rw [a1 t ht, a3 t ht, Bool.true_and, Bool.and_true]
        exact h t ht
end T1
namespace L2
open PySem PySem.Spec PyProof.Rows
def SqS (H : Hp) (a : Addr) (xs : List V) : Prop := H a = some (.tup xs) ∨ H a = some (.lst xs)
theorem SqS.same {H H' : Hp} {a : Addr} {xs : List V} (h : SqS H a xs) (s : Same H H') : SqS H' a xs := h.elim (fun h => .inl (s _ _ h)) fun h => .inr (s _ _ h)
theorem for_seq {K : PySem.W.Frag} {te te' : TE} {a : Addr} {xs : List V} {g : TG} {tb : TS} {D : Ends} {σ : St} {H : Hp} (h : SqS H a xs) (he : ∀ R : VK, R (.ref a) H → te σ H R) (he' : ∀ R : VK, R (.ref a) H → te' σ H R) (Pv : Nat → St → Hp → Prop) (h0 : Pv 0 σ H) (hl : ∀ i σ H', Pv i σ H' → Same H H')
    (hs : ∀ i x σ H, xs[i]? = some x → Pv i σ H → g x σ H fun σ2 H2 => tb { D with nx := Pv (i + 1), ct := Pv (i + 1), bk := D.nx } σ2 H2) (hd : ∀ σ H, Pv xs.length σ H → D.nx σ H) :
    tFor (fun σ H R => iTup K te σ H R ∨ iList K te' σ H R) g tb D σ H := by
  rcases h with h | h
  · exact .inl (he _ ⟨a, rfl, ⟨xs, SqT.of h⟩, for_tup (K := K) (a := a) (xs := xs) Pv h0 (fun i σ H' _ q => SqT.of (hl i σ H' q _ _ h)) hs hd⟩)
  · exact .inr (he' _ ⟨a, rfl, ⟨xs, SqL.of h⟩, for_list (K := K) (a := a) (xs := xs) Pv h0 (fun i σ H' _ q => SqL.of (hl i σ H' q _ _ h)) hs hd⟩)
theorem ix_of {K : PySem.W.Frag} {H : Hp} {a : Addr} {xs : List V} {j : Nat} {v : V} {Q : VK} (h : SqS H a xs) (hv : xs[j]? = some v) (q : Q v H) : rIx K (.ref a) (.int j) H Q := by
  rcases h with h | h
  · exact .inr (.inl ⟨a, xs, j, v, rfl, rfl, SqT.of h, atI_nat hv, q⟩)
  · exact .inl ⟨a, xs, j, v, rfl, rfl, SqL.of h, atI_nat hv, q⟩
end L2
namespace T1
open PySem L2
inductive spFits : List V → Hp → VK → XK → Prop where
  | mk {vs : List V} {H : Hp} {Q : VK} {E : XK} (z a xs b : _) (c1 : vs = [.ref a]) (c2 : SqS H a xs) (c3 : Reps z H xs (b.map tgD)) (c4 : b.length ≤ 7) (c5 : (∀ t ∈ b, TgOk b.length t)) (c6 : ∀ H', Same H H' → Q (.bl (fitsB b)) H') : spFits vs H Q E
theorem markS_len {x : Str} (h : markS x = true) : x.length ≤ 4 ∧ 1 ≤ x.length := by
  unfold markS at h
  simp only [Bool.and_eq_true, decide_eq_true_eq] at h
  omega
section
variable {P : Program} {w : World} {K : PySem.W.Frag} {mg : Str → Option Value} {base : Heap}
theorem ndDE : (["door", "escape"] : List Str).Nodup := by decide +kernel
theorem ndD : (["door"] : List Str).Nodup := by decide +kernel
theorem ndOD : (["one", "door"] : List Str).Nodup := by decide +kernel
end
end T1
namespace L2
open PySem PySem.Spec PyProof.Rows
section
variable {X : Cx}
def rCatX : R2 := fun x y H Q => ∃ a b xs ys, x = .ref a ∧ y = .ref b ∧ H a = some (.tup xs) ∧ H b = some (.tup ys) ∧ xs.length + ys.length ≤ sizeLine ∧ ∀ p H', Same H H' → H' p = some (.tup (xs ++ ys)) → Q (.ref p) H'
theorem op_catX : OpR X (binaryOp .Add) rCatX := by
  intro pins s σ H x y v u Q I rx ry h
  obtain ⟨a, b, xs, ys, rfl, rfl, ha, hb, hz, q⟩ := h
  by_cases hx : xs = []
  · subst hx
    cases rx
    cases ry
    obtain ⟨its, r1, p1, _⟩ := I.tuple (SqT.of ha)
    obtain ⟨its2, r2, p2, _⟩ := I.tuple (SqT.of hb)
    cases r1
    obtain ⟨⟨cls, dd, data, sl⟩, ho, hc, n, hd⟩ := id p1
    obtain ⟨⟨cls2, dd2, data2, sl2⟩, ho2, hc2, n2, hd2⟩ := id p2
    simp only at hc hd hc2 hd2
    subst hc hd hc2 hd2
    exact concat_meets ⟨_, ho, rfl⟩ ⟨_, ho2, rfl⟩ noFill_tuple_add seq_tuple_add PySem.F.slot_tuple_add PySem.F.entry_tuple_add (PySem.F.args_tuple_add_2 _ _)
      (tuple_addW0 a b _ its2.toArray n n2 dd dd2 sl sl2 (by simp)) ⟨ho, ho2, ⟨.ref b, H, I, rfl, q b H (Same.refl H) hb⟩⟩
  · refine op_catT pins s σ H _ _ v u Q I rx ry ⟨a, b, xs, ys, rfl, rfl, SqT.of ha, SqT.of hb, hx, hz, fun hy => ?_, fun hy p np => q p _ (Same.new np) upd_same⟩
    refine q a H (Same.refl H) ?_
    rw [hy, List.append_nil]
    exact ha
end
end L2
namespace HT
open PySem PySem.Spec PyProof.Rows L2
section
variable {prog : Program} {w : World} {A : Around} {E : Value → Shared → Prop} {s : Shared}
end
end HT
namespace L2
open PySem PySem.Spec PyProof.Rows
section
variable {X : Cx}
end
end L2
namespace L2
open PySem PySem.Spec PyProof.Rows
section
variable {X : Cx}
theorem loop_range {lo : Int} {n : Nat} {g : TG} {tr : TR} {Qe : St → Hp → Prop} {σ : St} {H : Hp} (Pv : Nat → St → Hp → Prop) (h0 : Pv 0 σ H) (hs : ∀ i σ H, i < n → Pv i σ H → g (.int (lo + i)) σ H fun σ2 H2 => tr σ2 H2 (Pv (i + 1))) (hd : ∀ σ H, Pv n σ H → Qe σ H) : tLoop (Itr lo n) g tYes tr Qe σ H := by
  refine ⟨fun i m σ H => m = n - i ∧ i ≤ n ∧ Pv i σ H, ⟨n, rfl, Nat.zero_le _, h0⟩, ?_⟩
  rintro i m σ H ⟨rfl, hi, p⟩
  by_cases hlt : i < n
  · refine .inr ⟨hlt, Pv (i + 1), fun σ' H' p' => ⟨n - (i + 1), by omega, rfl, hlt, p'⟩, fun x H' y => ?_⟩
    obtain ⟨e, y⟩ := y
    subst e y
    exact hs i σ _ hlt p
  · have e : i = n := by omega
    subst e
    exact .inl ⟨Nat.le_refl _, hd σ H p⟩
theorem loop_by {J : It} {n : Nat} {item : Nat → V} {g : TG} {tr : TR} {Qe : St → Hp → Prop} {σ : St} {H : Hp} (Pv : Nat → St → Hp → Prop) (h0 : Pv 0 σ H) (hgo : ∀ i σ H, i < n → Pv i σ H → J.go i H) (hst : ∀ σ H, Pv n σ H → J.stop n H) (hy : ∀ i σ H x H', i < n → Pv i σ H → J.yld i H x H' → H' = H ∧ x = item i)
    (hs : ∀ i σ H, i < n → Pv i σ H → g (item i) σ H fun σ2 H2 => tr σ2 H2 (Pv (i + 1))) (hd : ∀ σ H, Pv n σ H → Qe σ H) : tLoop J g tYes tr Qe σ H := by
  refine ⟨fun i m σ H => m = n - i ∧ i ≤ n ∧ Pv i σ H, ⟨n, rfl, Nat.zero_le _, h0⟩, ?_⟩
  rintro i m σ H ⟨rfl, hi, p⟩
  by_cases hlt : i < n
  · refine .inr ⟨hgo i σ H hlt p, Pv (i + 1), fun σ' H' p' => ⟨n - (i + 1), by omega, rfl, hlt, p'⟩, fun x H' y => ?_⟩
    obtain ⟨e, e2⟩ := hy i σ H x H' hlt p y
    subst e e2
    exact hs i σ _ hlt p
  · have e : i = n := by omega
    subst e
    exact .inl ⟨hst σ H p, hd σ H p⟩
end
end L2
namespace T1
open PySem L2
def mask (a : Addr) (H : Hp) : Hp := fun x => if x = a then none else H x
theorem mask_ne {a x : Addr} {H : Hp} (h : x ≠ a) : mask a H x = H x := if_neg h
theorem mask_upd {a : Addr} {H : Hp} {o : HO} : mask a (upd H a o) = mask a H := by
  funext x
  unfold mask upd
  by_cases h : x = a
  · rw [if_pos h, if_pos h]
  · rw [if_neg h, if_neg h, if_neg h]
theorem mask_some {a x : Addr} {H : Hp} {o : HO} (h : mask a H x = some o) : x ≠ a ∧ H x = some o := by
  unfold mask at h
  by_cases e : x = a
  · rw [if_pos e] at h; cases h
  · rw [if_neg e] at h; exact ⟨e, h⟩
theorem mask_x {a z : Addr} {H H' : Hp} (s : SameX z H H') : SameX z (mask a H) (mask a H') := fun b o hb h => by
  obtain ⟨h1, h2⟩ := mask_some h
  rw [mask_ne h1]
  exact s b o hb h2
theorem mask_le {a z : Addr} {H : Hp} : SameX z (mask a H) H := fun b o _ h => (mask_some h).2
theorem mask_new {a l z : Addr} {H H' : Hp} (hl : H l = none) (s : SameX z H H') : SameX z (mask a H) (mask l H') := fun b o hb h => by
  obtain ⟨h1, h2⟩ := mask_some h
  rw [mask_ne (ne_of_none h2 hl)]
  exact s b o hb h2
theorem Reps.set {z : Addr} {H : Hp} {v : V} {d : D} (r : Rep z H v d) : ∀ {vs : List V} {ds : List D} (i : Nat), Reps z H vs ds → Reps z H (vs.set i v) (ds.set i d)
  | _, _, _, .nil => .nil
  | _, _, 0, .cons _ t => .cons r t
  | _, _, i + 1, .cons h t => .cons h (Reps.set r i t)
theorem Reps.append {z : Addr} {H : Hp} : ∀ {vs ws : List V} {ds es : List D}, Reps z H vs ds → Reps z H ws es → Reps z H (vs ++ ws) (ds ++ es)
  | _, _, _, _, .nil, h => h
  | _, _, _, _, .cons a t, h => .cons a (Reps.append t h)
def LBk (z a : Addr) (b : Bk) (H : Hp) : Prop := a ≠ z ∧ ∃ vs, H a = some (.lst vs) ∧ Reps z (mask a H) vs (b.map tgD)
theorem LBk.aft {z a : Addr} {b : Bk} {H H' : Hp} (L : LBk z a b H) (s : SameX z H H') : LBk z a b H' := by
  obtain ⟨ha, vs, h, r⟩ := L
  exact ⟨ha, vs, s _ _ ha h, r.mono (mask_x s)⟩
theorem Bag.ne {z p : Addr} {H : Hp} (h : Bag z H) (np : H p = none) : p ≠ z := by
  obtain ⟨c, s, e⟩ := h
  exact (ne_of_none e np).symm
theorem Bag.neT {z p : Addr} {H : Hp} {xs : List V} (h : Bag z H) (np : H p = some (.tup xs)) : p ≠ z := by
  obtain ⟨c, s, e⟩ := h
  exact ne_of np e (by intro q; cases q)
theorem Aft.new {z p : Addr} {H H' : Hp} {o : HO} (a : Aft z H H') (np : H' p = none) : Aft z H (upd H' p o) := a.same (Same.new np)
theorem Aft.upd {z p : Addr} {H H' : Hp} {o : HO} (a : Aft z H H') (np : H p = none) (hp : p ≠ z) : Aft z H (L2.upd H' p o) := by
  refine ⟨fun b u hb e => ?_, ?_⟩
  · rw [upd_ne (ne_of_none e np)]
    exact a.1 b u hb e
  · obtain ⟨c, s, e⟩ := a.2
    exact ⟨c, s, by rw [upd_ne hp.symm]; exact e⟩
def BkOk (b : Bk) : Prop := 1 ≤ b.length ∧ b.length ≤ 6 ∧ (∀ t ∈ b, TgOk b.length t) ∧ bookB b = true
def SgB (S : List Nat) (b : Bk) : Prop := ∀ t ∈ b, (∀ c ∈ t.1.cps.toList, c ∈ S) ∧ ∀ d ∈ t.2, (∀ c ∈ d.1.cps.toList, c ∈ S) ∧ ∀ c ∈ d.2.2.cps.toList, c ∈ S
inductive spBook : List V → Hp → VK → XK → Prop where
  | mk {vs : List V} {H : Hp} {Q : VK} {E : XK} (z : _) (c1 : vs = [.ref z]) (c2 : Bag z H) (c3 : ∀ v b H' (S : List Nat), Aft z H H' → Rep z H' v (bkD b) → BkOk b → SgB S b → S.length ≤ 20 → Q v H') : spBook vs H Q E
theorem pickH {H : Hp} {p : Addr} {l : List V} (h : H p = some (.lst l)) {r : Nat} (hr : r < l.length) : ∃ x, l[r]? = some x ∧ x ∈ l := ⟨l[r], by simp [hr], List.getElem_mem hr⟩
theorem Aft.none {z p : Addr} {H H' : Hp} (a : Aft z H H') (np : H' p = none) : H p = none := by
  cases e : H p with
  | none => rfl
  | some o =>
    rw [a.1 p o (a.2.ne np) e] at np
    cases np
theorem ixN_nat {n j : Nat} (h : j < n) : ixN n (j : Int) = some j := by
  unfold ixN
  rw [if_pos (by omega), if_pos (by omega)]
  simp
theorem fits_empty {b : Bk} (h : ∀ t ∈ b, t.2 = []) : fitsB b = true := by
  unfold fitsB
  rw [List.all_eq_true]
  intro t ht
  unfold fitT
  rw [h t ht]
  have : b.all (fit1 t) = true := by
    rw [List.all_eq_true]
    intro o ho
    unfold fit1
    rw [h o ho]
    simp
  rw [this]
  rfl
section
variable {P : Program} {w : World} {K : PySem.W.Frag} {mg : Str → Option Value} {base : Heap}
theorem ndTBE : (["tongue", "bag", "escapes"] : List Str).Nodup := by decide +kernel
end
end T1
namespace T1
open PySem L2
theorem Bag.same {z : Addr} {H H' : Hp} (h : Bag z H) (s : Same H H') : Bag z H' := let ⟨c, e, q⟩ := h; ⟨c, e, s _ _ q⟩
theorem Reps.take {z : Addr} {H : Hp} : ∀ {vs : List V} {ds : List D} (k : Nat), Reps z H vs ds → Reps z H (vs.take k) (ds.take k)
  | _, _, 0, _ => by simpa using Reps.nil
  | _, _, k + 1, .nil => by simpa using Reps.nil
  | _, _, k + 1, .cons a t => .cons a (Reps.take k t)
theorem Reps.drop {z : Addr} {H : Hp} : ∀ {vs : List V} {ds : List D} (k : Nat), Reps z H vs ds → Reps z H (vs.drop k) (ds.drop k)
  | _, _, 0, h => h
  | _, _, k + 1, .nil => by simpa using Reps.nil
  | _, _, k + 1, .cons a t => Reps.drop k t
section
variable {z : Addr}
theorem get_of {xs : List V} {r : Nat} (h : r < xs.length) : xs[r]? = some (xs.getD r .non) := by simp [h]
theorem big1000 : (1000 : Nat) ≤ sizeLine := by rw [sizeLine_eq]; decide
end
section
variable {X : Cx} {es : List Expr} {te : TE} {t : TA}
theorem pa_K {c : Const} {k : Nat} {pos : Pos} (h : PE X (.Constant c k pos) te) (hr : PA X es t) : PA X (.Constant c k pos :: es) (tCons te t) := pa_cons h hr rfl
theorem pa_T {l : List Expr} {k : Nat} {pos : Pos} (h : PE X (.Tuple l k pos) te) (hr : PA X es t) : PA X (.Tuple l k pos :: es) (tCons te t) := pa_cons h hr rfl
theorem pa_B {o : Operator} {a b : Expr} {pos : Pos} (h : PE X (.BinOp a o b pos) te) (hr : PA X es t) : PA X (.BinOp a o b pos :: es) (tCons te t) := pa_cons h hr rfl
end
section
variable {P : Program} {w : World} {K : PySem.W.Frag} {mg : Str → Option Value} {base : Heap}
end
end T1
namespace T1
open PySem L2
section
variable {P : Program} {w : World} {K : PySem.W.Frag} {mg : Str → Option Value} {base : Heap}
end
end T1
namespace T1
open PySem L2
mutual
inductive NoL : D → Prop where
  | non : NoL .non
  | bl (b : Bool) : NoL (.bl b)
  | int (i : Int) : NoL (.int i)
  | str (x : Str) : NoL (.str x)
  | tup {ds : List D} (t : NoLs ds) : NoL (.tup ds)
inductive NoLs : List D → Prop where
  | nil : NoLs []
  | cons {d : D} {ds : List D} (h : NoL d) (t : NoLs ds) : NoLs (d :: ds)
end
mutual
theorem Rep.updL {z p : Addr} {H : Hp} {l l' : List V} (hp : H p = some (.lst l)) : ∀ {v : V} {d : D}, Rep z H v d → NoL d → Rep z (upd H p (.lst l')) v d
  | _, _, .non, _ => .non
  | _, _, .bl b, _ => .bl b
  | _, _, .int i, _ => .int i
  | _, _, .str x h, _ => .str x h
  | _, _, .tup h hz r, .tup t => .tup (by rw [upd_ne (ne_of h hp (by intro q; cases q))]; exact h) hz (Reps.updL hp r t)
theorem Reps.updL {z p : Addr} {H : Hp} {l l' : List V} (hp : H p = some (.lst l)) : ∀ {vs : List V} {ds : List D}, Reps z H vs ds → NoLs ds → Reps z (upd H p (.lst l')) vs ds
  | _, _, .nil, _ => .nil
  | _, _, .cons h t, .cons h' t' => .cons (Rep.updL hp h h') (Reps.updL hp t t')
end
theorem NoLs.append : ∀ {ds es : List D}, NoLs ds → NoLs es → NoLs (ds ++ es)
  | _, _, .nil, h => h
  | _, _, .cons a t, h => .cons a (NoLs.append t h)
theorem noL_drs : ∀ ds : List Dr, NoLs (ds.map drD)
  | [] => .nil
  | d :: r => .cons (.tup (.cons (.str _) (.cons (.int _) (.cons (.str _) .nil)))) (noL_drs r)
theorem noL_tgs : ∀ b : Bk, NoLs (b.map tgD)
  | [] => .nil
  | t :: r => .cons (.tup (.cons (.str _) (.cons (.tup (noL_drs t.2)) .nil))) (noL_tgs r)
end T1
namespace T1
open PySem L2
section
variable {P : Program} {w : World} {K : PySem.W.Frag} {mg : Str → Option Value} {base : Heap}
end
end T1
namespace T1
open PySem L2
def top (i : Nat) : Stmt := PySem.Challenge.pw_tonguenest_k25_whole_small_texts_gone_th.main.body.getD i (.Pass ⟨0, 0, 0, 0⟩)
abbrev sWithin : Stmt := top 2
abbrev sPoss : Stmt := top 3
abbrev sFitting : Stmt := top 4
abbrev sTakeM : Stmt := top 5
abbrev sPlainR : Stmt := top 6
abbrev sStep : Stmt := top 7
abbrev sOn : Stmt := top 8
abbrev sLeft : Stmt := top 9
abbrev sMoved : Stmt := top 10
abbrev sSteps : Stmt := top 11
abbrev sUnfin : Stmt := top 12
abbrev sIsSure : Stmt := top 14
abbrev sSureSteps : Stmt := top 15
abbrev sReader : Stmt := top 16
abbrev lBag : Stmt := top 18
abbrev lTake : Stmt := top 19
abbrev lMk : Stmt := top 20
abbrev lFits : Stmt := top 21
abbrev lBook : Stmt := top 22
abbrev lMarks : Stmt := top 23
abbrev lFitting : Stmt := top 25
abbrev lStep : Stmt := top 26
abbrev lSteps : Stmt := top 27
abbrev lAllTexts : Stmt := top 28
abbrev lLaw : Stmt := top 29
abbrev lamLn : Nat := 41
abbrev lamCl : Nat := 31
end T1
namespace T1
open PySem L2
structure TxtB (mg : Str → Option Value) : Prop where
  len : mg "len" = none
  ord : mg "ord" = none
  all_ : mg "all" = none
  any_ : mg "any" = none
  isinst : mg "isinstance" = none
  str : mg "str" = none
  int : mg "int" = none
  bool : mg "bool" = none
  tuple : mg "tuple" = none
  range : mg "range" = none
  sorted : mg "sorted" = none
  max : mg "max" = none
end T1
namespace T1
open PySem L2
section
variable {P : Program} {w : World} {K : PySem.W.Frag} {mg : Str → Option Value} {base : Heap}
theorem scTake : FnScope ["bag", "many", "found"] ["bag", "many"] (defScope lTake) := ⟨rfl, rfl, rfl, by decide +kernel, rfl, by decide +kernel, by decide +kernel⟩
theorem ok_take {f : Addr} {fd : FuncData} (F : Fun K "_law_take" "_law_take" lTake f fd) : FnOk P w K mg base CX0 1 f fd ["bag", "many"] spTake := by
  refine F.ok scTake (fun vs H Q E h => ?_) (fun cdv A outer s H vs Q E hr h => ?_)
  · obtain ⟨z, n, rfl, _⟩ := h
    rfl
  · obtain ⟨z, n, rfl, ⟨c, e, hz⟩, hn, hn2, k⟩ := h
    have nd := scTake.nd
    refine ⟨_, pss_cons (ps_if (pt_cmpR op_gt (pe_ix ix_list (pv 0) pe_int (fun _ _ => rfl)) pe_int (nomark _))
        (pss_cons (ps_set (i := 2) nd rfl (Or.inl rfl) (pe_op op_mod (pe_ix ix_list (pv 0) pe_int (fun _ _ => rfl)) (pv 1)))
        (pss_cons (ps_asg (pe_op op_fdiv (pe_ix ix_list (pv 0) pe_int (fun _ _ => rfl)) (pv 1)) (pg_sub (pv 0) pe_int set_list))
        (pss_one (ps_ret (pv 2))))) pss_nil)
      (pss_cons (ps_asg (pe_op op_mod (pe_op op_mul (pe_ix ix_list (pv 0) pe_int (fun _ _ => rfl)) pe_int) pe_int) (pg_sub (pv 0) pe_int set_list))
      (pss_one (ps_ret (pe_op op_mod (pe_op op_fdiv (pe_op op_mod (pe_op op_mul (pe_op op_fdiv (pe_ix ix_list (pv 0) pe_int (fun _ _ => rfl)) pe_int) (pe_op op_add (pe_op op_mod (pe_ix ix_list (pv 0) pe_int (fun _ _ => rfl)) pe_int) pe_int)) pe_int) pe_int) (pv 1))))), ?_⟩
    dsimp only [cxOf, Cx.nox, Cx.wish]
    refine ⟨_, rfl, z, _, 0, _, rfl, rfl, SqL.of hz, atI_nat (j := 0) rfl, _, _, rfl, rfl, _, rfl, ?_⟩
    have ex : ∀ x : Int, ∃ r : Nat, x % n = (r : Int) ∧ (r : Int) < n := fun x => ⟨(x % n).toNat, by have := Int.emod_nonneg x (show n ≠ 0 by omega); omega, by have := Int.emod_lt_of_pos x hn; have := Int.emod_nonneg x (show n ≠ 0 by omega); omega⟩
    refine ite2 (fun h1 => ?_) (fun h1 => ?_)
    · refine ⟨_, rfl, z, _, 0, _, rfl, rfl, SqL.of hz, atI_nat (j := 0) rfl, _, rfl, _, _, rfl, rfl, hn, ?_⟩
      refine ⟨_, rfl, z, _, 0, _, rfl, rfl, SqL.of hz, atI_nat (j := 0) rfl, _, rfl, _, _, rfl, rfl, ⟨hn, by omega⟩, ?_⟩
      refine ⟨_, rfl, z, _, 0, 0, rfl, rfl, hz, rfl, ?_⟩
      obtain ⟨r, er, hr1⟩ := ex c
      refine ⟨_, rfl, ?_⟩
      have q := k r (upd H z (.lst [.int (c / n), .int e])) hr1 ⟨SameX.refl.upd, ⟨_, _, upd_same⟩⟩
      rw [← er] at q
      exact q
    · refine ⟨_, rfl, z, _, 1, _, rfl, rfl, SqL.of hz, atI_nat (j := 1) rfl, _, _, rfl, rfl, .inr (by decide), _, _, rfl, rfl, (by show (0 : Int) < _; decide), ?_⟩
      refine ⟨_, rfl, z, _, 1, 1, rfl, rfl, hz, rfl, ?_⟩
      refine ⟨_, rfl, z, _, 1, _, rfl, rfl, SqL.of upd_same, atI_nat (j := 1) rfl, _, _, rfl, rfl, ⟨by decide, by decide⟩, _, rfl, z, _, 1, _, rfl, rfl, SqL.of upd_same, atI_nat (j := 1) rfl, _, _, rfl, rfl, (by show (0 : Int) < _; decide), _, _, rfl, rfl, _, _, rfl, rfl, ?_⟩
      refine ⟨.inr ?_, _, _, rfl, rfl, (by show (0 : Int) < _; decide), _, _, rfl, rfl, ⟨by decide, by decide⟩, _, rfl, _, _, rfl, rfl, hn, ?_⟩
      · have a1 := Int.emod_nonneg (e * 48271 % 2147483647) (show (32749 : Int) ≠ 0 by decide)
        have a2 := Int.emod_lt_of_pos (e * 48271 % 2147483647) (show (0 : Int) < 32749 by decide)
        omega
      · obtain ⟨r, er, hr1⟩ := ex (e * 48271 % 2147483647 / 13 * (e * 48271 % 2147483647 % 32749 + 17) % 2147483629 / 32)
        have q := k r (upd H z (.lst [.int c, .int (e * 48271 % 2147483647)])) hr1 ⟨SameX.refl.upd, ⟨_, _, upd_same⟩⟩
        rw [← er] at q
        exact q
theorem scBag : FnScope ["script", "k", "cell", "seed"] ["script", "k"] (defScope lBag) := ⟨rfl, rfl, rfl, by decide +kernel, rfl, by decide +kernel, by decide +kernel⟩
theorem ok_bag {f : Addr} {fd : FuncData} (F : Fun K "_law_bag" "_law_bag" lBag f fd) (T : TxtB mg) : FnOk P w K mg base CX0 1 f fd ["script", "k"] (spBag K) := by
  refine F.ok scBag (fun vs H Q E h => ?_) (fun cdv A outer s H vs Q E hr h => ?_)
  · obtain ⟨z, n, i, rfl, _⟩ := h
    rfl
  · obtain ⟨a, ns, i, rfl, ha, hi, k⟩ := h
    have nd := scBag.nd
    refine ⟨_, pss_cons (ps_set (i := 2) nd rfl (Or.inl rfl) pe_int)
      (pss_cons (ps_if (pt_cmpR op_lt (pv 1) (pe_callB call_len_seq (by rfl) T.len b_len (pa_cons (pv 0) pa_nil)) (nomark _))
        (pss_one (ps_set (i := 2) nd rfl (Or.inl rfl) (pe_op op_mod (pe_ix ix_list (pv 0) (pv 1) (fun _ _ => rfl)) (pe_op op_pow pe_int pe_int)))) pss_nil)
      (pss_cons (ps_set (i := 3) nd rfl (Or.inl rfl) (pe_op op_add pe_int (pe_op op_mod (pe_op op_add (pe_op op_add (pe_op op_add (pe_op op_mul (pe_op op_mod (pv 2) pe_int) pe_int) (pe_op op_mul (pe_op op_mul pe_int (pv 1)) (pv 1))) (pe_op op_mul pe_int (pv 1))) pe_int) pe_int)))
      (pss_cons (ps_if (pt_cmpR op_lt (pv 2) (pe_op op_pow pe_int pe_int) (nomark _)) (pss_one (ps_ret (pe_lst (pa_cons pe_int (pa_cons (pv 3) pa_nil))))) pss_nil)
      (pss_one (ps_ret (pe_lst (pa_cons (pv 2) (pa_cons (pv 3) pa_nil)))))))), ?_⟩
    dsimp only [cxOf, Cx.nox, Cx.wish]
    have small : (2 : Nat) ≤ sizeLine := by rw [sizeLine_eq]; decide
    refine ⟨_, rfl, _, rfl, a, _, rfl, .inl ha, _, _, rfl, rfl, _, rfl, ?_⟩
    refine ite2 (fun h1 => ?g1) (fun h1 => ?g2)
    case' g1 =>
      have hlt : i < ns.length := by simp at h1; omega
      refine ⟨_, rfl, _, rfl, a, _, _, .int ns[i], rfl, rfl, ha, atI_nat (by simp [hlt]), _, _, rfl, rfl, ⟨by decide, by decide, by decide⟩, _, _, rfl, rfl, (by show (0 : Int) < _; decide), ?_⟩
    all_goals
      refine ⟨_, rfl, _, _, rfl, rfl, (by show (0 : Int) < _; decide), _, _, rfl, rfl, .inr (by decide), _, rfl, _, _, rfl, rfl, .inl (by decide), _, rfl, _, _, rfl, rfl, .inr (by omega), _, _, rfl, rfl, _, rfl, _, _, rfl, rfl, .inl (by decide), _, _, rfl, rfl, _, _, rfl, rfl, _, _, rfl, rfl, (by show (0 : Int) < _; decide), _, _, rfl, rfl, ?_⟩
      refine ⟨_, rfl, _, _, rfl, rfl, ⟨by decide, by decide, by decide⟩, _, _, rfl, rfl, _, rfl, ?_⟩
      refine ite2 (fun h1 => ?_) (fun h1 => ?_)
      · exact ⟨_, rfl, small, fun p np => k p _ np (Same.new np) ⟨_, _, upd_same⟩⟩
      · exact ⟨_, rfl, _, rfl, small, fun p np => k p _ np (Same.new np) ⟨_, _, upd_same⟩⟩
end
end T1
namespace T1
open PySem L2
section
variable {P : Program} {w : World} {K : PySem.W.Frag} {mg : Str → Option Value} {base : Heap}
theorem scMk : FnScope ["bag", "signs", "found", "turn"] ["bag", "signs"] (defScope lMk) := ⟨rfl, rfl, rfl, by decide +kernel, rfl, by decide +kernel, by decide +kernel⟩
theorem ok_mk {f f1 : Addr} {fd fd1 : FuncData} (F : Fun K "_law_mark" "_law_mark" lMk f fd) (T : TxtB mg) (k1 : PySem.W.keepIn K (.ref f1) = true) (b1 : Binds K fd1 ["bag", "many"] []) (m1 : mg "_law_take" = some (.ref f1)) (G1 : FnOk P w K mg base CX0 1 f1 fd1 ["bag", "many"] spTake) : FnOk P w K mg base CX0 2 f fd ["bag", "signs"] spMk := by
  refine F.ok scMk (fun vs H Q E h => ?_) (fun cdv A outer s H vs Q E hr h => ?_)
  · obtain ⟨z, n, rfl, _⟩ := h
    rfl
  · obtain ⟨z, x, rfl, hB, hx1, hx2, hx3, k⟩ := h
    have nd := scMk.nd
    refine ⟨_, pss_cons (ps_set (i := 2) nd rfl (Or.inl rfl) pe_str)
      (pss_cons (ps_for PassesOwn.never rfl (pi_range1 rfl T.range (pa_cons (pe_op op_add pe_int (pe_ix ix_list (pe_lst (pa_cons pe_int (pa_cons pe_int (pa_cons pe_int (pa_cons (pe_call G1 hr rfl m1 k1 b1 .nil pass0 (pa_cons (pv 0) (pa_cons pe_int pa_nil))) pa_nil))))) (pe_call G1 hr rfl m1 k1 b1 .nil pass0 (pa_cons (pv 0) (pa_cons pe_int pa_nil))) (fun _ _ => rfl))) pa_nil))
        (pg_name (i := 3) nd rfl (Or.inl rfl))
        (pss_one (ps_set (i := 2) nd rfl (Or.inl rfl) (pe_op op_add_str (pv 2) (pe_ix ix_str (pv 1) (pe_call G1 hr rfl m1 k1 b1 .nil pass0 (pa_cons (pv 0) (pa_cons (pe_callB call_len_str (by rfl) T.len b_len (pa_cons (pv 1) pa_nil)) pa_nil))) (fun _ _ => rfl))))))
      (pss_one (ps_ret (pv 2)))), ?_⟩
    dsimp only [cxOf, Cx.nox, Cx.wish]
    have small : (1000 : Nat) ≤ sizeLine := by rw [sizeLine_eq]; decide
    refine ⟨_, rfl, z, 4, rfl, hB, by decide, by decide, fun r H1 hr1 a1 => ?_⟩
    refine ⟨by show (4 : Nat) ≤ _; omega, fun p np => ⟨_, rfl, z, 4, rfl, ?_, by decide, by decide, fun r2 H2 hr2 a2 => ?_⟩⟩
    · exact (a1.same (Same.new np)).2
    · have a12 : Aft z H H2 := (a1.same (Same.new np)).trans a2
      have hpz : p ≠ z := by
        obtain ⟨c, e, h⟩ := a1.2
        exact (ne_of_none h np).symm
      have hp2 : H2 p = some (.lst [.int 0, .int 0, .int 1, .int r]) := a2.1 p _ hpz upd_same
      obtain ⟨n, hn1, hn2, hn3⟩ : ∃ n : Nat, ([V.int 0, V.int 0, V.int 1, V.int r] : List V)[r2]? = some (.int n) ∧ n ≤ 3 ∧ True := by
        match r2, hr2 with
        | 0, _ => exact ⟨0, rfl, by omega, trivial⟩
        | 1, _ => exact ⟨0, rfl, by omega, trivial⟩
        | 2, _ => exact ⟨1, rfl, by omega, trivial⟩
        | 3, _ => exact ⟨r, rfl, by omega, trivial⟩
        | m + 4, h => omega
      refine ⟨p, _, r2, .int n, rfl, rfl, SqL.of hp2, atI_nat hn1, 1, n, rfl, rfl, 1 + n, rfl, by omega, by omega, ?_⟩
      have en : (1 + (n : Int)).toNat = 1 + n := by omega
      rw [en]
      refine for_range (fun i σ H3 => ∃ m u, σ = [some (.ref z), some (.str x), some (.str m), u] ∧ Aft z H H3 ∧ m.length = i ∧ ∀ c ∈ m.cps.toList, c ∈ x.cps.toList) ⟨_, none, rfl, a12, by decide +kernel, ?_⟩ ?_ ?_
      · intro c hc
        have : (Str.ofString "").cps.toList = [] := by decide +kernel
        rw [this] at hc
        cases hc
      · rintro i σ H3 hi ⟨m, u, rfl, a3, hm1, hm2⟩
        refine ⟨_, rfl, _, rfl, _, rfl, _, rfl, x, rfl, by omega, z, x.length, rfl, a3.2, by omega, by omega, fun r3 H4 hr3 a4 => ?_⟩
        have hr4 : r3 < x.cps.toList.length := by
          have : x.cps.toList.length = x.length := by simp; rfl
          omega
        refine ⟨x, r3, x.cps.toList[r3], rfl, rfl, by omega, atI_nat (by simp [hr4]), m, _, rfl, rfl, ?_, ?_⟩
        · show m.length + 1 ≤ _
          omega
        · refine ⟨_, _, rfl, a3.trans a4, ?_, fun c hc => ?_⟩
          · rw [str_len_append]
            show m.length + 1 = _
            omega
          · rw [str_list_append] at hc
            rcases List.mem_append.mp hc with hc | hc
            · exact hm2 c hc
            · have : c = x.cps.toList[r3] := by simpa using hc
              rw [this]
              exact List.getElem_mem hr4
      · rintro σ H3 ⟨m, u, rfl, a3, hm1, hm2⟩
        refine ⟨_, rfl, k m H3 ?_ hm2 a3⟩
        unfold markS
        rw [decide_eq_true (show 1 ≤ m.length by omega), decide_eq_true (show m.length ≤ 4 by omega)]
        simp only [Bool.true_and, List.all_eq_true]
        exact fun c hc => hx3 c (hm2 c hc)
end
end T1
namespace T1
open PySem L2
section
variable {P : Program} {w : World} {K : PySem.W.Frag} {mg : Str → Option Value} {base : Heap}
theorem scFits : FnScope ["book", "escape", "doors", "other", "more", "door", "some"] ["book"] (defScope lFits) := ⟨rfl, rfl, rfl, by decide +kernel, rfl, by decide +kernel, by decide +kernel⟩
set_option maxHeartbeats 1000000 in
theorem ok_fits {f : Addr} {fd : FuncData} (F : Fun K "_law_fits_book" "_law_fits_book" lFits f fd) (T : TxtB mg) (T2 : Txt2 mg) : FnOk P w K mg base CX0 1 f fd ["book"] spFits := by
  refine F.ok scFits (fun vs H Q E h => ?_) (fun cdv A outer s H vs Q E hr h => ?_)
  · obtain ⟨z, a, xs, b, rfl, _⟩ := h
    rfl
  · obtain ⟨z, a, xs, b, rfl, hS, R, hb7, hok, k⟩ := h
    have nd := scFits.nd
    refine ⟨_, pss_cons (ps_for PassesOwn.never rfl (PI.or (pi_tup (pv 0)) (pi_list (pv 0))) (pg_tup rfl (pgs_cons (pg_name (i := 1) nd rfl (Or.inr rfl)) (pgs_cons (pg_name (i := 2) nd rfl (Or.inl rfl)) pgs_nil)))
        (pss_cons (ps_for PassesOwn.never rfl (PI.or (pi_tup (pv 0)) (pi_list (pv 0))) (pg_tup rfl (pgs_cons (pg_name (i := 3) nd rfl (Or.inl rfl)) (pgs_cons (pg_name (i := 4) nd rfl (Or.inl rfl)) pgs_nil)))
          (pss_cons (ps_setcomp1 (i := 6) (N' := ["door", "escape"]) (js := [none, some 1]) rfl rfl nd rfl (Or.inl rfl) (blk_of (defScope lFits) (by decide +kernel)) ⟨rfl, Or.inr (Or.inl rfl), rfl, trivial⟩ (pi_tup (pv 4))
            (fun cl s H fp => pg_name (i := 0) ndDE rfl (Or.inl rfl))
            (fun cl s H fp => pts_one (pt_cmpR op_in_str (pv 1) (pe_op op_add_str (pe_op op_add_str (pe_ix ix_tupB (pv 0) pe_int (fun _ _ => rfl)) pe_str) (pe_ix ix_tupB (pv 0) pe_int (fun _ _ => rfl))) (by with_unfolding_all rfl))) (fun cl s H fp => pv 0))
          (pss_one (ps_if (PW.pt (pw_and (pt_cmpR op_ne (pv 1) pe_str (nomark _)) (pw_and1 (pt_cmpR (op_ne_nil hr.units0) (pv 6) (pe_lst pa_nil) (nomark _))))) (pss_one (ps_ret pe_bl)) pss_nil))))
        (pss_cons (ps_if (pt_cmpR op_ne (pe_callB call_len_setL (by rfl) T.len b_len (pa_cons (pe_callTy (call_set_texts rfl) (by rfl) T2.set b_set (pa_cons (pe_comp1 (N' := ["door"]) (js := [none]) rfl rfl (blk_of (defScope lFits) (by decide +kernel)) trivial (pi_tup (pv 2))
            (fun cl s H fp => pg_name (i := 0) ndD rfl (Or.inl rfl)) (fun cl s H fp => pts_nil) (fun cl s H fp => pe_ix ix_tupB (pv 0) pe_int (fun _ _ => rfl))) pa_nil)) pa_nil)) (pe_callB call_len_seq (by rfl) T.len b_len (pa_cons (pv 2) pa_nil)) (nomark _)) (pss_one (ps_ret pe_bl)) pss_nil)
        (pss_one (ps_for PassesOwn.never rfl (pi_tup (pv 2)) (pg_name (i := 5) nd rfl (Or.inr rfl))
          (pss_one (ps_if (pt_cmpR (op_ne_nil hr.units0) (pe_comp1 (N' := ["one", "door"]) (js := [none, some 5]) rfl rfl (blk_of (defScope lFits) (by decide +kernel)) ⟨rfl, Or.inr (Or.inl rfl), rfl, trivial⟩ (pi_tup (pe_ix ix_tup (pe_ix ix_seq (pv 0) (pe_ix ix_tup (pv 5) pe_int (fun _ _ => rfl)) (fun _ _ => rfl)) pe_int (fun _ _ => rfl)))
            (fun cl s H fp => pg_name (i := 0) ndOD rfl (Or.inl rfl)) (fun cl s H fp => pts_one (pt_val (pe_bmB PySem.F.plainAttrs_str PySem.F.slot_str_startswith PySem.F.type_str_startswith mt_startswith (pe_ix ix_tupB (pv 0) pe_int (fun _ _ => rfl)) (pa_cons (pe_ix ix_tupB (pv 1) pe_int (fun _ _ => rfl)) pa_nil)))) (fun cl s H fp => pv 0)) (pe_lst pa_nil) (nomark _)) (pss_one (ps_ret pe_bl)) pss_nil)))))))
      (pss_one (ps_ret pe_bl)), ?_⟩
    dsimp only [cxOf, Cx.nox, Cx.wish]
    have hl : xs.length = b.length := by have := R.length; simpa using this
    refine for_seq (a := a) (xs := xs) hS (fun R q => ⟨_, rfl, q⟩) (fun R q => ⟨_, rfl, q⟩) (fun i σ H2 => ∃ u1 u2 u3 u4 u5 u6, σ = [some (.ref a), u1, u2, u3, u4, u5, u6] ∧ Same H H2 ∧ ∀ j, j < i → fitT b (b.getD j tg0) = true) ⟨none, none, none, none, none, none, rfl, Same.refl H, fun j hj => absurd hj (Nat.not_lt_zero j)⟩ (fun i σ H' ⟨_, _, _, _, _, _, _, s, _⟩ => s) ?_ ?_
    · rintro i y σ H2 hi ⟨u1, u2, u3, u4, u5, u6, rfl, s2, hP⟩
      have hil : i < b.length := by have := (List.getElem?_eq_some_iff.mp hi).1; omega
      have ey : y = xs.getD i .non := by rw [List.getD_eq_getElem?_getD, hi]; rfl
      have tok : TgOk b.length (b.getD i tg0) := hok _ (getD_mem _ hil)
      obtain ⟨c, d, ys, e, hcz, hdz, hc, hd, hyl, Ry⟩ := rep_tongue ((reps_tongue (b := b) (i := i) R hil).mono s2.x)
      rw [ey, e]
      have hyl : ys.length = (b.getD i tg0).2.length := hyl
      have few1 := tok.2.1
      have no : ∀ H', Same H H' → fitT b (b.getD i tg0) = false → Q (.bl false) H' := fun H' s' hf => by
        have := all_no b tg0 (fitT b) hil hf
        have q := k H' s'
        unfold fitsB at q
        rw [this] at q
        exact q
      refine ⟨c, _, rfl, SqT.of hc, rfl, _, _, rfl, _, _, rfl, rfl, ?_⟩
      refine D_hide fun D1 hD1 hR1 _ _ => ?_
      have no := fun H' a b => hR1 _ _ (no H' a b)
      refine seq_hide fun U hU => ?_
      refine for_seq (a := a) (xs := xs) (hS.same s2) (fun R q => ⟨_, rfl, q⟩) (fun R q => ⟨_, rfl, q⟩) (fun j σ H3 => ∃ u3 u4 u6, σ = [some (.ref a), some (.str (b.getD i tg0).1), some (.ref d), u3, u4, u5, u6] ∧ Same H2 H3 ∧ ∀ l, l < j → fit1 (b.getD i tg0) (b.getD l tg0) = true) ⟨u3, u4, u6, rfl, Same.refl _, fun j hj => absurd hj (Nat.not_lt_zero j)⟩ (fun i σ H' ⟨_, _, _, _, s, _⟩ => s) ?_ ?_
      · rintro j y2 σ H3 hj ⟨v3, v4, v6, rfl, s3, hP1⟩
        have hjl : j < b.length := by have := (List.getElem?_eq_some_iff.mp hj).1; omega
        have ey2 : y2 = xs.getD j .non := by rw [List.getD_eq_getElem?_getD, hj]; rfl
        have tok2 : TgOk b.length (b.getD j tg0) := hok _ (getD_mem _ hjl)
        have few2 := tok2.2.1
        obtain ⟨c2, d2, zs, e2, hc2z, hd2z, hc2, hd2, hzl, Rz⟩ := rep_tongue ((reps_tongue (b := b) (i := j) R hjl).mono (s2.trans s3).x)
        rw [ey2, e2]
        have hzl : zs.length = (b.getD j tg0).2.length := hzl
        refine ⟨c2, _, rfl, SqT.of hc2, rfl, _, _, rfl, _, _, rfl, rfl, ?_⟩
        refine D_hide fun D2 hD2 hR2 _ _ => ?_
        have no := fun H' a b => hR2 _ _ (no H' a b)
        refine seq_hide fun U2 hU2 => ?_
        refine ⟨_, rfl, d2, rfl, ⟨_, SqT.of hd2⟩, fun p np => ?_⟩
        have hdp : d2 ≠ p := ne_of_none hd2 np
        have nx : ∀ H', Same H3 H' → fit1 (b.getD i tg0) (b.getD j tg0) = true → ∃ u3 u4 u6, [some (V.ref a), some (V.str (b.getD i tg0).1), some (V.ref d), some (.str (b.getD j tg0).1), some (.ref d2), u5, some (.ref p)] = [some (V.ref a), some (V.str (b.getD i tg0).1), some (V.ref d), u3, u4, u5, u6] ∧ Same H2 H' ∧ ∀ l, l < j + 1 → fit1 (b.getD i tg0) (b.getD l tg0) = true := fun H' s' hf => ⟨_, _, _, rfl, s3.trans s', fun l hl => by
          rcases Nat.lt_succ_iff_lt_or_eq.mp hl with h | h
          · exact hP1 l h
          · rw [h]; exact hf⟩
        refine loop_new (fun l => if inEsc (b.getD i tg0).1 ((b.getD j tg0).2.getD l dr0) then some (zs.getD l .non) else none) (fun σ => ∃ v, σ = [v, some (.str (b.getD i tg0).1)]) ⟨none, rfl⟩ np (by omega) (itok_tup (xs := zs) (by rw [upd_ne hdp]; exact hd2) hdp) (fun l σ H4 C hl' ⟨v, hv⟩ hS4 hC => ?_) (fun σ H4 s4 hH4 => ?_)
        · subst hv
          have hll : l < (b.getD j tg0).2.length := by omega
          obtain ⟨q, e3, hqz, hq⟩ := rep_door ((reps_door (ds := (b.getD j tg0).2) (i := l) Rz hll).mono hS4.x)
          have dok := tok2.2.2 _ (getD_mem dr0 hll)
          have l1 := markS_len dok.1
          have l2 := markS_len dok.2.2
          have big : (1000 : Nat) ≤ sizeLine := by rw [sizeLine_eq]; decide
          have lb : (Str.ofString " ").length = 1 := by decide +kernel
          have hC' := hC [some (.ref q), some (.str (b.getD i tg0).1)] H4 ⟨_, rfl⟩ (Same.refl _)
          rw [e3]
          refine ⟨_, rfl, _, rfl, q, _, 0, _, rfl, rfl, SqT.of hq, atI_nat (j := 0) rfl, _, _, rfl, rfl, ?_, _, rfl, q, _, 2, _, rfl, rfl, SqT.of hq, atI_nat (j := 2) rfl, _, _, rfl, rfl, ?_, _, _, rfl, rfl, _, rfl, ?_⟩
          · rw [lb]
            show ((b.getD j tg0).2.getD l dr0).1.length + 1 ≤ _
            omega
          · rw [str_len_append, lb]
            show ((b.getD j tg0).2.getD l dr0).1.length + 1 + ((b.getD j tg0).2.getD l dr0).2.2.length ≤ _
            omega
          · show if inEsc (b.getD i tg0).1 ((b.getD j tg0).2.getD l dr0) = true then _ else _
            cases g : inEsc (b.getD i tg0).1 ((b.getD j tg0).2.getD l dr0) with
            | true =>
              rw [g, if_pos rfl, e3] at hC'
              exact iteT ⟨_, rfl, hC'⟩
            | false =>
              rw [g, if_neg (by simp)] at hC'
              exact iteF hC'
        · refine hU2 _ _ ⟨_, rfl, rfl, _, rfl, ?_⟩
          refine ite2 (fun g1 => ?_) (fun g1 => ?_)
          · refine ⟨_, rfl, Nat.zero_le _, fun q nq => ?_⟩
            have hpq : p ≠ q := ne_of_none hH4 nq
            refine ⟨p, q, _, rfl, rfl, by rw [upd_ne hpq]; exact hH4, upd_same, _, rfl, ?_⟩
            have e5 := flt_empty (b.getD j tg0).2 dr0 (inEsc (b.getD i tg0).1) (fun l => zs.getD l .non) hzl
            rw [e5, Bool.not_not]
            cases g2 : (b.getD j tg0).2.any (inEsc (b.getD i tg0).1) with
            | true =>
              refine iteT (no _ (((s2.trans s3).trans s4).trans (Same.new nq)) ?_)
              have f1 : fit1 (b.getD i tg0) (b.getD j tg0) = false := by
                unfold fit1
                rw [g2, g1]
                rfl
              unfold fitT
              rw [all_no b tg0 (fit1 (b.getD i tg0)) hjl f1, Bool.false_and, Bool.false_and]
            | false =>
              refine iteF (hD2 _ _ (nx _ (s4.trans (Same.new nq)) ?_))
              unfold fit1
              rw [g2, Bool.and_false]
              rfl
          · refine iteF (hD2 _ _ (nx _ s4 ?_))
            have g1' : (!decide (V.str (b.getD i tg0).1 = V.str (Str.ofString ""))) = false := by simpa using g1
            unfold fit1
            rw [g1', Bool.false_and]
            rfl
      · rintro σ H3 ⟨v3, v4, v6, rfl, s3, hP1⟩
        have f1 : b.all (fit1 (b.getD i tg0)) = true := all_of b tg0 _ fun j hj => hP1 j (by omega)
        refine hU _ _ (seq_hide fun U hU => ?_)
        refine ⟨_, rfl, d, rfl, ⟨_, SqT.of (s3 _ _ hd)⟩, fun p np => ?_⟩
        have hdp : d ≠ p := ne_of_none (s3 _ _ hd) np
        refine loop_map (fun l => .str ((b.getD i tg0).2.getD l dr0).1) (fun σ => ∃ v, σ = [v]) ⟨none, rfl⟩ np (by omega) (itok_tup (xs := ys) (by rw [upd_ne hdp]; exact s3 _ _ hd) hdp) (fun l σ H4 C hl' ⟨v, hv⟩ hS4 hC => ?_) (fun σ H4 s4 hH4 => ?_)
        · subst hv
          obtain ⟨q, e3, hqz, hq⟩ := rep_door ((reps_door (ds := (b.getD i tg0).2) (i := l) Ry (by omega)).mono (s3.trans hS4).x)
          rw [e3]
          exact ⟨_, rfl, q, _, 0, _, rfl, rfl, SqT.of hq, atI_nat (j := 0) rfl, hC _ H4 ⟨_, rfl⟩ (Same.refl _)⟩
        · have hO : H4 p = some (.lst ((opensOf (b.getD i tg0).2).map V.str)) := by
            rw [hH4, hyl]
            unfold opensOf
            rw [List.map_map]
            exact congrArg (fun x => some (HO.lst x)) (range_map (b.getD i tg0).2 dr0 fun d => V.str d.1)
          refine ⟨p, opensOf (b.getD i tg0).2, rfl, SqL.of hO, (by unfold scanBound opensOf; rw [List.length_map]; omega), fun q nq => ?_⟩
          have s5 := Same.new (o := setL P w q (opensOf (b.getD i tg0).2)) nq
          have s25 : Same H2 _ := (s3.trans s4).trans s5
          refine ⟨q, _, rfl, upd_same, _, rfl, d, ys, rfl, .inr (SqT.of (s25 _ _ hd)), rfl, _, rfl, ?_⟩
          have e2 : (!decide (V.int ((dd (opensOf (b.getD i tg0).2)).length : Int) = V.int (ys.length : Int))) = !decide (opensOf (b.getD i tg0).2).Nodup := by
            congr 1
            rw [decide_eq_decide, ← dd_all]
            have : (opensOf (b.getD i tg0).2).length = (b.getD i tg0).2.length := by simp [opensOf]
            rw [this, ← hyl]
            simp
            omega
          rw [e2]
          cases g3 : decide (opensOf (b.getD i tg0).2).Nodup with
          | false =>
            refine iteT (no _ (s2.trans s25) ?_)
            unfold fitT
            rw [g3, Bool.and_false, Bool.false_and]
          | true =>
            refine iteF (hU _ _ ?_)
            refine ⟨_, rfl, d, rfl, ⟨_, SqT.of (s25 _ _ hd)⟩, for_tup (K := K) (a := d) (xs := ys) (fun l σ H6 => ∃ u3 u4 u5 u6, σ = [some (.ref a), some (.str (b.getD i tg0).1), some (.ref d), u3, u4, u5, u6] ∧ Same H2 H6 ∧ ∀ m, m < l → fit3 b ((b.getD i tg0).2.getD m dr0) = true) ⟨_, _, _, _, rfl, s25, fun j hj => absurd hj (Nat.not_lt_zero j)⟩ (fun l σ H6 _ ⟨_, _, _, _, _, s, _⟩ => SqT.of (s _ _ hd)) ?_ ?_⟩
            · rintro l y3 σ H6 hl' ⟨w3, w4, w5, w6, rfl, s6, hP3⟩
              have hll : l < (b.getD i tg0).2.length := by have := (List.getElem?_eq_some_iff.mp hl').1; omega
              have ey3 : y3 = ys.getD l .non := by rw [List.getD_eq_getElem?_getD, hl']; rfl
              obtain ⟨q2, e3, hq2z, hq2⟩ := rep_door ((reps_door (ds := (b.getD i tg0).2) (i := l) Ry hll).mono s6.x)
              rw [ey3, e3]
              have dok := tok.2.2 _ (getD_mem dr0 hll)
              generalize hdr : (b.getD i tg0).2.getD l dr0 = dr at *
              obtain ⟨hn1, hn2⟩ := dok.2.1
              obtain ⟨n, hn⟩ : ∃ n : Nat, dr.2.1 = (n : Int) := ⟨dr.2.1.toNat, by omega⟩
              have hnl : n < b.length := by omega
              have few4 : (b.getD n tg0).2.length ≤ 6 := (hok _ (getD_mem tg0 hnl)).2.1
              obtain ⟨c4, d4, ws, e4, hc4z, hd4z, hc4, hd4, hwl, Rw⟩ := rep_tongue ((reps_tongue (b := b) (i := n) R hnl).mono (s2.trans s6).x)
              have hwl : ws.length = (b.getD n tg0).2.length := hwl
              have ex : xs[n]? = some (.ref c4) := by
                have h1 : n < xs.length := by omega
                have h2 : xs.getD n .non = xs[n] := by simp [h1]
                rw [List.getElem?_eq_getElem h1, ← h2, e4]
              rw [hn] at hq2
              refine ⟨_, rfl, _, rfl, q2, _, 1, _, rfl, rfl, SqT.of hq2, atI_nat (j := 1) rfl, ix_of (hS.same (s2.trans s6)) ex ?_⟩
              refine ⟨c4, _, 1, _, rfl, rfl, SqT.of hc4, atI_nat (j := 1) rfl, d4, rfl, ⟨_, SqT.of hd4⟩, fun p2 np2 => ?_⟩
              have hdp2 : d4 ≠ p2 := ne_of_none hd4 np2
              refine loop_new (fun m => if stAt ((b.getD n tg0).2.getD m dr0).1 dr.2.2 0 then some (ws.getD m .non) else none) (fun σ => ∃ v, σ = [v, some (.ref q2)]) ⟨none, rfl⟩ np2 (by omega) (itok_tup (xs := ws) (by rw [upd_ne hdp2]; exact hd4) hdp2) (fun m σ H7 C hm ⟨v, hv⟩ hS7 hC => ?_) (fun σ H7 s7 hH7 => ?_)
              · subst hv
                obtain ⟨q3, e5, hq3z, hq3⟩ := rep_door ((reps_door (ds := (b.getD n tg0).2) (i := m) Rw (by omega)).mono hS7.x)
                have hC' := hC [some (.ref q3), some (.ref q2)] H7 ⟨_, rfl⟩ (Same.refl _)
                rw [e5]
                refine ⟨_, rfl, q3, _, 0, _, rfl, rfl, SqT.of hq3, atI_nat (j := 0) rfl, rfl, _, rfl, q2, _, 2, _, rfl, rfl, SqT.of (hS7 _ _ hq2), atI_nat (j := 2) rfl, _, _, rfl, rfl, _, rfl, ?_⟩
                cases g : stAt ((b.getD n tg0).2.getD m dr0).1 dr.2.2 0 with
                | true =>
                  rw [g, if_pos rfl, e5] at hC'
                  exact iteT ⟨_, rfl, hC'⟩
                | false =>
                  rw [g, if_neg (by simp)] at hC'
                  exact iteF hC'
              · refine ⟨Nat.zero_le _, fun q nq => ?_⟩
                have hpq : p2 ≠ q := ne_of_none hH7 nq
                refine ⟨p2, q, _, rfl, rfl, by rw [upd_ne hpq]; exact hH7, upd_same, _, rfl, ?_⟩
                have e5 := flt_empty (b.getD n tg0).2 dr0 (fun o => stAt o.1 dr.2.2 0) (fun m => ws.getD m .non) hwl
                rw [e5, Bool.not_not]
                have ef : fit3 b dr = !((b.getD n tg0).2.any fun o => stAt o.1 dr.2.2 0) := by
                  unfold fit3
                  rw [hn]
                  rfl
                cases g2 : (b.getD n tg0).2.any fun o => stAt o.1 dr.2.2 0 with
                | true =>
                  refine iteT (no _ ((s2.trans s6).trans (s7.trans (Same.new nq))) ?_)
                  unfold fitT
                  rw [all_no (b.getD i tg0).2 dr0 (fit3 b) hll (by rw [hdr, ef, g2]; rfl), Bool.and_false]
                | false =>
                  refine iteF ⟨_, _, _, _, rfl, s6.trans (s7.trans (Same.new nq)), fun m hm => ?_⟩
                  rcases Nat.lt_succ_iff_lt_or_eq.mp hm with h | h
                  · exact hP3 m h
                  · rw [h, hdr, ef, g2]; rfl
            · rintro σ H6 ⟨w3, w4, w5, w6, rfl, s6, hP3⟩
              refine hD1 _ _ ⟨_, _, _, _, _, _, rfl, s2.trans s6, fun j hj => ?_⟩
              rcases Nat.lt_succ_iff_lt_or_eq.mp hj with h | h
              · exact hP j h
              · rw [h]
                unfold fitT
                rw [f1, g3, all_of (b.getD i tg0).2 dr0 (fit3 b) fun m hm => hP3 m (by omega)]
                rfl
    · rintro σ H2 ⟨u1, u2, u3, u4, u5, u6, rfl, s2, hP⟩
      have q := k H2 s2
      unfold fitsB at q
      rw [all_of b tg0 (fitT b) fun j hj => hP j (by omega)] at q
      exact q
end
end T1
namespace T1
open PySem L2
section
variable {P : Program} {w : World} {K : PySem.W.Frag} {mg : Str → Option Value} {base : Heap}
theorem scBookL : FnScope ["bag", "signs", "escapes", "many", "book", "turn", "at", "door", "more"] ["bag"] (defScope lBook) := ⟨rfl, rfl, rfl, by decide +kernel, rfl, by decide +kernel, by decide +kernel⟩
set_option maxHeartbeats 1000000 in
theorem ok_lbook {f f1 f2 f3 : Addr} {fd fd1 fd2 fd3 : FuncData} (F : Fun K "_law_book" "_law_book" lBook f fd) (T : TxtB mg) (T2 : Txt2 mg)
    (k1 : PySem.W.keepIn K (.ref f1) = true) (b1 : Binds K fd1 ["bag", "many"] []) (m1 : mg "_law_take" = some (.ref f1)) (G1 : FnOk P w K mg base CX0 1 f1 fd1 ["bag", "many"] spTake)
    (k2 : PySem.W.keepIn K (.ref f2) = true) (b2 : Binds K fd2 ["bag", "signs"] []) (m2 : mg "_law_mark" = some (.ref f2)) (G2 : FnOk P w K mg base CX0 2 f2 fd2 ["bag", "signs"] spMk)
    (k3 : PySem.W.keepIn K (.ref f3) = true) (b3 : Binds K fd3 ["book"] []) (m3 : mg "_law_fits_book" = some (.ref f3)) (G3 : FnOk P w K mg base CX0 1 f3 fd3 ["book"] spFits) : FnOk P w K mg base CX0 3 f fd ["bag"] spBook := by
  refine F.ok scBookL (fun vs H Q E h => ?_) (fun cdv A outer s H vs Q E hr h => ?_)
  · obtain ⟨z, rfl, _⟩ := h
    rfl
  · obtain ⟨z, rfl, hB, k⟩ := h
    have nd := scBookL.nd
    have hr1 : Room 1 _ := hr.mono (by decide)
    refine ⟨_, pss_cons (ps_set (i := 1) nd rfl (Or.inl rfl) (pe_ix ix_list (pe_lst (pa_cons pe_str (pa_cons pe_str (pa_cons pe_str (pa_cons pe_str pa_nil))))) (pe_call G1 hr1 rfl m1 k1 b1 .nil pass0 (pa_cons (pv 0) (pa_cons pe_int pa_nil))) (fun _ _ => rfl)))
      (pss_cons (ps_set (i := 2) nd rfl (Or.inr rfl) (pe_ix ix_list (pe_lst (pa_cons pe_str (pa_cons pe_str (pa_cons pe_str (pa_cons pe_str pa_nil))))) (pe_call G1 hr1 rfl m1 k1 b1 .nil pass0 (pa_cons (pv 0) (pa_cons pe_int pa_nil))) (fun _ _ => rfl)))
      (pss_cons (ps_set (i := 3) nd rfl (Or.inl rfl) (pe_op op_add pe_int (pe_call G1 hr1 rfl m1 k1 b1 .nil pass0 (pa_cons (pv 0) (pa_cons (pe_ix ix_list (pe_lst (pa_cons pe_int (pa_cons pe_int (pa_cons pe_int pa_nil)))) (pe_call G1 hr1 rfl m1 k1 b1 .nil pass0 (pa_cons (pv 0) (pa_cons pe_int pa_nil))) (fun _ _ => rfl)) pa_nil)))))
      (pss_cons (ps_setcomp1 (i := 4) (N' := ["tongue", "bag", "escapes"]) (js := [none, some 0, some 2]) rfl rfl nd rfl (Or.inl rfl) (blk_of (defScope lBook) (by decide +kernel)) ⟨rfl, Or.inr (Or.inl rfl), rfl, rfl, Or.inr (Or.inl rfl), rfl, trivial⟩ (pi_range1 rfl T.range (pa_cons (pv 3) pa_nil))
          (fun cl s H fp => pg_name (i := 0) ndTBE rfl (Or.inl rfl)) (fun cl s H fp => pts_nil)
          (fun cl s H fp => pe_tup (pa_cons (pe_ix ix_listB (pe_lst (pa_cons (pv 2) (pa_cons pe_str (pa_cons pe_str pa_nil)))) (pe_call G1 hr1 rfl m1 k1 b1 .nil pass0 (pa_cons (pv 1) (pa_cons pe_int pa_nil))) (fun _ _ => rfl)) (pa_cons (pe_tup pa_nil) pa_nil))))
      (pss_cons (ps_for PassesOwn.never rfl (pi_range1 rfl T.range (pa_cons (pe_op op_add pe_int (pe_call G1 hr1 rfl m1 k1 b1 .nil pass0 (pa_cons (pv 0) (pa_cons (pe_op op_mul pe_int (pv 3)) pa_nil)))) pa_nil)) (pg_name (i := 5) nd rfl (Or.inl rfl))
        (pss_cons (ps_set (i := 6) nd rfl (Or.inl rfl) (pe_ix ix_list (pe_lst (pa_cons pe_int (pa_cons (pe_call G1 hr1 rfl m1 k1 b1 .nil pass0 (pa_cons (pv 0) (pa_cons (pv 3) pa_nil))) pa_nil))) (pe_call G1 hr1 rfl m1 k1 b1 .nil pass0 (pa_cons (pv 0) (pa_cons pe_int pa_nil))) (fun _ _ => rfl)))
        (pss_cons (ps_set (i := 7) nd rfl (Or.inl rfl) (pe_tup (pa_cons (pe_call G2 hr rfl m2 k2 b2 .nil pass0 (pa_cons (pv 0) (pa_cons (pv 1) pa_nil))) (pa_cons (pe_call G1 hr1 rfl m1 k1 b1 .nil pass0 (pa_cons (pv 0) (pa_cons (pv 3) pa_nil))) (pa_cons (pe_call G2 hr rfl m2 k2 b2 .nil pass0 (pa_cons (pv 0) (pa_cons (pv 1) pa_nil))) pa_nil)))))
        (pss_cons (ps_set (i := 8) nd rfl (Or.inl rfl) (pe_callTy call_list_of (by rfl) T2.list b_list (pa_cons (pv 4) pa_nil)))
        (pss_cons (ps_asg (pe_tup (pa_cons (pe_ix ix_tup (pe_ix ix_list (pv 4) (pv 6) (fun _ _ => rfl)) pe_int (fun _ _ => rfl)) (pa_cons (pe_op op_catX (pe_ix ix_tup (pe_ix ix_list (pv 4) (pv 6) (fun _ _ => rfl)) pe_int (fun _ _ => rfl)) (pe_tup (pa_cons (pv 7) pa_nil))) pa_nil))) (pg_sub (pv 8) (pv 6) set_list))
        (pss_one (ps_if (PW.pt (pw_and (pt_cmpR op_lt (pe_callB call_len_seq (by rfl) T.len b_len (pa_cons (pe_ix ix_tup (pe_ix ix_list (pv 4) (pv 6) (fun _ _ => rfl)) pe_int (fun _ _ => rfl)) pa_nil)) pe_int (nomark _)) (pw_and1 (pt_val (pe_call G3 hr1 rfl m3 k3 b3 .nil pass0 (pa_cons (pv 8) pa_nil))))))
          (pss_one (ps_set (i := 4) nd rfl (Or.inl rfl) (pv 8))) pss_nil)))))))
      (pss_one (ps_ret (pe_callTy call_tuple_of (by rfl) T.tuple b_tuple (pa_cons (pv 4) pa_nil)))))))), ?_⟩
    dsimp only [cxOf, Cx.nox, Cx.wish]
    refine seq_hide fun U hU => ?_
    have small : (1000 : Nat) ≤ sizeLine := by rw [sizeLine_eq]; decide
    have A0 := Aft.refl hB
    refine ⟨by show (4 : Nat) ≤ _; omega, fun p1 np1 => ⟨_, rfl, z, 4, rfl, (A0.new np1).2, by decide, by decide, fun r1 H1 hr1' a1 => ?_⟩⟩
    have A1 : Aft z H H1 := (A0.new np1).trans a1
    have hp1 := a1.1 p1 _ (hB.ne np1) upd_same
    obtain ⟨v1, hv1, hm1⟩ := pickH hp1 (r := r1) (by show r1 < 4; omega)
    obtain ⟨x, ex, hx1, hx2, hx3, hx4⟩ : ∃ x, v1 = .str x ∧ 1 ≤ x.length ∧ x.length ≤ 100 ∧ signsOk x ∧ x.cps.toList.length ≤ 12 := by
      simp only [List.mem_cons, List.not_mem_nil, or_false] at hm1
      rcases hm1 with rfl | rfl | rfl | rfl <;> exact ⟨_, rfl, by decide +kernel, by decide +kernel, by unfold signsOk; decide +kernel, by decide +kernel⟩
    subst ex
    refine ⟨p1, _, r1, _, rfl, rfl, SqL.of hp1, atI_nat hv1, hU _ _ (seq_hide fun U hU => ?_)⟩
    refine ⟨by show (4 : Nat) ≤ _; omega, fun p2 np2 => ⟨_, rfl, z, 4, rfl, (A1.new np2).2, by decide, by decide, fun r2 H2 hr2' a2 => ?_⟩⟩
    have A2 : Aft z H H2 := (A1.new np2).trans a2
    have hp2 := a2.1 p2 _ (A1.2.ne np2) upd_same
    obtain ⟨v2, hv2, hm2⟩ := pickH hp2 (r := r2) (by show r2 < 4; omega)
    obtain ⟨e, ee, he1, he2⟩ : ∃ x, v2 = .str x ∧ escD (.str x) = true ∧ x.cps.toList.length ≤ 1 := by
      simp only [List.mem_cons, List.not_mem_nil, or_false] at hm2
      rcases hm2 with rfl | rfl | rfl | rfl <;> exact ⟨_, rfl, by decide +kernel, by decide +kernel⟩
    subst ee
    obtain ⟨S, hSx, hSe, hSb, hSl⟩ : ∃ S : List Nat, (∀ c ∈ x.cps.toList, c ∈ S) ∧ (∀ c ∈ e.cps.toList, c ∈ S) ∧ 92 ∈ S ∧ S.length ≤ 20 :=
      ⟨x.cps.toList ++ (e.cps.toList ++ [92]), fun c h => List.mem_append_left _ h, fun c h => List.mem_append_right _ (List.mem_append_left _ h), by simp, by rw [List.length_append, List.length_append, List.length_singleton]; omega⟩
    refine ⟨p2, _, r2, _, rfl, rfl, SqL.of hp2, atI_nat hv2, hU _ _ (seq_hide fun U hU => ?_)⟩
    refine ⟨_, rfl, by show (3 : Nat) ≤ _; omega, fun p3 np3 => ⟨_, rfl, z, 3, rfl, (A2.new np3).2, by decide, by decide, fun r3 H3 hr3 a3 => ?_⟩⟩
    have A3 : Aft z H H3 := (A2.new np3).trans a3
    have hp3 := a3.1 p3 _ (A2.2.ne np3) upd_same
    obtain ⟨v3, hv3, hm3⟩ := pickH hp3 (r := r3) (by show r3 < 3; omega)
    obtain ⟨n3, en, hn1, hn2⟩ : ∃ n : Int, v3 = .int n ∧ 0 < n ∧ n ≤ 6 := by
      simp only [List.mem_cons, List.not_mem_nil, or_false] at hm3
      rcases hm3 with rfl | rfl | rfl <;> exact ⟨_, rfl, by decide, by decide⟩
    subst en
    refine ⟨p3, _, r3, _, rfl, rfl, SqL.of hp3, atI_nat hv3, z, n3, rfl, A3.2, hn1, by omega, fun r4 H4 hr4 a4 => ?_⟩
    have A4 : Aft z H H4 := A3.trans a4
    refine ⟨1, r4, rfl, rfl, hU _ _ (seq_hide fun U hU => ?_)⟩
    refine ⟨_, rfl, 1 + r4, rfl, by omega, by omega, fun p np => ?_⟩
    have enat : (1 + (r4 : Int)).toNat = 1 + r4 := by omega
    rw [enat]
    have hpz := A4.2.ne np
    have hpH := A4.none np
    refine loop_range (fun i σ H5 => ∃ u, σ = [u, some (.ref z), some (.str e)] ∧ Aft z H H5 ∧ ∃ b, LBk z p b H5 ∧ b.length = i ∧ ∀ t ∈ b, t.2 = [] ∧ escD (.str t.1) = true ∧ ∀ c ∈ t.1.cps.toList, c ∈ S) ⟨none, rfl, A4.new np, [], ⟨hpz, [], upd_same, .nil⟩, rfl, by simp⟩ ?_ ?_
    · rintro i σ H5 hi ⟨u, rfl, A5, b, L5, hbl, hb⟩
      refine ⟨_, rfl, by show (3 : Nat) ≤ _; omega, fun l nl => ⟨_, rfl, z, 3, rfl, (A5.new nl).2, by decide, by decide, fun r H6 hr6 a6 => ?_⟩⟩
      have A56 : Aft z H5 H6 := ((Aft.refl A5.2).new nl).trans a6
      have hl6 := a6.1 l _ (A5.2.ne nl) upd_same
      obtain ⟨v6, hv6, hm6⟩ := pickH hl6 (r := r) (by show r < 3; omega)
      obtain ⟨y, ey, hy1, hy2⟩ : ∃ x, v6 = .str x ∧ escD (.str x) = true ∧ ∀ c ∈ x.cps.toList, c ∈ S := by
        simp only [List.mem_cons, List.not_mem_nil, or_false] at hm6
        rcases hm6 with rfl | rfl | rfl
        · exact ⟨_, rfl, he1, hSe⟩
        · exact ⟨_, rfl, by decide +kernel, fun c hc => by rw [show (Str.ofString "").cps.toList = [] by decide +kernel] at hc; cases hc⟩
        · exact ⟨_, rfl, by decide +kernel, fun c hc => by rw [show (Str.ofString "\\").cps.toList = [92] by decide +kernel] at hc; rw [List.mem_singleton.mp hc]; exact hSb⟩
      subst ey
      have hyl : y.length ≤ 1 := by unfold escD at hy1; simp at hy1; exact hy1.1
      refine ⟨l, _, r, _, rfl, rfl, SqL.of hl6, atI_nat hv6, Nat.zero_le _, fun q1 nq1 => ⟨by show (2 : Nat) ≤ _; omega, fun q2 nq2 => ?_⟩⟩
      have A58 := (A56.new (o := .tup []) nq1).new (o := .tup [.str y, .ref q1]) nq2
      have h8q2 : upd (upd H6 q1 (.tup [])) q2 (.tup [.str y, .ref q1]) q2 = some (.tup [.str y, .ref q1]) := upd_same
      have h8q1 : upd (upd H6 q1 (.tup [])) q2 (.tup [.str y, .ref q1]) q1 = some (.tup []) := Same.new nq2 _ _ upd_same
      generalize upd (upd H6 q1 (.tup [])) q2 (.tup [.str y, .ref q1]) = H8 at A58 h8q2 h8q1
      obtain ⟨_, vs, hp8, r8⟩ := L5.aft A58.1
      have hvl : vs.length = b.length := by have := r8.length; simpa using this
      refine ⟨vs, hp8, by omega, ⟨_, rfl, (A5.trans A58).upd hpH hpz, b ++ [(y, [])], ⟨hpz, vs ++ [.ref q2], upd_same, ?_⟩, by simp [hbl], fun t ht => ?_⟩⟩
      · rw [mask_upd, List.map_append]
        have n2 : q2 ≠ p := ne_of h8q2 hp8 (by intro z; cases z)
        have n1 : q1 ≠ p := ne_of h8q1 hp8 (by intro z; cases z)
        exact r8.append (.cons (.tup (by rw [mask_ne n2]; exact h8q2) (A58.2.neT h8q2) (.cons (.str y (by omega)) (.cons (.tup (by rw [mask_ne n1]; exact h8q1) (A58.2.neT h8q1) .nil) .nil))) .nil)
      · rcases List.mem_append.mp ht with ht | ht
        · exact hb t ht
        · have : t = (y, []) := by simpa using ht
          subst this
          exact ⟨rfl, hy1, hy2⟩
    · rintro σ H5 ⟨u, rfl, A5, b, L5, hbl, hb⟩
      refine hU _ _ (seq_hide fun U hU => ?_)
      refine ⟨_, rfl, _, rfl, 3, 1 + r4, rfl, rfl, .inl ⟨by decide, by decide⟩, z, 3 * (1 + r4), rfl, A5.2, by omega, by omega, fun r5 H6 hr5 a6 => ?_⟩
      refine ⟨2, r5, rfl, rfl, 2 + r5, rfl, by omega, by omega, ?_⟩
      have hok0 : ∀ t ∈ b, TgOk b.length t := fun t ht => by
        obtain ⟨h1, h2, _⟩ := hb t ht
        refine ⟨h2, by rw [h1]; decide, fun d hd => ?_⟩
        rw [h1] at hd
        cases hd
      refine for_range (fun i σ H7 => ∃ a b u5 u6 u7 u8, σ = [some (.ref z), some (.str x), some (.str e), some (.int (1 + r4)), some (.ref a), u5, u6, u7, u8] ∧ Aft z H H7 ∧ LBk z a b H7 ∧ b.length = 1 + r4 ∧ (∀ t ∈ b, TgOk b.length t) ∧ fitsB b = true ∧ SgB S b)
        ⟨p, b, none, none, none, none, rfl, A5.trans a6, L5.aft a6.1, hbl, hok0, fits_empty fun t ht => (hb t ht).1, fun t ht => ⟨(hb t ht).2.2, fun d hd => by rw [(hb t ht).1] at hd; cases hd⟩⟩ ?_ ?_
      · clear hok0 hb hbl L5 hr5
        rintro i σ H7 hi ⟨a, b, u5, u6, u7, u8, rfl, A7, L7, hbl, hok, hfit, hsg⟩
        show (tSeq _ _) _ _ _
        refine D_hide fun D1 hD1 _ _ _ => seq_hide fun U1 hV => ?_
        refine ⟨_, rfl, _, rfl, z, 1 + r4, rfl, A7.2, by omega, by omega, fun r6 H8 hr6 a8 => ?_⟩
        refine ⟨by show (2 : Nat) ≤ _; omega, fun p4 np4 => ⟨_, rfl, z, 2, rfl, (a8.new np4).2, by decide, by decide, fun r7 H9 hr7 a9 => ?_⟩⟩
        have A9 : Aft z H7 H9 := (a8.new np4).trans a9
        have hp9 := a9.1 p4 _ (a8.2.ne np4) upd_same
        obtain ⟨at', hat, hatm⟩ : ∃ at' : Nat, ([V.int 0, V.int r6] : List V)[r7]? = some (.int at') ∧ at' < 1 + r4 := by
          match r7, hr7 with
          | 0, _ => exact ⟨0, rfl, by omega⟩
          | 1, _ => exact ⟨r6, rfl, by omega⟩
          | m + 2, h => omega
        refine ⟨p4, _, r7, _, rfl, rfl, SqL.of hp9, atI_nat hat, hV _ _ (seq_hide fun U1 hV => ?_)⟩
        refine ⟨_, rfl, _, rfl, z, x, rfl, A9.2, hx1, hx2, hx3, fun m1 H10 hm1 hs1 a10 => ⟨_, rfl, _, rfl, z, 1 + r4, rfl, a10.2, by omega, by omega, fun r8 H11 hr8 a11 => ⟨_, rfl, _, rfl, z, x, rfl, a11.2, hx1, hx2, hx3, fun m2 H12 hm2 hs2 a12 => ⟨by show (3 : Nat) ≤ _; omega, fun q0 nq0 => hV _ _ (seq_hide fun U1 hV => ?_)⟩⟩⟩⟩
        have A13 := (((A9.trans a10).trans a11).trans a12).new (o := .tup [.str m1, .int r8, .str m2]) nq0
        have hq0 : upd H12 q0 (.tup [.str m1, .int r8, .str m2]) q0 = some (.tup [.str m1, .int r8, .str m2]) := upd_same
        generalize upd H12 q0 (.tup [.str m1, .int r8, .str m2]) = H13 at A13 hq0
        obtain ⟨haz, vs, ha13, R13⟩ := L7.aft A13.1
        have hvl : vs.length = b.length := by have := R13.length; simpa using this
        refine ⟨_, rfl, a, vs, rfl, .inl (SqL.of ha13), fun l nl => hV _ _ (seq_hide fun U1 hV => ?_)⟩
        have hatb : at' < b.length := by omega
        have htok := hok _ (getD_mem tg0 hatb)
        obtain ⟨c, d, ys, ec, hcz, hdz, hc, hd, hyl, Ry⟩ := rep_tongue (reps_tongue (b := b) (i := at') R13 hatb)
        have hyl : ys.length = (b.getD at' tg0).2.length := hyl
        have exv : vs[at']? = some (.ref c) := by
          have h1 : at' < vs.length := by omega
          have h2 : vs.getD at' .non = vs[at'] := by simp [h1]
          rw [List.getElem?_eq_getElem h1, ← h2, ec]
        generalize hT : b.getD at' tg0 = tt at *
        have hc13 := (mask_some hc).2
        have hd13 := (mask_some hd).2
        have s14 : Same H13 (upd H13 l (.lst vs)) := Same.new nl
        have few := htok.2.1
        have el : tt.1.length ≤ 1 := by have := htok.1; unfold escD at this; simp at this; exact this.1
        refine ⟨_, rfl, _, rfl, a, vs, at', _, rfl, rfl, SqL.of (s14 _ _ ha13), atI_nat exv, c, _, 0, _, rfl, rfl, SqT.of (s14 _ _ hc13), atI_nat (j := 0) rfl, _, rfl, _, rfl, a, vs, at', _, rfl, rfl, SqL.of (s14 _ _ ha13), atI_nat exv, c, _, 1, _, rfl, rfl, SqT.of (s14 _ _ hc13), atI_nat (j := 1) rfl, _, rfl, by show (1 : Nat) ≤ _; omega, fun q1 nq1 => ?_⟩
        have s15 := Same.new (o := .tup [.ref q0]) nq1
        refine ⟨d, q1, ys, [.ref q0], rfl, rfl, s15 _ _ (s14 _ _ hd13), upd_same, by show ys.length + 1 ≤ _; omega, fun p2 H16 s16 hp2 => ⟨by show (2 : Nat) ≤ _; omega, fun q3 nq3 => ?_⟩⟩
        have s17 := Same.new (o := .tup [.str tt.1, .ref p2]) nq3
        have hq3 : upd H16 q3 (.tup [.str tt.1, .ref p2]) q3 = some (.tup [.str tt.1, .ref p2]) := upd_same
        have hl17 := s17 _ _ (s16 _ _ (s15 _ _ (upd_same (H := H13) (a := l) (o := .lst vs))))
        have hp17 := s17 _ _ hp2
        have sAll : Same H13 (upd H16 q3 (.tup [.str tt.1, .ref p2])) := s14.trans (s15.trans (s16.trans s17))
        generalize upd H16 q3 (.tup [.str tt.1, .ref p2]) = H17 at hq3 hl17 hp17 sAll
        refine ⟨_, rfl, _, rfl, l, vs, at', at', rfl, rfl, hl17, ixN_nat (by omega), hV _ _ ?_⟩
        have hlz := A13.2.ne nl
        have A18 : Aft z H7 (upd H17 l (.lst (vs.set at' (.ref q3)))) := (A13.same sAll).upd (A13.none nl) hlz
        have S18 : Aft z H13 (upd H17 l (.lst (vs.set at' (.ref q3)))) := ((Aft.refl A13.2).same sAll).upd nl hlz
        have hl18 : upd H17 l (.lst (vs.set at' (.ref q3))) l = some (.lst (vs.set at' (.ref q3))) := upd_same
        have hmask : mask l (upd H17 l (.lst (vs.set at' (.ref q3)))) = mask l H17 := mask_upd
        generalize upd H17 l (.lst (vs.set at' (.ref q3))) = H18 at A18 S18 hl18 hmask
        have L18 : LBk z l (b.set at' (tt.1, tt.2 ++ [(m1, (r8 : Int), m2)])) H18 := by
          refine ⟨hlz, _, hl18, ?_⟩
          rw [hmask, List.map_set]
          have n3 : q3 ≠ l := ne_of hq3 hl17 (by intro z; cases z)
          have n2 : p2 ≠ l := ne_of hp17 hl17 (by intro z; cases z)
          have n0 : q0 ≠ l := ne_of (sAll _ _ hq0) hl17 (by intro z; cases z)
          have b17 : Bag z H17 := (A13.same sAll).2
          have g1 := markS_len hm1
          have g2 := markS_len hm2
          refine Reps.set (.tup (by rw [mask_ne n3]; exact hq3) (b17.neT hq3) (.cons (.str tt.1 (by omega)) (.cons (.tup (by rw [mask_ne n2]; exact hp17) (b17.neT hp17) ?_) .nil))) at' (R13.mono (mask_new nl sAll.x))
          rw [List.map_append]
          exact (Ry.mono (mask_new nl sAll.x)).append (.cons (.tup (by rw [mask_ne n0]; exact sAll _ _ hq0) (A13.2.neT hq0) (.cons (.str m1 (by omega)) (.cons (.int (r8 : Int)) (.cons (.str m2 (by omega)) .nil)))) .nil)
        have La := L7.aft A18.1
        refine ⟨_, rfl, _, rfl, a, vs, at', _, rfl, rfl, SqL.of (S18.1 _ _ haz ha13), atI_nat exv, c, _, 1, _, rfl, rfl, SqT.of (S18.1 _ _ hcz hc13), atI_nat (j := 1) rfl, d, ys, rfl, .inr (SqT.of (S18.1 _ _ hdz hd13)), _, _, rfl, rfl, _, rfl, ?_⟩
        refine ite2 (fun g1 => ?_) (fun g1 => ?_)
        · have few6 : tt.2.length < 6 := by
            have := of_decide_eq_true g1
            omega
          have hbl' : (b.set at' (tt.1, tt.2 ++ [(m1, (r8 : Int), m2)])).length = b.length := by simp
          have hok' : ∀ t ∈ b.set at' (tt.1, tt.2 ++ [(m1, (r8 : Int), m2)]), TgOk (b.set at' (tt.1, tt.2 ++ [(m1, (r8 : Int), m2)])).length t := by
            rw [hbl']
            intro t ht
            rcases List.mem_or_eq_of_mem_set ht with ht | ht
            · exact hok t ht
            · subst ht
              refine ⟨htok.1, by simp; omega, fun dr hdr => ?_⟩
              rcases List.mem_append.mp hdr with hdr | hdr
              · exact htok.2.2 dr hdr
              · have : dr = (m1, (r8 : Int), m2) := by simpa using hdr
                subst this
                exact ⟨hm1, ⟨by show (0 : Int) ≤ r8; omega, by show (r8 : Int) < b.length; omega⟩, hm2⟩
          have hsg' : SgB S (b.set at' (tt.1, tt.2 ++ [(m1, (r8 : Int), m2)])) := fun t ht => by
            rcases List.mem_or_eq_of_mem_set ht with ht | ht
            · exact hsg t ht
            · subst ht
              have htt := hsg tt (by rw [← hT]; exact getD_mem tg0 hatb)
              refine ⟨htt.1, fun dr hdr => ?_⟩
              rcases List.mem_append.mp hdr with hdr | hdr
              · exact htt.2 dr hdr
              · have : dr = (m1, (r8 : Int), m2) := by simpa using hdr
                subst this
                exact ⟨fun c hc => hSx c (hs1 c hc), fun c hc => hSx c (hs2 c hc)⟩
          obtain ⟨_, ws, hw, Rw⟩ := id L18
          refine ⟨_, rfl, z, l, ws, _, rfl, .inr hw, Rw.mono mask_le, by omega, hok', fun H19 s19 => ⟨_, rfl, ?_⟩⟩
          cases gf : fitsB (b.set at' (tt.1, tt.2 ++ [(m1, (r8 : Int), m2)])) with
          | true => exact iteT ⟨_, rfl, hD1 _ _ ⟨l, _, _, _, _, _, rfl, A7.trans (A18.same s19), L18.aft s19.x, by omega, hok', gf, hsg'⟩⟩
          | false => exact iteF (hD1 _ _ ⟨a, b, _, _, _, _, rfl, A7.trans (A18.same s19), La.aft s19.x, hbl, hok, hfit, hsg⟩)
        · exact iteF (hD1 _ _ ⟨a, b, _, _, _, _, rfl, A7.trans A18, La, hbl, hok, hfit, hsg⟩)
      · rintro σ H7 ⟨a, b, u5, u6, u7, u8, rfl, A7, L7, hbl, hok, hfit, hsg⟩
        obtain ⟨haz, vs, ha, R7⟩ := L7
        refine hU _ _ ⟨_, rfl, a, vs, rfl, .inl ⟨SqL.of ha, fun l nl => k _ b _ S (A7.new nl) (.tup upd_same (A7.2.ne nl) ((R7.mono mask_le).mono (Same.new nl).x)) ⟨by omega, by omega, hok, ?_⟩ hsg hSl⟩⟩
        rw [← fits_book hok]
        exact hfit
end
end T1
namespace T1
open PySem L2
def Sm (m : Str) : Prop := 1 ≤ m.length ∧ m.length ≤ 4
def InB (b : Bk) (m : Str) : Prop := ∃ t ∈ b, m = t.1 ∨ ∃ d ∈ t.2, m = d.1 ∨ m = d.2.2
inductive spLMarks : List V → Hp → VK → XK → Prop where
  | mk {vs : List V} {H : Hp} {Q : VK} {E : XK} (z v b : _) (c1 : vs = [v]) (c2 : Rep z H v (bkD b)) (c3 : BkOk b) (c4 : ∀ p (ms : List Str) H', Same H H' → H p = none → H' p = some (.lst (ms.map V.str)) → ms.length ≤ 100 → (∀ m ∈ ms, Sm m ∧ InB b m) → Q (.ref p) H') : spLMarks vs H Q E
section
variable {P : Program} {w : World} {K : PySem.W.Frag} {mg : Str → Option Value} {base : Heap}
theorem scLMarks : FnScope ["book", "found", "escape", "doors", "door"] ["book"] (defScope lMarks) := ⟨rfl, rfl, rfl, by decide +kernel, rfl, by decide +kernel, by decide +kernel⟩
set_option maxHeartbeats 0 in
theorem ok_lmarks {f : Addr} {fd : FuncData} (F : Fun K "_law_marks" "_law_marks" lMarks f fd) : FnOk P w K mg base CX0 1 f fd ["book"] spLMarks := by
  refine F.ok scLMarks (fun vs H Q E h => ?_) (fun cdv A outer s H vs Q E hr h => ?_)
  · obtain ⟨z, v, b, rfl, _⟩ := h
    rfl
  · obtain ⟨z, v, b, rfl, R0, hok, k⟩ := h
    obtain ⟨a, xs, rfl, haz, ha, hxl, R⟩ := rep_book R0
    obtain ⟨hb1, hb6, htok, _⟩ := hok
    have nd := scLMarks.nd
    refine ⟨_, pss_cons (ps_set (i := 1) nd rfl (Or.inl rfl) (pe_lst pa_nil))
      (pss_cons (ps_for PassesOwn.never rfl (pi_tup (pv 0)) (pg_tup rfl (pgs_cons (pg_name (i := 2) nd rfl (Or.inl rfl)) (pgs_cons (pg_name (i := 3) nd rfl (Or.inl rfl)) pgs_nil)))
        (pss_cons (ps_for PassesOwn.never rfl (pi_tup (pv 3)) (pg_name (i := 4) nd rfl (Or.inl rfl)) (pss_one (ps_set (i := 1) nd rfl (Or.inl rfl) (pe_op op_cat (pv 1) (pe_lst (pa_cons (pe_ix ix_tup (pv 4) pe_int (fun _ _ => rfl)) (pa_cons (pe_ix ix_tup (pv 4) pe_int (fun _ _ => rfl)) pa_nil)))))))
        (pss_one (ps_if (pt_cmpR op_ne (pv 2) pe_str (nomark _)) (pss_one (ps_expr (pe_bm PySem.F.plainAttrs_list PySem.F.slot_list_append PySem.F.type_list_append mt_append (pv 1) (pa_cons (pv 2) pa_nil)))) pss_nil))))
      (pss_one (ps_ret (pv 1)))), ?_⟩
    dsimp only [cxOf, Cx.nox, Cx.wish]
    have big := big1000
    refine ⟨Nat.zero_le _, fun p0 np0 => ?_⟩
    have s0 : Same H (upd H p0 (.lst [])) := Same.new np0
    refine ⟨_, rfl, a, rfl, ⟨_, SqT.of (s0 _ _ ha)⟩, for_tup (K := K) (a := a) (xs := xs) (fun i σ H2 => ∃ p ms u2 u3 u4, σ = [some (.ref a), some (.ref p), u2, u3, u4] ∧ Same H H2 ∧ H p = none ∧ H2 p = some (.lst (ms.map V.str)) ∧ ms.length ≤ 13 * i ∧ ∀ m ∈ ms, Sm m ∧ InB b m)
      ⟨p0, [], none, none, none, rfl, s0, np0, by rw [upd_same]; rfl, by simp, by simp⟩ (fun i σ H2 _ ⟨_, _, _, _, _, _, s, _⟩ => SqT.of (s _ _ ha)) ?_ ?_⟩
    · rintro i y σ H2 hi ⟨p, ms, u2, u3, u4, rfl, s2, np, hp, hml, hms⟩
      have hil : i < b.length := by have := (List.getElem?_eq_some_iff.mp hi).1; omega
      have ey : y = xs.getD i .non := by rw [List.getD_eq_getElem?_getD, hi]; rfl
      have tok := htok _ (getD_mem tg0 hil)
      obtain ⟨c, d, ys, e, hcz, hdz, hc, hd, hyl, Ry⟩ := rep_tongue (reps_tongue (b := b) (i := i) R hil)
      have hyl : ys.length = (b.getD i tg0).2.length := hyl
      rw [ey, e]
      have hTb : b.getD i tg0 ∈ b := getD_mem tg0 hil
      generalize hT : b.getD i tg0 = tt at *
      have few := tok.2.1
      refine ⟨c, _, rfl, SqT.of (s2 _ _ hc), rfl, _, _, rfl, _, _, rfl, rfl, ?_⟩
      refine ⟨_, rfl, d, rfl, ⟨_, SqT.of (s2 _ _ hd)⟩, for_tup (K := K) (a := d) (xs := ys) (fun j σ H3 => ∃ p ms u4, σ = [some (.ref a), some (.ref p), some (.str tt.1), some (.ref d), u4] ∧ Same H H3 ∧ H p = none ∧ H3 p = some (.lst (ms.map V.str)) ∧ ms.length ≤ 13 * i + 2 * j ∧ ∀ m ∈ ms, Sm m ∧ InB b m)
        ⟨p, ms, _, rfl, s2, np, hp, by omega, hms⟩ (fun j σ H3 _ ⟨_, _, _, _, s, _⟩ => SqT.of (s _ _ hd)) ?_ ?_⟩
      · rintro j y2 σ H3 hj ⟨p, ms, u4, rfl, s3, np, hp, hml, hms⟩
        have hjl : j < tt.2.length := by have := (List.getElem?_eq_some_iff.mp hj).1; omega
        have ey2 : y2 = ys.getD j .non := by rw [List.getD_eq_getElem?_getD, hj]; rfl
        obtain ⟨q, e2, hqz, hq⟩ := rep_door (reps_door (ds := tt.2) (i := j) Ry hjl)
        have dok := tok.2.2 _ (getD_mem dr0 hjl)
        rw [ey2, e2]
        refine ⟨_, rfl, _, rfl, q, _, 0, _, rfl, rfl, SqT.of (s3 _ _ hq), atI_nat (j := 0) rfl, _, rfl, q, _, 2, _, rfl, rfl, SqT.of (s3 _ _ hq), atI_nat (j := 2) rfl, by show (2 : Nat) ≤ _; omega, fun l nl => ?_⟩
        have s4 := Same.new (o := .lst [.str (tt.2.getD j dr0).1, .str (tt.2.getD j dr0).2.2]) nl
        refine ⟨p, l, ms.map V.str, _, rfl, rfl, s4 _ _ hp, upd_same, by rw [List.length_map]; show _ + 2 ≤ _; omega, fun p2 np2 => ?_⟩
        have s5 := Same.new (o := .lst (ms.map V.str ++ [.str (tt.2.getD j dr0).1, .str (tt.2.getD j dr0).2.2])) np2
        refine ⟨p2, ms ++ [(tt.2.getD j dr0).1, (tt.2.getD j dr0).2.2], _, rfl, (s3.trans s4).trans s5, (s3.trans s4).free np2, by rw [upd_same]; simp, by rw [List.length_append]; show _ + 2 ≤ _; omega, fun m hm => ?_⟩
        rcases List.mem_append.mp hm with hm | hm
        · exact hms m hm
        · have g1 := markS_len dok.1
          have g2 := markS_len dok.2.2
          simp only [List.mem_cons, List.not_mem_nil, or_false] at hm
          rcases hm with rfl | rfl
          · exact ⟨⟨g1.2, g1.1⟩, tt, hTb, .inr ⟨_, getD_mem dr0 hjl, .inl rfl⟩⟩
          · exact ⟨⟨g2.2, g2.1⟩, tt, hTb, .inr ⟨_, getD_mem dr0 hjl, .inr rfl⟩⟩
      · rintro σ H3 ⟨p, ms, u4, rfl, s3, np, hp, hml, hms⟩
        refine ⟨_, rfl, rfl, _, rfl, ?_⟩
        have el : tt.1.length ≤ 1 := by have := tok.1; unfold escD at this; simp at this; exact this.1
        refine ite2 (fun g => ?_) (fun g => ?_)
        · refine ⟨_, rfl, .inl ⟨rfl, _, SqL.of hp⟩, _, rfl, p, _, _, rfl, rfl, hp, by rw [List.length_map]; omega, ?_⟩
          refine ⟨p, ms ++ [tt.1], _, _, _, rfl, fun b' o e' => by rw [upd_ne (ne_of_none e' np)]; exact s3 b' o e', np, by rw [upd_same]; simp, by rw [List.length_append]; show _ + 1 ≤ _; omega, fun m hm => ?_⟩
          rcases List.mem_append.mp hm with hm | hm
          · exact hms m hm
          · have : m = tt.1 := by simpa using hm
            subst this
            refine ⟨⟨?_, by omega⟩, tt, hTb, .inl rfl⟩
            rcases escD_cases tt.1 el with ⟨ex, _⟩ | ⟨c', ex, _⟩
            · rw [ex] at g
              simp at g
            · rw [ex]
              show 1 ≤ 1
              exact Nat.le_refl _
        · exact ⟨p, ms, _, _, _, rfl, s3, np, hp, by omega, hms⟩
    · rintro σ H2 ⟨p, ms, u2, u3, u4, rfl, s2, np, hp, hml, hms⟩
      exact ⟨_, rfl, k p ms H2 s2 np hp (by omega) hms⟩
end
end T1
namespace T1
open PySem L2
inductive spAll : List V → Hp → VK → XK → Prop where
  | mk {vs : List V} {H : Hp} {Q : VK} {E : XK} (q : Addr) (sg : List Str) (m : Nat) (c1 : vs = [.ref q, .int (m : Int)]) (c2 : H q = some (.lst (sg.map V.str))) (c3 : sg.length ≤ 3) (c4 : ∀ s ∈ sg, s.length ≤ 1) (c5 : m ≤ 6)
    (k : ∀ p (ts : List Str) H', Same H H' → H p = none → H' p = some (.lst (ts.map V.str)) → ts.length ≤ 6000 → (∀ t ∈ ts, t.length ≤ 6) → Q (.ref p) H') : spAll vs H Q E
theorem al_len (s t : Str) : (s ++ t).length = s.length + t.length := by
  show (s.cps ++ t.cps).size = _
  rw [Array.size_append]
  rfl
theorem al_pow {i : Nat} (h : i ≤ 6) : 3 ^ i ≤ 729 := Nat.le_trans (Nat.pow_le_pow_right (by decide) h) (by decide)
section
variable {P : Program} {w : World} {K : PySem.W.Frag} {mg : Str → Option Value} {base : Heap}
theorem scAll : FnScope ["signs", "most", "found", "last", "turn", "longer", "text"] ["signs", "most"] (defScope lAllTexts) := ⟨rfl, rfl, rfl, by decide +kernel, rfl, by decide +kernel, by decide +kernel⟩
theorem ndSiT : (["sign", "text"] : List Str).Nodup := by decide +kernel
set_option maxHeartbeats 0 in
theorem ok_all {f : Addr} {fd : FuncData} (F : Fun K "_law_all_texts" "_law_all_texts" lAllTexts f fd) (T : TxtB mg) : FnOk P w K mg base CX0 1 f fd ["signs", "most"] spAll := by
  refine F.ok scAll (fun vs H Q E h => ?_) (fun cdv A outer s H vs Q E hr h => ?_)
  · obtain ⟨q, sg, m, rfl, _⟩ := h
    rfl
  · obtain ⟨q, sg, m, rfl, hq, hsl, hs1, hm6, k⟩ := h
    have nd := scAll.nd
    refine ⟨_, pss_cons (ps_set (i := 2) nd rfl (Or.inl rfl) (pe_lst (pa_K pe_str pa_nil)))
      (pss_cons (ps_set (i := 3) nd rfl (Or.inl rfl) (pe_lst (pa_K pe_str pa_nil)))
      (pss_cons (ps_for PassesOwn.never rfl (pi_range1 rfl T.range (pa_cons (pv 1) pa_nil)) (pg_name (i := 4) nd rfl (Or.inl rfl))
        (pss_cons (ps_set (i := 5) nd rfl (Or.inl rfl) (pe_lst pa_nil))
        (pss_cons (ps_for PassesOwn.never rfl (pi_list (pv 3)) (pg_name (i := 6) nd rfl (Or.inr rfl))
          (pss_one (ps_set (i := 5) nd rfl (Or.inl rfl) (pe_op op_cat (pv 5) (pe_comp1 (N' := ["sign", "text"]) (js := [none, some 6]) rfl rfl (blk_of (defScope lAllTexts) (by decide +kernel)) ⟨rfl, Or.inr (Or.inl rfl), rfl, trivial⟩ (pi_list (pv 0))
            (fun cl s H fp => pg_name (i := 0) ndSiT rfl (Or.inl rfl)) (fun cl s H fp => pts_nil) (fun cl s H fp => pe_op op_add_str (pv 1) (pv 0)))))))
        (pss_cons (ps_set (i := 3) nd rfl (Or.inl rfl) (pv 5))
        (pss_one (ps_set (i := 2) nd rfl (Or.inl rfl) (pe_op op_cat (pv 2) (pv 3))))))))
      (pss_one (ps_ret (pv 2))))), ?_⟩
    dsimp only [cxOf, Cx.nox, Cx.wish]
    have big2 : (100000 : Nat) ≤ sizeLine := by rw [sizeLine_eq]; decide
    refine D_hide fun D0 _ hR0 _ _ => seq_hide fun U hU => ?_
    refine ⟨by show (1 : Nat) ≤ _; omega, fun p1 np1 => hU _ _ (seq_hide fun U hU => ?_)⟩
    have s1 := Same.new (o := .lst [.str ""]) np1
    have hp1 := upd_same (H := H) (a := p1) (o := .lst [.str ""])
    generalize upd H p1 (.lst [.str ""]) = H1 at *
    refine ⟨by show (1 : Nat) ≤ _; omega, fun p2 np2 => hU _ _ (seq_hide fun U hU => ?_)⟩
    have s2 := Same.new (o := .lst [.str ""]) np2
    have hp2 := upd_same (H := H1) (a := p2) (o := .lst [.str ""])
    have np2' : H p2 = none := s1.free np2
    have hp1' := s2 _ _ hp1
    have s12 := s1.trans s2
    generalize upd H1 p2 (.lst [.str ""]) = H2 at *
    refine ⟨_, rfl, (m : Int), rfl, by omega, by omega, ?_⟩
    have em : ((m : Int)).toNat = m := by omega
    rw [em]
    refine for_range (fun i σ H3 => ∃ pf pl fs ls u4 u5 u6, σ = [some (.ref q), some (.int (m : Int)), some (.ref pf), some (.ref pl), u4, u5, u6] ∧ Same H H3 ∧ H pf = none ∧ H pl = none ∧ H3 pf = some (.lst ((fs : List Str).map V.str)) ∧ H3 pl = some (.lst ((ls : List Str).map V.str)) ∧ ls.length ≤ 3 ^ i ∧ fs.length ≤ (i + 1) * 3 ^ i ∧ (∀ t ∈ ls, t.length ≤ i) ∧ ∀ t ∈ fs, t.length ≤ i)
      ⟨p1, p2, [Str.ofString ""], [Str.ofString ""], _, _, _, rfl, s12, np1, np2', hp1', hp2, by decide, by decide, by decide +kernel, by decide +kernel⟩ (fun i σ H3 hi ⟨pf, pl, fs, ls, u4, u5, u6, hσ, s3, npf, npl, hpf, hpl, hll, hfl, hlt, hft⟩ => ?_) (fun σ H3 ⟨pf, pl, fs, ls, u4, u5, u6, hσ, s3, npf, npl, hpf, hpl, hll, hfl, hlt, hft⟩ => ?_)
    · subst hσ
      obtain ⟨pw, hpw⟩ : ∃ pw, pw = 3 ^ i := ⟨_, rfl⟩
      have hpw1 : pw ≤ 729 := by rw [hpw]; exact al_pow (by omega)
      have hpw2 : 3 ^ (i + 1) = 3 * pw := by rw [Nat.pow_succ, ← hpw, Nat.mul_comm]
      have hpw3 : (i + 1) * 3 ^ i ≤ 7 * 729 := Nat.mul_le_mul (by omega) (al_pow (by omega))
      rw [← hpw] at hll hpw3 hfl
      show gName _ _ _ _ _
      dsimp only [gName]
      refine seq_hide fun U1 hU1 => ?_
      refine ⟨Nat.zero_le _, fun pg npg => hU1 _ _ (seq_hide fun U1 hU1 => ?_)⟩
      have s4 := Same.new (o := .lst []) npg
      have hpg := upd_same (H := H3) (a := pg) (o := .lst [])
      have hpl4 := s4 _ _ hpl
      have npg' : H pg = none := s3.free npg
      have hpgl : pg ≠ pl := fun g => by rw [g, hpl] at npg; cases npg
      generalize upd H3 pg (.lst []) = H4 at *
      refine ⟨_, rfl, pl, rfl, ⟨_, SqL.of hpl4⟩, for_list (K := K) (a := pl) (xs := ls.map V.str) (fun j σ H5 => ∃ pg gs u6, σ = [some (.ref q), some (.int (m : Int)), some (.ref pf), some (.ref pl), some (.int (0 + i)), some (.ref pg), u6] ∧ Same H4 H5 ∧ H pg = none ∧ H5 pg = some (.lst ((gs : List Str).map V.str)) ∧ gs.length ≤ 3 * j ∧ ∀ t ∈ gs, t.length ≤ i + 1) ⟨pg, [], _, rfl, Same.refl _, npg', hpg, by decide, (fun t h => nomatch h)⟩
        (fun j σ H5 _ ⟨_, _, _, _, s, _⟩ => SqL.of (s _ _ hpl4)) (fun j y σ H5 hj ⟨pg, gs, u6, hσ, s5, npg, hpg, hgl, hgt⟩ => ?_) (fun σ H5 ⟨pg, gs, u6, hσ, s5, npg, hpg, hgl, hgt⟩ => ?_)⟩
      · subst hσ
        obtain ⟨tx, htx, rfl⟩ : ∃ tx, ls[j]? = some tx ∧ y = V.str tx := by
          rw [List.getElem?_map] at hj
          cases e : ls[j]? with
          | none => rw [e] at hj; cases hj
          | some t => rw [e] at hj; injection hj with hj; exact ⟨t, rfl, hj.symm⟩
        have hjl : j < ls.length := (List.getElem?_eq_some_iff.mp htx).1
        have htl := hlt tx (List.mem_of_getElem? htx)
        have hq5 : H5 q = some (.lst (sg.map V.str)) := s5 _ _ (s4 _ _ (s3 _ _ hq))
        show gName _ _ _ _ _
        dsimp only [gName]
        refine ⟨_, rfl, _, rfl, q, rfl, ⟨_, SqL.of hq5⟩, fun pC npC => ?_⟩
        have hqC : q ≠ pC := ne_of_none hq5 npC
        refine loop_new (fun l => some (V.str (tx ++ sg.getD l ⟨#[]⟩))) (fun σ => ∃ u, σ = [u, some (.str tx)]) ⟨none, rfl⟩ npC (by rw [List.length_map]; omega) (itok_lst (xs := sg.map V.str) (by rw [upd_ne hqC]; exact hq5) hqC) (fun l σ H6 C hl ⟨u, hu⟩ s6 hC => ?_) (fun σ H6 s6 hC6 => ?_)
        · subst hu
          have hl2 : l < sg.length := by rw [List.length_map] at hl; exact hl
          have ei : (sg.map V.str).getD l .non = V.str (sg.getD l ⟨#[]⟩) := by simp [hl2]
          have hs := hs1 (sg.getD l ⟨#[]⟩) (by rw [List.getD_eq_getElem?_getD, List.getElem?_eq_getElem hl2]; exact List.getElem_mem hl2)
          rw [ei]
          dsimp only [tYes, gName]
          rw [if_pos rfl]
          exact ⟨_, rfl, _, rfl, _, _, rfl, rfl, by omega, hC _ _ ⟨_, rfl⟩ (Same.refl _)⟩
        · rw [flatN_map, List.length_map] at hC6
          have e : (List.range sg.length).map (fun l => V.str (tx ++ sg.getD l ⟨#[]⟩)) = (sg.map fun s => tx ++ s).map V.str := by
            refine List.ext_getElem (by simp) fun i h1 h2 => ?_
            simp at h1
            simp [h1]
          rw [e] at hC6
          refine ⟨pg, pC, _, _, rfl, rfl, s6 _ _ hpg, hC6, by rw [List.length_map, List.length_map, List.length_map]; omega, fun pn npn => ?_⟩
          have s7 := Same.new (o := .lst (gs.map V.str ++ (sg.map fun s => tx ++ s).map V.str)) npn
          have s57 := (s5.trans s6).trans s7
          refine ⟨pn, gs ++ sg.map fun s => tx ++ s, _, rfl, s57, ((s3.trans s4).trans (s5.trans s6)).free npn, by rw [upd_same, List.map_append], by rw [List.length_append, List.length_map]; omega, fun t ht => ?_⟩
          rcases List.mem_append.mp ht with ht | ht
          · exact hgt t ht
          · obtain ⟨s', hs', rfl⟩ := List.mem_map.mp ht
            have := hs1 s' hs'
            rw [al_len]
            omega
      · subst hσ
        rw [List.length_map] at hgl
        refine hU1 _ _ ?_
        refine ⟨_, rfl, _, rfl, _, rfl, pf, pg, _, _, rfl, rfl, s5 _ _ (s4 _ _ hpf), hpg, by rw [List.length_map, List.length_map]; omega, fun pn npn => ?_⟩
        have s6 := Same.new (o := .lst (fs.map V.str ++ gs.map V.str)) npn
        have sA := (s3.trans s4).trans s5
        refine ⟨pn, pg, fs ++ gs, gs, _, _, _, rfl, sA.trans s6, sA.free npn, npg, by rw [upd_same, List.map_append], s6 _ _ hpg, by rw [hpw2]; omega, ?_, hgt, fun t ht => ?_⟩
        · rw [hpw2, List.length_append]
          have e : (i + 1 + 1) * (3 * pw) = (i + 1) * pw + ((i + 1) * pw + (i + 1) * pw + 3 * pw) := by
            rw [Nat.add_mul (i + 1) 1 (3 * pw), Nat.one_mul, Nat.mul_left_comm]
            omega
          rw [e]
          omega
        · rcases List.mem_append.mp ht with ht | ht
          · exact Nat.le_succ_of_le (hft t ht)
          · exact hgt t ht
    · subst hσ
      refine hU _ _ ⟨_, rfl, hR0 _ _ (k pf fs H3 s3 npf hpf ?_ fun t ht => Nat.le_trans (hft t ht) hm6)⟩
      have : (m + 1) * 3 ^ m ≤ 7 * 729 := Nat.mul_le_mul (by omega) (al_pow hm6)
      omega
end
end T1
namespace T1
open PySem L2
theorem ddS_nd {acc : List Str} {x : Str} (h : acc.Nodup) : (ddS acc x).Nodup := by
  unfold ddS
  split
  · exact h
  · rename_i g
    rw [List.nodup_append]
    refine ⟨h, by simp, fun a ha c hc => ?_⟩
    rw [List.mem_singleton.mp hc]
    exact fun e => g (e ▸ ha)
theorem fold_nd : ∀ (xs acc : List Str), acc.Nodup → (xs.foldl ddS acc).Nodup
  | [], _, h => h
  | x :: r, acc, h => fold_nd r _ (ddS_nd h)
theorem dd_nd (xs : List Str) : (dd xs).Nodup := fold_nd xs [] .nil
theorem al_nd {α : Type} [DecidableEq α] : ∀ {l m : List α}, l.Nodup → l ⊆ m → l.length ≤ m.length
  | [], _, _, _ => Nat.zero_le _
  | a :: l, m, hn, hs => by
    obtain ⟨h1, h2⟩ := List.nodup_cons.mp hn
    have ha : a ∈ m := hs List.mem_cons_self
    have ih := al_nd (m := m.erase a) h2 fun x hx => (List.mem_erase_of_ne (fun e => h1 (by rw [← e]; exact hx))).mpr (hs (List.mem_cons_of_mem _ hx))
    rw [List.length_erase_of_mem ha] at ih
    have := List.length_pos_of_mem ha
    rw [List.length_cons]
    omega
theorem few_signs {S : List Nat} {x : Str} (h : ∀ c ∈ x.cps.toList, c ∈ S) : (dd (sgns x)).length ≤ S.length := by
  have := al_nd (m := S.map fun c => (⟨#[c]⟩ : Str)) (dd_nd (sgns x)) fun k hk => by
    obtain ⟨c, hc, rfl⟩ := List.mem_map.mp (mem_dd.mp hk)
    exact List.mem_map_of_mem (h c hc)
  rw [List.length_map] at this
  exact this
theorem two_signs {x : Str} (ha : 97 ∈ x.cps.toList) (hb : 98 ∈ x.cps.toList) : 2 ≤ (dd (sgns x)).length := by
  have := al_nd (l := [(⟨#[97]⟩ : Str), ⟨#[98]⟩]) (m := dd (sgns x)) (by decide) fun k hk => by
    rcases List.mem_cons.mp hk with e | hk
    · rw [e]; exact mem_dd.mpr (List.mem_map_of_mem ha)
    · rw [List.mem_singleton.mp hk]; exact mem_dd.mpr (List.mem_map_of_mem hb)
  exact this
theorem glue_mem {c : Nat} : ∀ {xs : List Str}, c ∈ (PySem.Builtin.Str.glued (Str.ofString "") xs).cps.toList → ∃ m ∈ xs, c ∈ m.cps.toList := by
  have e0 : (Str.ofString "").cps = #[] := by decide +kernel
  have h : ∀ (l : List Str) (acc : Array Nat), c ∈ (l.foldl (fun acc p => acc ++ (Str.ofString "").cps ++ p.cps) acc).toList → c ∈ acc.toList ∨ ∃ m ∈ l, c ∈ m.cps.toList := by
    intro l
    induction l with
    | nil => intro acc h; exact .inl h
    | cons y r ih =>
      intro acc h
      rw [List.foldl_cons] at h
      rcases ih _ h with g | ⟨m, hm, g⟩
      · rw [e0] at g
        simp at g
        rcases g with g | g
        · exact .inl (by simpa using g)
        · exact .inr ⟨y, List.mem_cons_self, by simpa using g⟩
      · exact .inr ⟨m, List.mem_cons_of_mem _ hm, g⟩
  intro xs hx
  unfold PySem.Builtin.Str.glued at hx
  cases xs with
  | nil => cases hx
  | cons y r =>
    rcases h r y.cps hx with g | ⟨m, hm, g⟩
    · exact ⟨y, List.mem_cons_self, g⟩
    · exact ⟨m, List.mem_cons_of_mem _ hm, g⟩
theorem glue_len {m : Nat} : ∀ {xs : List Str}, (∀ y ∈ xs, y.length ≤ m) → (PySem.Builtin.Str.glued (Str.ofString "") xs).length ≤ xs.length * m := by
  have e0 : (Str.ofString "").cps = #[] := by decide +kernel
  have h : ∀ (l : List Str) (acc : Array Nat), (∀ y ∈ l, y.length ≤ m) → (l.foldl (fun acc p => acc ++ (Str.ofString "").cps ++ p.cps) acc).size ≤ acc.size + l.length * m := by
    intro l
    induction l with
    | nil => intro acc _; simp
    | cons c r ih =>
      intro acc hl
      rw [List.foldl_cons]
      have h1 := ih (acc ++ (Str.ofString "").cps ++ c.cps) fun y hy => hl y (List.mem_cons_of_mem _ hy)
      have h2 := hl c List.mem_cons_self
      have h3 : (acc ++ (Str.ofString "").cps ++ c.cps).size = acc.size + c.length := by rw [e0]; simp; rfl
      rw [h3] at h1
      rw [List.length_cons, Nat.add_mul]
      omega
  intro xs hx
  unfold PySem.Builtin.Str.glued
  cases xs with
  | nil => exact Nat.zero_le _
  | cons c r =>
    have h1 := h r c.cps fun y hy => hx y (List.mem_cons_of_mem _ hy)
    have h2 := hx c List.mem_cons_self
    rw [List.length_cons, Nat.add_mul]
    have h3 : c.cps.size = c.length := rfl
    rw [h3] at h1
    exact Nat.le_trans h1 (by omega)
theorem ab_list : (Str.ofString "ab").cps.toList = [97, 98] := by decide +kernel
theorem al_signs {S : List Nat} {b : Bk} {ms : List Str} (hS : SgB S b) (hSl : S.length ≤ 20) (hml : ms.length ≤ 100) (hms : ∀ m ∈ ms, Sm m ∧ InB b m) :
    (PySem.Builtin.Str.glued (Str.ofString "") ms ++ Str.ofString "ab").length ≤ 500 ∧ 2 ≤ (dd (sgns (PySem.Builtin.Str.glued (Str.ofString "") ms ++ Str.ofString "ab"))).length ∧ (dd (sgns (PySem.Builtin.Str.glued (Str.ofString "") ms ++ Str.ofString "ab"))).length < 64 := by
  have hl := glue_len (m := 4) (fun y hy => (hms y hy).1.2)
  have happ : (PySem.Builtin.Str.glued (Str.ofString "") ms ++ Str.ofString "ab").cps.toList = (PySem.Builtin.Str.glued (Str.ofString "") ms).cps.toList ++ [97, 98] := by
    rw [← ab_list]
    show (_ ++ _ : Array Nat).toList = _
    simp
  refine ⟨?_, two_signs (by rw [happ]; simp) (by rw [happ]; simp), ?_⟩
  · rw [al_len, show (Str.ofString "ab").length = 2 by decide +kernel]
    omega
  · have := few_signs (S := S ++ [97, 98]) (x := PySem.Builtin.Str.glued (Str.ofString "") ms ++ Str.ofString "ab") (fun c hc => by
      rw [happ] at hc
      rcases List.mem_append.mp hc with hc | hc
      · obtain ⟨m, hm, hcm⟩ := glue_mem hc
        obtain ⟨t, ht, h⟩ := (hms m hm).2
        refine List.mem_append_left _ ?_
        rcases h with e | ⟨d, hd, e | e⟩
        · rw [e] at hcm; exact (hS t ht).1 c hcm
        · rw [e] at hcm; exact ((hS t ht).2 d hd).1 c hcm
        · rw [e] at hcm; exact ((hS t ht).2 d hd).2 c hcm
      · exact List.mem_append_right _ hc)
    rw [List.length_append] at this
    have e2 : ([97, 98] : List Nat).length = 2 := rfl
    omega
end T1
namespace T1
open PySem L2
abbrev LDr := Int × Int × Str
def ldD (d : LDr) : D := .tup [.int d.1, .int d.2.1, .str d.2.2]
abbrev ld0 : LDr := (0, 0, ⟨#[]⟩)
theorem noL_lds : ∀ ds : List LDr, NoLs (ds.map ldD)
  | [] => .nil
  | d :: r => .cons (.tup (.cons (.int _) (.cons (.int _) (.cons (.str _) .nil)))) (noL_lds r)
theorem rep_ld {z : Addr} {H : Hp} {v : V} {d : LDr} (r : Rep z H v (ldD d)) : ∃ a, v = .ref a ∧ a ≠ z ∧ H a = some (.tup [.int d.1, .int d.2.1, .str d.2.2]) := by
  cases r with
  | tup h hz r =>
    cases r with
    | cons r1 r =>
      cases r with
      | cons r2 r =>
        cases r with
        | cons r3 r =>
          cases r
          cases r1
          cases r2
          cases r3
          exact ⟨_, rfl, hz, h⟩
theorem reps_ld {z : Addr} {H : Hp} {xs : List V} {ds : List LDr} {i : Nat} (r : Reps z H xs (ds.map ldD)) (hi : i < ds.length) : Rep z H (xs.getD i .non) (ldD (ds.getD i ld0)) := by
  have := r.get (i := i) (by simpa using hi)
  simpa [hi] using this
def LdOk (b : Bk) (ds : List LDr) : Prop := ∀ d ∈ ds, (0 ≤ d.2.1 ∧ d.2.1 < b.length) ∧ Sm d.2.2
def tongueL (ds : List LDr) : Int := match ds.getLast? with
  | some d => d.2.1
  | none => 0
def lastL (ds : List LDr) : List LDr := ds.drop (ds.length - 1)
def fitAt (x : Str) (i : Nat) (m : Str) : Bool := decide (V.str (cutS x (some (i : Int)) (some ((i : Int) + m.length))) = V.str m)
def someL (b : Bk) (ds : List LDr) : List Str := opensOf (b.getD (tongueL ds).toNat tg0).2 ++ (lastL ds).map (·.2.2)
def fitL (b : Bk) (ds : List LDr) (x : Str) (i : Nat) : List Str := (someL b ds).filter (fitAt x i)
theorem cut_last (vs : List V) : cutV vs (some (-1)) none = vs.drop (vs.length - 1) := by
  unfold cutV
  have e : HT.sIx vs.length 0 (some (-1)) = vs.length - 1 := by
    show (if (-1 : Int) < 0 then ((-1 : Int) + (vs.length : Int)).toNat else min (-1 : Int).toNat vs.length) = _
    rw [if_pos (by decide)]
    omega
  rw [e, HT.sIx_none]
  rw [List.take_of_length_le]
  rw [List.length_drop]
  exact Nat.le_refl _
theorem flatN_filt (so : List Str) (d : Str) (p : Str → Bool) : ∀ n, n ≤ so.length → flatN (fun i => (if p (so.getD i d) then some (V.str (so.getD i d)) else none).toList) n = ((so.take n).filter p).map V.str
  | 0, _ => by simp [flatN]
  | n + 1, h => by
    have hn : n < so.length := h
    simp only [flatN]
    rw [flatN_filt so d p n (by omega), List.take_add_one, List.filter_append, List.map_append]
    congr 1
    have e : so.getD n d = so[n] := by simp [hn]
    rw [e, List.getElem?_eq_getElem hn]
    cases g : p so[n] <;> simp [g]
def LDs (z : Addr) (H : Hp) (q : Addr) (ds : List LDr) : Prop := ∃ vs, H q = some (.lst vs) ∧ Reps z H vs (ds.map ldD)
theorem LDs.same {z : Addr} {H H' : Hp} {q : Addr} {ds : List LDr} (h : LDs z H q ds) (s : Same H H') : LDs z H' q ds := let ⟨vs, a, r⟩ := h; ⟨vs, s _ _ a, r.mono s.x⟩
structure Wrp (G : Prop) : Prop where
  out : G
theorem ite_join {c A B G : Prop} [Decidable c] (h1 : c → Wrp G → A) (h2 : ¬ c → Wrp G → B) (g : G) : if c then A else B := by
  by_cases h : c
  · rw [if_pos h]
    exact h1 h ⟨g⟩
  · rw [if_neg h]
    exact h2 h ⟨g⟩
inductive spFitting : List V → Hp → VK → XK → Prop where
  | mk {vs : List V} {H : Hp} {Q : VK} {E : XK} (z v b q ds x : _) (i : Nat) (c1 : vs = [v, .ref q, .str x, .int i]) (c2 : Rep z H v (bkD b)) (c3 : BkOk b) (c4 : LDs z H q ds) (c5 : LdOk b ds) (c6 : x.length ≤ 20000) (c7 : ∀ p (ys : List Str) H', Same H H' → H p = none → H' p = some (.lst (ys.map V.str)) → ys.Perm (fitL b ds x i) → ys.Pairwise (fun a c => c.length ≤ a.length) → Q (.ref p) H') : spFitting vs H Q E
section
variable {P : Program} {w : World} {K : PySem.W.Frag} {mg : Str → Option Value} {base : Heap}
theorem scFitting : FnScope ["book", "doors", "text", "place", "tongue", "some"] ["book", "doors", "text", "place"] (defScope lFitting) := ⟨rfl, rfl, rfl, by decide +kernel, rfl, by decide +kernel, by decide +kernel⟩
theorem ndMPT : (["mark", "place", "text"] : List Str).Nodup := by decide +kernel
set_option maxHeartbeats 0 in
theorem ok_fitting {f : Addr} {fd : FuncData} (F : Fun K "_law_fitting" "_law_fitting" lFitting f fd) (T : TxtB mg) : FnOk P w K mg base CX0 1 f fd ["book", "doors", "text", "place"] spFitting := by
  refine F.ok scFitting (fun vs H Q E h => ?_) (fun cdv A outer s H vs Q E hr h => ?_)
  · obtain ⟨z, v, b, q, ds, x, i, rfl, _⟩ := h
    rfl
  · obtain ⟨z, v, b, q, ds, x, i, rfl, R0, hok, ⟨vs, hq, RD⟩, hld, hx, k⟩ := h
    obtain ⟨a, xs, rfl, haz, ha, hxl, R⟩ := rep_book R0
    obtain ⟨hb1, hb6, htok, _⟩ := hok
    have nd := scFitting.nd
    refine ⟨_, pss_cons (ps_set (i := 4) nd rfl (Or.inl rfl) pe_int)
      (pss_cons (ps_if (pt_cmpR (op_ne_nil hr.units0) (pv 1) (pe_lst pa_nil) (nomark _)) (pss_one (ps_set (i := 4) nd rfl (Or.inl rfl) (pe_ix ix_tup (pe_ix ix_list (pv 1) (pe_un un_neg pe_int) (fun _ _ => rfl)) pe_int (fun _ _ => rfl)))) pss_nil)
      (pss_cons (ps_set (i := 5) nd rfl (Or.inl rfl) (pe_op op_cat
          (pe_comp1 (N' := ["door"]) (js := [none]) rfl rfl (blk_of (defScope lFitting) (by decide +kernel)) trivial (pi_tup (pe_ix ix_tup (pe_ix ix_tup (pv 0) (pv 4) (fun _ _ => rfl)) pe_int (fun _ _ => rfl)))
            (fun cl s H fp => pg_name (i := 0) ndD rfl (Or.inl rfl)) (fun cl s H fp => pts_nil) (fun cl s H fp => pe_ix ix_tupB (pv 0) pe_int (fun _ _ => rfl)))
          (pe_comp1 (N' := ["door"]) (js := [none]) rfl rfl (blk_of (defScope lFitting) (by decide +kernel)) trivial (pi_list (pe_slice sl_list (pv 1) (po_some (pe_un un_neg pe_int)) po_none))
            (fun cl s H fp => pg_name (i := 0) ndD rfl (Or.inl rfl)) (fun cl s H fp => pts_nil) (fun cl s H fp => pe_ix ix_tupB (pv 0) pe_int (fun _ _ => rfl)))))
      (pss_one (ps_ret (pe_rev (pe_sorted_len T.sorted T.len (pe_comp1 (N' := ["mark", "place", "text"]) (js := [none, some 3, some 2]) rfl rfl (blk_of (defScope lFitting) (by decide +kernel)) ⟨rfl, Or.inr (Or.inl rfl), rfl, rfl, Or.inr (Or.inl rfl), rfl, trivial⟩ (pi_list (pv 5))
          (fun cl s H fp => pg_name (i := 0) ndMPT rfl (Or.inl rfl)) (fun cl s H fp => pts_one (pt_cmpR op_eq (pe_slice sl_str (pv 2) (po_some (pv 1)) (po_some (pe_op op_add (pv 1) (pe_callB call_len_str (by rfl) T.len b_len (pa_cons (pv 0) pa_nil))))) (pv 0) (nomark _))) (fun cl s H fp => pv 0))) (pe_un un_neg pe_int) (fun σ H Q Q' ⟨i, e, h⟩ hm => ⟨i, e, hm _ _ h⟩)))))), ?_⟩
    dsimp only [cxOf, Cx.nox, Cx.wish]
    have big := big1000
    have hvl : vs.length = ds.length := by have := RD.length; simpa using this
    refine ⟨_, rfl, Nat.zero_le _, fun l nl => ?_⟩
    have s1 := Same.new (o := .lst []) nl
    have hql : q ≠ l := ne_of_none hq nl
    refine ⟨q, l, vs, rfl, rfl, s1 _ _ hq, upd_same, _, rfl, ?_⟩
    generalize upd H l (.lst []) = H1 at s1
    obtain ⟨tN, htN, htl⟩ : ∃ tN : Nat, tongueL ds = (tN : Int) ∧ tN < b.length := by
      unfold tongueL
      cases g : ds.getLast? with
      | none => exact ⟨0, rfl, by omega⟩
      | some d =>
        have := (hld d (List.mem_of_getLast? g)).1
        exact ⟨d.2.1.toNat, by show d.2.1 = _; omega, by omega⟩
    refine ite_join (G := ?G) (fun hne g => ?g1) (fun hne g => ?g2) ?g3
    case g1 =>
      have hpos : 0 < ds.length := by
        cases vs with
        | nil => simp at hne
        | cons _ _ => simp at hvl; omega
      have hlast : ds.getLast? = some (ds.getD (ds.length - 1) ld0) := by
        rw [List.getLast?_eq_getElem?]
        have : ds.length - 1 < ds.length := by omega
        simp [this]
      have htd : (ds.getD (ds.length - 1) ld0).2.1 = (tN : Int) := by
        rw [← htN]
        unfold tongueL
        rw [hlast]
      obtain ⟨ad, ed, hadz, had⟩ := rep_ld ((reps_ld (ds := ds) (i := ds.length - 1) RD (by omega)).mono s1.x)
      have hat : atI vs (-1) = some (.ref ad) := by
        have e1 : ixN vs.length (-1) = some (vs.length - 1) := by
          unfold ixN
          rw [if_neg (by decide), if_pos (by omega)]
          congr 1
          omega
        unfold atI
        rw [e1]
        show vs[vs.length - 1]? = _
        have h1 : vs.length - 1 < vs.length := by omega
        have h2 : vs.getD (vs.length - 1) .non = vs[vs.length - 1] := by simp [h1]
        rw [List.getElem?_eq_getElem h1, ← h2, hvl, ed]
      refine ⟨_, rfl, 1, rfl, q, vs, -1, _, rfl, rfl, SqL.of (s1 _ _ hq), hat, ad, _, 1, _, rfl, rfl, SqT.of had, atI_nat (j := 1) rfl, ?_⟩
      show (tSeq _ _) _ [some (.ref a), some (.ref q), some (.str x), some (.int i), some (.int (ds.getD (ds.length - 1) ld0).2.1), none] _
      rw [htd]
      exact g.out
    case g2 =>
      have hz : ds.length = 0 := by
        cases vs with
        | nil => simp at hvl; omega
        | cons _ _ => simp at hne
      have htd : (some (V.int 0) : Option V) = some (V.int (tN : Int)) := by
        rw [← htN]
        unfold tongueL
        have : ds = [] := List.eq_nil_of_length_eq_zero hz
        rw [this]
        rfl
      show (tSeq _ _) _ [some (.ref a), some (.ref q), some (.str x), some (.int i), some (.int 0), none] _
      rw [htd]
      exact g.out
    case g3 =>
      obtain ⟨c, d, ys, ec, hcz, hdz, hc, hd, hyl, Ry⟩ := rep_tongue ((reps_tongue (b := b) (i := tN) R htl).mono s1.x)
      have exv : xs[tN]? = some (.ref c) := by
        have h1 : tN < xs.length := by omega
        have h2 : xs.getD tN .non = xs[tN] := by simp [h1]
        rw [List.getElem?_eq_getElem h1, ← h2, ec]
      have tok := htok _ (getD_mem tg0 htl)
      have hyl : ys.length = (b.getD tN tg0).2.length := hyl
      have etn : b.getD (tongueL ds).toNat tg0 = b.getD tN tg0 := by rw [htN]; rfl
      have hfit : fitL b ds x i = (opensOf (b.getD tN tg0).2 ++ (lastL ds).map (·.2.2)).filter (fitAt x i) := by unfold fitL someL; rw [etn]
      rw [hfit] at k
      clear hfit etn
      generalize hT : b.getD tN tg0 = tt at *
      have few := tok.2.1
      refine ⟨_, rfl, _, rfl, a, xs, tN, _, rfl, rfl, SqT.of (s1 _ _ ha), atI_nat exv, c, _, 1, _, rfl, rfl, SqT.of hc, atI_nat (j := 1) rfl, d, rfl, ⟨_, SqT.of hd⟩, fun pA npA => ?_⟩
      have hdp : d ≠ pA := ne_of_none hd npA
      refine loop_map (fun j => .str (tt.2.getD j dr0).1) (fun σ => ∃ v, σ = [v]) ⟨none, rfl⟩ npA (by omega) (itok_tup (xs := ys) (by rw [upd_ne hdp]; exact hd) hdp) (fun j σ H2 C hj ⟨v, hv⟩ hS2 hC => ?_) (fun σ H2 s2 hH2 => ?_)
      · subst hv
        obtain ⟨q3, e3, hq3z, hq3⟩ := rep_door ((reps_door (ds := tt.2) (i := j) Ry (by omega)).mono hS2.x)
        rw [e3]
        exact ⟨_, rfl, q3, _, 0, _, rfl, rfl, SqT.of hq3, atI_nat (j := 0) rfl, hC _ H2 ⟨_, rfl⟩ (Same.refl _)⟩
      have hO : H2 pA = some (.lst ((opensOf tt.2).map V.str)) := by
        rw [hH2, hyl]
        unfold opensOf
        rw [List.map_map]
        exact congrArg (fun x => some (HO.lst x)) (range_map tt.2 dr0 fun d => V.str d.1)
      have hq2 := s2 _ _ (s1 _ _ hq)
      refine ⟨_, rfl, 1, rfl, -1, rfl, q, vs, rfl, SqL.of hq2, fun lB nlB => ⟨lB, rfl, ⟨_, SqL.of upd_same⟩, fun pB npB => ?_⟩⟩
      have sB := Same.new (o := .lst (cutV vs (some (-1)) none)) nlB
      have hlB : upd H2 lB (.lst (cutV vs (some (-1)) none)) lB = some (.lst (vs.drop (vs.length - 1))) := by rw [upd_same, cut_last]
      have hlBp : lB ≠ pB := ne_of_none hlB npB
      have RL : Reps z (upd H2 lB (.lst (cutV vs (some (-1)) none))) (vs.drop (vs.length - 1)) ((lastL ds).map ldD) := by
        unfold lastL
        rw [List.map_drop, hvl]
        exact (RD.mono ((s1.trans s2).trans sB).x).drop _
      have hll : (vs.drop (vs.length - 1)).length = (lastL ds).length := by have := RL.length; simpa using this
      have hl1 : (lastL ds).length ≤ 1 := by unfold lastL; rw [List.length_drop]; omega
      refine loop_map (fun j => .str ((lastL ds).getD j ld0).2.2) (fun σ => ∃ v, σ = [v]) ⟨none, rfl⟩ npB (by omega) (itok_lst (xs := vs.drop (vs.length - 1)) (by rw [upd_ne hlBp]; exact hlB) hlBp) (fun j σ H3 C hj ⟨v, hv⟩ hS3 hC => ?_) (fun σ H3 s3 hH3 => ?_)
      · subst hv
        obtain ⟨q3, e3, hq3z, hq3⟩ := rep_ld ((reps_ld (ds := lastL ds) (i := j) RL (by omega)).mono hS3.x)
        rw [e3]
        exact ⟨_, rfl, q3, _, 2, _, rfl, rfl, SqT.of hq3, atI_nat (j := 2) rfl, hC _ H3 ⟨_, rfl⟩ (Same.refl _)⟩
      have hC3 : H3 pB = some (.lst (((lastL ds).map (·.2.2)).map V.str)) := by
        rw [hH3, hll, List.map_map]
        exact congrArg (fun x => some (HO.lst x)) (range_map (lastL ds) ld0 fun d => V.str d.2.2)
      have s23 := sB.trans s3
      have hopl : ((opensOf tt.2).map V.str).length ≤ 6 := by unfold opensOf; simp; omega
      have hcll : (((lastL ds).map (·.2.2)).map V.str).length ≤ 1 := by simp; omega
      refine ⟨pA, pB, _, _, rfl, rfl, s23 _ _ hO, hC3, by omega, fun pS npS => ?_⟩
      rw [← List.map_append]
      have s4 := Same.new (o := .lst ((opensOf tt.2 ++ (lastL ds).map (·.2.2)).map V.str)) npS
      have hpS : upd H3 pS (.lst ((opensOf tt.2 ++ (lastL ds).map (·.2.2)).map V.str)) pS = some (.lst ((opensOf tt.2 ++ (lastL ds).map (·.2.2)).map V.str)) := upd_same
      have S4 := ((s1.trans s2).trans s23).trans s4
      generalize upd H3 pS (.lst ((opensOf tt.2 ++ (lastL ds).map (·.2.2)).map V.str)) = H4 at S4 hpS
      have hsm : ∀ m ∈ opensOf tt.2 ++ (lastL ds).map (·.2.2), Sm m := fun m hm => by
        rcases List.mem_append.mp hm with hm | hm
        · obtain ⟨dd, hdd, rfl⟩ := List.mem_map.mp hm
          have g := markS_len (tok.2.2 dd hdd).1
          exact ⟨g.2, g.1⟩
        · obtain ⟨dd, hdd, rfl⟩ := List.mem_map.mp hm
          exact (hld dd (List.mem_of_mem_drop hdd)).2
      have hsl : (opensOf tt.2 ++ (lastL ds).map (·.2.2)).length ≤ 7 := by simp at hopl hcll ⊢; omega
      generalize opensOf tt.2 ++ (lastL ds).map (·.2.2) = so at *
      have hsm2 : (so.map V.str).length = so.length := List.length_map ..
      refine ⟨_, rfl, pS, rfl, ⟨_, SqL.of hpS⟩, fun pC npC => ?_⟩
      have hSC : pS ≠ pC := ne_of_none hpS npC
      refine loop_new (fun j => if fitAt x i (so.getD j ⟨#[]⟩) then some (.str (so.getD j ⟨#[]⟩)) else none) (fun σ => ∃ v, σ = [v, some (.int i), some (.str x)]) ⟨none, rfl⟩ npC (by omega) (itok_lst (xs := so.map V.str) (by rw [upd_ne hSC]; exact hpS) hSC) (fun j σ H5 C hj ⟨v, hv⟩ hS5 hC => ?_) (fun σ H5 s5 hH5 => ?_)
      · subst hv
        have hj' : j < so.length := by omega
        have ej : (so.map V.str).getD j .non = .str (so.getD j ⟨#[]⟩) := by simp [hj']
        have g := hsm _ (getD_mem ⟨#[]⟩ hj')
        rw [ej]
        have hC' := hC [some (.str (so.getD j ⟨#[]⟩)), some (.int i), some (.str x)] H5 ⟨_, rfl⟩ (Same.refl _)
        have hx2 : x.length ≤ sizeLine := by have : (20000 : Nat) ≤ sizeLine := by rw [sizeLine_eq]; decide
                                             omega
        refine ⟨_, rfl, _, rfl, i, rfl, _, rfl, _, rfl, _, rfl, by have := g.2; omega, i, _, rfl, rfl, _, rfl, x, rfl, hx2, _, rfl, rfl, _, rfl, ?_⟩
        show if fitAt x i (so.getD j ⟨#[]⟩) = true then _ else _
        cases g2 : fitAt x i (so.getD j ⟨#[]⟩) with
        | true =>
          rw [g2, if_pos rfl] at hC'
          exact iteT ⟨_, rfl, hC'⟩
        | false =>
          rw [g2, if_neg (by simp)] at hC'
          exact iteF hC'
      rw [hsm2, flatN_filt so ⟨#[]⟩ (fitAt x i) _ (Nat.le_refl _), List.take_length] at hH5
      have hfl : (so.filter (fitAt x i)).length ≤ 7 := Nat.le_trans (List.length_filter_le _ _) hsl
      refine ⟨pC, so.filter (fitAt x i), rfl, SqL.of hH5, by omega, fun y hy => by have := (hsm y (List.mem_filter.mp hy).1).2; omega, fun pT ys2 npT perm pw => ?_⟩
      have s6 := Same.new (o := .lst (ys2.map V.str)) npT
      refine ⟨1, rfl, pT, ys2.map V.str, rfl, rfl, SqL.of upd_same, fun pR npR => ?_⟩
      have s7 := Same.new (o := .lst (ys2.map V.str).reverse) npR
      refine k pR ys2.reverse _ ((S4.trans s5).trans (s6.trans s7)) (((S4.trans s5).trans s6).free npR) (by rw [upd_same, List.map_reverse]) ((List.reverse_perm ys2).trans perm) ?_
      rw [List.pairwise_reverse]
      exact pw.imp fun h => by simpa using h
end
end T1
namespace T1
open PySem L2
abbrev Stp := Int × Int × Str × Int × Int
def stV (s : Stp) : List V := [.int s.1, .int s.2.1, .str s.2.2.1, .int s.2.2.2.1, .int s.2.2.2.2]
def stD (s : Stp) : D := .tup [.int s.1, .int s.2.1, .str s.2.2.1, .int s.2.2.2.1, .int s.2.2.2.2]
def stepL (b : Bk) (ds : List LDr) (x : Str) (i : Nat) (m : Str) : Stp × List LDr :=
  if (b.getD (tongueL ds).toNat tg0).1 ≠ Str.ofString "" ∧ (⟨#[x.cps.getD i 0]⟩ : Str) = (b.getD (tongueL ds).toNat tg0).1 then
    (if i + 1 = x.length then (((i : Int), 1, Str.ofString "cut", tongueL ds, (ds.length : Int)), ds) else (((i : Int), 2, Str.ofString "escape", tongueL ds, (ds.length : Int)), ds))
  else if m = Str.ofString "" then (((i : Int), 1, Str.ofString "sign", tongueL ds, (ds.length : Int)), ds)
  else if ds ≠ [] ∧ m = (ds.getD (ds.length - 1) ld0).2.2 then (((i : Int), (m.length : Int), Str.ofString "close", tongueL ds.dropLast, (ds.length : Int) - 1), ds.dropLast)
  else match (b.getD (tongueL ds).toNat tg0).2.filter (fun d => d.1 == m) with
    | d :: _ => (((i : Int), (m.length : Int), Str.ofString "open", tongueL ds, (ds.length : Int)), ds ++ [((i : Int), d.2.1, d.2.2)])
    | [] => (((i : Int), 0, Str.ofString "", 0, 0), ds)
theorem ld_last {z : Addr} {H : Hp} {q : Addr} {ds : List LDr} {vs : List V} (RD : Reps z H vs (ds.map ldD)) (hpos : 0 < ds.length) : ∃ ad, atI vs (-1) = some (.ref ad) ∧ H ad = some (.tup [.int (ds.getD (ds.length - 1) ld0).1, .int (ds.getD (ds.length - 1) ld0).2.1, .str (ds.getD (ds.length - 1) ld0).2.2]) := by
  have hvl : vs.length = ds.length := by have := RD.length; simpa using this
  obtain ⟨ad, ed, hadz, had⟩ := rep_ld (reps_ld (ds := ds) (i := ds.length - 1) RD (by omega))
  refine ⟨ad, ?_, had⟩
  have e1 : ixN vs.length (-1) = some (vs.length - 1) := by
    unfold ixN
    rw [if_neg (by decide), if_pos (by omega)]
    congr 1
    omega
  unfold atI
  rw [e1]
  show vs[vs.length - 1]? = _
  have h1 : vs.length - 1 < vs.length := by omega
  have h2 : vs.getD (vs.length - 1) .non = vs[vs.length - 1] := by simp [h1]
  rw [List.getElem?_eq_getElem h1, ← h2, hvl, ed]
theorem tongue_last {ds : List LDr} (h : 0 < ds.length) : tongueL ds = (ds.getD (ds.length - 1) ld0).2.1 := by
  have hlast : ds.getLast? = some (ds.getD (ds.length - 1) ld0) := by
    rw [List.getLast?_eq_getElem?]
    have : ds.length - 1 < ds.length := by omega
    simp [this]
  unfold tongueL
  rw [hlast]
theorem tongue_nat {b : Bk} {ds : List LDr} (hld : LdOk b ds) (hb : 1 ≤ b.length) : ∃ tN : Nat, tongueL ds = (tN : Int) ∧ tN < b.length := by
  unfold tongueL
  cases g : ds.getLast? with
  | none => exact ⟨0, rfl, by omega⟩
  | some d =>
    have := (hld d (List.mem_of_getLast? g)).1
    exact ⟨d.2.1.toNat, by show d.2.1 = _; omega, by omega⟩
mutual
theorem Rep.butL {z q : Addr} {H H' : Hp} {l : List V} (hq : H q = some (.lst l)) (s : SameX q H H') : ∀ {v : V} {d : D}, Rep z H v d → NoL d → Rep z H' v d
  | _, _, .non, _ => .non
  | _, _, .bl b, _ => .bl b
  | _, _, .int i, _ => .int i
  | _, _, .str x h, _ => .str x h
  | _, _, .tup h hz r, .tup t => .tup (s _ _ (ne_of h hq (by intro q; cases q)) h) hz (Reps.butL hq s r t)
theorem Reps.butL {z q : Addr} {H H' : Hp} {l : List V} (hq : H q = some (.lst l)) (s : SameX q H H') : ∀ {vs : List V} {ds : List D}, Reps z H vs ds → NoLs ds → Reps z H' vs ds
  | _, _, .nil, _ => .nil
  | _, _, .cons h t, .cons h' t' => .cons (Rep.butL hq s h h') (Reps.butL hq s t t')
end
theorem first_pick {α : Type} (ds : List α) (d0 : α) (p : α → Bool) (g : Nat → V) : ∀ n, n ≤ ds.length → ((ds.take n).filter p = [] ∧ flatN (fun i => (if p (ds.getD i d0) then some (g i) else none).toList) n = []) ∨
    ∃ d r j, (ds.take n).filter p = d :: r ∧ j < n ∧ ds.getD j d0 = d ∧ (flatN (fun i => (if p (ds.getD i d0) then some (g i) else none).toList) n)[0]? = some (g j)
  | 0, _ => .inl ⟨by simp, rfl⟩
  | n + 1, h => by
    have hn : n < ds.length := h
    have e : ds.getD n d0 = ds[n] := by simp [hn]
    have et : (ds.take (n + 1)).filter p = (ds.take n).filter p ++ (if p ds[n] then [ds[n]] else []) := by
      rw [List.take_add_one, List.filter_append, List.getElem?_eq_getElem hn]
      cases g2 : p ds[n] <;> simp [g2]
    have ef : flatN (fun i => (if p (ds.getD i d0) then some (g i) else none).toList) (n + 1) = flatN (fun i => (if p (ds.getD i d0) then some (g i) else none).toList) n ++ (if p ds[n] then [g n] else []) := by
      simp only [flatN]
      rw [e]
      cases g2 : p ds[n] <;> rfl
    rcases first_pick ds d0 p g n (by omega) with ⟨h1, h2⟩ | ⟨d, r, j, h1, h2, h3, h4⟩
    · rw [et, ef, h1, h2]
      cases g2 : p ds[n] with
      | false => exact .inl ⟨rfl, rfl⟩
      | true => exact .inr ⟨ds[n], [], n, rfl, by omega, e, rfl⟩
    · refine .inr ⟨d, r ++ (if p ds[n] then [ds[n]] else []), j, by rw [et, h1]; rfl, by omega, h3, ?_⟩
      rw [ef, List.getElem?_append_left]
      · exact h4
      · exact (List.getElem?_eq_some_iff.mp h4).1
theorem Reps.dropLast {z : Addr} {H : Hp} {vs : List V} {ds : List D} (r : Reps z H vs ds) : Reps z H vs.dropLast ds.dropLast := by
  rw [List.dropLast_eq_take, List.dropLast_eq_take, r.length]
  exact r.take _
inductive spStep : List V → Hp → VK → XK → Prop where
  | mk {vs : List V} {H : Hp} {Q : VK} {E : XK} (z v b q ds x m : _) (i : Nat) (c1 : vs = [v, .ref q, .str x, .int i, .str m]) (c2 : Bag z H) (c3 : q ≠ z) (c4 : Rep z H v (bkD b)) (c5 : BkOk b) (c6 : LDs z H q ds) (c7 : LdOk b ds) (c8 : i < x.length) (c9 : x.length ≤ 20000) (c10 : ds.length ≤ 20000) (c11 : (m = Str.ofString "" ∨ m ∈ someL b ds)) (c12 : ∀ p H', SameX q H H' → H p = none → H' p = some (.tup (stV (stepL b ds x i m).1)) → LDs z H' q (stepL b ds x i m).2 → Q (.ref p) H') : spStep vs H Q E
section
variable {P : Program} {w : World} {K : PySem.W.Frag} {mg : Str → Option Value} {base : Heap}
theorem scStepL : FnScope ["book", "doors", "text", "place", "mark", "tongue", "depth", "cut", "around", "door"] ["book", "doors", "text", "place", "mark"] (defScope lStep) := ⟨rfl, rfl, rfl, by decide +kernel, rfl, by decide +kernel, by decide +kernel⟩
theorem ndOM2 : (["one", "mark"] : List Str).Nodup := by decide +kernel
set_option maxHeartbeats 0 in
theorem ok_lstep {f : Addr} {fd : FuncData} (F : Fun K "_law_step" "_law_step" lStep f fd) (T : TxtB mg) : FnOk P w K mg base CX0 1 f fd ["book", "doors", "text", "place", "mark"] spStep := by
  refine F.ok scStepL (fun vs H Q E h => ?_) (fun cdv A outer s H vs Q E hr h => ?_)
  · obtain ⟨z, v, b, q, ds, x, m, i, rfl, _⟩ := h
    rfl
  · obtain ⟨z, v, b, q, ds, x, m, i, rfl, hB, hqz, R0, hok, ⟨vs, hq, RD⟩, hld, hi, hx, hdl, hm, k⟩ := h
    obtain ⟨a, xs, rfl, haz, ha, hxl, R⟩ := rep_book R0
    obtain ⟨hb1, hb6, htok, _⟩ := hok
    have nd := scStepL.nd
    refine ⟨_, pss_cons (ps_set (i := 5) nd rfl (Or.inl rfl) pe_int)
      (pss_cons (ps_if (pt_cmpR (op_ne_nil hr.units0) (pv 1) (pe_lst pa_nil) (nomark _)) (pss_one (ps_set (i := 5) nd rfl (Or.inl rfl) (pe_ix ix_tup (pe_ix ix_list (pv 1) (pe_un un_neg pe_int) (fun _ _ => rfl)) pe_int (fun _ _ => rfl)))) pss_nil)
      (pss_cons (ps_set (i := 6) nd rfl (Or.inl rfl) (pe_callB call_len_seq (by rfl) T.len b_len (pa_cons (pv 1) pa_nil)))
      (pss_cons (ps_if (PW.pt (pw_and (pt_cmpR op_ne (pe_ix ix_tup (pe_ix ix_tup (pv 0) (pv 5) (fun _ _ => rfl)) pe_int (fun _ _ => rfl)) pe_str (nomark _)) (pw_and1 (pt_cmpR op_eq (pe_ix ix_str (pv 2) (pv 3) (fun _ _ => rfl)) (pe_ix ix_tup (pe_ix ix_tup (pv 0) (pv 5) (fun _ _ => rfl)) pe_int (fun _ _ => rfl)) (nomark _)))))
        (pss_cons (ps_set (i := 7) nd rfl (Or.inl rfl) (pe_callTy call_int1 (by rfl) T.int b_int (pa_cons (pe_cmpR op_eq (pe_op op_add (pv 3) pe_int) (pe_callB call_len_str (by rfl) T.len b_len (pa_cons (pv 2) pa_nil)) (nomark _)) pa_nil)))
        (pss_one (ps_ret (pe_tup (pa_cons (pv 3) (pa_B (pe_op op_sub pe_int (pv 7)) (pa_cons (pe_ix ix_list (pe_lst (pa_K pe_str (pa_K pe_str pa_nil))) (pv 7) (fun _ _ => rfl)) (pa_cons (pv 5) (pa_cons (pv 6) pa_nil))))))))) pss_nil)
      (pss_cons (ps_if (pt_cmpR op_eq (pv 4) pe_str (nomark _)) (pss_one (ps_ret (pe_tup (pa_cons (pv 3) (pa_K pe_int (pa_K pe_str (pa_cons (pv 5) (pa_cons (pv 6) pa_nil)))))))) pss_nil)
      (pss_cons (ps_if (PW.pt (pw_and (pt_cmpR (op_ne_nil hr.units0) (pv 1) (pe_lst pa_nil) (nomark _)) (pw_and1 (pt_cmpR op_eq (pv 4) (pe_ix ix_tup (pe_ix ix_list (pv 1) (pe_un un_neg pe_int) (fun _ _ => rfl)) pe_int (fun _ _ => rfl)) (nomark _)))))
        (pss_cons (ps_expr (pe_bm0 PySem.F.plainAttrs_list PySem.F.slot_list_pop PySem.F.type_list_pop mt_pop (pv 1)))
        (pss_cons (ps_set (i := 8) nd rfl (Or.inl rfl) pe_int)
        (pss_cons (ps_if (pt_cmpR (op_ne_nil hr.units0) (pv 1) (pe_lst pa_nil) (nomark _)) (pss_one (ps_set (i := 8) nd rfl (Or.inl rfl) (pe_ix ix_tup (pe_ix ix_list (pv 1) (pe_un un_neg pe_int) (fun _ _ => rfl)) pe_int (fun _ _ => rfl)))) pss_nil)
        (pss_one (ps_ret (pe_tup (pa_cons (pv 3) (pa_cons (pe_callB call_len_str (by rfl) T.len b_len (pa_cons (pv 4) pa_nil)) (pa_K pe_str (pa_cons (pv 8) (pa_B (pe_op op_sub (pv 6) pe_int) pa_nil)))))))))))  pss_nil)
      (pss_cons (ps_set (i := 9) nd rfl (Or.inl rfl) (pe_ix ix_list (pe_comp1 (N' := ["one", "mark"]) (js := [none, some 4]) rfl rfl (blk_of (defScope lStep) (by decide +kernel)) ⟨rfl, Or.inr (Or.inl rfl), rfl, trivial⟩ (pi_tup (pe_ix ix_tup (pe_ix ix_tup (pv 0) (pv 5) (fun _ _ => rfl)) pe_int (fun _ _ => rfl)))
          (fun cl s H fp => pg_name (i := 0) ndOM2 rfl (Or.inl rfl)) (fun cl s H fp => pts_one (pt_cmpR op_eq (pe_ix ix_tupB (pv 0) pe_int (fun _ _ => rfl)) (pv 1) (nomark _))) (fun cl s H fp => pv 0)) pe_int (fun _ _ => rfl)))
      (pss_cons (ps_expr (pe_bm PySem.F.plainAttrs_list PySem.F.slot_list_append PySem.F.type_list_append mt_append (pv 1) (pa_T (pe_tup (pa_cons (pv 3) (pa_cons (pe_ix ix_tup (pv 9) pe_int (fun _ _ => rfl)) (pa_cons (pe_ix ix_tup (pv 9) pe_int (fun _ _ => rfl)) pa_nil)))) pa_nil)))
      (pss_one (ps_ret (pe_tup (pa_cons (pv 3) (pa_cons (pe_callB call_len_str (by rfl) T.len b_len (pa_cons (pv 4) pa_nil)) (pa_K pe_str (pa_cons (pv 5) (pa_cons (pv 6) pa_nil))))))))))))))), ?_⟩
    dsimp only [cxOf, Cx.nox, Cx.wish]
    have big := big1000
    have big2 : (100000 : Nat) ≤ sizeLine := by rw [sizeLine_eq]; decide
    have hvl : vs.length = ds.length := by have := RD.length; simpa using this
    obtain ⟨tN, htN, htl⟩ := tongue_nat hld hb1
    refine ⟨_, rfl, Nat.zero_le _, fun l nl => ?_⟩
    have s1 := Same.new (o := .lst []) nl
    refine ⟨q, l, vs, rfl, rfl, s1 _ _ hq, upd_same, _, rfl, ?_⟩
    generalize upd H l (.lst []) = H1 at s1
    have htoN : (tongueL ds).toNat = tN := by rw [htN]; rfl
    have tok := htok _ (getD_mem tg0 htl)
    obtain ⟨c, d, ys, ec, hcz, hdz, hc, hd, hyl, Ry⟩ := rep_tongue ((reps_tongue (b := b) (i := tN) R htl).mono s1.x)
    have exv : xs[tN]? = some (.ref c) := by
      have h1 : tN < xs.length := by omega
      have h2 : xs.getD tN .non = xs[tN] := by simp [h1]
      rw [List.getElem?_eq_getElem h1, ← h2, ec]
    have hyl : ys.length = (b.getD tN tg0).2.length := hyl
    have hms : m = Str.ofString "" ∨ m ∈ opensOf (b.getD tN tg0).2 ∨ m ∈ (lastL ds).map (·.2.2) := by
      rcases hm with h | h
      · exact .inl h
      · unfold someL at h
        rw [htoN] at h
        exact .inr (List.mem_append.mp h)
    unfold stepL at k
    rw [htoN, htN] at k
    generalize hT : b.getD tN tg0 = tt at *
    have few := tok.2.1
    have hxi : x.cps.toList[i]? = some (x.cps.getD i 0) := by
      have : i < x.cps.size := hi
      simp [Array.getD, this]
    have hm4 : m.length ≤ 1000 := by
      rcases hms with rfl | h | h
      · decide +kernel
      · obtain ⟨dd, hdd, rfl⟩ := List.mem_map.mp h
        have := (markS_len (tok.2.2 dd hdd).1).1
        omega
      · obtain ⟨dd, hdd, rfl⟩ := List.mem_map.mp h
        have := (hld dd (List.mem_of_mem_drop hdd)).2.2
        omega
    refine ite_join (G := ?G) (fun hne g => ?g1) (fun hne g => ?g2) ?g3
    case g1 =>
      have hpos : 0 < ds.length := by
        cases vs with
        | nil => simp at hne
        | cons _ _ => simp at hvl; omega
      obtain ⟨ad, hat, had⟩ := ld_last (q := q) (RD.mono s1.x) hpos
      refine ⟨_, rfl, 1, rfl, q, vs, -1, _, rfl, rfl, SqL.of (s1 _ _ hq), hat, ad, _, 1, _, rfl, rfl, SqT.of had, atI_nat (j := 1) rfl, ?_⟩
      have htd := tongue_last hpos
      show (tSeq _ _) _ [some (.ref a), some (.ref q), some (.str x), some (.int i), some (.str m), some (.int (ds.getD (ds.length - 1) ld0).2.1), none, none, none, none] _
      rw [← htd, htN]
      exact g.out
    case g2 =>
      have hz : ds.length = 0 := by
        cases vs with
        | nil => simp at hvl; omega
        | cons _ _ => simp at hne
      have htd : (some (V.int 0) : Option V) = some (V.int (tN : Int)) := by
        rw [← htN]
        unfold tongueL
        have : ds = [] := List.eq_nil_of_length_eq_zero hz
        rw [this]
        rfl
      show (tSeq _ _) _ [some (.ref a), some (.ref q), some (.str x), some (.int i), some (.str m), some (.int 0), none, none, none, none] _
      rw [htd]
      exact g.out
    case g3 =>
      refine ⟨_, rfl, q, vs, rfl, .inl (SqL.of (s1 _ _ hq)), ?_⟩
      refine ⟨_, rfl, _, rfl, a, xs, tN, _, rfl, rfl, SqT.of (s1 _ _ ha), atI_nat exv, c, _, 0, _, rfl, rfl, SqT.of hc, atI_nat (j := 0) rfl, rfl, _, rfl, ?_⟩
      by_cases hesc : tt.1 ≠ Str.ofString "" ∧ (⟨#[x.cps.getD i 0]⟩ : Str) = tt.1
      · rw [if_pos hesc] at k
        have e1 : (!decide (V.str tt.1 = V.str (Str.ofString ""))) = true := by
          have : ¬ (V.str tt.1 = V.str (Str.ofString "")) := fun q => hesc.1 (by injection q)
          rw [decide_eq_false this]
          rfl
        rw [e1]
        refine iteT ⟨_, rfl, _, rfl, x, i, _, rfl, rfl, by omega, atI_nat hxi, _, rfl, _, rfl, a, xs, tN, _, rfl, rfl, SqT.of (s1 _ _ ha), atI_nat exv, c, _, 0, _, rfl, rfl, SqT.of hc, atI_nat (j := 0) rfl, rfl, _, rfl, ?_⟩
        rw [hesc.2, decide_eq_true rfl]
        refine iteT ⟨_, rfl, (i : Int), 1, rfl, rfl, _, rfl, x, rfl, by omega, rfl, .inr ⟨_, rfl, ?_⟩⟩
        by_cases hcut : i + 1 = x.length
        · rw [if_pos hcut] at k
          have e2 : decide (V.int ((i : Int) + 1) = V.int (x.length : Int)) = true := by
            have : ((i : Int) + 1) = (x.length : Int) := by omega
            rw [this]; simp
          rw [e2]
          refine ⟨_, rfl, _, rfl, 2, 1, rfl, rfl, by show (2 : Nat) ≤ _; omega, fun l2 nl2 => ⟨_, rfl, l2, _, 1, _, rfl, rfl, SqL.of upd_same, atI_nat (j := 1) rfl, _, rfl, _, rfl, by show (5 : Nat) ≤ _; omega, fun p np => ?_⟩⟩
          have s2 := (Same.new (o := .lst [.str (Str.ofString "escape"), .str (Str.ofString "cut")]) nl2)
          have s3 := s2.trans (Same.new (o := .tup [.int i, .int (2 - 1), .str (Str.ofString "cut"), .int tN, .int vs.length]) np)
          refine k p _ (s1.trans s3).x ((s1.trans s2).free np) ?_ ⟨vs, (s1.trans s3) _ _ hq, RD.mono (s1.trans s3).x⟩
          rw [upd_same, hvl]
          rfl
        · rw [if_neg hcut] at k
          have e2 : decide (V.int ((i : Int) + 1) = V.int (x.length : Int)) = false := by
            have : ¬ (V.int ((i : Int) + 1) = V.int (x.length : Int)) := fun q => hcut (by injection q with q; omega)
            exact decide_eq_false this
          rw [e2]
          refine ⟨_, rfl, _, rfl, 2, 0, rfl, rfl, by show (2 : Nat) ≤ _; omega, fun l2 nl2 => ⟨_, rfl, l2, _, 0, _, rfl, rfl, SqL.of upd_same, atI_nat (j := 0) rfl, _, rfl, _, rfl, by show (5 : Nat) ≤ _; omega, fun p np => ?_⟩⟩
          have s2 := (Same.new (o := .lst [.str (Str.ofString "escape"), .str (Str.ofString "cut")]) nl2)
          have s3 := s2.trans (Same.new (o := .tup [.int i, .int (2 - 0), .str (Str.ofString "escape"), .int tN, .int vs.length]) np)
          refine k p _ (s1.trans s3).x ((s1.trans s2).free np) ?_ ⟨vs, (s1.trans s3) _ _ hq, RD.mono (s1.trans s3).x⟩
          rw [upd_same, hvl]
          rfl
      · rw [if_neg hesc] at k
        refine ite_both (fun he g => ?_) ?_
        · refine ⟨_, rfl, _, rfl, x, i, _, rfl, rfl, by omega, atI_nat hxi, _, rfl, _, rfl, a, xs, tN, _, rfl, rfl, SqT.of (s1 _ _ ha), atI_nat exv, c, _, 0, _, rfl, rfl, SqT.of hc, atI_nat (j := 0) rfl, rfl, _, rfl, ?_⟩
          have e3 : decide (V.str (⟨#[x.cps.getD i 0]⟩ : Str) = V.str tt.1) = false := by
            have : ¬ (V.str (⟨#[x.cps.getD i 0]⟩ : Str) = V.str tt.1) := fun q => hesc ⟨fun q2 => by rw [q2] at he; simp at he, by injection q⟩
            exact decide_eq_false this
          rw [e3]
          exact g.out
        · refine iteF ⟨_, rfl, rfl, _, rfl, ?_⟩
          by_cases hm0 : m = Str.ofString ""
          · rw [if_pos hm0] at k
            rw [hm0, decide_eq_true rfl]
            refine iteT ⟨_, rfl, _, rfl, _, rfl, by show (5 : Nat) ≤ _; omega, fun p np => ?_⟩
            have s3 := Same.new (o := .tup [.int i, .int 1, .str (Str.ofString "sign"), .int tN, .int vs.length]) np
            refine k p _ (s1.trans s3).x (s1.free np) ?_ ⟨vs, (s1.trans s3) _ _ hq, RD.mono (s1.trans s3).x⟩
            rw [upd_same, hvl]
            rfl
          rw [if_neg hm0] at k
          have e4 : decide (V.str m = V.str (Str.ofString "")) = false := by
            have : ¬ (V.str m = V.str (Str.ofString "")) := fun q => hm0 (by injection q)
            exact decide_eq_false this
          rw [e4]
          refine iteF ⟨_, rfl, Nat.zero_le _, fun l2 nl2 => ?_⟩
          have s2 := s1.trans (Same.new (o := .lst []) nl2)
          have t2 := Same.new (o := .lst []) nl2
          refine ⟨q, l2, vs, rfl, rfl, s2 _ _ hq, upd_same, _, rfl, ?_⟩
          have hH2 : ∀ b' o, H1 b' = some o → upd H1 l2 (.lst []) b' = some o := fun b' o e => t2 b' o e
          generalize upd H1 l2 (.lst []) = H2 at s2 t2 hH2
          by_cases hcl : ds ≠ [] ∧ m = (ds.getD (ds.length - 1) ld0).2.2
          · rw [if_pos hcl] at k
            have hpos : 0 < ds.length := List.length_pos_iff.mpr hcl.1
            have hve : (!vs.isEmpty) = true := by
              cases vs with
              | nil => simp at hvl; omega
              | cons _ _ => rfl
            rw [hve]
            obtain ⟨ad, hat, had⟩ := ld_last (q := q) (RD.mono s2.x) hpos
            refine iteT ⟨_, rfl, _, rfl, 1, rfl, q, vs, -1, _, rfl, rfl, SqL.of (s2 _ _ hq), hat, ad, _, 2, _, rfl, rfl, SqT.of had, atI_nat (j := 2) rfl, rfl, _, rfl, ?_⟩
            rw [← hcl.2, decide_eq_true rfl]
            refine iteT ⟨_, rfl, .inl ⟨rfl, _, SqL.of (s2 _ _ hq)⟩, q, vs, _, rfl, rfl, s2 _ _ hq, get_of (by omega), ?_⟩
            have hq3 : upd H2 q (.lst vs.dropLast) q = some (.lst vs.dropLast) := upd_same
            have RD3 : Reps z (upd H2 q (.lst vs.dropLast)) vs.dropLast (ds.dropLast.map ldD) := by
              rw [List.map_dropLast]
              exact Reps.updL (s2 _ _ hq) (RD.mono s2.x).dropLast (by rw [← List.map_dropLast]; exact noL_lds _)
            have sx3 : SameX q H (upd H2 q (.lst vs.dropLast)) := s2.x.upd
            generalize upd H2 q (.lst vs.dropLast) = H3 at hq3 RD3 sx3
            refine ⟨_, rfl, Nat.zero_le _, fun l3 nl3 => ?_⟩
            have t4 := Same.new (o := .lst []) nl3
            refine ⟨q, l3, vs.dropLast, rfl, rfl, t4 _ _ hq3, upd_same, _, rfl, ?_⟩
            have hq4 := t4 _ _ hq3
            have RD4 := RD3.mono t4.x (z := z)
            have sx4 : SameX q H (upd H3 l3 (.lst [])) := sx3.trans t4.x
            generalize upd H3 l3 (.lst []) = H4 at hq4 RD4 sx4
            obtain ⟨aN, haN, _⟩ := tongue_nat (b := b) (ds := ds.dropLast) (fun d hd => hld d (List.dropLast_subset _ hd)) hb1
            rw [haN] at k
            have hvl2 : vs.dropLast.length = ds.dropLast.length := by simp; omega
            have kpos2 : (!vs.dropLast.isEmpty) = true → 0 < ds.dropLast.length := fun hn2 => by
              rw [← hvl2]
              cases hv2 : vs.dropLast with
              | nil => rw [hv2] at hn2; simp at hn2
              | cons _ _ => simp
            have kz2 : ¬ (!vs.dropLast.isEmpty) = true → ds.dropLast.length = 0 := fun hn2 => by
              rw [← hvl2]
              cases hv2 : vs.dropLast with
              | nil => rfl
              | cons _ _ => rw [hv2] at hn2; simp at hn2
            refine ite_join (G := ?G2) (fun hn2 g => ?h1) (fun hn2 g => ?h2) ?h3
            case h1 =>
              have hpos2 := kpos2 hn2
              obtain ⟨ad2, hat2, had2⟩ := ld_last (q := q) RD4 hpos2
              refine ⟨_, rfl, 1, rfl, q, _, -1, _, rfl, rfl, SqL.of hq4, hat2, ad2, _, 1, _, rfl, rfl, SqT.of had2, atI_nat (j := 1) rfl, ?_⟩
              have htd2 := tongue_last hpos2
              rw [← htd2, haN]
              exact g.out
            case h2 =>
              have hz2 := kz2 hn2
              have htd2 : (some (V.int 0) : Option V) = some (V.int (aN : Int)) := by
                rw [← haN]
                unfold tongueL
                have : ds.dropLast = [] := List.eq_nil_of_length_eq_zero hz2
                rw [this]
                rfl
              rw [htd2]
              exact g.out
            case h3 =>
              refine ⟨_, rfl, _, rfl, m, rfl, by omega, _, rfl, _, rfl, _, _, rfl, rfl, by show (5 : Nat) ≤ _; omega, fun p np => ?_⟩
              have hpn : H p = none := by
                cases e : H p with
                | none => rfl
                | some o =>
                  have hpq : p ≠ q := (ne_of_none hq4 np).symm
                  rw [sx4 p o hpq e] at np
                  cases np
              have t5 := Same.new (o := .tup [.int i, .int m.length, .str (Str.ofString "close"), .int aN, .int ((vs.length : Int) - 1)]) np
              refine k p _ (sx4.trans t5.x) hpn ?_ ⟨_, t5 _ _ hq4, RD4.mono t5.x⟩
              rw [upd_same, hvl]
              rfl
          · rw [if_neg hcl] at k
            refine ite_both (fun hv g => ?_) ?_
            · have hpos : 0 < ds.length := by
                cases vs with
                | nil => simp at hv
                | cons _ _ => simp at hvl; omega
              obtain ⟨ad, hat, had⟩ := ld_last (q := q) (RD.mono s2.x) hpos
              refine ⟨_, rfl, _, rfl, 1, rfl, q, vs, -1, _, rfl, rfl, SqL.of (s2 _ _ hq), hat, ad, _, 2, _, rfl, rfl, SqT.of had, atI_nat (j := 2) rfl, rfl, _, rfl, ?_⟩
              have e5 : decide (V.str m = V.str (ds.getD (ds.length - 1) ld0).2.2) = false := by
                have : ¬ (V.str m = V.str (ds.getD (ds.length - 1) ld0).2.2) := fun q => hcl ⟨List.length_pos_iff.mp hpos, by injection q⟩
                exact decide_eq_false this
              rw [e5]
              exact g.out
            · have hmo : m ∈ opensOf tt.2 := by
                rcases hms with h | h | h
                · exact absurd h hm0
                · exact h
                · exfalso
                  obtain ⟨dd, hdd, e6⟩ := List.mem_map.mp h
                  unfold lastL at hdd
                  have hpos : 0 < ds.length := by
                    cases ds with
                    | nil => simp at hdd
                    | cons _ _ => simp
                  have : ds.drop (ds.length - 1) = [ds.getD (ds.length - 1) ld0] := by
                    have hlt : ds.length - 1 < ds.length := by omega
                    rw [List.drop_eq_getElem_cons hlt]
                    have : ds.length - 1 + 1 = ds.length := by omega
                    rw [this, List.drop_length]
                    simp [hlt]
                  rw [this] at hdd
                  have : dd = ds.getD (ds.length - 1) ld0 := by simpa using hdd
                  rw [this] at e6
                  exact hcl ⟨List.length_pos_iff.mp hpos, e6.symm⟩
              refine iteF ?_
              refine ⟨_, rfl, _, rfl, a, xs, tN, _, rfl, rfl, SqT.of (s2 _ _ ha), atI_nat exv, c, _, 1, _, rfl, rfl, SqT.of (t2 _ _ hc), atI_nat (j := 1) rfl, d, rfl, ⟨_, SqT.of (t2 _ _ hd)⟩, fun pC npC => ?_⟩
              have hdp : d ≠ pC := ne_of_none (t2 _ _ hd) npC
              refine loop_new (fun j => if (tt.2.getD j dr0).1 == m then some (ys.getD j .non) else none) (fun σ => ∃ v, σ = [v, some (.str m)]) ⟨none, rfl⟩ npC (by omega) (itok_tup (xs := ys) (by rw [upd_ne hdp]; exact t2 _ _ hd) hdp) (fun j σ H5 C hj ⟨v, hv⟩ hS5 hC => ?_) (fun σ H5 s5 hH5 => ?_)
              · subst hv
                obtain ⟨q3, e3, hq3z, hq3⟩ := rep_door ((reps_door (ds := tt.2) (i := j) Ry (by omega)).mono (t2.trans hS5).x)
                have hC' := hC [some (.ref q3), some (.str m)] H5 ⟨_, rfl⟩ (Same.refl _)
                rw [e3]
                refine ⟨_, rfl, q3, _, 0, _, rfl, rfl, SqT.of hq3, atI_nat (j := 0) rfl, _, rfl, rfl, _, rfl, ?_⟩
                rw [dec_str]
                show if ((tt.2.getD j dr0).1 == m) = true then _ else _
                cases g : (tt.2.getD j dr0).1 == m with
                | true =>
                  rw [g, if_pos rfl, e3] at hC'
                  exact iteT ⟨_, rfl, hC'⟩
                | false =>
                  rw [g, if_neg (by simp)] at hC'
                  exact iteF hC'
              rw [hyl] at hH5
              rcases first_pick tt.2 dr0 (fun d => d.1 == m) (fun j => ys.getD j .non) tt.2.length (Nat.le_refl _) with ⟨h1, h2⟩ | ⟨d', r', j0, h1, h2, h3, h4⟩
              · exfalso
                rw [List.take_length] at h1
                obtain ⟨dd, hdd, e6⟩ := List.mem_map.mp hmo
                have : dd ∈ tt.2.filter (fun d => d.1 == m) := List.mem_filter.mpr ⟨hdd, by simpa using e6⟩
                rw [h1] at this
                cases this
              rw [List.take_length] at h1
              rw [h1] at k
              dsimp only at k
              have S5 := s2.trans s5
              have T5 := t2.trans s5
              obtain ⟨q0, e0, hq0z, hq0⟩ := rep_door ((reps_door (ds := tt.2) (i := j0) Ry h2).mono T5.x)
              have h3 : tt.2.getD j0 dr0 = d' := h3
              have hq0 : H5 q0 = some (.tup [.str (tt.2.getD j0 dr0).1, .int (tt.2.getD j0 dr0).2.1, .str (tt.2.getD j0 dr0).2.2]) := hq0
              rw [h3] at hq0
              have h4 : (flatN (fun i => (if (tt.2.getD i dr0).1 == m then some (ys.getD i .non) else none).toList) tt.2.length)[0]? = some (ys.getD j0 .non) := h4
              rw [e0] at h4
              refine ⟨pC, _, 0, _, rfl, rfl, SqL.of hH5, atI_nat (j := 0) h4, ?_⟩
              have hq5 := S5 _ _ hq
              refine ⟨_, rfl, .inl ⟨rfl, _, SqL.of hq5⟩, _, rfl, _, rfl, q0, _, 1, _, rfl, rfl, SqT.of hq0, atI_nat (j := 1) rfl, _, rfl, q0, _, 2, _, rfl, rfl, SqT.of hq0, atI_nat (j := 2) rfl, by show (3 : Nat) ≤ _; omega, fun pt npt => ?_⟩
              have t6 := Same.new (o := .tup [.int i, .int d'.2.1, .str d'.2.2]) npt
              have hpt : upd H5 pt (.tup [.int i, .int d'.2.1, .str d'.2.2]) pt = some (.tup [.int i, .int d'.2.1, .str d'.2.2]) := upd_same
              have hq6 := t6 _ _ hq5
              have S6 := S5.trans t6
              have hptz : pt ≠ z := (hB.same S5).ne npt
              generalize upd H5 pt (.tup [.int i, .int d'.2.1, .str d'.2.2]) = H6 at hpt hq6 S6
              refine ⟨q, vs, _, rfl, rfl, hq6, by omega, ?_⟩
              have hd4 : d'.2.2.length ≤ 1000 := by
                have hmem : d' ∈ tt.2 := (List.mem_filter.mp (by rw [h1]; exact List.mem_cons_self)).1
                have := (markS_len (tok.2.2 d' hmem).2.2).1
                omega
              have RD7 : Reps z (upd H6 q (.lst (vs ++ [.ref pt]))) (vs ++ [.ref pt]) ((ds ++ [((i : Int), d'.2.1, d'.2.2)]).map ldD) := by
                refine Reps.updL hq6 ?_ (noL_lds _)
                rw [List.map_append]
                exact (RD.mono S6.x).append (.cons (.tup hpt hptz (.cons (.int _) (.cons (.int _) (.cons (.str _ hd4) .nil)))) .nil)
              have hq7 : upd H6 q (.lst (vs ++ [.ref pt])) q = some (.lst (vs ++ [.ref pt])) := upd_same
              have sx7 : SameX q H (upd H6 q (.lst (vs ++ [.ref pt]))) := S6.x.upd
              generalize upd H6 q (.lst (vs ++ [.ref pt])) = H7 at RD7 hq7 sx7
              refine ⟨_, rfl, _, rfl, m, rfl, by omega, _, rfl, _, rfl, by show (5 : Nat) ≤ _; omega, fun p np => ?_⟩
              have hpn : H p = none := by
                cases e : H p with
                | none => rfl
                | some o =>
                  have hpq : p ≠ q := (ne_of_none hq7 np).symm
                  rw [sx7 p o hpq e] at np
                  cases np
              have t8 := Same.new (o := .tup [.int i, .int m.length, .str (Str.ofString "open"), .int tN, .int vs.length]) np
              refine k p _ (sx7.trans t8.x) hpn ?_ ⟨_, t8 _ _ hq7, RD7.mono t8.x⟩
              rw [upd_same, hvl]
              rfl
end
end T1
namespace T1
open PySem L2
abbrev eS : Str := ⟨#[]⟩
def bestOf (l : List Str) : Str := l.foldl (fun acc m => if acc.length < m.length then m else acc) eS
theorem best_fold : ∀ (l : List Str) (acc : Str), let r := l.foldl (fun acc m => if acc.length < m.length then m else acc) acc
    (r = acc ∨ r ∈ l) ∧ acc.length ≤ r.length ∧ ∀ m ∈ l, m.length ≤ r.length
  | [], acc => ⟨.inl rfl, Nat.le_refl _, fun m hm => nomatch hm⟩
  | a :: l, acc => by
    have ih := best_fold l (if acc.length < a.length then a else acc)
    obtain ⟨h1, h2, h3⟩ := ih
    simp only [List.foldl_cons]
    by_cases h : acc.length < a.length
    · rw [if_pos h] at h1 h2 h3 ⊢
      refine ⟨?_, by omega, fun m hm => ?_⟩
      · rcases h1 with h1 | h1
        · exact .inr (by rw [h1]; exact List.mem_cons_self)
        · exact .inr (List.mem_cons_of_mem _ h1)
      · rcases List.mem_cons.mp hm with rfl | hm
        · exact h2
        · exact h3 m hm
    · rw [if_neg h] at h1 h2 h3 ⊢
      refine ⟨?_, h2, fun m hm => ?_⟩
      · rcases h1 with h1 | h1
        · exact .inl h1
        · exact .inr (List.mem_cons_of_mem _ h1)
      · rcases List.mem_cons.mp hm with rfl | hm
        · omega
        · exact h3 m hm
theorem best_props {l : List Str} (hs : ∀ m ∈ l, Sm m) : (l = [] ∧ bestOf l = eS) ∨ (bestOf l ∈ l ∧ ∀ m ∈ l, m.length ≤ (bestOf l).length) := by
  obtain ⟨h1, h2, h3⟩ := best_fold l eS
  cases l with
  | nil => exact .inl ⟨rfl, rfl⟩
  | cons a r =>
    refine .inr ⟨?_, h3⟩
    rcases h1 with h1 | h1
    · exfalso
      have := h3 a List.mem_cons_self
      have g := (hs a List.mem_cons_self).1
      rw [h1] at this
      have : a.length ≤ 0 := this
      omega
    · exact h1
theorem fit_eq {x : Str} {i : Nat} {m m' : Str} (h : fitAt x i m = true) (h' : fitAt x i m' = true) (hl : m.length = m'.length) : m = m' := by
  have a := of_decide_eq_true h
  have c := of_decide_eq_true h'
  rw [hl] at a
  have : V.str m = V.str m' := a.symm.trans c
  injection this
theorem best_head {x : Str} {i : Nat} {l ys : List Str} (hs : ∀ m ∈ l, Sm m) (hf : ∀ m ∈ l, fitAt x i m = true) (hp : ys.Perm l) (hw : ys.Pairwise (fun a c => c.length ≤ a.length)) : ys.headD eS = bestOf l := by
  rcases best_props hs with ⟨h1, h2⟩ | ⟨h1, h2⟩
  · subst h1
    have : ys = [] := List.Perm.eq_nil hp
    subst this
    rfl
  · cases ys with
    | nil =>
      have : l = [] := List.Perm.eq_nil hp.symm
      rw [this] at h1
      cases h1
    | cons a r =>
      show a = _
      have ha : a ∈ l := hp.mem_iff.mp List.mem_cons_self
      have hb : bestOf l ∈ a :: r := hp.mem_iff.mpr h1
      have l1 := h2 a ha
      have l2 : (bestOf l).length ≤ a.length := by
        rcases List.mem_cons.mp hb with e | hb
        · rw [e]; exact Nat.le_refl _
        · exact (List.pairwise_cons.mp hw).1 _ hb
      exact fit_eq (hf a ha) (hf _ h1) (by omega)
def bestL (b : Bk) (ds : List LDr) (x : Str) (i : Nat) : Str := bestOf (fitL b ds x i)
structure RunSt where
  at_ : Nat
  ds : List LDr
  ss : List Stp
def runStep (b : Bk) (x : Str) (r : RunSt) : RunSt :=
  if r.at_ < x.length then ⟨r.at_ + ((stepL b r.ds x r.at_ (bestL b r.ds x r.at_)).1.2.1).toNat, (stepL b r.ds x r.at_ (bestL b r.ds x r.at_)).2, r.ss ++ [(stepL b r.ds x r.at_ (bestL b r.ds x r.at_)).1]⟩ else r
def runF (b : Bk) (x : Str) : Nat → RunSt
  | 0 => ⟨0, [], []⟩
  | n + 1 => runStep b x (runF b x n)
def LdBk (b : Bk) (ds : List LDr) : Prop := ∀ d ∈ ds, ∃ t ∈ b, ∃ dr ∈ t.2, d.2.1 = dr.2.1 ∧ d.2.2 = dr.2.2
theorem LdBk.ok {b : Bk} {ds : List LDr} (h : LdBk b ds) (hb : ∀ t ∈ b, TgOk b.length t) : LdOk b ds := fun d hd => by
  obtain ⟨t, ht, dr, hdr, e1, e2⟩ := h d hd
  obtain ⟨g1, g2, g3⟩ := (hb t ht).2.2 dr hdr
  have g := markS_len g3
  rw [e1, e2]
  exact ⟨g2, g.2, g.1⟩
theorem fitL_sm {b : Bk} {ds : List LDr} {x : Str} {i : Nat} (hb : ∀ t ∈ b, TgOk b.length t) (hd : LdOk b ds) : ∀ m ∈ someL b ds, Sm m := fun m hm => by
  unfold someL at hm
  rcases List.mem_append.mp hm with hm | hm
  · obtain ⟨dd, hdd, rfl⟩ := List.mem_map.mp hm
    by_cases hl : (tongueL ds).toNat < b.length
    · have g := markS_len ((hb _ (getD_mem tg0 hl)).2.2 dd hdd).1
      exact ⟨g.2, g.1⟩
    · have e : b.getD (tongueL ds).toNat tg0 = tg0 := by simp [hl]
      rw [e] at hdd
      cases hdd
  · obtain ⟨dd, hdd, rfl⟩ := List.mem_map.mp hm
    exact (hd dd (List.mem_of_mem_drop hdd)).2
theorem last_close {ds : List LDr} {m : Str} (h : m ∈ (lastL ds).map (·.2.2)) : ds ≠ [] ∧ m = (ds.getD (ds.length - 1) ld0).2.2 := by
  obtain ⟨dd, hdd, e6⟩ := List.mem_map.mp h
  unfold lastL at hdd
  have hpos : 0 < ds.length := by
    cases ds with
    | nil => simp at hdd
    | cons _ _ => simp
  have : ds.drop (ds.length - 1) = [ds.getD (ds.length - 1) ld0] := by
    have hlt : ds.length - 1 < ds.length := by omega
    rw [List.drop_eq_getElem_cons hlt]
    have : ds.length - 1 + 1 = ds.length := by omega
    rw [this, List.drop_length]
    simp [hlt]
  rw [this] at hdd
  have : dd = ds.getD (ds.length - 1) ld0 := by simpa using hdd
  rw [this] at e6
  exact ⟨List.length_pos_iff.mp hpos, e6.symm⟩
theorem fit_len {x m : Str} {i : Nat} (h : fitAt x i m = true) (hi : i ≤ x.length) : i + m.length ≤ x.length := by
  have a := of_decide_eq_true h
  have a : cutS x (some (i : Int)) (some ((i : Int) + m.length)) = m := by injection a
  have hl : (cutS x (some (i : Int)) (some ((i : Int) + m.length))).length = m.length := by rw [a]
  have e : ((i : Int) + (m.length : Int)) = ((i + m.length : Nat) : Int) := by omega
  rw [e] at hl
  unfold cutS at hl
  have hl : (List.toArray ((x.cps.toList.drop (HT.sIx x.length 0 (some (i : Int)))).take (HT.sIx x.length x.length (some ((i + m.length : Nat) : Int)) - HT.sIx x.length 0 (some (i : Int))))).size = m.length := hl
  rw [List.size_toArray, List.length_take, List.length_drop, HT.sIx_nat, HT.sIx_nat] at hl
  have : x.cps.toList.length = x.length := by simp; rfl
  omega
theorem stepL_props {b : Bk} {ds : List LDr} {x : Str} {i : Nat} (hb : ∀ t ∈ b, TgOk b.length t) (hd : LdBk b ds) (hb1 : 1 ≤ b.length) (hi : i < x.length) :
    let r := stepL b ds x i (bestL b ds x i)
    1 ≤ r.1.2.1 ∧ r.1.2.1 ≤ 4 ∧ (i : Int) + r.1.2.1 ≤ x.length ∧ LdBk b r.2 ∧ r.2.length ≤ ds.length + 1 ∧ r.1.2.2.1.length ≤ 10 := by
  have hok := hd.ok hb
  obtain ⟨tN, htN, htl⟩ := tongue_nat hok hb1
  have htoN : (tongueL ds).toNat = tN := by rw [htN]; rfl
  have hsm := fitL_sm (x := x) (i := i) hb hok
  have hbp := best_props (l := fitL b ds x i) fun m hm => hsm m (List.mem_filter.mp hm).1
  have hem : ∀ m, m ≠ Str.ofString "" → m = bestL b ds x i → m ∈ someL b ds ∧ fitAt x i m = true := fun m h0 e => by
    rcases hbp with ⟨_, h2⟩ | ⟨h1, _⟩
    · exfalso
      apply h0
      rw [e]
      unfold bestL
      rw [h2, str_empty]
    · rw [e]
      exact List.mem_filter.mp h1
  intro r
  show 1 ≤ r.1.2.1 ∧ _
  have hr : r = stepL b ds x i (bestL b ds x i) := rfl
  generalize hm : bestL b ds x i = m at hr
  rw [hr]
  unfold stepL
  rw [htoN]
  have htt := getD_mem tg0 htl
  split
  · split
    · exact ⟨by show (1 : Int) ≤ 1; decide, by show (1 : Int) ≤ 4; decide, by show (i : Int) + 1 ≤ _; omega, hd, by show ds.length ≤ _; omega, by show (Str.ofString "cut").length ≤ 10; decide +kernel⟩
    · exact ⟨by show (1 : Int) ≤ 2; decide, by show (2 : Int) ≤ 4; decide, by show (i : Int) + 2 ≤ _; omega, hd, by show ds.length ≤ _; omega, by show (Str.ofString "escape").length ≤ 10; decide +kernel⟩
  · split
    · exact ⟨by show (1 : Int) ≤ 1; decide, by show (1 : Int) ≤ 4; decide, by show (i : Int) + 1 ≤ _; omega, hd, by show ds.length ≤ _; omega, by show (Str.ofString "sign").length ≤ 10; decide +kernel⟩
    · rename_i hm0
      obtain ⟨g1, g2⟩ := hem m hm0 hm.symm
      obtain ⟨g3, g4⟩ := hsm m g1
      have g5 := fit_len g2 (by omega)
      split
      · refine ⟨by show (1 : Int) ≤ m.length; omega, by show (m.length : Int) ≤ 4; omega, by show (i : Int) + m.length ≤ _; omega, fun d hdd => hd d (List.dropLast_subset _ hdd), by show ds.dropLast.length ≤ _; simp; omega, by show (Str.ofString "close").length ≤ 10; decide +kernel⟩
      · rename_i hcl
        split
        · rename_i d r' hfil
          have hdm : d ∈ (b.getD tN tg0).2 := (List.mem_filter.mp (by rw [hfil]; exact List.mem_cons_self)).1
          refine ⟨by show (1 : Int) ≤ m.length; omega, by show (m.length : Int) ≤ 4; omega, by show (i : Int) + m.length ≤ _; omega, fun d' hdd => ?_, by show (ds ++ [_]).length ≤ _; simp, by show (Str.ofString "open").length ≤ 10; decide +kernel⟩
          rcases List.mem_append.mp hdd with hdd | hdd
          · exact hd d' hdd
          · have : d' = ((i : Int), d.2.1, d.2.2) := by simpa using hdd
            subst this
            exact ⟨_, htt, d, hdm, rfl, rfl⟩
        · rename_i hfil
          exfalso
          unfold someL at g1
          rw [htoN] at g1
          rcases List.mem_append.mp g1 with h | h
          · obtain ⟨dd, hdd, e6⟩ := List.mem_map.mp h
            have : dd ∈ (b.getD tN tg0).2.filter (fun d => d.1 == m) := List.mem_filter.mpr ⟨hdd, by simpa using e6⟩
            rw [hfil] at this
            cases this
          · exact hcl (last_close h)
end T1
namespace T1
open PySem L2
theorem noL_sts : ∀ ss : List Stp, NoLs (ss.map stD)
  | [] => .nil
  | d :: r => .cons (.tup (.cons (.int _) (.cons (.int _) (.cons (.str _) (.cons (.int _) (.cons (.int _) .nil)))))) (noL_sts r)
theorem cut_one (ys : List Str) : cutV (ys.map V.str) none (some (1 : Int)) = (ys.take 1).map V.str := by
  unfold cutV
  have e : HT.sIx (ys.map V.str).length (ys.map V.str).length (some (1 : Int)) = min 1 (ys.map V.str).length := HT.sIx_nat _ _ 1
  rw [e, HT.sIx_none, List.drop_zero, List.map_take]
  cases ys <;> simp
structure RunOk (b : Bk) (x : Str) (r : RunSt) : Prop where
  le : r.at_ ≤ x.length
  bk : LdBk b r.ds
  dl : r.ds.length ≤ r.at_
  sl : r.ss.length ≤ r.at_
theorem run_ok {b : Bk} {x : Str} (hb : ∀ t ∈ b, TgOk b.length t) (hb1 : 1 ≤ b.length) : ∀ n, RunOk b x (runF b x n)
  | 0 => ⟨Nat.zero_le _, (fun d hd => nomatch hd), Nat.zero_le _, Nat.zero_le _⟩
  | n + 1 => by
    have ih := run_ok hb hb1 (x := x) n
    show RunOk b x (runStep b x (runF b x n))
    unfold runStep
    split
    · rename_i h
      obtain ⟨h1, h2, h3, h4, h5, h6⟩ := stepL_props (x := x) hb ih.bk hb1 h
      have i1 := ih.dl
      have i2 := ih.sl
      refine ⟨?_, h4, ?_, ?_⟩
      · show (runF b x n).at_ + _ ≤ _
        omega
      · show (stepL b (runF b x n).ds x (runF b x n).at_ (bestL b (runF b x n).ds x (runF b x n).at_)).2.length ≤ (runF b x n).at_ + _
        omega
      · show ((runF b x n).ss ++ [_]).length ≤ (runF b x n).at_ + _
        rw [List.length_append]
        show _ + 1 ≤ _
        omega
    · exact ih
theorem run_at {b : Bk} {x : Str} {n : Nat} (h : (runF b x n).at_ < x.length) : runF b x (n + 1) = ⟨(runF b x n).at_ + ((stepL b (runF b x n).ds x (runF b x n).at_ (bestL b (runF b x n).ds x (runF b x n).at_)).1.2.1).toNat, (stepL b (runF b x n).ds x (runF b x n).at_ (bestL b (runF b x n).ds x (runF b x n).at_)).2, (runF b x n).ss ++ [(stepL b (runF b x n).ds x (runF b x n).at_ (bestL b (runF b x n).ds x (runF b x n).at_)).1]⟩ := by
  show runStep b x (runF b x n) = _
  unfold runStep
  rw [if_pos h]
theorem run_at_ds {b : Bk} {x : Str} {n : Nat} (h : (runF b x n).at_ < x.length) : (runF b x (n + 1)).ds = (stepL b (runF b x n).ds x (runF b x n).at_ (bestL b (runF b x n).ds x (runF b x n).at_)).2 := by rw [run_at h]
theorem run_at_ss {b : Bk} {x : Str} {n : Nat} (h : (runF b x n).at_ < x.length) : (runF b x (n + 1)).ss = (runF b x n).ss ++ [(stepL b (runF b x n).ds x (runF b x n).at_ (bestL b (runF b x n).ds x (runF b x n).at_)).1] := by rw [run_at h]
inductive spSteps : List V → Hp → VK → XK → Prop where
  | mk {vs : List V} {H : Hp} {Q : VK} {E : XK} (z v b x : _) (c1 : vs = [v, .str x]) (c2 : Bag z H) (c3 : Rep z H v (bkD b)) (c4 : BkOk b) (c5 : x.length ≤ 20000) (c6 : ∀ p pf pd n H', Same H H' → H' p = some (.lst [.ref pf, .ref pd]) → (runF b x n).at_ = x.length → Rep z H' (.ref pf) (.lst ((runF b x n).ss.map stD)) → LDs z H' pd (runF b x n).ds → Q (.ref p) H') : spSteps vs H Q E
section
variable {P : Program} {w : World} {K : PySem.W.Frag} {mg : Str → Option Value} {base : Heap}
theorem scSteps : FnScope ["book", "text", "doors", "found", "place", "marks"] ["book", "text"] (defScope lSteps) := ⟨rfl, rfl, rfl, by decide +kernel, rfl, by decide +kernel, by decide +kernel⟩
set_option maxHeartbeats 0 in
theorem ok_lsteps {f f1 f2 : Addr} {fd fd1 fd2 : FuncData} (F : Fun K "_law_steps" "_law_steps" lSteps f fd) (T : TxtB mg)
    (k1 : PySem.W.keepIn K (.ref f1) = true) (b1 : Binds K fd1 ["book", "doors", "text", "place"] []) (m1 : mg "_law_fitting" = some (.ref f1)) (G1 : FnOk P w K mg base CX0 1 f1 fd1 ["book", "doors", "text", "place"] spFitting)
    (k2 : PySem.W.keepIn K (.ref f2) = true) (b2 : Binds K fd2 ["book", "doors", "text", "place", "mark"] []) (m2 : mg "_law_step" = some (.ref f2)) (G2 : FnOk P w K mg base CX0 1 f2 fd2 ["book", "doors", "text", "place", "mark"] spStep) : FnOk P w K mg base CX0 2 f fd ["book", "text"] spSteps := by
  refine F.ok scSteps (fun vs H Q E h => ?_) (fun cdv A outer s H vs Q E hr h => ?_)
  · obtain ⟨z, v, b, x, rfl, _⟩ := h
    rfl
  · obtain ⟨z, v, b, x, rfl, hB, R, hok, hx, k⟩ := h
    have hok' := hok
    obtain ⟨hb1, hb6, htok, _⟩ := hok'
    have nd := scSteps.nd
    refine ⟨_, pss_cons (ps_set (i := 2) nd rfl (Or.inl rfl) (pe_lst pa_nil))
      (pss_cons (ps_set (i := 3) nd rfl (Or.inl rfl) (pe_lst pa_nil))
      (pss_cons (ps_set (i := 4) nd rfl (Or.inl rfl) pe_int)
      (pss_cons (ps_while PassesOwn.never (pt_cmpR op_lt (pv 4) (pe_callB call_len_str (by rfl) T.len b_len (pa_cons (pv 1) pa_nil)) (nomark _))
        (pss_cons (ps_set (i := 5) nd rfl (Or.inl rfl) (pe_call G1 hr rfl m1 k1 b1 .nil pass0 (pa_cons (pv 0) (pa_cons (pv 2) (pa_cons (pv 1) (pa_cons (pv 4) pa_nil))))))
        (pss_cons (ps_expr (pe_bm PySem.F.plainAttrs_list PySem.F.slot_list_append PySem.F.type_list_append mt_append (pv 3) (pa_cons (pe_call G2 hr rfl m2 k2 b2 .nil pass0 (pa_cons (pv 0) (pa_cons (pv 2) (pa_cons (pv 1) (pa_cons (pv 4) (pa_cons (pe_bm PySem.F.plainAttrs_str PySem.F.slot_str_join PySem.F.type_str_join mt_join1 pe_str (pa_cons (pe_slice sl_list (pv 5) po_none (po_some pe_int)) pa_nil)) pa_nil)))))) pa_nil)))
        (pss_one (ps_set (i := 4) nd rfl (Or.inl rfl) (pe_op op_add (pv 4) (pe_ix ix_tup (pe_ix ix_list (pv 3) (pe_un un_neg pe_int) (fun _ _ => rfl)) pe_int (fun _ _ => rfl))))))))
      (pss_one (ps_ret (pe_lst (pa_cons (pv 3) (pa_cons (pv 2) pa_nil)))))))), ?_⟩
    dsimp only [cxOf, Cx.nox, Cx.wish]
    have big := big1000
    have big2 : (100000 : Nat) ≤ sizeLine := by rw [sizeLine_eq]; decide
    refine ⟨Nat.zero_le _, fun pd npd => ⟨Nat.zero_le _, fun pf npf => ?_⟩⟩
    have s1 := Same.new (o := .lst []) npd
    have s2 := Same.new (o := .lst []) npf
    have s12 := s1.trans s2
    have hpf0 : H pf = none := s1.free npf
    have hpdf : pd ≠ pf := ne_of_none (upd_same (H := H) (a := pd) (o := .lst [])) npf
    have hpdz : pd ≠ z := hB.ne npd
    have hpfz : pf ≠ z := (hB.same s1).ne npf
    refine while_by (fun σ H3 => ∃ n u, σ = [some v, some (.str x), some (.ref pd), some (.ref pf), some (.int (runF b x n).at_), u] ∧ Same H H3 ∧ Rep z H3 v (bkD b) ∧ LDs z H3 pd (runF b x n).ds ∧ ∃ fv, H3 pf = some (.lst fv) ∧ Reps z H3 fv ((runF b x n).ss.map stD))
      (fun σ H3 => match σ[4]? with | some (some (V.int i)) => x.length - i.toNat | _ => 0) ⟨0, none, rfl, s12, R.mono s12.x, ⟨[], s2 _ _ upd_same, .nil⟩, [], upd_same, .nil⟩ ?_ ?_
    · rintro σ H3 ⟨n, u, rfl, s3, R3, L3, fv, hf3, RF⟩
      have rok := run_ok (x := x) htok hb1 n
      have hle := rok.le
      refine ⟨_, rfl, _, rfl, x, rfl, by omega, _, _, rfl, rfl, _, rfl, ?_⟩
      refine ite2 (fun hlt => ?_) (fun hlt => ?_)
      · have hlt : (runF b x n).at_ < x.length := by have := of_decide_eq_true hlt; omega
        have hdl := rok.dl
        have hsl := rok.sl
        have hld := rok.bk.ok htok
        have hB3 := hB.same s3
        refine ⟨_, rfl, _, rfl, _, rfl, _, rfl, z, v, b, pd, (runF b x n).ds, x, (runF b x n).at_, rfl, R3, hok, L3, hld, hx, fun pm ys H4 s4 npm hpm perm pw => ?_⟩
        have hmem : ∀ m ∈ fitL b (runF b x n).ds x (runF b x n).at_, Sm m := fun m hm => fitL_sm (x := x) (i := (runF b x n).at_) htok hld m (List.mem_filter.mp hm).1
        have hhead := best_head hmem (fun m hm => (List.mem_filter.mp hm).2) perm pw
        have hf4 := s4 _ _ hf3
        refine ⟨_, rfl, .inl ⟨rfl, _, SqL.of hf4⟩, _, rfl, _, rfl, _, rfl, _, rfl, rfl, _, rfl, 1, rfl, pm, _, rfl, SqL.of hpm, fun l nl => ?_⟩
        have s5 := Same.new (o := .lst (cutV (ys.map V.str) none (some (1 : Int)))) nl
        have hysm : ∀ y ∈ ys.take 1, y.length ≤ 1000 := fun y hy => by have := (hmem y (perm.mem_iff.mp (List.mem_of_mem_take hy))).2; omega
        refine ⟨_, l, ys.take 1, rfl, rfl, SqL.of (by rw [upd_same, cut_one]), by rw [List.length_take]; omega, by decide +kernel, hysm, ?_⟩
        have ej : joinOf (ys.take 1) = bestL b (runF b x n).ds x (runF b x n).at_ := by
          unfold bestL
          rw [← hhead]
          cases ys <;> rfl
        rw [ej]
        have S5 := s4.trans s5
        have R5 := R3.mono S5.x (z := z)
        have L5 := L3.same S5
        have hf5 := S5 _ _ hf3
        have RF5 := RF.mono S5.x (z := z)
        have hB5 := hB3.same S5
        have sH5 := s3.trans S5
        generalize upd H4 l (.lst (cutV (ys.map V.str) none (some (1 : Int)))) = H5 at S5 R5 L5 hf5 RF5 hB5 sH5 s5
        have hmm : bestL b (runF b x n).ds x (runF b x n).at_ = Str.ofString "" ∨ bestL b (runF b x n).ds x (runF b x n).at_ ∈ someL b (runF b x n).ds := by
          rcases best_props hmem with ⟨_, h2⟩ | ⟨h1, _⟩
          · exact .inl (by unfold bestL; rw [h2, str_empty])
          · exact .inr (List.mem_filter.mp h1).1
        obtain ⟨p1, p2, p3, p4, p5, p6⟩ := stepL_props (x := x) htok rok.bk hb1 hlt
        refine ⟨z, v, b, pd, (runF b x n).ds, x, _, (runF b x n).at_, rfl, hB5, hpdz, R5, hok, L5, hld, hlt, hx, by omega, hmm, fun p H6 sx6 np hp L6 => ?_⟩
        rw [← run_at_ds hlt] at L6
        have hpz : p ≠ z := hB5.ne np
        obtain ⟨dv5, hd5, _⟩ := L5
        have R6 := Rep.butL hd5 sx6 R5 (.tup (noL_tgs b))
        have RF6 := Reps.butL hd5 sx6 RF5 (noL_sts _)
        have hf6 := sx6 _ _ hpdf.symm hf5
        have sH6 : Same H H6 := fun b' o e => sx6 b' o (ne_of_none e npd) (sH5 b' o e)
        have hfl : fv.length = (runF b x n).ss.length := by have := RF.length; simpa using this
        refine ⟨pf, fv, _, rfl, rfl, hf6, by omega, ?_⟩
        have hf7 : upd H6 pf (.lst (fv ++ [.ref p])) pf = some (.lst (fv ++ [.ref p])) := upd_same
        have rst : Rep z H6 (.ref p) (stD (stepL b (runF b x n).ds x (runF b x n).at_ (bestL b (runF b x n).ds x (runF b x n).at_)).1) := .tup hp hpz (.cons (.int _) (.cons (.int _) (.cons (.str _ (by omega)) (.cons (.int _) (.cons (.int _) .nil)))))
        have RF7 : Reps z (upd H6 pf (.lst (fv ++ [.ref p]))) (fv ++ [.ref p]) ((runF b x (n + 1)).ss.map stD) := by
          rw [run_at_ss hlt, List.map_append]
          exact Reps.updL hf6 (RF6.append (.cons rst .nil)) ((noL_sts _).append (noL_sts [_]))
        have R7 := Rep.updL (l' := fv ++ [.ref p]) hf6 R6 (.tup (noL_tgs b))
        obtain ⟨dv, hd6, RD6⟩ := L6
        have hd7 : upd H6 pf (.lst (fv ++ [.ref p])) pd = some (.lst dv) := by rw [upd_ne hpdf]; exact hd6
        have RD7 := Reps.updL (l' := fv ++ [.ref p]) hf6 RD6 (noL_lds _)
        have hp7 : upd H6 pf (.lst (fv ++ [.ref p])) p = some (.tup (stV (stepL b (runF b x n).ds x (runF b x n).at_ (bestL b (runF b x n).ds x (runF b x n).at_)).1)) := by
          rw [upd_ne (ne_of hp hf6 (by intro q; cases q))]; exact hp
        have sH7 : Same H (upd H6 pf (.lst (fv ++ [.ref p]))) := fun b' o e => by rw [upd_ne (ne_of_none e hpf0)]; exact sH6 b' o e
        generalize upd H6 pf (.lst (fv ++ [.ref p])) = H7 at hf7 RF7 R7 hd7 RD7 hp7 sH7
        refine ⟨_, rfl, _, rfl, 1, rfl, pf, _, -1, _, rfl, rfl, SqL.of hf7, atI_last fv (.ref p), p, _, 1, _, rfl, rfl, SqT.of hp7, atI_nat (j := 1) rfl, _, _, rfl, rfl, ?_⟩
        have eat : ((runF b x n).at_ : Int) + (stepL b (runF b x n).ds x (runF b x n).at_ (bestL b (runF b x n).ds x (runF b x n).at_)).1.2.1 = ((runF b x (n + 1)).at_ : Int) := by
          rw [run_at hlt]
          show _ = ((_ + _ : Nat) : Int)
          omega
        refine ⟨⟨n + 1, some (.ref pm), ?_, sH7, R7, ⟨dv, hd7, RD7⟩, _, hf7, RF7⟩, ?_⟩
        · show [some v, some (.str x), some (.ref pd), some (.ref pf), some (V.int (((runF b x n).at_ : Int) + (stepL b (runF b x n).ds x (runF b x n).at_ (bestL b (runF b x n).ds x (runF b x n).at_)).1.2.1)), some (.ref pm)] = _
          rw [eat]
        · show x.length - (((runF b x n).at_ : Int) + (stepL b (runF b x n).ds x (runF b x n).at_ (bestL b (runF b x n).ds x (runF b x n).at_)).1.2.1).toNat < x.length - ((runF b x n).at_ : Int).toNat
          omega
      · have hge : (runF b x n).at_ = x.length := by
          have : ¬ (((runF b x n).at_ : Int) < (x.length : Int)) := fun q => hlt (decide_eq_true q)
          omega
        refine ⟨_, rfl, _, rfl, by show (2 : Nat) ≤ _; omega, fun p np => ?_⟩
        have s4 := Same.new (o := .lst [.ref pf, .ref pd]) np
        exact k p pf pd n _ (s3.trans s4) upd_same hge (.lst (s4 _ _ hf3) hpfz (RF.mono s4.x)) (L3.same s4)
    · rintro σ H3 Q1 Q2 hq ⟨v1, e1, v2, e2, x2, e3, h4, i1, i2, e5, e6, b1, e7, h⟩
      exact ⟨v1, e1, v2, e2, x2, e3, h4, i1, i2, e5, e6, b1, e7, hq _ _ h⟩
end
end T1
namespace T1
open PySem L2
def pdD (d : LDr) : D := .tup [.int d.2.1, .str d.2.2]
theorem noL_pds : ∀ ds : List LDr, NoLs (ds.map pdD)
  | [] => .nil
  | d :: r => .cons (.tup (.cons (.int _) (.cons (.str _) .nil))) (noL_pds r)
def PDs (z : Addr) (H : Hp) (q : Addr) (ds : List LDr) : Prop := ∃ vs, H q = some (.lst vs) ∧ Reps z H vs (ds.map pdD)
theorem PDs.same {z : Addr} {H H' : Hp} {q : Addr} {ds : List LDr} (h : PDs z H q ds) (s : Same H H') : PDs z H' q ds := let ⟨vs, a, r⟩ := h; ⟨vs, s _ _ a, r.mono s.x⟩
theorem rep_pd {z : Addr} {H : Hp} {v : V} {d : LDr} (r : Rep z H v (pdD d)) : ∃ a, v = .ref a ∧ a ≠ z ∧ H a = some (.tup [.int d.2.1, .str d.2.2]) := by
  cases r with
  | tup h hz r =>
    cases r with
    | cons r1 r =>
      cases r with
      | cons r2 r =>
        cases r
        cases r1
        cases r2
        exact ⟨_, rfl, hz, h⟩
theorem reps_pd {z : Addr} {H : Hp} {xs : List V} {ds : List LDr} {i : Nat} (r : Reps z H xs (ds.map pdD)) (hi : i < ds.length) : Rep z H (xs.getD i .non) (pdD (ds.getD i ld0)) := by
  have := r.get (i := i) (by simpa using hi)
  simpa [hi] using this
theorem pd_last {z : Addr} {H : Hp} {ds : List LDr} {vs : List V} (RD : Reps z H vs (ds.map pdD)) (hpos : 0 < ds.length) : ∃ ad, atI vs (-1) = some (.ref ad) ∧ H ad = some (.tup [.int (ds.getD (ds.length - 1) ld0).2.1, .str (ds.getD (ds.length - 1) ld0).2.2]) := by
  have hvl : vs.length = ds.length := by have := RD.length; simpa using this
  obtain ⟨ad, ed, hadz, had⟩ := rep_pd (reps_pd (ds := ds) (i := ds.length - 1) RD (by omega))
  refine ⟨ad, ?_, had⟩
  have e1 : ixN vs.length (-1) = some (vs.length - 1) := by
    unfold ixN
    rw [if_neg (by decide), if_pos (by omega)]
    congr 1
    omega
  unfold atI
  rw [e1]
  show vs[vs.length - 1]? = _
  have h1 : vs.length - 1 < vs.length := by omega
  have h2 : vs.getD (vs.length - 1) .non = vs[vs.length - 1] := by simp [h1]
  rw [List.getElem?_eq_getElem h1, ← h2, hvl, ed]
inductive spWithin : List V → Hp → VK → XK → Prop where
  | mk {vs : List V} {H : Hp} {Q : VK} {E : XK} (z q ds : _) (c1 : vs = [.ref q]) (c2 : PDs z H q ds) (c3 : Q (.int (tongueL ds)) H) : spWithin vs H Q E
section
variable {P : Program} {w : World} {K : PySem.W.Frag} {mg : Str → Option Value} {base : Heap}
theorem scWithin : FnScope ["doors", "inner", "close"] ["doors"] (defScope sWithin) := ⟨rfl, rfl, rfl, by decide +kernel, rfl, by decide +kernel, by decide +kernel⟩
set_option maxHeartbeats 0 in
theorem ok_within {f : Addr} {fd : FuncData} (F : Fun K "tongue_within" "tongue_within" sWithin f fd) : FnOk P w K mg base CX0 1 f fd ["doors"] spWithin := by
  refine F.ok scWithin (fun vs H Q E h => ?_) (fun cdv A outer s H vs Q E hr h => ?_)
  · obtain ⟨z, q, ds, rfl, _⟩ := h
    rfl
  · obtain ⟨z, q, ds, rfl, ⟨vs, hq, RD⟩, k⟩ := h
    have nd := scWithin.nd
    have hvl : vs.length = ds.length := by have := RD.length; simpa using this
    refine ⟨_, pss_cons (ps_if (pt_not (pt_truth (pv 0) (fun _ => rfl))) (pss_one (ps_ret pe_int)) pss_nil)
      (pss_cons (ps_asg (pe_ix ix_list (pv 0) (pe_un un_neg pe_int) (fun _ _ => rfl)) (pg_tup rfl (pgs_cons (pg_name (i := 1) nd rfl (Or.inl rfl)) (pgs_cons (pg_name (i := 2) nd rfl (Or.inl rfl)) pgs_nil))))
      (pss_one (ps_ret (pv 1)))), ?_⟩
    dsimp only [cxOf, Cx.nox, Cx.wish]
    refine ⟨_, rfl, _, .inl ⟨vs, SqL.of hq, rfl⟩, ?_⟩
    by_cases hpos : 0 < ds.length
    · have hve : (!vs.isEmpty) = true := by
        cases vs with
        | nil => simp at hvl; omega
        | cons _ _ => rfl
      rw [hve]
      obtain ⟨ad, hat, had⟩ := pd_last RD hpos
      refine iteF ?_
      refine ⟨_, rfl, 1, rfl, q, vs, -1, _, rfl, rfl, SqL.of hq, hat, ad, _, rfl, SqT.of had, rfl, _, _, rfl, _, _, rfl, rfl, _, rfl, ?_⟩
      rw [tongue_last hpos] at k
      exact k
    · have hve : (!vs.isEmpty) = false := by
        cases vs with
        | nil => rfl
        | cons _ _ => simp at hvl; omega
      rw [hve]
      refine iteT ?_
      have : ds = [] := List.eq_nil_of_length_eq_zero (by omega)
      subst this
      exact k
end
end T1
namespace T1
open PySem L2
abbrev Mk := Str × Option Dr
def mkOD : Option Dr → D
  | none => .non
  | some d => drD d
def mkD (m : Mk) : D := .tup [.str m.1, mkOD m.2]
def possL (b : Bk) (ds : List LDr) : List Mk := (lastL ds).map (fun d => (d.2.2, none)) ++ (b.getD (tongueL ds).toNat tg0).2.map fun d => (d.1, some d)
theorem noL_dr (d : Dr) : NoL (drD d) := .tup (.cons (.str _) (.cons (.int _) (.cons (.str _) .nil)))
theorem noL_mk (m : Mk) : NoL (mkD m) := by
  obtain ⟨x, o⟩ := m
  cases o with
  | none => exact .tup (.cons (.str _) (.cons .non .nil))
  | some d => exact .tup (.cons (.str _) (.cons (noL_dr d) .nil))
theorem noL_mks : ∀ ms : List Mk, NoLs (ms.map mkD)
  | [] => .nil
  | d :: r => .cons (noL_mk d) (noL_mks r)
inductive spPoss : List V → Hp → VK → XK → Prop where
  | mk {vs : List V} {H : Hp} {Q : VK} {E : XK} (z v b q ds : _) (c1 : vs = [v, .ref q]) (c2 : Bag z H) (c3 : Rep z H v (bkD b)) (c4 : BkOk b) (c5 : PDs z H q ds) (c6 : LdOk b ds) (c7 : ∀ p ws H', Same H H' → H p = none → H' p = some (.lst ws) → Reps z H' ws ((possL b ds).map mkD) → Q (.ref p) H') : spPoss vs H Q E
theorem lastL_pos {ds : List LDr} (h : 0 < ds.length) : lastL ds = [ds.getD (ds.length - 1) ld0] := by
  have hlt : ds.length - 1 < ds.length := by omega
  unfold lastL
  rw [List.drop_eq_getElem_cons hlt]
  have : ds.length - 1 + 1 = ds.length := by omega
  rw [this, List.drop_length]
  simp [hlt]
theorem getD_mem' {α : Type} {xs : List α} {i : Nat} (d : α) (h : i < xs.length) : xs.getD i d = xs[i] := by simp [h]
section
variable {P : Program} {w : World} {K : PySem.W.Frag} {mg : Str → Option Value} {base : Heap}
theorem scPoss : FnScope ["book", "doors", "marks", "inner", "close", "escape", "ways", "door"] ["book", "doors"] (defScope sPoss) := ⟨rfl, rfl, rfl, by decide +kernel, rfl, by decide +kernel, by decide +kernel⟩
set_option maxHeartbeats 0 in
theorem ok_poss {f f1 : Addr} {fd fd1 : FuncData} (F : Fun K "possible_marks" "possible_marks" sPoss f fd)
    (k1 : PySem.W.keepIn K (.ref f1) = true) (b1 : Binds K fd1 ["doors"] []) (m1 : mg "tongue_within" = some (.ref f1)) (G1 : FnOk P w K mg base CX0 1 f1 fd1 ["doors"] spWithin) : FnOk P w K mg base CX0 2 f fd ["book", "doors"] spPoss := by
  refine F.ok scPoss (fun vs H Q E h => ?_) (fun cdv A outer s H vs Q E hr h => ?_)
  · obtain ⟨z, v, b, q, ds, rfl, _⟩ := h
    rfl
  · obtain ⟨z, v, b, q, ds, rfl, hB, R0, hok, ⟨vs, hq, RD⟩, hld, k⟩ := h
    obtain ⟨a, xs, rfl, haz, ha, hxl, R⟩ := rep_book R0
    obtain ⟨hb1, hb6, htok, _⟩ := hok
    have nd := scPoss.nd
    have big := big1000
    have hvl : vs.length = ds.length := by have := RD.length; simpa using this
    refine ⟨_, pss_cons (ps_set (i := 2) nd rfl (Or.inl rfl) (pe_lst pa_nil))
      (pss_cons (ps_if (pt_truth (pv 1) (fun _ => rfl)) (pss_cons (ps_asg (pe_ix ix_list (pv 1) (pe_un un_neg pe_int) (fun _ _ => rfl)) (pg_tup rfl (pgs_cons (pg_name (i := 3) nd rfl (Or.inl rfl)) (pgs_cons (pg_name (i := 4) nd rfl (Or.inl rfl)) pgs_nil))))
        (pss_one (ps_expr (pe_bm PySem.F.plainAttrs_list PySem.F.slot_list_append PySem.F.type_list_append mt_append (pv 2) (pa_cons (pe_tup (pa_cons (pv 4) (pa_cons pe_non pa_nil))) pa_nil))))) pss_nil)
      (pss_cons (ps_asg (pe_ix ix_tup (pv 0) (pe_call G1 hr rfl m1 k1 b1 .nil pass0 (pa_cons (pv 1) pa_nil)) (fun _ _ => rfl)) (pg_tup rfl (pgs_cons (pg_name (i := 5) nd rfl (Or.inl rfl)) (pgs_cons (pg_name (i := 6) nd rfl (Or.inl rfl)) pgs_nil))))
      (pss_cons (ps_for PassesOwn.never rfl (pi_tup (pv 6)) (pg_name (i := 7) nd rfl (Or.inl rfl))
        (pss_one (ps_expr (pe_bm PySem.F.plainAttrs_list PySem.F.slot_list_append PySem.F.type_list_append mt_append (pv 2) (pa_cons (pe_tup (pa_cons (pe_ix ix_tup (pv 7) pe_int (fun _ _ => rfl)) (pa_cons (pv 7) pa_nil))) pa_nil)))))
      (pss_one (ps_ret (pv 2)))))), ?_⟩
    dsimp only [cxOf, Cx.nox, Cx.wish]
    refine ⟨Nat.zero_le _, fun pm npm => ?_⟩
    have s1 := Same.new (o := .lst []) npm
    have hpq : q ≠ pm := ne_of_none hq npm
    have hpz : pm ≠ z := hB.ne npm
    dsimp only
    refine seq_cut (J := fun σ' H2 => ∃ (u3 u4 : Option V), σ' = [some (.ref a), some (.ref q), some (.ref pm), u3, u4, none, none, none] ∧ Same H H2 ∧ ∃ ws, H2 pm = some (.lst ws) ∧ Reps z H2 ws (((lastL ds).map fun d => ((d.2.2, none) : Mk)).map mkD)) (fun U J => ?g1) ?g2
    case g1 =>
      refine ⟨_, rfl, _, .inl ⟨vs, SqL.of (s1 _ _ hq), rfl⟩, ?_⟩
      refine ite2 (fun hne => ?_) (fun hne => ?_)
      case refine_1 =>
        have hpos : 0 < ds.length := by
          cases vs with
          | nil => simp at hne
          | cons _ _ => simp at hvl; omega
        obtain ⟨ad, hat, had⟩ := pd_last (RD.mono s1.x) hpos
        refine ⟨_, rfl, 1, rfl, q, vs, -1, _, rfl, rfl, SqL.of (s1 _ _ hq), hat, ad, _, rfl, SqT.of had, rfl, _, _, rfl, _, _, rfl, rfl, _, rfl, .inl ⟨rfl, _, SqL.of upd_same⟩, _, rfl, by show (2 : Nat) ≤ _; omega, fun pt npt => ?_⟩
        have t2 := Same.new (o := .tup [.str (ds.getD (ds.length - 1) ld0).2.2, .non]) npt
        have hpt : upd (upd H pm (.lst [])) pt (.tup [.str (ds.getD (ds.length - 1) ld0).2.2, .non]) pt = some (.tup [.str (ds.getD (ds.length - 1) ld0).2.2, .non]) := upd_same
        have hptz : pt ≠ z := (hB.same s1).ne npt
        have hp2 := t2 pm _ upd_same
        have S2 := s1.trans t2
        generalize upd (upd H pm (.lst [])) pt (.tup [.str (ds.getD (ds.length - 1) ld0).2.2, .non]) = H1 at hpt hp2 S2
        refine ⟨pm, [], _, rfl, rfl, hp2, by show (0 : Nat) < _; omega, ?_⟩
        have s2 : Same H (upd H1 pm (.lst ([] ++ [.ref pt]))) := fun b' o e => by rw [upd_ne (ne_of_none e npm)]; exact S2 b' o e
        have hW : ∃ ws, upd H1 pm (.lst ([] ++ [.ref pt])) pm = some (.lst ws) ∧ Reps z (upd H1 pm (.lst ([] ++ [.ref pt]))) ws (((lastL ds).map fun d => ((d.2.2, none) : Mk)).map mkD) := by
          refine ⟨_, upd_same, Reps.updL hp2 ?_ (noL_mks _)⟩
          rw [lastL_pos hpos]
          have hsm := (hld _ (getD_mem ld0 (i := ds.length - 1) (by omega))).2
          exact .cons (.tup hpt hptz (.cons (.str _ (by have := hsm.2; omega)) (.cons .non .nil))) .nil
        exact J _ _ ⟨_, _, rfl, s2, hW⟩
      case refine_2 =>
        have hz : ds.length = 0 := by
          cases vs with
          | nil => simp at hvl; omega
          | cons _ _ => simp at hne
        have s2 := s1
        have hW : ∃ ws, upd H pm (.lst []) pm = some (.lst ws) ∧ Reps z (upd H pm (.lst [])) ws (((lastL ds).map fun d => ((d.2.2, none) : Mk)).map mkD) := by
          refine ⟨[], upd_same, ?_⟩
          have : ds = [] := List.eq_nil_of_length_eq_zero hz
          rw [this]
          exact .nil
        exact J _ _ ⟨_, _, rfl, s2, hW⟩
    case g2 =>
      rintro σ' H2 ⟨u3, u4, rfl, s2, ws, hw, RW⟩
      obtain ⟨tN, htN, htl⟩ := tongue_nat hld hb1
      obtain ⟨c, d, ys, ec, hcz, hdz, hc, hd, hyl, Ry⟩ := rep_tongue ((reps_tongue (b := b) (i := tN) R htl).mono s2.x)
      have exv : xs[tN]? = some (.ref c) := by
        have h1 : tN < xs.length := by omega
        have h2 : xs.getD tN .non = xs[tN] := by simp [h1]
        rw [List.getElem?_eq_getElem h1, ← h2, ec]
      have etn : b.getD (tongueL ds).toNat tg0 = b.getD tN tg0 := by rw [htN]; rfl
      have tok := htok _ (getD_mem tg0 htl)
      have hyl : ys.length = (b.getD tN tg0).2.length := hyl
      have hposs : possL b ds = (lastL ds).map (fun d => ((d.2.2, none) : Mk)) ++ (b.getD tN tg0).2.map fun d => (d.1, some d) := by unfold possL; rw [etn]
      rw [hposs] at k
      clear hposs etn
      generalize hT : b.getD tN tg0 = tt at *
      have few := tok.2.1
      have hll : (lastL ds).length ≤ 1 := by unfold lastL; rw [List.length_drop]; omega
      refine ⟨_, rfl, _, rfl, z, q, ds, rfl, ⟨vs, s2 _ _ hq, RD.mono s2.x⟩, a, xs, tongueL ds, _, rfl, rfl, SqT.of (s2 _ _ ha), by rw [htN]; exact atI_nat exv, c, _, rfl, SqT.of hc, rfl, _, _, rfl, _, _, rfl, rfl, ?_⟩
      refine ⟨_, rfl, d, rfl, ⟨_, SqT.of hd⟩, for_tup (K := K) (a := d) (xs := ys) (fun i σ H3 => ∃ u3 u4 u, σ = [some (.ref a), some (.ref q), some (.ref pm), u3, u4, some (.str tt.1), some (.ref d), u] ∧ Same H H3 ∧ SameX pm H2 H3 ∧ ∃ ws, H3 pm = some (.lst ws) ∧ Reps z H3 ws (((lastL ds).map (fun d => ((d.2.2, none) : Mk)) ++ (tt.2.take i).map fun d => (d.1, some d)).map mkD))
        ⟨_, _, none, rfl, s2, .refl, ws, hw, by simpa using RW⟩ (fun j σ H3 _ ⟨_, _, _, _, _, s, _⟩ => SqT.of (s _ _ (ne_of hd hw (by intro q; cases q)) hd)) ?_ ?_⟩
      · rintro j y σ H3 hj ⟨u3, u4, u, rfl, s3, sx3, ws3, hw3, RW3⟩
        have hjl : j < tt.2.length := by have := (List.getElem?_eq_some_iff.mp hj).1; omega
        have ey : y = ys.getD j .non := by rw [List.getD_eq_getElem?_getD, hj]; rfl
        have Ry3 : Rep z H3 (ys.getD j .non) (drD (tt.2.getD j dr0)) := Rep.butL hw sx3 (reps_door (ds := tt.2) (i := j) Ry hjl) (noL_dr _)
        obtain ⟨qd, e2, hqz, hqd⟩ := rep_door Ry3
        have dok := tok.2.2 _ (getD_mem dr0 hjl)
        rw [e2] at Ry3
        rw [ey, e2]
        have hwl : ws3.length ≤ 10 := by
          have := RW3.length
          simp at this
          omega
        refine ⟨_, rfl, .inl ⟨rfl, _, SqL.of hw3⟩, _, rfl, qd, _, 0, _, rfl, rfl, SqT.of hqd, atI_nat (j := 0) rfl, _, rfl, by show (2 : Nat) ≤ _; omega, fun pt npt => ?_⟩
        have s4 := Same.new (o := .tup [.str (tt.2.getD j dr0).1, .ref qd]) npt
        have hpt : upd H3 pt (.tup [.str (tt.2.getD j dr0).1, .ref qd]) pt = some (.tup [.str (tt.2.getD j dr0).1, .ref qd]) := upd_same
        have hptz : pt ≠ z := (hB.same s3).ne npt
        have hw4 := s4 _ _ hw3
        have RW4 := RW3.mono s4.x (z := z)
        have Ry4 := Ry3.mono s4.x (z := z)
        have S4 := s3.trans s4
        have SX4 := sx3.trans s4.x
        generalize upd H3 pt (.tup [.str (tt.2.getD j dr0).1, .ref qd]) = H4 at hpt hw4 RW4 Ry4 S4 SX4
        refine ⟨pm, ws3, _, rfl, rfl, hw4, by omega, ?_⟩
        have g1 := markS_len dok.1
        refine ⟨_, _, _, rfl, fun b' o e => by rw [upd_ne (ne_of_none e npm)]; exact S4 b' o e, SX4.upd, _, upd_same, ?_⟩
        refine Reps.updL hw4 ?_ (noL_mks _)
        have et : (tt.2.take (j + 1)).map (fun d => ((d.1, some d) : Mk)) = (tt.2.take j).map (fun d => ((d.1, some d) : Mk)) ++ [((tt.2.getD j dr0).1, some (tt.2.getD j dr0))] := by
          rw [List.take_add_one, List.getElem?_eq_getElem hjl, getD_mem' dr0 hjl, List.map_append]
          rfl
        rw [et, ← List.append_assoc, List.map_append]
        exact RW4.append (.cons (.tup hpt hptz (.cons (.str _ (by omega)) (.cons Ry4 .nil))) .nil)
      · rintro σ H3 ⟨u3, u4, u, rfl, s3, sx3, ws3, hw3, RW3⟩
        rw [hyl, List.take_length] at RW3
        exact ⟨_, rfl, k pm ws3 H3 s3 npm hw3 RW3⟩
end
end T1
namespace T1
open PySem L2
theorem loop_repsF {z : Addr} {J : It} {g : TG} {tt : TT} {te : TE} {Qe : St → Hp → Prop} {σ0 : St} {H0 : Hp} {p : Addr} {n : Nat} {item : Nat → V} (keep : Nat → Bool) (dat : Nat → D) (Pσ : St → Prop) (hσ : Pσ σ0) (hp : H0 p = none) (hn : n ≤ 100000) (ok : ItOk J n item (upd H0 p (.lst [])) p) (nl : ∀ i, NoL (dat i))
    (turn : ∀ i σ H (Ct : V → St → Hp → Prop) (Cf : St → Hp → Prop), i < n → Pσ σ → Same H0 H → (keep i = true → ∀ σ2 v H4, Pσ σ2 → Same H H4 → Rep z H4 v (dat i) → Ct v σ2 H4) → (keep i = false → ∀ σ2 H4, Pσ σ2 → Same H H4 → Cf σ2 H4) →
      g (item i) σ H fun σ2 H2 => tt σ2 H2 fun b H3 => if b = true then te σ2 H3 fun v H4 => Ct v σ2 H4 else Cf σ2 H3)
    (hQ : ∀ σ H vs, Same H0 H → H p = some (.lst vs) → Reps z H vs (((List.range n).filter keep).map dat) → Qe σ H) : tLoop J g tt (tApp p te) Qe σ0 (upd H0 p (.lst [])) := by
  have s0 : Same H0 (upd H0 p (.lst [])) := Same.new hp
  have up : ∀ {H}, SameX p (upd H0 p (.lst [])) H → Same H0 H := fun {H} h b o e => h b o (ne_of_none e hp) (s0 b o e)
  have nls : ∀ l : List Nat, NoLs (l.map dat) := fun l => by
    induction l with
    | nil => exact .nil
    | cons a r ih => exact .cons (nl a) ih
  refine ⟨fun i m σ H => m = n - i ∧ i ≤ n ∧ Pσ σ ∧ SameX p (upd H0 p (.lst [])) H ∧ ∃ vs, H p = some (.lst vs) ∧ vs.length ≤ i ∧ Reps z H vs (((List.range i).filter keep).map dat), ⟨n, rfl, Nat.zero_le _, hσ, .refl, [], upd_same, Nat.le_refl _, .nil⟩, ?_⟩
  rintro i m σ H ⟨rfl, hi, hP, hS, vs, hv, hl, R⟩
  by_cases hlt : i < n
  · refine .inr ⟨ok.go i H hlt hS, fun σ' H' => Pσ σ' ∧ SameX p (upd H0 p (.lst [])) H' ∧ ∃ vs, H' p = some (.lst vs) ∧ vs.length ≤ i + 1 ∧ Reps z H' vs (((List.range (i + 1)).filter keep).map dat), fun σ' H' ⟨a, b, c⟩ => ⟨n - (i + 1), by omega, rfl, hlt, a, b, c⟩, fun x H' y => ?_⟩
    obtain ⟨rfl, rfl⟩ := ok.yld i H x H' hlt hS y
    have er : ((List.range (i + 1)).filter keep).map dat = ((List.range i).filter keep).map dat ++ (if keep i then [dat i] else []) := by
      rw [List.range_succ, List.filter_append, List.map_append]
      cases g : keep i <;> simp [g]
    refine turn i σ H' (fun v σ2 H4 => ∃ ys, H4 p = some (.lst ys) ∧ ys.length < sizeLine ∧ (Pσ σ2 ∧ SameX p (upd H0 p (.lst [])) (upd H4 p (.lst (ys ++ [v]))) ∧ ∃ vs, upd H4 p (.lst (ys ++ [v])) p = some (.lst vs) ∧ vs.length ≤ i + 1 ∧ Reps z (upd H4 p (.lst (ys ++ [v]))) vs (((List.range (i + 1)).filter keep).map dat))) _ hlt hP (up hS) (fun hk σ2 v H4 hP2 hS2 R2 => ?_) fun hk σ2 H4 hP2 hS2 => ?_
    · have h4 := hS2 _ _ hv
      have big : (100000 : Nat) < sizeLine := by rw [sizeLine_eq]; decide
      refine ⟨vs, h4, by omega, hP2, (hS.trans hS2.x).upd, vs ++ [v], upd_same, by simp; omega, ?_⟩
      refine Reps.updL h4 ?_ (nls _)
      rw [er, hk]
      exact (R.mono hS2.x).append (.cons R2 .nil)
    · refine ⟨hP2, hS.trans hS2.x, vs, hS2 _ _ hv, by omega, ?_⟩
      rw [er, hk]
      simpa using R.mono hS2.x
  · have e : i = n := by omega
    subst e
    exact .inl ⟨ok.stop H hS, hQ σ H vs (up hS) hv R⟩
theorem range_filter {α β : Type} (xs : List α) (d : α) (p : α → Bool) (f : α → β) : ((List.range xs.length).filter fun i => p (xs.getD i d)).map (fun i => f (xs.getD i d)) = (xs.filter p).map f := by
  have e : (List.range xs.length).map (fun i => xs.getD i d) = xs := by
    refine List.ext_getElem (by simp) fun i h1 h2 => ?_
    simp at h1
    simp [h1]
  have : (xs.filter p).map f = (((List.range xs.length).map (fun i => xs.getD i d)).filter p).map f := by rw [e]
  rw [this, List.filter_map, List.map_map]
  rfl
def fitsP (b : Bk) (ds : List LDr) (x : Str) (i : Nat) : List Mk := (possL b ds).filter fun m => stAt x m.1 i
abbrev mk0 : Mk := (⟨#[]⟩, none)
theorem rep_mk {z : Addr} {H : Hp} {v : V} {m : Mk} (r : Rep z H v (mkD m)) : ∃ a u, v = .ref a ∧ a ≠ z ∧ H a = some (.tup [.str m.1, u]) ∧ m.1.length ≤ 1000 ∧ Rep z H u (mkOD m.2) := by
  cases r with
  | tup h hz r =>
    cases r with
    | cons r1 r =>
      cases r with
      | cons r2 r =>
        cases r
        cases r1 with
        | str _ h1 => exact ⟨_, _, rfl, hz, h, h1, r2⟩
theorem reps_mk {z : Addr} {H : Hp} {xs : List V} {ms : List Mk} {i : Nat} (r : Reps z H xs (ms.map mkD)) (hi : i < ms.length) : Rep z H (xs.getD i .non) (mkD (ms.getD i mk0)) := by
  have := r.get (i := i) (by simpa using hi)
  simpa [hi] using this
inductive spFitP : List V → Hp → VK → XK → Prop where
  | mk {vs : List V} {H : Hp} {Q : VK} {E : XK} (z v b q ds x : _) (i : Nat) (c1 : vs = [v, .str x, .int i, .ref q]) (c2 : Bag z H) (c3 : Rep z H v (bkD b)) (c4 : BkOk b) (c5 : PDs z H q ds) (c6 : LdOk b ds) (c7 : ∀ p ws H', Same H H' → H p = none → H' p = some (.lst ws) → Reps z H' ws ((fitsP b ds x i).map mkD) → Q (.ref p) H') : spFitP vs H Q E
section
variable {P : Program} {w : World} {K : PySem.W.Frag} {mg : Str → Option Value} {base : Heap}
theorem scFitP : FnScope ["book", "text", "place", "doors"] ["book", "text", "place", "doors"] (defScope sFitting) := ⟨rfl, rfl, rfl, by decide +kernel, rfl, by decide +kernel, by decide +kernel⟩
theorem ndMDPT : (["mark", "door", "place", "text"] : List Str).Nodup := by decide +kernel
theorem possL_few {b : Bk} {ds : List LDr} (htok : ∀ t ∈ b, TgOk b.length t) : (possL b ds).length ≤ 10 := by
  unfold possL
  have h1 : (lastL ds).length ≤ 1 := by unfold lastL; rw [List.length_drop]; omega
  have h2 : (b.getD (tongueL ds).toNat tg0).2.length ≤ 6 := by
    by_cases h : (tongueL ds).toNat < b.length
    · exact (htok _ (getD_mem tg0 h)).2.1
    · have : b.getD (tongueL ds).toNat tg0 = tg0 := by simp [h]
      rw [this]
      exact Nat.zero_le _
  rw [List.length_append, List.length_map, List.length_map]
  omega
set_option maxHeartbeats 0 in
theorem ok_fitP {f f1 : Addr} {fd fd1 : FuncData} (F : Fun K "fitting_marks" "fitting_marks" sFitting f fd)
    (k1 : PySem.W.keepIn K (.ref f1) = true) (b1 : Binds K fd1 ["book", "doors"] []) (m1 : mg "possible_marks" = some (.ref f1)) (G1 : FnOk P w K mg base CX0 2 f1 fd1 ["book", "doors"] spPoss) : FnOk P w K mg base CX0 3 f fd ["book", "text", "place", "doors"] spFitP := by
  refine F.ok scFitP (fun vs H Q E h => ?_) (fun cdv A outer s H vs Q E hr h => ?_)
  · obtain ⟨z, v, b, q, ds, x, i, rfl, _⟩ := h
    rfl
  · obtain ⟨z, v, b, q, ds, x, i, rfl, hB, R0, hok, hD, hld, k⟩ := h
    refine ⟨_, pss_one (ps_ret (pe_comp1 (N' := ["mark", "door", "place", "text"]) (js := [none, none, some 2, some 1]) rfl rfl (blk_of (defScope sFitting) (by decide +kernel)) ⟨rfl, Or.inr (Or.inl rfl), rfl, rfl, Or.inr (Or.inl rfl), rfl, trivial⟩ (pi_list (pe_call G1 hr rfl m1 k1 b1 .nil pass0 (pa_cons (pv 0) (pa_cons (pv 3) pa_nil))))
        (fun cl s H fp => pg_tupB 2 rfl (pgs_cons (pg_name (i := 0) ndMDPT rfl (Or.inl rfl) (Or.inr rfl)) (pgs_cons (pg_name (i := 1) ndMDPT rfl (Or.inl rfl) (Or.inr rfl)) pgs_nil)))
        (fun cl s H fp => pts_one (pt_val (pe_bmB PySem.F.plainAttrs_str PySem.F.slot_str_startswith PySem.F.type_str_startswith mt_startswith_from (pv 3) (pa_cons (pv 0) (pa_cons (pv 2) pa_nil)))))
        (fun cl s H fp => pe_tup (pa_cons (pv 0) (pa_cons (pv 1) pa_nil))))), ?_⟩
    dsimp only [cxOf, Cx.nox, Cx.wish]
    have big := big1000
    refine ⟨_, rfl, _, rfl, z, v, b, q, ds, rfl, hB, R0, hok, hD, hld, fun l ws H1 s1 nl hl RW => ?_⟩
    have few := possL_few (ds := ds) hok.2.2.1
    have hwl : ws.length = (possL b ds).length := by have := RW.length; simpa using this
    refine ⟨l, rfl, ⟨_, SqL.of hl⟩, fun p np => ?_⟩
    have hlp : l ≠ p := ne_of_none hl np
    refine loop_repsF (z := z) (fun j => stAt x ((possL b ds).getD j mk0).1 i) (fun j => mkD ((possL b ds).getD j mk0)) (fun σ => ∃ u v, σ = [u, v, some (.int i), some (.str x)]) ⟨none, none, rfl⟩ np (by omega) (itok_lst (xs := ws) (by rw [upd_ne hlp]; exact hl) hlp) (fun j => noL_mk _) (fun j σ H2 Ct Cf hj ⟨u, v, hv⟩ hS hT hF => ?_) (fun σ H2 vs s2 hp R2 => ?_)
    · subst hv
      have Rj := (reps_mk (ms := possL b ds) (i := j) RW (by omega)).mono hS.x (z := z)
      obtain ⟨a, u, e, haz, ha, hlen, Ru⟩ := rep_mk Rj
      rw [e]
      refine ⟨a, _, rfl, SqT.of ha, rfl, _, _, rfl, _, _, rfl, rfl, ?_⟩
      refine ⟨_, rfl, rfl, _, rfl, _, rfl, _, _, i, rfl, rfl, _, rfl, ?_⟩
      refine ite2 (fun h => ?_) (fun h => ?_)
      · refine ⟨_, rfl, _, rfl, by show (2 : Nat) ≤ _; omega, fun pt npt => ?_⟩
        have s3 := Same.new (o := .tup [.str ((possL b ds).getD j mk0).1, u]) npt
        refine hT h _ _ _ ⟨_, _, rfl⟩ s3 (.tup upd_same (((hB.same s1).same hS).ne npt) (.cons (.str _ hlen) (.cons (Ru.mono s3.x) .nil)))
      · exact hF (by simpa using h) _ _ ⟨_, _, rfl⟩ (Same.refl _)
    · rw [hwl, range_filter (possL b ds) mk0 (fun m => stAt x m.1 i) mkD] at R2
      exact k p vs H2 (s1.trans s2) (s1.free np) hp R2
end
end T1
namespace T1
open PySem L2
def takeL (ds : List LDr) (i : Nat) (m : Str) : Option Dr → Stp × List LDr
  | none => (((i : Int), (m.length : Int), Str.ofString "close", tongueL ds.dropLast, (ds.length : Int) - 1), ds.dropLast)
  | some d => (((i : Int), (m.length : Int), Str.ofString "open", tongueL ds, (ds.length : Int)), ds ++ [((i : Int), d.2.1, d.2.2)])
theorem rep_doorL {z : Addr} {H : Hp} {v : V} {d : Dr} (r : Rep z H v (drD d)) : ∃ a, v = .ref a ∧ a ≠ z ∧ H a = some (.tup [.str d.1, .int d.2.1, .str d.2.2]) ∧ d.2.2.length ≤ 1000 := by
  cases r with
  | tup h hz r =>
    cases r with
    | cons r1 r =>
      cases r with
      | cons r2 r =>
        cases r with
        | cons r3 r =>
          cases r
          cases r1
          cases r2
          cases r3 with
          | str _ h3 => exact ⟨_, rfl, hz, h, h3⟩
inductive spTakeM : List V → Hp → VK → XK → Prop where
  | mk {vs : List V} {H : Hp} {Q : VK} {E : XK} (z m u o : _) (i : Nat) (q ds : _) (c1 : vs = [.str m, u, .int i, .ref q]) (c2 : Bag z H) (c3 : q ≠ z) (c4 : Rep z H u (mkOD o)) (c5 : m.length ≤ 1000) (c6 : PDs z H q ds) (c7 : ds.length ≤ 20000) (c8 : (o = none → 0 < ds.length)) (c9 : ∀ p H', SameX q H H' → H p = none → H' p = some (.tup (stV (takeL ds i m o).1)) → PDs z H' q (takeL ds i m o).2 → Q (.ref p) H') : spTakeM vs H Q E
def plainL (b : Bk) (ds : List LDr) (x : Str) (i : Nat) : Stp :=
  if (⟨#[x.cps.getD i 0]⟩ : Str) = (b.getD (tongueL ds).toNat tg0).1 then
    (if i + 1 < x.length then ((i : Int), 2, Str.ofString "escape", tongueL ds, (ds.length : Int)) else ((i : Int), 1, Str.ofString "cut", tongueL ds, (ds.length : Int)))
  else ((i : Int), 1, Str.ofString "sign", tongueL ds, (ds.length : Int))
inductive spPlainR : List V → Hp → VK → XK → Prop where
  | mk {vs : List V} {H : Hp} {Q : VK} {E : XK} (z v b q ds x : _) (i : Nat) (c1 : vs = [v, .str x, .int i, .ref q]) (c2 : Rep z H v (bkD b)) (c3 : BkOk b) (c4 : PDs z H q ds) (c5 : LdOk b ds) (c6 : i < x.length) (c7 : x.length ≤ 20000) (c8 : ∀ p H', Same H H' → H p = none → H' p = some (.tup (stV (plainL b ds x i))) → Q (.ref p) H') : spPlainR vs H Q E
section
variable {P : Program} {w : World} {K : PySem.W.Frag} {mg : Str → Option Value} {base : Heap}
theorem scTakeM : FnScope ["mark", "door", "place", "doors", "step", "opening", "inner", "close"] ["mark", "door", "place", "doors"] (defScope sTakeM) := ⟨rfl, rfl, rfl, by decide +kernel, rfl, by decide +kernel, by decide +kernel⟩
set_option maxHeartbeats 0 in
theorem ok_takeM {f f1 : Addr} {fd fd1 : FuncData} (F : Fun K "take_mark" "take_mark" sTakeM f fd) (T : TxtB mg)
    (k1 : PySem.W.keepIn K (.ref f1) = true) (b1 : Binds K fd1 ["doors"] []) (m1 : mg "tongue_within" = some (.ref f1)) (G1 : FnOk P w K mg base CX0 1 f1 fd1 ["doors"] spWithin) : FnOk P w K mg base CX0 2 f fd ["mark", "door", "place", "doors"] spTakeM := by
  refine F.ok scTakeM (fun vs H Q E h => ?_) (fun cdv A outer s H vs Q E hr h => ?_)
  · obtain ⟨z, m, u, o, i, q, ds, rfl, _⟩ := h
    rfl
  · obtain ⟨z, m, u, o, i, q, ds, rfl, hB, hqz, Ru, hm, ⟨vs, hq, RD⟩, hdl, hno, k⟩ := h
    have nd := scTakeM.nd
    have big := big1000
    have big2 : (100000 : Nat) ≤ sizeLine := by rw [sizeLine_eq]; decide
    have hvl : vs.length = ds.length := by have := RD.length; simpa using this
    refine ⟨_, pss_cons (ps_if (pt_cmpR op_isN (pv 1) pe_non (nomark _))
        (pss_cons (ps_expr (pe_bm0 PySem.F.plainAttrs_list PySem.F.slot_list_pop PySem.F.type_list_pop mt_pop (pv 3)))
        (pss_one (ps_ret (pe_tup (pa_cons (pv 2) (pa_cons (pe_callB call_len_str (by rfl) T.len b_len (pa_cons (pv 0) pa_nil)) (pa_cons pe_str (pa_cons (pe_call G1 hr rfl m1 k1 b1 .nil pass0 (pa_cons (pv 3) pa_nil)) (pa_cons (pe_callB call_len_seq (by rfl) T.len b_len (pa_cons (pv 3) pa_nil)) pa_nil))))))))) pss_nil)
      (pss_cons (ps_set (i := 4) nd rfl (Or.inl rfl) (pe_tup (pa_cons (pv 2) (pa_cons (pe_callB call_len_str (by rfl) T.len b_len (pa_cons (pv 0) pa_nil)) (pa_cons pe_str (pa_cons (pe_call G1 hr rfl m1 k1 b1 .nil pass0 (pa_cons (pv 3) pa_nil)) (pa_cons (pe_callB call_len_seq (by rfl) T.len b_len (pa_cons (pv 3) pa_nil)) pa_nil)))))))
      (pss_cons (ps_asg (pv 1) (pg_tup rfl (pgs_cons (pg_name (i := 5) nd rfl (Or.inl rfl)) (pgs_cons (pg_name (i := 6) nd rfl (Or.inl rfl)) (pgs_cons (pg_name (i := 7) nd rfl (Or.inl rfl)) pgs_nil)))))
      (pss_cons (ps_expr (pe_bm PySem.F.plainAttrs_list PySem.F.slot_list_append PySem.F.type_list_append mt_append (pv 3) (pa_cons (pe_tup (pa_cons (pv 6) (pa_cons (pv 7) pa_nil))) pa_nil)))
      (pss_one (ps_ret (pv 4)))))), ?_⟩
    dsimp only [cxOf, Cx.nox, Cx.wish]
    cases o with
    | none =>
      cases Ru
      have hpos := hno rfl
      refine ⟨_, rfl, rfl, _, rfl, ?_⟩
      refine iteT ?_
      refine ⟨_, rfl, .inl ⟨rfl, _, SqL.of hq⟩, q, vs, _, rfl, rfl, hq, get_of (by omega), ?_⟩
      have hq1 : upd H q (.lst vs.dropLast) q = some (.lst vs.dropLast) := upd_same
      have RD1 : Reps z (upd H q (.lst vs.dropLast)) vs.dropLast (ds.dropLast.map pdD) := by
        rw [List.map_dropLast]
        exact Reps.updL hq RD.dropLast (by rw [← List.map_dropLast]; exact noL_pds _)
      have sx1 : SameX q H (upd H q (.lst vs.dropLast)) := SameX.refl.upd
      generalize upd H q (.lst vs.dropLast) = H1 at hq1 RD1 sx1
      refine ⟨_, rfl, _, rfl, m, rfl, by omega, _, rfl, z, q, ds.dropLast, rfl, ⟨_, hq1, RD1⟩, _, rfl, q, _, rfl, .inl (SqL.of hq1), by show (5 : Nat) ≤ _; omega, fun p np => ?_⟩
      have hpn : H p = none := by
        cases e : H p with
        | none => rfl
        | some o =>
          have hpq : p ≠ q := (ne_of_none hq1 np).symm
          rw [sx1 p o hpq e] at np
          cases np
      have t2 := Same.new (o := .tup [.int i, .int m.length, .str (Str.ofString "close"), .int (tongueL ds.dropLast), .int vs.dropLast.length]) np
      refine k p _ (sx1.trans t2.x) hpn ?_ ⟨_, t2 _ _ hq1, RD1.mono t2.x⟩
      rw [upd_same]
      have : ((vs.dropLast.length : Nat) : Int) = (ds.length : Int) - 1 := by simp; omega
      rw [this]
      rfl
    | some d =>
      obtain ⟨a, rfl, haz, ha, hcl⟩ := rep_doorL Ru
      refine ⟨_, rfl, rfl, _, rfl, ?_⟩
      refine iteF ?_
      refine ⟨_, rfl, _, rfl, m, rfl, by omega, _, rfl, z, q, ds, rfl, ⟨_, hq, RD⟩, _, rfl, q, _, rfl, .inl (SqL.of hq), by show (5 : Nat) ≤ _; omega, fun p np => ?_⟩
      have t1 := Same.new (o := .tup [.int i, .int m.length, .str (Str.ofString "open"), .int (tongueL ds), .int vs.length]) np
      have hp1 : upd H p (.tup [.int i, .int m.length, .str (Str.ofString "open"), .int (tongueL ds), .int vs.length]) p = some (.tup (stV (takeL ds i m (some d)).1)) := by
        rw [upd_same, hvl]
        rfl
      generalize upd H p (.tup [.int i, .int m.length, .str (Str.ofString "open"), .int (tongueL ds), .int vs.length]) = H1 at t1 hp1
      refine ⟨_, rfl, a, _, rfl, SqT.of (t1 _ _ ha), rfl, _, _, rfl, _, _, rfl, _, _, rfl, rfl, ?_⟩
      refine ⟨_, rfl, .inl ⟨rfl, _, SqL.of (t1 _ _ hq)⟩, _, rfl, _, rfl, by show (2 : Nat) ≤ _; omega, fun pt npt => ?_⟩
      have t2 := Same.new (o := .tup [.int d.2.1, .str d.2.2]) npt
      have hpt : upd H1 pt (.tup [.int d.2.1, .str d.2.2]) pt = some (.tup [.int d.2.1, .str d.2.2]) := upd_same
      have hptz : pt ≠ z := (hB.same t1).ne npt
      have S2 := t1.trans t2
      have hp2 := t2 _ _ hp1
      generalize upd H1 pt (.tup [.int d.2.1, .str d.2.2]) = H2 at hpt S2 hp2
      have hq2 := S2 _ _ hq
      refine ⟨q, vs, _, rfl, rfl, hq2, by omega, ?_⟩
      refine ⟨_, rfl, ?_⟩
      refine k p _ (S2.x.upd) np ?_ ⟨_, upd_same, ?_⟩
      · rw [upd_ne (ne_of hp2 hq2 (by intro q; cases q))]
        exact hp2
      · refine Reps.updL hq2 ?_ (noL_pds _)
        show Reps z H2 _ ((ds ++ [((i : Int), d.2.1, d.2.2)]).map pdD)
        rw [List.map_append]
        exact (RD.mono S2.x).append (.cons (.tup hpt hptz (.cons (.int _) (.cons (.str _ hcl) .nil))) .nil)
theorem scPlainR : FnScope ["book", "text", "place", "doors", "tongue", "escape", "ways"] ["book", "text", "place", "doors"] (defScope sPlainR) := ⟨rfl, rfl, rfl, by decide +kernel, rfl, by decide +kernel, by decide +kernel⟩
set_option maxHeartbeats 0 in
theorem ok_plainR {f f1 : Addr} {fd fd1 : FuncData} (F : Fun K "read_plain" "read_plain" sPlainR f fd) (T : TxtB mg)
    (k1 : PySem.W.keepIn K (.ref f1) = true) (b1 : Binds K fd1 ["doors"] []) (m1 : mg "tongue_within" = some (.ref f1)) (G1 : FnOk P w K mg base CX0 1 f1 fd1 ["doors"] spWithin) : FnOk P w K mg base CX0 2 f fd ["book", "text", "place", "doors"] spPlainR := by
  refine F.ok scPlainR (fun vs H Q E h => ?_) (fun cdv A outer s H vs Q E hr h => ?_)
  · obtain ⟨z, v, b, q, ds, x, i, rfl, _⟩ := h
    rfl
  · obtain ⟨z, v, b, q, ds, x, i, rfl, R0, hok, ⟨vs, hq, RD⟩, hld, hi, hx, k⟩ := h
    obtain ⟨a, xs, rfl, haz, ha, hxl, R⟩ := rep_book R0
    obtain ⟨hb1, hb6, htok, _⟩ := hok
    have nd := scPlainR.nd
    have big := big1000
    have big2 : (100000 : Nat) ≤ sizeLine := by rw [sizeLine_eq]; decide
    have hvl : vs.length = ds.length := by have := RD.length; simpa using this
    refine ⟨_, pss_cons (ps_set (i := 4) nd rfl (Or.inl rfl) (pe_call G1 hr rfl m1 k1 b1 .nil pass0 (pa_cons (pv 3) pa_nil)))
      (pss_cons (ps_asg (pe_ix ix_tup (pv 0) (pv 4) (fun _ _ => rfl)) (pg_tup rfl (pgs_cons (pg_name (i := 5) nd rfl (Or.inl rfl)) (pgs_cons (pg_name (i := 6) nd rfl (Or.inl rfl)) pgs_nil))))
      (pss_cons (ps_if (pt_cmpR op_ne (pe_ix ix_str (pv 1) (pv 2) (fun _ _ => rfl)) (pv 5) (nomark _)) (pss_one (ps_ret (pe_tup (pa_cons (pv 2) (pa_cons pe_int (pa_cons pe_str (pa_cons (pv 4) (pa_cons (pe_callB call_len_seq (by rfl) T.len b_len (pa_cons (pv 3) pa_nil)) pa_nil)))))))) pss_nil)
      (pss_cons (ps_if (pt_cmpR op_lt (pe_op op_add (pv 2) pe_int) (pe_callB call_len_str (by rfl) T.len b_len (pa_cons (pv 1) pa_nil)) (nomark _)) (pss_one (ps_ret (pe_tup (pa_cons (pv 2) (pa_cons pe_int (pa_cons pe_str (pa_cons (pv 4) (pa_cons (pe_callB call_len_seq (by rfl) T.len b_len (pa_cons (pv 3) pa_nil)) pa_nil)))))))) pss_nil)
      (pss_one (ps_ret (pe_tup (pa_cons (pv 2) (pa_cons pe_int (pa_cons pe_str (pa_cons (pv 4) (pa_cons (pe_callB call_len_seq (by rfl) T.len b_len (pa_cons (pv 3) pa_nil)) pa_nil))))))))))), ?_⟩
    dsimp only [cxOf, Cx.nox, Cx.wish]
    have hxi : x.cps.toList[i]? = some (x.cps.getD i 0) := by
      have : i < x.cps.size := hi
      simp [Array.getD, this]
    obtain ⟨tN, htN, htl⟩ := tongue_nat hld hb1
    obtain ⟨c, d, ys, ec, hcz, hdz, hc, hd, hyl, Ry⟩ := rep_tongue (reps_tongue (b := b) (i := tN) R htl)
    have exv : xs[tN]? = some (.ref c) := by
      have h1 : tN < xs.length := by omega
      have h2 : xs.getD tN .non = xs[tN] := by simp [h1]
      rw [List.getElem?_eq_getElem h1, ← h2, ec]
    have etn : b.getD (tongueL ds).toNat tg0 = b.getD tN tg0 := by rw [htN]; rfl
    unfold plainL at k
    rw [etn] at k
    refine ⟨_, rfl, z, q, ds, rfl, ⟨_, hq, RD⟩, ?_⟩
    refine ⟨_, rfl, _, rfl, a, xs, tongueL ds, _, rfl, rfl, SqT.of ha, by rw [htN]; exact atI_nat exv, c, _, rfl, SqT.of hc, rfl, _, _, rfl, _, _, rfl, rfl, ?_⟩
    refine ⟨_, rfl, _, rfl, x, i, _, rfl, rfl, by omega, atI_nat hxi, _, rfl, rfl, _, rfl, ?_⟩
    refine ite2 (fun g => ?_) (fun g => ?_)
    · have hesc : ¬ (⟨#[x.cps.getD i 0]⟩ : Str) = (b.getD tN tg0).1 := fun e => by rw [e] at g; simp at g
      rw [if_neg hesc] at k
      refine ⟨_, rfl, _, rfl, _, rfl, q, _, rfl, .inl (SqL.of hq), by show (5 : Nat) ≤ _; omega, fun p np => ?_⟩
      refine k p _ (Same.new np) np ?_
      rw [upd_same, hvl]
      rfl
    · have hesc : (⟨#[x.cps.getD i 0]⟩ : Str) = (b.getD tN tg0).1 := by simpa using g
      rw [if_pos hesc] at k
      refine ⟨_, rfl, _, _, rfl, rfl, _, rfl, x, rfl, by omega, _, _, rfl, rfl, _, rfl, ?_⟩
      refine ite2 (fun g2 => ?_) (fun g2 => ?_)
      · have h2 : i + 1 < x.length := by have := of_decide_eq_true g2; omega
        rw [if_pos h2] at k
        refine ⟨_, rfl, _, rfl, _, rfl, q, _, rfl, .inl (SqL.of hq), by show (5 : Nat) ≤ _; omega, fun p np => ?_⟩
        refine k p _ (Same.new np) np ?_
        rw [upd_same, hvl]
        rfl
      · have h2 : ¬ i + 1 < x.length := fun h => g2 (decide_eq_true (by omega))
        rw [if_neg h2] at k
        refine ⟨_, rfl, _, rfl, _, rfl, q, _, rfl, .inl (SqL.of hq), by show (5 : Nat) ≤ _; omega, fun p np => ?_⟩
        refine k p _ (Same.new np) np ?_
        rw [upd_same, hvl]
        rfl
end
end T1
namespace T1
open PySem L2
theorem cut_extract {x : Str} {i k : Nat} (h : i + k ≤ x.length) : cutS x (some (i : Int)) (some ((i : Int) + (k : Int))) = ⟨x.cps.extract i (i + k)⟩ := by
  have e : ((i : Int) + (k : Int)) = ((i + k : Nat) : Int) := by omega
  rw [e]
  unfold cutS
  rw [HT.sIx_nat, HT.sIx_nat, Nat.min_eq_left h, Nat.min_eq_left (by omega)]
  congr 1
  apply Array.ext'
  simp [Array.toList_extract, List.extract_eq_drop_take]
theorem stAt_fit {x m : Str} {i : Nat} (hi : i ≤ x.length) : stAt x m i = fitAt x i m := by
  cases g : fitAt x i m with
  | true =>
    have hl := fit_len g hi
    have a := of_decide_eq_true g
    have a : cutS x (some (i : Int)) (some ((i : Int) + m.length)) = m := by injection a
    rw [cut_extract hl] at a
    have a2 : x.cps.extract i (i + m.length) = m.cps := congrArg Str.cps a
    unfold stAt Builtin.Str.subAt
    rw [decide_eq_true hl, a2]
    simp
  | false =>
    cases g2 : stAt x m i with
    | false => rfl
    | true =>
      exfalso
      unfold stAt Builtin.Str.subAt at g2
      rw [Bool.and_eq_true] at g2
      have hl := of_decide_eq_true g2.1
      have a2 : x.cps.extract i (i + m.length) = m.cps := by simpa using g2.2
      have : fitAt x i m = true := by
        unfold fitAt
        rw [cut_extract hl, a2]
        simp
      rw [g] at this
      cases this
theorem fit_first {x m : Str} {i : Nat} (hi : i ≤ x.length) (h : fitAt x i m = true) (hm : 1 ≤ m.length) : x.cps.getD i 0 ∈ m.cps.toList := by
  have hl := fit_len h hi
  have a := of_decide_eq_true h
  have a : cutS x (some (i : Int)) (some ((i : Int) + m.length)) = m := by injection a
  rw [cut_extract hl] at a
  have a2 : x.cps.extract i (i + m.length) = m.cps := congrArg Str.cps a
  rw [← a2]
  have hl2 : i + m.length ≤ x.cps.size := hl
  have hi2 : i < x.cps.size := by omega
  rw [Array.toList_extract, List.extract_eq_drop_take]
  have e : x.cps.getD i 0 = x.cps.toList[i]'(by simpa using hi2) := by simp [Array.getD, hi2]
  rw [e, List.drop_eq_getElem_cons (by simpa using hi2)]
  have : i + m.length - i = (m.length - 1) + 1 := by omega
  rw [this, List.take_succ_cons]
  exact List.mem_cons_self
theorem esc_free {b : Bk} (hb : BkOk b) {t : Tg} (ht : t ∈ b) {m : Str} (hm : m ∈ marksB b) {c : Nat} (hc : c ∈ m.cps.toList) : (⟨#[c]⟩ : Str) ≠ t.1 := fun e => by
  have h := hb.2.2.2
  unfold bookB at h
  simp only [Bool.and_eq_true, Bool.not_eq_true'] at h
  have h2 := h.1.2
  unfold escB at h2
  rw [List.any_eq_false] at h2
  have h3 := h2 m hm
  apply h3
  unfold escIn
  rw [List.any_eq_true]
  refine ⟨c, hc, ?_⟩
  rw [List.any_eq_true]
  exact ⟨t.1, List.mem_map_of_mem ht, by rw [e]; exact beq_self_eq_true _⟩
theorem some_marks {b : Bk} {ds : List LDr} (hd : LdBk b ds) {m : Str} (hm : m ∈ someL b ds) : m ∈ marksB b := by
  unfold someL at hm
  rcases List.mem_append.mp hm with hm | hm
  · obtain ⟨dd, hdd, rfl⟩ := List.mem_map.mp hm
    by_cases hl : (tongueL ds).toNat < b.length
    · exact List.mem_flatMap.mpr ⟨_, getD_mem tg0 hl, List.mem_flatMap.mpr ⟨dd, hdd, List.mem_cons_self⟩⟩
    · have e : b.getD (tongueL ds).toNat tg0 = tg0 := by simp [hl]
      rw [e] at hdd
      cases hdd
  · obtain ⟨dd, hdd, rfl⟩ := List.mem_map.mp hm
    obtain ⟨t, ht, dr, hdr, e1, e2⟩ := hd dd (List.mem_of_mem_drop hdd)
    rw [e2]
    exact List.mem_flatMap.mpr ⟨t, ht, List.mem_flatMap.mpr ⟨dr, hdr, List.mem_cons_of_mem _ List.mem_cons_self⟩⟩
theorem poss_some {b : Bk} {ds : List LDr} {y : Mk} (h : y ∈ possL b ds) : y.1 ∈ someL b ds := by
  unfold possL at h
  unfold someL
  rcases List.mem_append.mp h with h | h
  · obtain ⟨d, hd, rfl⟩ := List.mem_map.mp h
    exact List.mem_append_right _ (List.mem_map_of_mem hd)
  · obtain ⟨d, hd, rfl⟩ := List.mem_map.mp h
    exact List.mem_append_left _ (List.mem_map_of_mem hd)
theorem some_poss {b : Bk} {ds : List LDr} {m : Str} (h : m ∈ someL b ds) : ∃ y ∈ possL b ds, y.1 = m := by
  unfold someL at h
  unfold possL
  rcases List.mem_append.mp h with h | h
  · obtain ⟨d, hd, rfl⟩ := List.mem_map.mp h
    exact ⟨_, List.mem_append_right _ (List.mem_map_of_mem hd), rfl⟩
  · obtain ⟨d, hd, rfl⟩ := List.mem_map.mp h
    exact ⟨_, List.mem_append_left _ (List.mem_map_of_mem hd), rfl⟩
theorem step_take {b : Bk} {ds : List LDr} {x : Str} {i : Nat} {m : Str} {o : Option Dr} {r : List Mk} (hne : m ≠ Str.ofString "") (hesc : (⟨#[x.cps.getD i 0]⟩ : Str) ≠ (b.getD (tongueL ds).toNat tg0).1)
    (h : (possL b ds).filter (fun y => y.1 == m) = (m, o) :: r) : stepL b ds x i m = takeL ds i m o := by
  unfold stepL
  rw [if_neg (fun q => hesc q.2), if_neg hne]
  unfold possL at h
  rw [List.filter_append, List.filter_map, List.filter_map] at h
  by_cases hcl : ds ≠ [] ∧ m = (ds.getD (ds.length - 1) ld0).2.2
  · rw [if_pos hcl]
    have hpos : 0 < ds.length := List.length_pos_iff.mpr hcl.1
    rw [lastL_pos hpos] at h
    have : ((ds.getD (ds.length - 1) ld0).2.2 == m) = true := by rw [← hcl.2]; exact beq_self_eq_true _
    have e2 : [ds.getD (ds.length - 1) ld0].filter ((fun y : Mk => y.1 == m) ∘ fun d : LDr => ((d.2.2, none) : Mk)) = [ds.getD (ds.length - 1) ld0] := by
      rw [List.filter_cons_of_pos]
      · rfl
      · exact this
    rw [e2] at h
    have h' : (((ds.getD (ds.length - 1) ld0).2.2, none) : Mk) = (m, o) := (List.cons.inj h).1
    have : o = none := by injection h' with _ q; exact q.symm
    subst this
    rfl
  · rw [if_neg hcl]
    have e2 : (lastL ds).filter ((fun y : Mk => y.1 == m) ∘ fun d : LDr => ((d.2.2, none) : Mk)) = [] := by
      rw [List.filter_eq_nil_iff]
      intro d hd q
      have q : (d.2.2 == m) = true := q
      have q := eq_of_beq q
      exact hcl (last_close (List.mem_map.mpr ⟨d, hd, q⟩))
    rw [e2] at h
    have e3 : ((fun y : Mk => y.1 == m) ∘ fun d : Dr => ((d.1, some d) : Mk)) = fun d : Dr => d.1 == m := rfl
    rw [e3] at h
    cases g : (b.getD (tongueL ds).toNat tg0).2.filter (fun d => d.1 == m) with
    | nil =>
      rw [g] at h
      cases h
    | cons d r' =>
      rw [g] at h
      have h' : ((d.1, some d) : Mk) = (m, o) := (List.cons.inj h).1
      have : o = some d := by injection h' with _ q; exact q.symm
      subst this
      rfl
theorem step_plain {b : Bk} {ds : List LDr} {x : Str} {i : Nat} (hi : i < x.length) (h : fitsP b ds x i = []) : stepL b ds x i (bestL b ds x i) = (plainL b ds x i, ds) := by
  have hf : fitL b ds x i = [] := by
    unfold fitL
    rw [List.filter_eq_nil_iff]
    intro m hm q
    obtain ⟨y, hy, rfl⟩ := some_poss hm
    unfold fitsP at h
    rw [List.filter_eq_nil_iff] at h
    apply h y hy
    rw [stAt_fit (by omega)]
    exact q
  have hb : bestL b ds x i = Str.ofString "" := by unfold bestL; rw [hf, str_empty]; rfl
  rw [hb]
  unfold stepL plainL
  by_cases hesc : (⟨#[x.cps.getD i 0]⟩ : Str) = (b.getD (tongueL ds).toNat tg0).1
  · have h0 : (b.getD (tongueL ds).toNat tg0).1 ≠ Str.ofString "" := fun e => by
      rw [e, str_empty] at hesc
      have : (#[x.cps.getD i 0] : Array Nat) = #[] := congrArg Str.cps hesc
      simp at this
    rw [if_pos ⟨h0, hesc⟩, if_pos hesc]
    by_cases h1 : i + 1 = x.length
    · rw [if_pos h1, if_neg (by omega)]
    · rw [if_neg h1, if_pos (by omega)]
  · rw [if_neg (fun q => hesc q.2), if_pos rfl, if_neg hesc]
theorem filter_first {l : List Mk} {j : Nat} {y : Mk} (hj : l[j]? = some y) (hlt : ∀ j', j' < j → ∀ y', l[j']? = some y' → y'.1.length < y.1.length) : ∃ r, l.filter (fun z => z.1 == y.1) = y :: r := by
  induction l generalizing j with
  | nil => simp at hj
  | cons a l ih =>
    cases j with
    | zero =>
      have : a = y := by simpa using hj
      subst this
      exact ⟨_, List.filter_cons_of_pos (p := fun z : Mk => z.1 == a.1) (beq_self_eq_true a.1)⟩
    | succ j =>
      have h0 := hlt 0 (by omega) a rfl
      have hn : ¬ (a.1 == y.1) = true := fun q => by
        have := eq_of_beq q
        rw [this] at h0
        omega
      rw [List.filter_cons_of_neg (p := fun z : Mk => z.1 == y.1) hn]
      exact ih (by simpa using hj) fun j' hj' y' hy' => hlt (j' + 1) (by omega) y' (by simpa using hy')
theorem step_longest {b : Bk} {ds : List LDr} {x : Str} {i : Nat} (hb : BkOk b) (hd : LdBk b ds) (hi : i < x.length) {j : Nat} {y : Mk} (hj : (fitsP b ds x i)[j]? = some y)
    (hmax : ∀ j' y', (fitsP b ds x i)[j']? = some y' → y'.1.length ≤ y.1.length ∧ (j' < j → y'.1.length < y.1.length)) : stepL b ds x i (bestL b ds x i) = takeL ds i y.1 y.2 := by
  have htok := hb.2.2.1
  have hy := List.mem_of_getElem? hj
  have hy1 : y ∈ possL b ds := (List.mem_filter.mp hy).1
  have hy2 : stAt x y.1 i = true := (List.mem_filter.mp hy).2
  have hfit : fitAt x i y.1 = true := by rw [← stAt_fit (by omega)]; exact hy2
  have hsm := fitL_sm (x := x) (i := i) htok (hd.ok htok)
  have hyf : y.1 ∈ fitL b ds x i := List.mem_filter.mpr ⟨poss_some hy1, hfit⟩
  have hbest : bestL b ds x i = y.1 := by
    unfold bestL
    rcases best_props (l := fitL b ds x i) fun m hm => hsm m (List.mem_filter.mp hm).1 with ⟨h1, _⟩ | ⟨h1, h2⟩
    · rw [h1] at hyf
      cases hyf
    · have hb1 := List.mem_filter.mp h1
      obtain ⟨y', hy', e⟩ := some_poss hb1.1
      have : y' ∈ fitsP b ds x i := List.mem_filter.mpr ⟨hy', by rw [e, stAt_fit (by omega)]; exact hb1.2⟩
      obtain ⟨j', hj'⟩ := List.getElem?_of_mem this
      have l1 := (hmax j' y' hj').1
      rw [e] at l1
      have l2 := h2 y.1 hyf
      exact fit_eq hb1.2 hfit (by omega)
  rw [hbest]
  have hs := hsm y.1 (poss_some hy1)
  obtain ⟨r, hr⟩ := filter_first hj fun j' hj' y' hy' => (hmax j' y' hy').2 hj'
  have hr2 : (possL b ds).filter (fun z => z.1 == y.1) = (y.1, y.2) :: r := by
    rw [← hr]
    unfold fitsP
    rw [List.filter_filter]
    refine List.filter_congr fun z _ => ?_
    cases g : z.1 == y.1 with
    | false => rfl
    | true =>
      rw [eq_of_beq g, hy2]
      rfl
  refine step_take (fun e => ?_) (fun e => ?_) hr2
  · have := hs.1
    rw [e, str_empty] at this
    exact absurd this (by decide)
  · by_cases hl : (tongueL ds).toNat < b.length
    · exact esc_free hb (getD_mem tg0 hl) (some_marks hd (poss_some hy1)) (fit_first (by omega) hfit hs.1) e
    · have e2 : b.getD (tongueL ds).toNat tg0 = tg0 := by simp [hl]
      rw [e2] at e
      have : (#[x.cps.getD i 0] : Array Nat) = #[] := congrArg Str.cps e
      simp at this
end T1
namespace L2
open PySem PySem.Spec PyProof.Rows
section
variable {P : Program} {w : World} {K : PySem.W.Frag} {mg : Str → Option Value} {base : Heap}
theorem Fun.okC {x qual : Str} {st : Stmt} {f c : Addr} {fd : FuncData} {N ps : List Str} {k : Nat} {sp : Sp} (F : Fun K x qual st f fd) (hc : fd.code = .ref c) (S : FnScope N ps (defScope st)) (len : ∀ vs H Q E, sp vs H Q E → vs.length = ps.length)
    (hbody : ∀ (A : Around) (outer : List Env) (s : Shared) (H : Hp) (vs : List V) (Q : VK) (E : XK), Room k (A.deeper (envOfC qual (defScope st) s.heap.objs.size f (.ref c))) → sp vs H Q E →
      ∃ t, PSs (cxOf CX0 P w K mg base N qual (defScope st) f (.ref c) A outer s H E).nox (defBody st) t ∧ t { nx := fun _ H' => Q .non H', rt := Q } (start N vs) H) : FnOk P w K mg base CX0 (k + 1) f fd ps sp := by
  obtain ⟨oc, od, kV, doc, pm, an, cdv, ct, osl, rfl, lk, hcd⟩ := F.ex
  have hc : cdv = .ref c := hc
  subst hc
  refine fn_of lk hcd S len fun A outer s H vs Q E hr hsp => ?_
  obtain ⟨t, h, q⟩ := hbody A outer s H vs Q E hr hsp
  exact ⟨t, h.nox, q⟩
end
end L2
namespace T1
open PySem L2
abbrev lamQ : Str := (Str.ofString "read_step" ++ Str.ofString ".<locals>.") ++ Str.ofString "<lambda>"
abbrev LamTb (tb : Addr) (H : Hp) : Prop := LamT tb lamLn lamCl lamQ H
theorem _root_.L2.LamT.same {P : Addr} {ln cl : Nat} {q : Str} {H H' : Hp} (h : LamT P ln cl q H) (s : Same H H') : LamT P ln cl q H' := by
  rcases h with h | ⟨c', h1, h2⟩
  · exact .inl (s _ _ h)
  · exact .inr ⟨c', s _ _ h1, s _ _ h2⟩
theorem _root_.L2.LamT.sameX {P p : Addr} {ln cl : Nat} {q : Str} {H H' : Hp} {l : List V} (h : LamT P ln cl q H) (hp : H p = some (.lst l)) (s : SameX p H H') : LamT P ln cl q H' := by
  rcases h with h | ⟨c', h1, h2⟩
  · exact .inl (s _ _ (ne_of h hp (by intro q; cases q)) h)
  · exact .inr ⟨c', s _ _ (ne_of h1 hp (by intro q; cases q)) h1, s _ _ (ne_of h2 hp (by intro q; cases q)) h2⟩
mutual
theorem Rep.butT {z P : Addr} {H H' : Hp} {ps : Array Value} (hP : H P = some (.tbl ps)) (s : ButX P H H') : ∀ {v : V} {d : D}, Rep z H v d → Rep z H' v d
  | _, _, .non => .non
  | _, _, .bl b => .bl b
  | _, _, .int i => .int i
  | _, _, .str x h => .str x h
  | _, _, .tup h hz r => .tup (s _ _ (ne_of h hP (by intro q; cases q)) h) hz (Reps.butT hP s r)
  | _, _, .lst h hz r => .lst (s _ _ (ne_of h hP (by intro q; cases q)) h) hz (Reps.butT hP s r)
theorem Reps.butT {z P : Addr} {H H' : Hp} {ps : Array Value} (hP : H P = some (.tbl ps)) (s : ButX P H H') : ∀ {vs : List V} {ds : List D}, Reps z H vs ds → Reps z H' vs ds
  | _, _, .nil => .nil
  | _, _, .cons h t => .cons (Rep.butT hP s h) (Reps.butT hP s t)
end
def But2 (q t : Addr) (H H' : Hp) : Prop := ∀ b o, b ≠ q → b ≠ t → H b = some o → H' b = some o
inductive spStepP (tb : Addr) : List V → Hp → VK → XK → Prop where
  | mk {vs : List V} {H : Hp} {Q : VK} {E : XK} (z v b q ds x : _) (i : Nat) (c1 : vs = [v, .str x, .int i, .ref q]) (c2 : Bag z H) (c3 : q ≠ z) (c4 : Rep z H v (bkD b)) (c5 : BkOk b) (c6 : PDs z H q ds) (c7 : LdBk b ds) (c8 : i < x.length) (c9 : x.length ≤ 20000) (c10 : ds.length ≤ 20000) (c11 : LamTb tb H) (c12 : ∀ p H', But2 q tb H H' → H p = none → H' p = some (.tup (stV (stepL b ds x i (bestL b ds x i)).1)) → PDs z H' q (stepL b ds x i (bestL b ds x i)).2 → LamTb tb H' → Q (.ref p) H') : spStepP tb vs H Q E
section
variable {P : Program} {w : World} {K : PySem.W.Frag} {mg : Str → Option Value} {base : Heap}
theorem scStepP : FnScope ["book", "text", "place", "doors", "fits", "mark", "door"] ["book", "text", "place", "doors"] (defScope sStep) := ⟨rfl, rfl, rfl, by decide +kernel, rfl, by decide +kernel, by decide +kernel⟩
set_option maxHeartbeats 0 in
theorem ok_stepP {f c tb f1 f2 f3 : Addr} {fd fd1 fd2 fd3 : FuncData} (F : Fun K "read_step" "read_step" sStep f fd) (hcd : fd.code = .ref c) (hK : PySem.W.codeHdIn K c tb = true) (hBA : base.BuiltinsAt mg tb) (T : TxtB mg) (hmax : mg "max" = none)
    (k1 : PySem.W.keepIn K (.ref f1) = true) (b1 : Binds K fd1 ["book", "text", "place", "doors"] []) (m1 : mg "fitting_marks" = some (.ref f1)) (G1 : FnOk P w K mg base CX0 3 f1 fd1 ["book", "text", "place", "doors"] spFitP)
    (k2 : PySem.W.keepIn K (.ref f2) = true) (b2 : Binds K fd2 ["book", "text", "place", "doors"] []) (m2 : mg "read_plain" = some (.ref f2)) (G2 : FnOk P w K mg base CX0 2 f2 fd2 ["book", "text", "place", "doors"] spPlainR)
    (k3 : PySem.W.keepIn K (.ref f3) = true) (b3 : Binds K fd3 ["mark", "door", "place", "doors"] []) (m3 : mg "take_mark" = some (.ref f3)) (G3 : FnOk P w K mg base CX0 2 f3 fd3 ["mark", "door", "place", "doors"] spTakeM) : FnOk P w K mg base CX0 4 f fd ["book", "text", "place", "doors"] (spStepP tb) := by
  refine F.okC hcd scStepP (fun vs H Q E h => ?_) (fun A outer s H vs Q E hr h => ?_)
  · obtain ⟨z, v, b, q, ds, x, i, rfl, _⟩ := h
    rfl
  · obtain ⟨z, v, b, q, ds, x, i, rfl, hB, hqz, R0, hok, hD, hbk, hi, hx, hdl, hT, k⟩ := h
    have nd := scStepP.nd
    have htok := hok.2.2.1
    have hld := hbk.ok htok
    refine ⟨_, pss_cons (ps_set (i := 4) nd rfl (Or.inl rfl) (pe_call G1 hr rfl m1 k1 b1 .nil pass0 (pa_cons (pv 0) (pa_cons (pv 1) (pa_cons (pv 2) (pa_cons (pv 3) pa_nil))))))
      (pss_cons (ps_if (pt_not (pt_truth (pv 4) (fun _ => rfl))) (pss_one (ps_ret (pe_call (G2.mono (by omega)) hr rfl m2 k2 b2 .nil pass0 (pa_cons (pv 0) (pa_cons (pv 1) (pa_cons (pv 2) (pa_cons (pv 3) pa_nil))))))) pss_nil)
      (pss_cons (ps_asg (pe_max_lam (P := tb) (c := c) rfl hr.in1.depth hmax T.len rfl hK hBA (pv 4) (fun _ _ _ _ => rfl)) (pg_tup rfl (pgs_cons (pg_name (i := 5) nd rfl (Or.inl rfl)) (pgs_cons (pg_name (i := 6) nd rfl (Or.inl rfl)) pgs_nil))))
      (pss_one (ps_ret (pe_call (G3.mono (by omega)) hr rfl m3 k3 b3 .nil pass0 (pa_cons (pv 5) (pa_cons (pv 6) (pa_cons (pv 2) (pa_cons (pv 3) pa_nil))))))))), ?_⟩
    dsimp only [cxOf, Cx.nox, Cx.wish]
    have big := big1000
    refine ⟨_, rfl, _, rfl, _, rfl, _, rfl, z, v, b, q, ds, x, i, rfl, hB, R0, hok, hD, hld, fun pf ws H1 s1 npf hpf RW => ?_⟩
    have hwl : ws.length = (fitsP b ds x i).length := by have := RW.length; simpa using this
    refine ⟨_, rfl, _, .inl ⟨ws, SqL.of hpf, rfl⟩, ?_⟩
    refine ite2 (fun g => ?_) (fun g => ?_)
    · have hnil : fitsP b ds x i = [] := by
        refine List.eq_nil_of_length_eq_zero ?_
        cases ws with
        | nil => simp at hwl; omega
        | cons _ _ => simp at g
      have hst := step_plain (b := b) (ds := ds) hi hnil
      rw [hst] at k
      refine ⟨_, rfl, _, rfl, _, rfl, _, rfl, z, v, b, q, ds, x, i, rfl, R0.mono s1.x, hok, hD.same s1, hld, hi, hx, fun p H2 s2 np hp => ?_⟩
      exact k p H2 (fun b' o _ _ e => (s1.trans s2) b' o e) (s1.free np) hp (hD.same (s1.trans s2)) (hT.same (s1.trans s2))
    · have hpos : 0 < ws.length := by
        cases ws with
        | nil => simp at g
        | cons _ _ => simp
      have hT1 := hT.same s1
      refine ⟨_, rfl, pf, ws, (fun j => ((fitsP b ds x i).getD j mk0).1), rfl, hpf, hpos, (fun j hj => ?_), hT1, fun H2 j y bx2 T2 hj hmx => ?_⟩
      · obtain ⟨a, u, e, haz, ha, hl, Ru⟩ := rep_mk (reps_mk (ms := fitsP b ds x i) (i := j) RW (by omega))
        refine ⟨a, [u], ?_, ha, hl⟩
        have h2 : ws.getD j .non = ws[j] := by simp [hj]
        rw [List.getElem?_eq_getElem hj, ← h2, e]
      · obtain ⟨ps, hPt⟩ := hT1.tbl
        have hjl : j < ws.length := (List.getElem?_eq_some_iff.mp hj).1
        have ey : y = ws.getD j .non := by rw [List.getD_eq_getElem?_getD, hj]; rfl
        have Rj := Rep.butT hPt bx2 (reps_mk (ms := fitsP b ds x i) (i := j) RW (by omega))
        obtain ⟨a, u, e, haz, ha, hl, Ru⟩ := rep_mk Rj
        have hjf : (fitsP b ds x i)[j]? = some ((fitsP b ds x i).getD j mk0) := by
          have h1 : j < (fitsP b ds x i).length := by omega
          simp [h1]
        have hst := step_longest hok hbk hi hjf (fun j' y' hy' => by
          have h1 : j' < (fitsP b ds x i).length := (List.getElem?_eq_some_iff.mp hy').1
          have := hmx j' (by omega)
          have e2 : (fitsP b ds x i).getD j' mk0 = y' := by rw [List.getD_eq_getElem?_getD, hy']; rfl
          dsimp only at this
          rw [e2] at this
          exact this)
        rw [hst] at k
        generalize hMK : (fitsP b ds x i).getD j mk0 = mk at *
        have hmem : mk ∈ possL b ds := (List.mem_filter.mp (List.mem_of_getElem? hjf)).1
        obtain ⟨vs, hq, RD⟩ := hD
        have hq1 := s1 _ _ hq
        have hq2 := bx2 _ _ (ne_of hq1 hPt (by intro q; cases q)) hq1
        have RD2 := Reps.butT hPt bx2 (RD.mono s1.x)
        have hB2 : Bag z H2 := by
          obtain ⟨c1, c2, e1⟩ := hB.same s1
          exact ⟨c1, c2, bx2 _ _ (ne_of e1 hPt (by intro q; cases q)) e1⟩
        rw [ey, e]
        refine ⟨a, _, rfl, SqT.of ha, rfl, _, _, rfl, _, _, rfl, rfl, ?_⟩
        refine ⟨_, rfl, _, rfl, _, rfl, _, rfl, z, mk.1, u, mk.2, i, q, ds, rfl, hB2, hqz, Ru, hl, ⟨vs, hq2, RD2⟩, hdl, fun ho => ?_, fun p H3 s3 np hp hD3 => ?_⟩
        · have hpd : 0 < ds.length := by
            unfold possL at hmem
            rcases List.mem_append.mp hmem with h | h
            · obtain ⟨d, hd, _⟩ := List.mem_map.mp h
              exact List.length_pos_iff.mpr (fun q => by rw [q] at hd; cases hd)
            · obtain ⟨d, hd, e3⟩ := List.mem_map.mp h
              rw [← e3] at ho
              cases ho
          exact hpd
        · refine k p H3 (fun b' o n1 n2 e' => s3 b' o n1 (bx2 b' o n2 (s1 b' o e'))) ?_ hp hD3 (T2.sameX hq2 s3)
          cases e4 : H p with
          | none => rfl
          | some o =>
            have : H2 p = some o := by
              refine bx2 p o (fun z => ?_) (s1 p o e4)
              subst z
              obtain ⟨ps2, hPt2⟩ := T2.tbl
              rw [hPt2] at np
              cases np
            rw [this] at np
            cases np
end
end T1
namespace T1
open PySem L2
mutual
theorem Rep.but2 {z q t : Addr} {H H' : Hp} {l : List V} {ps : Array Value} (hq : H q = some (.lst l)) (ht : H t = some (.tbl ps)) (s : But2 q t H H') : ∀ {v : V} {d : D}, Rep z H v d → NoL d → Rep z H' v d
  | _, _, .non, _ => .non
  | _, _, .bl b, _ => .bl b
  | _, _, .int i, _ => .int i
  | _, _, .str x h, _ => .str x h
  | _, _, .tup h hz r, .tup k => .tup (s _ _ (ne_of h hq (by intro q; cases q)) (ne_of h ht (by intro q; cases q)) h) hz (Reps.but2 hq ht s r k)
theorem Reps.but2 {z q t : Addr} {H H' : Hp} {l : List V} {ps : Array Value} (hq : H q = some (.lst l)) (ht : H t = some (.tbl ps)) (s : But2 q t H H') : ∀ {vs : List V} {ds : List D}, Reps z H vs ds → NoLs ds → Reps z H' vs ds
  | _, _, .nil, _ => .nil
  | _, _, .cons h k, .cons h' k' => .cons (Rep.but2 hq ht s h h') (Reps.but2 hq ht s k k')
end
theorem But2.trans {q t : Addr} {H H1 H2 : Hp} (a : But2 q t H H1) (b : But2 q t H1 H2) : But2 q t H H2 := fun x o h1 h2 e => b x o h1 h2 (a x o h1 h2 e)
end T1
namespace T1
open PySem L2
inductive spOn (tb : Addr) : List V → Hp → VK → XK → Prop where
  | mk {vs : List V} {H : Hp} {Q : VK} {E : XK} (z v b q x : _) (c1 : vs = [v, .str x, .ref q]) (c2 : Bag z H) (c3 : q ≠ z) (c4 : Rep z H v (bkD b)) (c5 : BkOk b) (c6 : H q = some (.lst [])) (c7 : x.length ≤ 20000) (c8 : LamTb tb H) (c9 : ∀ p fv n H', But2 q tb H H' → H p = none → H' p = some (.lst fv) → (runF b x n).at_ = x.length → Reps z H' fv ((runF b x n).ss.map stD) → PDs z H' q (runF b x n).ds → Bag z H' → LamTb tb H' → Q (.ref p) H') : spOn tb vs H Q E
inductive spStepsP (tb : Addr) : List V → Hp → VK → XK → Prop where
  | mk {vs : List V} {H : Hp} {Q : VK} {E : XK} (z v b x : _) (c1 : vs = [v, .str x]) (c2 : Bag z H) (c3 : Rep z H v (bkD b)) (c4 : BkOk b) (c5 : x.length ≤ 20000) (c6 : LamTb tb H) (c7 : ∀ p fv n H', ButX tb H H' → H p = none → H' p = some (.lst fv) → (runF b x n).at_ = x.length → Reps z H' fv ((runF b x n).ss.map stD) → Bag z H' → LamTb tb H' → Q (.ref p) H') : spStepsP tb vs H Q E
section
variable {P : Program} {w : World} {K : PySem.W.Frag} {mg : Str → Option Value} {base : Heap}
theorem scOn : FnScope ["book", "text", "doors", "told", "place", "step"] ["book", "text", "doors"] (defScope sOn) := ⟨rfl, rfl, rfl, by decide +kernel, rfl, by decide +kernel, by decide +kernel⟩
set_option maxHeartbeats 0 in
theorem ok_on {f tb f1 : Addr} {fd fd1 : FuncData} (F : Fun K "read_on" "read_on" sOn f fd) (T : TxtB mg)
    (k1 : PySem.W.keepIn K (.ref f1) = true) (b1 : Binds K fd1 ["book", "text", "place", "doors"] []) (m1 : mg "read_step" = some (.ref f1)) (G1 : FnOk P w K mg base CX0 4 f1 fd1 ["book", "text", "place", "doors"] (spStepP tb)) : FnOk P w K mg base CX0 5 f fd ["book", "text", "doors"] (spOn tb) := by
  refine F.ok scOn (fun vs H Q E h => ?_) (fun cdv A outer s H vs Q E hr h => ?_)
  · obtain ⟨z, v, b, q, x, rfl, _⟩ := h
    rfl
  · obtain ⟨z, v, b, q, x, rfl, hB, hqz, R0, hok, hq, hx, hT, k⟩ := h
    have nd := scOn.nd
    have hok' := hok
    obtain ⟨hb1, hb6, htok, _⟩ := hok'
    refine ⟨_, pss_cons (ps_set (i := 3) nd rfl (Or.inl rfl) (pe_lst pa_nil))
      (pss_cons (ps_set (i := 4) nd rfl (Or.inl rfl) pe_int)
      (pss_cons (ps_while PassesOwn.never (pt_cmpR op_lt (pv 4) (pe_callB call_len_str (by rfl) T.len b_len (pa_cons (pv 1) pa_nil)) (nomark _))
        (pss_cons (ps_set (i := 5) nd rfl (Or.inl rfl) (pe_call G1 hr rfl m1 k1 b1 .nil pass0 (pa_cons (pv 0) (pa_cons (pv 1) (pa_cons (pv 4) (pa_cons (pv 2) pa_nil))))))
        (pss_cons (ps_expr (pe_bm PySem.F.plainAttrs_list PySem.F.slot_list_append PySem.F.type_list_append mt_append (pv 3) (pa_cons (pv 5) pa_nil)))
        (pss_one (ps_aug (i := 4) nd rfl (Or.inl rfl) (pe_ix ix_tup (pv 5) pe_int (fun _ _ => rfl)) ip_add)))))
      (pss_one (ps_ret (pv 3))))), ?_⟩
    dsimp only [cxOf, Cx.nox, Cx.wish]
    have big := big1000
    have big2 : (100000 : Nat) ≤ sizeLine := by rw [sizeLine_eq]; decide
    refine ⟨Nat.zero_le _, fun pf npf => ?_⟩
    have s1 := Same.new (o := .lst []) npf
    have hpfz : pf ≠ z := hB.ne npf
    have hqf : q ≠ pf := ne_of_none hq npf
    refine while_by (fun σ H3 => ∃ n u, σ = [some v, some (.str x), some (.ref q), some (.ref pf), some (.int (runF b x n).at_), u] ∧ But2 q tb H H3 ∧ Bag z H3 ∧ Rep z H3 v (bkD b) ∧ PDs z H3 q (runF b x n).ds ∧ LamTb tb H3 ∧ ∃ fv, H3 pf = some (.lst fv) ∧ Reps z H3 fv ((runF b x n).ss.map stD))
      (fun σ H3 => match σ[4]? with | some (some (V.int i)) => x.length - i.toNat | _ => 0) ⟨0, none, rfl, fun b' o _ _ e => s1 b' o e, hB.same s1, R0.mono s1.x, ⟨[], s1 _ _ hq, .nil⟩, hT.same s1, [], upd_same, .nil⟩ ?_ ?_
    · rintro σ H3 ⟨n, u, rfl, s3, hB3, R3, D3, T3, fv, hf3, RF⟩
      have rok := run_ok (x := x) htok hb1 n
      have hle := rok.le
      refine ⟨_, rfl, _, rfl, x, rfl, by omega, _, _, rfl, rfl, _, rfl, ?_⟩
      refine ite2 (fun hlt => ?_) (fun hlt => ?_)
      · have hlt : (runF b x n).at_ < x.length := by have := of_decide_eq_true hlt; omega
        have hdl := rok.dl
        have hsl := rok.sl
        refine ⟨_, rfl, _, rfl, _, rfl, _, rfl, z, v, b, q, (runF b x n).ds, x, (runF b x n).at_, rfl, hB3, hqz, R3, hok, D3, rok.bk, hlt, hx, by omega, T3, fun p H4 s4 np hp D4 T4 => ?_⟩
        obtain ⟨p1, p2, p3, p4, p5, p6⟩ := stepL_props (x := x) htok rok.bk hb1 hlt
        rw [← run_at_ds hlt] at D4
        obtain ⟨dv3, hq3, _⟩ := D3
        obtain ⟨ps, ht3⟩ := T3.tbl
        have R4 := Rep.but2 hq3 ht3 s4 R3 (.tup (noL_tgs b))
        have RF4 := Reps.but2 hq3 ht3 s4 RF (noL_sts _)
        have hf4 := s4 _ _ hqf.symm (ne_of hf3 ht3 (by intro q; cases q)) hf3
        have hB4 : Bag z H4 := by
          obtain ⟨c1, c2, e⟩ := hB3
          exact ⟨c1, c2, s4 _ _ hqz.symm (ne_of e ht3 (by intro q; cases q)) e⟩
        have hpz : p ≠ z := hB3.ne np
        have hfl : fv.length = (runF b x n).ss.length := by have := RF.length; simpa using this
        refine ⟨_, rfl, .inl ⟨rfl, _, SqL.of hf4⟩, _, rfl, pf, fv, _, rfl, rfl, hf4, by omega, ?_⟩
        have rst : Rep z H4 (.ref p) (stD (stepL b (runF b x n).ds x (runF b x n).at_ (bestL b (runF b x n).ds x (runF b x n).at_)).1) := .tup hp hpz (.cons (.int _) (.cons (.int _) (.cons (.str _ (by omega)) (.cons (.int _) (.cons (.int _) .nil)))))
        have hf5 : upd H4 pf (.lst (fv ++ [.ref p])) pf = some (.lst (fv ++ [.ref p])) := upd_same
        have RF5 : Reps z (upd H4 pf (.lst (fv ++ [.ref p]))) (fv ++ [.ref p]) ((runF b x (n + 1)).ss.map stD) := by
          rw [run_at_ss hlt, List.map_append]
          exact Reps.updL hf4 (RF4.append (.cons rst .nil)) ((noL_sts _).append (noL_sts [_]))
        have R5 := Rep.updL (l' := fv ++ [.ref p]) hf4 R4 (.tup (noL_tgs b))
        obtain ⟨dv, hq4, RD4⟩ := D4
        have hq5 : upd H4 pf (.lst (fv ++ [.ref p])) q = some (.lst dv) := by rw [upd_ne hqf]; exact hq4
        have RD5 := Reps.updL (l' := fv ++ [.ref p]) hf4 RD4 (noL_pds _)
        have T5 : LamTb tb (upd H4 pf (.lst (fv ++ [.ref p]))) := T4.sameX hf4 (SameX.refl.upd)
        have hp5 : upd H4 pf (.lst (fv ++ [.ref p])) p = some (.tup (stV (stepL b (runF b x n).ds x (runF b x n).at_ (bestL b (runF b x n).ds x (runF b x n).at_)).1)) := by
          rw [upd_ne (ne_of hp hf4 (by intro q; cases q))]; exact hp
        have hB5 : Bag z (upd H4 pf (.lst (fv ++ [.ref p]))) := by
          obtain ⟨c1, c2, e⟩ := hB4
          exact ⟨c1, c2, by rw [upd_ne hpfz.symm]; exact e⟩
        have S5 : But2 q tb H (upd H4 pf (.lst (fv ++ [.ref p]))) := fun b' o h1 h2 e => by rw [upd_ne (ne_of_none e npf)]; exact (s3.trans s4) b' o h1 h2 e
        generalize upd H4 pf (.lst (fv ++ [.ref p])) = H5 at hf5 RF5 R5 hq5 RD5 T5 hp5 hB5 S5
        refine ⟨_, rfl, _, rfl, p, _, 1, _, rfl, rfl, SqT.of hp5, atI_nat (j := 1) rfl, _, _, rfl, rfl, ?_⟩
        have eat : ((runF b x n).at_ : Int) + (stepL b (runF b x n).ds x (runF b x n).at_ (bestL b (runF b x n).ds x (runF b x n).at_)).1.2.1 = ((runF b x (n + 1)).at_ : Int) := by
          rw [run_at hlt]
          show _ = ((_ + _ : Nat) : Int)
          omega
        refine ⟨⟨n + 1, some (.ref p), ?_, S5, hB5, R5, ⟨dv, hq5, RD5⟩, T5, _, hf5, RF5⟩, ?_⟩
        · show [some v, some (.str x), some (.ref q), some (.ref pf), some (V.int (((runF b x n).at_ : Int) + (stepL b (runF b x n).ds x (runF b x n).at_ (bestL b (runF b x n).ds x (runF b x n).at_)).1.2.1)), some (.ref p)] = _
          rw [eat]
        · show x.length - (((runF b x n).at_ : Int) + (stepL b (runF b x n).ds x (runF b x n).at_ (bestL b (runF b x n).ds x (runF b x n).at_)).1.2.1).toNat < x.length - ((runF b x n).at_ : Int).toNat
          omega
      · have hge : (runF b x n).at_ = x.length := by
          have : ¬ (((runF b x n).at_ : Int) < (x.length : Int)) := fun q => hlt (decide_eq_true q)
          omega
        exact ⟨_, rfl, k pf fv n H3 s3 npf hf3 hge RF D3 hB3 T3⟩
    · rintro σ H3 Q1 Q2 hq ⟨v1, e1, v2, e2, x2, e3, h4, i1, i2, e5, e6, b1, e7, h⟩
      exact ⟨v1, e1, v2, e2, x2, e3, h4, i1, i2, e5, e6, b1, e7, hq _ _ h⟩
theorem scStepsP : FnScope ["book", "text"] ["book", "text"] (defScope sSteps) := ⟨rfl, rfl, rfl, by decide +kernel, rfl, by decide +kernel, by decide +kernel⟩
theorem ok_stepsP {f tb f1 : Addr} {fd fd1 : FuncData} (F : Fun K "steps" "steps" sSteps f fd)
    (k1 : PySem.W.keepIn K (.ref f1) = true) (b1 : Binds K fd1 ["book", "text", "doors"] []) (m1 : mg "read_on" = some (.ref f1)) (G1 : FnOk P w K mg base CX0 5 f1 fd1 ["book", "text", "doors"] (spOn tb)) : FnOk P w K mg base CX0 6 f fd ["book", "text"] (spStepsP tb) := by
  refine F.ok scStepsP (fun vs H Q E h => ?_) (fun cdv A outer s H vs Q E hr h => ?_)
  · obtain ⟨z, v, b, x, rfl, _⟩ := h
    rfl
  · obtain ⟨z, v, b, x, rfl, hB, R0, hok, hx, hT, k⟩ := h
    refine ⟨_, pss_one (ps_ret (pe_call G1 hr rfl m1 k1 b1 .nil pass0 (pa_cons (pv 0) (pa_cons (pv 1) (pa_cons (pe_lst pa_nil) pa_nil))))), ?_⟩
    refine ⟨_, rfl, _, rfl, Nat.zero_le _, fun q nq => ?_⟩
    have s1 := Same.new (o := .lst []) nq
    refine ⟨z, v, b, q, x, rfl, hB.same s1, hB.ne nq, R0.mono s1.x, hok, upd_same, hx, hT.same s1, fun p fv n H2 s2 np hp hat RF D2 hB2 T2 => ?_⟩
    exact k p fv n H2 (fun b' o h e => s2 b' o (ne_of_none e nq) h (s1 b' o e)) (s1.free np) hp hat RF hB2 T2
end
end T1
namespace T1
open PySem L2
abbrev st0 : Stp := (0, 0, ⟨#[]⟩, 0, 0)
theorem rep_stV {z : Addr} {H : Hp} {v : V} {d : Stp} (r : Rep z H v (stD d)) : ∃ a, v = .ref a ∧ a ≠ z ∧ H a = some (.tup (stV d)) ∧ d.2.2.1.length ≤ 1000 := by
  cases r with
  | tup h hz r =>
    cases r with
    | cons r1 r =>
      cases r with
      | cons r2 r =>
        cases r with
        | cons r3 r =>
          cases r with
          | cons r4 r =>
            cases r with
            | cons r5 r =>
              cases r
              cases r1
              cases r2
              cases r4
              cases r5
              cases r3 with
              | str _ h3 => exact ⟨_, rfl, hz, h, h3⟩
theorem reps_st {z : Addr} {H : Hp} {fv : List V} {ss : List Stp} {t : Nat} (R : Reps z H fv (ss.map stD)) (h : t < ss.length) : Rep z H (fv.getD t .non) (stD (ss.getD t st0)) := by
  have := R.get (i := t) (by simp; omega)
  simpa [h] using this
theorem noL_st (s : Stp) : NoL (stD s) := .tup (.cons (.int _) (.cons (.int _) (.cons (.str _) (.cons (.int _) (.cons (.int _) .nil)))))
theorem rep_st' {z p : Addr} {H : Hp} {d : Stp} (h : H p = some (.tup (stV d))) (hz : p ≠ z) (hl : d.2.2.1.length ≤ 1000) : Rep z H (.ref p) (stD d) := .tup h hz (.cons (.int _) (.cons (.int _) (.cons (.str _ hl) (.cons (.int _) (.cons (.int _) .nil)))))
theorem range_st {α : Type} (f : Stp → α) (ss : List Stp) : (List.range ss.length).map (fun i => f (ss.getD i st0)) = ss.map f := by
  refine List.ext_getElem (by simp) fun i h1 h2 => ?_
  have h3 : i < ss.length := by simpa using h2
  simp [h3]
end T1
namespace T1
open PySem L2
theorem take_snoc {ss : List Stp} {t : Nat} (h : t < ss.length) : ss.take (t + 1) = ss.take t ++ [ss.getD t st0] := by
  rw [List.take_succ, List.getD_eq_getElem?_getD, List.getElem?_eq_getElem h]
  rfl
def leftStep (l : List Int) (s : Stp) : List Int := if s.2.2.1 = Str.ofString "open" then l ++ [s.1] else if s.2.2.1 = Str.ofString "close" then l.dropLast else l
def leftL (ss : List Stp) : List Int := ss.foldl leftStep []
theorem leftL_snoc (ss : List Stp) (s : Stp) : leftL (ss ++ [s]) = leftStep (leftL ss) s := by
  unfold leftL
  rw [List.foldl_append]
  rfl
def LeftOk (ss : List Stp) : Prop := ∀ t, t < ss.length → (ss.getD t st0).2.2.1 = Str.ofString "close" → leftL (ss.take t) ≠ []
theorem w_cut_open : Str.ofString "cut" ≠ Str.ofString "open" := by decide +kernel
theorem w_cut_close : Str.ofString "cut" ≠ Str.ofString "close" := by decide +kernel
theorem w_esc_open : Str.ofString "escape" ≠ Str.ofString "open" := by decide +kernel
theorem w_esc_close : Str.ofString "escape" ≠ Str.ofString "close" := by decide +kernel
theorem w_sign_open : Str.ofString "sign" ≠ Str.ofString "open" := by decide +kernel
theorem w_sign_close : Str.ofString "sign" ≠ Str.ofString "close" := by decide +kernel
theorem w_close_open : Str.ofString "close" ≠ Str.ofString "open" := by decide +kernel
theorem w_open_close : Str.ofString "open" ≠ Str.ofString "close" := by decide +kernel
theorem w_no_open : Str.ofString "" ≠ Str.ofString "open" := by decide +kernel
theorem w_no_close : Str.ofString "" ≠ Str.ofString "close" := by decide +kernel
theorem left_step (b : Bk) (ds : List LDr) (x : Str) (i : Nat) (m : Str) : leftStep (ds.map (·.1)) (stepL b ds x i m).1 = (stepL b ds x i m).2.map (·.1) ∧ ((stepL b ds x i m).1.2.2.1 = Str.ofString "close" → ds ≠ []) := by
  unfold stepL
  split
  · split
    · exact ⟨by unfold leftStep; rw [if_neg w_cut_open, if_neg w_cut_close], fun e => absurd e w_cut_close⟩
    · exact ⟨by unfold leftStep; rw [if_neg w_esc_open, if_neg w_esc_close], fun e => absurd e w_esc_close⟩
  · split
    · exact ⟨by unfold leftStep; rw [if_neg w_sign_open, if_neg w_sign_close], fun e => absurd e w_sign_close⟩
    · split
      · rename_i h
        exact ⟨by unfold leftStep; rw [if_neg w_close_open, if_pos rfl, List.map_dropLast], fun _ => h.1⟩
      · split
        · exact ⟨by unfold leftStep; rw [if_pos rfl, List.map_append]; rfl, fun e => absurd e w_open_close⟩
        · exact ⟨by unfold leftStep; rw [if_neg w_no_open, if_neg w_no_close], fun e => absurd e w_no_close⟩
theorem run_left (b : Bk) (x : Str) : ∀ n, leftL (runF b x n).ss = (runF b x n).ds.map (·.1) ∧ LeftOk (runF b x n).ss
  | 0 => ⟨rfl, fun t h => nomatch h⟩
  | n + 1 => by
    obtain ⟨ih, ih2⟩ := run_left b x n
    by_cases hlt : (runF b x n).at_ < x.length
    · obtain ⟨l1, l2⟩ := left_step b (runF b x n).ds x (runF b x n).at_ (bestL b (runF b x n).ds x (runF b x n).at_)
      rw [run_at_ss hlt, run_at_ds hlt]
      refine ⟨by rw [leftL_snoc, ih]; exact l1, fun t ht hc => ?_⟩
      rw [List.length_append] at ht
      by_cases h : t < (runF b x n).ss.length
      · rw [List.take_append_of_le_length (by omega)]
        refine ih2 t h ?_
        rw [List.getD_eq_getElem?_getD, List.getElem?_append_left h, ← List.getD_eq_getElem?_getD] at hc
        exact hc
      · have e : t = (runF b x n).ss.length := by
          have : t < (runF b x n).ss.length + 1 := ht
          omega
        subst e
        rw [List.take_left, ih]
        have hc' : (stepL b (runF b x n).ds x (runF b x n).at_ (bestL b (runF b x n).ds x (runF b x n).at_)).1.2.2.1 = Str.ofString "close" := by
          rw [List.getD_eq_getElem?_getD, List.getElem?_append_right (Nat.le_refl _)] at hc
          simpa using hc
        have := l2 hc'
        intro q
        exact this (List.map_eq_nil_iff.mp q)
    · have e : runF b x (n + 1) = runF b x n := by
        show runStep b x (runF b x n) = _
        unfold runStep
        rw [if_neg hlt]
      rw [e]
      exact ⟨ih, ih2⟩
def cutL (ss : List Stp) : List LDr := if ss ≠ [] ∧ (ss.getD (ss.length - 1) st0).2.2.1 = Str.ofString "cut" then [((ss.getD (ss.length - 1) st0).1, (ss.getD (ss.length - 1) st0).2.2.2.1, Str.ofString "")] else []
theorem dep_lds (k : Nat) : ∀ ds : List LDr, Deps (k + 1) (ds.map ldD)
  | [] => .nil _
  | d :: r => .cons (.tup (.cons (.int _ _) (.cons (.int _ _) (.cons (.str _ _) (.nil _))))) (dep_lds k r)
end T1
namespace T1
open PySem L2
inductive spLeft : List V → Hp → VK → XK → Prop where
  | mk {vs : List V} {H : Hp} {Q : VK} {E : XK} (z q fv ss : _) (c1 : vs = [.ref q]) (c2 : H q = some (.lst fv)) (c3 : Reps z H fv (ss.map stD)) (c4 : LeftOk ss) (c5 : ss.length ≤ 20000) (c6 : ∀ p H', Same H H' → H p = none → H' p = some (.lst ((leftL ss).map V.int)) → Q (.ref p) H') : spLeft vs H Q E
section
variable {P : Program} {w : World} {K : PySem.W.Frag} {mg : Str → Option Value} {base : Heap}
theorem scLeft : FnScope ["told", "places", "place", "many", "word", "tongue", "depth"] ["told"] (defScope sLeft) := ⟨rfl, rfl, rfl, by decide +kernel, rfl, by decide +kernel, by decide +kernel⟩
set_option maxHeartbeats 0 in
theorem ok_left {f : Addr} {fd : FuncData} (F : Fun K "places_left_open" "places_left_open" sLeft f fd) : FnOk P w K mg base CX0 1 f fd ["told"] spLeft := by
  refine F.ok scLeft (fun vs H Q E h => ?_) (fun cdv A outer s H vs Q E hr h => ?_)
  · obtain ⟨z, q, fv, ss, rfl, _⟩ := h
    rfl
  · obtain ⟨z, q, fv, ss, rfl, hq, R, hok, hn, k⟩ := h
    have nd := scLeft.nd
    refine ⟨_, pss_cons (ps_set (i := 1) nd rfl (Or.inl rfl) (pe_lst pa_nil))
      (pss_cons (ps_for PassesOwn.never rfl (pi_list (pv 0)) (pg_tup rfl (pgs_cons (pg_name (i := 2) nd rfl (Or.inl rfl)) (pgs_cons (pg_name (i := 3) nd rfl (Or.inl rfl)) (pgs_cons (pg_name (i := 4) nd rfl (Or.inl rfl)) (pgs_cons (pg_name (i := 5) nd rfl (Or.inl rfl)) (pgs_cons (pg_name (i := 6) nd rfl (Or.inl rfl)) pgs_nil))))))
        (pss_one (ps_if (pt_cmpR op_eq (pv 4) pe_str (nomark _)) (pss_one (ps_expr (pe_bm PySem.F.plainAttrs_list PySem.F.slot_list_append PySem.F.type_list_append mt_append (pv 1) (pa_cons (pv 2) pa_nil))))
          (pss_one (ps_if (pt_cmpR op_eq (pv 4) pe_str (nomark _)) (pss_one (ps_expr (pe_bm0 PySem.F.plainAttrs_list PySem.F.slot_list_pop PySem.F.type_list_pop mt_pop (pv 1)))) pss_nil)))))
      (pss_one (ps_ret (pv 1)))), ?_⟩
    dsimp only [cxOf, Cx.nox, Cx.wish]
    have big := big1000
    have big2 : (100000 : Nat) ≤ sizeLine := by rw [sizeLine_eq]; decide
    have hfl : fv.length = ss.length := by have := R.length; simpa using this
    refine ⟨Nat.zero_le _, fun p np => ?_⟩
    have s0 : Same H (upd H p (.lst [])) := Same.new np
    refine ⟨_, rfl, q, rfl, ⟨_, SqL.of (s0 _ _ hq)⟩, for_list (K := K) (a := q) (xs := fv) (fun t σ H2 => ∃ u2 u3 u4 u5 u6, σ = [some (.ref q), some (.ref p), u2, u3, u4, u5, u6] ∧ Same H H2 ∧ H2 p = some (.lst ((leftL (ss.take t)).map V.int)) ∧ (leftL (ss.take t)).length ≤ t)
      ⟨none, none, none, none, none, rfl, s0, by rw [upd_same]; rfl, Nat.le_refl _⟩ (fun t σ H2 _ ⟨_, _, _, _, _, _, s, _⟩ => SqL.of (s _ _ hq)) ?_ ?_⟩
    · rintro t y σ H2 ht ⟨u2, u3, u4, u5, u6, rfl, s2, hp, hl⟩
      have htl : t < ss.length := by have := (List.getElem?_eq_some_iff.mp ht).1; omega
      have ey : y = fv.getD t .non := by rw [List.getD_eq_getElem?_getD, ht]; rfl
      obtain ⟨a, e, haz, ha, _⟩ := rep_stV (reps_st (t := t) R htl)
      have hkt := hok t htl
      rw [ey, e]
      rw [take_snoc htl, leftL_snoc]
      generalize hS : ss.getD t st0 = st at *
      generalize hL : leftL (ss.take t) = l at *
      refine ⟨a, _, rfl, SqT.of (s2 _ _ ha), rfl, _, _, rfl, _, _, rfl, _, _, rfl, _, _, rfl, _, _, rfl, rfl, ?_⟩
      refine ⟨_, rfl, rfl, _, rfl, ?_⟩
      refine ite2 (fun g => ?_) (fun g => ?_)
      · have g' : st.2.2.1 = Str.ofString "open" := by simpa using g
        refine ⟨_, rfl, .inl ⟨rfl, _, SqL.of hp⟩, _, rfl, p, _, _, rfl, rfl, hp, by rw [List.length_map]; omega, ?_⟩
        refine ⟨_, _, _, _, _, rfl, fun b' o e' => by rw [upd_ne (ne_of_none e' np)]; exact s2 b' o e', ?_, ?_⟩
        · rw [upd_same]
          unfold leftStep
          rw [if_pos g', List.map_append]
          rfl
        · unfold leftStep
          rw [if_pos g', List.length_append]
          show _ + 1 ≤ _
          omega
      · have g' : st.2.2.1 ≠ Str.ofString "open" := by simpa using g
        refine ⟨_, rfl, rfl, _, rfl, ?_⟩
        refine ite2 (fun g2 => ?_) (fun g2 => ?_)
        · have g2' : st.2.2.1 = Str.ofString "close" := by simpa using g2
          have hne := hkt g2'
          have hpos : 0 < l.length := List.length_pos_iff.mpr hne
          refine ⟨_, rfl, .inl ⟨rfl, _, SqL.of hp⟩, p, l.map V.int, _, rfl, rfl, hp, get_of (by rw [List.length_map]; omega), ?_⟩
          refine ⟨_, _, _, _, _, rfl, fun b' o e' => by rw [upd_ne (ne_of_none e' np)]; exact s2 b' o e', ?_, ?_⟩
          · rw [upd_same]
            unfold leftStep
            rw [if_neg g', if_pos g2', List.map_dropLast]
          · unfold leftStep
            rw [if_neg g', if_pos g2', List.length_dropLast]
            omega
        · have g2' : st.2.2.1 ≠ Str.ofString "close" := by simpa using g2
          refine ⟨_, _, _, _, _, rfl, s2, ?_, ?_⟩
          · unfold leftStep
            rw [if_neg g', if_neg g2']
            exact hp
          · unfold leftStep
            rw [if_neg g', if_neg g2']
            omega
    · rintro σ H2 ⟨u2, u3, u4, u5, u6, rfl, s2, hp, hl⟩
      have e : ss.take fv.length = ss := by rw [hfl]; exact List.take_length
      rw [e] at hp
      exact ⟨_, rfl, k p H2 s2 np hp⟩
end
end T1
namespace T1
open PySem L2
section
variable {P : Program} {w : World} {K : PySem.W.Frag} {mg : Str → Option Value} {base : Heap}
end
end T1
namespace T1
open PySem L2
inductive spUnfin (tb : Addr) : List V → Hp → VK → XK → Prop where
  | mk {vs : List V} {H : Hp} {Q : VK} {E : XK} (z v b x : _) (c1 : vs = [v, .str x]) (c2 : Bag z H) (c3 : Rep z H v (bkD b)) (c4 : BkOk b) (c5 : x.length ≤ 20000) (c6 : LamTb tb H) (c7 : ∀ p fv n H', ButX tb H H' → H p = none → H' p = some (.lst fv) → (runF b x n).at_ = x.length → Reps z H' fv (((runF b x n).ds ++ cutL (runF b x n).ss).map ldD) → Bag z H' → LamTb tb H' → Q (.ref p) H') : spUnfin tb vs H Q E
theorem LamT.free {tb l : Addr} {H H' : Hp} (hT : LamTb tb H') (bx : ButX tb H H') (nl : H' l = none) : H l = none := by
  cases e : H l with
  | none => rfl
  | some o =>
    exfalso
    by_cases hlt : l = tb
    · obtain ⟨ps2, ht2⟩ := hT.tbl
      rw [hlt, ht2] at nl
      cases nl
    · rw [bx l o hlt e] at nl
      cases nl
section
variable {P : Program} {w : World} {K : PySem.W.Frag} {mg : Str → Option Value} {base : Heap}
theorem scUnfin : FnScope ["book", "text", "doors", "told", "ends", "place", "many", "word", "tongue", "depth"] ["book", "text"] (defScope sUnfin) := ⟨rfl, rfl, rfl, by decide +kernel, rfl, by decide +kernel, by decide +kernel⟩
theorem ndPIC : (["place", "inner", "close"] : List Str).Nodup := by decide +kernel
set_option maxHeartbeats 0 in
theorem ok_unfin {f tb f1 f2 : Addr} {fd fd1 fd2 : FuncData} (F : Fun K "unfinished" "unfinished" sUnfin f fd) (hzip : mg "zip" = none)
    (k1 : PySem.W.keepIn K (.ref f1) = true) (b1 : Binds K fd1 ["book", "text", "doors"] []) (m1 : mg "read_on" = some (.ref f1)) (G1 : FnOk P w K mg base CX0 5 f1 fd1 ["book", "text", "doors"] (spOn tb))
    (k2 : PySem.W.keepIn K (.ref f2) = true) (b2 : Binds K fd2 ["told"] []) (m2 : mg "places_left_open" = some (.ref f2)) (G2 : FnOk P w K mg base CX0 1 f2 fd2 ["told"] spLeft) : FnOk P w K mg base CX0 6 f fd ["book", "text"] (spUnfin tb) := by
  refine F.ok scUnfin (fun vs H Q E h => ?_) (fun cdv A outer s H vs Q E hr h => ?_)
  · obtain ⟨z, v, b, x, rfl, _⟩ := h
    rfl
  · obtain ⟨z, v, b, x, rfl, hB, R0, hok, hx, hT, k⟩ := h
    have nd := scUnfin.nd
    have hr1 : Room 1 _ := hr.mono (by decide)
    obtain ⟨hb1, hb6, htok, _⟩ := id hok
    refine ⟨_, pss_cons (ps_set (i := 2) nd rfl (Or.inl rfl) (pe_lst pa_nil))
      (pss_cons (ps_set (i := 3) nd rfl (Or.inl rfl) (pe_call G1 hr rfl m1 k1 b1 .nil pass0 (pa_cons (pv 0) (pa_cons (pv 1) (pa_cons (pv 2) pa_nil)))))
      (pss_cons (ps_setcomp1 (N' := ["place", "inner", "close"]) (js := [none, none, none]) (i := 4) rfl rfl nd rfl (Or.inl rfl) (blk_of (defScope sUnfin) (by decide +kernel)) trivial
        (pi_zip rfl hzip (pa_cons (pe_call G2 hr1 rfl m2 k2 b2 .nil pass0 (pa_cons (pv 3) pa_nil)) (pa_cons (pv 2) pa_nil)))
        (fun cl s H fp => pg_tupB 2 rfl (pgs_cons (pg_name (i := 0) ndPIC rfl (Or.inl rfl) (Or.inr rfl)) (pgs_cons (pg_tupB 2 rfl (pgs_cons (pg_name (i := 1) ndPIC rfl (Or.inl rfl) (Or.inr rfl)) (pgs_cons (pg_name (i := 2) ndPIC rfl (Or.inl rfl) (Or.inr rfl)) pgs_nil))) pgs_nil)))
        (fun cl s H fp => pts_nil) (fun cl s H fp => pe_tup (pa_cons (pv 0) (pa_cons (pv 1) (pa_cons (pv 2) pa_nil)))))
      (pss_cons (ps_if (PW.pt (pw_and (pt_truth (pv 3) (fun _ => rfl)) (pw_and1 (pt_cmpR op_eq (pe_ix ix_tup (pe_ix ix_list (pv 3) (pe_un un_neg pe_int) (fun _ _ => rfl)) pe_int (fun _ _ => rfl)) pe_str (nomark _)))))
        (pss_cons (ps_asg (pe_ix ix_list (pv 3) (pe_un un_neg pe_int) (fun _ _ => rfl)) (pg_tup rfl (pgs_cons (pg_name (i := 5) nd rfl (Or.inl rfl)) (pgs_cons (pg_name (i := 6) nd rfl (Or.inl rfl)) (pgs_cons (pg_name (i := 7) nd rfl (Or.inl rfl)) (pgs_cons (pg_name (i := 8) nd rfl (Or.inl rfl)) (pgs_cons (pg_name (i := 9) nd rfl (Or.inl rfl)) pgs_nil)))))))
        (pss_one (ps_expr (pe_bm PySem.F.plainAttrs_list PySem.F.slot_list_append PySem.F.type_list_append mt_append (pv 4) (pa_cons (pe_tup (pa_cons (pv 5) (pa_cons (pv 8) (pa_cons pe_str pa_nil)))) pa_nil))))) pss_nil)
      (pss_one (ps_ret (pv 4)))))), ?_⟩
    dsimp only [cxOf, Cx.nox, Cx.wish]
    have big := big1000
    have big2 : (100000 : Nat) ≤ sizeLine := by rw [sizeLine_eq]; decide
    refine ⟨Nat.zero_le _, fun q nq => ?_⟩
    have s1 := Same.new (o := .lst []) nq
    refine ⟨_, rfl, _, rfl, _, rfl, z, v, b, q, x, rfl, hB.same s1, hB.ne nq, R0.mono s1.x, hok, upd_same, hx, hT.same s1, fun p fv n H2 s2 np hp hat RF D2 hB2 T2 => ?_⟩
    have bx2 : ButX tb H H2 := fun b' o h e => s2 b' o (ne_of_none e nq) h (s1 b' o e)
    obtain ⟨dv, hq2, RD⟩ := D2
    obtain ⟨hleft, hlok⟩ := run_left b x n
    have rok := run_ok (x := x) htok hb1 n
    have rsl := rok.sl
    have rdl := rok.dl
    rw [hat] at rsl rdl
    generalize hSS : (runF b x n).ss = ss at *
    generalize hDS : (runF b x n).ds = ds at *
    have hfl : fv.length = ss.length := by have := RF.length; simpa using this
    have hdl : dv.length = ds.length := by have := RD.length; simpa using this
    refine ⟨_, rfl, z, p, fv, ss, rfl, hp, RF, hlok, by omega, fun pl H3 s3 npl hpl => ?_⟩
    rw [hleft] at hpl
    have hq3 := s3 _ _ hq2
    have hplq : pl ≠ q := (ne_of_none hq2 npl).symm
    refine ⟨_, rfl, pl, q, rfl, ⟨_, SqL.of hpl⟩, ⟨_, SqL.of hq3⟩, fun pC npC => ?_⟩
    have s4 := Same.new (o := .lst []) npC
    have hB3 := hB2.same s3
    have hCz : pC ≠ z := hB3.ne npC
    have hqC : q ≠ pC := ne_of_none hq3 npC
    have hplC : pl ≠ pC := ne_of_none hpl npC
    refine loop_zip (K := K) (a := pl) (b := q) (xs := (ds.map (·.1)).map V.int) (ys := dv) (fun t σ H5 => (∃ u0 u1 u2, σ = [u0, u1, u2]) ∧ SameX pC H3 H5 ∧ ∃ ev, H5 pC = some (.lst ev) ∧ Reps z H5 ev ((ds.take t).map ldD)) ⟨⟨none, none, none, rfl⟩, s4.x, [], upd_same, .nil⟩ (by simp [hdl]) (fun t σ H5 hw => ⟨SqL.of (hw.2.1 _ _ hplC hpl), SqL.of (hw.2.1 _ _ hqC hq3)⟩) ?_ ?_
    · rintro σ H5 ⟨_, s5, ev, hC5, RE⟩
      have e : ds.take ((ds.map (·.1)).map V.int).length = ds := by rw [List.length_map, List.length_map]; exact List.take_length
      rw [e] at RE
      have S5 : Same H3 H5 := fun b' o e => s5 b' o (ne_of_none e npC) e
      have hp5 := S5 _ _ (s3 _ _ hp)
      have RF5 := (RF.mono s3.x (z := z)).mono S5.x (z := z)
      have hB5 := hB3.same S5
      have bx5 : ButX tb H H5 := fun b' o h e => S5 b' o (s3 b' o (bx2 b' o h e))
      have T5 := (T2.same s3).same S5
      have nC : H pC = none := LamT.free (T2.same s3) (fun b' o h e => s3 b' o (bx2 b' o h e)) npC
      have hel : ev.length = ds.length := by have := RE.length; simpa using this
      have fin : ∀ (H6 : Hp) (ev6 : List V) (es : List LDr), ButX tb H H6 → H6 pC = some (.lst ev6) → Reps z H6 ev6 ((ds ++ es).map ldD) → es = cutL ss → Bag z H6 → LamTb tb H6 → Q (.ref pC) H6 := fun H6 ev6 es g1 g2 g3 g4 g5 g6 => k pC ev6 n H6 g1 nC g2 hat (by rw [hDS, hSS, ← g4]; exact g3) g5 g6
      refine ⟨_, rfl, _, .inl ⟨fv, SqL.of hp5, rfl⟩, ?_⟩
      cases hss : ss.length with
      | zero =>
        have h0 : ss = [] := List.eq_nil_of_length_eq_zero hss
        have hf0 : fv = [] := List.eq_nil_of_length_eq_zero (by omega)
        subst h0
        subst hf0
        refine iteF ?_
        refine iteF ?_
        refine ⟨_, rfl, fin H5 ev [] bx5 hC5 (by rw [List.append_nil]; exact RE) ?_ hB5 T5⟩
        unfold cutL
        rw [if_neg (by simp)]
      | succ m =>
        have hfl2 : fv.length = m + 1 := by omega
        obtain ⟨a, ea, haz, ha, hwl⟩ := rep_stV (reps_st (t := m) RF5 (by omega))
        have hat1 : atI fv (-1) = some (.ref a) := by
          have e1 : ixN fv.length (-1) = some (fv.length - 1) := by
            unfold ixN
            rw [if_neg (by decide), if_pos (by omega)]
            congr 1
            omega
          unfold atI
          rw [e1]
          show fv[fv.length - 1]? = _
          have e2 : fv.length - 1 = m := by omega
          rw [e2, ← ea, List.getD_eq_getElem?_getD]
          have : m < fv.length := by omega
          rw [List.getElem?_eq_getElem this]
          rfl
        have hlast : ss.getD (ss.length - 1) st0 = ss.getD m st0 := by rw [hss]; rfl
        have hne : ss ≠ [] := fun q => by rw [q] at hss; cases hss
        refine ite2 (fun _ => ?_) (fun g0 => ?_)
        case' refine_2 =>
          exfalso
          cases fv with
          | nil => simp at hfl2
          | cons _ _ => simp at g0
        refine ⟨_, rfl, 1, rfl, p, fv, -1, _, rfl, rfl, SqL.of hp5, hat1, a, _, 2, _, rfl, rfl, SqT.of ha, atI_nat (j := 2) rfl, rfl, _, rfl, ?_⟩
        generalize hST : ss.getD m st0 = st at *
        refine ite2 (fun g => ?_) (fun g => ?_)
        · have g' : st.2.2.1 = Str.ofString "cut" := by simpa using g
          refine ⟨_, rfl, 1, rfl, p, fv, -1, _, rfl, rfl, SqL.of hp5, hat1, a, _, rfl, SqT.of ha, rfl, _, _, rfl, _, _, rfl, _, _, rfl, _, _, rfl, _, _, rfl, rfl, ?_⟩
          refine ⟨_, rfl, .inl ⟨rfl, _, SqL.of hC5⟩, _, rfl, _, rfl, by show (3 : Nat) ≤ _; omega, fun pt npt => ?_⟩
          have s6 := Same.new (o := .tup [.int st.1, .int st.2.2.2.1, .str (Str.ofString "")]) npt
          have hC6 := s6 _ _ hC5
          refine ⟨pC, ev, _, rfl, rfl, hC6, by omega, ?_⟩
          have hptz : pt ≠ z := hB5.ne npt
          have rnew : Rep z (upd H5 pt (.tup [.int st.1, .int st.2.2.2.1, .str (Str.ofString "")])) (.ref pt) (ldD (st.1, st.2.2.2.1, Str.ofString "")) := .tup upd_same hptz (.cons (.int _) (.cons (.int _) (.cons (.str _ (by decide +kernel)) .nil)))
          refine ⟨_, rfl, fin _ (ev ++ [.ref pt]) [(st.1, st.2.2.2.1, Str.ofString "")] ?_ upd_same ?_ ?_ ?_ ?_⟩
          · exact fun b' o h e => by rw [upd_ne (ne_of_none e nC)]; exact s6 b' o (bx5 b' o h e)
          · rw [List.map_append]
            exact Reps.updL hC6 ((RE.mono s6.x).append (.cons rnew .nil)) ((noL_lds _).append (noL_lds [_]))
          · unfold cutL
            rw [hlast, if_pos ⟨hne, g'⟩]
          · obtain ⟨c1, c2, ez⟩ := hB5.same s6
            exact ⟨c1, c2, by rw [upd_ne hCz.symm]; exact ez⟩
          · exact (T5.same s6).sameX hC6 SameX.refl.upd
        · have g' : st.2.2.1 ≠ Str.ofString "cut" := by simpa using g
          refine ⟨_, rfl, fin H5 ev [] bx5 hC5 (by rw [List.append_nil]; exact RE) ?_ hB5 T5⟩
          unfold cutL
          rw [hlast, if_neg (fun q => g' q.2)]
    · rintro t σ H5 pp x1 y1 ⟨⟨u0, u1, u2, rfl⟩, s5, ev, hC5, RE⟩ hx1 hy1 npp
      have htl : t < ds.length := by have := (List.getElem?_eq_some_iff.mp hy1).1; omega
      have ex1 : x1 = .int (ds.getD t ld0).1 := by
        rw [List.getElem?_map, List.getElem?_map, List.getElem?_eq_getElem htl] at hx1
        rw [List.getD_eq_getElem?_getD, List.getElem?_eq_getElem htl]
        exact (Option.some.inj hx1).symm
      have ey1 : y1 = dv.getD t .non := by rw [List.getD_eq_getElem?_getD, hy1]; rfl
      have S5 : Same H3 H5 := fun b' o e => s5 b' o (ne_of_none e npC) e
      have RD5 : Rep z H5 (dv.getD t .non) (pdD (ds.getD t ld0)) := by
        have := ((RD.mono s3.x (z := z)).mono S5.x (z := z)).get (i := t) (by simp; omega)
        simpa [htl] using this
      obtain ⟨a, ea, haz, ha⟩ := rep_pd RD5
      have s6 := Same.new (o := .tup [x1, y1]) npp
      rw [ex1, ey1, ea] at s6 ⊢
      refine ⟨pp, _, rfl, SqT.of upd_same, rfl, _, _, rfl, _, _, rfl, ⟨a, _, rfl, SqT.of (s6 _ _ ha), rfl, _, _, rfl, _, _, rfl, rfl, ?_⟩⟩
      refine ⟨rfl, ?_⟩
      dsimp only [tYes]
      rw [if_pos rfl]
      refine ⟨_, rfl, _, rfl, _, rfl, by show (3 : Nat) ≤ _; omega, fun pn npn => ?_⟩
      have s7 := Same.new (o := .tup [.int (ds.getD t ld0).1, .int (ds.getD t ld0).2.1, .str (ds.getD t ld0).2.2]) npn
      have hC7 := s7 _ _ (s6 _ _ hC5)
      have hel : ev.length ≤ ds.length := by
        have := RE.length
        rw [List.length_map, List.length_take] at this
        omega
      have hpnz : pn ≠ z := (((hB3.same S5)).same s6).ne npn
      have hsl : (ds.getD t ld0).2.2.length ≤ 1000 := by
        have RD6 := RD5
        rw [ea] at RD6
        cases RD6 with
        | tup h hz r =>
          cases r with
          | cons _ r =>
            cases r with
            | cons r2 _ =>
              cases r2 with
              | str _ h3 => exact h3
      refine ⟨ev, hC7, by omega, ⟨_, _, _, rfl⟩, ((s5.trans s6.x).trans s7.x).upd, ev ++ [.ref pn], upd_same, ?_⟩
      have rnew : Rep z (upd (upd H5 pp (.tup [.int (ds.getD t ld0).1, .ref a])) pn (.tup [.int (ds.getD t ld0).1, .int (ds.getD t ld0).2.1, .str (ds.getD t ld0).2.2])) (.ref pn) (ldD (ds.getD t ld0)) := .tup upd_same hpnz (.cons (.int _) (.cons (.int _) (.cons (.str _ hsl) .nil)))
      have e : ds.take (t + 1) = ds.take t ++ [ds.getD t ld0] := by
        rw [List.take_succ, List.getD_eq_getElem?_getD, List.getElem?_eq_getElem htl]
        rfl
      rw [e, List.map_append]
      exact Reps.updL hC7 (((RE.mono s6.x).mono s7.x).append (.cons rnew .nil)) ((noL_lds _).append (noL_lds [_]))
end
end T1
namespace T1
open PySem L2
def runIt (b : Bk) (x : Str) (r : RunSt) : Nat → RunSt
  | 0 => r
  | n + 1 => runStep b x (runIt b x r n)
theorem runF_add (b : Bk) (x : Str) (n : Nat) : ∀ k, runF b x (n + k) = runIt b x (runF b x n) k
  | 0 => rfl
  | k + 1 => by
    show runStep b x (runF b x (n + k)) = runStep b x (runIt b x (runF b x n) k)
    rw [runF_add b x n k]
theorem it_on {b : Bk} {x : Str} {r : RunSt} {n : Nat} (h : (runIt b x r n).at_ < x.length) : runIt b x r (n + 1) = ⟨(runIt b x r n).at_ + ((stepL b (runIt b x r n).ds x (runIt b x r n).at_ (bestL b (runIt b x r n).ds x (runIt b x r n).at_)).1.2.1).toNat, (stepL b (runIt b x r n).ds x (runIt b x r n).at_ (bestL b (runIt b x r n).ds x (runIt b x r n).at_)).2, (runIt b x r n).ss ++ [(stepL b (runIt b x r n).ds x (runIt b x r n).at_ (bestL b (runIt b x r n).ds x (runIt b x r n).at_)).1]⟩ := by
  show runStep b x (runIt b x r n) = _
  unfold runStep
  rw [if_pos h]
theorem it_off {b : Bk} {x : Str} {r : RunSt} {n : Nat} (h : ¬ (runIt b x r n).at_ < x.length) : runIt b x r (n + 1) = runIt b x r n := by
  show runStep b x (runIt b x r n) = _
  unfold runStep
  rw [if_neg h]
structure ItOk2 (b : Bk) (x : Str) (ds0 : List LDr) (r : RunSt) : Prop where
  le : r.at_ ≤ x.length
  bk : LdBk b r.ds
  dl : r.ds.length ≤ ds0.length + r.at_
  sl : r.ss.length ≤ r.at_
  sum : (r.ss.map (·.2.1)).sum = (r.at_ : Int)
theorem it_ok {b : Bk} {x : Str} {ds0 : List LDr} (hb : ∀ t ∈ b, TgOk b.length t) (hb1 : 1 ≤ b.length) (hd : LdBk b ds0) : ∀ n, ItOk2 b x ds0 (runIt b x ⟨0, ds0, []⟩ n)
  | 0 => ⟨Nat.zero_le _, hd, Nat.le_refl _, Nat.zero_le _, rfl⟩
  | n + 1 => by
    have ih := it_ok (x := x) hb hb1 hd n
    by_cases h : (runIt b x ⟨0, ds0, []⟩ n).at_ < x.length
    · rw [it_on h]
      have P := stepL_props (x := x) hb ih.bk hb1 h
      obtain ⟨i1, i2, i3, i4, i5⟩ := ih
      generalize runIt b x ⟨0, ds0, []⟩ n = r at *
      revert P
      generalize stepL b r.ds x r.at_ (bestL b r.ds x r.at_) = st
      intro P
      have h1 : 1 ≤ st.1.2.1 := P.1
      have h3 : (r.at_ : Int) + st.1.2.1 ≤ x.length := P.2.2.1
      have h5 : st.2.length ≤ r.ds.length + 1 := P.2.2.2.2.1
      refine ⟨?_, P.2.2.2.1, ?_, ?_, ?_⟩
      · show r.at_ + st.1.2.1.toNat ≤ x.length
        omega
      · show st.2.length ≤ ds0.length + (r.at_ + st.1.2.1.toNat)
        omega
      · show (r.ss ++ [st.1]).length ≤ r.at_ + st.1.2.1.toNat
        rw [List.length_append]
        show r.ss.length + 1 ≤ _
        omega
      · show ((r.ss ++ [st.1]).map (·.2.1)).sum = ((r.at_ + st.1.2.1.toNat : Nat) : Int)
        rw [List.map_append, List.sum_append, i5]
        show (r.at_ : Int) + (st.1.2.1 + 0) = _
        omega
    · rw [it_off h]
      exact ih
def SamePd (ds ds' : List LDr) : Prop := ds.map (·.2) = ds'.map (·.2)
theorem SamePd.len {ds ds' : List LDr} (h : SamePd ds ds') : ds.length = ds'.length := by have := congrArg List.length h; simpa using this
theorem SamePd.nil {ds ds' : List LDr} (h : SamePd ds ds') : ds = [] ↔ ds' = [] := by
  have := h.len
  rw [← List.length_eq_zero_iff, ← List.length_eq_zero_iff, this]
theorem SamePd.get {ds ds' : List LDr} (h : SamePd ds ds') (i : Nat) : (ds.getD i ld0).2 = (ds'.getD i ld0).2 := by
  have e := h.len
  by_cases hi : i < ds.length
  · have h1 : (ds.map (·.2))[i]? = (ds'.map (·.2))[i]? := by rw [h]
    rw [List.getElem?_map, List.getElem?_map, List.getElem?_eq_getElem hi, List.getElem?_eq_getElem (by omega)] at h1
    rw [List.getD_eq_getElem?_getD, List.getD_eq_getElem?_getD, List.getElem?_eq_getElem hi, List.getElem?_eq_getElem (by omega)]
    exact Option.some.inj h1
  · rw [List.getD_eq_getElem?_getD, List.getD_eq_getElem?_getD, List.getElem?_eq_none (by omega), List.getElem?_eq_none (by omega)]
theorem tongue_eq (ds : List LDr) : tongueL ds = match (ds.map (·.2)).getLast? with | some d => d.1 | none => 0 := by
  unfold tongueL
  rw [List.getLast?_map]
  cases ds.getLast? <;> rfl
theorem SamePd.tongue {ds ds' : List LDr} (h : SamePd ds ds') : tongueL ds = tongueL ds' := by rw [tongue_eq, tongue_eq, h]
theorem SamePd.drop {ds ds' : List LDr} (h : SamePd ds ds') : SamePd ds.dropLast ds'.dropLast := by
  unfold SamePd
  rw [List.map_dropLast, List.map_dropLast, h]
theorem SamePd.some {b : Bk} {ds ds' : List LDr} (h : SamePd ds ds') : someL b ds = someL b ds' := by
  unfold someL lastL
  have e : ∀ l : List LDr, (l.drop (l.length - 1)).map (·.2.2) = ((l.map (·.2)).drop (l.length - 1)).map (·.2) := fun l => by
    rw [← List.map_drop, List.map_map]
    rfl
  rw [h.tongue, e ds, e ds', h, h.len]
theorem clip_list {α : Type} (l : List α) (i k : Nat) : (l.drop (min i l.length)).take (min (i + k) l.length - min i l.length) = (l.drop i).take k := by
  by_cases h : i ≤ l.length
  · rw [Nat.min_eq_left h]
    by_cases h2 : i + k ≤ l.length
    · rw [Nat.min_eq_left h2, Nat.add_sub_cancel_left]
    · rw [Nat.min_eq_right (by omega), List.take_of_length_le (by simp), List.take_of_length_le (by simp; omega)]
  · rw [Nat.min_eq_right (by omega), Nat.min_eq_right (by omega), List.drop_eq_nil_of_le (Nat.le_refl _), List.drop_eq_nil_of_le (by omega)]
    simp
theorem str_ext {a c : Str} (h : a.cps.toList = c.cps.toList) : a = c := by
  obtain ⟨⟨a⟩⟩ := a
  obtain ⟨⟨c⟩⟩ := c
  have h : a = c := h
  rw [h]
theorem len_list (x : Str) : x.cps.toList.length = x.length := by simp; rfl
theorem cut_list (x : Str) (i k : Nat) : (cutS x (some (i : Int)) (some ((i : Int) + (k : Int)))).cps.toList = (x.cps.toList.drop i).take k := by
  unfold cutS
  have e : ((i : Int) + (k : Int)) = ((i + k : Nat) : Int) := by omega
  rw [e, HT.sIx_nat, HT.sIx_nat]
  show ((x.cps.toList.drop (min i x.length)).take (min (i + k) x.length - min i x.length)) = _
  rw [← len_list]
  exact clip_list _ _ _
theorem cut_from (x : Str) {i : Nat} (h : i ≤ x.length) : (cutS x (some (i : Int)) none).cps.toList = x.cps.toList.drop i := by
  unfold cutS
  rw [HT.sIx_nat, HT.sIx_none]
  show ((x.cps.toList.drop (min i x.length)).take (x.length - min i x.length)) = _
  rw [Nat.min_eq_left h, List.take_of_length_le]
  rw [List.length_drop, len_list]
  exact Nat.le_refl _
theorem fit_iff {x m : Str} {i : Nat} : fitAt x i m = true ↔ m.cps.toList <+: x.cps.toList.drop i := by
  unfold fitAt
  rw [decide_eq_true_iff, List.prefix_iff_eq_take, len_list]
  constructor
  · intro h
    have h : cutS x (some (i : Int)) (some ((i : Int) + m.length)) = m := by injection h
    rw [← cut_list, h]
  · intro h
    congr 1
    exact str_ext (by rw [cut_list, ← h])
theorem bool_iff {a c : Bool} (h : a = true ↔ c = true) : a = c := Bool.eq_iff_iff.mpr h
theorem sign_list {x : Str} {i : Nat} (h : i < x.length) : x.cps.toList.drop i = x.cps.getD i 0 :: x.cps.toList.drop (i + 1) := by
  have h1 : i < x.cps.toList.length := by rw [len_list]; exact h
  rw [List.drop_eq_getElem_cons h1]
  congr 1
  have : i < x.cps.size := h
  simp [Array.getD, this]
def restS (y : Str) (j : Nat) : Str := cutS y (some (j : Int)) none
def sureB (b : Bk) (ds : List LDr) (y : Str) (j : Nat) : Bool := !(decide (restS y j = (b.getD (tongueL ds).toNat tg0).1)) && !((possL b ds).any fun m => decide ((restS y j).length < m.1.length) && stAt m.1 (restS y j) 0)
structure Fits (b : Bk) (ds : List LDr) (x y : Str) (off j : Nat) : Prop where
  sign : x.cps.getD (off + j) 0 = y.cps.getD j 0
  esc : (⟨#[y.cps.getD j 0]⟩ : Str) = (b.getD (tongueL ds).toNat tg0).1 → (off + j + 1 = x.length ↔ j + 1 = y.length)
  fit : ∀ m ∈ someL b ds, fitAt x (off + j) m = fitAt y j m
theorem drop_parts {x y : Str} {pre more : List Nat} {off j : Nat} (hx : x.cps.toList = pre ++ y.cps.toList ++ more) (hoff : pre.length = off) (hj : j ≤ y.length) : x.cps.toList.drop (off + j) = y.cps.toList.drop j ++ more := by
  rw [hx, List.append_assoc, ← List.drop_drop, ← hoff, List.drop_left, List.drop_append_of_le_length (by rw [len_list]; exact hj)]
theorem fits_of {b : Bk} {ds : List LDr} {x y : Str} {pre more : List Nat} {off j : Nat} (hx : x.cps.toList = pre ++ y.cps.toList ++ more) (hoff : pre.length = off) (hj : j < y.length) (hs : more = [] ∨ sureB b ds y j = true) : Fits b ds x y off j := by
  have hxl : x.length = off + y.length + more.length := by rw [← len_list, hx, List.length_append, List.length_append, hoff, len_list]
  have hd := drop_parts hx hoff (Nat.le_of_lt hj)
  have hsg : x.cps.getD (off + j) 0 = y.cps.getD j 0 := by
    rw [sign_list (by omega), sign_list hj] at hd
    injection hd
  have hrest : (restS y j).cps.toList = y.cps.toList.drop j := cut_from y (Nat.le_of_lt hj)
  refine ⟨hsg, fun he => ?_, fun m hm => ?_⟩
  · rcases hs with h | h
    · rw [h] at hxl
      have hxl : x.length = off + y.length + 0 := hxl
      omega
    · unfold sureB at h
      simp only [Bool.and_eq_true, Bool.not_eq_true', decide_eq_false_iff_not] at h
      have hne := h.1
      have hlt : j + 1 < y.length := by
        by_cases hq : j + 1 < y.length
        · exact hq
        · exfalso
          apply hne
          rw [← he]
          refine str_ext ?_
          rw [hrest, sign_list hj, List.drop_eq_nil_of_le (by rw [len_list]; omega)]
      omega
  · refine bool_iff ?_
    rw [fit_iff, fit_iff, hd]
    constructor
    · intro h
      by_cases hl : m.cps.toList.length ≤ (y.cps.toList.drop j).length
      · exact List.prefix_of_prefix_length_le h (List.prefix_append _ _) hl
      · rcases hs with e | e
        · rw [e, List.append_nil] at h
          exact h
        · exfalso
          unfold sureB at e
          simp only [Bool.and_eq_true, Bool.not_eq_true', decide_eq_false_iff_not] at e
          have e2 := e.2
          rw [List.any_eq_false] at e2
          obtain ⟨p, hp, rfl⟩ := some_poss hm
          apply e2 p hp
          rw [Bool.and_eq_true]
          refine ⟨decide_eq_true ?_, ?_⟩
          · rw [← len_list, ← len_list, hrest]
            omega
          · rw [stAt_fit (Nat.zero_le _), fit_iff, hrest, List.drop_zero]
            exact List.prefix_of_prefix_length_le (List.prefix_append _ _) h (by omega)
    · intro h
      exact h.trans (List.prefix_append _ _)
def mvS (d : Int) (s : Stp) : Stp := (s.1 + d, s.2)
theorem step_mv {b : Bk} {ds ds' : List LDr} {x y : Str} {off j : Nat} {m : Str} (hpd : SamePd ds ds') (F : Fits b ds' x y off j) : (stepL b ds x (off + j) m).1 = mvS off (stepL b ds' y j m).1 ∧ SamePd (stepL b ds x (off + j) m).2 (stepL b ds' y j m).2 := by
  have ht := hpd.tongue
  have hl := hpd.len
  have eo : ((off + j : Nat) : Int) = (j : Int) + (off : Int) := by omega
  unfold stepL
  rw [ht, F.sign, hl]
  split
  · rename_i h
    have he := F.esc h.2
    by_cases h1 : j + 1 = y.length
    · rw [if_pos h1, if_pos (he.mpr h1)]
      exact ⟨by unfold mvS; rw [eo], hpd⟩
    · rw [if_neg h1, if_neg (fun q => h1 (he.mp q))]
      exact ⟨by unfold mvS; rw [eo], hpd⟩
  · split
    · exact ⟨by unfold mvS; rw [eo], hpd⟩
    · have hc : (ds ≠ [] ∧ m = (ds.getD (ds'.length - 1) ld0).2.2) ↔ (ds' ≠ [] ∧ m = (ds'.getD (ds'.length - 1) ld0).2.2) := by
        rw [hpd.get]
        exact ⟨fun q => ⟨fun e => q.1 (hpd.nil.mpr e), q.2⟩, fun q => ⟨fun e => q.1 (hpd.nil.mp e), q.2⟩⟩
      by_cases h3 : ds' ≠ [] ∧ m = (ds'.getD (ds'.length - 1) ld0).2.2
      · rw [if_pos h3, if_pos (hc.mpr h3), hpd.drop.tongue]
        exact ⟨by unfold mvS; rw [eo], hpd.drop⟩
      · rw [if_neg h3, if_neg (fun q => h3 (hc.mp q))]
        split
        · refine ⟨by unfold mvS; rw [eo], ?_⟩
          unfold SamePd
          rw [List.map_append, List.map_append, hpd]
          rfl
        · exact ⟨by unfold mvS; rw [eo], hpd⟩
theorem best_mv {b : Bk} {ds ds' : List LDr} {x y : Str} {off j : Nat} (hpd : SamePd ds ds') (F : Fits b ds' x y off j) : bestL b ds x (off + j) = bestL b ds' y j := by
  unfold bestL fitL
  rw [hpd.some]
  congr 1
  exact List.filter_congr fun m hm => F.fit m hm
structure Rel (off : Nat) (S0 : List Stp) (R r : RunSt) : Prop where
  at_ : R.at_ = off + r.at_
  pd : SamePd R.ds r.ds
  ss : R.ss = S0 ++ r.ss.map (mvS off)
theorem rel_step {b : Bk} {x y : Str} {pre more : List Nat} {off : Nat} {S0 : List Stp} {R r : RunSt} (hx : x.cps.toList = pre ++ y.cps.toList ++ more) (hoff : pre.length = off) (hj : r.at_ < y.length) (hs : more = [] ∨ sureB b r.ds y r.at_ = true) (h : Rel off S0 R r) : Rel off S0 (runStep b x R) (runStep b y r) := by
  have hxl : x.length = off + y.length + more.length := by rw [← len_list, hx, List.length_append, List.length_append, hoff, len_list]
  have F := fits_of (b := b) (ds := r.ds) hx hoff hj hs
  have hb := best_mv h.pd F
  obtain ⟨s1, s2⟩ := step_mv (m := bestL b r.ds y r.at_) h.pd F
  unfold runStep
  rw [if_pos hj, if_pos (by rw [h.at_]; omega), h.at_, hb]
  refine ⟨?_, s2, ?_⟩
  · show off + r.at_ + _ = off + (r.at_ + _)
    rw [s1]
    show off + r.at_ + (stepL b r.ds y r.at_ (bestL b r.ds y r.at_)).1.2.1.toNat = _
    omega
  · show R.ss ++ [_] = _
    rw [s1, h.ss, List.map_append, List.append_assoc]
    rfl
theorem rel_run {b : Bk} {x y : Str} {pre more : List Nat} {off : Nat} {S0 : List Stp} {R r : RunSt} (hx : x.cps.toList = pre ++ y.cps.toList ++ more) (hoff : pre.length = off) (h : Rel off S0 R r) : ∀ k, (∀ j, j < k → (runIt b y r j).at_ < y.length ∧ (more = [] ∨ sureB b (runIt b y r j).ds y (runIt b y r j).at_ = true)) → Rel off S0 (runIt b x R k) (runIt b y r k)
  | 0, _ => h
  | k + 1, hs => rel_step hx hoff (hs k (Nat.lt_succ_self _)).1 (hs k (Nat.lt_succ_self _)).2 (rel_run hx hoff h k fun j hj => hs j (Nat.lt_succ_of_lt hj))
end T1
namespace T1
open PySem L2
inductive spMoved : List V → Hp → VK → XK → Prop where
  | mk {vs : List V} {H : Hp} {Q : VK} {E : XK} (p d st : _) (c1 : vs = [.ref p, .int d]) (c2 : H p = some (.tup (stV st))) (c3 : ∀ q H', Same H H' → H q = none → H' q = some (.tup (stV (mvS d st))) → Q (.ref q) H') : spMoved vs H Q E
inductive spSure : List V → Hp → VK → XK → Prop where
  | mk {vs : List V} {H : Hp} {Q : VK} {E : XK} (z v b q ds x : _) (j : Nat) (c1 : vs = [v, .str x, .int j, .ref q]) (c2 : Bag z H) (c3 : Rep z H v (bkD b)) (c4 : BkOk b) (c5 : PDs z H q ds) (c6 : LdOk b ds) (c7 : j ≤ x.length) (c8 : x.length ≤ 20000) (c9 : ∀ H', Same H H' → Q (.bl (sureB b ds x j)) H') : spSure vs H Q E
theorem range_mks (ms : List Mk) : (List.range ms.length).map (fun j => V.str (ms.getD j mk0).1) = (ms.map (·.1)).map V.str := by
  refine List.ext_getElem (by simp) fun i h1 h2 => ?_
  have h3 : i < ms.length := by simpa using h2
  simp [h3]
theorem any_rangeM {α : Type} (ms : List α) (d : α) (g : α → Bool) : ((List.range ms.length).map fun j => g (ms.getD j d)).any id = ms.any g := by
  have e : (List.range ms.length).map (fun j => g (ms.getD j d)) = ms.map g := by
    refine List.ext_getElem (by simp) fun i h1 h2 => ?_
    have h3 : i < ms.length := by simpa using h2
    simp [h3]
  rw [e, List.any_map]
  rfl
section
variable {P : Program} {w : World} {K : PySem.W.Frag} {mg : Str → Option Value} {base : Heap}
theorem scMoved : FnScope ["step", "by", "place", "many", "word", "tongue", "depth"] ["step", "by"] (defScope sMoved) := ⟨rfl, rfl, rfl, by decide +kernel, rfl, by decide +kernel, by decide +kernel⟩
theorem ok_moved {f : Addr} {fd : FuncData} (F : Fun K "moved" "moved" sMoved f fd) : FnOk P w K mg base CX0 1 f fd ["step", "by"] spMoved := by
  refine F.ok scMoved (fun vs H Q E h => ?_) (fun cdv A outer s H vs Q E hr h => ?_)
  · obtain ⟨p, d, st, rfl, _⟩ := h
    rfl
  · obtain ⟨p, d, st, rfl, hp, k⟩ := h
    have nd := scMoved.nd
    refine ⟨_, pss_cons (ps_asg (pv 0) (pg_tup rfl (pgs_cons (pg_name (i := 2) nd rfl (Or.inl rfl)) (pgs_cons (pg_name (i := 3) nd rfl (Or.inl rfl)) (pgs_cons (pg_name (i := 4) nd rfl (Or.inl rfl)) (pgs_cons (pg_name (i := 5) nd rfl (Or.inl rfl)) (pgs_cons (pg_name (i := 6) nd rfl (Or.inl rfl)) pgs_nil)))))))
      (pss_one (ps_ret (pe_tup (pa_cons (pe_op op_add (pv 2) (pv 1)) (pa_cons (pv 3) (pa_cons (pv 4) (pa_cons (pv 5) (pa_cons (pv 6) pa_nil)))))))), ?_⟩
    dsimp only [cxOf, Cx.nox, Cx.wish]
    have big := big1000
    refine ⟨_, rfl, p, _, rfl, SqT.of hp, rfl, _, _, rfl, _, _, rfl, _, _, rfl, _, _, rfl, _, _, rfl, rfl, ?_⟩
    refine ⟨_, rfl, _, rfl, _, _, rfl, rfl, _, rfl, _, rfl, _, rfl, _, rfl, by show (5 : Nat) ≤ _; omega, fun q nq => ?_⟩
    exact k q _ (Same.new nq) nq upd_same
theorem scSure : FnScope ["book", "part", "place", "doors", "rest", "escape", "ways", "marks"] ["book", "part", "place", "doors"] (defScope sIsSure) := ⟨rfl, rfl, rfl, by decide +kernel, rfl, by decide +kernel, by decide +kernel⟩
theorem ndMD : (["mark", "door"] : List Str).Nodup := by decide +kernel
theorem ndMR : (["mark", "rest"] : List Str).Nodup := by decide +kernel
set_option maxHeartbeats 0 in
theorem ok_sure {f f1 f2 : Addr} {fd fd1 fd2 : FuncData} (F : Fun K "is_sure" "is_sure" sIsSure f fd) (T : TxtB mg)
    (k1 : PySem.W.keepIn K (.ref f1) = true) (b1 : Binds K fd1 ["doors"] []) (m1 : mg "tongue_within" = some (.ref f1)) (G1 : FnOk P w K mg base CX0 1 f1 fd1 ["doors"] spWithin)
    (k2 : PySem.W.keepIn K (.ref f2) = true) (b2 : Binds K fd2 ["book", "doors"] []) (m2 : mg "possible_marks" = some (.ref f2)) (G2 : FnOk P w K mg base CX0 2 f2 fd2 ["book", "doors"] spPoss) : FnOk P w K mg base CX0 3 f fd ["book", "part", "place", "doors"] spSure := by
  refine F.ok scSure (fun vs H Q E h => ?_) (fun cdv A outer s H vs Q E hr h => ?_)
  · obtain ⟨z, v, b, q, ds, x, j, rfl, _⟩ := h
    rfl
  · obtain ⟨z, v, b, q, ds, x, j, rfl, hB, R0, hok, hD, hld, hj, hx, k⟩ := h
    have nd := scSure.nd
    have hr1 : Room 1 _ := hr.mono (by decide)
    obtain ⟨a, xs, rfl, haz, ha, hxl, R⟩ := rep_book R0
    obtain ⟨hb1, hb6, htok, _⟩ := id hok
    refine ⟨_, pss_cons (ps_set (i := 4) nd rfl (Or.inr rfl) (pe_slice sl_str (pv 1) (po_some (pv 2)) po_none))
      (pss_cons (ps_asg (pe_ix ix_tup (pv 0) (pe_call G1 hr1 rfl m1 k1 b1 .nil pass0 (pa_cons (pv 3) pa_nil)) (fun _ _ => rfl)) (pg_tup rfl (pgs_cons (pg_name (i := 5) nd rfl (Or.inl rfl)) (pgs_cons (pg_name (i := 6) nd rfl (Or.inl rfl)) pgs_nil))))
      (pss_cons (ps_if (pt_cmpR op_eq (pv 4) (pv 5) (nomark _)) (pss_one (ps_ret pe_bl)) pss_nil)
      (pss_cons (ps_setcomp1 (N' := ["mark", "door"]) (js := [none, none]) (i := 7) rfl rfl nd rfl (Or.inl rfl) (blk_of (defScope sIsSure) (by decide +kernel)) trivial
          (pi_list (pe_call G2 hr rfl m2 k2 b2 .nil pass0 (pa_cons (pv 0) (pa_cons (pv 3) pa_nil))))
          (fun cl s H fp => pg_tupB 2 rfl (pgs_cons (pg_name (i := 0) ndMD rfl (Or.inl rfl) (Or.inr rfl)) (pgs_cons (pg_name (i := 1) ndMD rfl (Or.inl rfl) (Or.inr rfl)) pgs_nil))) (fun cl s H fp => pts_nil) (fun cl s H fp => pv 0))
      (pss_one (ps_ret (pe_not (pe_callB (call_any rfl) (by rfl) T.any_ b_any (pa_cons (pe_comp1 (N' := ["mark", "rest"]) (js := [none, some 4]) rfl rfl (blk_of (defScope sIsSure) (by decide +kernel)) ⟨rfl, Or.inr (Or.inl rfl), rfl, trivial⟩ (pi_list (pv 7)) (fun cl s H fp => pg_name (i := 0) ndMR rfl (Or.inl rfl)) (fun cl s H fp => pts_nil)
          (fun cl s H fp => pe_and (pe_cmpR op_gt (pe_callB call_len_str (by rfl) T.len b_len (pa_cons (pv 0) pa_nil)) (pe_callB call_len_str (by rfl) T.len b_len (pa_cons (pv 1) pa_nil)) (nomark _)) (pe_one (pe_bmB PySem.F.plainAttrs_str PySem.F.slot_str_startswith PySem.F.type_str_startswith mt_startswith (pv 0) (pa_cons (pv 1) pa_nil))))) pa_nil)))))))), ?_⟩
    dsimp only [cxOf, Cx.nox, Cx.wish]
    have big := big1000
    have big2 : (100000 : Nat) ≤ sizeLine := by rw [sizeLine_eq]; decide
    obtain ⟨tN, htN, htl⟩ := tongue_nat hld hb1
    have htoN : (tongueL ds).toNat = tN := by rw [htN]; rfl
    obtain ⟨c, d, ws, ec, hcz, hdz, hc, hd, hyl, Ry⟩ := rep_tongue (reps_tongue (b := b) (i := tN) R htl)
    have exv : xs[tN]? = some (.ref c) := by
      have h1 : tN < xs.length := by omega
      have h2 : xs.getD tN .non = xs[tN] := by simp [h1]
      rw [List.getElem?_eq_getElem h1, ← h2, ec]
    have hat : atI xs (tongueL ds) = some (.ref c) := by rw [htN]; exact atI_nat (j := tN) exv
    refine ⟨_, rfl, _, rfl, _, rfl, x, rfl, by omega, ?_⟩
    refine ⟨_, rfl, _, rfl, z, q, ds, rfl, hD, a, _, _, _, rfl, rfl, SqT.of ha, hat, c, _, rfl, SqT.of hc, rfl, _, _, rfl, _, _, rfl, rfl, ?_⟩
    unfold sureB at k
    rw [htoN] at k
    have erest : cutS x (some (j : Int)) none = restS x j := rfl
    rw [erest]
    have hrl : (restS x j).length ≤ 20000 := by
      have := len_list (restS x j)
      rw [show (restS x j).cps.toList = _ from cut_from x hj, List.length_drop, len_list] at this
      omega
    generalize restS x j = rs at *
    refine ⟨_, rfl, _, rfl, rfl, _, rfl, ?_⟩
    refine ite2 (fun g => ?_) (fun g => ?_)
    · have g' : rs = (b.getD tN tg0).1 := by have := of_decide_eq_true g; injection this
      have := k H (Same.refl _)
      rw [decide_eq_true g'] at this
      exact this
    · have g' : rs ≠ (b.getD tN tg0).1 := fun e => g (decide_eq_true (by rw [e]))
      rw [decide_eq_false g'] at k
      refine ⟨_, rfl, _, rfl, z, .ref a, b, q, ds, rfl, hB, R0, hok, hD, hld, fun pw vs H4 s4 npw hpw RW => ?_⟩
      have hwl : vs.length = (possL b ds).length := by have := RW.length; simpa using this
      have hfew : (possL b ds).length ≤ 7 := by
        have few := (htok _ (getD_mem tg0 htl)).2.1
        unfold possL lastL
        rw [htoN, List.length_append, List.length_map, List.length_map, List.length_drop]
        omega
      have hsm : ∀ m ∈ possL b ds, m.1.length ≤ 4 := fun m hm => (fitL_sm (x := x) (i := j) htok hld m.1 (poss_some hm)).2
      refine ⟨pw, rfl, ⟨_, SqL.of hpw⟩, fun pC npC => ?_⟩
      have hpwC : pw ≠ pC := ne_of_none hpw npC
      refine loop_new (fun j => some (V.str ((possL b ds).getD j mk0).1)) (fun σ => ∃ u1 u2, σ = [u1, u2]) ⟨none, none, rfl⟩ npC (by omega) (itok_lst (xs := vs) (by rw [upd_ne hpwC]; exact hpw) hpwC) (fun j σ H5 C hj ⟨w1, w2, hw⟩ s5 hC => ?_) (fun σ H5 s5 hC5 => ?_)
      · subst hw
        obtain ⟨a2, u2, e, haz2, ha2, hl, Ru⟩ := rep_mk ((reps_mk (ms := possL b ds) (i := j) RW (by omega)).mono s5.x)
        rw [e]
        refine ⟨a2, _, rfl, SqT.of ha2, rfl, _, _, rfl, _, _, rfl, rfl, ?_⟩
        dsimp only [tYes]
        rw [if_pos rfl]
        exact ⟨_, rfl, hC _ _ ⟨_, _, rfl⟩ (Same.refl _)⟩
      · rw [flatN_map, hwl, range_mks] at hC5
        refine ⟨_, rfl, pC, rfl, ⟨_, SqL.of hC5⟩, fun pD npD => ?_⟩
        have hCD : pC ≠ pD := ne_of_none hC5 npD
        refine loop_new (fun j => some (V.bl (decide (rs.length < ((possL b ds).getD j mk0).1.length) && stAt ((possL b ds).getD j mk0).1 rs 0))) (fun σ => ∃ u1, σ = [u1, some (.str rs)]) ⟨none, rfl⟩ npD (by simp; omega) (itok_lst (xs := ((possL b ds).map (·.1)).map V.str) (by rw [upd_ne hCD]; exact hC5) hCD) (fun j σ H6 C hj ⟨w1, hw⟩ s6 hC => ?_) (fun σ H6 s6 hC6 => ?_)
        · subst hw
          have hjl : j < (possL b ds).length := by simpa using hj
          have e : (((possL b ds).map (·.1)).map V.str).getD j .non = V.str ((possL b ds).getD j mk0).1 := by simp [hjl]
          have hm4 := hsm ((possL b ds).getD j mk0) (by rw [List.getD_eq_getElem?_getD, List.getElem?_eq_getElem hjl]; exact List.getElem_mem hjl)
          rw [e]
          have hC' := hC [some (.str ((possL b ds).getD j mk0).1), some (.str rs)] H6 ⟨_, rfl⟩ (Same.refl _)
          generalize ((possL b ds).getD j mk0).1 = mk at *
          dsimp only [tYes, gName]
          rw [if_pos rfl]
          refine ⟨_, rfl, mk, rfl, by omega, _, rfl, rs, rfl, by omega, _, _, rfl, rfl, _, rfl, ?_⟩
          refine ite2 (fun g2 => ?_) (fun g2 => ?_)
          · have h2 : rs.length < mk.length := by have := of_decide_eq_true g2; omega
            rw [decide_eq_true h2, Bool.true_and] at hC'
            exact ⟨_, rfl, rfl, _, rfl, mk, rs, rfl, rfl, hC'⟩
          · have h2 : ¬ rs.length < mk.length := fun h => g2 (decide_eq_true (by omega))
            rw [decide_eq_false h2, Bool.false_and] at hC'
            exact hC'
        · have eb : flatN (fun j => (some (V.bl (decide (rs.length < ((possL b ds).getD j mk0).1.length) && stAt ((possL b ds).getD j mk0).1 rs 0))).toList) (((possL b ds).map (·.1)).map V.str).length = ((List.range (possL b ds).length).map fun j => decide (rs.length < ((possL b ds).getD j mk0).1.length) && stAt ((possL b ds).getD j mk0).1 rs 0).map V.bl := by
            rw [flatN_map, List.length_map, List.length_map, List.map_map]
            rfl
          rw [eb] at hC6
          refine ⟨pD, _, rfl, SqL.of hC6, _, rfl, ?_⟩
          have ea := any_rangeM (possL b ds) mk0 (fun m => decide (rs.length < m.1.length) && stAt m.1 rs 0)
          rw [ea]
          have := k H6 ((s4.trans s5).trans s6)
          rw [Bool.not_false, Bool.true_and] at this
          exact this
end
end T1
namespace T1
open PySem L2
abbrev it0 (b : Bk) (x : Str) (ds : List LDr) (n : Nat) : RunSt := runIt b x ⟨0, ds, []⟩ n
inductive spSureSteps (tb : Addr) : List V → Hp → VK → XK → Prop where
  | mk {vs : List V} {H : Hp} {Q : VK} {E : XK} (z v b q ds x : _) (c1 : vs = [v, .str x, .ref q]) (c2 : Bag z H) (c3 : q ≠ z) (c4 : Rep z H v (bkD b)) (c5 : BkOk b) (c6 : PDs z H q ds) (c7 : LdBk b ds) (c8 : ds.length + x.length ≤ 20000) (c9 : LamTb tb H) (c10 : ∀ p fv n H', But2 q tb H H' → H p = none → H' p = some (.lst fv) → (∀ j, j < n → (it0 b x ds j).at_ < x.length ∧ sureB b (it0 b x ds j).ds x (it0 b x ds j).at_ = true) → ¬ ((it0 b x ds n).at_ < x.length ∧ sureB b (it0 b x ds n).ds x (it0 b x ds n).at_ = true) → Reps z H' fv ((it0 b x ds n).ss.map stD) → PDs z H' q (it0 b x ds n).ds → Bag z H' → LamTb tb H' → Q (.ref p) H') : spSureSteps tb vs H Q E
inductive spOnG (tb : Addr) : List V → Hp → VK → XK → Prop where
  | mk {vs : List V} {H : Hp} {Q : VK} {E : XK} (z v b q ds x : _) (c1 : vs = [v, .str x, .ref q]) (c2 : Bag z H) (c3 : q ≠ z) (c4 : Rep z H v (bkD b)) (c5 : BkOk b) (c6 : PDs z H q ds) (c7 : LdBk b ds) (c8 : ds.length + x.length ≤ 20000) (c9 : LamTb tb H) (c10 : ∀ p fv n H', But2 q tb H H' → H p = none → H' p = some (.lst fv) → (∀ j, j < n → (it0 b x ds j).at_ < x.length) → (it0 b x ds n).at_ = x.length → Reps z H' fv ((it0 b x ds n).ss.map stD) → PDs z H' q (it0 b x ds n).ds → Bag z H' → LamTb tb H' → Q (.ref p) H') : spOnG tb vs H Q E
structure Turned (tb : Addr) (z : Addr) (H : Hp) (b : Bk) (x : Str) (ds : List LDr) (v : V) (q pf : Addr) (n : Nat) (H3 : Hp) : Prop where
  bx : But2 q tb H H3
  bag : Bag z H3
  rep : Rep z H3 v (bkD b)
  pds : PDs z H3 q (it0 b x ds n).ds
  lam : LamTb tb H3
  fv : ∃ fv, H3 pf = some (.lst fv) ∧ Reps z H3 fv ((it0 b x ds n).ss.map stD)
theorem turn_on {tb z : Addr} {H : Hp} {b : Bk} {x : Str} {ds : List LDr} {v : V} {q pf : Addr} {n : Nat} {H3 H4 : Hp} {fv : List V} {p : Addr} (htok : ∀ t ∈ b, TgOk b.length t) (hb1 : 1 ≤ b.length) (hbk : LdBk b ds) (hlt : (it0 b x ds n).at_ < x.length)
    (hqz : q ≠ z) (hpfz : pf ≠ z) (hqf : q ≠ pf) (npf : H pf = none) (W : Turned tb z H b x ds v q pf n H3) (hf3 : H3 pf = some (.lst fv)) (RF : Reps z H3 fv ((it0 b x ds n).ss.map stD)) (s4 : But2 q tb H3 H4) (np : H3 p = none)
    (hp : H4 p = some (.tup (stV (stepL b (it0 b x ds n).ds x (it0 b x ds n).at_ (bestL b (it0 b x ds n).ds x (it0 b x ds n).at_)).1))) (D4 : PDs z H4 q (stepL b (it0 b x ds n).ds x (it0 b x ds n).at_ (bestL b (it0 b x ds n).ds x (it0 b x ds n).at_)).2) (T4 : LamTb tb H4) :
    H4 pf = some (.lst fv) ∧ Turned tb z H b x ds v q pf (n + 1) (upd H4 pf (.lst (fv ++ [.ref p]))) ∧ upd H4 pf (.lst (fv ++ [.ref p])) p = some (.tup (stV (stepL b (it0 b x ds n).ds x (it0 b x ds n).at_ (bestL b (it0 b x ds n).ds x (it0 b x ds n).at_)).1)) := by
  obtain ⟨s3, hB3, R3, D3, T3, _⟩ := W
  have iok : ItOk2 b x ds (it0 b x ds n) := it_ok (x := x) htok hb1 hbk n
  obtain ⟨p1, p2, p3, p4, p5, p6⟩ := stepL_props (ds := (it0 b x ds n).ds) (x := x) htok iok.bk hb1 hlt
  obtain ⟨dv3, hq3, _⟩ := D3
  obtain ⟨ps, ht3⟩ := T3.tbl
  have R4 := Rep.but2 hq3 ht3 s4 R3 (.tup (noL_tgs b))
  have RF4 := Reps.but2 hq3 ht3 s4 RF (noL_sts _)
  have hf4 := s4 _ _ hqf.symm (ne_of hf3 ht3 (by intro q; cases q)) hf3
  have hB4 : Bag z H4 := by
    obtain ⟨c1, c2, e⟩ := hB3
    exact ⟨c1, c2, s4 _ _ hqz.symm (ne_of e ht3 (by intro q; cases q)) e⟩
  have hpz : p ≠ z := hB3.ne np
  have ess : (it0 b x ds (n + 1)).ss = (it0 b x ds n).ss ++ [(stepL b (it0 b x ds n).ds x (it0 b x ds n).at_ (bestL b (it0 b x ds n).ds x (it0 b x ds n).at_)).1] := by show (runIt b x _ (n + 1)).ss = _; rw [it_on hlt]
  have eds : (it0 b x ds (n + 1)).ds = (stepL b (it0 b x ds n).ds x (it0 b x ds n).at_ (bestL b (it0 b x ds n).ds x (it0 b x ds n).at_)).2 := by show (runIt b x _ (n + 1)).ds = _; rw [it_on hlt]
  rw [← eds] at D4
  have rst : Rep z H4 (.ref p) (stD (stepL b (it0 b x ds n).ds x (it0 b x ds n).at_ (bestL b (it0 b x ds n).ds x (it0 b x ds n).at_)).1) := .tup hp hpz (.cons (.int _) (.cons (.int _) (.cons (.str _ (by omega)) (.cons (.int _) (.cons (.int _) .nil)))))
  refine ⟨hf4, ⟨fun b' o h1 h2 e => ?_, ?_, ?_, ?_, ?_, _, upd_same, ?_⟩, ?_⟩
  · rw [upd_ne (ne_of_none e npf)]
    exact s4 b' o h1 h2 (s3 b' o h1 h2 e)
  · obtain ⟨c1, c2, e⟩ := hB4
    exact ⟨c1, c2, by rw [upd_ne hpfz.symm]; exact e⟩
  · exact Rep.updL hf4 R4 (.tup (noL_tgs b))
  · obtain ⟨dv, hq4, RD4⟩ := D4
    exact ⟨dv, by rw [upd_ne hqf]; exact hq4, Reps.updL hf4 RD4 (noL_pds _)⟩
  · exact T4.sameX hf4 SameX.refl.upd
  · rw [ess, List.map_append]
    exact Reps.updL hf4 (RF4.append (.cons rst .nil)) ((noL_sts _).append (noL_sts [_]))
  · rw [upd_ne (ne_of hp hf4 (by intro q; cases q))]
    exact hp
section
variable {P : Program} {w : World} {K : PySem.W.Frag} {mg : Str → Option Value} {base : Heap}
theorem scOnG : FnScope ["book", "text", "doors", "told", "place", "step"] ["book", "text", "doors"] (defScope sOn) := ⟨rfl, rfl, rfl, by decide +kernel, rfl, by decide +kernel, by decide +kernel⟩
set_option maxHeartbeats 0 in
theorem ok_onG {f tb f1 : Addr} {fd fd1 : FuncData} (F : Fun K "read_on" "read_on" sOn f fd) (T : TxtB mg)
    (k1 : PySem.W.keepIn K (.ref f1) = true) (b1 : Binds K fd1 ["book", "text", "place", "doors"] []) (m1 : mg "read_step" = some (.ref f1)) (G1 : FnOk P w K mg base CX0 4 f1 fd1 ["book", "text", "place", "doors"] (spStepP tb)) : FnOk P w K mg base CX0 5 f fd ["book", "text", "doors"] (spOnG tb) := by
  refine F.ok scOnG (fun vs H Q E h => ?_) (fun cdv A outer s H vs Q E hr h => ?_)
  · obtain ⟨z, v, b, q, ds, x, rfl, _⟩ := h
    rfl
  · obtain ⟨z, v, b, q, ds, x, rfl, hB, hqz, R0, hok, hD, hbk, hx, hT, k⟩ := h
    have nd := scOnG.nd
    obtain ⟨hb1, hb6, htok, _⟩ := id hok
    refine ⟨_, pss_cons (ps_set (i := 3) nd rfl (Or.inl rfl) (pe_lst pa_nil))
      (pss_cons (ps_set (i := 4) nd rfl (Or.inl rfl) pe_int)
      (pss_cons (ps_while PassesOwn.never (pt_cmpR op_lt (pv 4) (pe_callB call_len_str (by rfl) T.len b_len (pa_cons (pv 1) pa_nil)) (nomark _))
        (pss_cons (ps_set (i := 5) nd rfl (Or.inl rfl) (pe_call G1 hr rfl m1 k1 b1 .nil pass0 (pa_cons (pv 0) (pa_cons (pv 1) (pa_cons (pv 4) (pa_cons (pv 2) pa_nil))))))
        (pss_cons (ps_expr (pe_bm PySem.F.plainAttrs_list PySem.F.slot_list_append PySem.F.type_list_append mt_append (pv 3) (pa_cons (pv 5) pa_nil)))
        (pss_one (ps_aug (i := 4) nd rfl (Or.inl rfl) (pe_ix ix_tup (pv 5) pe_int (fun _ _ => rfl)) ip_add)))))
      (pss_one (ps_ret (pv 3))))), ?_⟩
    dsimp only [cxOf, Cx.nox, Cx.wish]
    have big := big1000
    have big2 : (100000 : Nat) ≤ sizeLine := by rw [sizeLine_eq]; decide
    refine ⟨Nat.zero_le _, fun pf npf => ?_⟩
    have s1 := Same.new (o := .lst []) npf
    have hpfz : pf ≠ z := hB.ne npf
    have hqf : q ≠ pf := ne_of_none hD.choose_spec.1 npf
    refine while_by (fun σ H3 => ∃ n u, σ = [some v, some (.str x), some (.ref q), some (.ref pf), some (.int (it0 b x ds n).at_), u] ∧ (∀ j, j < n → (it0 b x ds j).at_ < x.length) ∧ Turned tb z H b x ds v q pf n H3)
      (fun σ H3 => match σ[4]? with | some (some (V.int i)) => x.length - i.toNat | _ => 0) ⟨0, none, rfl, fun j h => absurd h (Nat.not_lt_zero _), fun b' o _ _ e => s1 b' o e, hB.same s1, R0.mono s1.x, hD.same s1, hT.same s1, [], upd_same, .nil⟩ ?_ ?_
    · rintro σ H3 ⟨n, u, rfl, hall, W⟩
      have iok : ItOk2 b x ds (it0 b x ds n) := it_ok (x := x) htok hb1 hbk n
      have hle := iok.le
      refine ⟨_, rfl, _, rfl, x, rfl, by omega, _, _, rfl, rfl, _, rfl, ?_⟩
      refine ite2 (fun hlt => ?_) (fun hlt => ?_)
      · have hlt : (it0 b x ds n).at_ < x.length := by have := of_decide_eq_true hlt; omega
        have hdl := iok.dl
        have hsl := iok.sl
        obtain ⟨s3, hB3, R3, D3, T3, fv, hf3, RF⟩ := id W
        refine ⟨_, rfl, _, rfl, _, rfl, _, rfl, z, v, b, q, (it0 b x ds n).ds, x, (it0 b x ds n).at_, rfl, hB3, hqz, R3, hok, D3, iok.bk, hlt, by omega, by omega, T3, fun p H4 s4 np hp D4 T4 => ?_⟩
        obtain ⟨hf4, W5, hp5⟩ := turn_on htok hb1 hbk hlt hqz hpfz hqf npf W hf3 RF s4 np hp D4 T4
        have hfl : fv.length = (it0 b x ds n).ss.length := by have := RF.length; simpa using this
        refine ⟨_, rfl, .inl ⟨rfl, _, SqL.of hf4⟩, _, rfl, pf, fv, _, rfl, rfl, hf4, by omega, ?_⟩
        generalize upd H4 pf (.lst (fv ++ [.ref p])) = H5 at W5 hp5
        refine ⟨_, rfl, _, rfl, p, _, 1, _, rfl, rfl, SqT.of hp5, atI_nat (j := 1) rfl, _, _, rfl, rfl, ?_⟩
        obtain ⟨p1, p2, p3, p4, p5, p6⟩ := stepL_props (ds := (it0 b x ds n).ds) (x := x) htok iok.bk hb1 hlt
        have eat : ((it0 b x ds n).at_ : Int) + (stepL b (it0 b x ds n).ds x (it0 b x ds n).at_ (bestL b (it0 b x ds n).ds x (it0 b x ds n).at_)).1.2.1 = ((it0 b x ds (n + 1)).at_ : Int) := by
          have e1 : (it0 b x ds (n + 1)).at_ = (it0 b x ds n).at_ + (stepL b (it0 b x ds n).ds x (it0 b x ds n).at_ (bestL b (it0 b x ds n).ds x (it0 b x ds n).at_)).1.2.1.toNat := by
            show (runIt b x _ (n + 1)).at_ = _
            rw [it_on hlt]
          rw [e1]
          omega
        refine ⟨⟨n + 1, some (.ref p), ?_, fun j hj => ?_, W5⟩, ?_⟩
        · show [some v, some (.str x), some (.ref q), some (.ref pf), some (V.int (((it0 b x ds n).at_ : Int) + (stepL b (it0 b x ds n).ds x (it0 b x ds n).at_ (bestL b (it0 b x ds n).ds x (it0 b x ds n).at_)).1.2.1)), some (.ref p)] = _
          rw [eat]
        · rcases Nat.lt_succ_iff_lt_or_eq.mp hj with h | h
          · exact hall j h
          · rw [h]; exact hlt
        · show x.length - (((it0 b x ds n).at_ : Int) + (stepL b (it0 b x ds n).ds x (it0 b x ds n).at_ (bestL b (it0 b x ds n).ds x (it0 b x ds n).at_)).1.2.1).toNat < x.length - ((it0 b x ds n).at_ : Int).toNat
          omega
      · have hge : (it0 b x ds n).at_ = x.length := by
          have : ¬ (((it0 b x ds n).at_ : Int) < (x.length : Int)) := fun q => hlt (decide_eq_true q)
          omega
        obtain ⟨s3, hB3, R3, D3, T3, fv, hf3, RF⟩ := W
        exact ⟨_, rfl, k pf fv n H3 s3 npf hf3 hall hge RF D3 hB3 T3⟩
    · rintro σ H3 Q1 Q2 hq ⟨v1, e1, v2, e2, x2, e3, h4, i1, i2, e5, e6, b1, e7, h⟩
      exact ⟨v1, e1, v2, e2, x2, e3, h4, i1, i2, e5, e6, b1, e7, hq _ _ h⟩
theorem scSureSteps : FnScope ["book", "part", "doors", "told", "place", "step"] ["book", "part", "doors"] (defScope sSureSteps) := ⟨rfl, rfl, rfl, by decide +kernel, rfl, by decide +kernel, by decide +kernel⟩
set_option maxHeartbeats 0 in
theorem ok_suresteps {f tb f1 f2 : Addr} {fd fd1 fd2 : FuncData} (F : Fun K "sure_steps" "sure_steps" sSureSteps f fd) (T : TxtB mg)
    (k1 : PySem.W.keepIn K (.ref f1) = true) (b1 : Binds K fd1 ["book", "text", "place", "doors"] []) (m1 : mg "read_step" = some (.ref f1)) (G1 : FnOk P w K mg base CX0 4 f1 fd1 ["book", "text", "place", "doors"] (spStepP tb))
    (k2 : PySem.W.keepIn K (.ref f2) = true) (b2 : Binds K fd2 ["book", "part", "place", "doors"] []) (m2 : mg "is_sure" = some (.ref f2)) (G2 : FnOk P w K mg base CX0 3 f2 fd2 ["book", "part", "place", "doors"] spSure) : FnOk P w K mg base CX0 5 f fd ["book", "part", "doors"] (spSureSteps tb) := by
  refine F.ok scSureSteps (fun vs H Q E h => ?_) (fun cdv A outer s H vs Q E hr h => ?_)
  · obtain ⟨z, v, b, q, ds, x, rfl, _⟩ := h
    rfl
  · obtain ⟨z, v, b, q, ds, x, rfl, hB, hqz, R0, hok, hD, hbk, hx, hT, k⟩ := h
    have nd := scSureSteps.nd
    have hr3 : Room 3 _ := hr.mono (by decide)
    obtain ⟨hb1, hb6, htok, _⟩ := id hok
    refine ⟨_, pss_cons (ps_set (i := 3) nd rfl (Or.inl rfl) (pe_lst pa_nil))
      (pss_cons (ps_set (i := 4) nd rfl (Or.inl rfl) pe_int)
      (pss_cons (ps_while PassesOwn.never (PW.pt (pw_and (pt_cmpR op_lt (pv 4) (pe_callB call_len_str (by rfl) T.len b_len (pa_cons (pv 1) pa_nil)) (nomark _)) (pw_and1 (pt_val (pe_call G2 hr3 rfl m2 k2 b2 .nil pass0 (pa_cons (pv 0) (pa_cons (pv 1) (pa_cons (pv 4) (pa_cons (pv 2) pa_nil)))))))))
        (pss_cons (ps_set (i := 5) nd rfl (Or.inl rfl) (pe_call G1 hr rfl m1 k1 b1 .nil pass0 (pa_cons (pv 0) (pa_cons (pv 1) (pa_cons (pv 4) (pa_cons (pv 2) pa_nil))))))
        (pss_cons (ps_expr (pe_bm PySem.F.plainAttrs_list PySem.F.slot_list_append PySem.F.type_list_append mt_append (pv 3) (pa_cons (pv 5) pa_nil)))
        (pss_one (ps_aug (i := 4) nd rfl (Or.inl rfl) (pe_ix ix_tup (pv 5) pe_int (fun _ _ => rfl)) ip_add)))))
      (pss_one (ps_ret (pv 3))))), ?_⟩
    dsimp only [cxOf, Cx.nox, Cx.wish]
    have big := big1000
    have big2 : (100000 : Nat) ≤ sizeLine := by rw [sizeLine_eq]; decide
    refine ⟨Nat.zero_le _, fun pf npf => ?_⟩
    have s1 := Same.new (o := .lst []) npf
    have hpfz : pf ≠ z := hB.ne npf
    have hqf : q ≠ pf := ne_of_none hD.choose_spec.1 npf
    refine while_by (fun σ H3 => ∃ n u, σ = [some v, some (.str x), some (.ref q), some (.ref pf), some (.int (it0 b x ds n).at_), u] ∧ (∀ j, j < n → (it0 b x ds j).at_ < x.length ∧ sureB b (it0 b x ds j).ds x (it0 b x ds j).at_ = true) ∧ Turned tb z H b x ds v q pf n H3)
      (fun σ H3 => match σ[4]? with | some (some (V.int i)) => x.length - i.toNat | _ => 0) ⟨0, none, rfl, fun j h => absurd h (Nat.not_lt_zero _), fun b' o _ _ e => s1 b' o e, hB.same s1, R0.mono s1.x, hD.same s1, hT.same s1, [], upd_same, .nil⟩ ?_ ?_
    · rintro σ H3' ⟨n, u, rfl, hall, W'⟩
      have iok : ItOk2 b x ds (it0 b x ds n) := it_ok (x := x) htok hb1 hbk n
      have hle := iok.le
      refine ⟨_, rfl, _, rfl, x, rfl, by omega, _, _, rfl, rfl, _, rfl, ?_⟩
      refine ite2 (fun hlt => ?_) (fun hlt => ?_)
      · have hlt : (it0 b x ds n).at_ < x.length := by have := of_decide_eq_true hlt; omega
        have hdl := iok.dl
        have hsl := iok.sl
        obtain ⟨s3', hB3', R3', D3', T3', fv', hf3', RF'⟩ := id W'
        refine ⟨_, rfl, _, rfl, _, rfl, _, rfl, z, v, b, q, (it0 b x ds n).ds, x, (it0 b x ds n).at_, rfl, hB3', R3', hok, D3', iok.bk.ok htok, by omega, by omega, fun H3 sS => ?_⟩
        have W : Turned tb z H b x ds v q pf n H3 := ⟨fun b' o h1 h2 e => sS b' o (s3' b' o h1 h2 e), hB3'.same sS, R3'.mono sS.x, D3'.same sS, T3'.same sS, fv', sS _ _ hf3', RF'.mono sS.x⟩
        refine ⟨_, rfl, ?_⟩
        cases hsu : sureB b (it0 b x ds n).ds x (it0 b x ds n).at_ with
        | false =>
          refine iteF ?_
          obtain ⟨s3, hB3, R3, D3, T3, fv, hf3, RF⟩ := W
          exact ⟨_, rfl, k pf fv n H3 s3 npf hf3 hall (fun q => by rw [hsu] at q; exact absurd q.2 (by decide)) RF D3 hB3 T3⟩
        | true =>
          refine iteT ?_
          obtain ⟨s3, hB3, R3, D3, T3, fv, hf3, RF⟩ := id W
          refine ⟨_, rfl, _, rfl, _, rfl, _, rfl, z, v, b, q, (it0 b x ds n).ds, x, (it0 b x ds n).at_, rfl, hB3, hqz, R3, hok, D3, iok.bk, hlt, by omega, by omega, T3, fun p H4 s4 np hp D4 T4 => ?_⟩
          obtain ⟨hf4, W5, hp5⟩ := turn_on htok hb1 hbk hlt hqz hpfz hqf npf W hf3 RF s4 np hp D4 T4
          have hfl : fv.length = (it0 b x ds n).ss.length := by have := RF.length; simpa using this
          refine ⟨_, rfl, .inl ⟨rfl, _, SqL.of hf4⟩, _, rfl, pf, fv, _, rfl, rfl, hf4, by omega, ?_⟩
          generalize upd H4 pf (.lst (fv ++ [.ref p])) = H5 at W5 hp5
          refine ⟨_, rfl, _, rfl, p, _, 1, _, rfl, rfl, SqT.of hp5, atI_nat (j := 1) rfl, _, _, rfl, rfl, ?_⟩
          obtain ⟨p1, p2, p3, p4, p5, p6⟩ := stepL_props (ds := (it0 b x ds n).ds) (x := x) htok iok.bk hb1 hlt
          have eat : ((it0 b x ds n).at_ : Int) + (stepL b (it0 b x ds n).ds x (it0 b x ds n).at_ (bestL b (it0 b x ds n).ds x (it0 b x ds n).at_)).1.2.1 = ((it0 b x ds (n + 1)).at_ : Int) := by
            have e1 : (it0 b x ds (n + 1)).at_ = (it0 b x ds n).at_ + (stepL b (it0 b x ds n).ds x (it0 b x ds n).at_ (bestL b (it0 b x ds n).ds x (it0 b x ds n).at_)).1.2.1.toNat := by
              show (runIt b x _ (n + 1)).at_ = _
              rw [it_on hlt]
            rw [e1]
            omega
          refine ⟨⟨n + 1, some (.ref p), ?_, fun j hj => ?_, W5⟩, ?_⟩
          · show [some v, some (.str x), some (.ref q), some (.ref pf), some (V.int (((it0 b x ds n).at_ : Int) + (stepL b (it0 b x ds n).ds x (it0 b x ds n).at_ (bestL b (it0 b x ds n).ds x (it0 b x ds n).at_)).1.2.1)), some (.ref p)] = _
            rw [eat]
          · rcases Nat.lt_succ_iff_lt_or_eq.mp hj with h | h
            · exact hall j h
            · rw [h]; exact ⟨hlt, hsu⟩
          · show x.length - (((it0 b x ds n).at_ : Int) + (stepL b (it0 b x ds n).ds x (it0 b x ds n).at_ (bestL b (it0 b x ds n).ds x (it0 b x ds n).at_)).1.2.1).toNat < x.length - ((it0 b x ds n).at_ : Int).toNat
            omega
      · have hge : ¬ (it0 b x ds n).at_ < x.length := fun q => hlt (decide_eq_true (by omega))
        refine iteF ?_
        obtain ⟨s3, hB3, R3, D3, T3, fv, hf3, RF⟩ := W'
        exact ⟨_, rfl, k pf fv n H3' s3 npf hf3 hall (fun q => hge q.1) RF D3 hB3 T3⟩
    · rintro σ H3 Q1 Q2 hq ⟨v1, e1, v2, e2, x2, e3, h4, i1, i2, e5, e6, b1, e7, h⟩
      refine ⟨v1, e1, v2, e2, x2, e3, h4, i1, i2, e5, e6, b1, e7, ?_⟩
      cases b1 with
      | false => exact hq _ _ h
      | true =>
        obtain ⟨a1, g1, a2, g2, a3, g3, a4, g4, z', v', b', q', ds', x', j', g5, g6, g7, g8, g9, g10, g11, g12, g13⟩ := h
        refine ⟨a1, g1, a2, g2, a3, g3, a4, g4, z', v', b', q', ds', x', j', g5, g6, g7, g8, g9, g10, g11, g12, fun H' hs => ?_⟩
        obtain ⟨c, ec, h⟩ := g13 H' hs
        exact ⟨c, ec, hq _ _ h⟩
end
end T1
namespace T1
open PySem L2
abbrev mInit : Stmt := inClass sReader 0
abbrev mBegin : Stmt := inClass sReader 1
abbrev mFeed : Stmt := inClass sReader 2
abbrev mFinish : Stmt := inClass sReader 3
abbrev mHand : Stmt := inClass sReader 4
def rdF (v : V) (rs : Str) (pl : Int) (q : Addr) : List (Str × V) := [("book", v), ("rest", .str rs), ("place", .int pl), ("doors", .ref q)]
theorem n1 : ¬ (("book" : Str) = "rest") := by decide +kernel
theorem n2 : ¬ (("book" : Str) = "place") := by decide +kernel
theorem n3 : ¬ (("book" : Str) = "doors") := by decide +kernel
theorem n4 : ¬ (("rest" : Str) = "place") := by decide +kernel
theorem n5 : ¬ (("rest" : Str) = "doors") := by decide +kernel
theorem n6 : ¬ (("place" : Str) = "doors") := by decide +kernel
theorem look_cons (f g : Str) (v : V) (r : List (Str × V)) : ((g, v) :: r).lookup f = if f = g then some v else r.lookup f := by
  rw [List.lookup_cons]
  by_cases h : f = g
  · have hb : (f == g) = true := beq_iff_eq.mpr h
    rw [hb, if_pos h]
  · have hb : (f == g) = false := beq_eq_false_iff_ne.mpr h
    rw [hb, if_neg h]
section
variable (v : V) (rs rs' : Str) (pl pl' : Int) (q q' : Addr)
theorem rd_book : (rdF v rs pl q).lookup ("book" : Str) = some v := by unfold rdF; rw [look_cons, if_pos rfl]
theorem rd_rest : (rdF v rs pl q).lookup ("rest" : Str) = some (.str rs) := by unfold rdF; rw [look_cons, if_neg (Ne.symm n1), look_cons, if_pos rfl]
theorem rd_place : (rdF v rs pl q).lookup ("place" : Str) = some (.int pl) := by unfold rdF; rw [look_cons, if_neg (Ne.symm n2), look_cons, if_neg (Ne.symm n4), look_cons, if_pos rfl]
theorem rd_doors : (rdF v rs pl q).lookup ("doors" : Str) = some (.ref q) := by unfold rdF; rw [look_cons, if_neg (Ne.symm n3), look_cons, if_neg (Ne.symm n5), look_cons, if_neg (Ne.symm n6), look_cons, if_pos rfl]
theorem rd_no {m : Str} (h1 : ¬ m = "book") (h2 : ¬ m = "rest") (h3 : ¬ m = "place") (h4 : ¬ m = "doors") : (rdF v rs pl q).lookup m = none := by unfold rdF; rw [look_cons, if_neg h1, look_cons, if_neg h2, look_cons, if_neg h3, look_cons, if_neg h4]; rfl
theorem put_rest : putF "rest" (.str rs') (rdF v rs pl q) = rdF v rs' pl q := by
  unfold rdF
  show (if ("book" : Str) = "rest" then _ else _ :: (if ("rest" : Str) = "rest" then _ else _)) = _
  rw [if_neg n1, if_pos rfl]
theorem put_place : putF "place" (.int pl') (rdF v rs pl q) = rdF v rs pl' q := by
  unfold rdF
  show (if ("book" : Str) = "place" then _ else _ :: (if ("rest" : Str) = "place" then _ else _ :: (if ("place" : Str) = "place" then _ else _))) = _
  rw [if_neg n2, if_neg n4, if_pos rfl]
theorem put_doors : putF "doors" (.ref q') (rdF v rs pl q) = rdF v rs pl q' := by
  unfold rdF
  show (if ("book" : Str) = "doors" then _ else _ :: (if ("rest" : Str) = "doors" then _ else _ :: (if ("place" : Str) = "doors" then _ else _ :: (if ("doors" : Str) = "doors" then _ else _)))) = _
  rw [if_neg n3, if_neg n5, if_neg n6, if_pos rfl]
theorem put_first : putF "doors" (.ref q) (putF "place" (.int pl) (putF "rest" (.str rs) (putF "book" v []))) = rdF v rs pl q := by
  show putF "doors" (.ref q) (putF "place" (.int pl) (if ("book" : Str) = "rest" then _ else _ :: [(("rest" : Str), V.str rs)])) = _
  rw [if_neg n1]
  show putF "doors" (.ref q) (if ("book" : Str) = "place" then _ else _ :: (if ("rest" : Str) = "place" then _ else _ :: [(("place" : Str), V.int pl)])) = _
  rw [if_neg n2, if_neg n4]
  show (if ("book" : Str) = "doors" then _ else _ :: (if ("rest" : Str) = "doors" then _ else _ :: (if ("place" : Str) = "doors" then _ else _ :: [(("doors" : Str), V.ref q)]))) = _
  rw [if_neg n3, if_neg n5, if_neg n6]
  rfl
end
theorem m1' : ∀ m ∈ ([("__init__" : Str), "begin_anew", "feed", "finish", "hand_out", "standing", "held"] : List Str), ¬ m = "book" ∧ ¬ m = "rest" ∧ ¬ m = "place" ∧ ¬ m = "doors" := by decide +kernel
theorem rd_meth {v : V} {rs : Str} {pl : Int} {q : Addr} {m : Str} (h : m ∈ ([("__init__" : Str), "begin_anew", "feed", "finish", "hand_out", "standing", "held"] : List Str)) : (rdF v rs pl q).lookup m = none := by
  obtain ⟨h1, h2, h3, h4⟩ := m1' m h
  exact rd_no v rs pl q h1 h2 h3 h4
structure Txt3 (K : PySem.W.Frag) (mg : Str → Option Value) (C : Addr) : Prop where
  cl : Cls K C
  nB : NoAttr K C "book"
  nR : NoAttr K C "rest"
  nP : NoAttr K C "place"
  nD : NoAttr K C "doors"
  sum : mg "sum" = none
def But3 (r q t : Addr) (H H' : Hp) : Prop := ∀ b o, b ≠ r → b ≠ q → b ≠ t → H b = some o → H' b = some o
mutual
theorem Rep.but3 {z r q t C dx : Addr} {H H' : Hp} {l : List V} {fs : List (Str × V)} {ps : Array Value} (hr : H r = some (.ins C dx fs)) (hq : H q = some (.lst l)) (ht : H t = some (.tbl ps)) (s : But3 r q t H H') : ∀ {v : V} {d : D}, Rep z H v d → NoL d → Rep z H' v d
  | _, _, .non, _ => .non
  | _, _, .bl b, _ => .bl b
  | _, _, .int i, _ => .int i
  | _, _, .str x h, _ => .str x h
  | _, _, .tup h hz r', .tup k => .tup (s _ _ (ne_of h hr (by intro q; cases q)) (ne_of h hq (by intro q; cases q)) (ne_of h ht (by intro q; cases q)) h) hz (Reps.but3 hr hq ht s r' k)
theorem Reps.but3 {z r q t C dx : Addr} {H H' : Hp} {l : List V} {fs : List (Str × V)} {ps : Array Value} (hr : H r = some (.ins C dx fs)) (hq : H q = some (.lst l)) (ht : H t = some (.tbl ps)) (s : But3 r q t H H') : ∀ {vs : List V} {ds : List D}, Reps z H vs ds → NoLs ds → Reps z H' vs ds
  | _, _, .nil, _ => .nil
  | _, _, .cons h k, .cons h' k' => .cons (Rep.but3 hr hq ht s h h') (Reps.but3 hr hq ht s k k')
end
mutual
theorem Rep.insU {z r C dx dx' : Addr} {H : Hp} {fs fs' : List (Str × V)} (hr : H r = some (.ins C dx fs)) : ∀ {v : V} {d : D}, Rep z H v d → Rep z (upd H r (.ins C dx' fs')) v d
  | _, _, .non => .non
  | _, _, .bl b => .bl b
  | _, _, .int i => .int i
  | _, _, .str x h => .str x h
  | _, _, .tup h hz r' => .tup (by rw [upd_ne (ne_of h hr (by intro q; cases q))]; exact h) hz (Reps.insU hr r')
  | _, _, .lst h hz r' => .lst (by rw [upd_ne (ne_of h hr (by intro q; cases q))]; exact h) hz (Reps.insU hr r')
theorem Reps.insU {z r C dx dx' : Addr} {H : Hp} {fs fs' : List (Str × V)} (hr : H r = some (.ins C dx fs)) : ∀ {vs : List V} {ds : List D}, Reps z H vs ds → Reps z (upd H r (.ins C dx' fs')) vs ds
  | _, _, .nil => .nil
  | _, _, .cons h k => .cons (Rep.insU hr h) (Reps.insU hr k)
end
end T1
namespace L2
open PySem PySem.Spec PyProof.Rows
theorem pe_fldB {X : Cx} {sc : Scope} {cl : List (Str × Addr)} {N' : List Str} {s : Shared} {H : Hp} {fp : List Addr} {e : Expr} {f : Str} {pos : Pos} {ta : TE} (he : PE (X.blk sc cl N' s H fp) e ta) (hb : attributeBase e f (X.blk sc cl N' s H fp).env (eval e (X.blk sc cl N' s H fp).env) = eval e (X.blk sc cl N' s H fp).env := by rfl) : PE (X.blk sc cl N' s H fp) (.Attribute e f pos) (tFld X.K ta f) := pe_fld he hb
end L2
namespace T1
open PySem L2
theorem putF_len (f : Str) (v : V) : ∀ fs : List (Str × V), (putF f v fs).length ≤ fs.length + 1
  | [] => Nat.le_refl _
  | (g, x) :: r => by
    show (if g = f then (g, v) :: r else (g, x) :: putF f v r).length ≤ _
    split
    · show r.length + 1 ≤ r.length + 1 + 1
      omega
    · have := putF_len f v r
      show (putF f v r).length + 1 ≤ r.length + 1 + 1
      omega
inductive spBegin (C : Addr) : List V → Hp → VK → XK → Prop where
  | mk {vs : List V} {H : Hp} {Q : VK} {E : XK} (r dx fs : _) (c1 : vs = [.ref r]) (c2 : H r = some (.ins C dx fs)) (c3 : fs.length < 900) (c4 : ∀ q H', H q = none → SameX r H H' → H' q = some (.lst []) → H' r = some (.ins C dx (putF "doors" (.ref q) (putF "place" (.int 0) (putF "rest" (.str (Str.ofString "")) fs)))) → Q .non H') : spBegin C vs H Q E
inductive spInit (C : Addr) : List V → Hp → VK → XK → Prop where
  | mk {vs : List V} {H : Hp} {Q : VK} {E : XK} (r v dx : _) (c1 : vs = [.ref r, v]) (c2 : H r = some (.ins C dx [])) (c3 : ∀ q H', H q = none → SameX r H H' → H' q = some (.lst []) → H' r = some (.ins C dx (rdF v (Str.ofString "") 0 q)) → Q .non H') : spInit C vs H Q E
inductive spHand (C : Addr) : List V → Hp → VK → XK → Prop where
  | mk {vs : List V} {H : Hp} {Q : VK} {E : XK} (z r dx v rs q p fv : _) (ss : List Stp) (pl n : Nat) (c1 : vs = [.ref r, .ref p]) (c2 : Bag z H) (c3 : H r = some (.ins C dx (rdF v rs pl q))) (c4 : H p = some (.lst fv)) (c5 : Reps z H fv (ss.map stD)) (c6 : (ss.map (·.2.1)).sum = (n : Int)) (c7 : n ≤ rs.length) (c8 : rs.length ≤ 20000) (c9 : ss.length ≤ 20000) (c10 : ∀ pn fn H', SameX r H H' → H pn = none → H' pn = some (.lst fn) → Reps z H' fn ((ss.map (mvS pl)).map stD) → H' r = some (.ins C dx (rdF v (restS rs n) ((pl + n : Nat) : Int) q)) → Q (.ref pn) H') : spHand C vs H Q E
section
variable {P : Program} {w : World} {K : PySem.W.Frag} {mg : Str → Option Value} {base : Heap}
theorem scBegin : FnScope ["self"] ["self"] (defScope mBegin) := ⟨rfl, rfl, rfl, by decide +kernel, rfl, by decide +kernel, by decide +kernel⟩
theorem ok_begin {f C : Addr} {fd : FuncData} (F : Fun K "begin_anew" "Reader.begin_anew" mBegin f fd) (T3 : Txt3 K mg C) : FnOk P w K mg base CX0 1 f fd ["self"] (spBegin C) := by
  refine F.ok scBegin (fun vs H Q E h => ?_) (fun cdv A outer s H vs Q E hr h => ?_)
  · obtain ⟨r, dx, fs, rfl, _⟩ := h
    rfl
  · obtain ⟨r, dx, fs, rfl, hr0, hl, k⟩ := h
    refine ⟨_, pss_cons (ps_fld (pv 0) pe_str rfl) (pss_cons (ps_fld (pv 0) pe_int rfl) (pss_one (ps_fld (pv 0) (pe_lst pa_nil) rfl))), ?_⟩
    dsimp only [cxOf, Cx.nox, Cx.wish]
    have l1 := putF_len "rest" (.str (Str.ofString "")) fs
    have l2 := putF_len "place" (.int 0) (putF "rest" (.str (Str.ofString "")) fs)
    refine ⟨_, rfl, r, C, dx, fs, rfl, hr0, T3.cl, T3.nR, by omega, _, rfl, r, C, dx, _, rfl, upd_same, T3.cl, T3.nP, by omega, Nat.zero_le _, fun q nq => ?_⟩
    have hrq : r ≠ q := ne_of_none (upd_same (H := upd H r (.ins C dx (putF "rest" (.str (Str.ofString "")) fs))) (a := r)) nq
    refine ⟨_, rfl, r, C, dx, _, rfl, by rw [upd_ne hrq]; exact upd_same, T3.cl, T3.nD, by omega, ?_⟩
    rw [upd_ne hrq.symm, upd_ne hrq.symm] at nq
    refine k q _ nq (fun b o hb e => ?_) ?_ upd_same
    · rw [upd_ne hb, upd_ne (ne_of_none e nq), upd_ne hb, upd_ne hb]
      exact e
    · rw [upd_ne hrq.symm]
      exact upd_same
theorem scInit : FnScope ["self", "book"] ["self", "book"] (defScope mInit) := ⟨rfl, rfl, rfl, by decide +kernel, rfl, by decide +kernel, by decide +kernel⟩
theorem ok_init {f C f1 : Addr} {fd fd1 : FuncData} (F : Fun K "__init__" "Reader.__init__" mInit f fd) (T3 : Txt3 K mg C) (mB : Meth K C "begin_anew" f1) (bB : Binds K fd1 ["self"] []) (G1 : FnOk P w K mg base CX0 1 f1 fd1 ["self"] (spBegin C)) : FnOk P w K mg base CX0 2 f fd ["self", "book"] (spInit C) := by
  refine F.ok scInit (fun vs H Q E h => ?_) (fun cdv A outer s H vs Q E hr h => ?_)
  · obtain ⟨r, v, dx, rfl, _⟩ := h
    rfl
  · obtain ⟨r, v, dx, rfl, hr0, k⟩ := h
    refine ⟨_, pss_cons (ps_fld (pv 0) (pv 1) rfl) (pss_one (ps_expr (pe_meth0 (pv 0) T3.cl mB G1 hr bB .nil pass0))), ?_⟩
    dsimp only [cxOf, Cx.nox, Cx.wish]
    refine ⟨_, rfl, _, rfl, r, C, dx, [], rfl, hr0, T3.cl, T3.nB, by decide, ?_⟩
    refine ⟨_, rfl, r, dx, _, rfl, upd_same, (by rw [lookup_putF, if_neg (by decide +kernel)]; rfl), r, dx, _, rfl, upd_same, by show (1 : Nat) < 900; decide, fun q H' nq sx hq hr' => ?_⟩
    rw [put_first] at hr'
    have nq' : H q = none := by
      by_cases e : q = r
      · rw [e, upd_same] at nq
        cases nq
      · rwa [upd_ne e] at nq
    exact k q H' nq' (fun b o hb e => sx b o hb (by rw [upd_ne hb]; exact e)) hq hr'
theorem scHand : FnScope ["self", "found", "told", "many"] ["self", "found"] (defScope mHand) := ⟨rfl, rfl, rfl, by decide +kernel, rfl, by decide +kernel, by decide +kernel⟩
theorem ndSS : (["step", "self"] : List Str).Nodup := by decide +kernel
theorem ndS1 : (["step"] : List Str).Nodup := by decide +kernel
theorem b_sum : bootBuiltins "sum" = some (.builtin "sum") := by decide +kernel
set_option maxHeartbeats 0 in
theorem ok_hand {f C f1 : Addr} {fd fd1 : FuncData} (F : Fun K "hand_out" "Reader.hand_out" mHand f fd) (T : TxtB mg) (T3 : Txt3 K mg C)
    (k1 : PySem.W.keepIn K (.ref f1) = true) (b1 : Binds K fd1 ["step", "by"] []) (m1 : mg "moved" = some (.ref f1)) (G1 : FnOk P w K mg base CX0 1 f1 fd1 ["step", "by"] spMoved) : FnOk P w K mg base CX0 2 f fd ["self", "found"] (spHand C) := by
  refine F.ok scHand (fun vs H Q E h => ?_) (fun cdv A outer s H vs Q E hr h => ?_)
  · obtain ⟨z, r, dx, v, rs, q, p, fv, ss, pl, n, rfl, _⟩ := h
    rfl
  · obtain ⟨z, r, dx, v, rs, q, p, fv, ss, pl, n, rfl, hB, hr0, hp, RF, hsum, hn, hrl, hsl, k⟩ := h
    have nd := scHand.nd
    refine ⟨_, pss_cons (ps_setcomp1 (N' := ["step", "self"]) (js := [none, some 0]) (i := 2) rfl rfl nd rfl (Or.inl rfl) (blk_of (defScope mHand) (by decide +kernel)) ⟨rfl, Or.inr (Or.inl rfl), rfl, trivial⟩
          (pi_list (pv 1)) (fun cl s H fp => pg_name (i := 0) ndSS rfl (Or.inl rfl)) (fun cl s H fp => pts_nil) (fun cl s H fp => pe_call G1 hr rfl m1 k1 b1 .nil pass0 (pa_cons (pv 0) (pa_cons (pe_fldB (pv 1)) pa_nil))))
      (pss_cons (ps_set (i := 3) nd rfl (Or.inl rfl) (pe_callB (call_sum rfl) (by rfl) T3.sum b_sum (pa_cons (pe_comp1 (N' := ["step"]) (js := [none]) rfl rfl (blk_of (defScope mHand) (by decide +kernel)) trivial (pi_list (pv 1)) (fun cl s H fp => pg_name (i := 0) ndS1 rfl (Or.inl rfl)) (fun cl s H fp => pts_nil) (fun cl s H fp => pe_ix ix_tupB (pv 0) pe_int (fun _ _ => rfl))) pa_nil)))
      (pss_cons (ps_fld (pv 0) (pe_slice sl_str (pe_fld (pv 0) rfl) (po_some (pv 3)) po_none) rfl)
      (pss_cons (ps_fldaug (pv 0) (pv 3) in_add)
      (pss_one (ps_ret (pv 2)))))), ?_⟩
    dsimp only [cxOf, Cx.nox, Cx.wish]
    have big := big1000
    have big2 : (100000 : Nat) ≤ sizeLine := by rw [sizeLine_eq]; decide
    have hfl : fv.length = ss.length := by have := RF.length; simpa using this
    refine ⟨_, rfl, p, rfl, ⟨_, SqL.of hp⟩, fun pn npn => ?_⟩
    have hppn : p ≠ pn := ne_of_none hp npn
    refine loop_repsF (z := z) (fun _ => true) (fun j => stD (mvS pl (ss.getD j st0))) (fun σ => ∃ u, σ = [u, some (.ref r)]) ⟨none, rfl⟩ npn (by omega) (itok_lst (xs := fv) (by rw [upd_ne hppn]; exact hp) hppn) (fun j => noL_st _) (fun j σ H2 Ct Cf hj ⟨w1, hw⟩ s2 hCt _ => ?_) (fun σ H2 fn s2 hC RC => ?_)
    · subst hw
      obtain ⟨ay, e, hayz, hay, hwl⟩ := rep_stV ((reps_st (t := j) RF (by omega)).mono s2.x)
      rw [e]
      dsimp only [tYes, gName]
      rw [if_pos rfl]
      refine ⟨_, rfl, _, rfl, r, C, dx, _, _, rfl, s2 _ _ hr0, T3.cl, T3.nP, rd_place v rs pl q, ay, (pl : Int), ss.getD j st0, rfl, hay, fun pm H3 s3 nm hm => ?_⟩
      exact hCt rfl _ (.ref pm) H3 ⟨_, rfl⟩ s3 (rep_st' hm ((hB.same s2).ne nm) hwl)
    · rw [List.filter_eq_self.mpr (fun _ _ => rfl), hfl, range_st (fun s => stD (mvS pl s)) ss] at RC
      have hp2 := s2 _ _ hp
      have hr2 := s2 _ _ hr0
      have RF2 := RF.mono s2.x (z := z)
      refine ⟨_, rfl, p, rfl, ⟨_, SqL.of hp2⟩, fun pS npS => ?_⟩
      have hpS : p ≠ pS := ne_of_none hp2 npS
      refine loop_new (fun j => some (V.int (ss.getD j st0).2.1)) (fun σ => ∃ u, σ = [u]) ⟨none, rfl⟩ npS (by omega) (itok_lst (xs := fv) (by rw [upd_ne hpS]; exact hp2) hpS) (fun j σ H3 C' hj ⟨w1, hw⟩ s3 hC' => ?_) (fun σ H3 s3 hC3 => ?_)
      · subst hw
        obtain ⟨ay, e, hayz, hay, hwl⟩ := rep_stV ((reps_st (t := j) RF2 (by omega)).mono s3.x)
        rw [e]
        dsimp only [tYes, gName]
        rw [if_pos rfl]
        exact ⟨_, rfl, ay, _, 1, _, rfl, rfl, SqT.of hay, atI_nat (j := 1) rfl, hC' _ _ ⟨_, rfl⟩ (Same.refl _)⟩
      · rw [flatN_map, hfl, range_st (fun s => V.int s.2.1) ss] at hC3
        have em : ss.map (fun s => V.int s.2.1) = (ss.map (·.2.1)).map V.int := by rw [List.map_map]; rfl
        rw [em] at hC3
        refine ⟨pS, _, rfl, SqL.of hC3, ?_⟩
        rw [hsum]
        have hr3 := s3 _ _ hr2
        refine ⟨_, rfl, r, C, dx, _, _, rfl, hr3, T3.cl, T3.nR, rd_rest v rs pl q, _, rfl, _, rfl, rs, rfl, by omega, _, rfl, r, C, dx, _, rfl, hr3, T3.cl, T3.nR, by show (4 : Nat) < 1000; decide, ?_⟩
        rw [put_rest]
        refine ⟨_, rfl, r, C, dx, _, _, rfl, upd_same, T3.cl, T3.nP, rd_place v _ pl q, _, rfl, _, _, rfl, rfl, dx, _, upd_same, by show (4 : Nat) < 1000; decide, ?_⟩
        rw [put_place]
        have S3 := s2.trans s3
        have hpnr : pn ≠ r := (ne_of_none hr0 npn).symm
        refine ⟨_, rfl, k pn fn _ (fun b o hb e => ?_) npn ?_ ?_ ?_⟩
        · rw [upd_ne hb, upd_ne hb]
          exact S3 b o e
        · rw [upd_ne hpnr, upd_ne hpnr]
          exact s3 _ _ hC
        · have e2 : (ss.map (mvS pl)).map stD = ss.map (fun s => stD (mvS pl s)) := by rw [List.map_map]; rfl
          rw [e2]
          exact Reps.insU upd_same (Reps.insU hr3 (RC.mono s3.x))
        · rw [upd_same]
          have e3 : ((pl : Int) + (n : Int)) = ((pl + n : Nat) : Int) := by omega
          rw [e3]
          rfl
end
end T1
namespace T1
open PySem L2
inductive spFeed (tb C : Addr) : List V → Hp → VK → XK → Prop where
  | mk {vs : List V} {H : Hp} {Q : VK} {E : XK} (z r dx v b rs q ds pc : _) (pl : Nat) (c1 : vs = [.ref r, .str pc]) (c2 : Bag z H) (c3 : H r = some (.ins C dx (rdF v rs pl q))) (c4 : q ≠ z) (c5 : Rep z H v (bkD b)) (c6 : BkOk b) (c7 : PDs z H q ds) (c8 : LdBk b ds) (c9 : ds.length + (rs.length + pc.length) ≤ 20000) (c10 : LamTb tb H) (c11 : ∀ p fv n H', But3 r q tb H H' → H p = none → H' p = some (.lst fv) → (∀ j, j < n → (it0 b (rs ++ pc) ds j).at_ < (rs ++ pc).length ∧ sureB b (it0 b (rs ++ pc) ds j).ds (rs ++ pc) (it0 b (rs ++ pc) ds j).at_ = true) → ¬ ((it0 b (rs ++ pc) ds n).at_ < (rs ++ pc).length ∧ sureB b (it0 b (rs ++ pc) ds n).ds (rs ++ pc) (it0 b (rs ++ pc) ds n).at_ = true) → Reps z H' fv (((it0 b (rs ++ pc) ds n).ss.map (mvS pl)).map stD) → H' r = some (.ins C dx (rdF v (restS (rs ++ pc) (it0 b (rs ++ pc) ds n).at_) ((pl + (it0 b (rs ++ pc) ds n).at_ : Nat) : Int) q)) → PDs z H' q (it0 b (rs ++ pc) ds n).ds → Bag z H' → LamTb tb H' → Q (.ref p) H') : spFeed tb C vs H Q E
inductive spFinish (tb C : Addr) : List V → Hp → VK → XK → Prop where
  | mk {vs : List V} {H : Hp} {Q : VK} {E : XK} (z r dx v b rs q ds : _) (pl : Nat) (c1 : vs = [.ref r]) (c2 : Bag z H) (c3 : H r = some (.ins C dx (rdF v rs pl q))) (c4 : q ≠ z) (c5 : Rep z H v (bkD b)) (c6 : BkOk b) (c7 : PDs z H q ds) (c8 : LdBk b ds) (c9 : ds.length + rs.length ≤ 20000) (c10 : LamTb tb H) (c11 : ∀ p fv n q' H', But3 r q tb H H' → H p = none → H q' = none → q' ≠ p → H' p = some (.lst fv) → (∀ j, j < n → (it0 b rs ds j).at_ < rs.length) → (it0 b rs ds n).at_ = rs.length → Reps z H' fv (((it0 b rs ds n).ss.map (mvS pl)).map stD) → H' r = some (.ins C dx (rdF v (Str.ofString "") 0 q')) → H' q' = some (.lst []) → Bag z H' → LamTb tb H' → Q (.ref p) H') : spFinish tb C vs H Q E
theorem lam_sameR {tb r C dx : Addr} {H H' : Hp} {fs : List (Str × V)} (hr : H r = some (.ins C dx fs)) (s : SameX r H H') (h : LamTb tb H) : LamTb tb H' := by
  rcases h with h | ⟨c', h1, h2⟩
  · exact .inl (s _ _ (ne_of h hr (by intro q; cases q)) h)
  · exact .inr ⟨c', s _ _ (ne_of h1 hr (by intro q; cases q)) h1, s _ _ (ne_of h2 hr (by intro q; cases q)) h2⟩
mutual
theorem Rep.sameR {z r C dx : Addr} {H H' : Hp} {fs : List (Str × V)} (hr : H r = some (.ins C dx fs)) (s : SameX r H H') : ∀ {v : V} {d : D}, Rep z H v d → Rep z H' v d
  | _, _, .non => .non
  | _, _, .bl b => .bl b
  | _, _, .int i => .int i
  | _, _, .str x h => .str x h
  | _, _, .tup h hz r' => .tup (s _ _ (ne_of h hr (by intro q; cases q)) h) hz (Reps.sameR hr s r')
  | _, _, .lst h hz r' => .lst (s _ _ (ne_of h hr (by intro q; cases q)) h) hz (Reps.sameR hr s r')
theorem Reps.sameR {z r C dx : Addr} {H H' : Hp} {fs : List (Str × V)} (hr : H r = some (.ins C dx fs)) (s : SameX r H H') : ∀ {vs : List V} {ds : List D}, Reps z H vs ds → Reps z H' vs ds
  | _, _, .nil => .nil
  | _, _, .cons h k => .cons (Rep.sameR hr s h) (Reps.sameR hr s k)
end
theorem bag_sameR {z r C dx : Addr} {H H' : Hp} {fs : List (Str × V)} (hr : H r = some (.ins C dx fs)) (s : SameX r H H') (h : Bag z H) : Bag z H' := by
  obtain ⟨c1, c2, e⟩ := h
  exact ⟨c1, c2, s _ _ (ne_of e hr (by intro q; cases q)) e⟩
theorem pds_sameR {z r q C dx : Addr} {H H' : Hp} {fs : List (Str × V)} {ds : List LDr} (hr : H r = some (.ins C dx fs)) (s : SameX r H H') (h : PDs z H q ds) : PDs z H' q ds := by
  obtain ⟨dv, hq, R⟩ := h
  exact ⟨dv, s _ _ (ne_of hq hr (by intro q; cases q)) hq, Reps.sameR hr s R⟩
section
variable {P : Program} {w : World} {K : PySem.W.Frag} {mg : Str → Option Value} {base : Heap}
theorem scFeed : FnScope ["self", "piece"] ["self", "piece"] (defScope mFeed) := ⟨rfl, rfl, rfl, by decide +kernel, rfl, by decide +kernel, by decide +kernel⟩
set_option maxHeartbeats 0 in
theorem ok_feed {f C tb f1 f2 : Addr} {fd fd1 fd2 : FuncData} (F : Fun K "feed" "Reader.feed" mFeed f fd) (T3 : Txt3 K mg C)
    (k1 : PySem.W.keepIn K (.ref f1) = true) (b1 : Binds K fd1 ["book", "part", "doors"] []) (m1 : mg "sure_steps" = some (.ref f1)) (G1 : FnOk P w K mg base CX0 5 f1 fd1 ["book", "part", "doors"] (spSureSteps tb))
    (mH : Meth K C "hand_out" f2) (b2 : Binds K fd2 ["self", "found"] []) (G2 : FnOk P w K mg base CX0 2 f2 fd2 ["self", "found"] (spHand C)) : FnOk P w K mg base CX0 6 f fd ["self", "piece"] (spFeed tb C) := by
  refine F.ok scFeed (fun vs H Q E h => ?_) (fun cdv A outer s H vs Q E hr h => ?_)
  · obtain ⟨z, r, dx, v, b, rs, q, ds, pc, pl, rfl, _⟩ := h
    rfl
  · obtain ⟨z, r, dx, v, b, rs, q, ds, pc, pl, rfl, hB, hr0, hqz, R0, hok, hD, hbk, hx, hT, k⟩ := h
    have hr2 : Room 2 _ := hr.mono (by decide)
    obtain ⟨hb1, hb6, htok, _⟩ := id hok
    refine ⟨_, pss_cons (ps_fldaug (pv 0) (pv 1) in_addS)
      (pss_one (ps_ret (pe_meth (pv 0) T3.cl mH G2 hr2 b2 .nil pass0 (pa_cons (pe_call G1 hr rfl m1 k1 b1 .nil pass0 (pa_cons (pe_fld (pv 0) rfl) (pa_cons (pe_fld (pv 0) rfl) (pa_cons (pe_fld (pv 0) rfl) pa_nil)))) pa_nil)))), ?_⟩
    dsimp only [cxOf, Cx.nox, Cx.wish]
    have big2 : (100000 : Nat) ≤ sizeLine := by rw [sizeLine_eq]; decide
    refine ⟨_, rfl, r, C, dx, _, _, rfl, hr0, T3.cl, T3.nR, rd_rest v rs pl q, _, rfl, rs, pc, rfl, rfl, by omega, dx, _, hr0, by show (4 : Nat) < 1000; decide, ?_⟩
    rw [put_rest]
    have hxl : (rs ++ pc).length = rs.length + pc.length := str_len_append rs pc
    generalize hy : rs ++ pc = y at *
    have sx1 : SameX r H (upd H r (.ins C dx (rdF v y pl q))) := SameX.refl.upd
    have hr1 : upd H r (.ins C dx (rdF v y pl q)) r = some (.ins C dx (rdF v y pl q)) := upd_same
    have R1 := Rep.sameR hr0 sx1 R0
    have hB1 := bag_sameR hr0 sx1 hB
    have D1 := pds_sameR hr0 sx1 hD
    have T1 := lam_sameR hr0 sx1 hT
    have fr1 : ∀ {a : Addr}, upd H r (.ins C dx (rdF v y pl q)) a = none → H a = none := fun {a} e => by
      by_cases h : a = r
      · rw [h, upd_same] at e
        cases e
      · rwa [upd_ne h] at e
    generalize upd H r (.ins C dx (rdF v y pl q)) = H1 at sx1 hr1 R1 hB1 D1 T1 fr1
    refine ⟨_, rfl, r, dx, _, rfl, hr1, rd_meth (by simp), ?_⟩
    refine ⟨_, rfl, r, C, dx, _, _, rfl, hr1, T3.cl, T3.nB, rd_book v y pl q, _, rfl, r, C, dx, _, _, rfl, hr1, T3.cl, T3.nR, rd_rest v y pl q, _, rfl, r, C, dx, _, _, rfl, hr1, T3.cl, T3.nD, rd_doors v y pl q, ?_⟩
    refine ⟨z, v, b, q, ds, y, rfl, hB1, hqz, R1, hok, D1, hbk, by omega, T1, fun p fv n H2 s2 np hp hall hstop RF D2 hB2 T2 => ?_⟩
    obtain ⟨dv1, hq1, _⟩ := id D1
    obtain ⟨ps1, ht1⟩ := T1.tbl
    have hr2' := s2 _ _ (ne_of hr1 hq1 (by intro q; cases q)) (ne_of hr1 ht1 (by intro q; cases q)) hr1
    have iok : ItOk2 b y ds (it0 b y ds n) := it_ok (x := y) htok hb1 hbk n
    have isl := iok.sl
    have ile := iok.le
    refine ⟨z, r, dx, v, y, q, p, fv, (it0 b y ds n).ss, pl, (it0 b y ds n).at_, rfl, hB2, hr2', hp, RF, iok.sum, ile, by omega, by omega, fun pn fn H3 s3 npn hpn RN hr3 => ?_⟩
    have npn1 : H1 pn = none := by
      cases e : H1 pn with
      | none => rfl
      | some o =>
        exfalso
        by_cases h1 : pn = q
        · obtain ⟨dv2, hq2, _⟩ := D2
          rw [h1, hq2] at npn
          cases npn
        · by_cases h2 : pn = tb
          · obtain ⟨ps2, ht2⟩ := T2.tbl
            rw [h2, ht2] at npn
            cases npn
          · rw [s2 pn o h1 h2 e] at npn
            cases npn
    refine k pn fn n H3 (fun b' o h1 h2 h3 e => s3 b' o h1 (s2 b' o h2 h3 (sx1 b' o h1 e))) (fr1 npn1) hpn hall hstop RN hr3 (pds_sameR hr2' s3 D2) (bag_sameR hr2' s3 hB2) (lam_sameR hr2' s3 T2)
end
end T1
namespace T1
open PySem L2
section
variable {P : Program} {w : World} {K : PySem.W.Frag} {mg : Str → Option Value} {base : Heap}
theorem scFinish : FnScope ["self", "told"] ["self"] (defScope mFinish) := ⟨rfl, rfl, rfl, by decide +kernel, rfl, by decide +kernel, by decide +kernel⟩
set_option maxHeartbeats 0 in
theorem ok_finish {f C tb f1 f2 f3 : Addr} {fd fd1 fd2 fd3 : FuncData} (F : Fun K "finish" "Reader.finish" mFinish f fd) (T3 : Txt3 K mg C)
    (k1 : PySem.W.keepIn K (.ref f1) = true) (b1 : Binds K fd1 ["book", "text", "doors"] []) (m1 : mg "read_on" = some (.ref f1)) (G1 : FnOk P w K mg base CX0 5 f1 fd1 ["book", "text", "doors"] (spOnG tb))
    (mH : Meth K C "hand_out" f2) (b2 : Binds K fd2 ["self", "found"] []) (G2 : FnOk P w K mg base CX0 2 f2 fd2 ["self", "found"] (spHand C))
    (mB : Meth K C "begin_anew" f3) (b3 : Binds K fd3 ["self"] []) (G3 : FnOk P w K mg base CX0 1 f3 fd3 ["self"] (spBegin C)) : FnOk P w K mg base CX0 6 f fd ["self"] (spFinish tb C) := by
  refine F.ok scFinish (fun vs H Q E h => ?_) (fun cdv A outer s H vs Q E hr h => ?_)
  · obtain ⟨z, r, dx, v, b, rs, q, ds, pl, rfl, _⟩ := h
    rfl
  · obtain ⟨z, r, dx, v, b, rs, q, ds, pl, rfl, hB, hr0, hqz, R0, hok, hD, hbk, hx, hT, k⟩ := h
    have nd := scFinish.nd
    have hr2 : Room 2 _ := hr.mono (by decide)
    have hr1 : Room 1 _ := hr.mono (by decide)
    obtain ⟨hb1, hb6, htok, _⟩ := id hok
    refine ⟨_, pss_cons (ps_set (i := 1) nd rfl (Or.inl rfl) (pe_meth (pv 0) T3.cl mH G2 hr2 b2 .nil pass0 (pa_cons (pe_call G1 hr rfl m1 k1 b1 .nil pass0 (pa_cons (pe_fld (pv 0) rfl) (pa_cons (pe_fld (pv 0) rfl) (pa_cons (pe_fld (pv 0) rfl) pa_nil)))) pa_nil)))
      (pss_cons (ps_expr (pe_meth0 (pv 0) T3.cl mB G3 hr1 b3 .nil pass0))
      (pss_one (ps_ret (pv 1)))), ?_⟩
    dsimp only [cxOf, Cx.nox, Cx.wish]
    have big2 : (100000 : Nat) ≤ sizeLine := by rw [sizeLine_eq]; decide
    refine ⟨_, rfl, r, dx, _, rfl, hr0, rd_meth (by simp), ?_⟩
    refine ⟨_, rfl, r, C, dx, _, _, rfl, hr0, T3.cl, T3.nB, rd_book v rs pl q, _, rfl, r, C, dx, _, _, rfl, hr0, T3.cl, T3.nR, rd_rest v rs pl q, _, rfl, r, C, dx, _, _, rfl, hr0, T3.cl, T3.nD, rd_doors v rs pl q, ?_⟩
    refine ⟨z, v, b, q, ds, rs, rfl, hB, hqz, R0, hok, hD, hbk, by omega, hT, fun p fv n H2 s2 np hp hall hend RF D2 hB2 T2 => ?_⟩
    obtain ⟨dv1, hq1, _⟩ := id hD
    obtain ⟨ps1, ht1⟩ := hT.tbl
    have hr2' := s2 _ _ (ne_of hr0 hq1 (by intro q; cases q)) (ne_of hr0 ht1 (by intro q; cases q)) hr0
    have iok : ItOk2 b rs ds (it0 b rs ds n) := it_ok (x := rs) htok hb1 hbk n
    have isl := iok.sl
    have ile := iok.le
    refine ⟨z, r, dx, v, rs, q, p, fv, (it0 b rs ds n).ss, pl, (it0 b rs ds n).at_, rfl, hB2, hr2', hp, RF, iok.sum, ile, by omega, by omega, fun pn fn H3 s3 npn hpn RN hr3 => ?_⟩
    have old2 : ∀ {a : Addr}, H2 a = none → H a = none := fun {a} ea => by
      cases e : H a with
      | none => rfl
      | some o =>
        exfalso
        by_cases h1 : a = q
        · obtain ⟨dv2, hq2, _⟩ := D2
          rw [h1, hq2] at ea
          cases ea
        · by_cases h2 : a = tb
          · obtain ⟨ps2, ht2⟩ := T2.tbl
            rw [h2, ht2] at ea
            cases ea
          · rw [s2 a o h1 h2 e] at ea
            cases ea
    refine ⟨_, rfl, r, dx, _, rfl, hr3, rd_meth (by simp), r, dx, _, rfl, hr3, by show (4 : Nat) < 900; decide, fun q' H4 nq' sx4 hq' hr4 => ?_⟩
    rw [put_rest, put_place, put_doors] at hr4
    have hpn4 := sx4 _ _ (ne_of hpn hr3 (by intro q; cases q)) hpn
    have nq2 : H2 q' = none := by
      cases e : H2 q' with
      | none => rfl
      | some o =>
        exfalso
        by_cases h1 : q' = r
        · rw [h1, hr3] at nq'
          cases nq'
        · rw [s3 q' o h1 e] at nq'
          cases nq'
    refine ⟨_, rfl, k pn fn n q' H4 (fun b' o h1 h2 h3 e => sx4 b' o h1 (s3 b' o h1 (s2 b' o h2 h3 e))) (old2 npn) (old2 nq2) (ne_of_none hpn nq').symm hpn4 hall hend (Reps.sameR hr3 sx4 RN) hr4 hq' (bag_sameR hr3 sx4 (bag_sameR hr2' s3 hB2)) (lam_sameR hr3 sx4 (lam_sameR hr2' s3 T2))⟩
end
end T1
namespace T1
open PySem L2
theorem seq_butX {K : PySem.W.Frag} {H H' : Hp} {a t : Addr} {xs : List V} {ps : Array Value} (ht : H t = some (.tbl ps)) (e : ButX t H H') (h : SqL K H a xs) : SqL K H' a xs := by
  rcases h with (h | ⟨o, h⟩) | h
  · exact .inl (.inl (e _ _ (ne_of h ht (by intro q; cases q)) h))
  · exact .inl (.inr ⟨o, e _ _ (ne_of h ht (by intro q; cases q)) h⟩)
  · exact .inr h
theorem old_none {z tb a : Addr} {H0 H : Hp} (bx : But2 z tb H0 H) (hB : Bag z H) (hT : LamTb tb H) (n : H a = none) : H0 a = none := by
  cases e : H0 a with
  | none => rfl
  | some o =>
    exfalso
    by_cases h1 : a = z
    · obtain ⟨c1, c2, hz⟩ := hB
      rw [h1, hz] at n
      cases n
    · by_cases h2 : a = tb
      · obtain ⟨ps, ht⟩ := hT.tbl
        rw [h2, ht] at n
        cases n
      · rw [bx a o h1 h2 e] at n
        cases n
theorem run_stay {b : Bk} {x : Str} {n : Nat} (h : (runF b x n).at_ = x.length) : ∀ k, runF b x (n + k) = runF b x n
  | 0 => rfl
  | k + 1 => by
    have ih := run_stay h k
    show runStep b x (runF b x (n + k)) = _
    rw [ih]
    unfold runStep
    rw [if_neg (by omega)]
theorem run_eq {b : Bk} {x : Str} {n m : Nat} (h : (runF b x n).at_ = x.length) (h' : (runF b x m).at_ = x.length) : runF b x n = runF b x m := by
  have a := run_stay h m
  have c := run_stay h' n
  rw [← a, ← c, Nat.add_comm]
theorem dep_sts (k : Nat) : ∀ ss : List Stp, Deps (k + 1) (ss.map stD)
  | [] => .nil _
  | s :: r => .cons (.tup (.cons (.int _ _) (.cons (.int _ _) (.cons (.str _ _) (.cons (.int _ _) (.cons (.int _ _) (.nil _))))))) (dep_sts k r)
end T1
namespace T1
open PySem L2
theorem at_last {fv : List V} {m : Nat} {a : V} (h : fv.length = m + 1) (e : fv.getD m .non = a) : atI fv (-1) = some a := by
  have e1 : ixN fv.length (-1) = some (fv.length - 1) := by
    unfold ixN
    rw [if_neg (by decide), if_pos (by omega)]
    congr 1
    omega
  unfold atI
  rw [e1]
  show fv[fv.length - 1]? = _
  have e2 : fv.length - 1 = m := by omega
  rw [e2, ← e, List.getD_eq_getElem?_getD]
  have : m < fv.length := by omega
  rw [List.getElem?_eq_getElem this]
  rfl
end T1
namespace T1
open PySem L2
theorem SamePd.pdA {ds ds' : List LDr} (h : SamePd ds ds') : ds.map pdD = ds'.map pdD := by
  have e : ∀ l : List LDr, l.map pdD = (l.map (·.2)).map (fun d => D.tup [.int d.1, .str d.2]) := fun l => by rw [List.map_map]; rfl
  rw [e ds, e ds', h]
theorem rel_onA {b : Bk} {x y : Str} {n k : Nat} {more : List Nat} (hx : x.cps.toList = x.cps.toList.take (runF b x n).at_ ++ y.cps.toList ++ more) (hle : (runF b x n).at_ ≤ x.length)
    (hs : ∀ j, j < k → (it0 b y (runF b x n).ds j).at_ < y.length ∧ (more = [] ∨ sureB b (it0 b y (runF b x n).ds j).ds y (it0 b y (runF b x n).ds j).at_ = true)) :
    (runF b x (n + k)).at_ = (runF b x n).at_ + (it0 b y (runF b x n).ds k).at_ ∧ (runF b x (n + k)).ds.map pdD = (it0 b y (runF b x n).ds k).ds.map pdD ∧ (runF b x (n + k)).ss = (runF b x n).ss ++ (it0 b y (runF b x n).ds k).ss.map (mvS (runF b x n).at_) := by
  have R := rel_run (b := b) hx (off := (runF b x n).at_) (by rw [List.length_take, len_list]; omega) (S0 := (runF b x n).ss) (R := runF b x n) (r := ⟨0, (runF b x n).ds, []⟩) ⟨rfl, rfl, by show _ = _ ++ []; rw [List.append_nil]⟩ k hs
  rw [← runF_add] at R
  exact ⟨R.at_, R.pd.pdA, R.ss⟩
theorem app_listA (a c : Str) : (a ++ c).cps.toList = a.cps.toList ++ c.cps.toList := by
  show (a.cps ++ c.cps).toList = _
  simp
theorem feed_on {b : Bk} {x rs pc : Str} {FF rest : List Nat} {m k : Nat} (htok : ∀ t ∈ b, TgOk b.length t) (hb1 : 1 ≤ b.length) (hsplit : x.cps.toList = FF ++ pc.cps.toList ++ rest) (hrs : rs.cps.toList = FF.drop (runF b x m).at_) (hat : (runF b x m).at_ ≤ FF.length)
    (hall : ∀ j, j < k → (it0 b (rs ++ pc) (runF b x m).ds j).at_ < (rs ++ pc).length ∧ (rest = [] ∨ sureB b (it0 b (rs ++ pc) (runF b x m).ds j).ds (rs ++ pc) (it0 b (rs ++ pc) (runF b x m).ds j).at_ = true)) :
    (runF b x (m + k)).at_ = (runF b x m).at_ + (it0 b (rs ++ pc) (runF b x m).ds k).at_ ∧ (runF b x (m + k)).ds.map pdD = (it0 b (rs ++ pc) (runF b x m).ds k).ds.map pdD ∧ (runF b x (m + k)).ss = (runF b x m).ss ++ (it0 b (rs ++ pc) (runF b x m).ds k).ss.map (mvS (runF b x m).at_) ∧
    (restS (rs ++ pc) (it0 b (rs ++ pc) (runF b x m).ds k).at_).cps.toList = (FF ++ pc.cps.toList).drop (runF b x (m + k)).at_ ∧ (runF b x (m + k)).at_ ≤ (FF ++ pc.cps.toList).length := by
  have rok := run_ok (x := x) htok hb1 m
  have hYl : (rs ++ pc).cps.toList = (FF ++ pc.cps.toList).drop (runF b x m).at_ := by rw [app_listA, hrs, List.drop_append_of_le_length hat]
  have hxparts : x.cps.toList = x.cps.toList.take (runF b x m).at_ ++ (rs ++ pc).cps.toList ++ rest := by
    rw [hYl, hsplit, List.take_append_of_le_length (by rw [List.length_append]; omega), List.take_append_drop]
  obtain ⟨qat, qds, qss⟩ := rel_onA (b := b) (x := x) (y := rs ++ pc) (n := m) (k := k) hxparts rok.le hall
  have iok : ItOk2 b (rs ++ pc) (runF b x m).ds (it0 b (rs ++ pc) (runF b x m).ds k) := it_ok (x := rs ++ pc) htok hb1 rok.bk k
  have ile := iok.le
  have hYn : (rs ++ pc).length = (FF ++ pc.cps.toList).length - (runF b x m).at_ := by rw [← len_list, hYl, List.length_drop]
  refine ⟨qat, qds, qss, ?_, ?_⟩
  · rw [show (restS (rs ++ pc) (it0 b (rs ++ pc) (runF b x m).ds k).at_).cps.toList = _ from cut_from (rs ++ pc) ile, hYl, List.drop_drop, qat]
  · have : FF.length ≤ (FF ++ pc.cps.toList).length := by rw [List.length_append]; omega
    omega
theorem cut_toA (y : Str) {k : Nat} (h : k ≤ y.length) : (cutS y none (some (k : Int))).cps.toList = y.cps.toList.take k := by
  unfold cutS
  have e1 : HT.sIx y.length 0 none = 0 := rfl
  have e2 : HT.sIx y.length y.length (some (k : Int)) = k := by
    show (if (k : Int) < 0 then ((k : Int) + (y.length : Int)).toNat else min (k : Int).toNat y.length) = k
    rw [if_neg (by omega)]
    omega
  rw [e1, e2]
  simp
theorem cut_nA (xs : List V) {n : Nat} (h : n ≤ xs.length) : cutV xs none (some (n : Int)) = xs.take n := by
  unfold cutV
  have e1 : HT.sIx xs.length 0 none = 0 := rfl
  have e2 : HT.sIx xs.length xs.length (some (n : Int)) = n := by
    show (if (n : Int) < 0 then ((n : Int) + (xs.length : Int)).toNat else min (n : Int).toNat xs.length) = n
    rw [if_neg (by omega)]
    omega
  rw [e1, e2]
  simp
inductive spLaw25 (K : PySem.W.Frag) (tb : Addr) : List V → Hp → VK → XK → Prop where
  | mk {vs : List V} {H : Hp} {Q : VK} {E : XK} (a : _) (ns : List Int) (c1 : vs = [.ref a]) (c2 : SqL K H a (ns.map V.int)) (c3 : LamTb tb H) (q : ∀ H', Q (.bl true) H') : spLaw25 K tb vs H Q E
section
variable {P : Program} {w : World} {K : PySem.W.Frag} {mg : Str → Option Value} {base : Heap}
theorem scLaw25 : FnScope ["script", "k", "bag", "book", "signs", "few", "text", "told", "doors", "ends", "at", "reader", "found"] ["script"] (defScope lLaw) := ⟨rfl, rfl, rfl, by decide +kernel, rfl, by decide +kernel, by decide +kernel⟩
theorem ndTSB : (["turn", "signs", "bag"] : List Str).Nodup := by decide +kernel
set_option maxHeartbeats 0 in
theorem ok_law25 {f tb C f1 f2 f3 f4 f5 f6 f7 f8 g1 g2 g3 : Addr} {fd fd1 fd2 fd3 fd4 fd5 fd6 fd7 fd8 gd1 gd2 gd3 : FuncData} (F : Fun K "law" "law" lLaw f fd) (T : TxtB mg) (T2 : Txt2 mg) (T3 : Txt3 K mg C) (hC : mg "Reader" = some (.ref C)) (M : L2.Mk K C g1)
    (k1 : PySem.W.keepIn K (.ref f1) = true) (b1 : Binds K fd1 ["script", "k"] []) (m1 : mg "_law_bag" = some (.ref f1)) (G1 : FnOk P w K mg base CX0 1 f1 fd1 ["script", "k"] (spBag K))
    (k2 : PySem.W.keepIn K (.ref f2) = true) (b2 : Binds K fd2 ["bag"] []) (m2 : mg "_law_book" = some (.ref f2)) (G2 : FnOk P w K mg base CX0 3 f2 fd2 ["bag"] spBook)
    (k3 : PySem.W.keepIn K (.ref f3) = true) (b3 : Binds K fd3 ["book"] []) (m3 : mg "_law_marks" = some (.ref f3)) (G3 : FnOk P w K mg base CX0 1 f3 fd3 ["book"] spLMarks)
    (k4 : PySem.W.keepIn K (.ref f4) = true) (b4 : Binds K fd4 ["bag", "many"] []) (m4 : mg "_law_take" = some (.ref f4)) (G4 : FnOk P w K mg base CX0 1 f4 fd4 ["bag", "many"] spTake)
    (k5 : PySem.W.keepIn K (.ref f5) = true) (b5 : Binds K fd5 ["signs", "most"] []) (m5 : mg "_law_all_texts" = some (.ref f5)) (G5 : FnOk P w K mg base CX0 1 f5 fd5 ["signs", "most"] spAll)
    (k6 : PySem.W.keepIn K (.ref f6) = true) (b6 : Binds K fd6 ["book", "text"] []) (m6 : mg "_law_steps" = some (.ref f6)) (G6 : FnOk P w K mg base CX0 2 f6 fd6 ["book", "text"] spSteps)
    (k7 : PySem.W.keepIn K (.ref f7) = true) (b7 : Binds K fd7 ["book", "text"] []) (m7 : mg "steps" = some (.ref f7)) (G7 : FnOk P w K mg base CX0 6 f7 fd7 ["book", "text"] (spStepsP tb))
    (k8 : PySem.W.keepIn K (.ref f8) = true) (b8 : Binds K fd8 ["book", "text"] []) (m8 : mg "unfinished" = some (.ref f8)) (G8 : FnOk P w K mg base CX0 6 f8 fd8 ["book", "text"] (spUnfin tb))
    (c1 : Binds K gd1 ["self", "book"] []) (I1 : FnOk P w K mg base CX0 2 g1 gd1 ["self", "book"] (spInit C))
    (n2 : Meth K C "feed" g2) (c2 : Binds K gd2 ["self", "piece"] []) (I2 : FnOk P w K mg base CX0 6 g2 gd2 ["self", "piece"] (spFeed tb C))
    (n3 : Meth K C "finish" g3) (c3 : Binds K gd3 ["self"] []) (I3 : FnOk P w K mg base CX0 6 g3 gd3 ["self"] (spFinish tb C)) : FnOk P w K mg base CX0 7 f fd ["script"] (spLaw25 K tb) := by
  refine F.ok scLaw25 (fun vs H Q E h => ?_) (fun cdv A outer s H vs Q E hr h => ?_)
  · obtain ⟨a, ns, rfl, _⟩ := h
    rfl
  · obtain ⟨a, ns, rfl, hS, hT, k⟩ := h
    have nd := scLaw25.nd
    have hr1 : Room 1 _ := hr.mono (by decide)
    have hr2 : Room 2 _ := hr.mono (by decide)
    have hr3 : Room 3 _ := hr.mono (by decide)
    have hr5 : Room 5 _ := hr.mono (by decide)
    refine ⟨_, pss_cons (ps_for PassesOwn.never rfl (pi_range1 rfl T.range (pa_B (pe_op op_add (pe_callB (call_min2 rfl) (by rfl) T2.min b_min (pa_cons (pe_callB call_len_seq (by rfl) T.len b_len (pa_cons (pv 0) pa_nil)) (pa_K pe_int pa_nil))) pe_int) pa_nil)) (pg_name (i := 1) nd rfl (Or.inl rfl))
        (pss_cons (ps_set (i := 2) nd rfl (Or.inr rfl) (pe_call G1 hr1 rfl m1 k1 b1 .nil pass0 (pa_cons (pv 0) (pa_cons (pv 1) pa_nil))))
        (pss_cons (ps_set (i := 3) nd rfl (Or.inl rfl) (pe_call G2 hr3 rfl m2 k2 b2 .nil pass0 (pa_cons (pv 2) pa_nil)))
        (pss_cons (ps_set (i := 4) nd rfl (Or.inr rfl) (pe_callB (call_sorted_set rfl) (by rfl) T.sorted b_sorted (pa_cons (pe_callTy (call_set_text rfl) (by rfl) T2.set b_set (pa_B (pe_op op_add_str (pe_bm PySem.F.plainAttrs_str PySem.F.slot_str_join PySem.F.type_str_join mt_join pe_str (pa_cons (pe_call G3 hr1 rfl m3 k3 b3 .nil pass0 (pa_cons (pv 3) pa_nil)) pa_nil)) pe_str) pa_nil)) pa_nil)))
        (pss_cons (ps_setcomp1 (i := 5) (N' := ["turn", "signs", "bag"]) (js := [none, some 4, some 2]) rfl rfl nd rfl (Or.inl rfl) (blk_of (defScope lLaw) (by decide +kernel)) ⟨rfl, Or.inr (Or.inl rfl), rfl, rfl, Or.inr (Or.inl rfl), rfl, trivial⟩
          (pi_range1 rfl T.range (pa_K pe_int pa_nil)) (fun cl s H fp => pg_name (i := 0) ndTSB rfl (Or.inl rfl)) (fun cl s H fp => pts_nil)
          (fun cl s H fp => pe_ix ix_listB (pv 1) (pe_call G4 hr1 rfl m4 k4 b4 .nil pass0 (pa_cons (pv 2) (pa_cons (pe_callB call_len_seqB (by rfl) T.len b_len (pa_cons (pv 1) pa_nil)) pa_nil))) (fun _ _ => rfl)))
        (pss_one (ps_for PassesOwn.never rfl (pi_list (pe_op op_cat (pe_call G5 hr1 rfl m5 k5 b5 .nil pass0 (pa_cons (pv 5) (pa_K pe_int pa_nil))) (pe_call G5 hr1 rfl m5 k5 b5 .nil pass0 (pa_cons (pe_slice sl_list (pv 5) po_none (po_some pe_int)) (pa_K pe_int pa_nil))))) (pg_name (i := 6) nd rfl (Or.inl rfl))
          (pss_cons (ps_asg (pe_call G6 hr2 rfl m6 k6 b6 .nil pass0 (pa_cons (pv 3) (pa_cons (pv 6) pa_nil))) (pg_tupL rfl (pgs_cons (pg_name (i := 7) nd rfl (Or.inl rfl)) (pgs_cons (pg_name (i := 8) nd rfl (Or.inl rfl)) pgs_nil))))
          (pss_cons (ps_set (i := 9) nd rfl (Or.inl rfl) (pe_callTy call_list_of (by rfl) T2.list b_list (pa_cons (pv 8) pa_nil)))
          (pss_cons (ps_if (PW.pt (pw_and (pt_cmpR (op_ne_nil hr.units0) (pv 7) (pe_lst pa_nil) (nomark _)) (pw_and1 (pt_cmpR op_eq (pe_ix ix_tup (pe_ix ix_list (pv 7) (pe_un un_neg pe_int) (fun _ _ => rfl)) pe_int (fun _ _ => rfl)) pe_str (nomark _)))))
            (pss_one (ps_expr (pe_bm PySem.F.plainAttrs_list PySem.F.slot_list_append PySem.F.type_list_append mt_append (pv 9) (pa_cons (pe_tup (pa_cons (pe_ix ix_tup (pe_ix ix_list (pv 7) (pe_un un_neg pe_int) (fun _ _ => rfl)) pe_int (fun _ _ => rfl)) (pa_cons (pe_ix ix_tup (pe_ix ix_list (pv 7) (pe_un un_neg pe_int) (fun _ _ => rfl)) pe_int (fun _ _ => rfl)) (pa_cons pe_str pa_nil)))) pa_nil)))) pss_nil)
          (pss_cons (ps_if (PW.pt (pw_or (pt_cmpR (op_ne_same hr5) (pe_call G7 hr rfl m7 k7 b7 .nil pass0 (pa_cons (pv 3) (pa_cons (pv 6) pa_nil))) (pv 7) (nomark _)) (pw_or1 (pt_cmpR (op_ne_same hr5) (pe_call G8 hr rfl m8 k8 b8 .nil pass0 (pa_cons (pv 3) (pa_cons (pv 6) pa_nil))) (pv 9) (nomark _))))) (pss_one (ps_ret pe_bl)) pss_nil)
          (pss_cons (ps_set (i := 10) nd rfl (Or.inl rfl) (pe_call G4 hr1 rfl m4 k4 b4 .nil pass0 (pa_cons (pv 2) (pa_B (pe_op op_add (pe_callB call_len_str (by rfl) T.len b_len (pa_cons (pv 6) pa_nil)) pe_int) pa_nil))))
          (pss_cons (ps_set (i := 11) nd rfl (Or.inl rfl) (pe_make M I1 hr3 rfl hC c1 .nil pass0 (pa_cons (pv 3) pa_nil)))
          (pss_cons (ps_set (i := 12) nd rfl (Or.inl rfl) (pe_meth (pv 11) T3.cl n2 I2 hr c2 .nil pass0 (pa_cons (pe_slice sl_str (pv 6) po_none (po_some (pv 10))) pa_nil)))
          (pss_cons (ps_set (i := 12) nd rfl (Or.inl rfl) (pe_op op_cat (pv 12) (pe_meth (pv 11) T3.cl n2 I2 hr c2 .nil pass0 (pa_cons (pe_slice sl_str (pv 6) (po_some (pv 10)) po_none) pa_nil))))
          (pss_one (ps_if (pt_cmpR (op_ne_same hr5) (pe_op op_cat (pv 12) (pe_meth0 (pv 11) T3.cl n3 I3 hr c3 .nil pass0)) (pv 7) (nomark _)) (pss_one (ps_ret pe_bl)) pss_nil)))))))))))))))))
      (pss_one (ps_ret pe_bl)), ?_⟩
    dsimp only [cxOf, Cx.nox, Cx.wish]
    have big2 : (100000 : Nat) ≤ sizeLine := by rw [sizeLine_eq]; decide
    have hmin : ∃ n : Nat, (if (4 : Int) < ((ns.map V.int).length : Int) then (4 : Int) else ((ns.map V.int).length : Int)) = (n : Int) ∧ n ≤ 4 := by
      by_cases h : (4 : Int) < ((ns.map V.int).length : Int)
      · exact ⟨4, by rw [if_pos h]; rfl, by decide⟩
      · exact ⟨(ns.map V.int).length, by rw [if_neg h], by omega⟩
    obtain ⟨n, en, hn⟩ := hmin
    obtain ⟨ps0, ht0⟩ := hT.tbl
    refine D_hide fun D0 _ hR0 _ _ => seq_hide fun U hU => ?_
    refine ⟨_, rfl, a, _, rfl, .inl hS, _, _, rfl, _, _, rfl, rfl, (n : Int) + 1, ?_, by omega, by omega, ?_⟩
    · show [V.int ((if (4 : Int) < ((ns.map V.int).length : Int) then (4 : Int) else ((ns.map V.int).length : Int)) + 1)] = _
      rw [en]
    refine for_range (fun i σ H2 => ∃ u1 u2 u3 u4 u5 u6 u7 u8 u9 u10 u11 u12, σ = [some (.ref a), u1, u2, u3, u4, u5, u6, u7, u8, u9, u10, u11, u12] ∧ ButX tb H H2 ∧ LamTb tb H2) ⟨none, none, none, none, none, none, none, none, none, none, none, none, rfl, fun _ _ _ e => e, hT⟩ ?_ ?_
    · rintro i σ H0 hi ⟨u1, u2, u3, u4, u5, u6, u7, u8, u9, u10, u11, u12, rfl, s0, hT0⟩
      have hi' : i < n + 1 := by omega
      refine ⟨_, rfl, _, rfl, a, ns, i, by simp, seq_butX ht0 s0 hS, by omega, fun z H1 nz s1 hB1 => ?_⟩
      have hT1 := hT0.same s1
      refine ⟨_, rfl, z, rfl, hB1, fun v b H2 S A2 Rb okb hSg hSl => ?_⟩
      obtain ⟨e1, e2, hz1⟩ := id hB1
      have hT2 := hT1.sameX hz1 A2.1
      have S2 : But2 z tb H0 H2 := fun b' o h1 _ e => A2.1 b' o h1 (s1 b' o e)
      have hB2 := A2.2
      clear A2 hz1 hT1 s1
      obtain ⟨hb1, hb6, htok, _⟩ := id okb
      refine ⟨rfl, _, rfl, z, v, b, rfl, Rb, okb, fun pm ms H3 s3 npm hpm hml hms => ?_⟩
      obtain ⟨g500, g2, g64⟩ := al_signs hSg hSl hml hms
      refine ⟨_, pm, ms, rfl, rfl, SqL.of hpm, by omega, by decide +kernel, fun y hy => by have := (hms y hy).1.2; omega, ?_⟩
      have glen : (PySem.Builtin.Str.glued (Str.ofString "") ms).length ≤ 500 := by
        have := al_len (PySem.Builtin.Str.glued (Str.ofString "") ms) (Str.ofString "ab")
        omega
      refine ⟨_, _, rfl, rfl, by show _ + (Str.ofString "ab").length ≤ _; rw [show (Str.ofString "ab").length = 2 by decide +kernel]; omega, _, rfl, by unfold scanBound; show (_ ++ Str.ofString "ab" : Str).length + 1 < 4096; omega, fun pS0 npS0 => ?_⟩
      refine ⟨pS0, _, rfl, upd_same, g2, g64, fun pS sg npS hsgl hsg => ?_⟩
      have hsg1 : ∀ y ∈ sg, y.length ≤ 1 := fun y hy => by
        obtain ⟨c, _, rfl⟩ := List.mem_map.mp (hsg y hy)
        exact Nat.le_refl _
      have s4 := Same.new (o := setW P w pS0 (sgns (PySem.Builtin.Str.glued (Str.ofString "") ms ++ Str.ofString "ab"))) npS0
      have s5 := Same.new (o := .lst (sg.map V.str)) npS
      have s35 := (s3.trans s4).trans s5
      have hpS := upd_same (H := upd H3 pS0 (setW P w pS0 (sgns (PySem.Builtin.Str.glued (Str.ofString "") ms ++ Str.ofString "ab")))) (a := pS) (o := .lst (sg.map V.str))
      have hpSz : pS ≠ z := (hB2.same (s3.trans s4)).ne npS
      have S5 : But2 z tb H0 (upd (upd H3 pS0 (setW P w pS0 (sgns (PySem.Builtin.Str.glued (Str.ofString "") ms ++ Str.ofString "ab")))) pS (.lst (sg.map V.str))) := fun b' o h1 h2 e => s35 b' o (S2 b' o h1 h2 e)
      have hB5 := hB2.same s35
      have hT5 := hT2.same s35
      have Rb5 := Rb.mono s35.x (z := z)
      generalize upd (upd H3 pS0 (setW P w pS0 (sgns (PySem.Builtin.Str.glued (Str.ofString "") ms ++ Str.ofString "ab")))) pS (.lst (sg.map V.str)) = H5 at *
      clear s35 s5 s4 s3 S2 npS npS0 hpm npm
      dsimp only [gName]
      refine seq_hide fun U1 hU1 => ?_
      refine ⟨3, rfl, by decide, by decide, fun pF npF => ?_⟩
      have hpFz : pF ≠ z := hB5.ne npF
      refine loop_by (n := 3) (item := fun j => .int (0 + j)) (fun j σ H6 => (∃ u, σ = [u, some (.ref pS), some (.ref z)]) ∧ Aft z H5 H6 ∧ ∃ fs : List Str, fs.length = j ∧ (∀ t ∈ fs, t.length ≤ 1) ∧ H6 pF = some (.lst (fs.map V.str))) ⟨⟨none, rfl⟩, (Aft.refl hB5).new npF, [], rfl, (fun t h => nomatch h), upd_same⟩
        (fun j σ H6 hj _ => hj) (fun σ H6 _ => Nat.le_refl _) (fun j σ H6 x H' hj _ y => ⟨y.1, y.2⟩) (fun j σ H6 hj ⟨⟨u, hu⟩, A6, fs, hfl, hfs, hpF⟩ => ?_) (fun σ H6 ⟨_, A6, fs, hfl, hfs, hpF⟩ => ?_)
      · subst hu
        dsimp only [gName]
        have hpS6 := A6.1 _ _ hpSz hpS
        refine ⟨_, rfl, _, rfl, _, rfl, pS, _, rfl, .inl (SqL.of hpS6), z, _, rfl, A6.2, by rw [List.length_map]; omega, by rw [List.length_map]; omega, fun r H7 hr7 A7 => ?_⟩
        rw [List.length_map] at hr7
        have hrl : r < sg.length := by omega
        refine ⟨pS, _, _, .str sg[r], rfl, rfl, SqL.of (A7.1 _ _ hpSz hpS6), atI_nat (by rw [List.getElem?_map, List.getElem?_eq_getElem hrl]; rfl), _, A7.1 _ _ hpFz hpF, by rw [List.length_map]; omega, ⟨_, rfl⟩, (A6.trans A7).upd npF hpFz, fs ++ [sg[r]], by rw [List.length_append, hfl]; rfl, fun t ht => ?_, by rw [upd_same, List.map_append]; rfl⟩
        rcases List.mem_append.mp ht with ht | ht
        · exact hfs t ht
        · rw [List.mem_singleton.mp ht]; exact hsg1 _ (List.getElem_mem hrl)
      refine hU1 _ _ ?_
      have Rb6 := Rb5.mono A6.1
      obtain ⟨e3, e4, hz5⟩ := id hB5
      have hT6 := hT5.sameX hz5 A6.1
      have S6 : But2 z tb H0 H6 := fun b' o h1 h2 e => A6.1 b' o h1 (S5 b' o h1 h2 e)
      have hB6 := A6.2
      clear hsg hsg1 hpS hpSz S5 hT5 Rb5 hz5 hT2 Rb hB2
      refine ⟨_, rfl, pF, fs, 4, rfl, hpF, by omega, hfs, by decide, fun pa ta H7 s7 npa hpa hal hta => ?_⟩
      refine ⟨_, rfl, 2, rfl, pF, _, rfl, SqL.of (s7 _ _ hpF), fun pl npl => ?_⟩
      have ecv : cutV (fs.map V.str) none (some (2 : Int)) = (fs.take 2).map V.str := by
        rw [show (2 : Int) = ((2 : Nat) : Int) from rfl, cut_nA _ (by rw [List.length_map]; omega), List.map_take]
      rw [ecv]
      have s8 := Same.new (o := .lst ((fs.take 2).map V.str)) npl
      refine ⟨pl, fs.take 2, 6, rfl, upd_same, by rw [List.length_take]; omega, fun t ht => hfs t (List.mem_of_mem_take ht), by decide, fun pb tx H9 s9 npb hpb hbl htb => ?_⟩
      have s79 := s8.trans s9
      refine ⟨pa, pb, _, _, rfl, rfl, s79 _ _ hpa, hpb, by rw [List.length_map, List.length_map]; omega, fun pT npT => ?_⟩
      have s10 := Same.new (o := .lst (ta.map V.str ++ tx.map V.str)) npT
      have hpT := upd_same (H := H9) (a := pT) (o := .lst (ta.map V.str ++ tx.map V.str))
      rw [← List.map_append] at hpT s10 ⊢
      have htxs : ∀ t ∈ ta ++ tx, t.length ≤ 6 := fun t ht => (List.mem_append.mp ht).elim (hta t) (htb t)
      have sA := (s7.trans s79).trans s10
      have SA : But2 z tb H0 (upd H9 pT (.lst ((ta ++ tx).map V.str))) := fun b' o h1 h2 e => sA b' o (S6 b' o h1 h2 e)
      have hBA := hB6.same sA
      have hTA := hT6.same sA
      have RbA := Rb6.mono sA.x (z := z)
      have hpTz : pT ≠ z := (hB6.same (s7.trans s79)).ne npT
      have hpTt : pT ≠ tb := fun g => by
        obtain ⟨pt, ht⟩ := (hT6.same (s7.trans s79)).tbl
        rw [g, ht] at npT; cases npT
      generalize upd H9 pT (.lst ((ta ++ tx).map V.str)) = HA at *
      generalize ta ++ tx = txs at *
      clear sA s10 s79 s9 s8 s7 hta htb hal hbl hpa hpb npa npb npl npT S6 hB6 hT6 Rb6 A6 hB5 ecv npF hpF
      refine ⟨pT, rfl, ⟨_, SqL.of hpT⟩, for_list (K := K) (a := pT) (xs := txs.map V.str) (fun j σ H8 => ∃ u6 u7 u8 u9 u10 u11 u12, σ = [some (.ref a), some (.int (0 + i)), some (.ref z), some v, some (.ref pS), some (.ref pF), u6, u7, u8, u9, u10, u11, u12] ∧ But2 z tb HA H8 ∧ Bag z H8 ∧ LamTb tb H8 ∧ Rep z H8 v (bkD b)) ⟨_, _, _, _, _, _, _, rfl, fun _ _ _ _ e => e, hBA, hTA, RbA⟩
        (fun j σ H8 _ ⟨_, _, _, _, _, _, _, _, s, _⟩ => SqL.of (s _ _ hpTz hpTt hpT)) (fun j y σ H8 hj ⟨u6, u7, u8, u9, u10, u11, u12, hσ, S8, hB8, hT8, Rb8⟩ => ?_) (fun σ H8 ⟨u6, u7, u8, u9, u10, u11, u12, hσ, S8, hB8, hT8, Rb8⟩ => ?_)⟩
      · subst hσ
        obtain ⟨x, hx, rfl⟩ : ∃ x, txs[j]? = some x ∧ y = V.str x := by
          rw [List.getElem?_map] at hj
          cases e : txs[j]? with
          | none => rw [e] at hj; cases hj
          | some t => rw [e] at hj; injection hj with hj; exact ⟨t, rfl, hj.symm⟩
        have hx6 := htxs x (List.mem_of_getElem? hx)
        show gName _ _ _ _ _
        dsimp only [gName]
        refine seq_hide fun U2 hU2 => ?_
        refine ⟨_, rfl, _, rfl, z, v, b, x, rfl, hB8, Rb8, okb, by omega, fun pl pf pd n1 H9 s9 hpl hat RF LD => ?_⟩
        refine ⟨pl, _, rfl, SqL.of hpl, rfl, _, _, rfl, _, _, rfl, rfl, hU2 _ _ (seq_hide fun U2 hU2 => ?_)⟩
        obtain ⟨dv, hpd, RD⟩ := LD
        have hT9 := hT8.same s9
        have Rb9 := Rb8.mono s9.x (z := z)
        have hB9 := hB8.same s9
        have S9 : But2 z tb HA H9 := fun b' o h1 h2 e => s9 b' o (S8 b' o h1 h2 e)
        have rok := run_ok (x := x) htok hb1 n1
        have rsl := rok.sl
        have rdl := rok.dl
        rw [hat] at rsl rdl
        have hreq : ∀ m, (runF b x m).at_ = x.length → runF b x m = runF b x n1 := fun m hm => run_eq hm hat
        have hreqS : ∀ m, (runF b x m).at_ = x.length → (runF b x m).ss = (runF b x n1).ss := fun m hm => by rw [hreq m hm]
        have hreqD : ∀ m, (runF b x m).at_ = x.length → (runF b x m).ds = (runF b x n1).ds := fun m hm => by rw [hreq m hm]
        generalize hSS : (runF b x n1).ss = ss at *
        generalize hDS : (runF b x n1).ds = ds at *
        have hdl : dv.length = ds.length := by have := RD.length; simpa using this
        obtain ⟨fv, hpf, hpfz, RFs⟩ : ∃ fv, H9 pf = some (.lst fv) ∧ pf ≠ z ∧ Reps z H9 fv (ss.map stD) := by
          cases RF with
          | lst h hz r => exact ⟨_, h, hz, r⟩
        have hfl' : fv.length = ss.length := by have := RFs.length; simpa using this
        refine ⟨_, rfl, pd, dv, rfl, .inl (SqL.of hpd), fun pe npe => hU2 _ _ (seq_hide fun U2 hU2 => ?_)⟩
        have s10 := Same.new (o := .lst dv) npe
        have hpez : pe ≠ z := hB9.ne npe
        have hpe10 := upd_same (H := H9) (a := pe) (o := .lst dv)
        have hpfe : pf ≠ pe := ne_of_none hpf npe
        have hpf10 := s10 _ _ hpf
        have RE10 := RD.mono s10.x (z := z)
        have RFs10 := RFs.mono s10.x (z := z)
        have hB10 := hB9.same s10
        have hT10 := hT9.same s10
        have Rb10 := Rb9.mono s10.x (z := z)
        have S10 : But2 z tb HA (upd H9 pe (.lst dv)) := fun b' o h1 h2 e => s10 b' o (S9 b' o h1 h2 e)
        have npeA : HA pe = none := old_none S9 hB9 hT9 npe
        generalize upd H9 pe (.lst dv) = H10 at *
        clear s9 s10 hpl S9 hT9 Rb9 hB9 hpf RFs hpd RD RF
        have next : ∀ H11 ev, SameX pe H10 H11 → H11 pe = some (.lst ev) → Reps z H11 ev ((ds ++ cutL ss).map ldD) → U2 [some (.ref a), some (.int (0 + i)), some (.ref z), some v, some (.ref pS), some (.ref pF), some (.str x), some (.ref pf), some (.ref pd), some (.ref pe), u10, u11, u12] H11 := fun H11 ev sx11 hE RE => by
          refine hU2 _ _ (seq_hide fun U3 hU3 => ?_)
          have hT11 := hT10.sameX hpe10 sx11
          have hB11 : Bag z H11 := by
            obtain ⟨c5, c6, e⟩ := hB10
            exact ⟨c5, c6, sx11 _ _ hpez.symm e⟩
          have Rb11 := Rep.butL hpe10 sx11 Rb10 (.tup (noL_tgs b))
          have RF11 : Rep z H11 (.ref pf) (.lst (ss.map stD)) := .lst (sx11 _ _ hpfe hpf10) hpfz (Reps.butL hpe10 sx11 RFs10 (noL_sts _))
          have S11 : But2 z tb HA H11 := fun b' o h1 h2 e => sx11 b' o (ne_of_none e npeA) (S10 b' o h1 h2 e)
          obtain ⟨ps11, ht11⟩ := hT11.tbl
          have REr : Rep z H11 (.ref pe) (.lst ((ds ++ cutL ss).map ldD)) := .lst hE hpez RE
          refine ⟨_, rfl, _, rfl, z, v, b, x, rfl, hB11, Rb11, okb, by omega, hT11, fun p2 fv2 n2 H12 s12 np2 hp2 hat2 RS2 hB12 hT12 => ?_⟩
          rw [hreqS n2 hat2] at RS2
          have RF12 := Rep.butT ht11 s12 RF11
          have RE12 := Rep.butT ht11 s12 REr
          have Rb12 := Rep.butT ht11 s12 Rb11
          obtain ⟨ps12, ht12⟩ := hT12.tbl
          refine ⟨_, rfl, z, z, _, .lst hp2 (hB11.ne np2) RS2, RF12, dep_sts 3 _, _, rfl, iteF ?_⟩
          refine ⟨_, rfl, _, rfl, z, v, b, x, rfl, hB12, Rb12, okb, by omega, hT12, fun p3 fv3 n3 H13 s13 np3 hp3 hat3 RS3 hB13 hT13 => ?_⟩
          rw [hreqS n3 hat3, hreqD n3 hat3] at RS3
          have RF13 := Rep.butT ht12 s13 RF12
          have RE13 := Rep.butT ht12 s13 RE12
          have Rb13 := Rep.butT ht12 s13 Rb12
          refine ⟨_, rfl, z, z, _, .lst hp3 (hB12.ne np3) RS3, RE13, dep_lds 3 _, _, rfl, iteF (hU3 _ _ (seq_hide fun U3 hU3 => ?_))⟩
          have S13 : But2 z tb HA H13 := fun b' o h1 h2 e => s13 b' o h2 (s12 b' o h2 (S11 b' o h1 h2 e))
          clear RE13 RE12 RS3 RS2 Rb12 RF12 hB12 hT12 s13 s12 REr S11 RF11 Rb11 hB11 hT11 RE hE sx11
          -- the reader
          refine ⟨_, rfl, _, rfl, x, rfl, by omega, _, _, rfl, rfl, z, _, rfl, hB13, by omega, by omega, fun at' H14 hat' A14 => hU3 _ _ (seq_hide fun U3 hU3 => ?_)⟩
          have hat' : at' ≤ x.length := by omega
          obtain ⟨e5, e6, hz13⟩ := id hB13
          have hT14 := hT13.sameX hz13 A14.1
          have RF14 := RF13.mono A14.1
          have Rb14 := Rb13.mono A14.1
          have S14 : But2 z tb HA H14 := fun b' o h1 h2 e => A14.1 b' o h1 (S13 b' o h1 h2 e)
          have hB14 := A14.2
          clear A14 hz13 hT13 RF13 Rb13 S13 hB13
          refine ⟨_, rfl, fun r dx nr ndx ndr => ?_⟩
          have sm1 : Same H14 (upd H14 dx (.own r)) := Same.new ndx
          have nr1 : upd H14 dx (.own r) r = none := by rw [upd_ne ndr.symm]; exact nr
          have sm : Same H14 (upd (upd H14 dx (.own r)) r (.ins C dx [])) := sm1.trans (Same.new nr1)
          refine ⟨r, v, dx, rfl, upd_same, fun q H15 nq0 sx15 hq15 hr15 => ⟨rfl, hU3 _ _ (seq_hide fun U3 hU3 => ?_)⟩⟩
          have nq : H14 q = none := sm.free nq0
          have sm15 : Same H14 H15 := fun b' o e => sx15 b' o (ne_of_none e nr) (sm b' o e)
          have S15 : But2 z tb HA H15 := fun b' o h1 h2 e => sm15 b' o (S14 b' o h1 h2 e)
          have nrA : HA r = none := old_none S14 hB14 hT14 nr
          have nqA : HA q = none := old_none S14 hB14 hT14 nq
          have hqz : q ≠ z := hB14.ne nq
          have hB15 := hB14.same sm15
          have hT15 := hT14.same sm15
          obtain ⟨fw, hpf14, RFs14⟩ : ∃ fw, H14 pf = some (.lst fw) ∧ Reps z H14 fw (ss.map stD) := by
            cases RF14 with
            | lst h hz r => exact ⟨_, h, r⟩
          have hpfq : pf ≠ q := ne_of_none hpf14 nq
          have hpf15 := sm15 _ _ hpf14
          have RFs15 := RFs14.mono sm15.x (z := z)
          have Rb15 := Rb14.mono sm15.x (z := z)
          clear sm1 nr1 sm nq0 sx15 hB14 hT14 RF14 RFs14 hpf14 Rb14 S14 sm15
          have hbk0 : LdBk b [] := by intro d hd; cases hd
          have h1l := cut_toA x hat'
          have h2l := cut_from x hat'
          obtain ⟨pt15, ht15⟩ := hT15.tbl
          have n1l : (cutS x none (some (at' : Int))).length = at' := by rw [← len_list, h1l, List.length_take, len_list]; omega
          have n2l : (cutS x (some (at' : Int)) none).length = x.length - at' := by rw [← len_list, h2l, List.length_drop, len_list]
          have hs1 : x.cps.toList = [] ++ (cutS x none (some (at' : Int))).cps.toList ++ (cutS x (some (at' : Int)) none).cps.toList := by rw [h1l, h2l, List.nil_append, List.take_append_drop]
          have hs2 : x.cps.toList = (cutS x none (some (at' : Int))).cps.toList ++ (cutS x (some (at' : Int)) none).cps.toList ++ [] := by rw [h1l, h2l, List.append_nil, List.take_append_drop]
          have ex0 : (Str.ofString "").length = 0 := by decide +kernel
          refine ⟨_, rfl, r, dx, _, rfl, hr15, rd_meth (by simp), _, rfl, _, rfl, _, rfl, _, rfl, by omega, z, r, dx, v, b, Str.ofString "", q, (runF b x 0).ds, _, (runF b x 0).at_, rfl, hB15, hr15, hqz, Rb15, okb, ⟨[], hq15, .nil⟩, hbk0, by show 0 + _ ≤ _; omega, hT15, fun p1 fv1 ka H16 bx16 np1 hp1 hall1 hstop1 RN1 hr16 D16 hB16 hT16 => hU3 _ _ (seq_hide fun U3 hU3 => ?_)⟩
          obtain ⟨qat1, qds1, qss1, hrl1, hle1⟩ := feed_on (m := 0) (k := ka) (rs := Str.ofString "") htok hb1 hs1 (by rw [str_empty]; rfl) (Nat.zero_le _) (fun j hj => ⟨(hall1 j hj).1, .inr (hall1 j hj).2⟩)
          rw [← qat1] at hr16
          have D16' : PDs z H16 q (runF b x (0 + ka)).ds := by
            obtain ⟨dv', h1, h2⟩ := D16
            exact ⟨dv', h1, by rw [qds1]; exact h2⟩
          have RN1' : Reps z H16 fv1 ((runF b x (0 + ka)).ss.map stD) := by
            rw [qss1]
            exact RN1
          clear hall1 hstop1 RN1 qat1 qds1 qss1 D16
          rw [List.nil_append] at hrl1 hle1
          have rok1 := run_ok (x := x) htok hb1 (0 + ka)
          have rdl1 := rok1.dl
          have rsl1 := rok1.sl
          have rle1 := rok1.le
          generalize 0 + ka = m1 at *
          generalize restS (Str.ofString "" ++ cutS x none (some (at' : Int))) (it0 b (Str.ofString "" ++ cutS x none (some (at' : Int))) (runF b x 0).ds ka).at_ = rs1 at *
          have hp1z : p1 ≠ z := hB15.ne np1
          have hp1q : p1 ≠ q := (ne_of_none hq15 np1).symm
          obtain ⟨pt16, ht16⟩ := hT16.tbl
          obtain ⟨dv16, hq16, _⟩ := id D16'
          have Rb16 := Rep.but3 hr15 hq15 ht15 bx16 Rb15 (.tup (noL_tgs b))
          have hpf16 := bx16 _ _ (ne_of hpf15 hr15 (by intro q; cases q)) hpfq (ne_of hpf15 ht15 (by intro q; cases q)) hpf15
          have RFs16 := Reps.but3 hr15 hq15 ht15 bx16 RFs15 (noL_sts _)
          have S16 : But2 z tb HA H16 := fun b' o h1 h2 e => bx16 b' o (ne_of_none e nrA) (ne_of_none e nqA) h2 (S15 b' o h1 h2 e)
          have hrs1n : rs1.length ≤ 6 := by rw [← len_list, hrl1, List.length_drop, len_list]; omega
          have hf1l : fv1.length ≤ 6 := by have := RN1'.length; rw [List.length_map] at this; omega
          clear bx16 hr15 hq15 ht15 Rb15 hpf15 RFs15 S15 hB15 hT15 np1
          refine ⟨_, rfl, _, rfl, r, dx, _, rfl, hr16, rd_meth (by simp), _, rfl, _, rfl, _, rfl, _, rfl, by omega, z, r, dx, v, b, rs1, q, (runF b x m1).ds, _, (runF b x m1).at_, rfl, hB16, hr16, hqz, Rb16, okb, D16', rok1.bk, by omega, hT16, fun p2 fv2 kb H17 bx17 np2 hp2 hall2 hstop2 RN2 hr17 D17 hB17 hT17 => ?_⟩
          obtain ⟨qat2, qds2, qss2, hrl2, hle2⟩ := feed_on (m := m1) (k := kb) (rs := rs1) htok hb1 hs2 hrl1 hle1 (fun j hj => ⟨(hall2 j hj).1, .inl rfl⟩)
          rw [← qat2] at hr17
          have D17' : PDs z H17 q (runF b x (m1 + kb)).ds := by
            obtain ⟨dv', h1, h2⟩ := D17
            exact ⟨dv', h1, by rw [qds2]; exact h2⟩
          have hp1' := bx17 _ _ (ne_of hp1 hr16 (by intro q; cases q)) hp1q (ne_of hp1 ht16 (by intro q; cases q)) hp1
          have RN12 : Reps z H17 (fv1 ++ fv2) ((runF b x (m1 + kb)).ss.map stD) := by
            rw [qss2, List.map_append]
            exact (Reps.but3 hr16 hq16 ht16 bx17 RN1' (noL_sts _)).append RN2
          rw [show (cutS x none (some (at' : Int))).cps.toList ++ (cutS x (some (at' : Int)) none).cps.toList = x.cps.toList by rw [h1l, h2l, List.take_append_drop]] at hrl2
          clear hall2 hstop2 RN2 qat2 qds2 qss2 D17 hle2
          have rok2 := run_ok (x := x) htok hb1 (m1 + kb)
          have rdl2 := rok2.dl
          have rsl2 := rok2.sl
          have rle2 := rok2.le
          generalize m1 + kb = m2 at *
          generalize restS (rs1 ++ cutS x (some (at' : Int)) none) (it0 b (rs1 ++ cutS x (some (at' : Int)) none) (runF b x m1).ds kb).at_ = rs2 at *
          obtain ⟨pt17, ht17⟩ := hT17.tbl
          obtain ⟨dv17, hq17, _⟩ := id D17'
          have Rb17 := Rep.but3 hr16 hq16 ht16 bx17 Rb16 (.tup (noL_tgs b))
          have hpf17 := bx17 _ _ (ne_of hpf16 hr16 (by intro q; cases q)) hpfq (ne_of hpf16 ht16 (by intro q; cases q)) hpf16
          have RFs17 := Reps.but3 hr16 hq16 ht16 bx17 RFs16 (noL_sts _)
          have S17 : But2 z tb HA H17 := fun b' o h1 h2 e => bx17 b' o (ne_of_none e nrA) (ne_of_none e nqA) h2 (S16 b' o h1 h2 e)
          have h12l : (fv1 ++ fv2).length ≤ 6 := by have := RN12.length; rw [List.length_map] at this; omega
          clear bx17 hr16 hq16 ht16 Rb16 hpf16 RFs16 S16 hB16 hT16 np2 D16' RN1' hp1 hrl1 hle1 rok1 rdl1 rsl1 rle1
          refine ⟨p1, p2, fv1, fv2, rfl, rfl, hp1', hp2, by rw [List.length_append] at h12l; omega, fun pt npt => hU3 _ _ ?_⟩
          have s18 := Same.new (o := .lst (fv1 ++ fv2)) npt
          have hpt := upd_same (H := H17) (a := pt) (o := .lst (fv1 ++ fv2))
          have hptq : pt ≠ q := (ne_of_none hq17 npt).symm
          have hptz : pt ≠ z := hB17.ne npt
          have RN18 := RN12.mono s18.x (z := z)
          have hr18 := s18 _ _ hr17
          have D18 := D17'.same s18
          have hq18 := s18 _ _ hq17
          have hB18 := hB17.same s18
          have hT18 := hT17.same s18
          have ht18 := s18 _ _ ht17
          have Rb18 := Rb17.mono s18.x (z := z)
          have hpf18 := s18 _ _ hpf17
          have RFs18 := RFs17.mono s18.x (z := z)
          have S18 : But2 z tb HA (upd H17 pt (.lst (fv1 ++ fv2))) := fun b' o h1 h2 e => s18 b' o (S17 b' o h1 h2 e)
          generalize upd H17 pt (.lst (fv1 ++ fv2)) = H18 at *
          generalize fv1 ++ fv2 = fa at *
          clear s18 npt hr17 D17' hq17 hB17 hT17 ht17 Rb17 hpf17 RFs17 S17 RN12 hp1' hp2
          have hrs2n : rs2.length ≤ 6 := by rw [← len_list, hrl2, List.length_drop, len_list]; omega
          refine ⟨_, rfl, _, rfl, r, dx, _, rfl, hr18, rd_meth (by simp), z, r, dx, v, b, rs2, q, (runF b x m2).ds, (runF b x m2).at_, rfl, hB18, hr18, hqz, Rb18, okb, D18, rok2.bk, by omega, hT18, fun p3 fv3 kc q2 H19 bx19 np3 nq2 hq2p hp3 hall3 hend RN3 hr19 hq19 hB19 hT19 => ?_⟩
          have hxp : x.cps.toList = x.cps.toList.take (runF b x m2).at_ ++ rs2.cps.toList ++ [] := by rw [hrl2, List.take_append_drop, List.append_nil]
          obtain ⟨qat3, qds3, qss3⟩ := rel_onA (b := b) (x := x) (y := rs2) (n := m2) (k := kc) hxp rle2 (fun j hj => ⟨hall3 j hj, .inl rfl⟩)
          have hrs2e : rs2.length = x.length - (runF b x m2).at_ := by rw [← len_list, hrl2, List.length_drop, len_list]
          have hatx : (runF b x (m2 + kc)).at_ = x.length := by rw [qat3, hend]; omega
          have ess := hreqS _ hatx
          have hpt19 := bx19 _ _ (ne_of hpt hr18 (by intro q; cases q)) hptq (ne_of hpt ht18 (by intro q; cases q)) hpt
          have RNA : Reps z H19 (fa ++ fv3) (ss.map stD) := by
            rw [← ess, qss3, List.map_append]
            exact (Reps.but3 hr18 hq18 ht18 bx19 RN18 (noL_sts _)).append RN3
          have hAl : (fa ++ fv3).length ≤ 6 := by have := RNA.length; rw [List.length_map] at this; omega
          have hpf19 := bx19 _ _ (ne_of hpf18 hr18 (by intro q; cases q)) hpfq (ne_of hpf18 ht18 (by intro q; cases q)) hpf18
          have RFs19 := Reps.but3 hr18 hq18 ht18 bx19 RFs18 (noL_sts _)
          have Rb19 := Rep.but3 hr18 hq18 ht18 bx19 Rb18 (.tup (noL_tgs b))
          have S19 : But2 z tb HA H19 := fun b' o h1 h2 e => bx19 b' o (ne_of_none e nrA) (ne_of_none e nqA) h2 (S18 b' o h1 h2 e)
          refine ⟨pt, p3, fa, fv3, rfl, rfl, hpt19, hp3, by rw [List.length_append] at hAl; omega, fun pu npu => ?_⟩
          have s20 := Same.new (o := .lst (fa ++ fv3)) npu
          refine ⟨_, rfl, z, z, _, .lst upd_same (hB19.ne npu) (RNA.mono s20.x), .lst (s20 _ _ hpf19) hpfz (RFs19.mono s20.x), dep_sts 3 _, _, rfl, iteF ?_⟩
          exact ⟨_, _, _, _, _, _, _, rfl, fun b' o h1 h2 e => s20 b' o (S19 b' o h1 h2 e), hB19.same s20, hT19.same s20, Rb19.mono s20.x⟩
        refine ⟨_, rfl, Nat.zero_le _, fun l nl => ?_⟩
        have t1 := Same.new (o := .lst []) nl
        refine ⟨pf, l, fv, rfl, rfl, t1 _ _ hpf10, upd_same, _, rfl, ?_⟩
        have hpe11 := t1 _ _ hpe10
        have hpf11 := t1 _ _ hpf10
        have RE11 := RE10.mono t1.x (z := z)
        have RFs11 := RFs10.mono t1.x (z := z)
        have hB11 := hB10.same t1
        generalize upd H10 l (.lst []) = H11 at *
        refine ite2 (fun g0 => ?_) (fun g0 => ?_)
        · obtain ⟨m, hfl2⟩ : ∃ m, fv.length = m + 1 := by
            cases fv with
            | nil => simp at g0
            | cons _ r => exact ⟨r.length, rfl⟩
          have hss : ss.length = m + 1 := by omega
          have hne : ss ≠ [] := fun q => by rw [q] at hss; cases hss
          have hlast : ss.getD (ss.length - 1) st0 = ss.getD m st0 := by rw [hss]; rfl
          obtain ⟨ay, ea, hayz, hay, hwl⟩ := rep_stV (reps_st (t := m) RFs11 (by omega))
          have hat1 := at_last hfl2 ea
          generalize hST : ss.getD m st0 = st at *
          refine ⟨_, rfl, 1, rfl, pf, fv, -1, _, rfl, rfl, SqL.of hpf11, hat1, ay, _, 2, _, rfl, rfl, SqT.of hay, atI_nat (j := 2) rfl, rfl, _, rfl, ?_⟩
          refine ite2 (fun g => ?_) (fun g => ?_)
          · have g' : st.2.2.1 = Str.ofString "cut" := by simpa using g
            have ec : cutL ss = [(st.1, st.2.2.2.1, Str.ofString "")] := by
              unfold cutL
              rw [hlast, if_pos ⟨hne, g'⟩]
            refine ⟨_, rfl, .inl ⟨rfl, _, SqL.of hpe11⟩, _, rfl, 1, rfl, pf, fv, -1, _, rfl, rfl, SqL.of hpf11, hat1, ay, _, 0, _, rfl, rfl, SqT.of hay, atI_nat (j := 0) rfl, _, rfl, 1, rfl, pf, fv, -1, _, rfl, rfl, SqL.of hpf11, hat1, ay, _, 3, _, rfl, rfl, SqT.of hay, atI_nat (j := 3) rfl, by show (3 : Nat) ≤ _; omega, fun pt npt => ?_⟩
            have t6 := Same.new (o := .tup [.int st.1, .int st.2.2.2.1, .str (Str.ofString "")]) npt
            have hpet := t6 _ _ hpe11
            refine ⟨pe, dv, _, rfl, rfl, hpet, by omega, ?_⟩
            have rnew : Rep z (upd H11 pt (.tup [.int st.1, .int st.2.2.2.1, .str (Str.ofString "")])) (.ref pt) (ldD (st.1, st.2.2.2.1, Str.ofString "")) := .tup upd_same (hB11.ne npt) (.cons (.int _) (.cons (.int _) (.cons (.str _ (by decide +kernel)) .nil)))
            refine next _ (dv ++ [.ref pt]) (t1.trans t6).x.upd upd_same ?_
            rw [ec, List.map_append]
            exact Reps.updL hpet ((RE11.mono t6.x).append (.cons rnew .nil)) ((noL_lds _).append (noL_lds [_]))
          · have g' : st.2.2.1 ≠ Str.ofString "cut" := by simpa using g
            have ec : cutL ss = [] := by
              unfold cutL
              rw [hlast, if_neg (fun q => g' q.2)]
            exact next _ dv t1.x hpe11 (by rw [ec, List.append_nil]; exact RE11)
        · have hf0 : fv = [] := by
            cases fv with
            | nil => rfl
            | cons _ _ => exact absurd rfl g0
          have h0 : ss = [] := List.eq_nil_of_length_eq_zero (by rw [← hfl', hf0]; rfl)
          have ec : cutL ss = [] := by
            unfold cutL
            rw [h0, if_neg (by simp)]
          refine iteF ?_
          exact next _ dv t1.x hpe11 (by rw [ec, List.append_nil]; exact RE11)
      · subst hσ
        refine ⟨_, _, _, _, _, _, _, _, _, _, _, _, rfl, fun b' o h1 e => ?_, hT8⟩
        have e0 := s0 b' o h1 e
        have hz' : b' ≠ z := fun g => by rw [g, nz] at e0; cases e0
        exact S8 b' o hz' h1 (SA b' o hz' h1 e0)
    · rintro σ H2 ⟨u1, u2, u3, u4, u5, u6, u7, u8, u9, u10, u11, u12, rfl, s2, hT2⟩
      exact hU _ _ (hR0 _ _ (k H2))
end
end T1
namespace L2
open PySem PySem.Spec PyProof.Rows
theorem law_callT {P : Program} {w : World} {K : PySem.W.Frag} {mg mb : Str → Option Value} {CX : CXT} {k : Nat} {fa a c tb : Addr} {fd : FuncData} {x : Str} {sp : Sp} {s₁ : Shared} {vs : List Value} {ns : List Int}
    (KX : K.In s₁.heap) (hns : s₁.heap.Ns mainGlobals mg) (hb : s₁.heap.Ns builtinsNs mb) (hbb : ∀ x : Str, x ≠ "__name__" → mb x = bootBuiltins x) (hlim : s₁.heap.NoLimit) (hg : s₁.gens = #[])
    (hbm : ∃ bm ob, mg "__builtins__" = some (.ref bm) ∧ bm ≠ builtinsNs ∧ s₁.heap.get? bm = some ob ∧ ob.cls = .type "module" ∧ ob.dict = some builtinsNs ∧ ob.data = .plain)
    (hC : PySem.W.codeHdIn K c tb = true) (hP : s₁.heap.get? tb = some (PySem.W.tabObj #[])) (hKP : K.lookup tb = none)
    (ha : s₁.heap.get? a = some { cls := .type "list", data := .seq vs.toArray }) (hi : IntsAre vs ns) (hl : ns.length ≤ sizeLine) (hr : Room k callerA)
    (F : ∀ base : Heap, K.In base → base.Ns mainGlobals mg → base.BuiltinsAt mg tb → FnOk P w K mg base CX k fa fd [x] sp) (hbind : ∀ (s : Shared) (u : Value), BindsTo s fd ⟨[u], []⟩ [(x, u)])
    (hsp : ∀ H : Hp, H tb = some (.tbl #[]) → SqL K H a (ns.map V.int) → sp [.ref a] H (fun v _ => v = .bl true) fun _ _ _ => False)
    (hCX : ∀ H e s', CX [] H s₁ (fun _ _ _ => False) e s' → False) :
    codeAny (model P w) callerA (.call (.ref fa) ⟨[.ref a], []⟩) (fun r s' => r = .ok (.ret (.bool true)) ∧ OldK s₁.heap s'.heap ∧ s'.os = s₁.os ∧ AllBare s'.gens) s₁ := by
  have rv := vals_ints hi
  have lenV := hi.length
  have hat : a ≠ tb := fun z => by
    rw [z, hP] at ha
    cases ha
  have core : ∀ H : Hp, H tb = some (.tbl #[]) → (∀ b, b ≠ tb → H b = none ∨ ∃ o xs, H b = some (.frz o (.lst xs))) → SqL K H a (ns.map V.int) → HOk P w H s₁.heap → (∀ b, H b ≠ none → b = a ∨ b = tb) → (∀ b, H b ≠ none → K.lookup b = none) →
      codeAny (model P w) callerA (.call (.ref fa) ⟨[.ref a], []⟩) (fun r s' => r = .ok (.ret (.bool true)) ∧ OldK s₁.heap s'.heap ∧ s'.os = s₁.os ∧ AllBare s'.gens) s₁ := by
    intro H hT hO hS hok hA hK
    have base_of : ∀ {b : Addr} {o : Obj}, s₁.heap.get? b = some o → H b = none → (hidT s₁.heap H).get? b = some o := fun e n => hidT_get e n
    have noA : ∀ {b : Addr} {o : Obj}, s₁.heap.get? b = some o → (o.cls = .type "list" → False) → (o.cls = .none → False) → H b = none := fun {b o} e d1 d2 => by
      cases q : H b with
      | none => rfl
      | some u =>
        rcases hA b (by rw [q]; simp) with e' | e'
        · subst e'
          rw [ha] at e; cases e
          exact (d1 rfl).elim
        · subst e'
          rw [hP] at e; cases e
          exact (d2 rfl).elim
    have noD : ∀ {b : Addr} {o : Obj} {es : Array DictEntry} {ep : Nat}, s₁.heap.get? b = some o → o.data = .dict es ep → H b = none := fun {b o es ep} e d => by
      cases q : H b with
      | none => rfl
      | some u =>
        rcases hA b (by rw [q]; simp) with e' | e'
        · subst e'
          rw [ha] at e; cases e
          have d' : Data.seq vs.toArray _ = Data.dict es ep := d
          cases d'
        · subst e'
          rw [hP] at e; cases e
          have d' : Data.fields #[] = Data.dict es ep := d
          cases d'
    have nsK : ∀ {b : Addr} {m : Str → Option Value}, s₁.heap.Ns b m → (hidT s₁.heap H).Ns b m := fun {b m} ⟨o, es, ep, e, d, r⟩ => ⟨o, es, ep, base_of e (noD e d), d, r⟩
    have hKb : K.In (hidT s₁.heap H) := fun b o e => base_of (KX b o e) (by
      cases q : H b with
      | none => rfl
      | some u => rw [hK b (by rw [q]; simp)] at e; cases e)
    have hM : Mod K mg (hidT s₁.heap H) := ⟨hKb, nsK hns, ⟨mb, nsK hb, hbb⟩, let ⟨mc, h1, h2⟩ := hlim; ⟨mc, nsK h1, h2⟩⟩
    have hBA : (hidT s₁.heap H).BuiltinsAt mg tb := by
      obtain ⟨bm, ob, b1, b2, b3, b4, b5, b6⟩ := hbm
      refine ⟨bm, ob, b1, b2, fun q => ?_, fun q => ?_, base_of b3 (noA b3 (fun q => by rw [b4] at q; injection q with q; exact absurd q (by decide)) (fun q => by rw [b4] at q; cases q)), b4, b5, b6⟩
      · obtain ⟨o, es, ep, e, hd, _⟩ := hns
        rw [q, e] at b3; cases b3; rw [hd] at b6; cases b6
      · rw [q, hP] at b3; cases b3; cases b4
    have e0 : Env0 P w K mg (hidT s₁.heap H) callerA [] s₁ H := ⟨rfl, hM, fun b o e => of_hidT e, Nat.le_of_eq (hidT_size _ _), trivial, fun b hb => absurd (show b ∈ ([] : List Addr) from hb) (by simp), hok, .of_eq hg⟩
    refine codeAny_mono ((F _ hKb (nsK hns) hBA).run callerA [] s₁ H ⟨[.ref a], []⟩ [.ref a] [.ref a] _ _ hr e0 (hbind s₁ (.ref a)) (.cons rfl .nil) (hsp H hT hS)) fun r s' h => ?_
    cases r with
    | error e => exact (hCX H e s' h).elim
    | ok fl =>
      cases fl with
      | next => exact False.elim h
      | brk => exact False.elim h
      | cont => exact False.elim h
      | ret u =>
        obtain ⟨v, H', os, bare, un, hok', r', q⟩ := h
        have q' : v = .bl true := q
        subst q'
        obtain rfl : u = Value.bool true := r'
        refine ⟨rfl, ⟨fun b o e => ?_, fun b o e => un.there b o e (by simp)⟩, os, bare⟩
        by_cases hbt : b = tb
        · subst hbt
          rw [hP] at e
          cases e
          obtain ⟨more, e1⟩ := un.tbls b _ hT
          have e2 : s'.heap.get? b = some { cls := .none, data := .fields (#[] ++ more) } := hok' b _ e1
          have TA := (PySem.W.codeHd_of_K KX hC).tab hP
          exact .inr (.inl ⟨TA.isCodeTable, rfl, #[], more, rfl, e2⟩)
        · refine .inl ?_
          cases q : H b with
          | none => exact un.keep b o e q (by intro z; exact absurd (show b ∈ ([] : List Addr) from z) (by simp)) (by simp)
          | some u =>
            rcases hO b hbt with z | ⟨ob, xs, z⟩
            · rw [q] at z; cases z
            · have z2 := un.frzs b ob _ z
              obtain ⟨e1, _⟩ := hok b _ z
              obtain ⟨e2, _⟩ := hok' b _ z2
              rw [e] at e1; cases e1
              exact e2
  cases hk : K.lookup a with
  | some o =>
    have e := KX a o hk
    rw [ha] at e
    cases e
    refine core (fun b => if b = tb then some (.tbl #[]) else none) (if_pos rfl) (fun b hb => .inl (if_neg hb)) (.inr ⟨_, vs.toArray, _, hk, rfl, rfl, rfl, by rw [List.size_toArray, lenV]; exact hl, by simpa using rv⟩) (fun b u z => ?_) (fun b z => ?_) fun b z => ?_
    · by_cases hb : b = tb
      · have z' := (if_pos hb).symm.trans z
        cases z'
        subst hb
        exact hP
      · have z' := (if_neg hb).symm.trans z
        cases z'
    · by_cases hb : b = tb
      · exact .inr hb
      · exact absurd (if_neg hb) z
    · by_cases hb : b = tb
      · rw [hb]; exact hKP
      · exact absurd (if_neg hb) z
  | none =>
    refine core (fun b => if b = tb then some (.tbl #[]) else if b = a then some (.frz { cls := .type "list", data := .seq vs.toArray } (.lst (ns.map V.int))) else none) (if_pos rfl) (fun b hb => ?_) (.inl (.inr ⟨{ cls := .type "list", data := .seq vs.toArray }, (if_neg hat).trans (if_pos rfl)⟩)) (fun b u z => ?_) (fun b z => ?_) fun b z => ?_
    · by_cases hba : b = a
      · exact .inr ⟨_, _, (if_neg hb).trans (if_pos hba)⟩
      · exact .inl ((if_neg hb).trans (if_neg hba))
    · by_cases hb : b = tb
      · have z' := (if_pos hb).symm.trans z
        cases z'
        subst hb
        exact hP
      · by_cases hba : b = a
        · have z' := ((if_neg hb).trans (if_pos hba)).symm.trans z
          cases z'
          subst hba
          exact ⟨ha, by rw [List.length_map]; exact hl, vs, _, rv, ha⟩
        · have z' := ((if_neg hb).trans (if_neg hba)).symm.trans z
          cases z'
    · by_cases hb : b = tb
      · exact .inr hb
      · by_cases hba : b = a
        · exact .inl hba
        · exact absurd ((if_neg hb).trans (if_neg hba)) z
    · by_cases hb : b = tb
      · rw [hb]; exact hKP
      · by_cases hba : b = a
        · rw [hba]; exact hk
        · exact absurd ((if_neg hb).trans (if_neg hba)) z
theorem walk_ofT {l : PySem.W.OpenLaw} {n k : Nat} {q : Program} {loose : List Str} {XP : (Str → Option Value) → Heap → Prop} {YP : World → Heap → Prop} {d : DefRec} {K : Params → PySem.W.Frag} {CX : World → CXT} {sp : World → Sp} {x : Str} {tb : Addr}
    (hn : l.most = some n) (hn2 : n ≤ sizeLine) (hdf : d.params.defaults = []) (hr : Room k callerA)
    (hY : ∀ (w : World) (h : Heap), YP w h → (K w.params).In h ∧ h.get? tb = some (PySem.W.tabObj #[]))
    (F : ∀ (w : World) (mg : Str → Option Value) (fa : Addr) (h : Heap), (K w.params).In h → h.Ns mainGlobals mg → mg d.name = some (.ref fa) →
      ∃ (fd : FuncData) (c : Addr), PySem.W.codeHdIn (K w.params) c tb = true ∧ (K w.params).lookup tb = none ∧ (∀ (s : Shared) (u : Value), BindsTo s fd ⟨[u], []⟩ [(x, u)]) ∧
        ∀ base : Heap, (K w.params).In base → base.Ns mainGlobals mg → base.BuiltinsAt mg tb → FnOk l.prog w (K w.params) mg base (CX w) k fa fd [x] (sp w))
    (hsp : ∀ (w : World) (H : Hp) (a : Addr) (ns : List Int), ns.length ≤ n → H tb = some (.tbl #[]) → SqL (K w.params) H a (ns.map V.int) → sp w [.ref a] H (fun v _ => v = .bl true) fun _ _ _ => False)
    (hCX : ∀ (w : World) (H : Hp) (s : Shared) (e : Value) (s' : Shared), CX w [] H s (fun _ _ _ => False) e s' → False) :
    PySem.W.WalkO q loose XP YP l.row.toRowW d [] (fun f vs => PySem.call f vs) := by
  refine Att.attach_call hn hdf fun w s₀ s₁ mg mb fa o pm cd doc a vs ns G Y ho hd hcd hmg hobj hints hlen hg => ?_
  obtain ⟨KX, hP⟩ := hY w _ Y
  obtain ⟨fd, c, hC, hKP, hb, hF⟩ := F w mg fa _ KX G.T.g hmg
  exact law_callT KX G.T.g G.T.b G.T.builtins G.T.nolimit hg G.T.bmain hC hP hKP hobj hints (Nat.le_trans hlen hn2) hr hF hb (fun H hO hS => hsp w H a ns hlen hO hS) fun H e s' => hCX w H s₁ e s'
end L2
namespace T1
open PySem L2
structure FK (K : PySem.W.Frag) (n : Str) (st : Stmt) (f : Addr) (fd : FuncData) : Prop where
  a : PySem.W.nsIn K mainGlobals n = some (some (.ref f))
  F : Fun K n n st f fd
structure MK (K : PySem.W.Frag) (C : Addr) (n q : Str) (st : Stmt) (f : Addr) (fd : FuncData) : Prop where
  M : Meth K C n f
  F : Fun K n q st f fd
section
variable {K : PySem.W.Frag} {n q x : Str} {st : Stmt} {f C : Addr} {fd : FuncData} {oc kV doc pm cdv ct : Value} {od an : Option Addr} {osl : Array (Option Value)}
theorem fk (a : PySem.W.nsIn K mainGlobals n = some (some (.ref f))) (l : K.lookup f = some ⟨oc, od, .func (PySem.W.fnOf n n (defArgs st) (defBody st) (defScope st) .none kV doc pm an cdv ct), osl⟩) (c : PySem.W.codeIn K cdv n = true) (k : PySem.W.keepIn K (.ref f) = true) :
    FK K n st f (PySem.W.fnOf n n (defArgs st) (defBody st) (defScope st) .none kV doc pm an cdv ct) := ⟨a, fun_mk l c k⟩
theorem mkm (a : PySem.W.findIn K (.ref C) n = some (some (.ref f))) (i : PySem.W.isFn K (.ref f) = true) (l : K.lookup f = some ⟨oc, od, .func (PySem.W.fnOf n q (defArgs st) (defBody st) (defScope st) .none kV doc pm an cdv ct), osl⟩) (c : PySem.W.codeIn K cdv q = true) (k : PySem.W.keepIn K (.ref f) = true) :
    MK K C n q st f (PySem.W.fnOf n q (defArgs st) (defBody st) (defScope st) .none kV doc pm an cdv ct) := ⟨⟨a, i, k⟩, fun_mk l c k⟩
theorem FK.m {h : Heap} {mg : Str → Option Value} (A : FK K n st f fd) (X : K.In h) (G : h.Ns mainGlobals mg) : mg n = some (.ref f) := PySem.W.mg_of X G A.a
theorem FK.law {h : Heap} {mg : Str → Option Value} (A : FK K n st f fd) (X : K.In h) (G : h.Ns mainGlobals mg) {g : Addr} (e : mg n = some (.ref g)) : g = f := by
  have := e.symm.trans (A.m X G)
  injection this with this
  injection this
abbrev fo (x q : Str) (st : Stmt) (kV doc pm : Value) (an : Option Addr) (cdv ct : Value) : FuncData := PySem.W.fnOf x q (defArgs st) (defBody st) (defScope st) .none kV doc pm an cdv ct
theorem bn1 {p : Str} (F : Fun K x q st f fd) (h : ∀ kV doc pm an cdv ct a, bindArgs (fo x q st kV doc pm an cdv ct) ⟨[a], []⟩ = pure [(p, a)]) : Binds K fd [p] [] :=
  F.binds fun _ _ _ _ _ _ us hl => bd1 (f := fun us => bindArgs _ ⟨us, []⟩) (g := fun us => pure (List.zip _ us)) (h _ _ _ _ _ _) us hl
theorem bn2 {p p2 : Str} (F : Fun K x q st f fd) (h : ∀ kV doc pm an cdv ct a b, bindArgs (fo x q st kV doc pm an cdv ct) ⟨[a, b], []⟩ = pure [(p, a), (p2, b)]) : Binds K fd [p, p2] [] :=
  F.binds fun _ _ _ _ _ _ us hl => bd2 (f := fun us => bindArgs _ ⟨us, []⟩) (g := fun us => pure (List.zip _ us)) (h _ _ _ _ _ _) us hl
theorem bn3 {p p2 p3 : Str} (F : Fun K x q st f fd) (h : ∀ kV doc pm an cdv ct a b c, bindArgs (fo x q st kV doc pm an cdv ct) ⟨[a, b, c], []⟩ = pure [(p, a), (p2, b), (p3, c)]) : Binds K fd [p, p2, p3] [] :=
  F.binds fun _ _ _ _ _ _ us hl => bd3 (f := fun us => bindArgs _ ⟨us, []⟩) (g := fun us => pure (List.zip _ us)) (h _ _ _ _ _ _) us hl
theorem bn4 {p p2 p3 p4 : Str} (F : Fun K x q st f fd) (h : ∀ kV doc pm an cdv ct a b c d, bindArgs (fo x q st kV doc pm an cdv ct) ⟨[a, b, c, d], []⟩ = pure [(p, a), (p2, b), (p3, c), (p4, d)]) : Binds K fd [p, p2, p3, p4] [] :=
  F.binds fun _ _ _ _ _ _ us hl => bd4 (f := fun us => bindArgs _ ⟨us, []⟩) (g := fun us => pure (List.zip _ us)) (h _ _ _ _ _ _) us hl
theorem bn5 {p p2 p3 p4 p5 : Str} (F : Fun K x q st f fd) (h : ∀ kV doc pm an cdv ct a b c d e, bindArgs (fo x q st kV doc pm an cdv ct) ⟨[a, b, c, d, e], []⟩ = pure [(p, a), (p2, b), (p3, c), (p4, d), (p5, e)]) : Binds K fd [p, p2, p3, p4, p5] [] :=
  F.binds fun _ _ _ _ _ _ us hl => bd5 (f := fun us => bindArgs _ ⟨us, []⟩) (g := fun us => pure (List.zip _ us)) (h _ _ _ _ _ _) us hl
theorem bnl (F : Fun K x q st f fd) (h : ∀ kV doc pm an cdv ct (s : Shared) (v : Value), BindsTo s (fo x q st kV doc pm an cdv ct) ⟨[v], []⟩ [("script", v)]) : ∀ (s : Shared) (v : Value), BindsTo s fd ⟨[v], []⟩ [("script", v)] := by
  obtain ⟨oc, od, kV, doc, pm, an, cdv, ct, osl, rfl, lk, hcd⟩ := F.ex
  exact h _ _ _ _ _ _
end
end T1
namespace T1
open PySem L2
/-! ### what the top has written, and the law's own head -/
set_option maxHeartbeats 0 in
theorem all_mk {l : PySem.W.OpenLaw} {w : World} {K : PySem.W.Frag} {h : Heap} {mg : Str → Option Value} {fa cc C1 h1 h2 h3 h4 h5 f1 f2 f3 f4 f5 f6 f7 f8 f9 f10 f11 f12 f13 f14 f15 f16 f17 f18 f19 f20 f21 f22 f23 f24 : Addr} {d1 d2 d3 d4 d5 d7 d8 d9 d10 d11 d12 d13 d14 d15 d16 d17 d18 d19 d20 d21 d22 d23 d24 e1 e2 e3 e4 e5 : FuncData} {od an : Option Addr} {sl : Array (Option Value)} {oc kV dc pm ct : Value} (X : K.In h) (G : h.Ns mainGlobals mg) (hfa : mg "law" = some (.ref fa))
    (A1 : FK K "tongue_within" sWithin f1 d1)
    (A2 : FK K "possible_marks" sPoss f2 d2)
    (A3 : FK K "fitting_marks" sFitting f3 d3)
    (A4 : FK K "take_mark" sTakeM f4 d4)
    (A5 : FK K "read_plain" sPlainR f5 d5)
    (a6 : PySem.W.nsIn K mainGlobals "read_step" = some (some (.ref f6))) (l6 : K.lookup f6 = some ⟨oc, od, .func (PySem.W.fnOf "read_step" "read_step" (defArgs sStep) (defBody sStep) (defScope sStep) .none kV dc pm an (.ref cc) ct), sl⟩) (c6 : PySem.W.codeIn K (.ref cc) "read_step" = true) (k6 : PySem.W.keepIn K (.ref f6) = true)
    (A7 : FK K "read_on" sOn f7 d7)
    (A8 : FK K "places_left_open" sLeft f8 d8)
    (A9 : FK K "moved" sMoved f9 d9)
    (A10 : FK K "steps" sSteps f10 d10)
    (A11 : FK K "unfinished" sUnfin f11 d11)
    (A12 : FK K "is_sure" sIsSure f12 d12)
    (A13 : FK K "sure_steps" sSureSteps f13 d13)
    (A14 : FK K "_law_bag" lBag f14 d14)
    (A15 : FK K "_law_take" lTake f15 d15)
    (A16 : FK K "_law_mark" lMk f16 d16)
    (A17 : FK K "_law_fits_book" lFits f17 d17)
    (A18 : FK K "_law_book" lBook f18 d18)
    (A19 : FK K "_law_marks" lMarks f19 d19)
    (A20 : FK K "_law_fitting" lFitting f20 d20)
    (A21 : FK K "_law_step" lStep f21 d21)
    (A22 : FK K "_law_steps" lSteps f22 d22)
    (A23 : FK K "_law_all_texts" lAllTexts f23 d23)
    (A24 : FK K "law" lLaw f24 d24)
    (hd : PySem.W.codeHdIn K cc 56 = true) (hp : K.lookup 56 = none)
    (aC1 : PySem.W.nsIn K mainGlobals "Reader" = some (some (.ref C1)))
    (B1 : MK K C1 "__init__" "Reader.__init__" mInit h1 e1)
    (B2 : MK K C1 "begin_anew" "Reader.begin_anew" mBegin h2 e2)
    (B3 : MK K C1 "feed" "Reader.feed" mFeed h3 e3)
    (B4 : MK K C1 "finish" "Reader.finish" mFinish h4 e4)
    (B5 : MK K C1 "hand_out" "Reader.hand_out" mHand h5 e5)
    (cpg1 : PySem.W.plainGet K C1 Str.empty = true) (chd1 : PySem.W.hasDictIn K C1 = true) (cpo1 : PySem.W.plainOver K C1 = true) (csa1 : PySem.W.findIn K (.ref C1) "__setattr__" = some (some (.builtin "object.__setattr__"))) (cmk1 : PySem.W.makesIn K C1 = true) (ckc1 : PySem.W.keepIn K (.ref C1) = true)
    (nA1_1 : PySem.W.findIn K (.ref C1) "book" = some none)
    (nA1_2 : PySem.W.findIn K (.ref C1) "rest" = some none)
    (nA1_3 : PySem.W.findIn K (.ref C1) "place" = some none)
    (nA1_4 : PySem.W.findIn K (.ref C1) "doors" = some none)
    (z1 : PySem.W.nsIn K mainGlobals "len" = some none)
    (z2 : PySem.W.nsIn K mainGlobals "ord" = some none)
    (z3 : PySem.W.nsIn K mainGlobals "all" = some none)
    (z4 : PySem.W.nsIn K mainGlobals "any" = some none)
    (z5 : PySem.W.nsIn K mainGlobals "isinstance" = some none)
    (z6 : PySem.W.nsIn K mainGlobals "str" = some none)
    (z7 : PySem.W.nsIn K mainGlobals "int" = some none)
    (z8 : PySem.W.nsIn K mainGlobals "bool" = some none)
    (z9 : PySem.W.nsIn K mainGlobals "tuple" = some none)
    (z10 : PySem.W.nsIn K mainGlobals "range" = some none)
    (z11 : PySem.W.nsIn K mainGlobals "sorted" = some none)
    (z12 : PySem.W.nsIn K mainGlobals "max" = some none)
    (z13 : PySem.W.nsIn K mainGlobals "list" = some none)
    (z14 : PySem.W.nsIn K mainGlobals "set" = some none)
    (z15 : PySem.W.nsIn K mainGlobals "min" = some none)
    (z16 : PySem.W.nsIn K mainGlobals "sum" = some none)
    (z17 : PySem.W.nsIn K mainGlobals "zip" = some none) :
    ∃ (fd : FuncData) (c : Addr), PySem.W.codeHdIn K c 56 = true ∧ K.lookup 56 = none ∧ (∀ (s : Shared) (v : Value), BindsTo s fd ⟨[v], []⟩ [("script", v)]) ∧ ∀ base : Heap, K.In base → base.Ns mainGlobals mg → base.BuiltinsAt mg 56 → FnOk l.prog w K mg base CX0 7 fa fd ["script"] (spLaw25 K 56) := by
  have e := A24.law X G hfa
  subst e
  have T : TxtB mg := ⟨PySem.W.mg_none_of X G z1, PySem.W.mg_none_of X G z2, PySem.W.mg_none_of X G z3, PySem.W.mg_none_of X G z4, PySem.W.mg_none_of X G z5, PySem.W.mg_none_of X G z6, PySem.W.mg_none_of X G z7, PySem.W.mg_none_of X G z8, PySem.W.mg_none_of X G z9, PySem.W.mg_none_of X G z10, PySem.W.mg_none_of X G z11, PySem.W.mg_none_of X G z12⟩
  have T2 : Txt2 mg := ⟨PySem.W.mg_none_of X G z13, PySem.W.mg_none_of X G z14, PySem.W.mg_none_of X G z15⟩
  have hsum : mg "sum" = none := PySem.W.mg_none_of X G z16
  have hzip : mg "zip" = none := PySem.W.mg_none_of X G z17
  have TC1 : Cls K C1 := ⟨cpg1, chd1, cpo1, csa1⟩
  have bM1 := bn2 (p := "self") (p2 := "book") B1.F fun _ _ _ _ _ _ _ _ => rfl
  have bM2 := bn1 (p := "self") B2.F fun _ _ _ _ _ _ _ => rfl
  have bM3 := bn2 (p := "self") (p2 := "piece") B3.F fun _ _ _ _ _ _ _ _ => rfl
  have bM4 := bn1 (p := "self") B4.F fun _ _ _ _ _ _ _ => rfl
  have bM5 := bn2 (p := "self") (p2 := "found") B5.F fun _ _ _ _ _ _ _ _ => rfl
  have b1 := bn1 (p := "doors") A1.F fun _ _ _ _ _ _ _ => rfl
  have b2 := bn2 (p := "book") (p2 := "doors") A2.F fun _ _ _ _ _ _ _ _ => rfl
  have b3 := bn4 (p := "book") (p2 := "text") (p3 := "place") (p4 := "doors") A3.F fun _ _ _ _ _ _ _ _ _ _ => rfl
  have b4 := bn4 (p := "mark") (p2 := "door") (p3 := "place") (p4 := "doors") A4.F fun _ _ _ _ _ _ _ _ _ _ => rfl
  have b5 := bn4 (p := "book") (p2 := "text") (p3 := "place") (p4 := "doors") A5.F fun _ _ _ _ _ _ _ _ _ _ => rfl
  have F6 := fun_mk (st := sStep) l6 c6 k6
  have m6 := PySem.W.mg_of X G a6
  have b6 := bn4 (p := "book") (p2 := "text") (p3 := "place") (p4 := "doors") F6 fun _ _ _ _ _ _ _ _ _ _ => rfl
  have b7 := bn3 (p := "book") (p2 := "text") (p3 := "doors") A7.F fun _ _ _ _ _ _ _ _ _ => rfl
  have b8 := bn1 (p := "told") A8.F fun _ _ _ _ _ _ _ => rfl
  have b9 := bn2 (p := "step") (p2 := "by") A9.F fun _ _ _ _ _ _ _ _ => rfl
  have b10 := bn2 (p := "book") (p2 := "text") A10.F fun _ _ _ _ _ _ _ _ => rfl
  have b11 := bn2 (p := "book") (p2 := "text") A11.F fun _ _ _ _ _ _ _ _ => rfl
  have b12 := bn4 (p := "book") (p2 := "part") (p3 := "place") (p4 := "doors") A12.F fun _ _ _ _ _ _ _ _ _ _ => rfl
  have b13 := bn3 (p := "book") (p2 := "part") (p3 := "doors") A13.F fun _ _ _ _ _ _ _ _ _ => rfl
  have b14 := bn2 (p := "script") (p2 := "k") A14.F fun _ _ _ _ _ _ _ _ => rfl
  have b15 := bn2 (p := "bag") (p2 := "many") A15.F fun _ _ _ _ _ _ _ _ => rfl
  have b16 := bn2 (p := "bag") (p2 := "signs") A16.F fun _ _ _ _ _ _ _ _ => rfl
  have b17 := bn1 (p := "book") A17.F fun _ _ _ _ _ _ _ => rfl
  have b18 := bn1 (p := "bag") A18.F fun _ _ _ _ _ _ _ => rfl
  have b19 := bn1 (p := "book") A19.F fun _ _ _ _ _ _ _ => rfl
  have b20 := bn4 (p := "book") (p2 := "doors") (p3 := "text") (p4 := "place") A20.F fun _ _ _ _ _ _ _ _ _ _ => rfl
  have b21 := bn5 (p := "book") (p2 := "doors") (p3 := "text") (p4 := "place") (p5 := "mark") A21.F fun _ _ _ _ _ _ _ _ _ _ _ => rfl
  have b22 := bn2 (p := "book") (p2 := "text") A22.F fun _ _ _ _ _ _ _ _ => rfl
  have b23 := bn2 (p := "signs") (p2 := "most") A23.F fun _ _ _ _ _ _ _ _ => rfl
  refine ⟨_, cc, hd, hp, bnl A24.F fun _ _ _ _ _ _ s v => .of_eq rfl, fun base _ _ hBA => ?_⟩
  have G1 : FnOk l.prog w K mg base CX0 1 f1 _ ["doors"] spWithin := ok_within A1.F 
  have G2 : FnOk l.prog w K mg base CX0 2 f2 _ ["book", "doors"] spPoss := ok_poss A2.F A1.F.kp b1 (A1.m X G) G1
  have G3 : FnOk l.prog w K mg base CX0 3 f3 _ ["book", "text", "place", "doors"] spFitP := ok_fitP A3.F A2.F.kp b2 (A2.m X G) G2
  have G4 : FnOk l.prog w K mg base CX0 2 f4 _ ["mark", "door", "place", "doors"] spTakeM := ok_takeM A4.F T A1.F.kp b1 (A1.m X G) G1
  have G5 : FnOk l.prog w K mg base CX0 2 f5 _ ["book", "text", "place", "doors"] spPlainR := ok_plainR A5.F T A1.F.kp b1 (A1.m X G) G1
  have G6 : FnOk l.prog w K mg base CX0 4 f6 _ ["book", "text", "place", "doors"] (spStepP 56) := ok_stepP F6 rfl hd hBA T T.max A3.F.kp b3 (A3.m X G) G3 A5.F.kp b5 (A5.m X G) G5 A4.F.kp b4 (A4.m X G) G4
  have G7 : FnOk l.prog w K mg base CX0 5 f7 _ ["book", "text", "doors"] (spOn 56) := ok_on A7.F T k6 b6 m6 G6
  have GO : FnOk l.prog w K mg base CX0 5 f7 _ ["book", "text", "doors"] (spOnG 56) := ok_onG A7.F T k6 b6 m6 G6
  have G8 : FnOk l.prog w K mg base CX0 1 f8 _ ["told"] spLeft := ok_left A8.F 
  have G10 : FnOk l.prog w K mg base CX0 6 f10 _ ["book", "text"] (spStepsP 56) := ok_stepsP A10.F A7.F.kp b7 (A7.m X G) G7
  have G11 : FnOk l.prog w K mg base CX0 6 f11 _ ["book", "text"] (spUnfin 56) := ok_unfin A11.F hzip A7.F.kp b7 (A7.m X G) G7 A8.F.kp b8 (A8.m X G) G8
  have G9 : FnOk l.prog w K mg base CX0 1 f9 _ ["step", "by"] spMoved := ok_moved A9.F 
  have G12 : FnOk l.prog w K mg base CX0 3 f12 _ ["book", "part", "place", "doors"] spSure := ok_sure A12.F T A1.F.kp b1 (A1.m X G) G1 A2.F.kp b2 (A2.m X G) G2
  have G13 : FnOk l.prog w K mg base CX0 5 f13 _ ["book", "part", "doors"] (spSureSteps 56) := ok_suresteps A13.F T k6 b6 m6 G6 A12.F.kp b12 (A12.m X G) G12
  have G14 : FnOk l.prog w K mg base CX0 1 f14 _ ["script", "k"] (spBag K) := ok_bag A14.F T 
  have G15 : FnOk l.prog w K mg base CX0 1 f15 _ ["bag", "many"] spTake := ok_take A15.F 
  have G16 : FnOk l.prog w K mg base CX0 2 f16 _ ["bag", "signs"] spMk := ok_mk A16.F T A15.F.kp b15 (A15.m X G) G15
  have G17 : FnOk l.prog w K mg base CX0 1 f17 _ ["book"] spFits := ok_fits A17.F T T2 
  have G18 : FnOk l.prog w K mg base CX0 3 f18 _ ["bag"] spBook := ok_lbook A18.F T T2 A15.F.kp b15 (A15.m X G) G15 A16.F.kp b16 (A16.m X G) G16 A17.F.kp b17 (A17.m X G) G17
  have G19 : FnOk l.prog w K mg base CX0 1 f19 _ ["book"] spLMarks := ok_lmarks A19.F 
  have G20 : FnOk l.prog w K mg base CX0 1 f20 _ ["book", "doors", "text", "place"] spFitting := ok_fitting A20.F T 
  have G21 : FnOk l.prog w K mg base CX0 1 f21 _ ["book", "doors", "text", "place", "mark"] spStep := ok_lstep A21.F T 
  have G22 : FnOk l.prog w K mg base CX0 2 f22 _ ["book", "text"] spSteps := ok_lsteps A22.F T A20.F.kp b20 (A20.m X G) G20 A21.F.kp b21 (A21.m X G) G21
  have G23 : FnOk l.prog w K mg base CX0 1 f23 _ ["signs", "most"] spAll := ok_all A23.F T 
  have T3 : Txt3 K mg C1 := ⟨TC1, nA1_1, nA1_2, nA1_3, nA1_4, hsum⟩
  have GM2 : FnOk l.prog w K mg base CX0 1 h2 _ ["self"] (spBegin C1) := ok_begin B2.F T3
  have GM1 : FnOk l.prog w K mg base CX0 2 h1 _ ["self", "book"] (spInit C1) := ok_init B1.F T3 B2.M bM2 GM2
  have GM5 : FnOk l.prog w K mg base CX0 2 h5 _ ["self", "found"] (spHand C1) := ok_hand B5.F T T3 A9.F.kp b9 (A9.m X G) G9
  have GM3 : FnOk l.prog w K mg base CX0 6 h3 _ ["self", "piece"] (spFeed 56 C1) := ok_feed B3.F T3 A13.F.kp b13 (A13.m X G) G13 B5.M bM5 GM5
  have GM4 : FnOk l.prog w K mg base CX0 6 h4 _ ["self"] (spFinish 56 C1) := ok_finish B4.F T3 A7.F.kp b7 (A7.m X G) GO B5.M bM5 GM5 B2.M bM2 GM2
  exact ok_law25 A24.F T T2 T3 (PySem.W.mg_of X G aC1) ⟨cmk1, B1.M.1, B1.M.2, ckc1⟩ A14.F.kp b14 (A14.m X G) G14 A18.F.kp b18 (A18.m X G) G18 A19.F.kp b19 (A19.m X G) G19 A15.F.kp b15 (A15.m X G) G15 A23.F.kp b23 (A23.m X G) G23 A22.F.kp b22 (A22.m X G) G22 A10.F.kp b10 (A10.m X G) G10 A11.F.kp b11 (A11.m X G) G11 bM1 GM1 B3.M bM3 GM3 B4.M bM4 GM4
theorem walk {l : PySem.W.OpenLaw} {q : Program} {loose : List Str} {XP : (Str → Option Value) → Heap → Prop} {YP : World → Heap → Prop} {d : DefRec} {K : Params → PySem.W.Frag} (hn : l.most = some 63) (hdf : d.params.defaults = [])
    (hY : ∀ (w : World) (h : Heap), YP w h → (K w.params).In h ∧ h.get? 56 = some (PySem.W.tabObj #[]))
    (F : ∀ (w : World) (mg : Str → Option Value) (fa : Addr) (h : Heap), (K w.params).In h → h.Ns mainGlobals mg → mg d.name = some (.ref fa) →
      ∃ (fd : FuncData) (c : Addr), PySem.W.codeHdIn (K w.params) c 56 = true ∧ (K w.params).lookup 56 = none ∧ (∀ (s : Shared) (u : Value), BindsTo s fd ⟨[u], []⟩ [("script", u)]) ∧ ∀ base : Heap, (K w.params).In base → base.Ns mainGlobals mg → base.BuiltinsAt mg 56 → FnOk l.prog w (K w.params) mg base CX0 7 fa fd ["script"] (spLaw25 (K w.params) 56)) :
    PySem.W.WalkO q loose XP YP l.row.toRowW d [] (fun f vs => PySem.call f vs) :=
  L2.walk_ofT (n := 63) (k := 7) (x := "script") (tb := 56) (CX := fun _ => CX0) (sp := fun w => spLaw25 (K w.params) 56) hn (by decide) hdf ⟨rfl, by decide, by decide⟩ hY F (fun _ _ a ns hl hT hS => ⟨a, ns, rfl, hS, .inl hT, fun _ => rfl⟩) fun _ _ _ _ _ z => z
end T1
open PySem PySem.W PyProof.Rows
local macro_rules | `(tactic| walk_at "own def") => `(tactic| (refine' T1.fk ?k1 ?k2 ?k3 ?k4; (case k1 => k_is); (case k2 => k_is); (case k3 => k_is); (case k4 => k_is)))
local macro_rules | `(tactic| walk_at "own method") => `(tactic| (refine' T1.mkm ?k1 ?k2 ?k3 ?k4 ?k5; (case k1 => k_is); (case k2 => k_is); (case k3 => k_is); (case k4 => k_is); (case k5 => k_is)))
def PySem.W.Fast.tw12744228316104170 : Nat := 0
def PySem.W.Fast.tw636900016562128265 : Nat := 0
def PySem.W.Fast.tw11385389300683854871 : Nat := 0
def PySem.W.Fast.tw7284757766200648987 : Nat := 0
def PySem.W.Fast.tw12838337545587672153 : Nat := 0
def PySem.W.Fast.tw17573977543293283278 : Nat := 0
def PySem.W.Fast.tw1147630797078447234 : Nat := 0
def PySem.W.Fast.tw15260171148082032610 : Nat := 0
def PySem.W.Fast.tw12262721925436761468 : Nat := 0
def PySem.W.Fast.tw11668505315147346991 : Nat := 0
def PySem.W.Fast.tw18080759526359687712 : Nat := 0
def PySem.W.Fast.tw8197721039963600974 : Nat := 0
def PySem.W.Fast.tw9377847244430109872 : Nat := 0
def PySem.W.Fast.tw15884806019432893531 : Nat := 0
def PySem.W.Fast.tw5477500139259399848 : Nat := 0
def PySem.W.Fast.tw8340438609064117672 : Nat := 0
def PySem.W.Fast.tw6494727076363160834 : Nat := 0
def PySem.W.Fast.tw13406709584509732583 : Nat := 0
def PySem.W.Fast.tw12421436927914722226 : Nat := 0
def PySem.W.Fast.tw5452177609261345272 : Nat := 0
def PySem.W.Fast.tw14448662642467284642 : Nat := 0
def PySem.W.Fast.tw1487258997705349310 : Nat := 0
def PySem.W.Fast.tw3480047877480723463 : Nat := 0
def PySem.W.Fast.tw3873588665287418469 : Nat := 0
def PySem.W.Fast.tw1847118327793355265 : Nat := 0
def PySem.W.Fast.tw17049344219455939885 : Nat := 0
def PySem.W.Fast.tw15056248346878038930 : Nat := 0
def PySem.W.Fast.tw9355220734477560293 : Nat := 0
def PySem.W.Fast.tw18402851482661188076 : Nat := 0
def PySem.W.Fast.tw17114321070818422954 : Nat := 0
def PySem.W.Fast.tw5164062084458589794 : Nat := 0
def PySem.W.Fast.tw16993763588731042230 : Nat := 0
def PySem.W.Fast.tw16586771005081463472 : Nat := 0
def PySem.W.Fast.tw14061425937566949156 : Nat := 0
def PySem.W.Fast.tw13928804082260361637 : Nat := 0
def PySem.W.Fast.tw390483533549221476 : Nat := 0
def PySem.W.Fast.tw8094379334484356021 : Nat := 0
def PySem.W.Fast.tw936776518542611806 : Nat := 0
def PySem.W.Fast.tw13022604573523451535 : Nat := 0
def PySem.W.Fast.tw8103517727302735527 : Nat := 0
def PySem.W.Fast.tw8785582890507559857 : Nat := 0
def PySem.W.Fast.tw15338605417923905440 : Nat := 0
def PySem.W.Fast.tw8778309568203804930 : Nat := 0
def PySem.W.Fast.tw4301442396489412828 : Nat := 0
def PySem.W.Fast.tw11904358656654717834 : Nat := 0
def PySem.W.Fast.tw10597027583310420731 : Nat := 0
def PySem.W.Fast.tw8681624216662836741 : Nat := 0
def PySem.W.Fast.tw4008731106069673931 : Nat := 0
def PySem.W.Fast.tw5500141618420689764 : Nat := 0
def PySem.W.Fast.tw16403647522361336245 : Nat := 0
def PySem.W.Fast.tw10404307366389901944 : Nat := 0
def PySem.W.Fast.tw5249846728067369443 : Nat := 0
def PySem.W.Fast.tw5527595112979381389 : Nat := 0
def PySem.W.Fast.tw1266399431062053332 : Nat := 0
def PySem.W.Fast.tw13967401252626775992 : Nat := 0
def PySem.W.Fast.tw6231597416353709607 : Nat := 0
def PySem.W.Fast.tw7464521144363411824 : Nat := 0
def PySem.W.Fast.tw5043894985196444065 : Nat := 0
def PySem.W.Fast.tw10787054482201228669 : Nat := 0
def PySem.W.Fast.tw18097502888519929412 : Nat := 0
def PySem.W.Fast.tw14003601522717475780 : Nat := 0
def PySem.W.Fast.tw5594305087159674864 : Nat := 0
def PySem.W.Fast.tw73747142128471163 : Nat := 0
def PySem.W.Fast.tw13963733998616585700 : Nat := 0
def PySem.W.Fast.tw1043006250559646861 : Nat := 0
set_option maxRecDepth 100000 in
set_option maxHeartbeats 0 in
theorem PySem.Challenge.cw_tonguenest_k25_whole_small_texts_gone_th_holds : PySem.Challenge.rw_tonguenest_k25_whole_small_texts_gone_th.Holds := by
  w_on; o_law; k_head; (case hw => w_witness2)
  k_fill
  refine T1.walk (l := PySem.Challenge.rw_tonguenest_k25_whole_small_texts_gone_th) rfl rfl (fun w h Y => ⟨PySem.W.km_in_of Y, PySem.W.km_tabs_of Y 56 (by simp)⟩) ?F
  case F =>
    intro w mg fa h KX G hmg
    refine' T1.all_mk KX G hmg ?A1 ?A2 ?A3 ?A4 ?A5 ?a6 ?l6 ?c6 ?k6 ?A7 ?A8 ?A9 ?A10 ?A11 ?A12 ?A13 ?A14 ?A15 ?A16 ?A17 ?A18 ?A19 ?A20 ?A21 ?A22 ?A23 ?A24 ?hd ?hp ?aC1 ?B1 ?B2 ?B3 ?B4 ?B5 ?cpg1 ?chd1 ?cpo1 ?csa1 ?cmk1 ?ckc1 ?nA1_1 ?nA1_2 ?nA1_3 ?nA1_4 ?z1 ?z2 ?z3 ?z4 ?z5 ?z6 ?z7 ?z8 ?z9 ?z10 ?z11 ?z12 ?z13 ?z14 ?z15 ?z16 ?z17
    (case A1 => walk_at "own def")
    (case A2 => walk_at "own def")
    (case A3 => walk_at "own def")
    (case A4 => walk_at "own def")
    (case A5 => walk_at "own def")
    (case a6 => k_is)
    (case l6 => k_is)
    (case c6 => k_is)
    (case k6 => k_is)
    (case A7 => walk_at "own def")
    (case A8 => walk_at "own def")
    (case A9 => walk_at "own def")
    (case A10 => walk_at "own def")
    (case A11 => walk_at "own def")
    (case A12 => walk_at "own def")
    (case A13 => walk_at "own def")
    (case A14 => walk_at "own def")
    (case A15 => walk_at "own def")
    (case A16 => walk_at "own def")
    (case A17 => walk_at "own def")
    (case A18 => walk_at "own def")
    (case A19 => walk_at "own def")
    (case A20 => walk_at "own def")
    (case A21 => walk_at "own def")
    (case A22 => walk_at "own def")
    (case A23 => walk_at "own def")
    (case A24 => walk_at "own def")
    (case hd => kernel_rfl)
    (case hp => kernel_rfl)
    (case aC1 => k_is)
    (case B1 => walk_at "own method")
    (case B2 => walk_at "own method")
    (case B3 => walk_at "own method")
    (case B4 => walk_at "own method")
    (case B5 => walk_at "own method")
    (case cpg1 => k_is)
    (case chd1 => k_is)
    (case cpo1 => k_is)
    (case csa1 => k_is)
    (case cmk1 => k_is)
    (case ckc1 => k_is)
    (case nA1_1 => k_is)
    (case nA1_2 => k_is)
    (case nA1_3 => k_is)
    (case nA1_4 => k_is)
    (case z1 => k_is)
    (case z2 => k_is)
    (case z3 => k_is)
    (case z4 => k_is)
    (case z5 => k_is)
    (case z6 => k_is)
    (case z7 => k_is)
    (case z8 => k_is)
    (case z9 => k_is)
    (case z10 => k_is)
    (case z11 => k_is)
    (case z12 => k_is)
    (case z13 => k_is)
    (case z14 => k_is)
    (case z15 => k_is)
    (case z16 => k_is)
    (case z17 => k_is)
