import PyProof.Rows.All
import Wide.All
import OpenK.AllK
import Wide.FinOn
import Lean
import PyProof.EqAt
import PyProof.EqKinds
import PyProof.TupleCall
import PyProof.NeKinds
import KE.KSortKey
import KE.KMinKey
import PyProof.StrBlockG
import PyProof.StrBlockI
import KE.KRevSl
import PyProof.MeetsStr
import KE.KLam
import KE.KNestM
import PyProof.Rows.ZipForRows
import PyProof.Rows.FactsT2
import PyProof.StrOps2
import PyProof.Rows.SumAny
import KE.KDictSum
import PyProof.StrLawsIn
import PyProof.ListMulRoad
import PySem.Challenge.RW_tonguenest_k27_whole_texts_one_behind_an
set_option Elab.async false
set_option linter.all false
set_option maxRecDepth 100000
-- CHANGE: your row's module here, as the last of these rows
namespace L2
open PySem PySem.Spec PyProof.Rows
abbrev Key := Sum Int Str
def keyIs : Key → Value → Bool
  | .inl k, v => Value.isInt k v
  | .inr x, v => Value.isStrOf x v
def keyH (w : World) : Key → Int
  | .inl k => hashInt k
  | .inr x => hashStr w x
theorem keyIs_shape : ∀ {k : Key} {v : Value}, keyIs k v = true → (∃ i t, k = Sum.inl i ∧ v = Value.int i t) ∨ (∃ x t, k = Sum.inr x ∧ v = Value.str x t)
  | .inl i, v, h => by
    obtain ⟨t, e⟩ := Value.isInt_shape (k := i) (v := v) h
    exact .inl ⟨i, t, rfl, e⟩
  | .inr x, v, h => by
    obtain ⟨t, e⟩ := Value.isStrOf_shape (x := x) (v := v) h
    exact .inr ⟨x, t, rfl, e⟩
theorem key_ll (a b : Int) : decide ((Sum.inl a : Key) = Sum.inl b) = (a == b) := by
  by_cases e : a = b
  · subst e; simp
  · have h : ¬ (Sum.inl a : Key) = Sum.inl b := fun q => e (Sum.inl.inj q)
    rw [decide_eq_false h]
    exact (beq_eq_false_iff_ne.mpr e).symm
theorem key_rr (a b : Str) : decide ((Sum.inr a : Key) = Sum.inr b) = decide (a = b) := by
  by_cases e : a = b
  · subst e; simp
  · have h : ¬ (Sum.inr a : Key) = Sum.inr b := fun q => e (Sum.inr.inj q)
    rw [decide_eq_false h, decide_eq_false e]
theorem key_lr (a : Int) (b : Str) : decide ((Sum.inl a : Key) = Sum.inr b) = false := decide_eq_false (fun q => nomatch q)
theorem key_rl (a : Str) (b : Int) : decide ((Sum.inr a : Key) = Sum.inl b) = false := decide_eq_false (fun q => nomatch q)
def mixKind (prog : Program) (w : World) : PySem.KeyKind prog w Key where
  is := keyIs
  hash := keyH w
  inj := fun v a b ha hb => by
    rcases keyIs_shape ha with ⟨i, t, rfl, rfl⟩ | ⟨x, t, rfl, rfl⟩
    · rcases keyIs_shape hb with ⟨j, u, rfl, e⟩ | ⟨y, u, rfl, e⟩
      · injection e with e1 _; rw [e1]
      · exact nomatch e
    · rcases keyIs_shape hb with ⟨j, u, rfl, e⟩ | ⟨y, u, rfl, e⟩
      · exact nomatch e
      · injection e with e1 _; rw [e1]
  byValue := fun k v h => by
    rcases keyIs_shape h with ⟨i, t, rfl, rfl⟩ | ⟨x, t, rfl, rfl⟩ <;> rfl
  pyHash := fun hv h => by
    rcases keyIs_shape hv with ⟨i, t, rfl, rfl⟩ | ⟨x, t, rfl, rfl⟩
    · exact wpAny_pyHash_int h
    · exact wpAny_pyHash_str h
  eqBool := fun hu hv h => by
    rcases keyIs_shape hu with ⟨i, t, rfl, rfl⟩ | ⟨x, t, rfl, rfl⟩
    · rcases keyIs_shape hv with ⟨j, u, rfl, rfl⟩ | ⟨y, u, rfl, rfl⟩
      · rw [key_ll] at h; exact wpAny_eqBool_int h
      · rw [key_lr] at h; exact SeqAt.EqAt.int_str i t y u _ _ _ _ h
    · rcases keyIs_shape hv with ⟨j, u, rfl, rfl⟩ | ⟨y, u, rfl, rfl⟩
      · rw [key_rl] at h; exact SeqAt.EqAt.str_int x t j u _ _ _ _ h
      · rw [key_rr] at h; exact wpAny_eqBool_str h
  «strs» := fun k x t v h => by
    rcases keyIs_shape h with ⟨i, u, rfl, e⟩ | ⟨y, u, rfl, e⟩
    · exact nomatch e
    · injection e with e1 _
      subst e1
      cases v <;> rfl
end L2
namespace L2
open PySem PySem.Spec PyProof.Rows
inductive V where
  | non | bl (b : Bool) | int (i : Int) | str (x : Str) | byt (b : Array UInt8) | flt (b : UInt64) | ref (a : Addr) | ty (n : String)
  deriving DecidableEq
def RelV : V → Value → Prop
  | .non, u => u = Value.none
  | .bl b, u => u = Value.bool b
  | .int i, u => ∃ t, u = Value.int i t
  | .str x, u => ∃ t, u = Value.str x t
  | .byt b, u => ∃ t, u = Value.bytes b t
  | .flt b, u => ∃ t, u = Value.float b t
  | .ref a, u => u = Value.ref a
  | .ty n, u => u = Value.type n
abbrev Vals : List V → List Value → Prop := Paired RelV
theorem Vals.length {xs : List V} {us : List Value} (r : Vals xs us) : xs.length = us.length := Paired.length r
theorem Vals.get : ∀ {xs : List V} {us : List Value} {i : Nat} {x : V}, Vals xs us → xs[i]? = some x → ∃ u, us[i]? = some u ∧ RelV x u
  | _, _, _, _, .nil, e => by simp at e
  | _, _, 0, _, .cons r _, e => by simp at e; subst e; exact ⟨_, rfl, r⟩
  | _, _, i + 1, x, .cons _ t, e => by
    obtain ⟨u, h1, h2⟩ := Vals.get (i := i) (x := x) t (by simpa using e)
    exact ⟨u, by simpa using h1, h2⟩
theorem Vals.set {x : V} {u : Value} (r : RelV x u) : ∀ {xs : List V} {us : List Value} (i : Nat), Vals xs us → Vals (xs.set i x) (us.set i u)
  | _, _, _, .nil => .nil
  | _, _, 0, .cons _ t => .cons r t
  | _, _, i + 1, .cons q t => .cons q (Vals.set r i t)
theorem Vals.append : ∀ {xs ys : List V} {us ws : List Value}, Vals xs us → Vals ys ws → Vals (xs ++ ys) (us ++ ws)
  | _, _, _, _, .nil, s => s
  | _, _, _, _, .cons r t, s => .cons r (Vals.append t s)
theorem Vals.take : ∀ {xs : List V} {us : List Value} (n : Nat), Vals xs us → Vals (xs.take n) (us.take n)
  | _, _, 0, _ => .nil
  | _, _, _ + 1, .nil => .nil
  | _, _, n + 1, .cons r t => .cons r (Vals.take n t)
theorem Vals.drop : ∀ {xs : List V} {us : List Value} (n : Nat), Vals xs us → Vals (xs.drop n) (us.drop n)
  | _, _, 0, r => r
  | _, _, _ + 1, .nil => .nil
  | _, _, n + 1, .cons _ t => Vals.drop n t
def RelO : Option V → Option Value → Prop
  | some v, some u => RelV v u
  | none, none => True
  | _, _ => False
def KV {κ : Type} : List (κ × V) → List (κ × Value) → Prop := Paired fun (p : κ × V) (q : κ × Value) => p.1 = q.1 ∧ RelV p.2 q.2
def kV : Key → V
  | .inl i => .int i
  | .inr x => .str x
inductive HO where
  /-- a list -/
  | lst (xs : List V)
  /-- a tuple (never changes) -/
  | tup (xs : List V)
  /-- a dict whose keys are ints and texts; one whose keys are tuples of ints and texts (the empty one is both) -/
  | dK (kvs : List (Key × V)) | dT (kvs : List (List Key × V))
  /-- a set of ints: its members, its size -/
  | set (S : Int → Bool) (n : Nat)
  /-- an instance of the class at C, its dict at dx, its attributes -/
  | ins (C dx : Addr) (fs : List (Str × V))
  /-- the dict of the instance at x -/
  | own (x : Addr)
  /-- the dict of an exception -/
  | xd (fs : List (Str × V))
  /-- a bound method, f of x -/
  | met (f x : Addr)
  /-- a range object lo, lo + 1, .. below hi -/
  | rng (lo hi : Int)
  /-- a thing that is known to the object (the script; a dict while a loop walks it): read, never written while it is so -/
  | frz (o : Obj) (u : HO)
  /-- a code object's table -/
  | tbl (ps : Array Value)
  /-- any other thing, by what is true of its one object (a def of one's own: SetO a S n := HO.ext fun h => ..) -/
  | ext (φ : Heap → Prop)
abbrev Hp := Addr → Option HO
def upd (H : Hp) (a : Addr) (o : HO) : Hp := fun b => if b = a then some o else H b
theorem upd_same {H : Hp} {a : Addr} {o : HO} : upd H a o a = some o := by unfold upd; rw [if_pos rfl]
theorem upd_ne {H : Hp} {a b : Addr} {o : HO} (h : b ≠ a) : upd H a o b = H b := by unfold upd; rw [if_neg h]
theorem ne_of {H : Hp} {a b : Addr} {o u : HO} (h : H a = some o) (h' : H b = some u) (d : o ≠ u) : a ≠ b := by
  intro e; subst e; rw [h] at h'; exact d (Option.some.inj h')
theorem ne_of_none {H : Hp} {a b : Addr} {o : HO} (h : H a = some o) (h' : H b = none) : a ≠ b := by
  intro e; subst e; rw [h] at h'; cases h'
section
variable (P : Program) (w : World)
def ObjOk (H : Hp) (h : Heap) (a : Addr) : HO → Prop
  | .lst xs => xs.length ≤ sizeLine ∧ ∃ (its : List Value) (n : Nat), Vals xs its ∧ h.get? a = some { cls := .type "list", data := .seq its.toArray n }
  | .tup xs => xs.length ≤ sizeLine ∧ ∃ its : List Value, Vals xs its ∧ IsTup h a its.toArray
  | .dK kvs => kvs.length ≤ sizeLine ∧ (a == sysModules) = false ∧ ∃ vs, KV kvs vs ∧ h.DictOf (mixKind P w) a vs
  | .dT kvs => kvs.length ≤ sizeLine ∧ (a == sysModules) = false ∧ ∃ xs : List (List Key × Addr × Value),
      Paired (fun (p : List Key × V) (q : List Key × Addr × Value) => p.1 = q.1 ∧ H q.2.1 = some (.tup (p.1.map kV)) ∧ RelV p.2 q.2.2) kvs xs ∧
      ∃ o es ep, h.get? a = some o ∧ o.ExactDict ∧ o.data = .dict es ep ∧ es.toList = xs.map (entryOfKey (tupleKind (mixKind P w))) ∧ (xs.map (·.1)).Nodup
  | .set S n => h.SetOf (intKind P w) a S n
  | .ins C dx fs => H dx = some (.own a) ∧ fs.length ≤ 1000 ∧ dx ≠ a ∧ h.get? a = some (PySem.W.instObj C dx) ∧
      ∃ mA, h.Ns1 dx mA ∧ (∀ f, RelO (fs.lookup f) (mA f)) ∧ PySem.Within mA (fs.map (·.1))
  | .own _ => ∃ o, h.get? a = some o
  | .xd fs => ∃ mA, h.Ns1 a mA ∧ ∀ f, RelO (fs.lookup f) (mA f)
  | .rng lo hi => ∃ t u v, h.get? a = some { cls := .type "range", data := .fields #[.int lo t, .int hi u, .int 1 v] }
  | .frz o u => h.get? a = some o ∧ ObjOk H h a u
  | .tbl ps => h.get? a = some { cls := .none, data := .fields ps }
  | .met f x => h.get? a = some (PySem.W.methodObj (.ref f) (.ref x))
  | .ext φ => φ h ∧ (∃ o, h.get? a = some o) ∧ ∀ h1 h2 : Heap, φ h1 → (∀ o, h1.get? a = some o → h2.get? a = some o) → φ h2
def HOk (H : Hp) (h : Heap) : Prop := ∀ a o, H a = some o → ObjOk P w H h a o
end
section
variable {P : Program} {w : World} {H H' : Hp} {h h' : Heap} {a : Addr} {o : HO}
theorem ObjOk.lt (x : ObjOk P w H h a o) : a < h.objs.size := by
  cases o with
  | lst xs => obtain ⟨_, _, _, _, e⟩ := x; exact Heap.lt_size e
  | tup xs => obtain ⟨_, _, _, p⟩ := x; exact p.lt
  | dK kvs => obtain ⟨_, _, _, _, o, _, _, e, _⟩ := x; exact Heap.lt_size e
  | dT kvs => obtain ⟨_, _, _, _, o, _, _, e, _⟩ := x; exact Heap.lt_size e
  | set S n => obtain ⟨o, _, _, _, e, _⟩ := x; exact Heap.lt_size e
  | ins C dx fs => obtain ⟨_, _, _, e, _⟩ := x; exact Heap.lt_size e
  | own y => obtain ⟨_, e⟩ := x; exact Heap.lt_size e
  | xd fs => obtain ⟨_, ⟨_, _, _, e, _⟩, _⟩ := x; exact Heap.lt_size e
  | rng lo hi => obtain ⟨_, _, _, e⟩ := x; exact Heap.lt_size e
  | frz ob u => obtain ⟨e, _⟩ := x; exact Heap.lt_size e
  | tbl ps => exact Heap.lt_size (show h.get? a = some _ from x)
  | met f y => exact Heap.lt_size (show h.get? a = some _ from x)
  | ext φ => obtain ⟨_, ⟨_, e⟩, _⟩ := x; exact Heap.lt_size e
theorem Paired.mapP {α β : Type} {F G : α → β → Prop} : ∀ {l₁ : List α} {l₂ : List β}, Paired F l₁ l₂ → (∀ a b, F a b → G a b) → Paired G l₁ l₂
  | _, _, .nil, _ => .nil
  | _, _, .cons r t, f => .cons (f _ _ r) (Paired.mapP t f)
theorem ObjOk.stay (x : ObjOk P w H h a o) (k : ∀ b u, (b = a ∨ H b = some (.own a)) → h.get? b = some u → h'.get? b = some u)
    (ho : ∀ b, H b = some (.own a) → H' b = some (.own a)) (ht : ∀ b xs, H b = some (.tup xs) → H' b = some (.tup xs)) : ObjOk P w H' h' a o := by
  induction o with
  | lst xs => obtain ⟨z, its, n, r, e⟩ := x; exact ⟨z, its, n, r, k _ _ (.inl rfl) e⟩
  | tup xs => obtain ⟨z, its, r, ob, e, c⟩ := x; exact ⟨z, its, r, ob, k _ _ (.inl rfl) e, c⟩
  | dK kvs => obtain ⟨z, y, vs, r, ob, es, ep, e, c⟩ := x; exact ⟨z, y, vs, r, ob, es, ep, k _ _ (.inl rfl) e, c⟩
  | dT kvs =>
    obtain ⟨z, y, xs, r, ob, es, ep, e, c⟩ := x
    exact ⟨z, y, xs, Paired.mapP r fun p q z => ⟨z.1, ht _ _ z.2.1, z.2.2⟩, ob, es, ep, k _ _ (.inl rfl) e, c⟩
  | set S n => obtain ⟨ob, es, ep, t, e, c⟩ := x; exact ⟨ob, es, ep, t, k _ _ (.inl rfl) e, c⟩
  | ins C dx fs =>
    obtain ⟨d, z, ne, e, mA, ⟨od, es, ep, e2, c⟩, r⟩ := x
    exact ⟨ho _ d, z, ne, k _ _ (.inl rfl) e, mA, ⟨od, es, ep, k _ _ (.inr d) e2, c⟩, r⟩
  | own y => obtain ⟨ob, e⟩ := x; exact ⟨ob, k _ _ (.inl rfl) e⟩
  | xd fs => obtain ⟨mA, ⟨od, es, ep, e, c⟩, r⟩ := x; exact ⟨mA, ⟨od, es, ep, k _ _ (.inl rfl) e, c⟩, r⟩
  | rng lo hi => obtain ⟨t, u, v, e⟩ := x; exact ⟨t, u, v, k _ _ (.inl rfl) e⟩
  | frz ob u ih => obtain ⟨e, q⟩ := x; exact ⟨k _ _ (.inl rfl) e, ih q⟩
  | tbl ps =>
    have e : h.get? a = some { cls := .none, data := .fields ps } := x
    show h'.get? a = some { cls := .none, data := .fields ps }
    exact k a _ (.inl rfl) e
  | met f y =>
    have e : h.get? a = some (PySem.W.methodObj (.ref f) (.ref y)) := x
    show h'.get? a = some (PySem.W.methodObj (.ref f) (.ref y))
    exact k a _ (.inl rfl) e
  | ext φ => obtain ⟨p, ⟨o, e⟩, st⟩ := x; exact ⟨st _ _ p fun o q => k _ _ (.inl rfl) q, ⟨o, k _ _ (.inl rfl) e⟩, st⟩
theorem HOk.lt (x : HOk P w H h) (e : H a = some o) : a < h.objs.size := (x a o e).lt
theorem HOk.fresh (x : HOk P w H h) (e : h.objs.size ≤ a) : H a = none := by
  cases q : H a with
  | none => rfl
  | some u => exact absurd (Nat.lt_of_lt_of_le (x.lt q) e) (Nat.lt_irrefl _)
theorem HOk.kept (x : HOk P w H h) (k : ∀ b u, h.get? b = some u → h'.get? b = some u) : HOk P w H h' := fun a o e =>
  (x a o e).stay (fun b u _ q => k b u q) (fun _ q => q) fun _ _ q => q
theorem HOk.laid (x : HOk P w H h) (k : ∀ b u, h.get? b = some u → h'.get? b = some u) (hp : h.objs.size ≤ a) (new : ObjOk P w (upd H a o) h' a o) : HOk P w (upd H a o) h' := fun b u e => by
  have hn := x.fresh hp
  by_cases hb : b = a
  · subst hb; rw [upd_same] at e; cases e; exact new
  · rw [upd_ne hb] at e
    exact (x b u e).stay (fun c v _ q => k c v q) (fun c q => by rw [upd_ne (ne_of_none q hn)]; exact q) fun c xs q => by rw [upd_ne (ne_of_none q hn)]; exact q
end
def Rd (H : Hp) (a : Addr) (u : HO) : Prop := H a = some u ∨ ∃ o, H a = some (.frz o u)
theorem Rd.ok {P : Program} {w : World} {H : Hp} {h : Heap} {a : Addr} {u : HO} (r : Rd H a u) (x : HOk P w H h) : ObjOk P w H h a u := by
  rcases r with r | ⟨o, r⟩
  · exact x a u r
  · obtain ⟨_, q⟩ := x a _ r
    exact q
def Mut : Option HO → Prop
  | some (.lst _) => True
  | some (.dK _) => True
  | some (.dT _) => True
  | some (.set _ _) => True
  | some (.ins _ _ _) => True
  | some (.ext _) => True
  | _ => False
section
variable {P : Program} {w : World} {H : Hp} {h h' : Heap} {x e : Addr} {o' : HO}
theorem HOk.write (ok : HOk P w H h) (mu : Mut (H x)) (he : e = x ∨ H e = some (.own x)) (k : ∀ b u, b ≠ e → h.get? b = some u → h'.get? b = some u) (heo : ∃ u, h'.get? e = some u)
    (new : ObjOk P w (upd H x o') h' x o') : HOk P w (upd H x o') h' := fun b u q => by
  have nown : ∀ c y, H c = some (.own y) → c ≠ x := fun c y r z => by subst z; rw [r] at mu; exact mu
  have ntup : ∀ c xs, H c = some (.tup xs) → c ≠ x := fun c xs r z => by subst z; rw [r] at mu; exact mu
  by_cases hb : b = x
  · subst hb; rw [upd_same] at q; cases q; exact new
  · rw [upd_ne hb] at q
    by_cases hbe : b = e
    · have q' : H b = some (.own x) := by
        rcases he with z | z
        · exact absurd (hbe.trans z) hb
        · rw [hbe]; exact z
      rw [q] at q'; cases q'
      obtain ⟨v, hv⟩ := heo
      exact ⟨v, by rw [hbe]; exact hv⟩
    · refine (ok b u q).stay (fun c v hc r => k c v ?_ r) (fun c r => by rw [upd_ne (nown c b r)]; exact r) fun c xs r => by rw [upd_ne (ntup c xs r)]; exact r
      rcases hc with rfl | hc
      · exact hbe
      · rintro rfl
        rcases he with z | z
        · exact nown c b hc z
        · rw [hc] at z; cases z; exact hb rfl
end
structure Un (fs ex : List Addr) (H H' : Hp) (h h' : Heap) : Prop where
  keep : ∀ b o, h.get? b = some o → H b = none → b ∉ fs → b ∉ ex → h'.get? b = some o
  slot : ∀ b o, h.get? b = some o → H b = none → b ∈ fs → b ∉ ex → ∃ sl, h'.get? b = some { o with slots := sl }
  free : ∀ b o, h.get? b = some o → H b = none → b ∉ ex → H' b = none
  there : ∀ b o, h.get? b = some o → b ∉ ex → ∃ o', h'.get? b = some o'
  tups : ∀ b xs, H b = some (.tup xs) → H' b = some (.tup xs)
  frzs : ∀ b o u, H b = some (.frz o u) → H' b = some (.frz o u)
  tbls : ∀ b ps, H b = some (.tbl ps) → ∃ more, H' b = some (.tbl (ps ++ more))
section
variable {fs fs' ex ex' : List Addr} {H H1 H2 : Hp} {h h1 h2 h' : Heap} {a x e : Addr} {o : HO}
theorem Un.any (u : Un fs ex H H1 h h1) {b : Addr} {ob : Obj} (q : h.get? b = some ob) (n : H b = none) (hx : b ∉ ex) : ∃ sl, h1.get? b = some { ob with slots := sl } := by
  by_cases hb : b ∈ fs
  · exact u.slot b ob q n hb hx
  · exact ⟨ob.slots, u.keep b ob q n hb hx⟩
theorem Un.kept (k : ∀ b u, h.get? b = some u → h'.get? b = some u) : Un fs ex H H h h' :=
  ⟨fun b ob q _ _ _ => k b ob q, fun b ob q _ _ _ => ⟨ob.slots, k b ob q⟩, fun _ _ _ n _ => n, fun b ob q _ => ⟨ob, k b ob q⟩, fun _ _ q => q, fun _ _ _ q => q, fun _ ps q => ⟨#[], by rw [q]; simp⟩⟩
theorem Un.refl : Un fs ex H H h h := Un.kept fun _ _ q => q
theorem Un.laid (k : ∀ b u, h.get? b = some u → h'.get? b = some u) (hp : h.objs.size ≤ a) (hn : H a = none) : Un fs ex H (upd H a o) h h' where
  keep := fun b u q _ _ _ => k b u q
  slot := fun b u q _ _ _ => ⟨u.slots, k b u q⟩
  free := fun b u q n _ => by rw [upd_ne (Nat.ne_of_lt (Nat.lt_of_lt_of_le (Heap.lt_size q) hp))]; exact n
  there := fun b u q _ => ⟨u, k b u q⟩
  tups := fun b xs q => by rw [upd_ne (ne_of_none q hn)]; exact q
  frzs := fun b u xs q => by rw [upd_ne (ne_of_none q hn)]; exact q
  tbls := fun b ps q => ⟨#[], by rw [upd_ne (ne_of_none q hn), q]; simp⟩
theorem Un.write (mu : Mut (H x)) (he : e = x ∨ H e = some (.own x)) (k : ∀ b u, b ≠ e → h.get? b = some u → h'.get? b = some u) (heo : ∃ u, h'.get? e = some u) : Un fs ex H (upd H x o) h h' := by
  have hx : ∀ b, H b = none → b ≠ x := fun b n z => by subst z; rw [n] at mu; exact mu
  have hb : ∀ b, H b = none → b ≠ e := fun b n z => by
    subst z
    rcases he with r | r
    · exact hx b n r
    · rw [n] at r; cases r
  have hm : ∀ b u, H b = some u → ¬ Mut (some u) → b ≠ x := fun b u q nm z => by subst z; rw [q] at mu; exact nm mu
  refine ⟨fun b u q n _ _ => k b u (hb b n) q, fun b u q n _ _ => ⟨u.slots, k b u (hb b n) q⟩, fun b u q n _ => by rw [upd_ne (hx b n)]; exact n, fun b u q _ => ?_,
    fun b xs q => by rw [upd_ne (hm b _ q fun z => z)]; exact q, fun b u xs q => by rw [upd_ne (hm b _ q fun z => z)]; exact q, fun b ps q => ⟨#[], by rw [upd_ne (hm b _ q fun z => z), q]; simp⟩⟩
  by_cases hbe : b = e
  · subst hbe; exact heo
  · exact ⟨u, k b u hbe q⟩
end
def trk (h : Heap) (H : Hp) : List Addr := (List.range h.objs.size).filter fun a => (H a).isSome
def hidT (h : Heap) (H : Hp) : Heap := PySem.W.hideAll h (trk h H)
theorem hidT_size (h : Heap) (H : Hp) : (hidT h H).objs.size = h.objs.size := PySem.W.hideAll_size _ _
theorem hidT_get {h : Heap} {H : Hp} {b : Addr} {o : Obj} (e : h.get? b = some o) (n : H b = none) : (hidT h H).get? b = some o :=
  PySem.W.hideAll_get _ e fun hm => by
    have q : (H b).isSome = true := (List.mem_filter.mp hm).2
    rw [n] at q; simp at q
theorem of_hidT {h : Heap} {H : Hp} {b : Addr} {o : Obj} (e : (hidT h H).get? b = some o) : h.get? b = some o ∧ H b = none := by
  have e' : h.get? b = some o := PySem.W.of_hideAll (trk h H) e
  refine ⟨e', ?_⟩
  cases q : H b with
  | none => rfl
  | some x =>
    have hm : b ∈ trk h H := List.mem_filter.mpr ⟨List.mem_range.mpr (Heap.lt_size e'), by simp [q]⟩
    have z : (hidT h H).get? b = none := PySem.W.hideAll_none (trk h H) hm
    rw [z] at e; cases e
end L2
namespace L2
open PySem PySem.Spec PyProof.Rows
structure Mod (K : PySem.W.Frag) (mg : Str → Option Value) (base : Heap) : Prop where
  kin : K.In base
  glob : base.Ns mainGlobals mg
  blt : ∃ mb, base.Ns builtinsNs mb ∧ ∀ x : Str, x ≠ "__name__" → mb x = bootBuiltins x
  nolimit : base.NoLimit
structure Cx where
  prog : Program
  w : World
  K : PySem.W.Frag
  mg : Str → Option Value
  base : Heap
  A : Around
  N : List Str
  s₀ : Shared
  H₀ : Hp
  env : Env
  outer : List Env
  stack : List Env
  ex : List Addr
  fn : Str → Bool
  calm : Bool
  pn : List (Addr × Obj)
  xe : Value → Shared → Prop
def frs (l : List Env) : List Addr := l.filterMap (·.frame)
abbrev Cx.fs (X : Cx) : List Addr := frs X.outer
def Vis (sc : Scope) (x : Str) : Prop := sc.names.lookup x = some .local ∨ sc.names.lookup x = some .cell ∨ sc.names.lookup x = some .free
def Loc (sc : Scope) (x : Str) : Prop := sc.names.lookup x = some .local ∨ sc.names.lookup x = some .cell
def Look (env : Env) (h : Heap) (m : Str → Option Value) (x : Str) (u : Value) : Prop :=
  (env.kindOf x = some .local ∧ m x = some u) ∨ ((env.kindOf x = some .cell ∨ env.kindOf x = some .free) ∧ ∃ c, env.cells.lookup x = some c ∧ h.IsCell c (some u))
structure Cx.Ok (X : Cx) : Prop where
  mod : Mod X.K X.mg X.base
  kind : X.env.scope.kind = .function
  glob : X.env.globals = mainGlobals
  blt : X.env.builtins = builtinsNs
  above : X.s₀.heap.objs.size ≤ X.env.locals
  inj : ∀ x y c, X.env.cells.lookup x = some c → X.env.cells.lookup y = some c → x = y
  has : ∀ x, (X.env.kindOf x = some .cell ∨ X.env.kindOf x = some .free) → ∃ c, X.env.cells.lookup x = some c
  cab : ∀ x c, X.fn x = true → X.env.cells.lookup x = some c → X.s₀.heap.objs.size ≤ c
  hd : X.calm = true → X.A.handled = none
  frames : X.A.frames = some X.stack
  stk : X.stack = X.outer ∨ (X.stack = X.env :: X.outer ∧ X.env.frame = some X.env.locals)
  exf : ∀ b ∈ X.ex, b ≠ X.env.locals ∧ ∀ x c, X.env.cells.lookup x = some c → c ≠ b
  bs : ∀ b o, X.base.get? b = some o → X.s₀.heap.get? b = some o ∧ X.H₀ b = none
  bsz : X.base.objs.size ≤ X.s₀.heap.objs.size
  noex : ∀ b o, X.base.get? b = some o → b ∉ X.ex
  exfs : ∀ b ∈ X.ex, b ∉ X.fs
  funs : X.s₀.heap.FunFrames X.base X.outer
  frf : ∀ b ∈ X.fs, X.H₀ b = none
structure Inv (X : Cx) (pins : List (Addr × Obj)) (σ : List (Option V)) (H : Hp) (s : Shared) : Prop where
  ok : X.Ok
  os : s.os = X.s₀.os
  bare : AllBare s.gens
  base : Un X.fs X.ex X.H₀ H X.s₀.heap s.heap
  loc : ∃ m, s.heap.Ns X.env.locals m ∧ ∀ (i : Nat) (x : Str) (v : V), X.N[i]? = some x → σ[i]? = some (some v) → Vis X.env.scope x → ∃ u, RelV v u ∧ Look X.env s.heap m x u
  cell : ∀ x c, X.env.cells.lookup x = some c → ∃ v, s.heap.IsCell c v
  free : H X.env.locals = none
  freeC : ∀ x c, X.env.cells.lookup x = some c → H c = none
  pin : ∀ p ∈ X.pn ++ pins, s.heap.get? p.1 = some p.2 ∧ H p.1 = none ∧ p.1 ≠ X.env.locals ∧ p.1 ∉ X.fs ∧ ∀ v, p.2.data ≠ .cell v
  hok : HOk X.prog X.w H s.heap
  len : σ.length = X.N.length
section
variable {X : Cx} {pins : List (Addr × Obj)} {σ : List (Option V)} {H H' : Hp} {s : Shared} {h' : Heap}
theorem Cx.Ok.nofr (ok : X.Ok) {b : Addr} {o : Obj} (e : X.base.get? b = some o) : b ∉ X.fs := fun hb => by
  have := (ok.funs.mem hb).1
  rw [e] at this; cases this
theorem Inv.bs (I : Inv X pins σ H s) : ∀ b o, X.base.get? b = some o → s.heap.get? b = some o ∧ H b = none := fun b o e =>
  ⟨I.base.keep b o (I.ok.bs b o e).1 (I.ok.bs b o e).2 (I.ok.nofr e) (I.ok.noex b o e), I.base.free b o (I.ok.bs b o e).1 (I.ok.bs b o e).2 (I.ok.noex b o e)⟩
theorem Inv.bk (I : Inv X pins σ H s) : ∀ b o, X.base.get? b = some o → s.heap.get? b = some o := fun b o e => (I.bs b o e).1
theorem Inv.mod (I : Inv X pins σ H s) : Mod X.K X.mg X.base := I.ok.mod
theorem Inv.kIn (I : Inv X pins σ H s) : X.K.In s.heap := I.ok.mod.kin.keeps I.bk
theorem Inv.lt (I : Inv X pins σ H s) : X.env.locals < s.heap.objs.size := let ⟨_, hn, _⟩ := I.loc; hn.lt
theorem Inv.sz (I : Inv X pins σ H s) : X.s₀.heap.objs.size ≤ s.heap.objs.size := Nat.le_trans I.ok.above (Nat.le_of_lt I.lt)
theorem Inv.nofs (I : Inv X pins σ H s) {a : Addr} (h : s.heap.objs.size ≤ a) : a ∉ X.fs := fun hb => by
  obtain ⟨_, o, ho, _⟩ := I.ok.funs.mem hb
  exact absurd (Nat.lt_of_lt_of_le (Heap.lt_size ho) (Nat.le_trans I.sz h)) (Nat.lt_irrefl _)
theorem Inv.cne (I : Inv X pins σ H s) : ∀ x c, X.env.cells.lookup x = some c → c ≠ X.env.locals := fun x c e z => by
  obtain ⟨v, o, ho, hd⟩ := I.cell x c e
  obtain ⟨m, ⟨o', es, ep, ho', hd', _⟩, _⟩ := I.loc
  rw [z, ho'] at ho; cases ho; rw [hd'] at hd; cases hd
theorem Inv.funs (I : Inv X pins σ H s) : s.heap.FunFrames X.base X.outer := by
  have all : ∀ (l : List Env), (∀ b ∈ frs l, b ∈ X.fs) → X.s₀.heap.FunFrames X.base l → s.heap.FunFrames X.base l := by
    intro l
    induction l with
    | nil => intro _ _; trivial
    | cons env r ih =>
      intro hs hl
      obtain ⟨hk, ⟨L, o, hf, hn, ho, hd⟩, hr⟩ := hl
      have hL : L ∈ X.fs := hs L (by unfold frs; rw [List.filterMap_cons, hf]; exact List.mem_cons_self)
      obtain ⟨sl, e⟩ := I.base.slot L o ho (I.ok.frf L hL) hL fun z => I.ok.exfs L z hL
      exact ⟨hk, ⟨L, _, hf, hn, e, hd⟩, ih (fun b hb => hs b (by unfold frs; rw [List.filterMap_cons, hf]; exact List.mem_cons_of_mem _ hb)) hr⟩
  exact all X.outer (fun _ hb => hb) I.ok.funs
theorem Inv.stack (I : Inv X pins σ H s) : s.heap.FunFrames X.base X.stack := by
  rcases I.ok.stk with e | ⟨e, hf⟩
  · rw [e]; exact I.funs
  · rw [e]
    obtain ⟨m, hn, _⟩ := I.loc
    refine .cons (by rw [I.ok.kind]; decide) hf hn ?_ I.funs
    exact Heap.get?_none_of_le (Nat.le_trans I.ok.bsz I.ok.above)
theorem Inv.stkSub (I : Inv X pins σ H s) : ∀ b ∈ frs X.stack, b ∈ X.env.locals :: X.fs := fun b hb => by
  rcases I.ok.stk with e | ⟨e, hf⟩
  · rw [e] at hb; exact List.mem_cons_of_mem _ hb
  · rw [e] at hb
    unfold frs at hb
    rw [List.filterMap_cons, hf] at hb
    exact hb
theorem Inv.stkFree (I : Inv X pins σ H s) : ∀ b ∈ frs X.stack, H b = none := fun b hb => by
  rcases List.mem_cons.mp (I.stkSub b hb) with e | hb
  · rw [e]; exact I.free
  · obtain ⟨_, o, ho, _⟩ := I.ok.funs.mem hb
    exact I.base.free b o ho (I.ok.frf b hb) fun z => I.ok.exfs b z hb
theorem Inv.step {g' : Array GenState} {t' : Nat} {d' : Drawn} {ch : List Addr} (I : Inv X pins σ H s)
    (hch : ∀ b ∈ ch, (b ∈ X.ex ∨ X.s₀.heap.objs.size ≤ b) ∧ b ≠ X.env.locals ∧ (∀ x c, X.env.cells.lookup x = some c → c ≠ b) ∧ ∀ p ∈ X.pn ++ pins, p.1 ≠ b)
    (keep : ∀ b o, b ≠ X.env.locals → b ∉ X.fs → b ∉ ch → s.heap.get? b = some o → H b = none → h'.get? b = some o)
    (slot : ∀ b o, b ≠ X.env.locals → b ∈ X.fs → b ∉ ch → s.heap.get? b = some o → H b = none → ∃ sl, h'.get? b = some { o with slots := sl }) (free : ∀ b o, b ∉ ch → s.heap.get? b = some o → H b = none → H' b = none)
    (there : ∀ b o, b ∉ ch → s.heap.get? b = some o → ∃ o', h'.get? b = some o')
    (tups : ∀ b xs, H b = some (.tup xs) → H' b = some (.tup xs)) (frzs : ∀ b o u, H b = some (.frz o u) → H' b = some (.frz o u)) (tbls : ∀ b ps, H b = some (.tbl ps) → ∃ more, H' b = some (.tbl (ps ++ more)))
    (ns : ∀ m, s.heap.Ns X.env.locals m → h'.Ns X.env.locals m) (hok : HOk X.prog X.w H' h') (hg : AllBare g') :
    Inv X pins σ H' { s with heap := h', gens := g', drawn := d', toks := t' } := by
  have neL : ∀ b o, X.s₀.heap.get? b = some o → b ≠ X.env.locals := fun b o e => Nat.ne_of_lt (Nat.lt_of_lt_of_le (Heap.lt_size e) I.ok.above)
  have neC : ∀ b o, X.s₀.heap.get? b = some o → b ∉ X.ex → b ∉ ch := fun b o e hx hb => by
    rcases (hch b hb).1 with z | z
    · exact hx z
    · exact absurd (Nat.lt_of_lt_of_le (Heap.lt_size e) z) (Nat.lt_irrefl _)
  have cellK : ∀ x c, X.env.cells.lookup x = some c → ∀ v, s.heap.IsCell c v → h'.IsCell c v := fun x c e v ⟨o, ho, hd⟩ => by
    have nch : c ∉ ch := fun z => (hch c z).2.2.1 x c e rfl
    by_cases hc : c ∈ X.fs
    · obtain ⟨sl, q⟩ := slot c o (I.cne x c e) hc nch ho (I.freeC x c e)
      exact ⟨_, q, hd⟩
    · exact ⟨o, keep c o (I.cne x c e) hc nch ho (I.freeC x c e), hd⟩
  refine ⟨I.ok, I.os, hg, ⟨fun b o e n hb hx => ?_, fun b o e n hb hx => ?_, fun b o e n hx => ?_, fun b o e hx => ?_, fun b xs e => tups b xs (I.base.tups b xs e), fun b o xs e => frzs b o xs (I.base.frzs b o xs e), fun b ps e => ?_⟩, ?_, fun x c e => ?_, ?_, fun x c e => ?_, fun p hp => ?_, hok, I.len⟩
  · exact keep b o (neL b o e) hb (neC b o e hx) (I.base.keep b o e n hb hx) (I.base.free b o e n hx)
  · obtain ⟨sl, e1⟩ := I.base.slot b o e n hb hx
    obtain ⟨sl', e2⟩ := slot b _ (neL b o e) hb (neC b o e hx) e1 (I.base.free b o e n hx)
    exact ⟨sl', e2⟩
  · obtain ⟨o', e1⟩ := I.base.there b o e hx
    exact free b o' (neC b o e hx) e1 (I.base.free b o e n hx)
  · obtain ⟨o', e1⟩ := I.base.there b o e hx
    exact there b o' (neC b o e hx) e1
  · obtain ⟨m1, e1⟩ := I.base.tbls b ps e
    obtain ⟨m2, e2⟩ := tbls b _ e1
    exact ⟨m1 ++ m2, by rw [e2, Array.append_assoc]⟩
  · obtain ⟨m, hn, hl⟩ := I.loc
    refine ⟨m, ns m hn, fun i x v e1 e2 e3 => ?_⟩
    obtain ⟨u, r, l⟩ := hl i x v e1 e2 e3
    refine ⟨u, r, ?_⟩
    rcases l with l | ⟨k, c, e, z⟩
    · exact .inl l
    · exact .inr ⟨k, c, e, cellK x c e _ z⟩
  · obtain ⟨v, z⟩ := I.cell x c e
    exact ⟨v, cellK x c e v z⟩
  · obtain ⟨m, ⟨o, _, _, ho, _⟩, _⟩ := I.loc
    exact free _ o (fun z => (hch _ z).2.1 rfl) ho I.free
  · obtain ⟨v, o, ho, hd⟩ := I.cell x c e
    exact free c o (fun z => (hch c z).2.2.1 x c e rfl) ho (I.freeC x c e)
  · obtain ⟨e, n, ne, nf, d⟩ := I.pin p hp
    have nch : p.1 ∉ ch := fun z => (hch p.1 z).2.2.2 p hp rfl
    exact ⟨keep p.1 p.2 ne nf nch e n, free p.1 p.2 nch e n, ne, nf, d⟩
theorem Inv.un {t' : Nat} (I : Inv X pins σ H s) (u : Un X.fs [] H H' s.heap h') (hok : HOk X.prog X.w H' h') : Inv X pins σ H' { s with heap := h', toks := t' } := by
  obtain ⟨m, ⟨o, es, ep, ho, r⟩, _⟩ := id I.loc
  obtain ⟨sl, hL⟩ := u.any ho I.free (by simp)
  exact I.step (g' := s.gens) (d' := s.drawn) (ch := []) (fun _ z => nomatch z) (fun b o _ hb _ e n => u.keep b o e n hb (by simp)) (fun b o _ hb _ e n => u.slot b o e n hb (by simp)) (fun b o _ e n => u.free b o e n (by simp)) (fun b o _ e => u.there b o e (by simp)) u.tups u.frzs u.tbls (fun m' hm => by
    obtain ⟨o', es', ep', ho', r'⟩ := hm
    rw [ho] at ho'; cases ho'
    exact ⟨_, es', ep', hL, r'⟩) hok I.bare
theorem Inv.call {g' : Array GenState} {t' : Nat} {d' : Drawn} {ch : List Addr} (I : Inv X pins σ H s) (u : Un (frs X.stack) ch H H' s.heap h') (hok : HOk X.prog X.w H' h') (hg : AllBare g')
    (hch : ∀ b ∈ ch, (b ∈ X.ex ∨ X.s₀.heap.objs.size ≤ b) ∧ b ≠ X.env.locals ∧ (∀ x c, X.env.cells.lookup x = some c → c ≠ b) ∧ ∀ p ∈ X.pn ++ pins, p.1 ≠ b) :
    Inv X pins σ H' { s with heap := h', gens := g', drawn := d', toks := t' } := by
  obtain ⟨m, ⟨o, es, ep, ho, r⟩, _⟩ := id I.loc
  obtain ⟨sl, hL⟩ := u.any ho I.free fun z => (hch _ z).2.1 rfl
  exact I.step (ch := ch) hch (fun b o hL hb hc e n => u.keep b o e n (fun z => (List.mem_cons.mp (I.stkSub b z)).elim hL hb) hc) (fun b o _ _ hc e n => u.any e n hc) (fun b o hc e n => u.free b o e n hc) (fun b o hc e => u.there b o e hc) u.tups u.frzs u.tbls (fun m' hm => by
    obtain ⟨o', es', ep', ho', r'⟩ := hm
    rw [ho] at ho'; cases ho'
    exact ⟨_, es', ep', hL, r'⟩) hok hg
theorem Inv.turned {t' : Nat} {it : Addr} (I : Inv X pins σ H s) (k : ∀ b o, b ≠ it → s.heap.get? b = some o → h'.get? b = some o) (hn : H it = none) (hL : it ≠ X.env.locals)
    (h1 : it ∈ X.ex ∨ X.s₀.heap.objs.size ≤ it) (h2 : ∀ x c, X.env.cells.lookup x = some c → c ≠ it) (h3 : ∀ p ∈ X.pn ++ pins, p.1 ≠ it) : Inv X pins σ H { s with heap := h', toks := t' } := by
  have nit : ∀ b u, H b = some u → b ≠ it := fun b u e z => by rw [z, hn] at e; cases e
  refine I.step (g' := s.gens) (d' := s.drawn) (ch := [it]) (fun b hb => ?_) (fun b o _ _ hc e _ => k b o (fun z => hc (by simp [z])) e) (fun b o _ _ hc e _ => ⟨o.slots, k b o (fun z => hc (by simp [z])) e⟩) (fun _ _ _ _ n => n)
    (fun b o hc e => ⟨o, k b o (fun z => hc (by simp [z])) e⟩) (fun _ _ e => e) (fun _ _ _ e => e) (fun b ps e => ⟨#[], by rw [e]; simp⟩) (fun m hm => ?_) (fun b u e => ?_) I.bare
  · have e : b = it := by simpa using hb
    subst e
    exact ⟨h1, hL, h2, h3⟩
  · obtain ⟨o, es, ep, ho, r⟩ := hm
    exact ⟨o, es, ep, k _ o (Ne.symm hL) ho, r⟩
  · refine (I.hok b u e).stay (fun c v hc q => k c v ?_ q) (fun _ q => q) fun _ _ q => q
    rcases hc with z | z
    · rw [z]; exact nit b u e
    · exact nit c _ z
theorem Inv.tok (I : Inv X pins σ H s) (t : Nat) : Inv X pins σ H { s with toks := t } := I.un (h' := s.heap) (t' := t) Un.refl I.hok
theorem Inv.kept {t' : Nat} (I : Inv X pins σ H s) (k : ∀ b u, s.heap.get? b = some u → h'.get? b = some u) : Inv X pins σ H { s with heap := h', toks := t' } := I.un (Un.kept k) (I.hok.kept k)
theorem Inv.laid {a : Addr} {o : HO} {t' : Nat} (I : Inv X pins σ H s) (k : ∀ b u, s.heap.get? b = some u → h'.get? b = some u) (hp : s.heap.objs.size ≤ a) (new : ObjOk X.prog X.w (upd H a o) h' a o) :
    Inv X pins σ (upd H a o) { s with heap := h', toks := t' } := I.un (Un.laid k hp (I.hok.fresh hp)) (I.hok.laid k hp new)
theorem Inv.write {x e : Addr} {o : HO} {t' : Nat} (I : Inv X pins σ H s) (mu : Mut (H x)) (he : e = x ∨ H e = some (.own x)) (k : ∀ b u, b ≠ e → s.heap.get? b = some u → h'.get? b = some u) (heo : ∃ u, h'.get? e = some u)
    (new : ObjOk X.prog X.w (upd H x o) h' x o) : Inv X pins σ (upd H x o) { s with heap := h', toks := t' } := I.un (Un.write mu he k heo) (I.hok.write mu he k heo new)
theorem Inv.pins_of {pins' : List (Addr × Obj)} (I : Inv X pins σ H s) (h : ∀ p ∈ pins', s.heap.get? p.1 = some p.2 ∧ H p.1 = none ∧ p.1 ≠ X.env.locals ∧ p.1 ∉ X.fs ∧ ∀ v, p.2.data ≠ .cell v) : Inv X pins' σ H s :=
  ⟨I.ok, I.os, I.bare, I.base, I.loc, I.cell, I.free, I.freeC, fun p hp => (List.mem_append.mp hp).elim (fun z => I.pin p (List.mem_append_left _ z)) (h p), I.hok, I.len⟩
theorem nodup_ix {N : List Str} (hN : N.Nodup) {i j : Nat} {x : Str} (a : N[i]? = some x) (b : N[j]? = some x) : i = j := by
  obtain ⟨h1, e1⟩ := List.getElem?_eq_some_iff.mp a
  obtain ⟨h2, e2⟩ := List.getElem?_eq_some_iff.mp b
  exact (List.getElem_inj hN).mp (e1.trans e2.symm)
theorem store_ok2 {M : Model} {A : Around} {E : Value → Shared → Prop} {i : Nat} {x : Str} {v : V} {u : Value} {Q : Unit → Shared → Prop} (I : Inv X pins σ H s) (hN : X.N.Nodup) (hi : X.N[i]? = some x) (hx : Loc X.env.scope x) (r : RelV v u)
    (h : ∀ s', Inv X pins (σ.set i (some v)) H s' → (∃ a, Heap.SameBut a s.heap s'.heap ∧ (a = X.env.locals ∨ X.env.cells.lookup x = some a)) → Q () s') (hf : X.fn x = true ∨ X.env.scope.names.lookup x = some .local := by first | exact .inl rfl | exact .inr rfl | assumption) : wpAny M A (storeName X.env x u) Q E s := by
  obtain ⟨m, hn, hl⟩ := id I.loc
  have hcls : (X.env.scope.kind == .class || (X.env.scope.kind == .module && X.env.locals != X.env.globals)) = false := by rw [I.ok.kind]; rfl
  have hiσ : i < σ.length := by rw [I.len]; exact (List.getElem?_eq_some_iff.mp hi).1
  have cne := I.cne
  have tracked : ∀ {a : Addr} {h' : Heap}, (∃ o, s.heap.get? a = some o ∧ H a = none) → Heap.SameBut a s.heap h' → HOk X.prog X.w H h' := fun {a h'} ha hs b ob e => by
    obtain ⟨_, _, hfree⟩ := ha
    refine (I.hok b ob e).stay (fun c w' hc q => (hs.2 c ?_).trans q) (fun _ q => q) fun _ _ q => q
    rintro rfl
    rcases hc with rfl | hc
    · rw [hfree] at e; cases e
    · rw [hfree] at hc; cases hc
  rcases hx with hk | hk
  · refine wpAny_storeName_local hk hn (fun h' hn' hs => ?_) hcls
    obtain ⟨oL, _, _, hoL, _⟩ := id hn
    refine h _ ⟨I.ok, I.os, I.bare, ⟨fun b o e n hb hx => ?_, fun b o e n hb hx => ?_, I.base.free, fun b o e hx => ?_, I.base.tups, I.base.frzs, I.base.tbls⟩, ⟨_, hn', fun j y v' e1 e2 e3 => ?_⟩, fun y c e => ?_, I.free, I.freeC, fun p hp => ?_, tracked ⟨oL, hoL, I.free⟩ hs, by simpa using I.len⟩ ⟨_, hs, .inl rfl⟩
    · exact (hs.2 b (Nat.ne_of_lt (Nat.lt_of_lt_of_le (Heap.lt_size e) I.ok.above))).trans (I.base.keep b o e n hb hx)
    · obtain ⟨sl, e1⟩ := I.base.slot b o e n hb hx
      exact ⟨sl, (hs.2 b (Nat.ne_of_lt (Nat.lt_of_lt_of_le (Heap.lt_size e) I.ok.above))).trans e1⟩
    · obtain ⟨o', e1⟩ := I.base.there b o e hx
      exact ⟨o', (hs.2 b (Nat.ne_of_lt (Nat.lt_of_lt_of_le (Heap.lt_size e) I.ok.above))).trans e1⟩
    · by_cases hj : j = i
      · subst hj
        rw [hi] at e1; cases e1
        rw [List.getElem?_set_self hiσ] at e2
        cases e2
        exact ⟨u, r, .inl ⟨hk, by simp⟩⟩
      · rw [List.getElem?_set_ne (Ne.symm hj)] at e2
        obtain ⟨u', r', q⟩ := hl j y v' e1 e2 e3
        refine ⟨u', r', ?_⟩
        rcases q with ⟨k, e⟩ | ⟨k, c, e, z⟩
        · refine .inl ⟨k, ?_⟩
          have : y ≠ x := fun e => hj (nodup_ix hN e1 (e ▸ hi))
          simp [this, e]
        · exact .inr ⟨k, c, e, z.sameBut hs (cne y c e)⟩
    · obtain ⟨w', z⟩ := I.cell y c e
      exact ⟨w', z.sameBut hs (cne y c e)⟩
    · obtain ⟨e, n, ne, nf, d⟩ := I.pin p hp
      exact ⟨(hs.2 p.1 ne).trans e, n, ne, nf, d⟩
  · have hfn : X.fn x = true := by
      rcases hf with z | z
      · exact z
      · rw [z] at hk; cases hk
    obtain ⟨c, hc⟩ := I.ok.has x (.inl hk)
    obtain ⟨w', z⟩ := I.cell x c hc
    refine wpAny_storeName_cell I.ok.kind hk hc z (fun h' hc' hs => ?_)
    obtain ⟨oc, hoc, hocd⟩ := id z
    refine h { s with heap := h' } ⟨I.ok, I.os, I.bare, ⟨fun b o e n hb hx => ?_, fun b o e n hb hx => ?_, I.base.free, fun b o e hx => ?_, I.base.tups, I.base.frzs, I.base.tbls⟩, ⟨m, hn.sameBut hs (Ne.symm (cne x c hc)), fun j y v' e1 e2 e3 => ?_⟩, fun y c' e => ?_, I.free, I.freeC, fun p hp => ?_, tracked ⟨oc, hoc, I.freeC x c hc⟩ hs, by simpa using I.len⟩ ⟨c, hs, .inr hc⟩
    · exact (hs.2 b (Nat.ne_of_lt (Nat.lt_of_lt_of_le (Heap.lt_size e) (I.ok.cab x c hfn hc)))).trans (I.base.keep b o e n hb hx)
    · obtain ⟨sl, e1⟩ := I.base.slot b o e n hb hx
      exact ⟨sl, (hs.2 b (Nat.ne_of_lt (Nat.lt_of_lt_of_le (Heap.lt_size e) (I.ok.cab x c hfn hc)))).trans e1⟩
    · obtain ⟨o', e1⟩ := I.base.there b o e hx
      exact ⟨o', (hs.2 b (Nat.ne_of_lt (Nat.lt_of_lt_of_le (Heap.lt_size e) (I.ok.cab x c hfn hc)))).trans e1⟩
    · by_cases hj : j = i
      · subst hj
        rw [hi] at e1; cases e1
        rw [List.getElem?_set_self hiσ] at e2
        cases e2
        exact ⟨u, r, .inr ⟨.inl hk, c, hc, hc'⟩⟩
      · rw [List.getElem?_set_ne (Ne.symm hj)] at e2
        obtain ⟨u', r', q⟩ := hl j y v' e1 e2 e3
        refine ⟨u', r', ?_⟩
        rcases q with q | ⟨k, c', e, z'⟩
        · exact .inl q
        · refine .inr ⟨k, c', e, z'.sameBut hs ?_⟩
          rintro rfl
          exact hj (nodup_ix hN e1 (I.ok.inj _ _ _ e hc ▸ hi))
    · by_cases hcc : c' = c
      · subst hcc; exact ⟨_, hc'⟩
      · obtain ⟨w2, z2⟩ := I.cell y c' e
        exact ⟨w2, z2.sameBut hs hcc⟩
    · obtain ⟨e, n, ne, nf, d⟩ := I.pin p hp
      refine ⟨(hs.2 p.1 ?_).trans e, n, ne, nf, d⟩
      intro q
      rw [q, hoc] at e
      have q' : oc = p.2 := Option.some.inj e
      exact d w' (by rw [← q']; exact hocd)
theorem store_ok {M : Model} {A : Around} {E : Value → Shared → Prop} {i : Nat} {x : Str} {v : V} {u : Value} {Q : Unit → Shared → Prop} (I : Inv X pins σ H s) (hN : X.N.Nodup) (hi : X.N[i]? = some x) (hx : Loc X.env.scope x) (r : RelV v u)
    (h : ∀ s', Inv X pins (σ.set i (some v)) H s' → Q () s') (hf : X.fn x = true ∨ X.env.scope.names.lookup x = some .local := by first | exact .inl rfl | exact .inr rfl | assumption) : wpAny M A (storeName X.env x u) Q E s :=
  store_ok2 I hN hi hx r (fun s' I' _ => h s' I') hf
theorem Inv.call' {s' : Shared} {ch : List Addr} (I : Inv X pins σ H s) (ho : s'.os = s.os) (u : Un (frs X.stack) ch H H' s.heap s'.heap) (hok : HOk X.prog X.w H' s'.heap) (hg : AllBare s'.gens)
    (hch : ∀ b ∈ ch, (b ∈ X.ex ∨ X.s₀.heap.objs.size ≤ b) ∧ b ≠ X.env.locals ∧ (∀ x c, X.env.cells.lookup x = some c → c ≠ b) ∧ ∀ p ∈ X.pn ++ pins, p.1 ≠ b) : Inv X pins σ H' s' := by
  obtain ⟨h', g', d', t', o'⟩ := s'
  have e : o' = s.os := ho
  subst e
  exact I.call (g' := g') (t' := t') (d' := d') u hok hg hch
end
abbrev XK := Value → Option Addr → Hp → Prop
abbrev St := List (Option V)
abbrev VK := V → Hp → Prop
abbrev TE := St → Hp → VK → Prop
abbrev TT := St → Hp → (Bool → Hp → Prop) → Prop
abbrev TA := St → Hp → (List V → Hp → Prop) → Prop
structure Ends where
  nx : St → Hp → Prop
  rt : VK
  bk : St → Hp → Prop := fun _ _ => False
  ct : St → Hp → Prop := fun _ _ => False
abbrev TS := Ends → St → Hp → Prop
def EP (X : Cx) (pins : List (Addr × Obj)) (σ : St) (Q : VK) (u : Value) (s' : Shared) : Prop := ∃ v H', Inv X pins σ H' s' ∧ RelV v u ∧ Q v H'
def TP (X : Cx) (pins : List (Addr × Obj)) (σ : St) (Q : Bool → Hp → Prop) (b : Bool) (s' : Shared) : Prop := ∃ H', Inv X pins σ H' s' ∧ Q b H'
def AP (X : Cx) (pins : List (Addr × Obj)) (σ : St) (Q : List V → Hp → Prop) (us : List Value) (s' : Shared) : Prop := ∃ vs H', Inv X pins σ H' s' ∧ Vals vs us ∧ Q vs H'
def SP (X : Cx) (pins : List (Addr × Obj)) (D : Ends) (f : Flow) (s' : Shared) : Prop :=
  match f with
  | .next => ∃ σ' H', Inv X pins σ' H' s' ∧ D.nx σ' H'
  | .brk => ∃ σ' H', Inv X pins σ' H' s' ∧ D.bk σ' H'
  | .cont => ∃ σ' H', Inv X pins σ' H' s' ∧ D.ct σ' H'
  | .ret u => ∃ v σ' H', Inv X pins σ' H' s' ∧ RelV v u ∧ D.rt v H'
def PE (X : Cx) (e : Expr) (t : TE) : Prop :=
  ∀ (pins : List (Addr × Obj)) (s : Shared) (σ : St) (H : Hp) (Q : VK), Inv X pins σ H s → t σ H Q → wpAny (model X.prog X.w) X.A (eval e X.env) (EP X pins σ Q) X.xe s
def PT (X : Cx) (e : Expr) (t : TT) : Prop :=
  ∀ (pins : List (Addr × Obj)) (s : Shared) (σ : St) (H : Hp) (Q : Bool → Hp → Prop), Inv X pins σ H s → t σ H Q → wpAny (model X.prog X.w) X.A (isTrue e X.env (eval e X.env)) (TP X pins σ Q) X.xe s
def PW (X : Cx) (e : Expr) (t : TT) : Prop :=
  ∀ (whole : Sem Value) (pins : List (Addr × Obj)) (s : Shared) (σ : St) (H : Hp) (Q : Bool → Hp → Prop), Inv X pins σ H s → t σ H Q → wpAny (model X.prog X.w) X.A (isTrue e X.env whole) (TP X pins σ Q) X.xe s
theorem PW.pt {X : Cx} {e : Expr} {t : TT} (h : PW X e t) : PT X e t := h _
def PA (X : Cx) (es : List Expr) (t : TA) : Prop :=
  ∀ (pos : Pos) (pins : List (Addr × Obj)) (s : Shared) (σ : St) (H : Hp) (Q : List V → Hp → Prop), Inv X pins σ H s → t σ H Q → wpAny (model X.prog X.w) X.A (spliced (backTo pos (starEach es X.env))) (AP X pins σ Q) X.xe s
def PS (X : Cx) (st : Stmt) (t : TS) : Prop :=
  ∀ (pins : List (Addr × Obj)) (s : Shared) (σ : St) (H : Hp) (D : Ends), Inv X pins σ H s → t D σ H → wpAny (model X.prog X.w) X.A (exec st X.env) (SP X pins D) X.xe s
def PSs (X : Cx) (st : List Stmt) (t : TS) : Prop :=
  ∀ (pins : List (Addr × Obj)) (s : Shared) (σ : St) (H : Hp) (D : Ends), Inv X pins σ H s → t D σ H → wpAny (model X.prog X.w) X.A (execs st X.env) (SP X pins D) X.xe s
theorem thn {α : Type} {t : Sem α} {Q Q' : α → Shared → Prop} {M : Model} {A : Around} {E : Value → Shared → Prop} {s : Shared} (h : wpAny M A t Q E s) (hQ : ∀ a s, Q a s → Q' a s) : wpAny M A t Q' E s := wpAny_mono h hQ fun _ _ x => x
end L2
namespace L2
open PySem PySem.Spec PyProof.Rows
section
variable {X : Cx}
theorem bin {a b : Expr} {ta tb : TE} (ha : PE X a ta) (hb : PE X b tb) {pins : List (Addr × Obj)} {s : Shared} {σ : St} {H : Hp} {R : V → V → Hp → Prop} (I : Inv X pins σ H s) (h : ta σ H fun x H1 => tb σ H1 fun y H2 => R x y H2)
    {α : Type} {Q : α → Shared → Prop} {f : Value → Value → Sem α}
    (hf : ∀ v u s2 x y H2, Inv X pins σ H2 s2 → RelV x v → RelV y u → R x y H2 → wpAny (model X.prog X.w) X.A (f v u) Q X.xe s2) :
    wpAny (model X.prog X.w) X.A (eval a X.env) (fun v s₁ => wpAny (model X.prog X.w) X.A (eval b X.env) (fun u s₂ => wpAny (model X.prog X.w) X.A (f v u) Q X.xe s₂) X.xe s₁) X.xe s := by
  refine thn (ha pins s σ H _ I h) fun v s1 ⟨x, H1, I1, r1, q1⟩ => ?_
  refine thn (hb pins s1 σ H1 _ I1 q1) fun u s2 ⟨y, H2, I2, r2, q2⟩ => ?_
  exact hf v u s2 x y H2 I2 r1 r2 q2
def tVar (i : Nat) : TE := fun σ H Q => ∃ v, σ[i]? = some (some v) ∧ Q v H
def tC (v : V) : TE := fun _ H Q => Q v H
theorem pe_var {i : Nat} {x : Str} {pos : Pos} (hN : X.N[i]? = some x) (hv : Vis X.env.scope x) (hd : (x == ("__debug__" : Str)) = false := by decide) (hcd : (x == ("__classdict__" : Str)) = false := by decide) : PE X (.Name x pos) (tVar i) := by
  intro pins s σ H Q I h
  obtain ⟨v, e, h⟩ := h
  obtain ⟨m, hn, hl⟩ := I.loc
  obtain ⟨u, r, l⟩ := hl i x v hN e hv
  have fin : EP X pins σ Q u s := ⟨v, H, I, r, h⟩
  rcases l with ⟨hk, hm⟩ | ⟨hk, c, hc, hcell⟩
  · exact wpAny_Name (wpAny_loadName_local I.ok.kind hk hn hm fin) hd
  · rcases hk with hk | hk
    · exact wpAny_Name (wpAny_loadName_cell I.ok.kind hk hc hcell fin) hd
    · exact wpAny_Name (wpAny_loadName_free I.ok.kind hk hc hcell fin hcd) hd
theorem pe_int {i j pos} : PE X (.Constant (.int i) j pos) (tC (.int i)) := fun _ _ _ H _ I h => wpAny_Constant_int ⟨.int i, H, I.tok _, ⟨_, rfl⟩, h⟩
theorem pe_bl {b j pos} : PE X (.Constant (.bool b) j pos) (tC (.bl b)) := fun _ _ _ H _ I h => Constant_bool ⟨.bl b, H, I, rfl, h⟩
theorem pe_non {j pos} : PE X (.Constant .none j pos) (tC .non) := fun _ _ _ H _ I h => Constant_none ⟨.non, H, I, rfl, h⟩
theorem pe_str {x j pos} : PE X (.Constant (.str x) j pos) (tC (.str x)) := fun _ _ _ H _ I h => Calls.Constant_str ⟨.str x, H, I.tok _, ⟨_, rfl⟩, h⟩
def Gl (X : Cx) (x : Str) : Prop := X.env.kindOf x = some .globalImplicit
theorem ld_glob {E : Value → Shared → Prop} {pins : List (Addr × Obj)} {s : Shared} {σ : St} {H : Hp} {x : Str} {u : Value} {pos : Pos} {Q : Value → Shared → Prop} (I : Inv X pins σ H s) (hg : Gl X x) (hm : X.mg x = some u) (h : Q u s)
    (hd : (x == ("__debug__" : Str)) = false := by decide) : wpAny (model X.prog X.w) X.A (eval (.Name x pos) X.env) Q E s :=
  Calls.Name_function_global I.ok.kind hg (Calls.loadGlobal_global (by rw [I.ok.glob]; exact I.mod.glob.keeps I.bk) hm h) hd
theorem ld_blt {E : Value → Shared → Prop} {pins : List (Addr × Obj)} {s : Shared} {σ : St} {H : Hp} {x : Str} {u : Value} {pos : Pos} {Q : Value → Shared → Prop} (I : Inv X pins σ H s) (hg : Gl X x) (hm : X.mg x = none) (hv : bootBuiltins x = some u) (h : Q u s)
    (hn : x ≠ "__name__" := by decide) (hd : (x == ("__debug__" : Str)) = false := by decide) : wpAny (model X.prog X.w) X.A (eval (.Name x pos) X.env) Q E s := by
  obtain ⟨mb, h1, h2⟩ := I.mod.blt
  exact Calls.Name_function_global I.ok.kind hg (Calls.loadGlobal_builtin (by rw [I.ok.glob]; exact I.mod.glob.keeps I.bk) hm (by rw [I.ok.blt]; exact h1.keeps I.bk) ((h2 x hn).trans hv) h) hd
variable {a b : Expr} {ta tb : TE} {pos : Pos}
def PC (X : Cx) (op : CmpOp) (a b : Expr) (t : TE) : Prop :=
  ∀ (pins : List (Addr × Obj)) (s : Shared) (σ : St) (H : Hp) (Q : VK), Inv X pins σ H s → t σ H Q →
    wpAny (model X.prog X.w) X.A (eval a X.env) (fun v s₁ => wpAny (model X.prog X.w) X.A (eval b X.env) (fun u s₂ => wpAny (model X.prog X.w) X.A (compareOp op v u) (EP X pins σ Q) X.xe s₂) X.xe s₁) X.xe s
def tB (t : TE) : TT := fun σ H Q => t σ H fun x H1 => ∃ c, x = .bl c ∧ Q c H1
theorem pt_cmp {op : CmpOp} {t : TE} (h : PC X op a b t) (h1 : behindInMarks op b = false := by first | exact nobehind _ (by decide) (by decide) | rfl) : PT X (.Compare a [op] [b] pos) (tB t) := by
  intro pins s σ H Q I hw
  refine wpAny_isTrue_Compare1 (thn (h pins s σ H _ I hw) fun v s1 h1 => thn h1 fun u s2 h2 => thn h2 fun c s3 ⟨x, H1, I1, r1, q1⟩ => ?_) h1
  obtain ⟨d, rfl, q⟩ := q1
  cases r1
  exact wpAny_truthy_bool ⟨H1, I1, q⟩
theorem pt_val {e : Expr} {t : TE} (h : PE X e t) (he : ∀ whole, isTrue e X.env whole = (do let v ← whole; standAt e.pos; holding [v] (truthy v)) := by intro _; rfl) : PT X e (tB t) := by
  intro pins s σ H Q I hw
  refine isTrue_plain (thn (h pins s σ H _ I hw) fun v s1 ⟨x, H1, I1, r1, q1⟩ => ?_) (he _)
  obtain ⟨d, rfl, q⟩ := q1
  cases r1
  exact wpAny_truthy_bool ⟨H1, I1, q⟩
variable {tA tB' : TT} {rest : List Expr}
def tAnd (t u : TT) : TT := fun σ H Q => t σ H fun c H1 => if c = true then u σ H1 Q else Q false H1
def tNot (t : TT) : TT := fun σ H Q => t σ H fun c H1 => Q (!c) H1
theorem pw_and1 (ha : PT X a tA) : PW X (.BoolOp .And [a] pos) tA := by
  intro wh pins s σ H Q I h
  refine isTrue_and (thn (ha pins s σ H Q I h) fun c s1 e => ?_)
  cases c with
  | true => exact isTrue_and_nil e
  | false => exact e
theorem pw_and (ha : PT X a tA) (hb : PW X (.BoolOp .And (b :: rest) pos) tB') : PW X (.BoolOp .And (a :: b :: rest) pos) (tAnd tA tB') := by
  intro wh pins s σ H Q I h
  refine isTrue_and (thn (ha pins s σ H _ I h) fun c s1 ⟨H1, I1, q1⟩ => ?_)
  cases c with
  | true => exact hb wh pins s1 σ H1 Q I1 q1
  | false => exact ⟨H1, I1, q1⟩
theorem pt_not (ha : PT X a tA) : PT X (.UnaryOp .Not a pos) (tNot tA) := by
  intro pins s σ H Q I h
  exact isTrue_not (ha pins s σ H (fun c H1 => Q (!c) H1) I h)
def tAndV (ta tb : TE) : TE := fun σ H Q => ta σ H fun x H1 => ∃ c, x = .bl c ∧ if c = true then tb σ H1 Q else Q (.bl false) H1
def tNotV (ta : TE) : TE := fun σ H Q => ta σ H fun x H1 => ∃ c, x = .bl c ∧ Q (.bl (!c)) H1
theorem pe_one {op} {t : TE} (h : PE X a t) : PE X (.BoolOp op [a] pos) t := fun pins s σ H Q I hw => BoolOp_one (h pins s σ H Q I hw)
theorem pe_and (ha : PE X a ta) (hb : PE X (.BoolOp .And (b :: rest) pos) tb) : PE X (.BoolOp .And (a :: b :: rest) pos) (tAndV ta tb) := by
  intro pins s σ H Q I h
  refine BoolOp_and (thn (ha pins s σ H _ I h) fun v s1 ⟨x, H1, I1, r1, q1⟩ => ?_)
  obtain ⟨c, rfl, q1⟩ := q1
  cases r1
  refine wpAny_truthy_bool ?_
  cases c with
  | true => exact hb pins s1 σ H1 Q I1 q1
  | false => exact ⟨.bl false, H1, I1, rfl, q1⟩
theorem pe_not (ha : PE X a ta) : PE X (.UnaryOp .Not a pos) (tNotV ta) := by
  intro pins s σ H Q I h
  refine UnaryOp_ (thn (ha pins s σ H _ I h) fun v s1 ⟨x, H1, I1, r1, q1⟩ => ?_)
  obtain ⟨c, rfl, q1⟩ := q1
  cases r1
  exact not_of (wpAny_truthy_bool ⟨.bl (!c), H1, I1, rfl, q1⟩)
end
end L2
namespace L2
open PySem PySem.Spec PyProof.Rows
def SqL (K : PySem.W.Frag) (H : Hp) (a : Addr) (xs : List V) : Prop :=
  Rd H a (.lst xs) ∨
    ∃ (o : Obj) (its : Array Value) (n : Nat), K.lookup a = some o ∧ o.cls = .type "list" ∧ o.dict = none ∧ o.data = .seq its n ∧ its.size ≤ sizeLine ∧ Vals xs its.toList
def SqT (K : PySem.W.Frag) (H : Hp) (a : Addr) (xs : List V) : Prop :=
  Rd H a (.tup xs) ∨
    ∃ (o : Obj) (its : Array Value) (n : Nat), K.lookup a = some o ∧ o.cls = .type "tuple" ∧ o.data = .seq its n ∧ its.size ≤ sizeLine ∧ Vals xs its.toList
def absV : Value → Option V
  | .none => some .non
  | .bool b => some (.bl b)
  | .int i _ => some (.int i)
  | .str x _ => some (.str x)
  | .bytes b _ => some (.byt b)
  | .float b _ => some (.flt b)
  | .ref a => some (.ref a)
  | .type n => some (.ty n)
  | _ => none
theorem RelV.abs {x : V} {u : Value} (r : RelV x u) : absV u = some x := by
  cases x with
  | non => cases r; rfl
  | bl _ => cases r; rfl
  | int _ => obtain ⟨t, rfl⟩ := r; rfl
  | str _ => obtain ⟨t, rfl⟩ := r; rfl
  | byt _ => obtain ⟨t, rfl⟩ := r; rfl
  | flt _ => obtain ⟨t, rfl⟩ := r; rfl
  | ref _ => cases r; rfl
  | ty _ => cases r; rfl
theorem RelV.inj {x y : V} {u : Value} (r : RelV x u) (q : RelV y u) : x = y := Option.some.inj (r.abs.symm.trans q.abs)
theorem Vals.inj : ∀ {xs ys : List V} {us : List Value}, Vals xs us → Vals ys us → xs = ys
  | _, _, _, .nil, .nil => rfl
  | _, _, _, .cons r t, .cons r' t' => by rw [r.inj r', Vals.inj t t']
section
variable {X : Cx} {pins : List (Addr × Obj)} {σ : St} {H : Hp} {s : Shared} {a : Addr} {xs ys : List V}
theorem SqL.of {K : PySem.W.Frag} (h : H a = some (.lst xs)) : SqL K H a xs := .inl (.inl h)
theorem SqT.of {K : PySem.W.Frag} (h : H a = some (.tup xs)) : SqT K H a xs := .inl (.inl h)
theorem Inv.list (I : Inv X pins σ H s) (h : SqL X.K H a xs) : ∃ its : List Value, Vals xs its ∧ PlainL s.heap a its.toArray ∧ xs.length ≤ sizeLine := by
  rcases h with h | ⟨o, its, n, hk, hc, hd, hs, hz, r⟩
  · obtain ⟨z, its, n, r, e⟩ := h.ok I.hok
    exact ⟨its, r, ⟨_, n, e, rfl, rfl, rfl⟩, z⟩
  · refine ⟨its.toList, r, ⟨o, n, I.kIn a o hk, hc, hd, by simpa using hs⟩, ?_⟩
    have e := r.length
    simp only [Array.length_toList] at e
    omega
theorem Inv.tuple (I : Inv X pins σ H s) (h : SqT X.K H a xs) : ∃ its : List Value, Vals xs its ∧ IsTup s.heap a its.toArray ∧ xs.length ≤ sizeLine := by
  rcases h with h | ⟨o, its, n, hk, hc, hs, hz, r⟩
  · obtain ⟨z, its, r, p⟩ := h.ok I.hok
    exact ⟨its, r, p, z⟩
  · refine ⟨its.toList, r, ⟨o, I.kIn a o hk, hc, n, by simpa using hs⟩, ?_⟩
    have e := r.length
    simp only [Array.length_toList] at e
    omega
theorem Inv.list_inj (I : Inv X pins σ H s) (h : SqL X.K H a xs) (h' : SqL X.K H a ys) : xs = ys := by
  obtain ⟨its, r, ⟨o, n, e, _, _, d⟩, _⟩ := I.list h
  obtain ⟨its', r', ⟨o', n', e', _, _, d'⟩, _⟩ := I.list h'
  rw [e] at e'; cases e'
  rw [d] at d'
  injection d' with d1 _
  have : its = its' := by simpa using congrArg Array.toList d1
  subst this
  exact r.inj r'
theorem Inv.tuple_inj (I : Inv X pins σ H s) (h : SqT X.K H a xs) (h' : SqT X.K H a ys) : xs = ys := by
  obtain ⟨its, r, ⟨o, e, _, n, d⟩, _⟩ := I.tuple h
  obtain ⟨its', r', ⟨o', e', _, n', d'⟩, _⟩ := I.tuple h'
  rw [e] at e'; cases e'
  rw [d] at d'
  injection d' with d1 _
  have : its = its' := by simpa using congrArg Array.toList d1
  subst this
  exact r.inj r'
end
abbrev Cx.wish (X : Cx) (E : Value → Shared → Prop) : Cx := { X with xe := E }
abbrev Cx.nox (X : Cx) : Cx := X.wish fun _ _ => False
theorem Cx.Ok.wish {X : Cx} (ok : X.Ok) (E : Value → Shared → Prop) : (X.wish E).Ok :=
  ⟨ok.mod, ok.kind, ok.glob, ok.blt, ok.above, ok.inj, ok.has, ok.cab, ok.hd, ok.frames, ok.stk, ok.exf, ok.bs, ok.bsz, ok.noex, ok.exfs, ok.funs, ok.frf⟩
theorem Cx.Ok.unwish {X : Cx} {E : Value → Shared → Prop} (ok : (X.wish E).Ok) : X.Ok :=
  ⟨ok.mod, ok.kind, ok.glob, ok.blt, ok.above, ok.inj, ok.has, ok.cab, ok.hd, ok.frames, ok.stk, ok.exf, ok.bs, ok.bsz, ok.noex, ok.exfs, ok.funs, ok.frf⟩
section
variable {X : Cx} {pins : List (Addr × Obj)} {σ : St} {H : Hp} {s : Shared} {E : Value → Shared → Prop}
theorem Inv.wish (I : Inv X pins σ H s) (E : Value → Shared → Prop) : Inv (X.wish E) pins σ H s := ⟨I.ok.wish E, I.os, I.bare, I.base, I.loc, I.cell, I.free, I.freeC, I.pin, I.hok, I.len⟩
theorem Inv.unwish (I : Inv (X.wish E) pins σ H s) : Inv X pins σ H s := ⟨I.ok.unwish, I.os, I.bare, I.base, I.loc, I.cell, I.free, I.freeC, I.pin, I.hok, I.len⟩
theorem SP.unwish {D : Ends} {f : Flow} {s' : Shared} (h : SP (X.wish E) pins D f s') : SP X pins D f s' := by
  cases f with
  | next => obtain ⟨σ', H', I, q⟩ := h; exact ⟨σ', H', I.unwish, q⟩
  | brk => obtain ⟨σ', H', I, q⟩ := h; exact ⟨σ', H', I.unwish, q⟩
  | cont => obtain ⟨σ', H', I, q⟩ := h; exact ⟨σ', H', I.unwish, q⟩
  | ret u => obtain ⟨v, σ', H', I, r, q⟩ := h; exact ⟨v, σ', H', I.unwish, r, q⟩
theorem PSs.nox {st : List Stmt} {t : TS} (h : PSs X.nox st t) : PSs X st t := fun pins s σ H D I hw =>
  wpAny_mono (h pins s σ H D (I.wish _) hw) (fun _ _ q => q.unwish) fun _ _ z => False.elim z
end
section
variable {X : Cx} {st : Stmt} {rest : List Stmt} {t u : TS} {e : Expr} {te : TE} {pos : Pos}
def tNext : TS := fun D σ H => D.nx σ H
def tSeq (t u : TS) : TS := fun D σ H => t { D with nx := u D } σ H
theorem pss_nil : PSs X [] tNext := fun _ _ σ H _ I h => wpAny_execs_nil ⟨σ, H, I, h⟩
theorem pss_cons (h1 : PS X st t) (h2 : PSs X rest u) : PSs X (st :: rest) (tSeq t u) := by
  intro pins s σ H D I h
  refine wpAny_execs_cons (thn (h1 pins s σ H { D with nx := u D } I h) fun f s1 q => ?_)
  cases f with
  | next =>
    obtain ⟨σ', H', I', q⟩ := q
    exact h2 pins s1 σ' H' D I' q
  | ret v => exact q
  | brk => exact q
  | cont => exact q
theorem pss_one (h1 : PS X st t) : PSs X [st] t := by
  intro pins s σ H D I h
  refine wpAny_execs_cons (thn (h1 pins s σ H D I h) fun f s1 q => ?_)
  cases f with
  | next => exact wpAny_execs_nil q
  | ret v => exact q
  | brk => exact q
  | cont => exact q
theorem Inv.quiet {pins : List (Addr × Obj)} {σ : St} {H : Hp} {s : Shared} (I : Inv X pins σ H s) : interactive X.env = false := by simp [interactive, I.ok.kind]
def tDrop (te : TE) : TS := fun D σ H => te σ H fun _ H1 => D.nx σ H1
theorem ps_expr (he : PE X e te) (hs : swapsWith e none pos.line X.env = pure false := by rfl) : PS X (.Expr e pos) (tDrop te) := by
  intro pins s σ H D I h
  exact wpAny_Expr_any (thn (he pins s σ H _ I h) fun v s1 ⟨x, H1, I1, r1, q1⟩ => ⟨σ, H1, I1, q1⟩) I.quiet hs
def tRet (te : TE) : TS := fun D σ H => te σ H D.rt
theorem ps_ret (he : PE X e te) : PS X (.Return (some e) pos) (tRet te) := by
  intro pins s σ H D I h
  exact wpAny_Return_some (thn (he pins s σ H _ I h) fun v s1 ⟨x, H1, I1, r1, q1⟩ => ⟨x, σ, H1, I1, r1, q1⟩)
def tIfS (c : TT) (t u : TS) : TS := fun D σ H => c σ H fun b H1 => if b = true then t D σ H1 else u D σ H1
theorem ps_if {c : Expr} {a b : List Stmt} {tc : TT} (hc : PT X c tc) (ha : PSs X a t) (hb : PSs X b u) : PS X (.If c a b pos) (tIfS tc t u) := by
  intro pins s σ H D I h
  refine wpAny_If (thn (hc pins s σ H _ I h) fun d s1 ⟨H1, I1, q1⟩ => ?_)
  cases d with
  | true => exact ha pins s1 σ H1 D I1 q1
  | false => exact hb pins s1 σ H1 D I1 q1
end
abbrev TG := V → St → Hp → (St → Hp → Prop) → Prop
abbrev TGs := List V → St → Hp → (St → Hp → Prop) → Prop
def PG (X : Cx) (target : Expr) (t : TG) : Prop :=
  ∀ (pins : List (Addr × Obj)) (s : Shared) (σ : St) (H : Hp) (v : V) (u : Value) (Q : St → Hp → Prop), Inv X pins σ H s → RelV v u → t v σ H Q →
    wpAny (model X.prog X.w) X.A (assign target X.env u) (fun _ s' => ∃ σ' H', Inv X pins σ' H' s' ∧ Q σ' H') X.xe s
def PGs (X : Cx) (ts : List Expr) (t : TGs) : Prop :=
  ∀ (pins : List (Addr × Obj)) (s : Shared) (σ : St) (H : Hp) (vs : List V) (us : List Value) (Q : St → Hp → Prop), Inv X pins σ H s → Vals vs us → t vs σ H Q →
    wpAny (model X.prog X.w) X.A (assignInOrder ((assignEach ts X.env).map (·.2)) us) (fun _ s' => ∃ σ' H', Inv X pins σ' H' s' ∧ Q σ' H') X.xe s
abbrev TSet := V → V → V → Hp → (Hp → Prop) → Prop
def PSet (X : Cx) (t : TSet) : Prop :=
  ∀ (pins : List (Addr × Obj)) (s : Shared) (σ : St) (H : Hp) (o i v : V) (ov iv u : Value) (Q : Hp → Prop), Inv X pins σ H s → RelV o ov → RelV i iv → RelV v u → t o i v H Q →
    wpAny (model X.prog X.w) X.A (setItem ov iv u) (fun _ s' => ∃ H', Inv X pins σ H' s' ∧ Q H') X.xe s
abbrev TIp := V → V → Hp → VK → Prop
def PIp (X : Cx) (op : Operator) (t : TIp) : Prop :=
  ∀ (pins : List (Addr × Obj)) (s : Shared) (σ : St) (H : Hp) (x y : V) (v u : Value) (Q : VK), Inv X pins σ H s → RelV x v → RelV y u → t x y H Q →
    wpAny (model X.prog X.w) X.A (inplaceOp op v u) (EP X pins σ Q) X.xe s
section
variable {X : Cx} {pos : Pos}
def gName (i : Nat) : TG := fun v σ H Q => Q (σ.set i (some v)) H
theorem pg_name {i : Nat} {x : Str} (hN : X.N.Nodup) (hi : X.N[i]? = some x) (hx : Loc X.env.scope x) (hf : X.fn x = true ∨ X.env.scope.names.lookup x = some .local := by first | exact .inl rfl | exact .inr rfl | assumption) : PG X (.Name x pos) (gName i) := by
  intro pins s σ H v u Q I r h
  exact wpAny_assign_Name (store_ok I hN hi hx r (fun s' I' => ⟨_, H, I', h⟩) hf)
def gNil : TGs := fun vs σ H Q => vs = [] ∧ Q σ H
def gCons (t : TG) (u : TGs) : TGs := fun vs σ H Q => ∃ v r, vs = v :: r ∧ t v σ H fun σ' H' => u r σ' H' Q
theorem pgs_nil : PGs X [] gNil := by
  intro pins s σ H vs us Q I r h
  obtain ⟨e, h⟩ := h
  subst e
  cases r
  exact assignInOrder_nil ⟨σ, H, I, h⟩
theorem pgs_cons {e : Expr} {es : List Expr} {t : TG} {u : TGs} (h1 : PG X e t) (h2 : PGs X es u)
    (hs : (assignEach (e :: es) X.env).map (·.2) = assign e X.env :: (assignEach es X.env).map (·.2) := by rfl) : PGs X (e :: es) (gCons t u) := by
  intro pins s σ H vs us Q I r h
  obtain ⟨v, vr, e1, h⟩ := h
  subst e1
  cases r with
  | cons r rr =>
    rw [hs]
    refine assignInOrder_cons (thn (h1 pins s σ H _ _ _ I r h) fun _ s1 ⟨σ1, H1, I1, q1⟩ => ?_)
    exact h2 pins s1 σ1 H1 _ _ Q I1 rr q1
def gTup (K : PySem.W.Frag) (n : Nat) (t : TGs) : TG := fun v σ H Q => ∃ a xs, v = .ref a ∧ SqT K H a xs ∧ xs.length = n ∧ t xs σ H Q
theorem pg_tup {es : List Expr} {k : Nat} {t : TGs} {n : Nat} (hc : X.calm = true) (h : PGs X es t)
    (hn : (assignEach es X.env).length = n := by rfl) (hst : (assignEach es X.env).findIdx? (·.1) = none := by rfl) : PG X (.Tuple es k pos) (gTup X.K n t) := by
  intro pins s σ H v u Q I r hw
  obtain ⟨a, xs, e1, hq, hl, hw⟩ := hw
  subst e1
  cases r
  obtain ⟨its, rv, ht, hz⟩ := I.tuple hq
  refine assign_Tuple_tuple (I.ok.hd hc) ht (by simp [hn, ← hl, rv.length]) hst fun h' hx => ?_
  have I1 : Inv X pins σ H { s with heap := h' } := I.kept (t' := s.toks) fun b o e => hx b o (Nat.ne_of_lt (Heap.lt_size e)) e
  exact h pins _ σ H xs _ Q I1 (by simpa using rv) hw
def gSub (to ti : TE) (t : TSet) : TG := fun v σ H Q => to σ H fun o H1 => ti σ H1 fun i H2 => t o i v H2 fun H3 => Q σ H3
theorem pg_sub {o i : Expr} {to ti : TE} {t : TSet} (ho : PE X o to) (hi : PE X i ti) (hs : PSet X t)
    (ha : ∀ v, assign (.Subscript o i pos) X.env v = (do
      let ov ← holding [v] (eval o X.env)
      let iv ← holding [v, ov] (eval i X.env)
      standAt pos
      holding [v, ov, iv] (setItem ov iv v)
      release [v, ov, iv] []) := by intro _; rfl) : PG X (.Subscript o i pos) (gSub to ti t) := by
  intro pins s σ H v u Q I r h
  rw [ha]
  refine wpAny_bind (wpAny_holding (thn (ho pins s σ H _ I h) fun ov s1 ⟨x, H1, I1, r1, q1⟩ => ?_))
  refine wpAny_bind (wpAny_holding (thn (hi pins s1 σ H1 _ I1 q1) fun iv s2 ⟨y, H2, I2, r2, q2⟩ => ?_))
  refine wpAny_bind (wpAny_standAt (wpAny_bind (wpAny_holding (thn (hs pins s2 σ H2 x y v ov iv u _ I2 r1 r2 r q2) fun _ s3 ⟨H3, I3, q3⟩ => ?_))))
  exact wpAny_release ⟨σ, H3, I3, q3⟩
def tAsg (te : TE) (g : TG) : TS := fun D σ H => te σ H fun x H1 => g x σ H1 D.nx
theorem ps_asg {tg e : Expr} {te : TE} {g : TG} (he : PE X e te) (hg : PG X tg g) (hs : swapsWithSole [tg] e pos.line X.env = pure false := by rfl) (hw : swappedStores [tg] e X.env = pure none := by rfl)
    (h1 : (assignEach [tg] X.env).map (·.2) = [assign tg X.env] := by rfl) : PS X (.Assign [tg] e pos) (tAsg te g) := by
  intro pins s σ H D I h
  refine wpAny_Assign_stores (thn (he pins s σ H _ I h) fun v s1 ⟨x, H1, I1, r1, q1⟩ => ?_) hs hw
  rw [h1]
  exact thn (hg pins s1 σ H1 x v _ I1 r1 q1) fun _ s2 q => q
theorem ps_set {i : Nat} {x : Str} {e : Expr} {te : TE} {pos' : Pos} (hN : X.N.Nodup) (hi : X.N[i]? = some x) (hx : Loc X.env.scope x) (he : PE X e te) (hs : swapsWith e (some (.Name x pos')) pos.line X.env = pure false := by rfl) (hf : X.fn x = true ∨ X.env.scope.names.lookup x = some .local := by first | exact .inl rfl | exact .inr rfl | assumption) :
    PS X (.Assign [.Name x pos'] e pos) (tAsg te (gName i)) := by
  intro pins s σ H D I h
  refine wpAny_Assign_Name (thn (he pins s σ H _ I h) fun v s1 ⟨y, H1, I1, r1, q1⟩ => ?_) hs
  exact store_ok I1 hN hi hx r1 (fun s2 I2 => ⟨_, H1, I2, q1⟩) hf
def tAug (i : Nat) (te : TE) (ti : TIp) : TS := fun D σ H => ∃ x, σ[i]? = some (some x) ∧ te σ H fun y H1 => ti x y H1 fun z H2 => D.nx (σ.set i (some z)) H2
theorem ps_aug {i : Nat} {x : Str} {e : Expr} {te : TE} {op : Operator} {ti : TIp} {pos' : Pos} (hN : X.N.Nodup) (hi : X.N[i]? = some x) (hx : Loc X.env.scope x) (he : PE X e te) (ho : PIp X op ti) (hf : X.fn x = true ∨ X.env.scope.names.lookup x = some .local := by first | exact .inl rfl | exact .inr rfl | assumption) :
    PS X (.AugAssign (.Name x pos') op e pos) (tAug i te ti) := by
  intro pins s σ H D I h
  obtain ⟨v, e1, h⟩ := h
  obtain ⟨m, hn, hl⟩ := I.loc
  have vis : Vis X.env.scope x := by rcases hx with k | k; exact .inl k; exact .inr (.inl k)
  obtain ⟨u, r, l⟩ := hl i x v hi e1 vis
  refine wpAny_AugAssign_Name ?_
  have go : wpAny (model X.prog X.w) X.A (eval e X.env) (fun w s₂ => wpAny (model X.prog X.w) X.A (inplaceOp op u w) (fun r s₃ => wpAny (model X.prog X.w) X.A (storeName X.env x r) (fun _ => SP X pins D .next) X.xe s₃) X.xe s₂) X.xe s := by
    refine thn (he pins s σ H _ I h) fun w s1 ⟨y, H1, I1, r1, q1⟩ => ?_
    refine thn (ho pins s1 σ H1 v y u w _ I1 r r1 q1) fun z s2 ⟨zv, H2, I2, r2, q2⟩ => ?_
    exact store_ok I2 hN hi hx r2 (fun s3 I3 => ⟨_, H2, I3, q2⟩) hf
  rcases l with ⟨hk, hm⟩ | ⟨hk, c, hc, hcell⟩
  · exact wpAny_loadName_local I.ok.kind hk hn hm go
  · rcases hk with hk | hk
    · exact wpAny_loadName_cell I.ok.kind hk hc hcell go
    · rcases hx with k | k
      · have : X.env.scope.names.lookup x = some .free := hk
        rw [k] at this; cases this
      · have : X.env.scope.names.lookup x = some .free := hk
        rw [k] at this; cases this
def ipI (f : Int → Int → Int) : TIp := fun x y H Q => ∃ i j, x = .int i ∧ y = .int j ∧ Q (.int (f i j)) H
theorem ip_add : PIp X .Add (ipI fun i j => i + j) := by
  intro pins s σ H x y v u Q I r1 r2 h
  obtain ⟨i, j, e1, e2, q⟩ := h
  subst e1; subst e2
  obtain ⟨t, rfl⟩ := r1
  obtain ⟨t', rfl⟩ := r2
  exact iadd_int ⟨.int _, H, I.tok _, ⟨_, rfl⟩, q⟩
end
section
variable {X : Cx} {pos : Pos}
def tWhile (c : TT) (tb : TS) : TS := fun D σ H => ∃ W : Nat → St → Hp → Prop, (∃ m, W m σ H) ∧ ∀ m σ H, W m σ H →
  c σ H fun b H1 => if b = true then ∃ N : St → Hp → Prop, (∀ σ' H', N σ' H' → ∃ m', m' < m ∧ W m' σ' H') ∧ tb { D with nx := N, ct := N, bk := D.nx } σ H1 else D.nx σ H1
theorem ps_while {c : Expr} {body : List Stmt} {tc : TT} {tb : TS} (hp : PassesOwn (model X.prog X.w) X.A X.env X.xe) (hc : PT X c tc) (hb : PSs X body tb) : PS X (.While c body [] pos) (tWhile tc tb) := by
  intro pins s σ H D I h
  obtain ⟨W, ⟨m0, w0⟩, turn⟩ := h
  refine wpAny_While (codeAny_whileLoop (fun n s' => ∃ σ' H', Inv X pins σ' H' s' ∧ W n σ' H') ?_ m0 ⟨σ, H, I, w0⟩)
  rintro n s1 ⟨σ1, H1, I1, w1⟩
  refine wpAny_passesOwn hp (thn (hc pins s1 σ1 H1 _ I1 (turn n σ1 H1 w1)) fun b s2 ⟨H2, I2, q2⟩ => ?_)
  cases b with
  | true =>
    obtain ⟨N, hN, q2⟩ := q2
    rw [if_pos rfl]
    refine wpAny_passesOwn hp (thn (hb pins s2 σ1 H2 _ I2 q2) fun f s3 q3 => ?_)
    cases f with
    | next =>
      obtain ⟨σ3, H3, I3, n3⟩ := q3
      obtain ⟨m', hm, w3⟩ := hN σ3 H3 n3
      exact ⟨m', hm, σ3, H3, I3, w3⟩
    | cont =>
      obtain ⟨σ3, H3, I3, n3⟩ := q3
      obtain ⟨m', hm, w3⟩ := hN σ3 H3 n3
      exact ⟨m', hm, σ3, H3, I3, w3⟩
    | brk => exact q3
    | ret v => exact q3
  | false =>
    rw [if_neg Bool.false_ne_true]
    exact wpAny_execs_nil ⟨σ1, H2, I2, q2⟩
end
structure It where
  go : Nat → Hp → Prop
  yld : Nat → Hp → V → Hp → Prop
  stop : Nat → Hp → Prop
def FpOk (X : Cx) (pins : List (Addr × Obj)) (H : Hp) (b : Addr) : Prop :=
  H b = none ∧ b ≠ X.env.locals ∧ b ∉ X.fs ∧ (b ∈ X.ex ∨ X.s₀.heap.objs.size ≤ b) ∧ (∀ x c, X.env.cells.lookup x = some c → c ≠ b) ∧ ∀ p ∈ X.pn ++ pins, p.1 ≠ b
theorem Inv.fpOk {X : Cx} {pins : List (Addr × Obj)} {σ : St} {H H' : Hp} {s : Shared} {b : Addr} (I : Inv X pins σ H s) (hb : s.heap.objs.size ≤ b) (hn : H' b = none) : FpOk X pins H' b := by
  refine ⟨hn, Nat.ne_of_gt (Nat.lt_of_lt_of_le I.lt hb), I.nofs hb, .inr (Nat.le_trans I.sz hb), fun x c e z => ?_, fun p hp z => ?_⟩
  · obtain ⟨v, q⟩ := I.cell x c e
    exact absurd (Nat.lt_of_lt_of_le q.lt (by rw [z]; exact hb)) (Nat.lt_irrefl _)
  · exact absurd (Nat.lt_of_lt_of_le (Heap.lt_size (I.pin p hp).1) (by rw [z]; exact hb)) (Nat.lt_irrefl _)
structure Turn (P : Program) (w : World) (K : PySem.W.Frag) (tg : Expr) (J : It) (fp : List Addr) (it : Addr) (tn : Nat → Heap → Prop) : Prop where
  mem : it ∈ fp
  obj : ∀ i h, tn i h → ∀ b ∈ fp, ∃ o, h.get? b = some o ∧ ∀ v, o.data ≠ .cell v
  keep : ∀ i h h', tn i h → (∀ b ∈ fp, ∀ o, h.get? b = some o → h'.get? b = some o) → tn i h'
  item : ∀ (X : Cx), X.prog = P → X.w = w → X.K = K → X.calm = true → ∀ (i : Nat) (pins : List (Addr × Obj)) (s : Shared) (σ : St) (H : Hp) (E : Value → Shared → Prop), Inv X pins σ H s → (∀ b ∈ fp, FpOk X pins H b) → tn i s.heap → J.go i H →
    wpAny (model P w) X.A (pyNext (.ref it)) (fun r s1 => ∃ u, r = some u ∧
      wpAny (model P w) X.A (letOwnedTupleGo tg (.ref it) u) (fun _ s2 => ∃ x H', Inv X pins σ H' s2 ∧ RelV x u ∧ J.yld i H x H' ∧ tn (i + 1) s2.heap ∧ ∀ b ∈ fp, H' b = none) E s1) E s
  done : ∀ (X : Cx), X.prog = P → X.w = w → X.K = K → X.calm = true → ∀ (i : Nat) (pins : List (Addr × Obj)) (s : Shared) (σ : St) (H : Hp) (E : Value → Shared → Prop), Inv X pins σ H s → (∀ b ∈ fp, FpOk X pins H b) → tn i s.heap → J.stop i H →
    wpAny (model P w) X.A (pyNext (.ref it)) (fun r s1 => r = none ∧ Inv X pins σ H s1) E s
  self : ∀ (A : Around) (i : Nat) (s : Shared) (Q : Value → Shared → Prop) (E : Value → Shared → Prop), tn i s.heap → Q (.ref it) s → wpAny (model P w) A (pyIter (.ref it)) Q E s
abbrev TI := St → Hp → (It → Hp → Prop) → Prop
def PIE (X : Cx) (pins : List (Addr × Obj)) (σ : St) (tg : Expr) (R : It → Hp → Prop) (itv : Value) (s2 : Shared) : Prop :=
  ∃ (it : Addr) (fp : List Addr) (tn : Nat → Heap → Prop) (J : It) (H' : Hp), itv = .ref it ∧ Inv X pins σ H' s2 ∧ Turn X.prog X.w X.K tg J fp it tn ∧ tn 0 s2.heap ∧ (∀ b ∈ fp, FpOk X pins H' b) ∧ R J H'
def PI (X : Cx) (tg iter : Expr) (wi : TI) : Prop :=
  ∀ (pins : List (Addr × Obj)) (s : Shared) (σ : St) (H : Hp) (R : It → Hp → Prop), Inv X pins σ H s → wi σ H R →
    wpAny (model X.prog X.w) X.A (eval iter X.env) (fun v s1 => wpAny (model X.prog X.w) X.A (pyIter v) (PIE X pins σ tg R) X.xe s1) X.xe s
theorem go_of {M : Model} {A : Around} {E : Value → Shared → Prop} {s : Shared} {tg : Expr} {it : Addr} {u : Value} {o : Obj} {n : String} {vs : Array Value} {Q : Unit → Shared → Prop} (ho : s.heap.get? it = some o) (hc : o.cls = .type n) (hd : o.data = .fields vs)
    (hn : ["enumerate", "zip", "dict_itemiterator", "dict_reverseitemiterator", "odict_iterator", "itertools.zip_longest", "itertools.pairwise"].contains n = false) (hQ : Q () s) : wpAny M A (letOwnedTupleGo tg (.ref it) u) Q E s := by
  unfold letOwnedTupleGo
  cases tg <;> first
    | exact wpAny_pure hQ
    | (cases u <;> first
        | exact wpAny_pure hQ
        | (refine wpAny_bind (wpAny_load ho ?_)
           rw [hc, hd]
           show wpAny M A (if (["enumerate", "zip", "dict_itemiterator", "dict_reverseitemiterator", "odict_iterator", "itertools.zip_longest", "itertools.pairwise"].contains n && vs[0]? == some (rawInt _)) = true then _ else _) Q E s
           rw [if_neg (by intro h; rw [hn, Bool.false_and] at h; cases h)]
           exact wpAny_pure hQ))
def Itl (K : PySem.W.Frag) (a : Addr) : It :=
  ⟨fun i H => ∃ xs x, SqL K H a xs ∧ xs[i]? = some x, fun i H x H' => H' = H ∧ ∀ xs, SqL K H a xs → xs[i]? = some x, fun i H => ∃ xs, SqL K H a xs ∧ xs.length ≤ i⟩
def Itt (K : PySem.W.Frag) (a : Addr) : It :=
  ⟨fun i H => ∃ xs x, SqT K H a xs ∧ xs[i]? = some x, fun i H x H' => H' = H ∧ ∀ xs, SqT K H a xs → xs[i]? = some x, fun i H => ∃ xs, SqT K H a xs ∧ xs.length ≤ i⟩
def Itr (lo : Int) (n : Nat) : It := ⟨fun i _ => i < n, fun i H x H' => H' = H ∧ x = .int (lo + i), fun i _ => n ≤ i⟩
theorem turn_list {P : Program} {w : World} {K : PySem.W.Frag} {tg : Expr} (a it : Addr) : Turn P w K tg (Itl K a) [it] it (fun i h => h.IsListIter it a i) where
  mem := by simp
  obj := fun i h st b hb => by
    have e : b = it := by simpa using hb
    subst e
    obtain ⟨o, e, c, d⟩ := st
    exact ⟨o, e, fun v z => by rw [d] at z; cases z⟩
  keep := fun i h h' st k => st.at fun o e => k it (by simp) o e
  item := by
    intro X hP hw hK hc i pins s σ H E I hf st hg
    subst hP hw hK
    obtain ⟨xs, x, hq, hx⟩ := hg
    obtain ⟨its, rv, p, hz⟩ := I.list hq
    obtain ⟨u, hu, ru⟩ := rv.get hx
    obtain ⟨f0, f1, f2, f3, f4, f5⟩ := hf it (by simp)
    refine wpAny_pyNext_list_item st p.isList (x := u) (by simpa using hu) fun h' st' sb => ?_
    have I1 : Inv X pins σ H { s with heap := h' } := I.turned (t' := s.toks) (fun b o hb e => (sb.2 b hb).trans e) f0 f1 f3 f4 f5
    obtain ⟨o, e, c, d⟩ := id st'
    exact ⟨u, rfl, go_of (s := { s with heap := h' }) e c d (by decide) ⟨x, H, I1, ru, ⟨rfl, fun ys hy => by rw [I.list_inj hy hq]; exact hx⟩, st', fun b hb => (hf b hb).1⟩⟩
  done := by
    intro X hP hw hK hc i pins s σ H E I hf st hg
    subst hP hw hK
    obtain ⟨xs, hq, hx⟩ := hg
    obtain ⟨its, rv, p, hz⟩ := I.list hq
    obtain ⟨f0, f1, f2, f3, f4, f5⟩ := hf it (by simp)
    have hl := rv.length
    exact wpAny_pyNext_list_end (I.ok.hd hc) st p.isList (by simp; omega) fun h' eb => ⟨rfl, I.turned (t' := s.toks) (fun b o hb e => eb b o hb e) f0 f1 f3 f4 f5⟩
  self := fun _ _ _ _ _ st h => wpAny_pyIter_listiter st h
theorem turn_tuple {P : Program} {w : World} {K : PySem.W.Frag} {tg : Expr} (a it : Addr) : Turn P w K tg (Itt K a) [it] it (fun i h => h.IsTupleIter it a i) where
  mem := by simp
  obj := fun i h st b hb => by
    have e : b = it := by simpa using hb
    subst e
    obtain ⟨o, e, c, d⟩ := st
    exact ⟨o, e, fun v z => by rw [d] at z; cases z⟩
  keep := fun i h h' st k => st.at fun o e => k it (by simp) o e
  item := by
    intro X hP hw hK hc i pins s σ H E I hf st hg
    subst hP hw hK
    obtain ⟨xs, x, hq, hx⟩ := hg
    obtain ⟨its, rv, p, hz⟩ := I.tuple hq
    obtain ⟨u, hu, ru⟩ := rv.get hx
    obtain ⟨f0, f1, f2, f3, f4, f5⟩ := hf it (by simp)
    refine wpAny_pyNext_tuple_item st (show s.heap.IsTuple a its.toArray from p) (x := u) (by simpa using hu) fun h' st' sb => ?_
    have I1 : Inv X pins σ H { s with heap := h' } := I.turned (t' := s.toks) (fun b o hb e => (sb.2 b hb).trans e) f0 f1 f3 f4 f5
    obtain ⟨o, e, c, d⟩ := id st'
    exact ⟨u, rfl, go_of (s := { s with heap := h' }) e c d (by decide) ⟨x, H, I1, ru, ⟨rfl, fun ys hy => by rw [I.tuple_inj hy hq]; exact hx⟩, st', fun b hb => (hf b hb).1⟩⟩
  done := by
    intro X hP hw hK hc i pins s σ H E I hf st hg
    subst hP hw hK
    obtain ⟨xs, hq, hx⟩ := hg
    obtain ⟨its, rv, p, hz⟩ := I.tuple hq
    obtain ⟨f0, f1, f2, f3, f4, f5⟩ := hf it (by simp)
    have hl := rv.length
    exact wpAny_pyNext_tuple_end (I.ok.hd hc) st (show s.heap.IsTuple a its.toArray from p) (by simp; omega) fun h' eb => ⟨rfl, I.turned (t' := s.toks) (fun b o hb e => eb b o hb e) f0 f1 f3 f4 f5⟩
  self := fun _ _ _ _ _ st h => wpAny_pyIter_tupleiter st h
theorem turn_range {P : Program} {w : World} {K : PySem.W.Frag} {tg : Expr} (it : Addr) (lo : Int) (n : Nat) : Turn P w K tg (Itr lo n) [it] it (fun i h => IsRangeIter h it (lo + (i : Nat) * 1) ((n : Int) - (i : Nat)) 1) where
  mem := by simp
  obj := fun i h st b hb => by
    have e : b = it := by simpa using hb
    subst e
    exact ⟨_, st, fun v z => by
      have z' : Data.fields _ = Data.cell v := z
      cases z'⟩
  keep := fun i h h' st k => k it (by simp) _ st
  item := by
    intro X hP hw hK hc i pins s σ H E I hf st hg
    subst hP hw hK
    obtain ⟨f0, f1, f2, f3, f4, f5⟩ := hf it (by simp)
    have W := Walks.range (prog := X.prog) (w := X.w) (I.ok.hd hc) it lo 1 n
    refine W.item i s _ _ hg st fun v h' tk hv st' kk => ?_
    obtain ⟨t, rfl⟩ := hv
    have I1 : Inv X pins σ H { s with heap := h', toks := tk } := I.turned (fun b o hb e => kk b o (by simpa using hb) e) f0 f1 f3 f4 f5
    refine ⟨_, rfl, go_of (s := { s with heap := h', toks := tk }) (n := "range_iterator") st' rfl rfl (by decide) ⟨.int (lo + i), H, I1, ⟨t, ?_⟩, ⟨rfl, rfl⟩, st', fun b hb => (hf b hb).1⟩⟩
    rw [Int.mul_one]
  done := by
    intro X hP hw hK hc i pins s σ H E I hf st hg
    subst hP hw hK
    obtain ⟨f0, f1, f2, f3, f4, f5⟩ := hf it (by simp)
    exact wpAny_pyNext_range_end (I.ok.hd hc) st (by have : n ≤ i := hg; omega) fun h' eb => ⟨rfl, I.turned (t' := s.toks) (fun b o hb e => eb b o hb e) f0 f1 f3 f4 f5⟩
  self := fun _ _ _ _ _ st h => wpAny_pyIter_rangeiter st h
end L2
namespace L2
open PySem PySem.Spec PyProof.Rows
section
variable {X : Cx} {tg : Expr}
def iList (K : PySem.W.Frag) (tl : TE) : TI := fun σ H R => tl σ H fun x H1 => ∃ a, x = .ref a ∧ (∃ xs, SqL K H1 a xs) ∧ R (Itl K a) H1
def iTup (K : PySem.W.Frag) (tl : TE) : TI := fun σ H R => tl σ H fun x H1 => ∃ a, x = .ref a ∧ (∃ xs, SqT K H1 a xs) ∧ R (Itt K a) H1
theorem pi_list {l : Expr} {tl : TE} (hl : PE X l tl) : PI X tg l (iList X.K tl) := by
  intro pins s σ H R I h
  refine thn (hl pins s σ H _ I h) fun v s1 ⟨x, H1, I1, r1, q1⟩ => ?_
  obtain ⟨a, e, ⟨xs, hq⟩, q⟩ := q1
  subst e
  cases r1
  obtain ⟨its, rv, p, hz⟩ := I1.list hq
  refine wpAny_pyIter_list p.isList ?_
  refine ⟨s1.heap.objs.size, [s1.heap.objs.size], _, _, H1, rfl, I1.kept (t' := s1.toks) fun b o e => Heap.get?_push_of_some _ e, turn_list a _, ⟨_, Heap.get?_push_size _ rfl, rfl, rfl⟩, fun b hb => ?_, q⟩
  have e : b = s1.heap.objs.size := by simpa using hb
  subst e
  exact I1.fpOk (Nat.le_refl _) (I1.hok.fresh (Nat.le_refl _))
theorem pi_tup {l : Expr} {tl : TE} (hl : PE X l tl) : PI X tg l (iTup X.K tl) := by
  intro pins s σ H R I h
  refine thn (hl pins s σ H _ I h) fun v s1 ⟨x, H1, I1, r1, q1⟩ => ?_
  obtain ⟨a, e, ⟨xs, hq⟩, q⟩ := q1
  subst e
  cases r1
  obtain ⟨its, rv, p, hz⟩ := I1.tuple hq
  refine wpAny_pyIter_tuple (show s1.heap.IsTuple a its.toArray from p) ?_
  refine ⟨s1.heap.objs.size, [s1.heap.objs.size], _, _, H1, rfl, I1.kept (t' := s1.toks) fun b o e => Heap.get?_push_of_some _ e, turn_tuple a _, ⟨_, Heap.get?_push_size _ rfl, rfl, rfl⟩, fun b hb => ?_, q⟩
  have e : b = s1.heap.objs.size := by simpa using hb
  subst e
  exact I1.fpOk (Nat.le_refl _) (I1.hok.fresh (Nat.le_refl _))
theorem range_it {pins : List (Addr × Obj)} {σ : St} {H : Hp} {s : Shared} {R : It → Hp → Prop} {E : Value → Shared → Prop} {lo hi : Int} {t u v : Tok} {tk : Nat} (I : Inv X pins σ H s) (h1 : -(2 ^ 62) ≤ lo) (h2 : lo < 2 ^ 62) (h3 : -(2 ^ 62) ≤ hi) (h4 : hi < 2 ^ 62)
    (q : R (Itr lo (hi - lo).toNat) H) : wpAny (model X.prog X.w) X.A (pyIter (.ref s.heap.objs.size)) (PIE X pins σ tg R) E { s with heap := s.heap.push { cls := .type "range", data := .fields #[.int lo t, .int hi u, .int 1 v] }, toks := tk } := by
  refine wpAny_pyIter_range (IsRange.new ..) (small_one h1 h2 h3 h4) ?_
  have I1 : Inv X pins σ H { s with heap := s.heap.push { cls := .type "range", data := .fields #[.int lo t, .int hi u, .int 1 v] }, toks := tk } := I.kept fun b o e => Heap.get?_push_of_some _ e
  refine ⟨(s.heap.push { cls := .type "range", data := .fields #[.int lo t, .int hi u, .int 1 v] }).objs.size, [(s.heap.push { cls := .type "range", data := .fields #[.int lo t, .int hi u, .int 1 v] }).objs.size], _, _, H, rfl,
    I1.kept (t' := tk) fun b o e => Heap.get?_push_of_some _ e, turn_range _ lo (hi - lo).toNat, ?_, fun b hb => ?_, q⟩
  · have e1 : lo + ((0 : Nat) : Int) * 1 = lo := by simp
    have e2 : (((hi - lo).toNat : Nat) : Int) - ((0 : Nat) : Int) = Builtin.Range.rangeSize lo hi 1 := by rw [rangeSize_one]; split <;> omega
    show IsRangeIter _ _ (lo + ((0 : Nat) : Int) * 1) ((((hi - lo).toNat : Nat) : Int) - ((0 : Nat) : Int)) 1
    rw [e1, e2]
    exact Heap.get?_push_size _ rfl
  · have e : b = (s.heap.push { cls := .type "range", data := .fields #[.int lo t, .int hi u, .int 1 v] }).objs.size := by simpa using hb
    subst e
    exact I1.fpOk (Nat.le_refl _) (I1.hok.fresh (Nat.le_refl _))
def iRng1 (ta : TA) : TI := fun σ H R => ta σ H fun vs H1 => ∃ j : Int, vs = [.int j] ∧ -(2 ^ 62) ≤ j ∧ j < 2 ^ 62 ∧ R (Itr 0 j.toNat) H1
theorem pi_range1 {a : Expr} {ta : TA} {p pos : Pos} (hg : Gl X "range") (hm : X.mg "range" = none) (ha : PA X [a] ta) (hs : starEach [a] X.env = [(false, eval a X.env)] := by rfl) : PI X tg (.Call (.Name "range" p) [a] [] pos) (iRng1 ta) := by
  intro pins s σ H R I h
  refine Call_ (ld_blt I hg hm boot_range (PyProof.Rows.callWith_type1 (thn (ha pos pins s σ H _ I h) fun us s1 ⟨vs, H1, I1, r1, q1⟩ => ?_) hs rfl))
  obtain ⟨j, e, q1, q2, q⟩ := q1
  subst e
  cases r1 with
  | cons r rr =>
    cases rr
    obtain ⟨t, rfl⟩ := r
    exact call_range_1 (range_it I1 (by omega) (by omega) q1 q2 (by simpa using q))
def tFor (wi : TI) (g : TG) (tb : TS) : TS := fun D σ H => wi σ H fun J H1 => ∃ W : Nat → Nat → St → Hp → Prop, (∃ m, W 0 m σ H1) ∧ ∀ i m σ H, W i m σ H →
  (J.stop i H ∧ D.nx σ H) ∨ (J.go i H ∧ ∃ N : St → Hp → Prop, (∀ σ' H', N σ' H' → ∃ m', m' < m ∧ W (i + 1) m' σ' H') ∧ ∀ x H', J.yld i H x H' → g x σ H' fun σ2 H2 => tb { D with nx := N, ct := N, bk := D.nx } σ2 H2)
def pinsAt (fp : List Addr) (h : Heap) : List (Addr × Obj) := fp.filterMap fun b => (h.get? b).map fun o => (b, o)
theorem mem_pinsAt {fp : List Addr} {h : Heap} {b : Addr} {o : Obj} (hb : b ∈ fp) (e : h.get? b = some o) : (b, o) ∈ pinsAt fp h := List.mem_filterMap.mpr ⟨b, hb, by rw [e]; rfl⟩
theorem of_pinsAt {fp : List Addr} {h : Heap} {p : Addr × Obj} (hp : p ∈ pinsAt fp h) : p.1 ∈ fp ∧ h.get? p.1 = some p.2 := by
  obtain ⟨b, hb, e⟩ := List.mem_filterMap.mp hp
  cases q : h.get? b with
  | none => rw [q] at e; cases e
  | some o =>
    rw [q] at e
    have e' : (b, o) = p := Option.some.inj e
    subst e'
    exact ⟨hb, q⟩
theorem Inv.pinned {pins : List (Addr × Obj)} {σ : St} {H : Hp} {s : Shared} {fp : List Addr} (I : Inv X pins σ H s) (hf : ∀ b ∈ fp, FpOk X pins H b) (ho : ∀ b ∈ fp, ∃ o, s.heap.get? b = some o ∧ ∀ v, o.data ≠ .cell v) : Inv X (pins ++ pinsAt fp s.heap) σ H s :=
  I.pins_of fun p hp => (List.mem_append.mp hp).elim (fun z => I.pin p (List.mem_append_right _ z)) fun z => by
    obtain ⟨hb, e⟩ := of_pinsAt z
    obtain ⟨f0, f1, f2, _⟩ := hf p.1 hb
    obtain ⟨o, e', d⟩ := ho p.1 hb
    rw [e] at e'; cases e'
    exact ⟨e, f0, f1, f2, d⟩
theorem Inv.unpinned {pins pl : List (Addr × Obj)} {σ : St} {H : Hp} {s : Shared} (I : Inv X (pins ++ pl) σ H s) : Inv X pins σ H s := I.pins_of fun p hp => I.pin p (List.mem_append_right _ (List.mem_append_left _ hp))
theorem ps_for {iter : Expr} {body : List Stmt} {wi : TI} {g : TG} {tb : TS} {pos : Pos} (hp : PassesOwn (model X.prog X.w) X.A X.env X.xe) (hc : X.calm = true) (hi : PI X tg iter wi) (hg : PG X tg g) (hb : PSs X body tb)
    (hs : ∀ x, foldedSetIterable iter X.env x = pure x := by intro _; rfl) : PS X (.For tg iter body [] pos) (tFor wi g tb) := by
  intro pins s σ H D I h
  refine wpAny_For (thn (hi pins s σ H _ I h) fun v s1 h1 => thn h1 fun itv s2 h2 => ?_) hs
  obtain ⟨it, fp, tn, J, H2, e, I2, T, st2, f2, W, ⟨m0, w0⟩, turn⟩ := h2
  subst e
  -- what stays true of the iterator's objects through the loop
  have stat : ∀ {H' : Hp}, (∀ b ∈ fp, H' b = none) → ∀ b ∈ fp, FpOk X pins H' b := fun hn b hb => ⟨hn b hb, (f2 b hb).2⟩
  refine codeAny_forLoop_any (fun n s' => ∃ i σ' H', Inv X pins σ' H' s' ∧ tn i s'.heap ∧ (∀ b ∈ fp, H' b = none) ∧ W i n σ' H') ?_ m0 ⟨0, σ, H2, I2, st2, fun b hb => (f2 b hb).1, w0⟩
  rintro n s3 ⟨i, σ3, H3, I3, st3, fr3, w3⟩
  rcases turn i n σ3 H3 w3 with ⟨stop, qn⟩ | ⟨go, N, hN, step⟩
  · refine wpAny_passesOwn hp (thn (T.done X rfl rfl rfl hc i pins s3 σ3 H3 X.xe I3 (stat fr3) st3 stop) fun r s4 ⟨hr, I4⟩ => ?_)
    subst hr
    exact wpAny_execs_nil ⟨σ3, H3, I4, qn⟩
  · refine wpAny_passesOwn hp (thn (T.item X rfl rfl rfl hc i pins s3 σ3 H3 X.xe I3 (stat fr3) st3 go) fun r s4 ⟨u, hr, h4⟩ => ?_)
    subst hr
    refine wpAny_passesOwn hp (thn h4 fun _ s5 ⟨x, H5, I5, r5, y5, st5, fr5⟩ => ?_)
    have I5' := I5.pinned (stat fr5) (T.obj _ _ st5)
    refine wpAny_passesOwn hp (thn (hg _ s5 σ3 H5 x u _ I5' r5 (step x H5 y5)) fun _ s6 ⟨σ6, H6, I6, q6⟩ => ?_)
    refine wpAny_passesOwn hp (thn (hb _ s6 σ6 H6 _ I6 q6) fun f s7 q7 => ?_)
    have again : ∀ {σ7 : St} {H7 : Hp}, Inv X (pins ++ pinsAt fp s5.heap) σ7 H7 s7 → N σ7 H7 → ∃ m, m < n ∧ ∃ i σ' H', Inv X pins σ' H' s7 ∧ tn i s7.heap ∧ (∀ b ∈ fp, H' b = none) ∧ W i m σ' H' := fun {σ7 H7} I7 n7 => by
      obtain ⟨m', hm, w7⟩ := hN σ7 H7 n7
      refine ⟨m', hm, i + 1, σ7, H7, I7.unpinned, T.keep _ _ _ st5 fun b hb o e => (I7.pin (b, o) (List.mem_append_right _ (List.mem_append_right _ (mem_pinsAt hb e)))).1, fun b hb => ?_, w7⟩
      obtain ⟨o, e, d⟩ := T.obj _ _ st5 b hb
      exact (I7.pin (b, o) (List.mem_append_right _ (List.mem_append_right _ (mem_pinsAt hb e)))).2.1
    cases f with
    | next => obtain ⟨σ7, H7, I7, n7⟩ := q7; exact again I7 n7
    | cont => obtain ⟨σ7, H7, I7, n7⟩ := q7; exact again I7 n7
    | brk => obtain ⟨σ7, H7, I7, q7⟩ := q7; exact ⟨σ7, H7, I7.unpinned, q7⟩
    | ret v => obtain ⟨x7, σ7, H7, I7, r7, q7⟩ := q7; exact ⟨x7, σ7, H7, I7.unpinned, r7, q7⟩
end
theorem for_list {K : PySem.W.Frag} {a : Addr} {xs : List V} {g : TG} {tb : TS} {D : Ends} {σ : St} {H : Hp} (Pv : Nat → St → Hp → Prop) (h0 : Pv 0 σ H) (hl : ∀ i σ H, i ≤ xs.length → Pv i σ H → SqL K H a xs)
    (hs : ∀ i x σ H, xs[i]? = some x → Pv i σ H → g x σ H fun σ2 H2 => tb { D with nx := Pv (i + 1), ct := Pv (i + 1), bk := D.nx } σ2 H2) (hd : ∀ σ H, Pv xs.length σ H → D.nx σ H) :
    ∃ W : Nat → Nat → St → Hp → Prop, (∃ m, W 0 m σ H) ∧ ∀ i m σ H, W i m σ H →
      ((Itl K a).stop i H ∧ D.nx σ H) ∨ ((Itl K a).go i H ∧ ∃ N : St → Hp → Prop, (∀ σ' H', N σ' H' → ∃ m', m' < m ∧ W (i + 1) m' σ' H') ∧ ∀ x H', (Itl K a).yld i H x H' → g x σ H' fun σ2 H2 => tb { D with nx := N, ct := N, bk := D.nx } σ2 H2) := by
  refine ⟨fun i m σ H => m = xs.length - i ∧ i ≤ xs.length ∧ Pv i σ H, ⟨xs.length, by simp, Nat.zero_le _, h0⟩, ?_⟩
  rintro i m σ H ⟨rfl, hi, p⟩
  have q := hl i σ H hi p
  by_cases hlt : i < xs.length
  · refine .inr ⟨⟨xs, xs[i], q, by simp [hlt]⟩, Pv (i + 1), fun σ' H' p' => ⟨xs.length - (i + 1), by omega, rfl, hlt, p'⟩, fun x H' y => ?_⟩
    obtain ⟨e, y⟩ := y
    subst e
    exact hs i x σ _ (y xs q) p
  · have e : i = xs.length := by omega
    subst e
    exact .inl ⟨⟨xs, q, Nat.le_refl _⟩, hd σ H p⟩
theorem for_tup {K : PySem.W.Frag} {a : Addr} {xs : List V} {g : TG} {tb : TS} {D : Ends} {σ : St} {H : Hp} (Pv : Nat → St → Hp → Prop) (h0 : Pv 0 σ H) (hl : ∀ i σ H, i ≤ xs.length → Pv i σ H → SqT K H a xs)
    (hs : ∀ i x σ H, xs[i]? = some x → Pv i σ H → g x σ H fun σ2 H2 => tb { D with nx := Pv (i + 1), ct := Pv (i + 1), bk := D.nx } σ2 H2) (hd : ∀ σ H, Pv xs.length σ H → D.nx σ H) :
    ∃ W : Nat → Nat → St → Hp → Prop, (∃ m, W 0 m σ H) ∧ ∀ i m σ H, W i m σ H →
      ((Itt K a).stop i H ∧ D.nx σ H) ∨ ((Itt K a).go i H ∧ ∃ N : St → Hp → Prop, (∀ σ' H', N σ' H' → ∃ m', m' < m ∧ W (i + 1) m' σ' H') ∧ ∀ x H', (Itt K a).yld i H x H' → g x σ H' fun σ2 H2 => tb { D with nx := N, ct := N, bk := D.nx } σ2 H2) := by
  refine ⟨fun i m σ H => m = xs.length - i ∧ i ≤ xs.length ∧ Pv i σ H, ⟨xs.length, by simp, Nat.zero_le _, h0⟩, ?_⟩
  rintro i m σ H ⟨rfl, hi, p⟩
  have q := hl i σ H hi p
  by_cases hlt : i < xs.length
  · refine .inr ⟨⟨xs, xs[i], q, by simp [hlt]⟩, Pv (i + 1), fun σ' H' p' => ⟨xs.length - (i + 1), by omega, rfl, hlt, p'⟩, fun x H' y => ?_⟩
    obtain ⟨e, y⟩ := y
    subst e
    exact hs i x σ _ (y xs q) p
  · have e : i = xs.length := by omega
    subst e
    exact .inl ⟨⟨xs, q, Nat.le_refl _⟩, hd σ H p⟩
theorem for_range {lo : Int} {n : Nat} {g : TG} {tb : TS} {D : Ends} {σ : St} {H : Hp} (Pv : Nat → St → Hp → Prop) (h0 : Pv 0 σ H)
    (hs : ∀ i σ H, i < n → Pv i σ H → g (.int (lo + i)) σ H fun σ2 H2 => tb { D with nx := Pv (i + 1), ct := Pv (i + 1), bk := D.nx } σ2 H2) (hd : ∀ σ H, Pv n σ H → D.nx σ H) :
    ∃ W : Nat → Nat → St → Hp → Prop, (∃ m, W 0 m σ H) ∧ ∀ i m σ H, W i m σ H →
      ((Itr lo n).stop i H ∧ D.nx σ H) ∨ ((Itr lo n).go i H ∧ ∃ N : St → Hp → Prop, (∀ σ' H', N σ' H' → ∃ m', m' < m ∧ W (i + 1) m' σ' H') ∧ ∀ x H', (Itr lo n).yld i H x H' → g x σ H' fun σ2 H2 => tb { D with nx := N, ct := N, bk := D.nx } σ2 H2) := by
  refine ⟨fun i m σ H => m = n - i ∧ i ≤ n ∧ Pv i σ H, ⟨n, by simp, Nat.zero_le _, h0⟩, ?_⟩
  rintro i m σ H ⟨rfl, hi, p⟩
  by_cases hlt : i < n
  · refine .inr ⟨hlt, Pv (i + 1), fun σ' H' p' => ⟨n - (i + 1), by omega, rfl, hlt, p'⟩, fun x H' y => ?_⟩
    obtain ⟨e, y⟩ := y
    subst e y
    exact hs i σ _ hlt p
  · have e : i = n := by omega
    subst e
    exact .inl ⟨Nat.le_refl _, hd σ H p⟩
theorem while_by {c : TT} {tb : TS} {D : Ends} {σ : St} {H : Hp} (Pv : St → Hp → Prop) (μ : St → Hp → Nat) (h0 : Pv σ H)
    (hs : ∀ σ H, Pv σ H → c σ H fun b H1 => if b = true then tb { D with nx := fun σ' H' => Pv σ' H' ∧ μ σ' H' < μ σ H, ct := fun σ' H' => Pv σ' H' ∧ μ σ' H' < μ σ H, bk := D.nx } σ H1 else D.nx σ H1)
    (mono : ∀ σ H Q Q', (∀ b H1, Q b H1 → Q' b H1) → c σ H Q → c σ H Q') : tWhile c tb D σ H := by
  refine ⟨fun m σ H => m = μ σ H ∧ Pv σ H, ⟨_, rfl, h0⟩, ?_⟩
  rintro m σ H ⟨rfl, p⟩
  refine mono σ H _ _ (fun b H1 q => ?_) (hs σ H p)
  cases b with
  | true => exact ⟨_, fun σ' H' ⟨p', l⟩ => ⟨_, l, rfl, p'⟩, q⟩
  | false => exact q
end L2
namespace L2
open PySem PySem.Spec PyProof.Rows
abbrev R2 := V → V → Hp → VK → Prop
def OpR (X : Cx) (f : Value → Value → Sem Value) (r : R2) : Prop :=
  ∀ (pins : List (Addr × Obj)) (s : Shared) (σ : St) (H : Hp) (x y : V) (v u : Value) (Q : VK), Inv X pins σ H s → RelV x v → RelV y u → r x y H Q →
    wpAny (model X.prog X.w) X.A (f v u) (EP X pins σ Q) X.xe s
def UnR (X : Cx) (f : Value → Sem Value) (r : V → Hp → VK → Prop) : Prop :=
  ∀ (pins : List (Addr × Obj)) (s : Shared) (σ : St) (H : Hp) (x : V) (v : Value) (Q : VK), Inv X pins σ H s → RelV x v → r x H Q →
    wpAny (model X.prog X.w) X.A (f v) (EP X pins σ Q) X.xe s
def CallR (X : Cx) (f : Value) (r : List V → Hp → VK → Prop) : Prop :=
  ∀ (pins : List (Addr × Obj)) (s : Shared) (σ : St) (H : Hp) (xs : List V) (us : List Value) (Q : VK), Inv X pins σ H s → Vals xs us → r xs H Q →
    wpAny (model X.prog X.w) X.A (call f us) (EP X pins σ Q) X.xe s
def TruR (X : Cx) (r : V → Hp → (Bool → Hp → Prop) → Prop) : Prop :=
  ∀ (pins : List (Addr × Obj)) (s : Shared) (σ : St) (H : Hp) (x : V) (v : Value) (Q : Bool → Hp → Prop), Inv X pins σ H s → RelV x v → r x H Q →
    wpAny (model X.prog X.w) X.A (truthy v) (TP X pins σ Q) X.xe s
def tOp (r : R2) (ta tb : TE) : TE := fun σ H Q => ta σ H fun x H1 => tb σ H1 fun y H2 => r x y H2 Q
def tUn (r : V → Hp → VK → Prop) (ta : TE) : TE := fun σ H Q => ta σ H fun x H1 => r x H1 Q
def rI (C : Int → Int → Prop) (g : Int → Int → V) : R2 := fun x y H Q => ∃ i j, x = .int i ∧ y = .int j ∧ C i j ∧ Q (g i j) H
def rI0 (g : Int → Int → V) : R2 := fun x y H Q => ∃ i j, x = .int i ∧ y = .int j ∧ Q (g i j) H
def rU (g : Int → V) : V → Hp → VK → Prop := fun x H Q => ∃ i, x = .int i ∧ Q (g i) H
section
variable {X : Cx} {a b c : Expr} {ta tb tc : TE} {pos : Pos}
theorem binT (ha : PE X a ta) (hb : PE X b tb) {pins : List (Addr × Obj)} {s : Shared} {σ : St} {H : Hp} {R : V → V → Hp → Prop} (I : Inv X pins σ H s)
    (h : ta σ H fun x H1 => tb σ H1 fun y H2 => R x y H2) {Q : Value → Shared → Prop} {f : Value → Value → Sem Value}
    (hf : ∀ v u s2 x y H2, Inv X pins σ H2 s2 → RelV x v → RelV y u → R x y H2 → wpAny (model X.prog X.w) X.A (f v u) Q X.xe s2) :
    wpAny (model X.prog X.w) X.A (eval a X.env) (fun v s₁ => wpAny (model X.prog X.w) X.A (eval b X.env) (fun u s₂ => wpAny (model X.prog X.w) X.A (f v u) Q X.xe s₂) X.xe s₁) X.xe s := by
  refine thn (ha pins s σ H _ I h) fun v s1 ⟨x, H1, I1, r1, q1⟩ => ?_
  refine thn (hb pins s1 σ H1 _ I1 q1) fun u s2 ⟨y, H2, I2, r2, q2⟩ => ?_
  exact hf v u s2 x y H2 I2 r1 r2 q2
theorem pe_op {op : Operator} {r : R2} (ho : OpR X (binaryOp op) r) (ha : PE X a ta) (hb : PE X b tb) : PE X (.BinOp a op b pos) (tOp r ta tb) := by
  intro pins s σ H Q I h
  exact wpAny_BinOp (binT ha hb I h fun v u s2 x y H2 I2 rx ry q => ho pins s2 σ H2 x y v u Q I2 rx ry q)
theorem pe_un {op : UnaryOp} {r : V → Hp → VK → Prop} (ho : UnR X (unaryOp op) r) (ha : PE X a ta) : PE X (.UnaryOp op a pos) (tUn r ta) := by
  intro pins s σ H Q I h
  exact UnaryOp_ (thn (ha pins s σ H _ I h) fun v s1 ⟨x, H1, I1, r1, q1⟩ => ho pins s1 σ H1 x v Q I1 r1 q1)
theorem opI {f : Value → Value → Sem Value} {C : Int → Int → Prop} {g : Int → Int → Int}
    (rule : ∀ (i j : Int) (t u : Tok) (s : Shared) (Q : Value → Shared → Prop) (E : Value → Shared → Prop), C i j → Q (.int (g i j) s.toks) { s with toks := s.toks + 1 } → wpAny (model X.prog X.w) X.A (f (.int i t) (.int j u)) Q E s) :
    OpR X f (rI C fun i j => .int (g i j)) := by
  intro pins s σ H x y v u Q I rx ry h
  obtain ⟨i, j, rfl, rfl, hc, q⟩ := h
  obtain ⟨t, rfl⟩ := rx
  obtain ⟨t', rfl⟩ := ry
  exact rule i j t t' s _ _ hc ⟨.int (g i j), H, I.tok _, ⟨_, rfl⟩, q⟩
theorem opI0 {f : Value → Value → Sem Value} {g : Int → Int → Int}
    (rule : ∀ (i j : Int) (t u : Tok) (s : Shared) (Q : Value → Shared → Prop) (E : Value → Shared → Prop), Q (.int (g i j) s.toks) { s with toks := s.toks + 1 } → wpAny (model X.prog X.w) X.A (f (.int i t) (.int j u)) Q E s) :
    OpR X f (rI0 fun i j => .int (g i j)) := by
  intro pins s σ H x y v u Q I rx ry h
  obtain ⟨i, j, rfl, rfl, q⟩ := h
  obtain ⟨t, rfl⟩ := rx
  obtain ⟨t', rfl⟩ := ry
  exact rule i j t t' s _ _ ⟨.int (g i j), H, I.tok _, ⟨_, rfl⟩, q⟩
theorem opB0 {f : Value → Value → Sem Value} {g : Int → Int → Bool}
    (rule : ∀ (i j : Int) (t u : Tok) (s : Shared) (Q : Value → Shared → Prop) (E : Value → Shared → Prop), Q (.bool (g i j)) s → wpAny (model X.prog X.w) X.A (f (.int i t) (.int j u)) Q E s) :
    OpR X f (rI0 fun i j => .bl (g i j)) := by
  intro pins s σ H x y v u Q I rx ry h
  obtain ⟨i, j, rfl, rfl, q⟩ := h
  obtain ⟨t, rfl⟩ := rx
  obtain ⟨t', rfl⟩ := ry
  exact rule i j t t' s _ _ ⟨.bl (g i j), H, I, rfl, q⟩
def CDiv (i j : Int) : Prop := 0 < j ∧ j < 1073741824
def CPow (i j : Int) : Prop := 0 ≤ j ∧ j ≤ 1000000 ∧ i.natAbs < 2 ^ 64
def CMul (i j : Int) : Prop := (-(2 ^ 64) < i ∧ i < 2 ^ 64) ∨ (-(2 ^ 64) < j ∧ j < 2 ^ 64)
theorem CMul.ok {i j : Int} (h : CMul i j) : IntMulOk i j := by
  rcases h with ⟨h1, h2⟩ | ⟨h1, h2⟩
  · exact .of_left (intBits_le_64 h1 h2)
  · exact .of_right (intBits_le_64 h1 h2)
theorem op_add : OpR X (binaryOp .Add) (rI0 fun i j => .int (i + j)) := opI0 fun _ _ _ _ _ _ _ q => add_int q
theorem op_sub : OpR X (binaryOp .Sub) (rI0 fun i j => .int (i - j)) := opI0 fun _ _ _ _ _ _ _ q => sub_int q
theorem op_mul : OpR X (binaryOp .Mult) (rI CMul fun i j => .int (i * j)) := opI fun _ _ _ _ _ _ _ hc q => mul_int q hc.ok
theorem op_fdiv : OpR X (binaryOp .FloorDiv) (rI CDiv fun i j => .int (i / j)) := opI fun i j _ _ _ _ _ hc q => by
  have h1 : (0 : Int) < j := hc.1
  have h2 : j < 1073741824 := hc.2
  exact floordiv_int (by omega) (by rw [Int.fdiv_eq_ediv_of_nonneg i (by omega)]; exact q) (.inl (PyProof.noPylong_small (by omega)))
theorem op_mod : OpR X (binaryOp .Mod) (rI (fun _ j => 0 < j) fun i j => .int (i % j)) := opI fun i j _ _ _ _ _ hc q => by
  have h1 : (0 : Int) < j := hc
  exact mod_int' (by omega) (by rw [Int.fmod_eq_emod_of_nonneg i (by omega)]; exact q)
theorem op_pow : OpR X (binaryOp .Pow) (rI CPow fun i j => .int (i ^ j.toNat)) := opI fun _ _ _ _ _ _ _ hc q => pow_int_small hc.1 hc.2.1 hc.2.2 q
theorem unI {f : Value → Sem Value} {g : Int → Int}
    (rule : ∀ (i : Int) (t : Tok) (s : Shared) (Q : Value → Shared → Prop) (E : Value → Shared → Prop), Q (.int (g i) s.toks) { s with toks := s.toks + 1 } → wpAny (model X.prog X.w) X.A (f (.int i t)) Q E s) :
    UnR X f (rU fun i => .int (g i)) := by
  intro pins s σ H x v Q I rx h
  obtain ⟨i, rfl, q⟩ := h
  obtain ⟨t, rfl⟩ := rx
  exact rule i t s _ _ ⟨.int (g i), H, I.tok _, ⟨_, rfl⟩, q⟩
theorem un_neg : UnR X (unaryOp .USub) (rU fun i => .int (-i)) := unI fun _ _ _ _ _ q => neg_int q
end
def scal : V → V → Bool
  | .non, .non => true | .non, .int _ => true | .int _, .non => true | .non, .bl _ => true | .bl _, .non => true | .non, .str _ => true | .str _, .non => true
  | .int _, .int _ => true | .bl _, .bl _ => true | .str _, .str _ => true | .byt _, .byt _ => true
  | .int _, .str _ => true | .str _, .int _ => true | .bl _, .str _ => true | .str _, .bl _ => true
  | _, _ => false
def rEq : R2 := fun x y H Q => scal x y = true ∧ Q (.bl (decide (x = y))) H
def rNe : R2 := fun x y H Q => scal x y = true ∧ Q (.bl (!decide (x = y))) H
theorem dec_int {i j : Int} : decide (V.int i = V.int j) = (i == j) := by
  rw [Bool.eq_iff_iff]
  simp
theorem dec_bl {i j : Bool} : decide (V.bl i = V.bl j) = (i == j) := by
  rw [Bool.eq_iff_iff]
  simp
theorem dec_str {i j : Str} : decide (V.str i = V.str j) = (i == j) := by
  rw [Bool.eq_iff_iff]
  simp
theorem dec_byt {i j : Array UInt8} : decide (V.byt i = V.byt j) = (i.toList == j.toList) := by
  rw [Bool.eq_iff_iff]
  cases i
  cases j
  simp
section
variable {X : Cx} {a b c : Expr} {ta tb tc : TE} {pos : Pos}
theorem fin_bl {pins : List (Addr × Obj)} {σ : St} {H : Hp} {s : Shared} {Q : VK} {k k' : Bool} (I : Inv X pins σ H s) (q : Q (.bl k) H) (e : k = k') : EP X pins σ Q (.bool k') s := by
  subst e
  exact ⟨.bl k, H, I, rfl, q⟩
theorem op_eq : OpR X (compareOp .Eq) rEq := by
  intro pins s σ H x y v u Q I rx ry h
  obtain ⟨hs, q⟩ := h
  cases x with
  | non =>
    cases rx
    cases y with
    | non => cases ry; exact PySem.EqNone.eq_none_none (fin_bl I q (by simp))
    | bl j => cases ry; exact PySem.EqNone.eq_none_bool (fin_bl I q (by simp))
    | int j => obtain ⟨t', rfl⟩ := ry; exact PySem.EqNone.eq_none_int (fin_bl I q (by simp))
    | str j => obtain ⟨t', rfl⟩ := ry; exact PySem.EqNone.eq_none_str (fin_bl I q (by simp))
    | _ => exact absurd (show false = true from hs) Bool.false_ne_true
  | bl i =>
    cases rx
    cases y with
    | non => cases ry; exact PySem.EqNone.eq_bool_none (fin_bl I q (by simp))
    | bl j => cases ry; exact eq_bool (fin_bl I q dec_bl)
    | str j => obtain ⟨t', rfl⟩ := ry; exact PySem.EqMixed.eq_bool_str (fin_bl I q (by simp))
    | _ => exact absurd (show false = true from hs) Bool.false_ne_true
  | int i =>
    obtain ⟨t, rfl⟩ := rx
    cases y with
    | non => cases ry; exact PySem.EqNone.eq_int_none (fin_bl I q (by simp))
    | int j => obtain ⟨t', rfl⟩ := ry; exact eq_int (fin_bl I q dec_int)
    | str j => obtain ⟨t', rfl⟩ := ry; exact PySem.EqMixed.eq_int_str (fin_bl I q (by simp))
    | _ => exact absurd (show false = true from hs) Bool.false_ne_true
  | str i =>
    obtain ⟨t, rfl⟩ := rx
    cases y with
    | non => cases ry; exact PySem.EqNone.eq_str_none (fin_bl I q (by simp))
    | bl j => cases ry; exact PySem.EqMixed.eq_str_bool (fin_bl I q (by simp))
    | int j => obtain ⟨t', rfl⟩ := ry; exact PySem.EqMixed.eq_str_int (fin_bl I q (by simp))
    | str j => obtain ⟨t', rfl⟩ := ry; exact eq_str (fin_bl I q dec_str)
    | _ => exact absurd (show false = true from hs) Bool.false_ne_true
  | byt i =>
    obtain ⟨t, rfl⟩ := rx
    cases y with
    | byt j => obtain ⟨t', rfl⟩ := ry; exact PySem.W.eq_bytes (fin_bl I q dec_byt)
    | _ => exact absurd (show false = true from hs) Bool.false_ne_true
  | _ => cases y <;> exact absurd (show false = true from hs) Bool.false_ne_true
theorem op_ne : OpR X (compareOp .NotEq) rNe := by
  intro pins s σ H x y v u Q I rx ry h
  obtain ⟨hs, q⟩ := h
  cases x with
  | non =>
    cases rx
    cases y with
    | non => cases ry; exact PySem.EqNone.ne_none_none (fin_bl I q (by simp))
    | bl j => cases ry; exact PySem.EqNone.ne_none_bool (fin_bl I q (by simp))
    | int j => obtain ⟨t', rfl⟩ := ry; exact PySem.EqNone.ne_none_int (fin_bl I q (by simp))
    | str j => obtain ⟨t', rfl⟩ := ry; exact PySem.EqNone.ne_none_str (fin_bl I q (by simp))
    | _ => exact absurd (show false = true from hs) Bool.false_ne_true
  | bl i =>
    cases rx
    cases y with
    | non => cases ry; exact PySem.EqNone.ne_bool_none (fin_bl I q (by simp))
    | bl j => cases ry; exact ne_bool (fin_bl I q (congrArg not dec_bl))
    | str j => obtain ⟨t', rfl⟩ := ry; exact PySem.EqMixed.ne_bool_str (fin_bl I q (by simp))
    | _ => exact absurd (show false = true from hs) Bool.false_ne_true
  | int i =>
    obtain ⟨t, rfl⟩ := rx
    cases y with
    | non => cases ry; exact PySem.EqNone.ne_int_none (fin_bl I q (by simp))
    | int j => obtain ⟨t', rfl⟩ := ry; exact ne_int (fin_bl I q (congrArg not dec_int))
    | str j => obtain ⟨t', rfl⟩ := ry; exact PySem.EqMixed.ne_int_str (fin_bl I q (by simp))
    | _ => exact absurd (show false = true from hs) Bool.false_ne_true
  | str i =>
    obtain ⟨t, rfl⟩ := rx
    cases y with
    | non => cases ry; exact PySem.EqNone.ne_str_none (fin_bl I q (by simp))
    | bl j => cases ry; exact PySem.EqMixed.ne_str_bool (fin_bl I q (by simp))
    | int j => obtain ⟨t', rfl⟩ := ry; exact PySem.EqMixed.ne_str_int (fin_bl I q (by simp))
    | str j => obtain ⟨t', rfl⟩ := ry; exact ne_str (fin_bl I q (congrArg not dec_str))
    | _ => exact absurd (show false = true from hs) Bool.false_ne_true
  | byt i =>
    obtain ⟨t, rfl⟩ := rx
    cases y with
    | byt j => obtain ⟨t', rfl⟩ := ry; exact PySem.W.ne_bytes (fin_bl I q (congrArg not dec_byt))
    | _ => exact absurd (show false = true from hs) Bool.false_ne_true
  | _ => cases y <;> exact absurd (show false = true from hs) Bool.false_ne_true
theorem op_lt : OpR X (compareOp .Lt) (rI0 fun i j => .bl (decide (i < j))) := opB0 fun _ _ _ _ _ _ _ q => lt_int q
theorem op_gt : OpR X (compareOp .Gt) (rI0 fun i j => .bl (decide (j < i))) := opB0 fun _ _ _ _ _ _ _ q => gt_int q
theorem op_in_str : OpR X (compareOp .In) (fun x y H Q => ∃ i j, x = .str i ∧ y = .str j ∧ Q (.bl (!(Builtin.Str.occurrences j i 0 j.length 1).isEmpty)) H) := by
  intro pins s σ H x y v u Q I rx ry h
  obtain ⟨i, j, rfl, rfl, q⟩ := h
  obtain ⟨t, rfl⟩ := rx
  obtain ⟨t', rfl⟩ := ry
  exact in_str (fin_bl I q rfl)
theorem op_isN : OpR X (compareOp .Is) (fun x y H Q => y = .non ∧ Q (.bl (decide (x = .non))) H) := by
  intro pins s σ H x y v u Q I rx ry h
  obtain ⟨rfl, q⟩ := h
  cases ry
  refine is_none_gen (fin_bl I q ?_)
  cases x <;> first
    | (cases rx; rfl)
    | (obtain ⟨t, rfl⟩ := rx; rfl)
theorem nomark (b : Expr) {op : CmpOp} (h : op ≠ .In := by decide) (h2 : op ≠ .NotIn := by decide) : behindInMarks op b = false := by
  have e1 : (op == CmpOp.In) = false := by cases op <;> first | rfl | exact absurd rfl h
  have e2 : (op == CmpOp.NotIn) = false := by cases op <;> first | rfl | exact absurd rfl h2
  cases b <;> simp [behindInMarks, e1, e2]
theorem pe_cmpR {op : CmpOp} {r : R2} (ho : OpR X (compareOp op) r) (ha : PE X a ta) (hb : PE X b tb) (hm : behindInMarks op b = false) : PE X (.Compare a [op] [b] pos) (tOp r ta tb) := by
  intro pins s σ H Q I h
  exact wpAny_Compare1 (binT ha hb I h fun v u s2 x y H2 I2 rx ry q => ho pins s2 σ H2 x y v u Q I2 rx ry q) hm
def tTest (t : TE) : TT := fun σ H Q => t σ H fun x H' => ∃ k, x = .bl k ∧ Q k H'
theorem pt_cmpR {op : CmpOp} {r : R2} (ho : OpR X (compareOp op) r) (ha : PE X a ta) (hb : PE X b tb) (hm : behindInMarks op b = false) : PT X (.Compare a [op] [b] pos) (tTest (tOp r ta tb)) := by
  intro pins s σ H Q I h
  refine wpAny_isTrue_Compare1 (thn (ha pins s σ H _ I h) fun v s1 ⟨x, H1, I1, r1, q1⟩ => thn (hb pins s1 σ H1 _ I1 q1) fun u s2 ⟨y, H2, I2, r2, q2⟩ =>
    thn (ho pins s2 σ H2 x y v u _ I2 r1 r2 q2) fun c s3 ⟨z, H3, I3, r3, k, e, q3⟩ => ?_) hm
  subst e
  cases r3
  exact wpAny_truthy_bool ⟨H3, I3, q3⟩
def TruV (K : PySem.W.Frag) (x : V) (H : Hp) (k : Bool) : Prop :=
  match x with
  | .non => k = false
  | .bl b => k = b
  | .int i => k = (i != 0)
  | .str y => y.length ≤ sizeLine ∧ k = ((y.length : Int) != 0)
  | .byt y => y.size ≤ sizeLine ∧ k = ((y.size : Int) != 0)
  | .ref p => (∃ xs, SqL K H p xs ∧ k = !xs.isEmpty) ∨ (∃ xs, SqT K H p xs ∧ k = !xs.isEmpty) ∨ ∃ kvs, H p = some (.dK kvs) ∧ k = !kvs.isEmpty
  | _ => False
theorem isEmpty_kv {κ : Type} {kvs : List (κ × V)} {vs : List (κ × Value)} (r : KV kvs vs) : (!vs.isEmpty) = !kvs.isEmpty := by
  cases r <;> rfl
theorem isEmpty_of {xs : List V} {its : List Value} (r : Vals xs its) : (!its.toArray.isEmpty) = !xs.isEmpty := by
  cases r <;> simp
theorem line63 : (sizeLine : Nat) < 2 ^ 63 := by rw [sizeLine_eq]; decide
theorem tru_ok : TruR X (fun x H Q => ∃ k, TruV X.K x H k ∧ Q k H) := by
  intro pins s σ H x v Q I rx h
  obtain ⟨k, e, q⟩ := h
  have hl := line63
  have hs : sizeLine = 16777216 := sizeLine_eq
  cases x with
  | non =>
    cases rx
    have e' : k = false := e
    subst e'
    exact truthy_none ⟨H, I, q⟩
  | bl b =>
    cases rx
    have e' : k = b := e
    subst e'
    exact wpAny_truthy_bool ⟨H, I, q⟩
  | int i =>
    obtain ⟨t, rfl⟩ := rx
    have e' : k = (i != 0) := e
    subst e'
    exact PySem.P.truthy_int ⟨H, I, q⟩
  | str y =>
    obtain ⟨t, rfl⟩ := rx
    obtain ⟨hy, e'⟩ : y.length ≤ sizeLine ∧ k = ((y.length : Int) != 0) := e
    subst e'
    exact PySem.P.truthy_str (by omega) ⟨H, I.tok _, q⟩
  | byt y =>
    obtain ⟨t, rfl⟩ := rx
    obtain ⟨hy, e'⟩ : y.size ≤ sizeLine ∧ k = ((y.size : Int) != 0) := e
    subst e'
    exact PySem.W.truthy_bytes (by omega) ⟨H, I.tok _, q⟩
  | ref p =>
    cases rx
    have e' : (∃ xs, SqL X.K H p xs ∧ k = !xs.isEmpty) ∨ (∃ xs, SqT X.K H p xs ∧ k = !xs.isEmpty) ∨ ∃ kvs, H p = some (.dK kvs) ∧ k = !kvs.isEmpty := e
    rcases e' with ⟨xs, hx, e'⟩ | ⟨xs, hx, e'⟩ | ⟨kvs, hx, e'⟩
    · subst e'
      obtain ⟨its, r, pl, hz⟩ := I.list hx
      have hlen := r.length
      exact wpAny_truthy_list pl.isList (by simp only [List.size_toArray]; omega) ⟨H, I.tok _, by rw [isEmpty_of r]; exact q⟩
    · subst e'
      obtain ⟨its, r, pl, hz⟩ := I.tuple hx
      have hlen := r.length
      exact truthy_tuple pl (by simp only [List.size_toArray]; omega) ⟨H, I.tok _, by rw [isEmpty_of r]; exact q⟩
    · subst e'
      obtain ⟨hz, hS, vs, r, m⟩ : kvs.length ≤ sizeLine ∧ (p == sysModules) = false ∧ ∃ vs, KV kvs vs ∧ s.heap.DictOf (mixKind X.prog X.w) p vs := I.hok p _ hx
      have hlen : kvs.length = vs.length := Paired.length r
      exact wpAny_truthy_dict hS m (by omega) ⟨H, I.tok _, by rw [isEmpty_kv r]; exact q⟩
  | _ => exact (show False from e).elim
theorem pt_truth (ha : PE X a ta) (he : ∀ whole, isTrue a X.env whole = (do let v ← whole; standAt a.pos; holding [v] (truthy v))) :
    PT X a (fun σ H Q => ta σ H fun x H' => ∃ k, TruV X.K x H' k ∧ Q k H') := by
  intro pins s σ H Q I h
  exact isTrue_plain (thn (ha pins s σ H _ I h) fun v s1 ⟨x, H1, I1, r1, q1⟩ => tru_ok pins s1 σ H1 x v Q I1 r1 q1) (he _)
theorem op_add_str : OpR X (binaryOp .Add) (fun x y H Q => ∃ i j, x = .str i ∧ y = .str j ∧ i.length + j.length ≤ sizeLine ∧ Q (.str (i ++ j)) H) := by
  intro pins s σ H x y v u Q I rx ry h
  obtain ⟨i, j, rfl, rfl, hz, q⟩ := h
  obtain ⟨t, rfl⟩ := rx
  obtain ⟨t', rfl⟩ := ry
  exact add_str (fun t' tk => ⟨.str (i ++ j), H, I.tok _, ⟨_, rfl⟩, q⟩) hz
theorem vals1 {x : V} {us : List Value} (r : Vals [x] us) : ∃ u, us = [u] ∧ RelV x u := by
  cases r with
  | cons r1 r2 => cases r2; exact ⟨_, rfl, r1⟩
theorem vals2 {x y : V} {us : List Value} (r : Vals [x, y] us) : ∃ u w', us = [u, w'] ∧ RelV x u ∧ RelV y w' := by
  cases r with
  | cons r1 r2 =>
    cases r2 with
    | cons r3 r4 => cases r4; exact ⟨_, _, rfl, r1, r3⟩
theorem call_min2 (hc : X.calm = true) : CallR X (.builtin "min") (fun xs H Q => ∃ i j, xs = [.int i, .int j] ∧ Q (.int (if j < i then j else i)) H) := by
  intro pins s σ H xs us Q I r h
  obtain ⟨i, j, rfl, q⟩ := h
  obtain ⟨u, w', rfl, ⟨t, rfl⟩, ⟨t', rfl⟩⟩ := vals2 r
  refine min_two_ints (I.ok.hd hc) fun h' tk k => ⟨_, H, I.kept k, ?_, q⟩
  by_cases hj : j < i
  · rw [if_pos hj, if_pos hj]; exact ⟨_, rfl⟩
  · rw [if_neg hj, if_neg hj]; exact ⟨_, rfl⟩
end
end L2
namespace L2
open PySem PySem.Spec PyProof.Rows
structure ObjM (h : Heap) (x dx C : Addr) (mA : Str → Option Value) : Prop where
  obj : h.get? x = some (PySem.W.instObj C dx)
  ns : h.Ns1 dx mA
  ne : dx ≠ x
theorem lookIn_ns {h : Heap} {dx : Addr} {mA : Str → Option Value} (n : h.Ns1 dx mA) : ∃ od, h.get? dx = some od ∧ ∀ name, PySem.W.lookIn name od = some (mA name) := by
  obtain ⟨o, es, ep, ho, hd, hk, _, hm⟩ := n
  refine ⟨o, ho, fun name => ?_⟩
  have e := hm name
  unfold nsFind findBy at e
  rw [← Array.find?_toList] at e
  unfold PySem.W.lookIn
  rw [hd]
  dsimp only
  split
  · rename_i y q
    rw [q] at e
    exact congrArg some e
  · rename_i q
    rw [q] at e
    have a : es.toList.any (·.refKey) = false := by
      rw [List.any_eq_false]
      intro y hy
      obtain ⟨z, t, hkey⟩ := hk y (Array.mem_toList_iff.mp hy)
      simp [DictEntry.refKey, hkey]
    have a' : ¬ es.toList.any (·.refKey) = true := by rw [a]; exact Bool.false_ne_true
    rw [if_neg a']
    exact congrArg some e
theorem ObjM.look {h : Heap} {x dx C : Addr} {mA : Str → Option Value} (I : ObjM h x dx C mA) : ∃ od, PySem.W.InstAt h x (PySem.W.instObj C dx) C (some od) ∧ ∀ name, PySem.W.lookIn name od = some (mA name) :=
  let ⟨od, ho, hl⟩ := lookIn_ns I.ns
  ⟨od, ⟨I.obj, rfl, rfl, ho⟩, hl⟩
section
variable {prog : Program} {w : World} {A : Around} {E : Value → Shared → Prop} {s : Shared} {K : PySem.W.Frag} {x dx C f : Addr} {mA : Str → Option Value} {name : Str} {v : Value}
theorem get_map {expr : Bool} {Q : Value → Shared → Prop} (X : K.In s.heap) (I : ObjM s.heap x dx C mA) (hg : PySem.W.plainGet K C name = true) (hh : PySem.W.hasDictIn K C = true)
    (ha : PySem.W.findIn K (.ref C) name = some none) (hv : mA name = some v) (hv' : PySem.W.handedIn v = true) (h : Q v { s with toks := s.toks + 1 }) :
    wpAny (model prog w) A (getAttr (.ref x) name expr) Q E s := by
  obtain ⟨od, J, hl⟩ := I.look
  exact PySem.W.get_value X J (PySem.W.plainGet_of hg).1 (PySem.W.findObj_own hh ha rfl (by rw [hl, hv])) hv' h
theorem get_meth {pl : Sem Bool} {Q : Value × List Value → Shared → Prop} (X : K.In s.heap) (I : ObjM s.heap x dx C mA) (hg : PySem.W.plainGet K C name = true)
    (hf : PySem.W.findIn K (.ref C) name = some (some (.ref f))) (ht : PySem.W.isFn K (.ref f) = true) (hv : mA name = none) (h : Q (.ref f, [.ref x]) s) :
    wpAny (model prog w) A (getMethod (.ref x) name pl) Q E s := by
  obtain ⟨od, J, hl⟩ := I.look
  exact PySem.W.method_fn X J (PySem.W.plainGet_of hg).1 (PySem.W.plainGet_of hg).2 hf (beq_iff_eq.mp ht) (by show (PySem.W.lookIn name od).map (·.isSome) = some false; rw [hl, hv]; rfl) h
theorem set_map {ns : List Str} {Q : Unit → Shared → Prop} (X : K.In s.heap) (I : ObjM s.heap x dx C mA)
    (hs : PySem.W.findIn K (.ref C) "__setattr__" = some (some (.builtin "object.__setattr__"))) (hp : PySem.W.plainOver K C = true) (ht : PySem.W.takerIn K C name = some none) (hh : PySem.W.hasDictIn K C = true)
    (hw : PySem.Within mA ns) (hsz : ns.length ≤ sizeLine)
    (h : ∀ h', ObjM h' x dx C (fun y => if y = name then some v else mA y) → Heap.SameBut dx s.heap h' → Q () { s with heap := h', toks := s.toks + 2 }) :
    wpAny (model prog w) A (setAttr (.ref x) name v) Q E s := by
  obtain ⟨od, J, hl⟩ := I.look
  refine PySem.W.set_plain X J hs (PySem.W.osa_open (s := { s with toks := s.toks + 1 }) (r := none) X J hp ht fun b => ?_)
  obtain ⟨cd, hc, hd'⟩ := PySem.W.any_some hh
  have hx : s.heap.get? x = some ⟨.ref C, some dx, .plain, #[]⟩ := I.obj
  refine wpAny_bind (wpAny_pure (wpAny_bind (wpAny_bind (wpAny_loadPart hx (wpAny_bind (PySem.W.Looks.here (s := { s with toks := s.toks + 1 }) (PySem.W.looks_clsIn X hc) ?_))))))
  rw [hd']
  refine wpAny_pure (a := some dx) (wpAny_bind (wpAny_pure (wpAny_bind ?_)))
  refine wpAny_nsSet1 (s := { s with toks := s.toks + 1 }) I.ns fun h' hn2 hs2 => ?_
  obtain ⟨oD, esD, epD, hoD, hdD, hcD⟩ := hn2.count (PySem.Within.cons name v hw)
  refine wpAny_bind (wpAny_lookBehind hoD (by rw [hdD]; exact pastItsLine_dict (Nat.le_trans hcD (by rw [List.length_cons]; omega))) ?_)
  exact wpAny_pure (h _ ⟨(hs2.2 _ (Ne.symm I.ne)).trans I.obj, hn2, I.ne⟩ hs2)
theorem make_map {R : Result → Shared → Prop} {vs : List Value} {kw : List (Str × Value)} (X : K.In s.heap) (hm : PySem.W.makesIn K C = true)
    (hi : PySem.W.findIn K (.ref C) "__init__" = some (some (.ref f))) (hf : PySem.W.typeIn K (.ref f) = some (.type "function"))
    (h : codeAny (model prog w) (A.under (.builtin "type.__call__" ⟨.ref C :: vs, kw⟩)) (.call (.ref f) ⟨.ref (s.heap.objs.size + 1) :: vs, kw⟩) (PySem.W.InitBack (s.heap.objs.size + 1) R)
      { s with heap := (s.heap.push PySem.W.emptyDict).push (PySem.W.instObj C s.heap.objs.size) }) :
    codeAny (model prog w) A (.call (.ref C) ⟨vs, kw⟩) R s := by
  obtain ⟨hh, g, d, t, os⟩ := s
  exact PySem.W.make_core (PySem.W.makes_of X hm) (PySem.W.looks_findIn X hi) (fun self => PySem.W.bind_fn X self hf) (.inl rfl) h
end
def putF (f : Str) (v : V) : List (Str × V) → List (Str × V)
  | [] => [(f, v)]
  | (g, x) :: r => if g = f then (g, v) :: r else (g, x) :: putF f v r
theorem lookup_putF (f g : Str) (v : V) : ∀ fs : List (Str × V), (putF f v fs).lookup g = if g = f then some v else fs.lookup g
  | [] => by
    show List.lookup g [(f, v)] = _
    by_cases h : g = f
    · have hb : (g == f) = true := beq_iff_eq.mpr h
      simp only [List.lookup, hb, if_pos h]
    · have hb : (g == f) = false := beq_eq_false_iff_ne.mpr h
      simp only [List.lookup, hb, if_neg h]
  | (k, x) :: r => by
    have ih := lookup_putF f g v r
    rw [show putF f v ((k, x) :: r) = (if k = f then (k, v) :: r else (k, x) :: putF f v r) from rfl]
    by_cases hk : k = f
    · rw [if_pos hk]
      by_cases h : g = k
      · have hb : (g == k) = true := beq_iff_eq.mpr h
        simp only [List.lookup, hb, if_pos (h.trans hk)]
      · have hb : (g == k) = false := beq_eq_false_iff_ne.mpr h
        simp only [List.lookup, hb, if_neg (fun e : g = f => h (e.trans hk.symm))]
    · rw [if_neg hk]
      by_cases h : g = k
      · have hb : (g == k) = true := beq_iff_eq.mpr h
        simp only [List.lookup, hb, if_neg (fun e : g = f => hk (h.symm.trans e))]
      · have hb : (g == k) = false := beq_eq_false_iff_ne.mpr h
        simp only [List.lookup, hb]
        exact ih
theorem keys_putF (f : Str) (v : V) : ∀ fs : List (Str × V), f ∈ (putF f v fs).map (·.1) ∧ ∀ g, g ∈ fs.map (·.1) → g ∈ (putF f v fs).map (·.1)
  | [] => ⟨by simp [putF], fun g h => by simp at h⟩
  | (k, x) :: r => by
    obtain ⟨i1, i2⟩ := keys_putF f v r
    rw [show putF f v ((k, x) :: r) = (if k = f then (k, v) :: r else (k, x) :: putF f v r) from rfl]
    by_cases hk : k = f
    · rw [if_pos hk]
      subst hk
      exact ⟨by simp, fun g h => by simpa using h⟩
    · rw [if_neg hk]
      refine ⟨?_, fun g h => ?_⟩
      · rw [List.map_cons]
        exact List.mem_cons_of_mem _ i1
      · rw [List.map_cons] at h ⊢
        rcases List.mem_cons.mp h with e | e
        · exact List.mem_cons.mpr (.inl e)
        · exact List.mem_cons_of_mem _ (i2 g e)
theorem length_putF (f : Str) (v : V) : ∀ fs : List (Str × V), (putF f v fs).length ≤ fs.length + 1
  | [] => by simp [putF]
  | (k, x) :: r => by
    have ih := length_putF f v r
    rw [show putF f v ((k, x) :: r) = (if k = f then (k, v) :: r else (k, x) :: putF f v r) from rfl]
    by_cases hk : k = f
    · rw [if_pos hk, List.length_cons, List.length_cons]; omega
    · rw [if_neg hk, List.length_cons, List.length_cons]; omega
theorem RelO.some_of {v : V} {o : Option Value} (r : RelO (some v) o) : ∃ u, o = some u ∧ RelV v u := by
  cases o with
  | none => exact (show False from r).elim
  | some u => exact ⟨u, rfl, r⟩
theorem RelO.none_of {o : Option Value} (r : RelO none o) : o = none := by
  cases o with
  | none => rfl
  | some u => exact (show False from r).elim
theorem handed_of {v : V} {u : Value} (r : RelV v u) : PySem.W.handedIn u = true := by
  cases v with
  | non => cases (show u = Value.none from r); rfl
  | bl b => cases (show u = Value.bool b from r); rfl
  | int i => obtain ⟨t, e⟩ := (show ∃ t, u = Value.int i t from r); cases e; rfl
  | str x => obtain ⟨t, e⟩ := (show ∃ t, u = Value.str x t from r); cases e; rfl
  | byt b => obtain ⟨t, e⟩ := (show ∃ t, u = Value.bytes b t from r); cases e; rfl
  | flt b => obtain ⟨t, e⟩ := (show ∃ t, u = Value.float b t from r); cases e; rfl
  | ref a => cases (show u = Value.ref a from r); rfl
  | ty n => cases (show u = Value.type n from r); rfl
section
variable {P : Program} {w : World} {H H' : Hp} {h h' : Heap} {a C dx : Addr} {fs fs' : List (Str × V)}
theorem ins_get (hok : HOk P w H h) (e : H a = some (.ins C dx fs)) : ∃ mA, ObjM h a dx C mA ∧ (∀ f, RelO (fs.lookup f) (mA f)) ∧ PySem.Within mA (fs.map (·.1)) ∧ fs.length ≤ 1000 ∧ H dx = some (.own a) := by
  obtain ⟨d, z, ne, ob, mA, n, r, q⟩ := (show ObjOk P w H h a (.ins C dx fs) from hok a _ e)
  exact ⟨mA, ⟨ob, n, ne⟩, r, q, z, d⟩
end
structure Cls (K : PySem.W.Frag) (C : Addr) : Prop where
  pg : PySem.W.plainGet K C Str.empty = true
  hd : PySem.W.hasDictIn K C = true
  po : PySem.W.plainOver K C = true
  sa : PySem.W.findIn K (.ref C) "__setattr__" = some (some (.builtin "object.__setattr__"))
theorem Cls.get {K : PySem.W.Frag} {C : Addr} (c : Cls K C) (f : Str) : PySem.W.plainGet K C f = true := c.pg
def NoAttr (K : PySem.W.Frag) (C : Addr) (f : Str) : Prop := PySem.W.findIn K (.ref C) f = some none
theorem NoAttr.taker {K : PySem.W.Frag} {C : Addr} {f : Str} (n : NoAttr K C f) : PySem.W.takerIn K C f = some none := by
  unfold PySem.W.takerIn
  rw [show PySem.W.findIn K (.ref C) f = some none from n]
  rfl
structure Meth (K : PySem.W.Frag) (C : Addr) (m : Str) (f : Addr) : Prop where
  at_ : PySem.W.findIn K (.ref C) m = some (some (.ref f))
  fn : PySem.W.isFn K (.ref f) = true
  kp : PySem.W.keepIn K (.ref f) = true
section
variable {X : Cx} {pins : List (Addr × Obj)} {σ : St} {H : Hp} {s : Shared} {a C dx : Addr} {fs : List (Str × V)} {f : Str} {v : V} {A : Around} {E : Value → Shared → Prop}
theorem getattr_ok {b : Bool} {Q : Value → Shared → Prop} (I : Inv X pins σ H s) (e : H a = some (.ins C dx fs)) (c : Cls X.K C) (n : NoAttr X.K C f) (l : fs.lookup f = some v)
    (h : ∀ u s', Inv X pins σ H s' → RelV v u → Q u s') : wpAny (model X.prog X.w) A (getAttr (.ref a) f b) Q E s := by
  obtain ⟨mA, O, r, _, _, _⟩ := ins_get I.hok e
  obtain ⟨u, hu, ru⟩ := RelO.some_of (v := v) (o := mA f) (by rw [← l]; exact r f)
  exact get_map I.kIn O (c.get f) c.hd n hu (handed_of ru) (h u _ (I.tok _) ru)
theorem getmeth_ok {m : Str} {g : Addr} {pl : Sem Bool} {Q : Value × List Value → Shared → Prop} (I : Inv X pins σ H s) (e : H a = some (.ins C dx fs)) (c : Cls X.K C) (k : Meth X.K C m g) (l : fs.lookup m = none)
    (h : Q (.ref g, [.ref a]) s) : wpAny (model X.prog X.w) A (getMethod (.ref a) m pl) Q E s := by
  obtain ⟨mA, O, r, _, _, _⟩ := ins_get I.hok e
  have hn : mA m = none := RelO.none_of (by rw [← l]; exact r m)
  exact get_meth I.kIn O (c.get m) k.at_ k.fn hn h
theorem setattr_ok {y : V} {u : Value} {Q : Unit → Shared → Prop} (I : Inv X pins σ H s) (e : H a = some (.ins C dx fs)) (c : Cls X.K C) (n : NoAttr X.K C f) (hl : fs.length < 1000) (ry : RelV y u)
    (h : ∀ s', Inv X pins σ (upd H a (.ins C dx (putF f y fs))) s' → Q () s') : wpAny (model X.prog X.w) A (setAttr (.ref a) f u) Q E s := by
  obtain ⟨mA, O, r, wi, _, ho⟩ := ins_get I.hok e
  have hz : (fs.map (·.1)).length ≤ sizeLine := by rw [List.length_map, sizeLine_eq]; omega
  refine set_map I.kIn O c.sa c.po n.taker c.hd wi hz fun h' O' sb => h _ ?_
  have hd : ∃ o, h'.get? dx = some o := let ⟨o, _, _, e', _⟩ := O'.ns; ⟨o, e'⟩
  refine I.write (x := a) (e := dx) (by rw [e]; exact True.intro) (.inr ho) (fun b q hb z => (sb.2 b hb).trans z) hd ?_
  refine ⟨by rw [upd_ne O.ne]; exact ho, ?_, O.ne, O'.obj, _, O'.ns, fun g => ?_, fun g hg => ?_⟩
  · have := length_putF f y fs; omega
  · show RelO ((putF f y fs).lookup g) (if g = f then some u else mA g)
    rw [lookup_putF]
    by_cases q : g = f
    · rw [if_pos q, if_pos q]; exact ry
    · rw [if_neg q, if_neg q]; exact r g
  · by_cases q : g = f
    · rw [q]; exact (keys_putF f y fs).1
    · refine (keys_putF f y fs).2 g (wi g fun z => hg ?_)
      show (if g = f then some u else mA g) = none
      rw [if_neg q]; exact z
theorem Inv.made (I : Inv X pins σ H s) : Inv X pins σ (upd (upd H s.heap.objs.size (.own (s.heap.objs.size + 1))) (s.heap.objs.size + 1) (.ins C s.heap.objs.size []))
    { s with heap := (s.heap.push PySem.W.emptyDict).push (PySem.W.instObj C s.heap.objs.size) } := by
  have e1 : (s.heap.push PySem.W.emptyDict).get? s.heap.objs.size = some PySem.W.emptyDict := Heap.get?_push_size s.heap rfl
  have e2 : ((s.heap.push PySem.W.emptyDict).push (PySem.W.instObj C s.heap.objs.size)).get? (s.heap.objs.size + 1) = some (PySem.W.instObj C s.heap.objs.size) := by
    have := Heap.get?_push_size (s.heap.push PySem.W.emptyDict) (o := PySem.W.instObj C s.heap.objs.size) rfl
    rwa [Heap.size_push] at this
  have e3 : (s.heap.push PySem.W.emptyDict).Ns s.heap.objs.size (fun _ => none) := ⟨PySem.W.emptyDict, #[], _, e1, rfl, (fun e he => absurd he (by simp)), fun _ => rfl⟩
  have I1 := I.laid (a := s.heap.objs.size) (o := .own (s.heap.objs.size + 1)) (h' := s.heap.push PySem.W.emptyDict) (t' := s.toks) (fun b u q => Heap.get?_push_of_some _ q) (Nat.le_refl _) ⟨_, e1⟩
  refine I1.laid (a := s.heap.objs.size + 1) (o := .ins C s.heap.objs.size []) (t' := s.toks) (fun b u q => Heap.get?_push_of_some _ q) (Nat.le_of_eq (Heap.size_push _ _)) ?_
  have ne : s.heap.objs.size ≠ s.heap.objs.size + 1 := Nat.ne_of_lt (Nat.lt_succ_self _)
  refine ⟨by rw [upd_ne ne, upd_same], Nat.zero_le _, ne, e2, fun _ => none, (Heap.Ns1.of_empty e3).at fun o q => Heap.get?_push_of_some _ q, fun _ => True.intro, fun y hy => absurd rfl hy⟩
theorem attr_of {prog : Program} {w : World} {env : Env} {e : Expr} {f : Str} {pos : Pos} {s : Shared} {Q : Value → Shared → Prop} (hb : attributeBase e f env (eval e env) = eval e env)
    (h : wpAny (model prog w) A (eval e env) (fun o s₁ => wpAny (model prog w) A (getAttr o f true) Q E s₁) E s) : wpAny (model prog w) A (eval (.Attribute e f pos) env) Q E s :=
  Attribute_any_ h (by rw [arm_eval_Attribute, hb])
end
def tFld (K : PySem.W.Frag) (ta : TE) (f : Str) : TE := fun σ H Q => ta σ H fun x H1 => ∃ a C dx fs v, x = .ref a ∧ H1 a = some (.ins C dx fs) ∧ Cls K C ∧ NoAttr K C f ∧ fs.lookup f = some v ∧ Q v H1
def sFld (K : PySem.W.Frag) (ta tv : TE) (f : Str) : TS := fun D σ H => tv σ H fun y H1 => ta σ H1 fun x H2 => ∃ a C dx fs, x = .ref a ∧ H2 a = some (.ins C dx fs) ∧ Cls K C ∧ NoAttr K C f ∧ fs.length < 1000 ∧
  D.nx σ (upd H2 a (.ins C dx (putF f y fs)))
def InOp (X : Cx) (op : Operator) (rd : V → V → Hp → VK → Prop) : Prop :=
  ∀ (pins : List (Addr × Obj)) (s : Shared) (σ : St) (H : Hp) (x y : V) (u v : Value) (Q : VK), Inv X pins σ H s → RelV x u → RelV y v → rd x y H Q → wpAny (model X.prog X.w) X.A (inplaceOp op u v) (EP X pins σ Q) X.xe s
def sFldAug (K : PySem.W.Frag) (ta tv : TE) (rd : V → V → Hp → VK → Prop) (f : Str) : TS := fun D σ H => ta σ H fun x H1 => ∃ a C dx fs v, x = .ref a ∧ H1 a = some (.ins C dx fs) ∧ Cls K C ∧ NoAttr K C f ∧ fs.lookup f = some v ∧
  tv σ H1 fun y H2 => rd v y H2 fun z H3 => ∃ dx' fs', H3 a = some (.ins C dx' fs') ∧ fs'.length < 1000 ∧ D.nx σ (upd H3 a (.ins C dx' (putF f z fs')))
section
variable {X : Cx} {o e value : Expr} {f : Str} {pos pos' tpos : Pos} {ta tv : TE}
theorem pe_fld (he : PE X e ta) (hb : attributeBase e f X.env (eval e X.env) = eval e X.env) : PE X (.Attribute e f pos) (tFld X.K ta f) := by
  intro pins s σ H Q I h
  refine attr_of hb (thn (he pins s σ H _ I h) fun u s1 ⟨x, H1, I1, rx, a, C, dx, fs, v, ex, ea, c, n, l, q⟩ => ?_)
  subst ex
  obtain rfl : u = Value.ref a := rx
  exact getattr_ok I1 ea c n l fun u' s2 I2 ru => ⟨v, H1, I2, ru, q⟩
theorem ps_fld (ha : PE X o ta) (hv : PE X value tv) (hs : swapsWith value (some (.Attribute o f pos')) pos.line X.env = pure false) : PS X (.Assign [.Attribute o f pos'] value pos) (sFld X.K ta tv f) := by
  intro pins s σ H D I h
  refine plainObj_wpAny_Assign_Attribute (thn (hv pins s σ H _ I h) fun u s1 ⟨y, H1, I1, ry, q⟩ => thn (ha pins s1 σ H1 _ I1 q) fun ov s2 ⟨x, H2, I2, rx, a, C, dx, fs, ex, ea, c, n, l, q2⟩ => ?_) hs
  subst ex
  obtain rfl : ov = Value.ref a := rx
  exact setattr_ok I2 ea c n l ry fun s3 I3 => ⟨σ, _, I3, q2⟩
theorem ps_fldaug {op : Operator} {rd : V → V → Hp → VK → Prop} (ha : PE X o ta) (hv : PE X value tv) (hop : InOp X op rd) : PS X (.AugAssign (.Attribute o f tpos) op value pos) (sFldAug X.K ta tv rd f) := by
  intro pins s σ H D I h
  refine wpAny_AugAssign_AttributeAny (thn (ha pins s σ H _ I h) fun ov s1 ⟨x, H1, I1, rx, a, C, dx, fs, v, ex, ea, c, n, l, q⟩ => ?_)
  subst ex
  obtain rfl : ov = Value.ref a := rx
  refine getattr_ok I1 ea c n l fun u s2 I2 ru => thn (hv pins s2 σ H1 _ I2 q) fun w3 s3 ⟨y, H2, I3, ry, q3⟩ => thn (hop pins s3 σ H2 v y u w3 _ I3 ru ry q3) fun w4 s4 ⟨z, H3, I4, rz, dx', fs', ea', l', q4⟩ => ?_
  exact setattr_ok I4 ea' c n l' rz fun s5 I5 => ⟨σ, _, I5, q4⟩
def rAdd : V → V → Hp → VK → Prop := fun x y H Q => ∃ i j, x = .int i ∧ y = .int j ∧ Q (.int (i + j)) H
theorem in_add : InOp X .Add rAdd := by
  rintro pins s σ H x y u v Q I rx ry ⟨i, j, rfl, rfl, q⟩
  obtain ⟨t, rfl⟩ := (show ∃ t, u = Value.int i t from rx)
  obtain ⟨t', rfl⟩ := (show ∃ t', v = Value.int j t' from ry)
  exact PyProof.Rows.iadd_int ⟨.int (i + j), H, I.tok _, ⟨_, rfl⟩, q⟩
theorem methcall_of {pl : Sem Bool} {m : Str} {apos : Pos} {args : List Expr} {pins : List (Addr × Obj)} {s : Shared} {σ : St} {H : Hp} {Q : Value → Shared → Prop} {te : TE} (he : PE X e te) (I : Inv X pins σ H s)
    (h : te σ H fun x H1 => ∃ a C dx fs g, x = .ref a ∧ H1 a = some (.ins C dx fs) ∧ Cls X.K C ∧ Meth X.K C m g ∧ fs.lookup m = none ∧
      ∀ s1, Inv X pins σ H1 s1 → wpAny (model X.prog X.w) X.A (callWith pos (.ref g) [.ref a] (backTo pos (starEach args X.env)) (backToKw pos (keywordEach [] X.env))) Q X.xe s1)
    (ht : eval (.Call (.Attribute e m apos) args [] pos) X.env = (do
      let ov ← eval e X.env
      standAt apos.atName
      let (f, first) ← holding [ov] (getMethod ov m pl)
      callWith pos f first (backTo pos (starEach args X.env)) (backToKw pos (keywordEach [] X.env)))) :
    wpAny (model X.prog X.w) X.A (eval (.Call (.Attribute e m apos) args [] pos) X.env) Q X.xe s := by
  refine PySem.W.methodCall_KW (pl := pl) (thn (he pins s σ H _ I h) fun u s1 ⟨x, H1, I1, rx, a, C, dx, fs, g, ex, ea, c, k, l, q⟩ => ?_) ht
  subst ex
  obtain rfl : u = Value.ref a := rx
  exact getmeth_ok I1 ea c k l (q s1 I1)
end
section
variable {X : Cx} {pins : List (Addr × Obj)} {σ : St} {H : Hp} {s : Shared} {A : Around} {E : Value → Shared → Prop} {Q : Value → Shared → Prop} {c : Value} {b : Bool}
end
end L2
namespace L2
open PySem PySem.Spec PyProof.Rows
structure Room (k : Nat) (A : Around) : Prop where
  hd : A.handled = none
  dp : A.depth + 3 * k + 5 < recursionLimit
  un : A.units + 16 * k + 200 < cLine
theorem Room.mono {j k : Nat} {A : Around} (r : Room k A) (h : j ≤ k) : Room j A := ⟨r.hd, by have := r.dp; omega, by have := r.un; omega⟩
theorem Room.deeper {k : Nat} {A : Around} (r : Room (k + 1) A) (env : Env) : Room k (A.deeper env) :=
  ⟨r.hd, by have := r.dp; show A.depth + 1 + 3 * k + 5 < _; omega, by have := r.un; show A.units + 3 + 16 * k + 200 < _; omega⟩
theorem Room.in1 {k : Nat} {A : Around} (r : Room (k + 1) A) : Room k A.in1 :=
  ⟨r.hd, by have := r.dp; show A.depth + 3 * k + 5 < _; omega, by have := r.un; show A.units + 1 + 16 * k + 200 < _; omega⟩
theorem make_depth {A : Around} {C : Addr} {us : List Value} {kw : List (Str × Value)} : (A.under (.builtin "type.__call__" ⟨.ref C :: us, kw⟩)).depth = A.depth + 1 := by
  first | rfl | simp [Around.under, Code.weight, Code.isCreation, Code.isGuard, Code.isCaller, Code.frames, Code.isFrame, guardIds]
theorem make_units {A : Around} {C : Addr} {us : List Value} {kw : List (Str × Value)} : (A.under (.builtin "type.__call__" ⟨.ref C :: us, kw⟩)).units = A.units + 1 := by
  first | rfl | simp [Around.under, Code.cUnits, Code.frames, Code.isFrame]
theorem Room.make {k : Nat} {A : Around} (r : Room (k + 1) A) (C : Addr) (us : List Value) (kw : List (Str × Value)) : Room k (A.under (.builtin "type.__call__" ⟨.ref C :: us, kw⟩)) :=
  ⟨r.hd, by have := r.dp; rw [make_depth]; omega, by have := r.un; rw [make_units]; omega⟩
theorem Room.depth {k : Nat} {A : Around} (r : Room k A) : A.depth < recursionLimit := by have := r.dp; omega
theorem Room.units0 {k : Nat} {A : Around} (r : Room k A) : A.units < cLine := by have := r.un; omega
def tNil : TA := fun _ H Q => Q [] H
def tCons (ta : TE) (tr : TA) : TA := fun σ H Q => ta σ H fun x H1 => tr σ H1 fun xs H2 => Q (x :: xs) H2
section
variable {X : Cx} {e : Expr} {es : List Expr} {te : TE} {t : TA} {pos : Pos}
theorem pa_nil : PA X [] tNil := fun _ _ _ _ H Q I h => Calls.spliced_nil ⟨[], H, I, .nil, h⟩
theorem pa_cons (ha : PE X e te) (hr : PA X es t) (hs : starEach (e :: es) X.env = (false, eval e X.env) :: starEach es X.env := by rfl) : PA X (e :: es) (tCons te t) := by
  intro pos pins s σ H Q I h
  rw [hs]
  show wpAny _ _ (spliced ((false, eval e X.env) :: backTo pos (starEach es X.env))) _ _ s
  refine Calls.spliced_cons (thn (ha pins s σ H _ I h) fun u s1 ⟨x, H1, I1, r1, q1⟩ => ?_)
  exact thn (hr pos pins s1 σ H1 _ I1 q1) fun us s2 ⟨xs, H2, I2, r2, q2⟩ => ⟨x :: xs, H2, I2, .cons r1 r2, q2⟩
def tTup (t : TA) : TE := fun σ H Q => t σ H fun xs H1 => xs.length ≤ sizeLine ∧ ∀ p, H1 p = none → Q (.ref p) (upd H1 p (.tup xs))
def tLst (t : TA) : TE := fun σ H Q => t σ H fun xs H1 => xs.length ≤ sizeLine ∧ ∀ p, H1 p = none → Q (.ref p) (upd H1 p (.lst xs))
theorem pe_tup {x1} (h : PA X es t) : PE X (.Tuple es x1 pos) (tTup t) := by
  intro pins s σ H Q I hq
  refine wpAny_Tuple_spliced (thn (h pos pins s σ H _ I hq) fun us s1 ⟨xs, H1, I1, r, z, q⟩ => ⟨by rw [← r.length]; exact z, ?_⟩)
  have hf : H1 s1.heap.objs.size = none := I1.hok.fresh (Nat.le_refl _)
  refine ⟨.ref s1.heap.objs.size, upd H1 s1.heap.objs.size (.tup xs), I1.laid (t' := s1.toks) (fun b u e => Heap.get?_push_of_some _ e) (Nat.le_refl _) ?_, rfl, q _ hf⟩
  exact ⟨z, us, r, ⟨_, Heap.get?_push_size _ rfl, rfl, _, rfl⟩⟩
theorem pe_lst (h : PA X es t) : PE X (.List es pos) (tLst t) := by
  intro pins s σ H Q I hq
  refine wpAny_List_spliced (thn (h pos pins s σ H _ I hq) fun us s1 ⟨xs, H1, I1, r, z, q⟩ => ⟨by rw [← r.length]; exact z, ?_⟩)
  have hf : H1 s1.heap.objs.size = none := I1.hok.fresh (Nat.le_refl _)
  refine ⟨.ref s1.heap.objs.size, upd H1 s1.heap.objs.size (.lst xs), I1.laid (t' := s1.toks) (fun b u e => Heap.get?_push_of_some _ e) (Nat.le_refl _) ?_, rfl, q _ hf⟩
  exact ⟨z, us, 0, r, Heap.get?_push_size _ rfl⟩
end
abbrev Sp := List V → Hp → VK → XK → Prop
abbrev CXT := List Env → Hp → Shared → XK → Value → Shared → Prop
structure Env0 (P : Program) (w : World) (K : PySem.W.Frag) (mg : Str → Option Value) (base : Heap) (A : Around) (outer : List Env) (s : Shared) (H : Hp) : Prop where
  frames : A.frames = some outer
  mod : Mod K mg base
  bs : ∀ b o, base.get? b = some o → s.heap.get? b = some o ∧ H b = none
  bsz : base.objs.size ≤ s.heap.objs.size
  funs : s.heap.FunFrames base outer
  frf : ∀ b ∈ frs outer, H b = none
  hok : HOk P w H s.heap
  bare : AllBare s.gens
def CE (outer : List Env) (P : Program) (w : World) (H : Hp) (s : Shared) (Q : VK) (u : Value) (s' : Shared) : Prop :=
  ∃ v H', s'.os = s.os ∧ AllBare s'.gens ∧ Un (frs outer) [] H H' s.heap s'.heap ∧ HOk P w H' s'.heap ∧ RelV v u ∧ Q v H'
def CR (CX : CXT) (outer : List Env) (P : Program) (w : World) (H : Hp) (s : Shared) (Q : VK) (E : XK) (r : Result) (s' : Shared) : Prop :=
  match r with
  | .ok (.ret u) => CE outer P w H s Q u s'
  | .ok _ => False
  | .error e => CX outer H s E e s'
structure FnOk (P : Program) (w : World) (K : PySem.W.Frag) (mg : Str → Option Value) (base : Heap) (CX : CXT) (k : Nat) (f : Addr) (fd : FuncData) (ps : List Str) (sp : Sp) : Prop where
  len : ∀ vs H Q E, sp vs H Q E → vs.length = ps.length
  run : ∀ (A : Around) (outer : List Env) (s : Shared) (H : Hp) (args : Args) (us : List Value) (vs : List V) (Q : VK) (E : XK), Room k A → Env0 P w K mg base A outer s H → BindsTo s fd args (ps.zip us) → Vals vs us → sp vs H Q E →
    codeAny (model P w) A (.call (.ref f) args) (CR CX outer P w H s Q E) s
theorem FnOk.mono {P : Program} {w : World} {K : PySem.W.Frag} {mg : Str → Option Value} {base : Heap} {CX : CXT} {j k : Nat} {f : Addr} {fd : FuncData} {ps : List Str} {sp : Sp} (F : FnOk P w K mg base CX j f fd ps sp) (h : j ≤ k) :
    FnOk P w K mg base CX k f fd ps sp := ⟨F.len, fun A outer s H args us vs Q E hr => F.run A outer s H args us vs Q E (hr.mono h)⟩
theorem Env0.make {P : Program} {w : World} {K : PySem.W.Frag} {mg : Str → Option Value} {base : Heap} {A : Around} {outer : List Env} {s : Shared} {H : Hp} (e : Env0 P w K mg base A outer s H) (C : Addr) (us : List Value) (kw : List (Str × Value)) :
    Env0 P w K mg base (A.under (.builtin "type.__call__" ⟨.ref C :: us, kw⟩)) outer s H := ⟨by first | exact e.frames | (simpa [Around.under, Code.envs, Code.isFrame, pushEnvs] using e.frames), e.mod, e.bs, e.bsz, e.funs, e.frf, e.hok, e.bare⟩
section
variable {X : Cx} {pins : List (Addr × Obj)} {σ : St} {H : Hp} {s s' : Shared}
theorem Inv.env0 (I : Inv X pins σ H s) : Env0 X.prog X.w X.K X.mg X.base X.A X.stack s H :=
  ⟨I.ok.frames, I.ok.mod, I.bs, Nat.le_trans I.ok.bsz I.sz, I.stack, I.stkFree, I.hok, I.bare⟩
theorem Inv.after {Q : VK} {u : Value} (I : Inv X pins σ H s) (h : CE X.stack X.prog X.w H s Q u s') : EP X pins σ Q u s' := by
  obtain ⟨v, H', os, bare, un, hok, r, q⟩ := h
  obtain ⟨hh, g, d, t, os'⟩ := s'
  obtain rfl : os' = s.os := os
  exact ⟨v, H', I.call (h' := hh) (g' := g) (d' := d) (t' := t) (ch := []) un hok bare (fun b z => absurd z (by simp)), r, q⟩
end
def tCall (sp : Sp) (dvs : List V) (E : XK) (t : TA) : TE := fun σ H Q => t σ H fun vs H1 => sp (vs ++ dvs) H1 Q E
def tMeth (C : Addr) (m : Str) (sp : Sp) (dvs : List V) (E : XK) (ta : TE) (t : TA) : TE := fun σ H Q => ta σ H fun x H1 => ∃ a dx fs, x = .ref a ∧ H1 a = some (.ins C dx fs) ∧ fs.lookup m = none ∧
  t σ H1 fun vs H2 => sp (x :: (vs ++ dvs)) H2 Q E
def tMake (C : Addr) (sp : Sp) (dvs : List V) (E : XK) (t : TA) : TE := fun σ H Q => t σ H fun vs H1 => ∀ x dx, H1 x = none → H1 dx = none → dx ≠ x →
  sp (.ref x :: (vs ++ dvs)) (upd (upd H1 dx (.own x)) x (.ins C dx [])) (fun v H2 => v = .non ∧ Q (.ref x) H2) E
def Binds (K : PySem.W.Frag) (fd : FuncData) (ps : List Str) (ds : List Value) : Prop :=
  ∀ (s : Shared) (us : List Value), K.In s.heap → (us ++ ds).length = ps.length → BindsTo s fd ⟨us, []⟩ (ps.zip (us ++ ds))
theorem Binds.all {K : PySem.W.Frag} {fd : FuncData} {ps : List Str} (h : ∀ us : List Value, us.length = ps.length → bindArgs fd ⟨us, []⟩ = pure (ps.zip us)) : Binds K fd ps [] := fun s us _ hl => by
  rw [List.append_nil] at hl ⊢
  exact .of_eq (h us hl)
def Passes (CX : CXT) (X : Cx) (E : XK) : Prop := ∀ (pins : List (Addr × Obj)) (σ : St) (H : Hp) (s : Shared) (e : Value) (s' : Shared), Inv X pins σ H s → CX X.stack H s E e s' → X.xe e s'
section
variable {X : Cx} {CX : CXT} {k : Nat} {f C : Addr} {fd : FuncData} {ps : List Str} {sp : Sp} {dvs : List V} {ds : List Value} {E : XK} {x m : Str} {p pos apos : Pos} {e o : Expr} {es : List Expr} {ta : TE} {t : TA}
theorem run_fn {pins : List (Addr × Obj)} {σ : St} {H : Hp} {s : Shared} {Q : VK} {us : List Value} {vs : List V} (F : FnOk X.prog X.w X.K X.mg X.base CX k f fd ps sp) (hr : Room k X.A) (hb : Binds X.K fd ps ds) (hd : Vals dvs ds) (hx : Passes CX X E)
    (I : Inv X pins σ H s) (r : Vals vs us) (h : sp (vs ++ dvs) H Q E) : wpAny (model X.prog X.w) X.A (call (.ref f) us) (EP X pins σ Q) X.xe s := by
  have r2 : Vals (vs ++ dvs) (us ++ ds) := r.append hd
  have hl : (us ++ ds).length = ps.length := by rw [← r2.length]; exact F.len _ _ _ _ h
  refine wpAny_call (codeAny_mono (F.run X.A X.stack s H ⟨us, []⟩ (us ++ ds) (vs ++ dvs) Q E hr I.env0 (hb s us I.kIn hl) r2 h) fun r s' hq => ?_)
  cases r with
  | error e => exact hx pins σ H s e s' I hq
  | ok fl =>
    cases fl with
    | ret u => exact I.after hq
    | next => exact False.elim hq
    | brk => exact False.elim hq
    | cont => exact False.elim hq
theorem pe_call (F : FnOk X.prog X.w X.K X.mg X.base CX k f fd ps sp) (hr : Room k X.A) (hg : Gl X x) (hm : X.mg x = some (.ref f)) (hk : PySem.W.keepIn X.K (.ref f) = true) (hb : Binds X.K fd ps ds) (hd : Vals dvs ds) (hx : Passes CX X E)
    (ha : PA X (e :: es) t) (hdb : (x == ("__debug__" : Str)) = false := by decide) (he : starEach (e :: es) X.env = (false, eval e X.env) :: starEach es X.env := by rfl) (hpl : (backTo pos (starEach es X.env)).any (·.1) = false := by rfl) :
    PE X (.Call (.Name x p) (e :: es) [] pos) (tCall sp dvs E t) := by
  intro pins s σ H Q I h
  refine wpAny_Call_Name_kw (ld_glob I hg hm ?_ hdb)
  refine PySem.W.callWith_K (h₀ := X.base) I.ok.mod.kin hk (thn (ha pos pins s σ H _ I h) fun us s1 ⟨vs, H1, I1, r, q⟩ => ⟨I1.kIn, ?_⟩) he hpl
  exact run_fn F hr hb hd hx I1 r q
theorem pe_meth {pl : Sem Bool} (he : PE X o ta) (c : Cls X.K C) (hm : Meth X.K C m f) (F : FnOk X.prog X.w X.K X.mg X.base CX k f fd ps sp) (hr : Room k X.A) (hb : Binds X.K fd ps ds) (hd : Vals dvs ds) (hx : Passes CX X E) (ha : PA X (e :: es) t)
    (hst : starEach (e :: es) X.env = (false, eval e X.env) :: starEach es X.env := by rfl) (hpl : (backTo pos (starEach es X.env)).any (·.1) = false := by rfl)
    (ht : eval (.Call (.Attribute o m apos) (e :: es) [] pos) X.env = (do
      let ov ← eval o X.env
      standAt apos.atName
      let (f, first) ← holding [ov] (getMethod ov m pl)
      callWith pos f first (backTo pos (starEach (e :: es) X.env)) (backToKw pos (keywordEach [] X.env))) := by rfl) :
    PE X (.Call (.Attribute o m apos) (e :: es) [] pos) (tMeth C m sp dvs E ta t) := by
  intro pins s σ H Q I h
  refine PySem.W.methodCall_KW (pl := pl) (thn (he pins s σ H _ I h) fun u s1 ⟨x, H1, I1, rx, a, dx, fs, ex, ea, l, q⟩ => ?_) ht
  subst ex
  obtain rfl : u = Value.ref a := rx
  refine getmeth_ok I1 ea c hm l ?_
  refine PySem.W.callWith_K (first := [.ref a]) (h₀ := X.base) I.ok.mod.kin hm.kp (thn (ha pos pins s1 σ H1 _ I1 q) fun us s2 ⟨vs, H2, I2, r, q2⟩ => ⟨I2.kIn, ?_⟩) hst hpl
  exact run_fn (us := .ref a :: us) (vs := .ref a :: vs) F hr hb hd hx I2 (.cons rfl r) q2
theorem pe_meth0 {pl : Sem Bool} (he : PE X o ta) (c : Cls X.K C) (hm : Meth X.K C m f) (F : FnOk X.prog X.w X.K X.mg X.base CX k f fd ps sp) (hr : Room k X.A) (hb : Binds X.K fd ps ds) (hd : Vals dvs ds) (hx : Passes CX X E)
    (ht : eval (.Call (.Attribute o m apos) [] [] pos) X.env = (do
      let ov ← eval o X.env
      standAt apos.atName
      let (f, first) ← holding [ov] (getMethod ov m pl)
      callWith pos f first (backTo pos (starEach [] X.env)) (backToKw pos (keywordEach [] X.env))) := by rfl) :
    PE X (.Call (.Attribute o m apos) [] [] pos) (tMeth C m sp dvs E ta tNil) := by
  intro pins s σ H Q I h
  refine PySem.W.methodCall_KW (pl := pl) (thn (he pins s σ H _ I h) fun u s1 ⟨x, H1, I1, rx, a, dx, fs, ex, ea, l, q⟩ => ?_) ht
  subst ex
  obtain rfl : u = Value.ref a := rx
  refine getmeth_ok I1 ea c hm l ?_
  exact PySem.W.callWith_K0 (first := [.ref a]) I1.kIn hm.kp (run_fn (us := [.ref a]) (vs := [.ref a]) F hr hb hd hx I1 (.cons rfl .nil) q)
structure Mk (K : PySem.W.Frag) (C f : Addr) : Prop where
  makes : PySem.W.makesIn K C = true
  init : PySem.W.findIn K (.ref C) "__init__" = some (some (.ref f))
  fn : PySem.W.isFn K (.ref f) = true
  kp : PySem.W.keepIn K (.ref C) = true
theorem run_make {pins : List (Addr × Obj)} {σ : St} {H : Hp} {s : Shared} {Q : VK} {us : List Value} {vs : List V} (M : Mk X.K C f) (F : FnOk X.prog X.w X.K X.mg X.base CX k f fd ps sp) (hr : Room (k + 1) X.A) (hb : Binds X.K fd ps ds) (hd : Vals dvs ds)
    (hx : Passes CX X E) (I : Inv X pins σ H s) (r : Vals vs us)
    (h : ∀ x dx, H x = none → H dx = none → dx ≠ x → sp (.ref x :: (vs ++ dvs)) (upd (upd H dx (.own x)) x (.ins C dx [])) (fun v H2 => v = .non ∧ Q (.ref x) H2) E) :
    wpAny (model X.prog X.w) X.A (call (.ref C) us) (EP X pins σ Q) X.xe s := by
  have hq := h (s.heap.objs.size + 1) s.heap.objs.size (I.hok.fresh (Nat.le_succ _)) (I.hok.fresh (Nat.le_refl _)) (Nat.ne_of_lt (Nat.lt_succ_self _))
  have I2 := Inv.made (C := C) I
  have r2 : Vals (V.ref (s.heap.objs.size + 1) :: (vs ++ dvs)) (Value.ref (s.heap.objs.size + 1) :: (us ++ ds)) := .cons rfl (r.append hd)
  have hl : (Value.ref (s.heap.objs.size + 1) :: us ++ ds).length = ps.length := by
    have e := r2.length
    rw [F.len _ _ _ _ hq] at e
    exact e.symm
  refine wpAny_call (make_map (f := f) I.kIn M.makes M.init (beq_iff_eq.mp M.fn) (codeAny_mono (F.run _ X.stack _ _ ⟨Value.ref (s.heap.objs.size + 1) :: us, []⟩ (Value.ref (s.heap.objs.size + 1) :: (us ++ ds)) _ _ E (hr.make C us [])
    (I2.env0.make C us []) (hb _ (Value.ref (s.heap.objs.size + 1) :: us) I2.kIn hl) r2 hq) fun r s' hq' => ?_))
  cases r with
  | error e => exact hx pins σ _ _ e s' I2 hq'
  | ok fl =>
    cases fl with
    | ret u =>
      obtain ⟨v, H', I3, rv, ev, q3⟩ := I2.after hq'
      subst ev
      exact ⟨rv, ⟨V.ref (s.heap.objs.size + 1), H', I3, rfl, q3⟩⟩
    | next => exact False.elim hq'
    | brk => exact False.elim hq'
    | cont => exact False.elim hq'
theorem pe_make (M : Mk X.K C f) (F : FnOk X.prog X.w X.K X.mg X.base CX k f fd ps sp) (hr : Room (k + 1) X.A) (hg : Gl X x) (hm : X.mg x = some (.ref C)) (hb : Binds X.K fd ps ds) (hd : Vals dvs ds) (hx : Passes CX X E)
    (ha : PA X (e :: es) t) (hdb : (x == ("__debug__" : Str)) = false := by decide) (he : starEach (e :: es) X.env = (false, eval e X.env) :: starEach es X.env := by rfl) (hpl : (backTo pos (starEach es X.env)).any (·.1) = false := by rfl) :
    PE X (.Call (.Name x p) (e :: es) [] pos) (tMake C sp dvs E t) := by
  intro pins s σ H Q I h
  refine wpAny_Call_Name_kw (ld_glob I hg hm ?_ hdb)
  refine PySem.W.callWith_K (h₀ := X.base) I.ok.mod.kin M.kp (thn (ha pos pins s σ H _ I h) fun us s1 ⟨vs, H1, I1, r, q⟩ => ⟨I1.kIn, ?_⟩) he hpl
  exact run_make M F hr hb hd hx I1 r q
end
section
variable {X : Cx} {CX : CXT} {k : Nat} {f C : Addr} {fd : FuncData} {ps ks : List Str} {sp : Sp} {E : XK} {x m : Str} {p pos apos kpos : Pos} {e o : Expr} {es : List Expr} {kws : List Keyword} {te ta : TE} {t tk : TA} {nm : Option Str}
variable {g : List Value → List Value → List Value} {gV : List V → List V → List V}
end
structure FnScope (N P : List Str) (sc : Scope) : Prop where
  kind : sc.kind = .function
  co : sc.isCoroutine = false
  gen : sc.isGenerator = false
  nd : N.Nodup
  pre : N.take P.length = P
  par : ∀ x ∈ P, sc.names.lookup x = some .local ∨ sc.names.lookup x = some .cell
  nofree : ∀ y ∈ sc.names, y.2 ≠ .free
theorem bindL_out {kindOf : Str → Option NameKind} {x : Str} : ∀ {binds : List (Str × Value)} {m : Str → Option Value}, (∀ v, (x, v) ∉ binds) → bindL kindOf binds m x = m x
  | [], _, _ => rfl
  | (n, v) :: r, m, h => by
    unfold bindL
    rw [bindL_out fun w hw => h w (List.mem_cons_of_mem _ hw)]
    split
    · have : x ≠ n := by rintro rfl; exact h v List.mem_cons_self
      simp [this]
    · rfl
theorem bindC_out {kindOf : Str → Option NameKind} {x : Str} : ∀ {binds : List (Str × Value)} {m : Str → Option Value}, (∀ v, (x, v) ∉ binds) → bindC kindOf binds m x = m x
  | [], _, _ => rfl
  | (n, v) :: r, m, h => by
    unfold bindC
    rw [bindC_out fun w hw => h w (List.mem_cons_of_mem _ hw)]
    split
    · rfl
    · have : x ≠ n := by rintro rfl; exact h v List.mem_cons_self
      simp [this]
theorem bindL_get {kindOf : Str → Option NameKind} {x : Str} {v : Value} : ∀ {P : List Str} {vs : List Value} {i : Nat} {m : Str → Option Value}, P.Nodup → P[i]? = some x → vs[i]? = some v → kindOf x = some .local →
    bindL kindOf (P.zip vs) m x = some v
  | [], _, _, _, _, h, _, _ => by simp at h
  | _ :: _, [], _, _, _, _, h, _ => by simp at h
  | p :: P, w :: vs, 0, m, nd, h1, h2, hk => by
    simp at h1 h2; subst h1; subst h2
    show bindL kindOf ((p, w) :: P.zip vs) m p = _
    unfold bindL
    rw [bindL_out fun v hv => (List.nodup_cons.mp nd).1 (List.of_mem_zip hv).1, if_pos hk]
    simp
  | p :: P, w :: vs, i + 1, m, nd, h1, h2, hk => by
    show bindL kindOf ((p, w) :: P.zip vs) m x = _
    unfold bindL
    exact bindL_get (i := i) (List.nodup_cons.mp nd).2 (by simpa using h1) (by simpa using h2) hk
theorem bindC_get {kindOf : Str → Option NameKind} {x : Str} {v : Value} : ∀ {P : List Str} {vs : List Value} {i : Nat} {m : Str → Option Value}, P.Nodup → P[i]? = some x → vs[i]? = some v → kindOf x ≠ some .local →
    bindC kindOf (P.zip vs) m x = some v
  | [], _, _, _, _, h, _, _ => by simp at h
  | _ :: _, [], _, _, _, _, h, _ => by simp at h
  | p :: P, w :: vs, 0, m, nd, h1, h2, hk => by
    simp at h1 h2; subst h1; subst h2
    show bindC kindOf ((p, w) :: P.zip vs) m p = _
    unfold bindC
    rw [bindC_out fun v hv => (List.nodup_cons.mp nd).1 (List.of_mem_zip hv).1, if_neg hk]
    simp
  | p :: P, w :: vs, i + 1, m, nd, h1, h2, hk => by
    show bindC kindOf ((p, w) :: P.zip vs) m x = _
    unfold bindC
    exact bindC_get (i := i) (List.nodup_cons.mp nd).2 (by simpa using h1) (by simpa using h2) hk
def start (N : List Str) (vs : List V) : St := vs.map some ++ List.replicate (N.length - vs.length) none
def cxOf (CX : CXT) (P : Program) (w : World) (K : PySem.W.Frag) (mg : Str → Option Value) (base : Heap) (N : List Str) (qual : Str) (scope : Scope) (f : Addr) (cd : Value) (A : Around) (outer : List Env) (s : Shared) (H : Hp) (E : XK) : Cx where
  prog := P
  w := w
  K := K
  mg := mg
  base := base
  A := A.deeper (envOfC qual scope s.heap.objs.size f cd)
  N := N
  s₀ := s
  H₀ := H
  env := envOfC qual scope s.heap.objs.size f cd
  outer := outer
  stack := envOfC qual scope s.heap.objs.size f cd :: outer
  ex := []
  calm := true
  fn := fun _ => true
  pn := []
  xe := fun e s' => wpAny (model P w) (A.deeper (envOfC qual scope s.heap.objs.size f cd)) (leaving (envOfC qual scope s.heap.objs.size f cd) e) (fun _ s'' => CX outer H s E e s'') (fun e' s'' => CX outer H s E e' s'') s'
theorem cell_has {sc : Scope} {n : Nat} {x : Str} (h : sc.names.lookup x = some .cell) : ∃ c, (cellsFrom n sc.names []).lookup x = some c := by
  have q := PySem.W.cellsFrom_some sc.names n [] (.inl h)
  exact Option.isSome_iff_exists.mp q
theorem inv_start {CX : CXT} {P : Program} {w : World} {K : PySem.W.Frag} {mg : Str → Option Value} {base : Heap} {N ps : List Str} {qual : Str} {scope : Scope} {f : Addr} {cd : Value} {A : Around} {outer : List Env} {s s1 : Shared} {H : Hp} {E : XK} {us : List Value} {vs : List V}
    (S : FnScope N ps scope) (hd : A.handled = none) (e0 : Env0 P w K mg base A outer s H) (hl : vs.length = ps.length) (r : Vals vs us)
    (x : InCallC s s.heap.objs.size (bindL (envOfC qual scope s.heap.objs.size f cd).kindOf (ps.zip us) fun _ => none) (cellsFrom (s.heap.objs.size + 1) scope.names []) (bindC (envOfC qual scope s.heap.objs.size f cd).kindOf (ps.zip us) fun _ => none) s1) :
    Inv (cxOf CX P w K mg base N qual scope f cd A outer s H E) [] (start N vs) H s1 := by
  have hpl : ps.length ≤ N.length := by have := congrArg List.length S.pre; rw [List.length_take] at this; omega
  obtain ⟨h1, tk, rfl, hk⟩ := x.done
  have noA : ∀ b : Addr, b ∉ (cxOf CX P w K mg base N qual scope f cd A outer s H E).ex := fun b z => absurd (show b ∈ ([] : List Addr) from z) (by simp)
  refine ⟨⟨e0.mod, S.kind, rfl, rfl, Nat.le_refl _, fun y z c h1 h2 => ?_, fun y hy => ?_, fun y c _ h => ?_, fun _ => hd, Around.frames_deeper e0.frames, .inr ⟨rfl, rfl⟩, fun b z => absurd z (noA b), e0.bs, e0.bsz, fun b _ _ => noA b, fun b z => absurd z (noA b), e0.funs, e0.frf⟩,
    rfl, e0.bare, Un.kept hk, ⟨_, x.toInCall.ns, fun i y v h1 h2 h3 => ?_⟩, fun y c h => ⟨_, x.cell y c h⟩, e0.hok.fresh (Nat.le_refl _), fun y c h => ?_, fun p hp => absurd (show p ∈ ([] : List (Addr × Obj)) from hp) (by simp), e0.hok.kept hk, ?_⟩
  · exact name_of_addr x.apart (PySem.mem_of_lookup h1) (PySem.mem_of_lookup h2)
  · have hy : scope.names.lookup y = some .cell ∨ scope.names.lookup y = some .free := hy
    rcases hy with hy | hy
    · exact cell_has hy
    · exact absurd rfl (S.nofree _ (PySem.mem_of_lookup hy))
  · exact Nat.le_of_lt (x.above y c (PySem.mem_of_lookup h))
  · have hi : i < vs.length := by
      unfold start at h2
      by_cases hi : i < vs.length
      · exact hi
      · rw [List.getElem?_append_right (by simpa using hi)] at h2
        rw [List.getElem?_replicate] at h2
        split at h2 <;> cases h2
    have ha : vs[i]? = some v := by
      unfold start at h2
      rw [List.getElem?_append_left (by simpa using hi), List.getElem?_map] at h2
      cases e : vs[i]? with
      | none => rw [e] at h2; cases h2
      | some a => rw [e] at h2; cases h2; rfl
    obtain ⟨u, hu, rv⟩ := r.get ha
    have hp : ps[i]? = some y := by
      rw [← S.pre, List.getElem?_take_of_lt (by omega)]; exact h1
    have ndP : ps.Nodup := by rw [← S.pre]; exact S.nd.sublist (List.take_sublist _ _)
    refine ⟨u, rv, ?_⟩
    rcases S.par y (List.mem_of_getElem? hp) with k | k
    · exact .inl ⟨k, bindL_get ndP hp hu k⟩
    · obtain ⟨c, e⟩ := cell_has (n := s.heap.objs.size + 1) k
      refine .inr ⟨.inl k, c, e, ?_⟩
      have q := x.cell y c e
      rw [bindC_get ndP hp hu (by show scope.names.lookup y ≠ _; rw [k]; decide)] at q
      exact q
  · exact e0.hok.fresh (Nat.le_of_lt (x.above y c (PySem.mem_of_lookup h)))
  · unfold start
    show _ = N.length
    rw [List.length_append, List.length_map, List.length_replicate]
    omega
theorem fn_of {CX : CXT} {P : Program} {w : World} {K : PySem.W.Frag} {mg : Str → Option Value} {base : Heap} {k : Nat} {f : Addr} {name qual : Str} {params : Arguments} {body : List Stmt} {scope : Scope} {dV kV doc pm cdv ct oc : Value} {an od : Option Addr}
    {osl : Array (Option Value)} {N ps : List Str} {sp : Sp} (lk : K.lookup f = some ⟨oc, od, .func (PySem.W.fnOf name qual params body scope dV kV doc pm an cdv ct), osl⟩) (hcd : PySem.W.codeIn K cdv qual = true) (S : FnScope N ps scope)
    (len : ∀ vs H Q E, sp vs H Q E → vs.length = ps.length)
    (hbody : ∀ (A : Around) (outer : List Env) (s : Shared) (H : Hp) (vs : List V) (Q : VK) (E : XK), Room k (A.deeper (envOfC qual scope s.heap.objs.size f cdv)) → sp vs H Q E →
      ∃ t, PSs (cxOf CX P w K mg base N qual scope f cdv A outer s H E) body t ∧ t { nx := fun _ H' => Q .non H', rt := Q } (start N vs) H) :
    FnOk P w K mg base CX (k + 1) f (PySem.W.fnOf name qual params body scope dV kV doc pm an cdv ct) ps sp := by
  refine ⟨len, fun A outer s H args us vs Q E hr e0 hb r hsp => ?_⟩
  have hl := len _ _ _ _ hsp
  have KX : K.In s.heap := e0.mod.kin.keeps fun b o e => (e0.bs b o e).1
  have lim : s.heap.NoLimit := e0.mod.nolimit.keeps fun b o e => (e0.bs b o e).1
  have hkind : ∀ y ∈ ps.zip us, scope.names.lookup y.1 = some .local ∨ (scope.names.lookup y.1 = some .cell ∧ ((cellsFrom (s.heap.objs.size + 1) scope.names []).lookup y.1).isSome = true) := fun ⟨n, v⟩ hy => by
    rcases S.par n (List.of_mem_zip hy).1 with q | q
    · exact .inl q
    · exact .inr ⟨q, PySem.W.cellsFrom_some _ _ _ (.inl q)⟩
  refine codeAny_call_function hr.depth (KX _ _ lk) rfl S.co S.gen rfl (PySem.W.codeRec_of KX hcd) (hb _ _ _ _ ?_)
  refine wpAny_newFunctionEnv_cells S.kind hkind fun env he s1 x => ?_
  subst he
  refine ⟨lim.keeps x.toInCall.keep, codeAny_func ?_⟩
  obtain ⟨t, ht, hq⟩ := hbody A outer s H vs Q E (hr.deeper _) hsp
  have I : Inv (cxOf CX P w K mg base N qual scope f cdv A outer s H E) [] (start N vs) H s1 := inv_start S hr.hd e0 hl r x
  refine wpAny_mono (ht [] s1 (start N vs) H _ I hq) (fun fl s' hs => ?_) fun e s' hs => hs
  have fin : ∀ {σ' : St} {H' : Hp} {v : V} {u : Value}, Inv (cxOf CX P w K mg base N qual scope f cdv A outer s H E) [] σ' H' s' → RelV v u → Q v H' → CE outer P w H s Q u s' :=
    fun {σ' H' v u} J rv q => ⟨v, H', J.os, J.bare, J.base, J.hok, rv, q⟩
  cases fl with
  | ret u =>
    obtain ⟨v, σ', H', J, rv, q⟩ := hs
    exact fin J rv q
  | next =>
    obtain ⟨σ', H', J, q⟩ := hs
    exact fin (v := V.non) (u := Value.none) J rfl q
  | brk =>
    obtain ⟨_, _, _, q⟩ := hs
    exact False.elim q
  | cont =>
    obtain ⟨_, _, _, q⟩ := hs
    exact False.elim q
end L2
namespace L2
open PySem PySem.Spec PyProof.Rows
section
variable {X : Cx} {x : Str} {p pos : Pos} {e : Expr} {es : List Expr} {t : TA} {id T : String} {r : List V → Hp → VK → Prop}
def tCB (r : List V → Hp → VK → Prop) (t : TA) : TE := fun σ H Q => t σ H fun vs H1 => r vs H1 Q
theorem pe_callB (hc : CallR X (.builtin id) r) (hg : Gl X x) (hm : X.mg x = none) (hv : bootBuiltins x = some (.builtin id)) (ha : PA X (e :: es) t) (hn : x ≠ "__name__" := by decide) (hdb : (x == ("__debug__" : Str)) = false := by decide)
    (he : starEach (e :: es) X.env = (false, eval e X.env) :: starEach es X.env := by rfl) (hpl : (backTo pos (starEach es X.env)).any (·.1) = false := by rfl) : PE X (.Call (.Name x p) (e :: es) [] pos) (tCB r t) := by
  intro pins s σ H Q I h
  refine wpAny_Call_Name_kw (ld_blt I hg hm hv ?_ hn hdb)
  exact PyProof.Rows.callWith_builtin1 (thn (ha pos pins s σ H _ I h) fun us s1 ⟨vs, H1, I1, r1, q1⟩ => hc pins s1 σ H1 vs us Q I1 r1 q1) he hpl
theorem pe_callTy (hc : CallR X (.type T) r) (hg : Gl X x) (hm : X.mg x = none) (hv : bootBuiltins x = some (.type T)) (ha : PA X (e :: es) t) (hn : x ≠ "__name__" := by decide) (hdb : (x == ("__debug__" : Str)) = false := by decide)
    (he : starEach (e :: es) X.env = (false, eval e X.env) :: starEach es X.env := by rfl) (hpl : (backTo pos (starEach es X.env)).any (·.1) = false := by rfl) : PE X (.Call (.Name x p) (e :: es) [] pos) (tCB r t) := by
  intro pins s σ H Q I h
  refine wpAny_Call_Name_kw (ld_blt I hg hm hv ?_ hn hdb)
  exact PyProof.Rows.callWith_type1 (thn (ha pos pins s σ H _ I h) fun us s1 ⟨vs, H1, I1, r1, q1⟩ => hc pins s1 σ H1 vs us Q I1 r1 q1) he hpl
end
end L2
namespace HT
open PySem PyProof.Rows
section
open PySem.SeqAt
open PySem.AutoSeq1 (wpAny_loadPart')
open PySem.MeetsSeq PySem.MeetsSeq2 PySem.MeetsSeq3
end
section
variable {prog : Program} {w : World} {A : Around} {E : Value → Shared → Prop} {s : Shared}
theorem cat_tup {t b : Addr} {vs ws : List Value} {Q : Value → Shared → Prop} (ht : IsTup s.heap t vs.toArray) (hb : IsTup s.heap b ws.toArray) (hv : vs ≠ [])
    (h1 : ws = [] → Q (.ref t) s) (h2 : ws ≠ [] → Q (.ref s.heap.objs.size) { s with heap := s.heap.push { cls := .type "tuple", data := .seq (vs ++ ws).toArray } })
    (hsz : vs.length + ws.length ≤ sizeLine) : wpAny (model prog w) A (binaryOp .Add (.ref t) (.ref b)) Q E s := by
  obtain ⟨⟨cls, dd, data, sl⟩, ho, hc, n, hd⟩ := id ht
  obtain ⟨⟨cls2, dd2, data2, sl2⟩, ho2, hc2, n2, hd2⟩ := id hb
  simp only at hc hd hc2 hd2
  subst hc hd hc2 hd2
  have e : vs.toArray ++ ws.toArray = (vs ++ ws).toArray := by simp
  by_cases hw : ws = []
  · exact concat_meets ⟨_, ho, rfl⟩ ⟨_, ho2, rfl⟩ noFill_tuple_add seq_tuple_add PySem.F.slot_tuple_add PySem.F.entry_tuple_add (PySem.F.args_tuple_add_2 _ _)
      (tuple_addW1 t b vs.toArray ws.toArray n n2 dd dd2 sl sl2 (by simpa using hv) (by simp [hw])) ⟨ho, ho2, h1 hw⟩
  · refine concat_meets ⟨_, ho, rfl⟩ ⟨_, ho2, rfl⟩ noFill_tuple_add seq_tuple_add PySem.F.slot_tuple_add PySem.F.entry_tuple_add (PySem.F.args_tuple_add_2 _ _)
      (tuple_addW2 t b vs.toArray ws.toArray n n2 dd dd2 sl sl2 (by simpa using hv) (by simpa using hw) (by rw [List.size_toArray, List.size_toArray]; exact hsz)) ⟨ho, ho2, ?_⟩
    rw [e]
    exact h2 hw
def sIx (n d : Nat) : Option Int → Nat
  | none => d
  | some v => if v < 0 then (v + (n : Int)).toNat else min v.toNat n
theorem sIx_none (n d : Nat) : sIx n d none = d := rfl
theorem sIx_nat (n d k : Nat) : sIx n d (some (k : Int)) = min k n := by
  show (if (k : Int) < 0 then ((k : Int) + (n : Int)).toNat else min (k : Int).toNat n) = min k n
  rw [if_neg (by omega), Int.toNat_natCast]
theorem sIx_le (n d : Nat) (hd : d ≤ n) (o : Option Int) : sIx n d o ≤ n := by
  cases o with
  | none => exact hd
  | some v =>
    show (if v < 0 then (v + (n : Int)).toNat else min v.toNat n) ≤ n
    by_cases hv : v < 0
    · rw [if_pos hv]; omega
    · rw [if_neg hv]; exact Nat.min_le_right _ _
theorem clip_eq (v : Int) (n d : Nat) : (if v < 0 then max (v + (n : Int)) 0 else min v (n : Int)) = ((sIx n d (some v) : Nat) : Int) := by
  show (if v < 0 then max (v + (n : Int)) 0 else min v (n : Int)) = (((if v < 0 then (v + (n : Int)).toNat else min v.toNat n) : Nat) : Int)
  by_cases hv : v < 0
  · simp only [if_pos hv]; omega
  · simp only [if_neg hv]; omega
theorem adjust_gen (lo hi : Option Int) (n : Nat) : Builtin.Slice.sliceAdjust lo hi 1 (n : Int) = (((sIx n 0 lo : Nat) : Int), ((sIx n n hi : Nat) : Int)) := by
  have h1 : ¬ ((1 : Int) < 0) := by omega
  unfold Builtin.Slice.sliceAdjust
  simp only [h1, if_false]
  refine Prod.ext ?_ ?_
  · cases lo with
    | none => rfl
    | some v => exact clip_eq v n 0
  · cases hi with
    | none => rfl
    | some v => exact clip_eq v n n
theorem places_gen (i j : Nat) : Builtin.Slice.slicePlaces (i : Int) (j : Int) 1 = j - i := by
  unfold Builtin.Slice.slicePlaces
  have h1 : (1 : Int) > 0 := by omega
  simp only [h1, if_true, Int.ediv_one]
  split <;> omega
theorem slicePart_ {v : Value} {o : Option Int} {Q : Option Int → Shared → Prop} (p : IsPart v o) (h : Q o s) : wpAny (model prog w) A (Builtin.Slice.slicePartIndex v) Q E s := by
  cases p with
  | none => exact slicePart_none h
  | int i t => exact slicePart_int h
theorem sliceApplied_gen {sl : Addr} {vl vu : Value} {lo hi : Option Int} {n : Nat} {Q : Int × Int × Nat → Shared → Prop} (hs : s.heap.IsSliceOf sl vl vu .none) (pl : IsPart vl lo) (pu : IsPart vu hi)
    (h : Q (((sIx n 0 lo : Nat) : Int), 1, sIx n n hi - sIx n 0 lo) s) : wpAny (model prog w) A (Builtin.Slice.sliceApplied (.ref sl) (pure (n : Int))) Q E s := by
  obtain ⟨os, hos, hcs, hds⟩ := id hs
  unfold Builtin.Slice.sliceApplied Builtin.Slice.sliceFields
  refine wpAny_bind (wpAny_bind (wpAny_field hos hds (x := vl) rfl (wpAny_bind (wpAny_field hos hds (x := vu) rfl (wpAny_bind (wpAny_field hos hds (x := .none) rfl (wpAny_pure ?_)))))))
  refine wpAny_bind (slicePart_none ?_)
  show wpAny _ _ (if ((1 : Int) == 0) = true then _ else _) _ _ s
  rw [if_neg (by decide)]
  refine wpAny_bind (slicePart_ pl (wpAny_bind (slicePart_ pu (wpAny_bind (wpAny_pure ?_)))))
  show wpAny _ _ (match Builtin.Slice.sliceAdjust lo hi 1 (n : Int) with | (lo, hi) => pure (lo, (1 : Int), Builtin.Slice.slicePlaces lo hi 1)) _ _ s
  rw [adjust_gen lo hi n]
  show wpAny _ _ (pure (((sIx n 0 lo : Nat) : Int), (1 : Int), Builtin.Slice.slicePlaces ((sIx n 0 lo : Nat) : Int) ((sIx n n hi : Nat) : Int) 1)) _ _ s
  rw [places_gen]
  exact wpAny_pure h
theorem pick_gen (xs : Array Value) (i k : Nat) : ((List.range k).filterMap fun (m : Nat) => xs[((i : Int) + (m : Int) * 1).toNat]?).toArray = ((xs.toList.drop i).take k).toArray := by
  have e : (fun (m : Nat) => xs[((i : Int) + (m : Int) * 1).toNat]?) = fun m => xs[i + m]? := by
    funext m
    have : ((i : Int) + (m : Int) * 1).toNat = i + m := by omega
    rw [this]
  rw [e]
  have := pick_run xs i k
  rw [List.filterMap_map] at this
  have e2 : ((fun x => xs[x]?) ∘ fun x => i + x) = fun m => xs[i + m]? := rfl
  rw [e2] at this
  rw [this]
theorem getItem_tuple_cut {t sl : Addr} {items : Array Value} {vl vu : Value} {lo hi : Option Int} {Q : Value → Shared → Prop} (ht : IsTup s.heap t items) (hs : s.heap.IsSliceOf sl vl vu .none) (pl : IsPart vl lo) (pu : IsPart vu hi)
    (hw : ¬ (sIx items.size 0 lo = 0 ∧ sIx items.size items.size hi = items.size))
    (h : Q (.ref s.heap.objs.size) { s with heap := s.heap.push { cls := .type "tuple", data := .seq ((items.toList.drop (sIx items.size 0 lo)).take (sIx items.size items.size hi - sIx items.size 0 lo)).toArray } })
    (hsz : items.size ≤ sizeLine) : wpAny (model prog w) A (getItem (.ref t) (.ref sl)) Q E s := by
  have htake : sizeOk (.seq ((items.toList.drop (sIx items.size 0 lo)).take (sIx items.size items.size hi - sIx items.size 0 lo)).toArray) := by
    show ((items.toList.drop (sIx items.size 0 lo)).take (sIx items.size items.size hi - sIx items.size 0 lo)).toArray.size ≤ sizeLine
    rw [List.size_toArray, List.length_take, List.length_drop, Array.length_toList]
    omega
  have hj : sIx items.size items.size hi ≤ items.size := sIx_le _ _ (Nat.le_refl _) hi
  obtain ⟨os, hos, hcs, hds⟩ := id hs
  have hTs : s.TypeIs (.ref sl) "slice" := ⟨os, hos, hcs⟩
  unfold getItem
  try with_reducible refine wpAny_holding ?_
  first | refine wpAny_bind (wpAny_pure ?_) | skip
  refine wpAny_bind (wpAny_sequenceKey ht.typeIs (by decide) ?_)
  refine wpAny_bind (wpAny_callSpecial?_slot (name := Str.ofString "__getitem__") ht.typeIs PyProof.Rows.slot_tuple_getitem
    (wpAny_call_entry PyProof.Rows.slot_tuple_getitem ht.typeIs entry_tuple_getitem ?_ (args_tuple_getitem _ _)))
  show wpAny _ _ (Builtin.Tuple.tupleItemsOf (.ref t) >>= _) _ _ s
  refine wpAny_bind (tupleItemsOf_ ht ?_)
  refine wpAny_bind (wpAny_typeOf hTs ?_)
  rw [if_pos (by decide)]
  refine wpAny_bind (sliceApplied_gen hs pl pu ?_)
  have hno : ¬ ((((sIx items.size 0 lo : Nat) : Int) == 0 && (1 : Int) == 1 && (sIx items.size items.size hi - sIx items.size 0 lo) == items.size) = true) := by
    intro q
    rw [Bool.and_eq_true, Bool.and_eq_true] at q
    have q1 : ((sIx items.size 0 lo : Nat) : Int) = 0 := eq_of_beq q.1.1
    have q2 : sIx items.size items.size hi - sIx items.size 0 lo = items.size := eq_of_beq q.2
    exact hw ⟨by omega, by omega⟩
  show wpAny _ _ (if (((sIx items.size 0 lo : Nat) : Int) == 0 && (1 : Int) == 1 && (sIx items.size items.size hi - sIx items.size 0 lo) == items.size) = true then _ else _) _ _ s
  rw [if_neg hno, pick_gen]
  first
    | exact wpAny_bind (m := Builtin.Tuple.tupleExact _) (wpAny_newObj_type (wpAny_pure ⟨_, rfl, wpAny_pure h⟩) htake)
    | exact wpAny_bind (m := Builtin.Tuple.tupleExact _) (wpAny_newObj_type (wpAny_bind (wpAny_pure (wpAny_pure ⟨_, rfl, wpAny_pure h⟩))) htake)
    | exact wpAny_bind (wpAny_bind (m := Builtin.Tuple.tupleExact _) (wpAny_newObj_type (wpAny_pure (wpAny_pure ⟨_, rfl, wpAny_pure h⟩)) htake))
    | exact wpAny_bind (wpAny_bind (m := Builtin.Tuple.tupleExact _) (wpAny_newObj_type (wpAny_pure ⟨_, rfl, wpAny_pure h⟩) htake))
end
end HT
namespace L2
open PySem PySem.Spec PyProof.Rows
abbrev TO := St → Hp → (Option Int → Hp → Prop) → Prop
def PO (X : Cx) (e : Option Expr) (t : TO) : Prop :=
  ∀ (pins : List (Addr × Obj)) (s : Shared) (σ : St) (H : Hp) (Q : Option Int → Hp → Prop), Inv X pins σ H s → t σ H Q →
    wpAny (model X.prog X.w) X.A (evalPart e X.env) (fun u s' => ∃ o H', Inv X pins σ H' s' ∧ IsPart u o ∧ Q o H') X.xe s
def tNoPart : TO := fun _ H Q => Q none H
def tPart (t : TE) : TO := fun σ H Q => t σ H fun x H1 => ∃ i, x = .int i ∧ Q (some i) H1
theorem intsAre_of {ns : List Int} : ∀ {us : List Value}, Vals (ns.map V.int) us → IntsAre us ns := by
  induction ns with
  | nil => intro us r; rw [List.map_nil] at r; cases r; exact .nil
  | cons n ns ih =>
    intro us r
    rw [List.map_cons] at r
    cases r with
    | cons r1 r2 =>
      obtain ⟨t, e⟩ := r1
      subst e
      exact .cons n t (ih r2)
section
variable {X : Cx} {e : Expr} {te : TE} {lo hi : Option Expr} {tl th : TO} {pos p2 : Pos}
theorem po_none : PO X none tNoPart := by
  intro pins s σ H Q I h
  rw [evalPart_none]
  exact wpAny_pure ⟨none, H, I, .none, h⟩
theorem po_some (h : PE X e te) : PO X (some e) (tPart te) := by
  intro pins s σ H Q I hw
  rw [evalPart_some]
  refine thn (h pins s σ H _ I hw) fun u s1 ⟨x, H1, I1, r1, q1⟩ => ?_
  obtain ⟨i, rfl, q⟩ := q1
  obtain ⟨t, rfl⟩ := r1
  exact ⟨some i, H1, I1, .int i t, q⟩
def SlR (X : Cx) (r : V → Option Int → Option Int → Hp → VK → Prop) : Prop :=
  ∀ (pins : List (Addr × Obj)) (s : Shared) (σ : St) (H : Hp) (x : V) (v vl vu : Value) (lo hi : Option Int) (sl : Addr) (Q : VK), Inv X pins σ H s → RelV x v → s.heap.IsSliceOf sl vl vu .none → IsPart vl lo → IsPart vu hi → r x lo hi H Q →
    ∃ T id, typeLookup (.type T) "__getitem__" = pure (some (.builtin id)) ∧ s.TypeIs v T ∧ wpAny (model X.prog X.w) X.A (getItem v (.ref sl)) (EP X pins σ Q) X.xe s
def tSl (r : V → Option Int → Option Int → Hp → VK → Prop) (te : TE) (tl th : TO) : TE := fun σ H Q => te σ H fun x H1 => tl σ H1 fun l H2 => th σ H2 fun u H3 => r x l u H3 Q
theorem pe_slice {r : V → Option Int → Option Int → Hp → VK → Prop} (hr : SlR X r) (he : PE X e te) (hl : PO X lo tl) (hu : PO X hi th) : PE X (.Subscript e (.Slice lo hi none p2) pos) (tSl r te tl th) := by
  intro pins s σ H Q I h
  refine Subscript_ (thn (he pins s σ H _ I h) fun v s1 ⟨x, H1, I1, r1, q1⟩ => ?_)
  refine wpAny_Slice (thn (hl pins s1 σ H1 _ I1 q1) fun vl s2 ⟨l, H2, I2, pl, q2⟩ => thn (hu pins s2 σ H2 _ I2 q2) fun vu s3 ⟨u, H3, I3, pu, q3⟩ => ?_)
  rw [evalPart_none]
  refine wpAny_pure ?_
  have I4 : Inv X pins σ H3 { s3 with heap := s3.heap.push { cls := .type "slice", data := .fields #[vl, vu, .none] } } := I3.kept (t' := s3.toks) fun b ob q => Heap.get?_push_of_some _ q
  obtain ⟨T, id, hT, ht, hg⟩ := hr pins { s3 with heap := s3.heap.push { cls := .type "slice", data := .fields #[vl, vu, .none] } } σ H3 x v vl vu l u s3.heap.objs.size Q I4 r1 (Heap.IsSliceOf.new ..) pl pu q3
  show wpAny (model X.prog X.w) X.A (subscriptTail e (.Slice lo hi none p2) v (.ref s3.heap.objs.size)) (EP X pins σ Q) X.xe { s3 with heap := s3.heap.push { cls := .type "slice", data := .fields #[vl, vu, .none] } }
  exact tail_any (ops := [.ref s3.heap.objs.size, v]) ht hT hg (by with_unfolding_all rfl)
def cutV (xs : List V) (lo hi : Option Int) : List V := (xs.drop (HT.sIx xs.length 0 lo)).take (HT.sIx xs.length xs.length hi - HT.sIx xs.length 0 lo)
theorem cutV_length (xs : List V) (lo hi : Option Int) : (cutV xs lo hi).length ≤ xs.length := by
  unfold cutV
  rw [List.length_take, List.length_drop]
  omega
def rSlT (K : PySem.W.Frag) : V → Option Int → Option Int → Hp → VK → Prop := fun x lo hi H Q => ∃ a xs, x = .ref a ∧ SqT K H a xs ∧
  ¬ (HT.sIx xs.length 0 lo = 0 ∧ HT.sIx xs.length xs.length hi = xs.length) ∧ ∀ p, H p = none → Q (.ref p) (upd H p (.tup (cutV xs lo hi)))
theorem sl_tup : SlR X (rSlT X.K) := by
  intro pins s σ H x v vl vu lo hi sl Q I rx hs pl pu h
  obtain ⟨a, xs, rfl, hx, hw, q⟩ := h
  cases rx
  obtain ⟨its, r, ht, hz⟩ := I.tuple hx
  have hlen : its.toArray.size = xs.length := by rw [List.size_toArray]; exact r.length.symm
  refine ⟨"tuple", _, PyProof.Rows.slot_tuple_getitem.lookup, ht.typeIs, ?_⟩
  refine HT.getItem_tuple_cut ht hs pl pu (by rw [hlen]; exact hw) ?_ (by rw [hlen]; exact hz)
  rw [hlen]
  refine ⟨.ref s.heap.objs.size, _, I.laid (t' := s.toks) (o := .tup (cutV xs lo hi)) (fun b ob q => Heap.get?_push_of_some _ q) (Nat.le_refl _) ?_, rfl, q _ (I.hok.fresh (Nat.le_refl _))⟩
  exact ⟨Nat.le_trans (cutV_length xs lo hi) hz, _, (r.drop (HT.sIx xs.length 0 lo)).take (HT.sIx xs.length xs.length hi - HT.sIx xs.length 0 lo), IsTup.new _ _⟩
def rCatT (K : PySem.W.Frag) : R2 := fun x y H Q => ∃ a b xs ys, x = .ref a ∧ y = .ref b ∧ SqT K H a xs ∧ SqT K H b ys ∧ xs ≠ [] ∧ xs.length + ys.length ≤ sizeLine ∧
  (ys = [] → Q (.ref a) H) ∧ (ys ≠ [] → ∀ p, H p = none → Q (.ref p) (upd H p (.tup (xs ++ ys))))
theorem Vals.nil_iff {xs : List V} {us : List Value} (r : Vals xs us) : us = [] ↔ xs = [] := by
  cases r with
  | nil => simp
  | cons _ _ => simp
theorem op_catT : OpR X (binaryOp .Add) (rCatT X.K) := by
  intro pins s σ H x y v u Q I rx ry h
  obtain ⟨a, b, xs, ys, rfl, rfl, ha, hb, hx, hz, q1, q2⟩ := h
  cases rx
  cases ry
  obtain ⟨its, r1, p1, _⟩ := I.tuple ha
  obtain ⟨its2, r2, p2, _⟩ := I.tuple hb
  refine HT.cat_tup p1 p2 (fun z => hx (r1.nil_iff.mp z)) (fun z => ⟨.ref a, H, I, rfl, q1 (r2.nil_iff.mp z)⟩) (fun z => ?_) (by rw [← r1.length, ← r2.length]; exact hz)
  refine ⟨.ref s.heap.objs.size, _, I.laid (t' := s.toks) (o := .tup (xs ++ ys)) (fun b ob q => Heap.get?_push_of_some _ q) (Nat.le_refl _) ?_, rfl, q2 (fun w => z (r2.nil_iff.mpr w)) _ (I.hok.fresh (Nat.le_refl _))⟩
  exact ⟨by rw [List.length_append]; exact hz, _, r1.append r2, IsTup.new _ _⟩
end
end L2
namespace L2
open PySem PySem.Spec PyProof.Rows
def ixN (n : Nat) (i : Int) : Option Nat := if 0 ≤ i then (if i < n then some i.toNat else none) else if -(n : Int) ≤ i then some (i + n).toNat else none
def atI {α : Type} (xs : List α) (i : Int) : Option α := (ixN xs.length i).bind fun j => xs[j]?
theorem ixN_seq {n : Nat} {i : Int} {j : Nat} (h : ixN n i = some j) : seqIndex? i n = some j ∧ j < n ∧ -(n : Int) ≤ i ∧ i < n := by
  unfold ixN at h
  by_cases h0 : 0 ≤ i
  · rw [if_pos h0] at h
    by_cases h1 : i < n
    · rw [if_pos h1] at h
      have e : i.toNat = j := Option.some.inj h
      exact ⟨by rw [seqIndex_of h0 h1, e], by omega, by omega, h1⟩
    · rw [if_neg h1] at h; cases h
  · rw [if_neg h0] at h
    by_cases h1 : -(n : Int) ≤ i
    · rw [if_pos h1] at h
      have e : (i + n).toNat = j := Option.some.inj h
      exact ⟨by rw [seqIndex_neg (by omega) h1, e], by omega, h1, by omega⟩
    · rw [if_neg h1] at h; cases h
theorem atI_get {α : Type} {xs : List α} {i : Int} {v : α} (h : atI xs i = some v) : ∃ j, seqIndex? i xs.length = some j ∧ xs[j]? = some v ∧ j < xs.length ∧ -(xs.length : Int) ≤ i ∧ i < xs.length := by
  unfold atI at h
  cases e : ixN xs.length i with
  | none => rw [e] at h; cases h
  | some j =>
    rw [e] at h
    obtain ⟨h1, h2, h3, h4⟩ := ixN_seq e
    exact ⟨j, h1, h, h2, h3, h4⟩
theorem atI_nat {α : Type} {xs : List α} {j : Nat} {v : α} (h : xs[j]? = some v) : atI xs (j : Int) = some v := by
  have hj : j < xs.length := (List.getElem?_eq_some_iff.mp h).1
  have e : ixN xs.length (j : Int) = some j := by
    unfold ixN
    rw [if_pos (by omega), if_pos (by omega)]; simp
  unfold atI; rw [e]; exact h
def PlainIx (b : Expr) : Prop := ∀ o i, subscripted b false o i = operate [o, i] (getItem o i)
def IxR (X : Cx) (r : R2) : Prop :=
  ∀ (value slice : Expr) (pins : List (Addr × Obj)) (s : Shared) (σ : St) (H : Hp) (x y : V) (v u : Value) (Q : VK), Inv X pins σ H s → RelV x v → RelV y u → r x y H Q →
    subscripted slice false v u = operate [v, u] (getItem v u) → wpAny (model X.prog X.w) X.A (subscriptTail value slice v u) (EP X pins σ Q) X.xe s
def MtR (X : Cx) (id : String) (r : V → List V → Hp → VK → Prop) : Prop :=
  ∀ (pins : List (Addr × Obj)) (s : Shared) (σ : St) (H : Hp) (x : V) (xs : List V) (v : Value) (us : List Value) (Q : VK), Inv X pins σ H s → RelV x v → Vals xs us → r x xs H Q →
    wpAny (model X.prog X.w) X.A (call (.builtin id) (v :: us)) (EP X pins σ Q) X.xe s
section
variable {X : Cx} {a b : Expr} {ta tb : TE} {pos : Pos}
theorem IxR.or {r r' : R2} (h : IxR X r) (h' : IxR X r') : IxR X (fun x y H Q => r x y H Q ∨ r' x y H Q) := by
  intro value slice pins s σ H x y v u Q I rx ry q hs
  rcases q with q | q
  · exact h value slice pins s σ H x y v u Q I rx ry q hs
  · exact h' value slice pins s σ H x y v u Q I rx ry q hs
theorem pe_ix {r : R2} (hr : IxR X r) (ha : PE X a ta) (hb : PE X b tb) (hs : PlainIx b) : PE X (.Subscript a b pos) (tOp r ta tb) := by
  intro pins s σ H Q I h
  exact Subscript_ (binT ha hb I h fun v u s2 x y H2 I2 rx ry q => hr a b pins s2 σ H2 x y v u Q I2 rx ry q (hs _ _))
def rIxL (K : PySem.W.Frag) : R2 := fun x y H Q => ∃ p xs i v, x = .ref p ∧ y = .int i ∧ SqL K H p xs ∧ atI xs i = some v ∧ Q v H
def rIxT (K : PySem.W.Frag) : R2 := fun x y H Q => ∃ p xs i v, x = .ref p ∧ y = .int i ∧ SqT K H p xs ∧ atI xs i = some v ∧ Q v H
def rIxS : R2 := fun x y H Q => ∃ z i c, x = .str z ∧ y = .int i ∧ z.length ≤ sizeLine ∧ atI z.cps.toList i = some c ∧ Q (.str ⟨#[c]⟩) H
theorem ix_list : IxR X (rIxL X.K) := by
  intro value slice pins s σ H x y v u Q I rx ry h hs
  obtain ⟨p, xs, i, z, rfl, rfl, hq, he, q⟩ := h
  cases rx
  obtain ⟨t, rfl⟩ := ry
  obtain ⟨its, r, pl, hz⟩ := I.list hq
  obtain ⟨j, h1, h2, h3, h4, h5⟩ := atI_get he
  obtain ⟨w, ew, rw'⟩ := r.get h2
  have hl := r.length
  have hn := line63
  have fin : EP X pins σ Q w s := ⟨z, H, I, rw', q⟩
  by_cases h0 : 0 ≤ i
  · have hj : i.toNat = j := by
      rw [seqIndex_of h0 h5] at h1
      exact Option.some.inj h1
    exact item_listR pl.isList h0 (by omega) (by rw [hj]; simpa using ew) fin hs
  · have hj : (i + (its.toArray.size : Int)).toNat = j := by
      rw [seqIndex_neg (by omega) h4] at h1
      rw [List.size_toArray, ← hl]
      exact Option.some.inj h1
    exact subscriptTail_builtinR (x := w) pl.isList.typeIs slot_list_getitem.lookup
      (wpAny_getItem_list_neg (Q := fun r s' => r = w ∧ EP X pins σ Q r s') pl.isList (by omega) (by rw [List.size_toArray] <;> omega) (by omega) (by rw [hj]; simpa using ew) ⟨rfl, fin⟩) hs
theorem ix_tup : IxR X (rIxT X.K) := by
  intro value slice pins s σ H x y v u Q I rx ry h hs
  obtain ⟨p, xs, i, z, rfl, rfl, hq, he, q⟩ := h
  cases rx
  obtain ⟨t, rfl⟩ := ry
  obtain ⟨its, r, pl, hz⟩ := I.tuple hq
  obtain ⟨j, h1, h2, h3, h4, h5⟩ := atI_get he
  obtain ⟨w, ew, rw'⟩ := r.get h2
  have hl := r.length
  have hn := line63
  have fin : EP X pins σ Q w s := ⟨z, H, I, rw', q⟩
  exact subscriptTail_builtinR (x := w) pl.typeIs slot_tuple_getitem.lookup
    (getItem_tuple (j := j) (Q := fun r s' => r = w ∧ EP X pins σ Q r s') pl (by omega) (by omega) (by rw [List.size_toArray, ← hl]; exact h1) (by simpa using ew) ⟨rfl, fin⟩) hs
theorem ix_str : IxR X rIxS := by
  intro value slice pins s σ H x y v u Q I rx ry h hs
  obtain ⟨z, i, c, rfl, rfl, hz, he, q⟩ := h
  obtain ⟨t, rfl⟩ := rx
  obtain ⟨t', rfl⟩ := ry
  obtain ⟨j, h1, h2, h3, h4, h5⟩ := atI_get he
  have hl : z.cps.toList.length = z.length := by simp [Str.length]
  rw [hl] at h1 h4 h5
  have hn := line63
  exact tail_any (typeIs_str s z t) slot_str_getitem.lookup (getItem_str (c := c) (by
    have e1 : decide (i < -(2 ^ 63 : Int)) = false := decide_eq_false (by omega)
    have e2 : decide (i ≥ 2 ^ 63) = false := decide_eq_false (by omega)
    rw [e1, e2, Bool.or_false]) (by rw [h1]; simpa using h2) ⟨.str ⟨#[c]⟩, H, I.tok _, ⟨_, rfl⟩, q⟩) hs
def rIx (K : PySem.W.Frag) : R2 := fun x y H Q => rIxL K x y H Q ∨ rIxT K x y H Q ∨ rIxS x y H Q
theorem ix_seq : IxR X (rIx X.K) := ix_list.or (ix_tup.or ix_str)
theorem mapSeq_set (its : List Value) (n j : Nat) (u : Value) : Obj.mapSeq (·.setIfInBounds j u) { cls := .type "list", data := .seq its.toArray n } = { cls := .type "list", data := .seq (its.set j u).toArray n } := by
  simp [Obj.mapSeq]
theorem Inv.lst {pins : List (Addr × Obj)} {σ : St} {H : Hp} {s : Shared} {p : Addr} {xs : List V} (I : Inv X pins σ H s) (h : H p = some (.lst xs)) :
    ∃ (its : List Value) (n : Nat), Vals xs its ∧ s.heap.get? p = some { cls := .type "list", data := .seq its.toArray n } ∧ xs.length ≤ sizeLine := by
  obtain ⟨z, its, n, r, e⟩ := I.hok p _ h
  exact ⟨its, n, r, e, z⟩
theorem Inv.lstUpd {pins : List (Addr × Obj)} {σ : St} {H : Hp} {s : Shared} {p : Addr} {xs ys : List V} {its its' : List Value} {n n' : Nat} {f : Obj → Obj} (I : Inv X pins σ H s) (h : H p = some (.lst xs))
    (ho : s.heap.get? p = some { cls := .type "list", data := .seq its.toArray n }) (hf : f { cls := .type "list", data := .seq its.toArray n } = { cls := .type "list", data := .seq its'.toArray n' }) (r : Vals ys its') (hz : ys.length ≤ sizeLine) (t : Nat) :
    Inv X pins σ (upd H p (.lst ys)) { s with heap := s.heap.update p f, toks := t } := by
  have e : (s.heap.update p f).get? p = some { cls := .type "list", data := .seq its'.toArray n' } := by
    rw [Heap.get?_update_self f ho (by rw [hf] <;> rfl), hf]
  refine I.write (x := p) (e := p) (by rw [h]; trivial) (.inl rfl) (fun b u hb q => (Heap.get?_update_other _ _ (Ne.symm hb)).trans q) ⟨_, e⟩ ?_
  exact ⟨hz, its', n', r, e⟩
def rSetL : V → V → V → Hp → (Hp → Prop) → Prop := fun o i v H Q => ∃ p xs k j, o = .ref p ∧ i = .int k ∧ H p = some (.lst xs) ∧ ixN xs.length k = some j ∧ Q (upd H p (.lst (xs.set j v)))
theorem set_list : PSet X rSetL := by
  intro pins s σ H o i v ov iv u Q I ro ri rv h
  obtain ⟨p, xs, k, j, rfl, rfl, hp, hj, q⟩ := h
  cases ro
  obtain ⟨t, rfl⟩ := ri
  obtain ⟨its, n, r, ho, hz⟩ := I.lst hp
  obtain ⟨h1, h2, h3, h4⟩ := ixN_seq hj
  have hl := r.length
  have hn := line63
  have I' : Inv X pins σ (upd H p (.lst (xs.set j v))) { s with heap := s.heap.update p (Obj.mapSeq (·.setIfInBounds j u)) } :=
    I.lstUpd hp ho (mapSeq_set its n j u) (r.set rv j) (by rw [List.length_set]; exact hz) s.toks
  by_cases h0 : 0 ≤ k
  · have hk : k.toNat = j := by
      rw [seqIndex_of h0 h4] at h1
      exact Option.some.inj h1
    exact PySem.W.ki_setAt ho h0 (by omega) (by rw [List.size_toArray, ← hl]; exact h4) (by rw [hk]; exact ⟨_, I', q⟩)
  · have hk : (k + (its.toArray.size : Int)).toNat = j := by
      rw [seqIndex_neg (by omega) h3] at h1
      rw [List.size_toArray, ← hl]
      exact Option.some.inj h1
    exact PySem.W.ki_setBack ho (by omega) (by rw [List.size_toArray, ← hl]; exact h3) (by omega) (by rw [hk]; exact ⟨_, I', q⟩)
theorem slice_bounds (lo hi : Option Int) (n : Nat) : (sliceBounds lo hi none n).1 = ((HT.sIx n 0 lo : Nat) : Int) ∧ (sliceBounds lo hi none n).2.1 = ((HT.sIx n n hi : Nat) : Int) ∧ (sliceBounds lo hi none n).2.2 = 1 := by
  refine ⟨?_, ?_, rfl⟩
  · cases lo with
    | none => simp [sliceBounds, HT.sIx]
    | some i =>
      simp only [sliceBounds, HT.sIx, Option.getD_none, show (1 : Int) > 0 by decide, if_true]
      by_cases h : i < 0
      · simp only [h, if_true] <;> omega
      · simp only [h, if_false] <;> omega
  · cases hi with
    | none => simp [sliceBounds, HT.sIx]
    | some i =>
      simp only [sliceBounds, HT.sIx, Option.getD_none, show (1 : Int) > 0 by decide, if_true]
      by_cases h : i < 0
      · simp only [h, if_true] <;> omega
      · simp only [h, if_false] <;> omega
theorem slicePick_cut (its : List Value) (lo hi : Option Int) : slicePick its.toArray lo hi none = ((its.drop (HT.sIx its.length 0 lo)).take (HT.sIx its.length its.length hi - HT.sIx its.length 0 lo)).toArray := by
  obtain ⟨h1, h2, h3⟩ := slice_bounds lo hi its.toArray.size
  unfold slicePick
  rw [h1, h2, h3]
  simp only [sliceRange_one, pick_run, List.size_toArray] <;> rfl
def rSlL (K : PySem.W.Frag) : V → Option Int → Option Int → Hp → VK → Prop := fun x lo hi H Q => ∃ a xs, x = .ref a ∧ SqL K H a xs ∧ ∀ p, H p = none → Q (.ref p) (upd H p (.lst (cutV xs lo hi)))
theorem sl_list : SlR X (rSlL X.K) := by
  intro pins s σ H x v vl vu lo hi sl Q I rx hs pl pu h
  obtain ⟨a, xs, rfl, hx, q⟩ := h
  cases rx
  obtain ⟨its, r, ht, hz⟩ := I.list hx
  have hlen := r.length
  refine ⟨"list", _, slot_list_getitem.lookup, ht.isList.typeIs, ?_⟩
  refine wpAny_getItem_list_slice ht.isList hs pl pu .none (by simp) ?_ (by rw [List.size_toArray] <;> omega)
  rw [slicePick_cut, ← hlen]
  refine ⟨.ref s.heap.objs.size, _, I.laid (t' := s.toks) (o := .lst (cutV xs lo hi)) (fun b ob q => Heap.get?_push_of_some _ q) (Nat.le_refl _) ?_, rfl, q _ (I.hok.fresh (Nat.le_refl _))⟩
  exact ⟨Nat.le_trans (cutV_length xs lo hi) hz, _, 0, (r.drop (HT.sIx xs.length 0 lo)).take (HT.sIx xs.length xs.length hi - HT.sIx xs.length 0 lo), Heap.get?_push_size _ rfl⟩
theorem call_len_seq : CallR X (.builtin "len") (fun xs H Q => ∃ p ys, xs = [.ref p] ∧ (SqL X.K H p ys ∨ SqT X.K H p ys) ∧ Q (.int ys.length) H) := by
  intro pins s σ H xs us Q I r h
  obtain ⟨p, ys, rfl, hq, q⟩ := h
  obtain ⟨u, rfl, rx⟩ := vals1 r
  cases rx
  have hn := line63
  rcases hq with hq | hq
  · obtain ⟨its, r', pl, hz⟩ := I.list hq
    have hlen := r'.length
    exact Calls.call_len_list pl.isList (by simp only [List.size_toArray] <;> omega) ⟨.int ys.length, H, I.tok _, ⟨s.toks + 1, by rw [List.size_toArray, hlen]⟩, q⟩
  · obtain ⟨its, r', pl, hz⟩ := I.tuple hq
    have hlen := r'.length
    exact len_tuple pl (by simp only [List.size_toArray] <;> omega) ⟨.int ys.length, H, I.tok _, ⟨s.toks + 1, by rw [List.size_toArray, hlen]⟩, q⟩
theorem call_len_str : CallR X (.builtin "len") (fun xs H Q => ∃ z, xs = [.str z] ∧ z.length ≤ sizeLine ∧ Q (.int z.length) H) := by
  intro pins s σ H xs us Q I r h
  obtain ⟨z, rfl, hz, q⟩ := h
  obtain ⟨u, rfl, t, rfl⟩ := vals1 r
  have hn := line63
  exact len_str (by omega) ⟨.int z.length, H, I.tok _, ⟨_, rfl⟩, q⟩
theorem call_list_of : CallR X (.type "list") (fun xs H Q => ∃ p ys, xs = [.ref p] ∧ (SqL X.K H p ys ∨ SqT X.K H p ys) ∧ ∀ l, H l = none → Q (.ref l) (upd H l (.lst ys))) := by
  intro pins s σ H xs us Q I r h
  obtain ⟨p, ys, rfl, hq, q⟩ := h
  obtain ⟨u, rfl, rx⟩ := vals1 r
  cases rx
  have fin : ∀ (its : List Value), Vals ys its → ys.length ≤ sizeLine → ∀ (h' : Heap) (c' : Nat), (∀ b o', s.heap.get? b = some o' → h'.get? b = some o') →
      h'.get? s.heap.objs.size = some { cls := .type "list", dict := none, data := .seq its.toArray c', slots := #[] } → EP X pins σ Q (.ref s.heap.objs.size) { s with heap := h' } := fun its r' hz h' c' kp e =>
    ⟨.ref s.heap.objs.size, _, I.laid (t' := s.toks) kp (Nat.le_refl _) (show ObjOk X.prog X.w _ h' _ (.lst ys) from ⟨hz, its, c', r', e⟩), rfl, q _ (I.hok.fresh (Nat.le_refl _))⟩
  rcases hq with hq | hq
  · obtain ⟨its, r', pl, hz⟩ := I.list hq
    have hlen := r'.length
    obtain ⟨o, ho, hc, n, hd⟩ := pl.isList
    exact call_list_seq p (.inl rfl) ho hc hd (fun h' c' kp e => fin its r' hz h' c' kp e) (by simp only [List.size_toArray] <;> omega)
  · obtain ⟨its, r', pl, hz⟩ := I.tuple hq
    have hlen := r'.length
    obtain ⟨o, ho, hc, n, hd⟩ := pl
    exact call_list_seq p (.inr rfl) ho hc hd (fun h' c' kp e => fin its r' hz h' c' kp e) (by simp only [List.size_toArray] <;> omega)
theorem call_tuple_of : CallR X (.type "tuple") (fun xs H Q => ∃ p ys, xs = [.ref p] ∧ ((SqL X.K H p ys ∧ ∀ l, H l = none → Q (.ref l) (upd H l (.tup ys))) ∨ (SqT X.K H p ys ∧ Q (.ref p) H))) := by
  intro pins s σ H xs us Q I r h
  obtain ⟨p, ys, rfl, h⟩ := h
  obtain ⟨u, rfl, rx⟩ := vals1 r
  cases rx
  rcases h with ⟨hq, q⟩ | ⟨hq, q⟩
  · obtain ⟨its, r', pl, hz⟩ := I.list hq
    have hlen := r'.length
    refine call_tuple_list pl.isList (fun h' kp => ?_) (by simp only [List.size_toArray] <;> omega)
    have I1 : Inv X pins σ H { s with heap := h' } := I.kept (t' := s.toks) kp
    have I2 : Inv X pins σ (upd H h'.objs.size (.tup ys)) { s with heap := h'.push { cls := .type "tuple", data := .seq its.toArray } } :=
      I1.laid (t' := s.toks) (fun b o e => Heap.get?_push_of_some _ e) (Nat.le_refl _) (show ObjOk X.prog X.w _ _ _ (.tup ys) from ⟨hz, its, r', IsTup.new _ _⟩)
    exact ⟨.ref h'.objs.size, _, I2, rfl, q _ (I1.hok.fresh (Nat.le_refl _))⟩
  · obtain ⟨its, r', pl, hz⟩ := I.tuple hq
    exact call_tuple_same pl ⟨.ref p, H, I, rfl, q⟩
def tyV (K : PySem.W.Frag) (T : String) (x : V) (H : Hp) : Prop := match x with
  | .str _ => T = "str"
  | .int _ => T = "int"
  | .ref p => (T = "list" ∧ ∃ xs, SqL K H p xs) ∨ (T = "tuple" ∧ ∃ o, K.lookup p = some o ∧ o.cls = .type "tuple" ∧ o.dict = none) ∨
      (T = "dict" ∧ ((∃ kvs, H p = some (.dK kvs)) ∨ ∃ kvs, H p = some (.dT kvs))) ∨ (T = "set" ∧ ∃ S n, H p = some (.set S n))
  | _ => False
theorem tyV_is {pins : List (Addr × Obj)} {σ : St} {H : Hp} {s : Shared} {T : String} {x : V} {v : Value} (I : Inv X pins σ H s) (r : RelV x v) (ty : tyV X.K T x H) :
    s.TypeIs v T ∧ ∀ a, v = .ref a → ∃ ob, s.heap.get? a = some ob ∧ ob.dict = none := by
  cases x with
  | str z =>
    obtain ⟨t, rfl⟩ := r
    cases (show T = "str" from ty)
    exact ⟨typeIs_str s z t, fun _ e => nomatch e⟩
  | int i =>
    obtain ⟨t, rfl⟩ := r
    cases (show T = "int" from ty)
    exact ⟨typeIs_int s i t, fun _ e => nomatch e⟩
  | ref p =>
    cases r
    rcases ty with ⟨rfl, xs, hq⟩ | ⟨rfl, o, hk, hc, hd⟩ | ⟨rfl, hk⟩ | ⟨rfl, S, n, hk⟩
    · obtain ⟨its, _, pl, _⟩ := I.list hq
      refine ⟨pl.isList.typeIs, fun a e => ?_⟩
      cases e
      obtain ⟨o, n, e, c, hd, _⟩ := pl
      exact ⟨o, e, hd⟩
    · refine ⟨⟨o, I.kIn p o hk, hc⟩, fun a e => ?_⟩
      cases e
      exact ⟨o, I.kIn _ o hk, hd⟩
    · have z : ∃ o, s.heap.get? p = some o ∧ o.ExactDict := by
        rcases hk with ⟨kvs, hk⟩ | ⟨kvs, hk⟩
        · obtain ⟨_, _, _, _, o, _, _, e, ex, _⟩ := I.hok p _ hk
          exact ⟨o, e, ex⟩
        · obtain ⟨_, _, _, _, o, _, _, e, ex, _⟩ := I.hok p _ hk
          exact ⟨o, e, ex⟩
      obtain ⟨o, e, ex⟩ := z
      refine ⟨⟨o, e, ex.1⟩, fun a e2 => ?_⟩
      cases e2
      exact ⟨o, e, ex.2.1⟩
    · obtain ⟨o, _, _, _, e, ex, _⟩ := I.hok p _ hk
      refine ⟨⟨o, e, ex.1⟩, fun a e2 => ?_⟩
      cases e2
      exact ⟨o, e, ex.2.1⟩
  | _ => exact False.elim ty
def tBM0 (K : PySem.W.Frag) (T : String) (r : V → List V → Hp → VK → Prop) (to : TE) : TE := fun σ H Q => to σ H fun x H1 => tyV K T x H1 ∧ r x [] H1 Q
def tBM (K : PySem.W.Frag) (T : String) (r : V → List V → Hp → VK → Prop) (to : TE) (t : TA) : TE := fun σ H Q => to σ H fun x H1 => tyV K T x H1 ∧ t σ H1 fun xs H2 => r x xs H2 Q
variable {o e : Expr} {es : List Expr} {to : TE} {t : TA} {name : Str} {apos cpos : Pos} {T id : String} {r : V → List V → Hp → VK → Prop}
theorem pe_bm0 (pa : PlainAttrs T) (slot : Slot T name id) (hty : typeOf (.builtin id) = pure (.type "method_descriptor")) (hm : MtR X id r) (ho : PE X o to)
    (hbase : attributeBase o name X.env (eval o X.env) = eval o X.env := by rfl) (hline : (apos.endLine == cpos.line) = true := by rfl) : PE X (.Call (.Attribute o name apos) [] [] cpos) (tBM0 X.K T r to) := by
  intro pins s σ H Q I h
  refine wpAny_Call_method0_late hbase hline (thn (ho pins s σ H _ I h) fun v s1 ⟨x, H1, I1, r1, ty, q1⟩ => ?_)
  obtain ⟨h1, h2⟩ := tyV_is I1 r1 ty
  exact ⟨T, id, pa, slot, hty, h1, h2, Calls.callWith_builtin rfl (PySem.evalArgs_none (hm pins s1 σ H1 x [] v [] Q I1 r1 .nil q1))⟩
theorem pe_bm (pa : PlainAttrs T) (slot : Slot T name id) (hty : typeOf (.builtin id) = pure (.type "method_descriptor")) (hm : MtR X id r) (ho : PE X o to) (ha : PA X (e :: es) t)
    (hbase : attributeBase o name X.env (eval o X.env) = eval o X.env := by rfl)
    (hfew : ((backTo cpos (starEach (e :: es) X.env)).all (fun x => !x.1) && (backToKw cpos (keywordEach [] X.env)).all (fun x => x.1.isSome)
      && decide ((e :: es).length + ([] : List Keyword).length + (if ([] : List Keyword).isEmpty then 0 else 1) < 30)) = true := by rfl)
    (hline : (apos.endLine == cpos.line) = true := by rfl) (hs : starEach (e :: es) X.env = (false, eval e X.env) :: starEach es X.env := by rfl) (hplain : (backTo cpos (starEach es X.env)).any (·.1) = false := by rfl) :
    PE X (.Call (.Attribute o name apos) (e :: es) [] cpos) (tBM X.K T r to t) := by
  intro pins s σ H Q I h
  refine wpAny_Call_method_late hbase hfew hline rfl (thn (ho pins s σ H _ I h) fun v s1 ⟨x, H1, I1, r1, ty, q1⟩ => ?_)
  obtain ⟨h1, h2⟩ := tyV_is I1 r1 ty
  refine ⟨T, id, pa, slot, hty, h1, h2, ?_⟩
  have hA := ha cpos pins s1 σ H1 _ I1 q1
  rw [hs] at hA ⊢
  refine Calls.callWith_builtin (by show (false || (backTo cpos (starEach es X.env)).any (·.1)) = false; rw [hplain] <;> rfl) (Calls.evalArgs_plain ?_)
  exact thn hA fun us s2 ⟨vs, H2, I2, r2, q2⟩ => hm pins s2 σ H2 x vs v us Q I2 r1 r2 q2
end
end L2
namespace L2
open PySem PySem.Spec PyProof.Rows
def MtM (X : Cx) (id : String) (r : V → List V → Hp → VK → Prop) : Prop :=
  ∀ (pins : List (Addr × Obj)) (s : Shared) (σ : St) (H : Hp) (x : V) (xs : List V) (v : Value) (us : List Value) (Q : VK), Inv X pins σ H s → RelV x v → Vals xs us → r x xs H Q →
    wpAny (model X.prog X.w) X.A (call (.builtin id) (v :: us)) (EP X pins σ Q) X.xe s
theorem Vals.one : ∀ {x : V} {us : List Value}, Vals [x] us → ∃ u, us = [u] ∧ RelV x u
  | _, _, .cons r .nil => ⟨_, rfl, r⟩
theorem Vals.two : ∀ {x y : V} {us : List Value}, Vals [x, y] us → ∃ u v, us = [u, v] ∧ RelV x u ∧ RelV y v
  | _, _, _, .cons r (.cons q .nil) => ⟨_, _, rfl, r, q⟩
theorem Vals.zero : ∀ {us : List Value}, Vals [] us → us = []
  | _, .nil => rfl
theorem Vals.dropLast {xs : List V} {us : List Value} (h : Vals xs us) : Vals xs.dropLast us.dropLast := by
  induction h with
  | nil => exact .nil
  | cons r t ih =>
    cases t with
    | nil => exact .nil
    | cons q t' => exact .cons r ih
theorem erase_last {α : Type} (l : List α) : l.eraseIdx (l.length - 1) = l.dropLast := by
  induction l with
  | nil => rfl
  | cons a r ih =>
    cases r with
    | nil => rfl
    | cons b r =>
      have e : (a :: b :: r).length - 1 = ((b :: r).length - 1) + 1 := by
        have h1 : (a :: b :: r).length = r.length + 2 := rfl
        have h2 : (b :: r).length = r.length + 1 := rfl
        omega
      rw [e, List.eraseIdx_cons_succ, ih]
      all_goals rfl
section
variable {X : Cx} {pins : List (Addr × Obj)} {σ : St} {H : Hp} {s : Shared} {l b : Addr} {xs ys zs : List V}
theorem Inv.lset {its its' : List Value} {n : Nat} {f : Array Value → Array Value} {t' : Nat} (I : Inv X pins σ H s) (hH : H l = some (.lst xs))
    (e : s.heap.get? l = some { cls := .type "list", data := .seq its.toArray n }) (hf : f its.toArray = its'.toArray) (hv : Vals ys its') (hz : ys.length ≤ sizeLine) :
    Inv X pins σ (upd H l (.lst ys)) { s with heap := s.heap.update l (Obj.mapSeq f), toks := t' } := by
  have q := PySem.IsL.update e f
  rw [hf] at q
  refine I.write (x := l) (e := l) (by rw [hH]; exact trivial) (.inl rfl) (fun b' u hb hu => (Heap.get?_update_other s.heap (Obj.mapSeq f) (Ne.symm hb)).trans hu) ⟨_, q⟩ ?_
  exact ⟨hz, its', _, hv, q⟩
theorem Inv.lnew {its : List Value} {t' : Nat} (I : Inv X pins σ H s) (hv : Vals ys its) (hz : ys.length ≤ sizeLine) :
    Inv X pins σ (upd H s.heap.objs.size (.lst ys)) { s with heap := s.heap.push { cls := .type "list", data := .seq its.toArray }, toks := t' } :=
  I.laid (fun _ _ q => Heap.get?_push_of_some _ q) (Nat.le_refl _) ⟨hz, its, 0, hv, Heap.get?_push_size _ rfl⟩
theorem Inv.fresh (I : Inv X pins σ H s) : H s.heap.objs.size = none := I.hok.fresh (Nat.le_refl _)
theorem Inv.lstM (I : Inv X pins σ H s) (hH : H l = some (.lst xs)) : xs.length ≤ sizeLine ∧ ∃ (its : List Value) (n : Nat), Vals xs its ∧ xs.length = its.length ∧ s.heap.get? l = some { cls := .type "list", data := .seq its.toArray n } := by
  obtain ⟨z, its, n, r, e⟩ := I.hok l _ hH
  exact ⟨z, its, n, r, r.length, e⟩
theorem notLongL {n : Nat} (h : n ≤ sizeLine) : Builtin.List.listTooLong n = false := by
  unfold Builtin.List.listTooLong
  exact decide_eq_false (by omega)
end
section
variable {X : Cx}
def rAppend : V → List V → Hp → VK → Prop := fun x vs H Q => ∃ l xs y, x = .ref l ∧ vs = [y] ∧ H l = some (.lst xs) ∧ xs.length < sizeLine ∧ Q .non (upd H l (.lst (xs ++ [y])))
theorem mt_append : MtM X "list.append" rAppend := by
  intro pins s σ H x vs v us Q I rx rv h
  obtain ⟨l, xs, y, rfl, rfl, hH, hz, q⟩ := h
  cases rx
  obtain ⟨u, rfl, ru⟩ := rv.one
  obtain ⟨z, its, n, r, hl, e⟩ := I.lstM hH
  refine call_meets F.slot_list_append ⟨_, e, rfl⟩ F.entry_list_append (F.args_list_append_2 _ _) (PySem.list_append l its.toArray n u (by rw [List.size_toArray]; omega)) ⟨e, ?_⟩
  refine ⟨.non, _, I.lset (its' := its ++ [u]) hH e (by simp) (r.append (.cons ru .nil)) ?_, rfl, q⟩
  rw [List.length_append, List.length_singleton]
  omega
def rExtend : V → List V → Hp → VK → Prop := fun x vs H Q => ∃ l b xs zs, x = .ref l ∧ vs = [.ref b] ∧ H l = some (.lst xs) ∧ H b = some (.lst zs) ∧ xs.length + zs.length ≤ sizeLine ∧ Q .non (upd H l (.lst (xs ++ zs)))
theorem mt_extend : MtM X "list.extend" rExtend := by
  intro pins s σ H x vs v us Q I rx rv h
  obtain ⟨l, b, xs, zs, rfl, rfl, hH, hB, hz, q⟩ := h
  cases rx
  obtain ⟨u, rfl, ru⟩ := rv.one
  cases ru
  obtain ⟨z, its, n, r, hl, e⟩ := I.lstM hH
  obtain ⟨z2, its2, n2, r2, hl2, e2⟩ := I.lstM hB
  have hsz : its.toArray.size + its2.toArray.size ≤ sizeLine := by rw [List.size_toArray, List.size_toArray]; omega
  have hlong : ¬ (!its.toArray.isEmpty && Builtin.List.listTooLong (its.toArray.size + its2.toArray.size)) = true := by
    rw [notLongL hsz, Bool.and_false]
    exact Bool.false_ne_true
  refine call_meets F.slot_list_extend ⟨_, e, rfl⟩ F.entry_list_extend (F.args_list_extend_2 _ _)
    (AutoSeq1.list_extend_list_list_0 l its.toArray n b its2.toArray n2 hlong (by rw [List.size_toArray]; omega) (by omega)) ⟨e, e2, ?_⟩
  refine ⟨.non, _, I.lset (its' := its ++ its2) hH e (by simp) (r.append r2) ?_, rfl, q⟩
  rw [List.length_append]
  omega
def rPop : V → List V → Hp → VK → Prop := fun x vs H Q => ∃ l xs y, x = .ref l ∧ vs = [] ∧ H l = some (.lst xs) ∧ xs[xs.length - 1]? = some y ∧ Q y (upd H l (.lst xs.dropLast))
theorem mt_pop : MtM X "list.pop" rPop := by
  intro pins s σ H x vs v us Q I rx rv h
  obtain ⟨l, xs, y, rfl, rfl, hH, hy, q⟩ := h
  cases rx
  have hus := rv.zero
  subst hus
  obtain ⟨z, its, n, r, hl, e⟩ := I.lstM hH
  obtain ⟨u, hu, ru⟩ := r.get hy
  have hy' : its.toArray[its.toArray.size - 1]? = some u := by
    show its.toArray[its.length - 1]? = some u
    rw [← Array.getElem?_toList, ← hl]
    exact hu
  refine call_meets F.slot_list_pop ⟨_, e, rfl⟩ F.entry_list_pop (F.args_list_pop_1 _) (MeetsSeq.list_pop_last l its.toArray n u hy' (by rw [List.size_toArray]; omega)) ⟨e, ?_⟩
  refine ⟨y, _, I.lset (its' := its.dropLast) hH e ?_ r.dropLast ?_, ru, q⟩
  · show its.toArray.eraseIdxIfInBounds (its.toArray.size - 1) = its.dropLast.toArray
    rw [List.size_toArray, List.eraseIdxIfInBounds_toArray, erase_last]
  · rw [List.length_dropLast]
    omega
def rCat : R2 := fun x y H Q => ∃ l b xs zs, x = .ref l ∧ y = .ref b ∧ H l = some (.lst xs) ∧ H b = some (.lst zs) ∧ xs.length + zs.length ≤ sizeLine ∧ ∀ p, H p = none → Q (.ref p) (upd H p (.lst (xs ++ zs)))
theorem op_cat : OpR X (binaryOp .Add) rCat := by
  intro pins s σ H x y v u Q I rx ry h
  obtain ⟨l, b, xs, zs, rfl, rfl, hH, hB, hz, q⟩ := h
  cases rx
  cases ry
  obtain ⟨z, its, n, r, hl, e⟩ := I.lstM hH
  obtain ⟨z2, its2, n2, r2, hl2, e2⟩ := I.lstM hB
  refine PySem.P.add_list e e2 ?_ (by rw [List.size_toArray, List.size_toArray]; omega)
  have ea : its.toArray ++ its2.toArray = (its ++ its2).toArray := by simp
  rw [ea]
  exact ⟨.ref _, _, I.lnew (t' := s.toks) (r.append r2) (by rw [List.length_append]; omega), rfl, q _ I.fresh⟩
end
section
variable {prog : Program} {w : World} {A : Around} {E : Value → Shared → Prop} {s : Shared}
end
section
variable {X : Cx}
end
end L2
namespace Att
open PySem PySem.W PySem.Calls PyProof.Rows
theorem ints_of_wellAll {P : Params} {h : Heap} : ∀ (ns : List Int) (vs : List Value), WellAll P h vs (ns.map WData.int) → IntsAre vs ns := by
  intro ns
  induction ns with
  | nil =>
    intro vs w
    rw [List.map_nil] at w
    cases w
    exact .nil
  | cons n ns ih =>
    intro vs w
    rw [List.map_cons] at w
    cases w with
    | cons a b =>
      cases a
      exact .cons _ _ (ih _ b)
theorem script_of {l : OpenLaw} {n : Nat} (hn : l.most = some n) {P : Params} {h : Heap} {args : List WData} {vals : List Value}
    (hpre : l.row.toRowW.claim.pre args = true) (hwl : WellAll P h vals args) :
    ∃ a vs ns, vals = [Value.ref a] ∧ args = [WData.list (ns.map WData.int)] ∧ h.get? a = some { cls := .type "list", data := .seq vs.toArray } ∧ IntsAre vs ns ∧ ns.length ≤ n := by
  have hsh : WShape.hasAll [] args [.list .int] = true := (pre_splitW hpre).1
  have hc : l.pre.holds [] { args := args } = true := (pre_splitW hpre).2
  obtain ⟨d, r, rfl, h1, h2⟩ := hasAllW_cons hsh
  obtain rfl := hasAllW_nil h2
  obtain ⟨xs, rfl, h3⟩ := hasW_list h1
  obtain ⟨ns, rfl⟩ := items_int h3
  have hlen : ns.length ≤ n := by
    unfold OpenLaw.pre at hc
    have h4 : (WTm.not (.lt (.lit (.int (n : Int))) (.len (.arg 0)))).holds [] { args := [.list (ns.map .int)] } = true := by
      have h4 := (holds_andW hc).1
      rw [hn] at h4
      exact h4
    have h5 := condW_of h4 (w_not (w_lt w_lit (w_len_list (w_arg rfl))))
    rw [List.length_map] at h5
    refine Nat.le_of_not_lt fun q => ?_
    have q' : (n : Int) < ((ns.length : Nat) : Int) := by omega
    first
      | (rw [decide_eq_true q'] at h5; exact absurd h5 (by decide))
      | (simp at h5; omega)
  cases hwl with
  | cons w1 w2 =>
    cases w2
    cases w1 with
    | list ho hall => exact ⟨_, _, ns, rfl, rfl, ho, ints_of_wellAll ns _ hall, hlen⟩
theorem post_true (l : OpenLaw) (args : List WData) : l.row.toRowW.claim.post args (.bool true) args = true :=
  postW_of (r := l.row.toRowW) (X := (true == true))
    (show WShape.has [] (.bool true) .bool = true by first | rfl | decide | simp [WShape.has, WShape.arms, WShape.armsAll])
    (show (WTm.eq .res (.lit (.bool true))).value [] { args := args, res := some (.bool true), after := args } = some (.bool (true == true)) from w_eq_bool (w_res rfl) w_lit) rfl
theorem attach_call {l : OpenLaw} {n : Nat} {q : Program} {loose : List Str} {XP : (Str → Option Value) → Heap → Prop} {YP : World → Heap → Prop} {d : DefRec}
    (hn : l.most = some n) (hdf : d.params.defaults = [])
    (call : ∀ (w : World) (s₀ s₁ : Shared) (mg mb : Str → Option Value) (fa : Addr) (o : Obj) (pm cd doc : Value) (a : Addr) (vs : List Value) (ns : List Int),
      Ground q loose [] XP w s₀ mg mb s₁.heap → YP w s₁.heap →
      s₁.heap.get? fa = some o → o.data = .func (docDef d.name d.params d.body d.scope pm cd doc) → s₁.heap.CodeRec cd d.name → mg d.name = some (.ref fa) →
      s₁.heap.get? a = some { cls := .type "list", data := .seq vs.toArray } → IntsAre vs ns → ns.length ≤ n → s₁.gens = #[] →
      codeAny (model l.prog w) callerA (.call (.ref fa) ⟨[.ref a], []⟩) (fun r s' => r = .ok (.ret (.bool true)) ∧ OldK s₁.heap s'.heap ∧ s'.os = s₁.os ∧ AllBare s'.gens) s₁) :
    WalkO q loose XP YP l.row.toRowW d [] (fun f vs => PySem.call f vs) := by
  intro w s₀ s₁ mg mb G Y fa o pm cd doc dV kV ho hd hcd hD hmg hg args vals as hpre hlay hrd hwl hlo
  obtain rfl : dV = .none := Dflts.none hD hdf
  obtain rfl : kV = .none := Dflts.noKw hD
  obtain ⟨a, vs, ns, rfl, rfl, hobj, hints, hlen⟩ := script_of hn hpre hwl
  refine enter_call (codeAny_mono (call w s₀ s₁ mg mb fa o pm cd doc a vs ns G Y ho (fd_plain hd) hcd hmg hobj hints hlen hg) fun r s' hq => ?_)
  obtain ⟨rfl, h2, h3, h4⟩ := hq
  exact ⟨.inl ⟨.bool true, .bool true, [], rfl, fun _ => rfl, .bool true, post_true l _, fun _ => ⟨List.Pairwise.nil, fun _ hm => (nomatch hm)⟩⟩, h2, h3, h4⟩
section
variable {prog : Program} {w : World} {A : Around} {E : Value → Shared → Prop} {s : Shared} {K : Frag}
def noObjs (h : Heap) : Heap := { h with objs := #[] }
theorem noObjs_get (h : Heap) (b : Addr) : (noObjs h).get? b = none := by
  cases e : (noObjs h).get? b with
  | none => rfl
  | some o => exact absurd (Heap.lt_size e) (Nat.not_lt_zero _)
def ledger (h : Heap) (L d : Addr) : List (Addr × Obj) := (List.range h.objs.size).filterMap fun a => if a = L ∨ a = d then none else (h.get? a).map fun o => (a, o)
theorem mem_ledger {h : Heap} {L d a : Addr} {o : Obj} : (a, o) ∈ ledger h L d ↔ a ≠ L ∧ a ≠ d ∧ h.get? a = some o := by
  unfold ledger
  rw [List.mem_filterMap]
  constructor
  · rintro ⟨b, _, e⟩
    split at e
    · cases e
    · rename_i hb
      obtain ⟨o', ho, e'⟩ := Option.map_eq_some_iff.mp e
      cases e'
      exact ⟨fun q => hb (.inl q), fun q => hb (.inr q), ho⟩
  · rintro ⟨n1, n2, ho⟩
    refine ⟨a, List.mem_range.mpr (Heap.lt_size ho), ?_⟩
    rw [if_neg (show ¬ (a = L ∨ a = d) from fun q => q.elim n1 n2), ho] <;> rfl
theorem fr_all {h : Heap} {L : Addr} {m : Str → Option Value} (n : h.Ns L m) : Fr (noObjs h) L h m :=
  ⟨n, fun b o e => (by rw [noObjs_get] at e; cases e), Nat.zero_le _⟩
end
end Att
namespace L2
open PySem PySem.Spec PyProof.Rows
theorem vals_ints : ∀ {vs : List Value} {ns : List Int}, IntsAre vs ns → Vals (ns.map V.int) vs
  | _, _, .nil => .nil
  | _, _, .cons n t h => .cons ⟨t, rfl⟩ (vals_ints h)
end L2
namespace L2
open PySem PySem.Spec PyProof.Rows
end L2
namespace L2
open PySem PySem.Spec PyProof.Rows
def inClass (s : Stmt) (j : Nat) : Stmt := match s with
  | .ClassDef _ _ _ body _ _ _ _ _ _ _ => body.getD j (.Pass ⟨0, 0, 0, 0⟩)
  | _ => .Pass ⟨0, 0, 0, 0⟩
def defArgs (s : Stmt) : Arguments := match s with
  | .FunctionDef _ a _ _ _ _ _ _ _ _ => a
  | _ => { posonlyargs := [], args := [], vararg := none, kwonlyargs := [], kw_defaults := [], kwarg := none, defaults := [] }
def defBody (s : Stmt) : List Stmt := match s with
  | .FunctionDef _ _ b _ _ _ _ _ _ _ => b
  | _ => []
def defScope (s : Stmt) : Scope := match s with
  | .FunctionDef _ _ _ _ _ _ sc _ _ _ => sc
  | _ => { kind := .function, names := [], isGenerator := false, isCoroutine := false }
abbrev CX0 : CXT := fun _ _ _ _ _ _ => False
abbrev E0 : XK := fun _ _ _ => False
theorem pass0 {X : Cx} : Passes CX0 X E0 := fun _ _ _ _ _ _ _ h => h.elim
structure Fun (K : PySem.W.Frag) (x qual : Str) (st : Stmt) (f : Addr) (fd : FuncData) : Prop where
  ex : ∃ (oc : Value) (od : Option Addr) (kV doc pm : Value) (an : Option Addr) (cdv ct : Value) (osl : Array (Option Value)),
    fd = PySem.W.fnOf x qual (defArgs st) (defBody st) (defScope st) .none kV doc pm an cdv ct ∧ K.lookup f = some ⟨oc, od, .func fd, osl⟩ ∧ PySem.W.codeIn K cdv qual = true
  kp : PySem.W.keepIn K (.ref f) = true
section
variable {P : Program} {w : World} {K : PySem.W.Frag} {mg : Str → Option Value} {base : Heap}
theorem Fun.ok {x qual : Str} {st : Stmt} {f : Addr} {fd : FuncData} {N ps : List Str} {k : Nat} {sp : Sp} (F : Fun K x qual st f fd) (S : FnScope N ps (defScope st)) (len : ∀ vs H Q E, sp vs H Q E → vs.length = ps.length)
    (hbody : ∀ (cdv : Value) (A : Around) (outer : List Env) (s : Shared) (H : Hp) (vs : List V) (Q : VK) (E : XK), Room k (A.deeper (envOfC qual (defScope st) s.heap.objs.size f cdv)) → sp vs H Q E →
      ∃ t, PSs (cxOf CX0 P w K mg base N qual (defScope st) f cdv A outer s H E).nox (defBody st) t ∧ t { nx := fun _ H' => Q .non H', rt := Q } (start N vs) H) : FnOk P w K mg base CX0 (k + 1) f fd ps sp := by
  obtain ⟨oc, od, kV, doc, pm, an, cdv, ct, osl, rfl, lk, hcd⟩ := F.ex
  refine fn_of lk hcd S len fun A outer s H vs Q E hr hsp => ?_
  obtain ⟨t, h, q⟩ := hbody cdv A outer s H vs Q E hr hsp
  exact ⟨t, h.nox, q⟩
theorem Fun.binds {x qual : Str} {st : Stmt} {f : Addr} {fd : FuncData} {ps : List Str} (F : Fun K x qual st f fd)
    (h : ∀ (kV doc pm : Value) (an : Option Addr) (cdv ct : Value) (us : List Value), us.length = ps.length → bindArgs (PySem.W.fnOf x qual (defArgs st) (defBody st) (defScope st) .none kV doc pm an cdv ct) ⟨us, []⟩ = pure (ps.zip us)) : Binds K fd ps [] := by
  obtain ⟨oc, od, kV, doc, pm, an, cdv, ct, osl, rfl, lk, hcd⟩ := F.ex
  exact .all (h kV doc pm an cdv ct)
theorem fun_mk {x qual : Str} {st : Stmt} {f : Addr} {oc : Value} {od an : Option Addr} {osl : Array (Option Value)} {kV doc pm cdv ct : Value} (l : K.lookup f = some ⟨oc, od, .func (PySem.W.fnOf x qual (defArgs st) (defBody st) (defScope st) .none kV doc pm an cdv ct), osl⟩)
    (c : PySem.W.codeIn K cdv qual = true) (k : PySem.W.keepIn K (.ref f) = true) : Fun K x qual st f (PySem.W.fnOf x qual (defArgs st) (defBody st) (defScope st) .none kV doc pm an cdv ct) := ⟨⟨oc, od, kV, doc, pm, an, cdv, ct, osl, rfl, l, c⟩, k⟩
end
section
variable {X : Cx}
theorem pv (i : Nat) {x : Str} {pos : Pos} (hN : X.N[i]? = some x := by rfl) (hv : Vis X.env.scope x := by first | exact Or.inl rfl | exact Or.inr (Or.inl rfl) | exact Or.inr (Or.inr rfl)) (hd : (x == ("__debug__" : Str)) = false := by decide)
    (hcd : (x == ("__classdict__" : Str)) = false := by decide) : PE X (.Name x pos) (tVar i) := pe_var hN hv hd hcd
end
theorem iteF {A B : Prop} (h : B) : if false = true then A else B := by
  rw [if_neg Bool.false_ne_true]
  exact h
theorem iteT {A B : Prop} (h : A) : if true = true then A else B := by
  rw [if_pos rfl]
  exact h
theorem ite2 {c A B : Prop} [Decidable c] (h1 : c → A) (h2 : ¬ c → B) : if c then A else B := by
  by_cases h : c
  · rw [if_pos h]
    exact h1 h
  · rw [if_neg h]
    exact h2 h
def Same (H H' : Hp) : Prop := ∀ b o, H b = some o → H' b = some o
theorem Same.refl (H : Hp) : Same H H := fun _ _ h => h
theorem Same.trans {H H1 H2 : Hp} (a : Same H H1) (b : Same H1 H2) : Same H H2 := fun c o h => b c o (a c o h)
theorem Same.free {H H' : Hp} (e : Same H H') {l : Addr} (h : H' l = Option.none) : H l = Option.none := by
  cases q : H l with
  | none => rfl
  | some o =>
    rw [e l o q] at h
    cases h
end L2
namespace L2
open PySem PySem.Spec PyProof.Rows
theorem closure_go (env : Env) : ∀ (names : List (Str × NameKind)) (acc : List (Str × Addr)), (∀ x ∈ names, x.2 = .free → ∃ c, env.cells.lookup x.1 = some c) →
    (∀ x c, acc.lookup x = some c → env.cells.lookup x = some c) →
    ∃ cl : List (Str × Addr), (forIn names acc (fun (x : Str × NameKind) r => (if (x.2 == .free) = true then cellOf env x.1 >>= fun a => pure (ForInStep.yield ((x.1, a) :: r)) else pure (ForInStep.yield r) : Sem (ForInStep (List (Str × Addr)))))) = pure cl ∧
      (∀ x c, cl.lookup x = some c → env.cells.lookup x = some c) ∧ (∀ x c, acc.lookup x = some c → ∃ d, cl.lookup x = some d) ∧ (∀ x ∈ names, x.2 = .free → ∃ c, cl.lookup x.1 = some c)
  | [], acc, _, h2 => ⟨acc, rfl, h2, fun x c e => ⟨c, e⟩, fun x hx => by simp at hx⟩
  | (n, k) :: r, acc, h1, h2 => by
    rw [List.forIn_cons]
    by_cases hk : k = .free
    · subst hk
      obtain ⟨c, hc⟩ := h1 (n, .free) List.mem_cons_self rfl
      obtain ⟨cl, e, a1, a2, a3⟩ := closure_go env r ((n, c) :: acc) (fun x hx => h1 x (List.mem_cons_of_mem _ hx)) (fun x d e => by
        rw [List.lookup_cons] at e
        cases hb : x == n with
        | true =>
          rw [hb] at e
          have hxn : x = n := by simpa using hb
          cases e
          rw [hxn]; exact hc
        | false => rw [hb] at e; exact h2 x d e)
      have hco : cellOf env n = pure c := by unfold cellOf; simp only at hc; rw [hc]
      refine ⟨cl, ?_, a1, fun x d e => ?_, fun x hx hf => ?_⟩
      · simp only [beq_self_eq_true, if_true, hco, pure_bind]
        exact e
      · by_cases hx : x = n
        · subst hx; exact a2 x c (by simp [List.lookup_cons])
        · exact a2 x d (by rw [List.lookup_cons]; have : (x == n) = false := by simpa using hx
                           rw [this]; exact e)
      · rcases List.mem_cons.mp hx with rfl | hx
        · exact a2 n c (by simp [List.lookup_cons])
        · exact a3 x hx hf
    · obtain ⟨cl, e, a1, a2, a3⟩ := closure_go env r acc (fun x hx => h1 x (List.mem_cons_of_mem _ hx)) h2
      have hb : (k == NameKind.free) = false := by simpa using hk
      refine ⟨cl, ?_, a1, a2, fun x hx hf => ?_⟩
      · simp only [hb, Bool.false_eq_true, if_false, pure_bind]
        exact e
      · rcases List.mem_cons.mp hx with rfl | hx
        · exact absurd hf hk
        · exact a3 x hx hf
theorem closure_ok (env : Env) (sc : Scope) (h1 : ∀ x ∈ sc.names, x.2 = .free → ∃ c, env.cells.lookup x.1 = some c) :
    ∃ cl : List (Str × Addr), closureFor sc env = pure cl ∧ (∀ x c, cl.lookup x = some c → env.cells.lookup x = some c) ∧ (∀ x ∈ sc.names, x.2 = .free → ∃ c, cl.lookup x.1 = some c) := by
  obtain ⟨cl, e, a1, _, a3⟩ := closure_go env sc.names [] h1 (fun x c e => by simp at e)
  refine ⟨cl, ?_, a1, a3⟩
  unfold closureFor
  simp only [bind_pure]
  exact e
end L2
namespace L2
open PySem PySem.Spec PyProof.Rows
def Cx.blk (X : Cx) (sc : Scope) (cl : List (Str × Addr)) (N' : List Str) (s3 : Shared) (H3 : Hp) (ex : List Addr) : Cx :=
  { X with N := N', s₀ := s3, H₀ := H3, env := compEnvC sc cl s3.heap.objs.size X.env, outer := X.stack, stack := X.stack, ex := ex, fn := fun _ => false, pn := [], xe := fun _ _ => False }
structure BlkOk (X : Cx) (sc : Scope) : Prop where
  kind : sc.kind = .function
  names : ∀ x ∈ sc.names, x.2 = .local → sc.names.lookup x.1 = some .local
  nocell : ∀ x ∈ sc.names, x.2 ≠ .cell
  free : ∀ x ∈ sc.names, x.2 = .free → X.env.kindOf x.1 = some .cell
theorem lookup_mem_kind {names : List (Str × NameKind)} {x : Str} {k : NameKind} (h : names.lookup x = some k) : (x, k) ∈ names := PySem.mem_of_lookup h
theorem lookup_relabel_back {env : Env} : ∀ {names : List (Str × NameKind)} {x : Str} {k : NameKind},
    (names.map fun (n, k) => if (k == NameKind.free && env.scope.kind == .function && env.kindOf n == some .cell) then (n, NameKind.cell) else (n, k)).lookup x = some k →
    names.lookup x = some k ∨ (k = .cell ∧ names.lookup x = some .free)
  | [], _, _, h => by simp at h
  | (n, k0) :: r, x, k, h => by
    have ih := @lookup_relabel_back env r x k
    change List.lookup x ((if (k0 == NameKind.free && env.scope.kind == .function && env.kindOf n == some .cell) = true then (n, NameKind.cell) else (n, k0)) :: _) = _ at h
    cases hx : x == n with
    | true =>
      by_cases hc : (k0 == NameKind.free && env.scope.kind == .function && env.kindOf n == some .cell) = true
      · rw [if_pos hc] at h
        simp only [List.lookup_cons, hx] at h
        have hk : k0 = .free := by simp only [Bool.and_eq_true, beq_iff_eq] at hc; exact hc.1.1
        cases h
        exact .inr ⟨rfl, by simp only [List.lookup_cons, hx, hk]⟩
      · rw [if_neg hc] at h
        simp only [List.lookup_cons, hx] at h
        cases h
        exact .inl (by simp only [List.lookup_cons, hx])
    | false =>
      have h' : List.lookup x (r.map fun (n, k) => if (k == NameKind.free && env.scope.kind == .function && env.kindOf n == some .cell) then (n, NameKind.cell) else (n, k)) = some k := by
        by_cases hc : (k0 == NameKind.free && env.scope.kind == .function && env.kindOf n == some .cell) = true
        · rw [if_pos hc] at h; simp only [List.lookup_cons, hx] at h; exact h
        · rw [if_neg hc] at h; simp only [List.lookup_cons, hx] at h; exact h
      simp only [List.lookup_cons, hx]
      exact ih h'
section
variable {X : Cx} {pins : List (Addr × Obj)} {σ σ' : St} {H : Hp} {s : Shared} {sc : Scope} {cl : List (Str × Addr)} {N' : List Str} {fp : List Addr}
theorem blk_start (I : Inv X pins σ H s) (B : BlkOk X sc) (c1 : ∀ x c, cl.lookup x = some c → X.env.cells.lookup x = some c) (c2 : ∀ x ∈ sc.names, x.2 = .free → ∃ c, cl.lookup x.1 = some c)
    (hf : ∀ b ∈ fp, FpOk X pins H b ∧ b < s.heap.objs.size) (hlen : σ'.length = N'.length)
    (hcap : ∀ (i : Nat) (x : Str) (v : V), N'[i]? = some x → σ'[i]? = some (some v) → Vis (relabel sc X.env) x → ∃ j : Nat, X.N[j]? = some x ∧ σ[j]? = some (some v) ∧ Vis X.env.scope x ∧ sc.names.lookup x = some .free)
    {h' : Heap} {tk : Nat} (hns : h'.Ns s.heap.objs.size (fun _ => none)) (hsb : Heap.SameBut s.heap.objs.size (s.heap.push { cls := .type "dict", data := .dict #[] }) h') :
    Inv (X.blk sc cl N' s H fp) [] σ' H { s with heap := h', toks := tk } := by
  have hk : ∀ b u, s.heap.get? b = some u → h'.get? b = some u := fun b u e => (hsb.2 b (Nat.ne_of_lt (Heap.lt_size e))).trans (Heap.get?_push_of_some _ e)
  have hcell : ∀ x c, cl.lookup x = some c → c < s.heap.objs.size := fun x c e => by
    obtain ⟨v, q⟩ := I.cell x c (c1 x c e)
    exact q.lt
  have cll : ∀ x c, cl.lookup x = some c → ∃ v, h'.IsCell c v := fun x c e => by
    obtain ⟨v, o, e1, e2⟩ := I.cell x c (c1 x c e)
    exact ⟨v, o, hk _ _ e1, e2⟩
  refine ⟨⟨I.ok.mod, B.kind, I.ok.glob, I.ok.blt, Nat.le_refl _, fun x y c e1 e2 => I.ok.inj x y c (c1 x c e1) (c1 y c e2), fun x hx => ?_, fun x c z => (by cases z), I.ok.hd, I.ok.frames, .inl rfl, fun b hb => ⟨Nat.ne_of_lt (hf b hb).2, fun x c e => (hf b hb).1.2.2.2.2.1 x c (c1 x c e)⟩,
    I.bs, ?_, fun b o e hb => ?_, fun b hb hb' => ?_, I.stack, I.stkFree⟩, rfl, I.bare, Un.kept hk, ⟨_, hns, fun i x v e1 e2 e3 => ?_⟩, cll, I.hok.fresh (Nat.le_refl _), fun x c e => I.freeC x c (c1 x c e), fun p hp => absurd (show p ∈ ([] : List (Addr × Obj)) from hp) (by simp), I.hok.kept hk, hlen⟩
  · have hx' : (relabel sc X.env).names.lookup x = some .cell ∨ (relabel sc X.env).names.lookup x = some .free := hx
    have : sc.names.lookup x = some .free := by
      rcases hx' with h | h
      · rcases lookup_relabel_back h with h | ⟨_, h⟩
        · exact absurd rfl (B.nocell _ (lookup_mem_kind h))
        · exact h
      · rcases lookup_relabel_back h with h | ⟨h0, h⟩
        · exact h
        · cases h0
    exact c2 (x, .free) (lookup_mem_kind this) rfl
  · exact Nat.le_trans I.ok.bsz I.sz
  · have := (hf b hb).1.2.2.2.1
    rcases this with z | z
    · exact I.ok.noex b o e z
    · exact absurd (Nat.lt_of_lt_of_le (Heap.lt_size e) (Nat.le_trans I.ok.bsz z)) (Nat.lt_irrefl _)
  · have := I.stkSub b hb'
    rcases List.mem_cons.mp this with z | z
    · exact (hf b hb).1.2.1 z
    · exact (hf b hb).1.2.2.1 z
  · obtain ⟨j, e4, e5, e6, e7⟩ := hcap i x v e1 e2 e3
    obtain ⟨m, hn, hl⟩ := I.loc
    obtain ⟨u, r, l⟩ := hl j x v e4 e5 e6
    refine ⟨u, r, ?_⟩
    have kf := B.free (x, .free) (lookup_mem_kind e7) rfl
    have kf' : X.env.kindOf x = some .cell := kf
    rcases l with ⟨k1, _⟩ | ⟨_, c, e8, e9⟩
    · rw [kf'] at k1; cases k1
    · obtain ⟨d, hd⟩ := c2 (x, .free) (lookup_mem_kind e7) rfl
      have hd' : cl.lookup x = some d := hd
      have := c1 x d hd'
      rw [e8] at this
      cases this
      refine .inr ⟨?_, c, hd', ?_⟩
      · rcases e3 with z | z | z
        · rcases lookup_relabel_back z with h | ⟨h0, h⟩
          · rw [e7] at h; cases h
          · cases h0
        · exact .inl z
        · exact .inr z
      · obtain ⟨o, q1, q2⟩ := e9
        exact ⟨o, hk _ _ q1, q2⟩
theorem blk_end {H' : Hp} {σ'' : St} {pins' : List (Addr × Obj)} {s' : Shared} {h'' : Heap} (I : Inv X pins σ H s) (hf : ∀ b ∈ fp, FpOk X pins H b ∧ b < s.heap.objs.size) (J : Inv (X.blk sc cl N' s H fp) pins' σ'' H' s')
    (hsb : Heap.SameBut s.heap.objs.size s'.heap h'') : Inv X pins σ H' { s' with heap := h'' } := by
  have ne : ∀ b o, s.heap.get? b = some o → b ≠ s.heap.objs.size := fun b o e => Nat.ne_of_lt (Heap.lt_size e)
  have hfree : H' s.heap.objs.size = none := J.free
  have B : Un (frs X.stack) fp H H' s.heap s'.heap := J.base
  refine I.call' (ch := fp) (s' := { s' with heap := h'' }) J.os ⟨fun b o e n hb hx => ?_, fun b o e n hb hx => ?_, B.free, fun b o e hx => ?_, B.tups, B.frzs, B.tbls⟩ (fun b o e => ?_) J.bare fun b hb => ?_
  · exact (hsb.2 b (ne b o e)).trans (B.keep b o e n hb hx)
  · obtain ⟨sl, q⟩ := B.slot b o e n hb hx
    exact ⟨sl, (hsb.2 b (ne b o e)).trans q⟩
  · obtain ⟨o', q⟩ := B.there b o e hx
    exact ⟨o', (hsb.2 b (ne b o e)).trans q⟩
  · refine (J.hok b o e).stay (fun c w' hc q => (hsb.2 c ?_).trans q) (fun _ q => q) fun _ _ q => q
    rintro rfl
    rcases hc with rfl | hc
    · rw [hfree] at e; cases e
    · rw [hfree] at hc; cases hc
  · obtain ⟨f0, f1, f2, f3, f4, f5⟩ := (hf b hb).1
    exact ⟨f3, f1, f4, f5⟩
end
abbrev TR := St → Hp → (St → Hp → Prop) → Prop
def PR (X : Cx) (rest : Sem Unit) (t : TR) : Prop :=
  ∀ (pins : List (Addr × Obj)) (s : Shared) (σ : St) (H : Hp) (N : St → Hp → Prop), Inv X pins σ H s → t σ H N → wpAny (model X.prog X.w) X.A rest (fun _ s' => ∃ σ' H', Inv X pins σ' H' s' ∧ N σ' H') X.xe s
def PTs (X : Cx) (ifs : List Expr) (t : TT) : Prop :=
  ∀ (pins : List (Addr × Obj)) (s : Shared) (σ : St) (H : Hp) (Q : Bool → Hp → Prop), Inv X pins σ H s → t σ H Q →
    wpAny (model X.prog X.w) X.A (forIn ifs true fun c r => if r = true then do let ok ← isTrue c X.env (eval c X.env); pure (ForInStep.yield ok) else pure (ForInStep.yield r)) (TP X pins σ Q) X.xe s
def tYes : TT := fun _ H Q => Q true H
theorem pts_nil {X : Cx} : PTs X [] tYes := fun _ _ _ H _ I h => wpAny_tests_nil ⟨H, I, h⟩
theorem pts_one {X : Cx} {c : Expr} {t : TT} (h : PT X c t) : PTs X [c] t := fun pins s σ H Q I q => wpAny_tests_one (h pins s σ H Q I q)
def tLoop (J : It) (g : TG) (tt : TT) (tr : TR) (Qe : St → Hp → Prop) (σ : St) (H : Hp) : Prop := ∃ W : Nat → Nat → St → Hp → Prop, (∃ m, W 0 m σ H) ∧ ∀ i m σ H, W i m σ H →
  (J.stop i H ∧ Qe σ H) ∨ (J.go i H ∧ ∃ N : St → Hp → Prop, (∀ σ' H', N σ' H' → ∃ m', m' < m ∧ W (i + 1) m' σ' H') ∧ ∀ x H', J.yld i H x H' → g x σ H' fun σ2 H2 => tt σ2 H2 fun b H3 => if b = true then tr σ2 H3 N else N σ2 H3)
theorem comp_loop {X : Cx} (hE : X.xe = fun _ _ => False) (hc : X.calm = true) {e : Expr} {d : Nat} {tg iter : Expr} {ifs : List Expr} {acc : Value} {rest : Sem Unit} {g : TG} {tt : TT} {tr : TR} {J : It} {fp : List Addr} {it : Addr} {tn : Nat → Heap → Prop}
    (heq : compTurn e d (.ref it) acc X.env = (do
      standAt iter.pos
      match ← pyNext (.ref it) with
      | none => pure (.done .next)
      | some v =>
        letOwnedTupleGo tg (.ref it) v
        assign tg X.env v
        let mut ok := true
        for c in ifs do
          if ok then ok ← isTrue c X.env (eval c X.env)
        if ok then rest
        again (.compLoop e d (.ref it) acc X.env)))
    (hq : (Code.compLoop e d (.ref it) acc X.env).quiet = true) (hu : X.A.under (.compLoop e d (.ref it) acc X.env) = X.A) (hden : (model X.prog X.w).den (.compLoop e d (.ref it) acc X.env) = (compTurn e d (.ref it) acc X.env).onRaise (fun x => do noteFrame x X.env; theTreesLotGoes x))
    (hg : PG X tg g) (ht : PTs X ifs tt) (hr : PR X rest tr) (T : Turn X.prog X.w X.K tg J fp it tn)
    {pins : List (Addr × Obj)} {σ : St} {H : Hp} {s : Shared} {Qe : St → Hp → Prop} {R : Result → Shared → Prop} (I : Inv X pins σ H s) (st : tn 0 s.heap) (f2 : ∀ b ∈ fp, FpOk X pins H b) (h : tLoop J g tt tr Qe σ H)
    (hR : ∀ s' σ' H', Inv X pins σ' H' s' → Qe σ' H' → R (.ok .next) s') :
    codeAny (model X.prog X.w) X.A (.compLoop e d (.ref it) acc X.env) R s := by
  obtain ⟨W, ⟨m0, w0⟩, turn⟩ := h
  have stat : ∀ {H' : Hp}, (∀ b ∈ fp, H' b = none) → ∀ b ∈ fp, FpOk X pins H' b := fun hn b hb => ⟨hn b hb, (f2 b hb).2⟩
  have no : ∀ {α : Type} {t : Sem α} {Q : α → Shared → Prop} {s : Shared} {E : Value → Shared → Prop}, wpAny (model X.prog X.w) X.A t Q X.xe s → wpAny (model X.prog X.w) X.A t Q E s := fun {α t Q s E} h =>
    wpAny_mono h (fun _ _ x => x) fun _ _ x => by rw [hE] at x; exact x.elim
  refine codeAny_loop hq (fun n s' => ∃ i σ' H', Inv X pins σ' H' s' ∧ tn i s'.heap ∧ (∀ b ∈ fp, H' b = none) ∧ W i n σ' H') (fun n s3 hI => ?_) m0 ⟨0, σ, H, I, st, fun b hb => (f2 b hb).1, w0⟩
  rw [hu, hden]
  refine wpAny_noted ?_
  rw [heq]
  obtain ⟨i, σ3, H3, I3, st3, fr3, w3⟩ := hI
  refine wpAny_bind (wpAny_standAt (wpAny_bind ?_))
  rcases turn i n σ3 H3 w3 with ⟨stop, qn⟩ | ⟨go, N, hN, step⟩
  · refine no (thn (T.done X rfl rfl rfl hc i pins s3 σ3 H3 X.xe I3 (stat fr3) st3 stop) fun r s4 ⟨hr4, I4⟩ => ?_)
    subst hr4
    exact wpAny_pure (hR _ _ _ I4 qn)
  · refine no (thn (T.item X rfl rfl rfl hc i pins s3 σ3 H3 X.xe I3 (stat fr3) st3 go) fun r s4 ⟨u, hr4, h4⟩ => ?_)
    subst hr4
    refine wpAny_bind (no (thn h4 fun _ s5 ⟨x, H5, I5, r5, y5, st5, fr5⟩ => ?_))
    have I5' := I5.pinned (stat fr5) (T.obj _ _ st5)
    refine wpAny_bind (no (thn (hg _ s5 σ3 H5 x u _ I5' r5 (step x H5 y5)) fun _ s6 ⟨σ6, H6, I6, q6⟩ => ?_))
    have again : ∀ {σ7 : St} {H7 : Hp} {s7 : Shared}, Inv X (pins ++ pinsAt fp s5.heap) σ7 H7 s7 → N σ7 H7 → ∃ m, m < n ∧ ∃ i σ' H', Inv X pins σ' H' s7 ∧ tn i s7.heap ∧ (∀ b ∈ fp, H' b = none) ∧ W i m σ' H' := fun {σ7 H7 s7} I7 n7 => by
      obtain ⟨m', hm, w7⟩ := hN σ7 H7 n7
      refine ⟨m', hm, i + 1, σ7, H7, I7.unpinned, T.keep _ _ _ st5 fun b hb o e => (I7.pin (b, o) (List.mem_append_right _ (List.mem_append_right _ (mem_pinsAt hb e)))).1, fun b hb => ?_, w7⟩
      obtain ⟨o, e, dd⟩ := T.obj _ _ st5 b hb
      exact (I7.pin (b, o) (List.mem_append_right _ (List.mem_append_right _ (mem_pinsAt hb e)))).2.1
    refine wpAny_bind (no (thn (ht _ s6 σ6 H6 _ I6 q6) fun ok s7 ⟨H7, I7, q7⟩ => ?_))
    cases ok with
    | false =>
      rw [if_neg (by simp)] at q7
      exact wpAny_pure ⟨rfl, again I7 q7⟩
    | true =>
      rw [if_pos rfl] at q7
      refine wpAny_bind (no (thn (hr _ s7 σ6 H7 _ I7 q7) fun _ s8 ⟨σ8, H8, I8, q8⟩ => ?_))
      exact wpAny_pure ⟨rfl, again I8 q8⟩
end L2
namespace L2
open PySem PySem.Spec PyProof.Rows
def tApp (p : Addr) (te : TE) : TR := fun σ H N => te σ H fun v H5 => ∃ ys, H5 p = some (.lst ys) ∧ ys.length < sizeLine ∧ N σ (upd H5 p (.lst (ys ++ [v])))
theorem pr_app {X : Cx} {elt : Expr} {te : TE} {p : Addr} (he : PE X elt te) : PR X (do let _ ← call (.builtin "list.append") [.ref p, ← eval elt X.env]) (tApp p te) := by
  intro pins s σ H N I h
  refine wpAny_bind (thn (he pins s σ H _ I h) fun u s1 ⟨v, H1, I1, r1, ys, hp, hl, q1⟩ => ?_)
  refine wpAny_bind (thn (mt_append pins s1 σ H1 (.ref p) [v] _ [u] (fun _ H2 => N σ H2) I1 rfl (.cons r1 .nil) ⟨p, ys, v, rfl, rfl, hp, hl, q1⟩) fun _ s2 ⟨_, H2, I2, _, q2⟩ => ?_)
  exact wpAny_pure ⟨σ, H2, I2, q2⟩
def capSt (σ : St) : List (Option Nat) → St
  | [] => []
  | none :: js => none :: capSt σ js
  | some j :: js => (σ[j]?).join :: capSt σ js
def CapsOk (X : Cx) (sc : Scope) : List Str → List (Option Nat) → Prop
  | [], [] => True
  | _ :: xs, none :: js => CapsOk X sc xs js
  | x :: xs, some j :: js => X.N[j]? = some x ∧ Vis X.env.scope x ∧ sc.names.lookup x = some .free ∧ CapsOk X sc xs js
  | _, _ => False
theorem CapsOk.len {X : Cx} {sc : Scope} {σ : St} : ∀ {N' : List Str} {js : List (Option Nat)}, CapsOk X sc N' js → (capSt σ js).length = N'.length
  | [], [], _ => rfl
  | _ :: xs, none :: js, h => by simp only [capSt, List.length_cons]; rw [CapsOk.len (N' := xs) (js := js) h]
  | x :: xs, some j :: js, h => by simp only [capSt, List.length_cons]; rw [CapsOk.len (N' := xs) (js := js) h.2.2.2]
  | [], _ :: _, h => by cases h
  | _ :: _, [], h => by cases h
theorem CapsOk.get {X : Cx} {sc : Scope} {σ : St} : ∀ {N' : List Str} {js : List (Option Nat)} {i : Nat} {x : Str} {v : V}, CapsOk X sc N' js → N'[i]? = some x → (capSt σ js)[i]? = some (some v) →
    ∃ j : Nat, X.N[j]? = some x ∧ σ[j]? = some (some v) ∧ Vis X.env.scope x ∧ sc.names.lookup x = some .free
  | [], [], i, x, v, _, h1, _ => by simp at h1
  | y :: xs, none :: js, 0, x, v, h, h1, h2 => by simp [capSt] at h2
  | y :: xs, none :: js, i + 1, x, v, h, h1, h2 => CapsOk.get (N' := xs) (js := js) (i := i) h (by simpa using h1) (by simpa [capSt] using h2)
  | y :: xs, some j :: js, 0, x, v, h, h1, h2 => by
    have e1 : y = x := by simpa using h1
    subst e1
    refine ⟨j, h.1, ?_, h.2.1, h.2.2.1⟩
    have e2 : (σ[j]?).join = some v := by simpa [capSt] using h2
    cases q : σ[j]? with
    | none => rw [q] at e2; cases e2
    | some o => rw [q] at e2; exact congrArg some e2
  | y :: xs, some j :: js, i + 1, x, v, h, h1, h2 => CapsOk.get (N' := xs) (js := js) (i := i) h.2.2.2 (by simpa using h1) (by simpa [capSt] using h2)
  | [], _ :: _, _, _, _, h, _, _ => by cases h
  | _ :: _, [], _, _, _, h, _, _ => by cases h
def tComp (js : List (Option Nat)) (wi : TI) (g : TG) (tt : TT) (te : TE) : TE := fun σ H Q => wi σ H fun J H1 => ∀ p, H1 p = none → tLoop J g tt (tApp p te) (fun _ H' => Q (.ref p) H') (capSt σ js) (upd H1 p (.lst []))
section
variable {X : Cx} {elt tg iter : Expr} {ifs : List Expr} {sc : Scope} {pos : Pos} {N' : List Str} {js : List (Option Nat)} {wi : TI} {g : TG} {tt : TT} {te : TE}
theorem comp1_block (hc : X.calm = true) (B : BlkOk X sc) (C : CapsOk X sc N' js) {cl : List (Str × Addr)}
    (c1 : ∀ x c, cl.lookup x = some c → X.env.cells.lookup x = some c) (c2 : ∀ x ∈ sc.names, x.2 = .free → ∃ c, cl.lookup x.1 = some c)
    (hg : ∀ cl s H fp, PG (X.blk sc cl N' s H fp) tg g) (ht : ∀ cl s H fp, PTs (X.blk sc cl N' s H fp) ifs tt) (he : ∀ cl s H fp, PE (X.blk sc cl N' s H fp) elt te)
    {pins : List (Addr × Obj)} {σ : St} {H : Hp} {s : Shared} {Qe : Addr → Hp → Prop} {it : Addr} {fp : List Addr} {tn : Nat → Heap → Prop} {J : It} {RR : Value → Addr → Result → Shared → Prop}
    (I : Inv X pins σ H s) (T : Turn X.prog X.w X.K tg J fp it tn) (st : tn 0 s.heap) (hf : ∀ b ∈ fp, FpOk X pins H b)
    (h : ∀ p, H p = none → tLoop J g tt (tApp p te) (fun _ H' => Qe p H') (capSt σ js) (upd H p (.lst [])))
    (hRR : ∀ p C s' H', C ≠ p → (∀ b o, s.heap.get? b = some o → b ≠ C) → H' C = none → (∃ m, s'.heap.Ns C m) → Qe p H' → (∀ h'', Heap.SameBut C s'.heap h'' → Inv X pins σ H' { s' with heap := h'' }) → FpOk X pins H' C → RR (.ref p) C (.ok .next) s') :
    wpAny (model X.prog X.w) X.A (newList []) (fun acc s₃ => wpAny (model X.prog X.w) X.A (newFunctionEnv sc X.env.globals cl [] X.env.qual none .none (some X.env)) (fun cenv s₄ =>
      codeAny (model X.prog X.w) X.A (.compStart (.ListComp elt [⟨tg, iter, ifs, 0⟩] sc pos) 0 (.ref it) acc { cenv with scope := relabel sc X.env }) (RR acc cenv.locals) s₄) X.xe s₃) X.xe s := by
  refine wpAny_newObj_type ?_
  have I3 := I.lnew (ys := []) (its := []) (t' := s.toks) .nil (by simp)
  generalize hs3 : ({ s with heap := s.heap.push { cls := .type "list", data := .seq ([] : List Value).toArray }, toks := s.toks } : Shared) = s3 at I3
  have hp : H s.heap.objs.size = none := I.fresh
  have h3 := h _ hp
  have f3 : ∀ b ∈ fp, FpOk X pins (upd H s.heap.objs.size (.lst [])) b ∧ b < s3.heap.objs.size := fun b hb => by
    obtain ⟨f0, f1⟩ := hf b hb
    obtain ⟨o, e, _⟩ := T.obj _ _ st b hb
    have lt := Heap.lt_size e
    refine ⟨⟨by rw [upd_ne (Nat.ne_of_lt lt)]; exact f0, f1⟩, ?_⟩
    rw [← hs3]
    show b < (s.heap.push _).objs.size
    rw [Heap.size_push]
    exact Nat.lt_succ_of_lt lt
  have hsz : s3.heap.objs.size = s.heap.objs.size + 1 := by rw [← hs3]; exact Heap.size_push ..
  have hst3 : tn 0 s3.heap := by rw [← hs3]; exact T.keep _ _ _ st fun b hb o e => Heap.get?_push_of_some _ e
  refine wpAny_newFunctionEnv B.nocell (by intro y hy; simp at hy) (fun h₁ hns₁ hsb₁ => ?_) B.kind
  have J4 := blk_start (cl := cl) (N' := N') (σ' := capSt σ js) (tk := s3.toks + ([] : List (Str × Value)).length) I3 B c1 c2 f3 C.len (fun i x v e1 e2 _ => C.get e1 e2) (show h₁.Ns s3.heap.objs.size (fun _ => none) from hns₁) (show Heap.SameBut s3.heap.objs.size (s3.heap.push { cls := .type "dict", data := .dict #[] }) h₁ from hsb₁)
  have hst4 : tn 0 h₁ := T.keep _ _ _ hst3 fun b hb o e => (hsb₁.2 b (Nat.ne_of_lt (Heap.lt_size e))).trans (Heap.get?_push_of_some _ e)
  have f4 : ∀ b ∈ fp, FpOk (X.blk sc cl N' s3 (upd H s.heap.objs.size (.lst [])) fp) [] (upd H s.heap.objs.size (.lst [])) b := fun b hb => by
    obtain ⟨⟨g0, g1, g2, g3, g4, g5⟩, lt⟩ := f3 b hb
    refine ⟨g0, Nat.ne_of_lt lt, fun z => ?_, .inl hb, fun x c e => g4 x c (c1 x c e), fun p hp => absurd (show p ∈ ([] : List (Addr × Obj)) from hp) (by simp)⟩
    rcases List.mem_cons.mp (I3.stkSub b z) with z | z
    · exact g1 z
    · exact g2 z
  have loop : codeAny (model X.prog X.w) X.A (.compLoop (.ListComp elt [⟨tg, iter, ifs, 0⟩] sc pos) 0 (.ref it) (.ref s.heap.objs.size) (compEnvC sc cl s3.heap.objs.size X.env)) (RR (.ref s.heap.objs.size) s3.heap.objs.size) { s3 with heap := h₁, toks := s3.toks + ([] : List (Str × Value)).length } := by
    refine comp_loop (X := X.blk sc cl N' s3 (upd H s.heap.objs.size (.lst [])) fp) rfl hc (compTurn_list ..) rfl rfl rfl (hg _ _ _ _) (ht _ _ _ _) (pr_app (he _ _ _ _)) T J4 hst4 f4 h3 fun s' σ' H' J' q => ?_
    have hend : ∀ h'', Heap.SameBut s3.heap.objs.size s'.heap h'' → Inv X pins σ H' { s' with heap := h'' } := fun h'' hs'' => blk_end I3 f3 J' hs''
    obtain ⟨m, hn, _⟩ := J'.loc
    refine hRR _ _ _ H' (by rw [hsz]; exact Nat.succ_ne_self _) (fun b o e => ?_) J'.free ⟨m, hn⟩ q hend (I3.fpOk (Nat.le_refl _) J'.free)
    rw [hsz]
    exact Nat.ne_of_lt (Nat.lt_succ_of_lt (Heap.lt_size e))
  exact codeAny_compStart_list loop (T.self _ 0 _ _ _ hst4 loop)
theorem pe_comp1 (hE : X.xe = fun _ _ => False) (hc : X.calm = true) (B : BlkOk X sc) (C : CapsOk X sc N' js) (hi : PI X tg iter wi) (hg : ∀ cl s H fp, PG (X.blk sc cl N' s H fp) tg g) (ht : ∀ cl s H fp, PTs (X.blk sc cl N' s H fp) ifs tt) (he : ∀ cl s H fp, PE (X.blk sc cl N' s H fp) elt te)
    (hs : ∀ x, foldedSetIterable iter X.env x = pure x := by intro _; rfl) : PE X (.ListComp elt [⟨tg, iter, ifs, 0⟩] sc pos) (tComp js wi g tt te) := by
  intro pins s σ H Q I h
  obtain ⟨cl, hcl, c1, c2⟩ := closure_ok X.env sc fun x hx hfr => I.ok.has x.1 (.inl (B.free x hx hfr))
  rw [eval_ListComp]
  refine wpAny_comprehension_free (use := none) rfl hs hcl B.kind B.names (thn (hi pins s σ H _ I h) fun v s1 h1 => thn h1 fun itv s2 h2 => ?_)
  obtain ⟨it, fp, tn, J, H2, e, I2, T, st2, f2, h2⟩ := h2
  subst e
  refine comp1_block (Qe := fun p H' => Q (.ref p) H') (RR := fun acc C => compPost (model X.prog X.w) X.A X.xe none (EP X pins σ Q) acc C) hc B C c1 c2 hg ht he I2 T st2 f2 h2 ?_
  intro p C s' H' hne hold hfree hns q hend _
  obtain ⟨m, hn⟩ := hns
  exact ⟨m, hn, fun h'' hs'' => ⟨.ref p, H', hend h'' hs'', rfl, q⟩⟩
def tSetComp (i : Nat) (js : List (Option Nat)) (wi : TI) (g : TG) (tt : TT) (te : TE) : TS := fun D σ H => tComp js wi g tt te σ H fun v H' => D.nx (σ.set i (some v)) H'
theorem ps_setcomp1 {i : Nat} {y : Str} {py spos : Pos} (hE : X.xe = fun _ _ => False) (hc : X.calm = true) (hN : X.N.Nodup) (hi' : X.N[i]? = some y) (hx : Loc X.env.scope y) (B : BlkOk X sc) (C : CapsOk X sc N' js) (hi : PI X tg iter wi) (hg : ∀ cl s H fp, PG (X.blk sc cl N' s H fp) tg g) (ht : ∀ cl s H fp, PTs (X.blk sc cl N' s H fp) ifs tt) (he : ∀ cl s H fp, PE (X.blk sc cl N' s H fp) elt te)
    (hsw : swapsWith (.ListComp elt [⟨tg, iter, ifs, 0⟩] sc pos) (some (.Name y py)) spos.line X.env = pure true := by rfl)
    (hs : ∀ x, foldedSetIterable iter X.env x = pure x := by intro _; rfl) (hf : X.fn y = true ∨ X.env.scope.names.lookup y = some .local := by first | exact .inl rfl | exact .inr rfl | assumption) : PS X (.Assign [.Name y py] (.ListComp elt [⟨tg, iter, ifs, 0⟩] sc pos) spos) (tSetComp i js wi g tt te) := by
  intro pins s σ H D I h
  obtain ⟨cl, hcl, c1, c2⟩ := closure_ok X.env sc fun x hx hfr => I.ok.has x.1 (.inl (B.free x hx hfr))
  rw [exec_Assign_Name_used _ _ _ _ hsw]
  refine wpAny_bind (wpAny_standAt (wpAny_bind ?_))
  show wpAny _ X.A (do let _ ← comprehension (.ListComp elt [⟨tg, iter, ifs, 0⟩] sc pos) sc X.env _ (newList []) false (eval iter X.env) (some (assign (.Name y py) X.env))) _ _ s
  refine wpAny_bind (thn (wpAny_comprehension_free (use := some (assign (.Name y py) X.env)) (Q := fun _ s' => SP X pins D .next s') rfl hs hcl B.kind B.names (thn (hi pins s σ H _ I h) fun v s1 h1 => thn h1 fun itv s2 h2 => ?_)) fun _ s' hq => wpAny_pure (wpAny_pure hq))
  obtain ⟨it, fp, tn, J, H2, e, I2, T, st2, f2, h2⟩ := h2
  subst e
  refine comp1_block (Qe := fun p H' => D.nx (σ.set i (some (.ref p))) H') (RR := fun acc C => compPost (model X.prog X.w) X.A X.xe (some (assign (.Name y py) X.env)) (fun _ s' => SP X pins D .next s') acc C) hc B C c1 c2 hg ht he I2 T st2 f2 h2 ?_
  intro p C s' H' hne hold hfree hns q hend fpC
  obtain ⟨m, hn⟩ := hns
  have I4 : Inv X pins σ H' s' := hend s'.heap (.refl ..)
  obtain ⟨f0, f1, f2', f3, f4, f5⟩ := fpC
  show wpAny _ X.A (assign (.Name y py) X.env (.ref p)) _ _ s'
  refine wpAny_assign_Name (store_ok2 (v := .ref p) I4 hN hi' hx rfl (fun s'' I5 ⟨a, hsa, ha⟩ => ?_) hf)
  have hCa : C ≠ a := by
    rcases ha with rfl | ha
    · exact f1
    · exact fun z => f4 y a ha z.symm
  refine ⟨m, hn.sameBut hsa hCa, fun h'' hs'' => ⟨_, H', I5.turned (t' := s''.toks) (it := C) (fun b o hb e => (hs''.2 b hb).trans e) f0 f1 f3 f4 f5, q⟩⟩
end
end L2
namespace L2
open PySem PySem.Spec PyProof.Rows
section
variable {X : Cx} {e : Expr} {tg : Expr} {sc : Scope} {N' : List Str} {js : List (Option Nat)}
end
end L2
namespace L2
open PySem PySem.Spec PyProof.Rows
section
variable {X : Cx}
theorem vals_bl : ∀ {bs : List Bool} {us : List Value}, Vals (bs.map V.bl) us → us = bs.map Value.bool
  | [], _, .nil => rfl
  | b :: bs, _, .cons r t => by
    have e := vals_bl (bs := bs) t
    cases r
    rw [e]
    rfl
theorem truth_bl {prog : Program} {w : World} {A : Around} (bs : List Bool) : TruthOf prog w A (fun i v => (bs.map Value.bool).toArray[i]? = some v) (fun i => bs.getD i false) := by
  intro i v s Q E hP hQ
  have e : (bs.map Value.bool)[i]? = some v := by simpa using hP
  rw [List.getElem?_map] at e
  cases hb : bs[i]? with
  | none => rw [hb] at e; cases e
  | some b =>
    rw [hb] at e
    cases e
    have : bs.getD i false = b := by rw [List.getD_eq_getElem?_getD, hb]; rfl
    have hQ' : Q (bs.getD i false) s := hQ
    rw [this] at hQ'
    exact wpAny_truthy_bool hQ'
theorem range_any (bs : List Bool) : (List.range bs.length).any (fun i => bs.getD i false) = bs.any id := by
  rw [Bool.eq_iff_iff, List.any_eq_true, List.any_eq_true]
  constructor
  · rintro ⟨i, hi, h⟩
    have hi := List.mem_range.mp hi
    exact ⟨bs[i], List.getElem_mem hi, by simpa [hi] using h⟩
  · rintro ⟨b, hb, h⟩
    obtain ⟨i, hi, rfl⟩ := List.mem_iff_getElem.mp hb
    exact ⟨i, List.mem_range.mpr hi, by simpa [hi] using h⟩
theorem call_any (hc : X.calm = true) : CallR X (.builtin "any") (fun xs H Q => ∃ (p : Addr) (bs : List Bool), xs = [.ref p] ∧ SqL X.K H p (bs.map V.bl) ∧ Q (.bl (bs.any id)) H) := by
  intro pins s σ H xs us Q I r h
  obtain ⟨p, bs, rfl, hq, q⟩ := h
  obtain ⟨u, rfl, ru⟩ := vals1 r
  cases ru
  obtain ⟨its, rv, pl, hz⟩ := I.list hq
  have e := vals_bl rv
  subst e
  have lt : p < s.heap.objs.size := by obtain ⟨o, n, e, _⟩ := pl; exact Heap.lt_size e
  refine call_any_walk (wpAny_pyIter_list pl.isList ⟨s.heap.objs.size, _, [s.heap.objs.size], _, _, _, fun i => bs.getD i false, rfl, Walks.list (A := X.A.in1) (show X.A.in1.handled = none from I.ok.hd hc) _ p (Nat.ne_of_lt lt) (bs.map Value.bool).toArray, ⟨⟨_, Heap.get?_push_size _ rfl, rfl, rfl⟩, ?_⟩, truth_bl bs, fun h' tk hk => ?_⟩)
  · exact pl.isList.at fun o e => Heap.get?_push_of_some _ e
  · have el : (bs.map Value.bool).toArray.size = bs.length := by simp
    rw [el, range_any]
    refine ⟨.bl _, H, I.kept (t' := tk) fun b o e => hk b o ?_ (Heap.get?_push_of_some _ e), rfl, q⟩
    intro hb
    have e2 : b = s.heap.objs.size := by simpa using hb
    exact absurd (e2 ▸ Heap.lt_size e) (Nat.lt_irrefl _)
def stAt (x y : Str) (k : Nat) : Bool := decide (k + y.length ≤ x.length) && Builtin.Str.subAt x y k
theorem mt_startswith : MtR X "str.startswith" (fun x vs H Q => ∃ a b, x = .str a ∧ vs = [.str b] ∧ Q (.bl (stAt a b 0)) H) := by
  intro pins s σ H x vs v us Q I rx rv h
  obtain ⟨a, b, rfl, rfl, q⟩ := h
  obtain ⟨t, rfl⟩ := rx
  obtain ⟨u, rfl, t', rfl⟩ := rv.one
  exact call_gives F.slot_str_startswith (typeIs_str s a t) F.entry_str_startswith (F.args_str_startswith_2 _ _) (gives_str_startswith a b t t') ⟨.bl _, H, I, rfl, q⟩
theorem mt_startswith_from : MtR X "str.startswith" (fun x vs H Q => ∃ a b k, x = .str a ∧ vs = [.str b, .int (k : Nat)] ∧ Q (.bl (stAt a b k)) H) := by
  intro pins s σ H x vs v us Q I rx rv h
  obtain ⟨a, b, k, rfl, rfl, q⟩ := h
  obtain ⟨t, rfl⟩ := rx
  obtain ⟨u, u2, rfl, ⟨t', rfl⟩, ⟨t2, rfl⟩⟩ := rv.two
  refine call_gives F.slot_str_startswith (typeIs_str s a t) F.entry_str_startswith (F.args_str_startswith_3 _ _ _) (gives_str_startswith_from a b k t t' t2) ?_
  have e : fromIndex a.length (k : Int) = k := by unfold fromIndex; rw [if_neg (by omega)]; omega
  rw [e]
  exact ⟨.bl _, H, I, rfl, q⟩
end
end L2
namespace L2
open PySem PySem.Spec PyProof.Rows
section
variable {X : Cx} {e : Expr} {tg : Expr} {sc : Scope} {N' : List Str} {js : List (Option Nat)}
end
end L2
namespace L2
open PySem PySem.Spec PyProof.Rows
def ddS (acc : List Str) (x : Str) : List Str := if x ∈ acc then acc else acc ++ [x]
def dd (xs : List Str) : List Str := xs.foldl ddS []
theorem dd_snoc (xs : List Str) (x : Str) : dd (xs ++ [x]) = ddS (dd xs) x := by unfold dd; rw [List.foldl_append]; rfl
theorem mem_ddS {acc : List Str} {x k : Str} : k ∈ ddS acc x ↔ k ∈ acc ∨ k = x := by
  unfold ddS
  split
  · constructor
    · exact .inl
    · rintro (h | rfl)
      · exact h
      · assumption
  · simp
theorem mem_foldl {xs : List Str} : ∀ {acc : List Str} {k : Str}, k ∈ xs.foldl ddS acc ↔ k ∈ acc ∨ k ∈ xs := by
  induction xs with
  | nil => intro acc k; simp
  | cons x r ih =>
    intro acc k
    rw [List.foldl_cons, ih, mem_ddS]
    simp only [List.mem_cons]
    constructor
    · rintro ((h | h) | h)
      · exact .inl h
      · exact .inr (.inl h)
      · exact .inr (.inr h)
    · rintro (h | h | h)
      · exact .inl (.inl h)
      · exact .inl (.inr h)
      · exact .inr h
theorem mem_dd {xs : List Str} {k : Str} : k ∈ dd xs ↔ k ∈ xs := by unfold dd; rw [mem_foldl]; simp
theorem len_ddS (acc : List Str) (x : Str) : (ddS acc x).length = if x ∈ acc then acc.length else acc.length + 1 := by
  unfold ddS
  split <;> simp
theorem len_foldl : ∀ (xs acc : List Str), (xs.foldl ddS acc).length ≤ acc.length + xs.length ∧ ((xs.foldl ddS acc).length = acc.length + xs.length ↔ (xs.Nodup ∧ ∀ x ∈ xs, x ∉ acc))
  | [], acc => by simp
  | x :: r, acc => by
    obtain ⟨h1, h2⟩ := len_foldl r (ddS acc x)
    rw [List.foldl_cons]
    have h3 := len_ddS acc x
    simp only [List.length_cons]
    by_cases hx : x ∈ acc
    · rw [if_pos hx] at h3
      refine ⟨by omega, ⟨fun h => by omega, fun ⟨_, h⟩ => absurd hx (h x List.mem_cons_self)⟩⟩
    · rw [if_neg hx] at h3
      refine ⟨by omega, ?_⟩
      constructor
      · intro h
        obtain ⟨a, b⟩ := h2.mp (by omega)
        refine ⟨List.nodup_cons.mpr ⟨fun hm => b x hm (mem_ddS.mpr (.inr rfl)), a⟩, fun y hy => ?_⟩
        rcases List.mem_cons.mp hy with rfl | hy
        · exact hx
        · exact fun hm => b y hy (mem_ddS.mpr (.inl hm))
      · rintro ⟨a, b⟩
        obtain ⟨a1, a2⟩ := List.nodup_cons.mp a
        have := h2.mpr ⟨a2, fun y hy hm => by
          rcases mem_ddS.mp hm with h | h
          · exact b y (List.mem_cons_of_mem _ hy) h
          · exact a1 (h ▸ hy)⟩
        omega
theorem dd_len (xs : List Str) : (dd xs).length ≤ xs.length := by have := (len_foldl xs []).1; simpa [dd] using this
theorem dd_all (xs : List Str) : (dd xs).length = xs.length ↔ xs.Nodup := by
  have := (len_foldl xs []).2
  simpa [dd] using this
def setL (P : Program) (w : World) (p : Addr) (xs : List Str) : HO := .ext fun h => h.SetOf (strKind P w) p (fun k => decide (k ∈ xs)) (dd xs).length
theorem setL_ok {P : Program} {w : World} {H : Hp} {h : Heap} {p : Addr} {xs : List Str} (hS : h.SetOf (strKind P w) p (fun k => decide (k ∈ xs)) (dd xs).length) : ObjOk P w H h p (setL P w p xs) := by
  refine ⟨hS, ?_, fun h1 h2 q k => ?_⟩
  · obtain ⟨o, _, _, _, e, _⟩ := hS
    exact ⟨o, e⟩
  · obtain ⟨o, es, ep, t, e, r⟩ := q
    exact ⟨o, es, ep, t, k o e, r⟩
theorem setL_add (xs : List Str) (x : Str) : (fun k => decide (k ∈ xs) || decide (k = x)) = fun k => decide (k ∈ xs ++ [x]) := by
  funext k
  rw [Bool.eq_iff_iff]
  simp
theorem setL_len (xs : List Str) (x : Str) : (if decide (x ∈ xs) = true then (dd xs).length else (dd xs).length + 1) = (dd (xs ++ [x])).length := by
  rw [dd_snoc, len_ddS]
  by_cases h : x ∈ xs
  · rw [if_pos (decide_eq_true h), if_pos (mem_dd.mpr h)]
  · rw [if_neg (by simp [h]), if_neg (fun z => h (mem_dd.mp z))]
section
variable {X : Cx}
theorem call_len_setL : CallR X (.builtin "len") (fun vs H Q => ∃ p xs, vs = [.ref p] ∧ H p = some (setL X.prog X.w p xs) ∧ Q (.int (dd xs).length) H) := by
  intro pins s σ H vs us Q I r h
  obtain ⟨p, xs, rfl, hp, q⟩ := h
  obtain ⟨u, rfl, ru⟩ := vals1 r
  cases ru
  obtain ⟨hS, _, _⟩ := I.hok p _ hp
  obtain ⟨o, es, ep, t, e, hex, hd, _, _, hb, hf, hn⟩ := (show s.heap.SetOf (strKind X.prog X.w) p (fun k => decide (k ∈ xs)) (dd xs).length from hS)
  refine call_len_set e hex hd hf (by unfold scanBound at hb; omega) ?_
  rw [hn]
  exact ⟨.int _, H, I.tok _, ⟨_, rfl⟩, q⟩
end
end L2
namespace L2
open PySem PySem.Spec PyProof.Rows
theorem upd_loopT {P : Program} {w : World} {A : Around} {R : Result → Shared → Prop} {I S l : Addr} {its : List Value} {xs : List Str} (hh : A.in1.handled = none) (hlI : l ≠ I) (hSI : S ≠ I) (hSl : S ≠ l) (hv : ∀ (i : Nat) v, its[i]? = some v → ∃ x t, xs[i]? = some x ∧ v = .str x t) (hlen : its.length = xs.length) (hb : xs.length + 1 < scanBound) :
    ∀ (k i : Nat) (s : Shared), xs.length - i = k → i ≤ xs.length → s.heap.IsListIter I l i → s.heap.IsList l its.toArray → s.heap.SetOf (PySem.strKind P w) S (fun k' => decide (k' ∈ xs.take i)) (dd (xs.take i)).length →
      (∀ h' tk, (∀ b o, b ≠ S → b ≠ I → s.heap.get? b = some o → h'.get? b = some o) → h'.SetOf (PySem.strKind P w) S (fun k' => decide (k' ∈ xs)) (dd xs).length → R (.ok (.ret .none)) { s with heap := h', toks := tk }) →
      codeAny (model P w) A (.builtin "set.update.loop" ⟨[.ref S, .ref I], []⟩) R s := by
  intro k
  induction k with
  | zero =>
    intro i s hk hi it ls hS hR
    have e : i = xs.length := by omega
    subst e
    refine codeAny_builtin PyProof.Rows.F.entry_set_update_loop ?_
    rw [Around.under_plainId PyProof.Rows.F.plain_set_update_loop _]
    show wpAny _ A.in1 (pyNext (.ref I) >>= _) _ _ s
    refine wpAny_bind (wpAny_pyNext_list_end hh it ls (by simp [hlen]) fun h' eb => ?_)
    show wpAny _ A.in1 (ret Value.none) _ _ _
    refine wpAny_pure (hR h' s.toks (fun b o _ h2 e => eb b o h2 e) ?_)
    rw [List.take_length] at hS
    obtain ⟨o, es, ep, t, ho, rest⟩ := hS
    exact ⟨o, es, ep, t, eb S o hSI ho, rest⟩
  | succ k ih =>
    intro i s hk hi it ls hS hR
    have lt : i < xs.length := by omega
    have lt' : i < its.length := by omega
    refine codeAny_builtin PyProof.Rows.F.entry_set_update_loop ?_
    rw [Around.under_plainId PyProof.Rows.F.plain_set_update_loop _]
    show wpAny _ A.in1 (pyNext (.ref I) >>= _) _ _ s
    refine wpAny_bind (wpAny_pyNext_list_item it ls (x := its[i]) (by simp [lt']) fun h' it' sb => ?_)
    obtain ⟨x, t, hx, ev⟩ := hv i its[i] (by simp [lt'])
    rw [ev]
    have hS1 : h'.SetOf (PySem.strKind P w) S (fun k' => decide (k' ∈ xs.take i)) (dd (xs.take i)).length := by
      obtain ⟨o, es, ep, tb, ho, rest⟩ := hS
      exact ⟨o, es, ep, tb, (sb.2 S hSI).trans ho, rest⟩
    have ls1 : h'.IsList l its.toArray := ls.extBut sb.extBut hlI
    show wpAny _ A.in1 (holding [Value.str x t] (setAdd S (.str x t)) >>= _) _ _ { s with heap := h' }
    refine wpAny_bind (wpAny_holding ?_)
    unfold setAdd
    refine wpAny_holding ?_
    have hkey : (PySem.strKind P w).is x (.str x t) = true := by simp [PySem.strKind, Value.isStrOf]
    refine wpAny_bind ((PySem.strKind P w).pyHash hkey ?_)
    have hroom : (dd (xs.take i)).length + 1 < scanBound := by
      have := dd_len (xs.take i)
      rw [List.length_take] at this
      omega
    refine wpAny_setAddHashed_of (knd := PySem.strKind P w) (s := { s with heap := h', toks := s.toks + 1 }) hkey rfl hS1 hroom fun h2 sb2 hS2 => ?_
    have et : xs.take i ++ [x] = xs.take (i + 1) := by rw [List.take_add_one, hx]; rfl
    have hS3 : h2.SetOf (PySem.strKind P w) S (fun k' => decide (k' ∈ xs.take (i + 1))) (dd (xs.take (i + 1))).length := by
      rw [← et]
      exact SetOf_congr hS2 (fun k' => congrFun (setL_add (xs.take i) x) k') (setL_len (xs.take i) x)
    refine wpAny_pure ⟨plainId_quiet PyProof.Rows.F.plain_set_update_loop _, ih (i + 1) _ (by omega) lt (it'.extBut sb2.extBut (Ne.symm hSI)) (ls1.extBut sb2.extBut (Ne.symm hSl)) hS3 fun h3 tk q hS4 => ?_⟩
    exact hR h3 tk (fun b o h1 h2' e => q b o h1 h2' ((sb2.2 b h1).trans ((sb.2 b h2').trans e))) hS4
end L2
namespace L2
open PySem PySem.Spec PyProof.Rows
section
variable {prog : Program} {w : World} {A : Around} {E : Value → Shared → Prop} {s : Shared}
set_option maxHeartbeats 3200000 in
theorem set_of_texts {l : Addr} {its : List Value} {xs : List Str} {Q : Value → Shared → Prop} (hh : A.handled = none) (hl : s.heap.IsList l its.toArray)
    (hv : ∀ (i : Nat) v, its[i]? = some v → ∃ x t, xs[i]? = some x ∧ v = .str x t) (hlen : its.length = xs.length) (hb : xs.length + 1 < scanBound)
    (h : ∀ (h' : Heap) (tk : Nat), h'.SetOf (PySem.strKind prog w) s.heap.objs.size (fun k' => decide (k' ∈ xs)) (dd xs).length →
      (∀ b o, s.heap.get? b = some o → h'.get? b = some o) → Q (.ref s.heap.objs.size) { s with heap := h', toks := tk }) :
    wpAny (model prog w) A (call (.type "set") [.ref l]) Q E s := by
  obtain ⟨c, tl, hmro⟩ := F.called_set.mro
  have hmade := F.called_set.made
  have hsub := F.called_set.sub
  refine wpAny_call (codeAny_of_tree ?_)
  show wpAny _ _ (callAny (.type "set") _) _ _ _
  refine wpAny_pure ⟨Code.quiet_builtin _ (by decide +kernel), codeAny_builtin F.entry_type_call ?_⟩
  rw [Around.under_plain (weight_type_call_type "set" [.ref l] []) rfl]
  have h1 := F.called_set.notType
  have h2 := F.called_set.canCreate
  have hct := F.typeCall_set_1 (.ref l)
  repeat (any_goals (first | assumption | wp_step))
  refine codeAny_mono (code_set_new_1 (.ref l) (E := E) (Q₁ := fun obj s₁ => ∃ led : Bool, obj = .ref s.heap.objs.size ∧ s₁ = { s with heap := s.heap.push { cls := .type "set", dict := none, data := .set #[] 0 (.fresh 0 0 led) } }) fun led => ⟨led, rfl, rfl⟩) fun r s₁ hr => ?_
  cases r with
  | error e => exact hr
  | ok fl =>
    cases fl with
    | ret obj =>
      obtain ⟨led, rfl, rfl⟩ := hr
      generalize hH1 : s.heap.push { cls := .type "set", dict := none, data := .set #[] 0 (.fresh 0 0 led) } = H1
      have hS : H1.get? s.heap.objs.size = some { cls := .type "set", dict := none, data := .set #[] 0 (.fresh 0 0 led) } := by rw [← hH1]; exact Heap.get?_push_size _ rfl
      have hold : ∀ b o, s.heap.get? b = some o → H1.get? b = some o := fun b o e => by rw [← hH1]; exact Heap.get?_push_of_some _ e
      have hsz : H1.objs.size = s.heap.objs.size + 1 := by rw [← hH1]; exact Heap.size_push ..
      have hT : Shared.TypeIs { s with heap := H1 } (.ref s.heap.objs.size) "set" := ⟨_, hS, rfl⟩
      have hli := F.called_set.init.lookup
      have hbi := F.called_set.init.bind (.ref s.heap.objs.size)
      repeat (any_goals (first | assumption | wp_step))
      refine codeAny_mono (codeAny_call_builtin (R := wants (fun r s₂ => r = .none ∧ ∃ h' tk, s₂ = { s with heap := h', toks := tk } ∧
          h'.SetOf (PySem.strKind prog w) s.heap.objs.size (fun k' => decide (k' ∈ xs)) (dd xs).length ∧ (∀ b o, s.heap.get? b = some o → h'.get? b = some o)) E) F.called_set.init.plain F.entry_set_init (check_set_init_1 hT ?_)) fun r₂ s₂ hr₂ => ?_
      · obtain ⟨ol, hol, hcl, nl, hdl⟩ := hl
        obtain ⟨ocls, odict, odata, oslots⟩ := ol
        simp only at hcl hdl
        subst hcl; subst hdl
        have hol' := hold _ _ hol
        have hsls := F.sub_list_set
        have hslf := F.sub_list_frozenset
        have hne : (Value.type "list" == Value.type "dict") = false := by decide
        have hl1 : H1.IsList l its.toArray := ⟨_, hol', rfl, nl, rfl⟩
        unfold Builtin.«set.__init__» noKeywords Builtin.Frozenset.updateFrom
        generalize hPI : pyIter = PI
        wp_walk
        subst hPI
        refine wpAny_pyIter_list hl1 ?_
        refine wpAny_bind (wpAny_runValue ?_)
        have hlS : l < s.heap.objs.size := Heap.lt_size hol
        have hh3 : A.in1.in1.in1.handled = none := by simp [hh]
        refine upd_loopT (P := prog) (w := w) (l := l) (its := its) (xs := xs) hh3 (by rw [hsz]; exact Nat.ne_of_lt (Nat.lt_succ_of_lt hlS)) (by rw [hsz]; exact Nat.ne_of_lt (Nat.lt_succ_self _)) (Nat.ne_of_gt hlS) hv hlen hb xs.length 0 _ (by omega) (Nat.zero_le _) ⟨_, Heap.get?_push_size _ rfl, rfl, rfl⟩ (hl1.push _) ?hS0 ?hR
        case hS0 =>
          exact SetOf_congr ((setObjOf_fresh (knd := PySem.strKind prog w) led).setOf (Heap.get?_push_of_some _ hS) (by unfold scanBound; omega)) (fun _ => by simp) rfl
        case hR =>
          intro h' tk' hk hS'
          show wpAny _ _ _ _ _ _
          refine wpAny_pure ?_
          show wpAny _ _ (ret Value.none) _ _ _
          refine wpAny_pure ⟨rfl, h', tk', rfl, hS', fun b o e => ?_⟩
          have lt := Heap.lt_size e
          exact hk b o (Nat.ne_of_lt lt) (by rw [hsz]; exact Nat.ne_of_lt (Nat.lt_succ_of_lt lt)) (Heap.get?_push_of_some _ (hold b o e))
      · cases r₂ with
        | error e => exact hr₂
        | ok fl₂ =>
          cases fl₂ with
          | ret r =>
            obtain ⟨rfl, h', tk, rfl, hS', hk'⟩ := hr₂
            repeat (any_goals (first | assumption | wp_step))
            exact h _ _ hS' hk'
          | _ => exact hr₂.elim
    | _ => exact hr.elim
end
theorem vals_strs : ∀ {xs : List Str} {us : List Value}, Vals (xs.map V.str) us → us.length = xs.length ∧ ∀ (i : Nat) v, us[i]? = some v → ∃ x t, xs[i]? = some x ∧ v = .str x t
  | [], _, .nil => ⟨rfl, fun i v e => by simp at e⟩
  | x :: xs, _, .cons r t => by
    obtain ⟨h1, h2⟩ := vals_strs (xs := xs) t
    obtain ⟨tk, rfl⟩ := r
    refine ⟨by simp [h1], fun i v e => ?_⟩
    cases i with
    | zero => simp at e; exact ⟨x, tk, by simp, e.symm⟩
    | succ i => simpa using h2 i v (by simpa using e)
theorem call_set_texts {X : Cx} (hc : X.calm = true) : CallR X (.type "set") (fun vs H Q => ∃ p xs, vs = [.ref p] ∧ SqL X.K H p (xs.map V.str) ∧ xs.length + 1 < scanBound ∧ ∀ q, H q = none → Q (.ref q) (upd H q (setL X.prog X.w q xs))) := by
  intro pins s σ H vs us Q I r h
  obtain ⟨p, xs, rfl, hq, hb, q⟩ := h
  obtain ⟨u, rfl, ru⟩ := vals1 r
  cases ru
  obtain ⟨its, rv, pl, hz⟩ := I.list hq
  obtain ⟨h1, h2⟩ := vals_strs rv
  refine set_of_texts (I.ok.hd hc) pl.isList h2 h1 hb fun h' tk hS hk => ?_
  exact ⟨.ref _, _, I.laid (t' := tk) hk (Nat.le_refl _) (setL_ok hS), rfl, q _ I.fresh⟩
end L2
namespace L2
open PySem PySem.Spec PyProof.Rows
def SameX (p : Addr) (H H' : Hp) : Prop := ∀ b o, b ≠ p → H b = some o → H' b = some o
theorem SameX.refl {p : Addr} {H : Hp} : SameX p H H := fun _ _ _ e => e
theorem SameX.trans {p : Addr} {H H1 H2 : Hp} (a : SameX p H H1) (b : SameX p H1 H2) : SameX p H H2 := fun c o n e => b c o n (a c o n e)
theorem SameX.upd {p : Addr} {H H' : Hp} {o : HO} (a : SameX p H H') : SameX p H (upd H' p o) := fun c u n e => by rw [upd_ne n]; exact a c u n e
theorem Same.x {p : Addr} {H H' : Hp} (a : Same H H') : SameX p H H' := fun c o _ e => a c o e
theorem Same.new {H : Hp} {p : Addr} {o : HO} (h : H p = none) : Same H (upd H p o) := fun b u e => by rw [upd_ne (ne_of_none e h)]; exact e
structure ItOk (J : It) (n : Nat) (item : Nat → V) (H0 : Hp) (p : Addr) : Prop where
  go : ∀ i H, i < n → SameX p H0 H → J.go i H
  stop : ∀ H, SameX p H0 H → J.stop n H
  yld : ∀ i H x H', i < n → SameX p H0 H → J.yld i H x H' → H' = H ∧ x = item i
theorem itok_tup {K : PySem.W.Frag} {a p : Addr} {xs : List V} {H0 : Hp} (h : H0 a = some (.tup xs)) (hp : a ≠ p) : ItOk (Itt K a) xs.length (fun i => xs.getD i .non) H0 p where
  go := fun i H hi k => ⟨xs, xs[i], SqT.of (k a _ hp h), by simp [hi]⟩
  stop := fun H k => ⟨xs, SqT.of (k a _ hp h), Nat.le_refl _⟩
  yld := fun i H v H' hi k ⟨e, q⟩ => ⟨e, by
    have := q xs (SqT.of (k a _ hp h))
    rw [List.getD_eq_getElem?_getD, this]; rfl⟩
theorem itok_lst {K : PySem.W.Frag} {a p : Addr} {xs : List V} {H0 : Hp} (h : H0 a = some (.lst xs)) (hp : a ≠ p) : ItOk (Itl K a) xs.length (fun i => xs.getD i .non) H0 p where
  go := fun i H hi k => ⟨xs, xs[i], SqL.of (k a _ hp h), by simp [hi]⟩
  stop := fun H k => ⟨xs, SqL.of (k a _ hp h), Nat.le_refl _⟩
  yld := fun i H v H' hi k ⟨e, q⟩ => ⟨e, by
    have := q xs (SqL.of (k a _ hp h))
    rw [List.getD_eq_getElem?_getD, this]; rfl⟩
def flatN (F : Nat → List V) : Nat → List V
  | 0 => []
  | i + 1 => flatN F i ++ F i
theorem loop_gen {J : It} {g : TG} {tt : TT} {tr : TR} {Qe : St → Hp → Prop} {σ0 : St} {H0 : Hp} {p : Addr} {cur : List V} {n : Nat} {item : Nat → V} (F : Nat → List V) (P : St → Prop) (hσ : P σ0) (hp : H0 p = some (.lst cur)) (ok : ItOk J n item H0 p)
    (turn : ∀ i σ H (N : St → Hp → Prop), i < n → P σ → SameX p H0 H → H p = some (.lst (cur ++ flatN F i)) → (∀ σ2 H4, P σ2 → SameX p H H4 → H4 p = some (.lst (cur ++ flatN F i ++ F i)) → N σ2 H4) →
      g (item i) σ H fun σ2 H2 => tt σ2 H2 fun b H3 => if b = true then tr σ2 H3 N else N σ2 H3)
    (hQ : ∀ σ H, P σ → SameX p H0 H → H p = some (.lst (cur ++ flatN F n)) → Qe σ H) : tLoop J g tt tr Qe σ0 H0 := by
  refine ⟨fun i m σ H => m = n - i ∧ i ≤ n ∧ P σ ∧ SameX p H0 H ∧ H p = some (.lst (cur ++ flatN F i)), ⟨n, rfl, Nat.zero_le _, hσ, .refl, by simpa [flatN] using hp⟩, ?_⟩
  rintro i m σ H ⟨rfl, hi, hP, hS, hH⟩
  by_cases hlt : i < n
  · refine .inr ⟨ok.go i H hlt hS, fun σ' H' => P σ' ∧ SameX p H0 H' ∧ H' p = some (.lst (cur ++ flatN F (i + 1))), fun σ' H' ⟨a, b, c⟩ => ⟨n - (i + 1), by omega, rfl, hlt, a, b, c⟩, fun x H' y => ?_⟩
    obtain ⟨rfl, rfl⟩ := ok.yld i H x H' hlt hS y
    refine turn i σ H' _ hlt hP hS hH fun σ2 H4 hP2 hS2 hH2 => ⟨hP2, hS.trans hS2, ?_⟩
    rw [hH2]
    simp only [flatN, List.append_assoc]
  · have e : i = n := by omega
    subst e
    exact .inl ⟨ok.stop H hS, hQ σ H hP hS hH⟩
theorem flatN_le {F : Nat → List V} {k : Nat} (h : ∀ i, (F i).length ≤ k) : ∀ n, (flatN F n).length ≤ n * k
  | 0 => by simp [flatN]
  | n + 1 => by
    have := flatN_le h n
    have h2 := h n
    simp only [flatN, List.length_append, Nat.succ_mul]
    omega
theorem loop_app {J : It} {g : TG} {tt : TT} {te : TE} {Qe : St → Hp → Prop} {σ0 : St} {H0 : Hp} {p : Addr} {cur : List V} {n : Nat} {item : Nat → V} (f : Nat → Option V) (P : St → Prop) (hσ : P σ0) (hp : H0 p = some (.lst cur)) (hsz : cur.length + n ≤ 100000) (ok : ItOk J n item H0 p)
    (turn : ∀ i σ H (C : Option V → St → Hp → Prop), i < n → P σ → SameX p H0 H → (∀ σ2 H4, P σ2 → Same H H4 → C (f i) σ2 H4) →
      g (item i) σ H fun σ2 H2 => tt σ2 H2 fun b H3 => if b = true then te σ2 H3 fun v H4 => C (some v) σ2 H4 else C none σ2 H3)
    (hQ : ∀ σ H, P σ → SameX p H0 H → H p = some (.lst (cur ++ flatN (fun i => (f i).toList) n)) → Qe σ H) : tLoop J g tt (tApp p te) Qe σ0 H0 := by
  refine loop_gen (fun i => (f i).toList) P hσ hp ok (fun i σ H N hi hP hS hH hN => ?_) hQ
  refine turn i σ H (fun o σ2 H4 => match o with
    | some v => ∃ ys, H4 p = some (.lst ys) ∧ ys.length < sizeLine ∧ N σ2 (upd H4 p (.lst (ys ++ [v])))
    | none => N σ2 H4) hi hP hS fun σ2 H4 hP2 hS2 => ?_
  have hp4 := hS2 p _ hH
  cases e : f i with
  | none =>
    refine hN σ2 H4 hP2 hS2.x ?_
    rw [e]
    simpa using hp4
  | some v =>
    refine ⟨_, hp4, ?_, hN σ2 _ hP2 (hS2.x.upd) ?_⟩
    · have h1 := flatN_le (F := fun i => (f i).toList) (k := 1) (fun i => by show ((f i).toList).length ≤ 1; cases f i <;> simp) i
      have h2 : (100000 : Nat) < sizeLine := by rw [sizeLine_eq]; decide
      rw [List.length_append]
      omega
    · rw [upd_same, e]
      rfl
theorem loop_new {J : It} {g : TG} {tt : TT} {te : TE} {Qe : St → Hp → Prop} {σ0 : St} {H0 : Hp} {p : Addr} {n : Nat} {item : Nat → V} (f : Nat → Option V) (P : St → Prop) (hσ : P σ0) (hp : H0 p = none) (hsz : n ≤ 100000) (ok : ItOk J n item (upd H0 p (.lst [])) p)
    (turn : ∀ i σ H (C : Option V → St → Hp → Prop), i < n → P σ → Same H0 H → (∀ σ2 H4, P σ2 → Same H H4 → C (f i) σ2 H4) →
      g (item i) σ H fun σ2 H2 => tt σ2 H2 fun b H3 => if b = true then te σ2 H3 fun v H4 => C (some v) σ2 H4 else C none σ2 H3)
    (hQ : ∀ σ H, Same H0 H → H p = some (.lst (flatN (fun i => (f i).toList) n)) → Qe σ H) : tLoop J g tt (tApp p te) Qe σ0 (upd H0 p (.lst [])) := by
  have s0 : Same H0 (upd H0 p (.lst [])) := Same.new hp
  have up : ∀ {H}, SameX p (upd H0 p (.lst [])) H → Same H0 H := fun {H} h b o e => h b o (ne_of_none e hp) (s0 b o e)
  refine loop_app f P hσ upd_same (by simpa using hsz) ok (fun i σ H C hi hP hS hC => turn i σ H C hi hP (up hS) hC) fun σ H _ hS hH => hQ σ H (up hS) (by simpa using hH)
theorem flatN_map (f : Nat → V) : ∀ n, flatN (fun i => (some (f i)).toList) n = (List.range n).map f
  | 0 => rfl
  | n + 1 => by
    have := flatN_map f n
    simp only [Option.toList_some] at this
    simp only [flatN, List.range_succ, List.map_append, this, Option.toList_some, List.map_cons, List.map_nil]
end L2
namespace T1
open PySem L2
inductive D where
  | non | bl (b : Bool) | int (i : Int) | str (x : Str) | tup (xs : List D) | lst (xs : List D)
mutual
/-- the value v stands for d; z is an address apart (the law's bag) -/
inductive Rep (z : Addr) (H : Hp) : V → D → Prop where
  | non : Rep z H .non .non
  | bl (b : Bool) : Rep z H (.bl b) (.bl b)
  | int (i : Int) : Rep z H (.int i) (.int i)
  | str (x : Str) (h : x.length ≤ 1000) : Rep z H (.str x) (.str x)
  | tup {a : Addr} {xs : List V} {ds : List D} (h : H a = some (.tup xs)) (hz : a ≠ z) (r : Reps z H xs ds) : Rep z H (.ref a) (.tup ds)
  | lst {a : Addr} {xs : List V} {ds : List D} (h : H a = some (.lst xs)) (hz : a ≠ z) (r : Reps z H xs ds) : Rep z H (.ref a) (.lst ds)
inductive Reps (z : Addr) (H : Hp) : List V → List D → Prop where
  | nil : Reps z H [] []
  | cons {v : V} {d : D} {vs : List V} {ds : List D} (h : Rep z H v d) (t : Reps z H vs ds) : Reps z H (v :: vs) (d :: ds)
end
mutual
theorem Rep.mono {z : Addr} {H H' : Hp} (k : SameX z H H') : ∀ {v : V} {d : D}, Rep z H v d → Rep z H' v d
  | _, _, .non => .non
  | _, _, .bl b => .bl b
  | _, _, .int i => .int i
  | _, _, .str x h => .str x h
  | _, _, .tup h hz r => .tup (k _ _ hz h) hz (Reps.mono k r)
  | _, _, .lst h hz r => .lst (k _ _ hz h) hz (Reps.mono k r)
theorem Reps.mono {z : Addr} {H H' : Hp} (k : SameX z H H') : ∀ {vs : List V} {ds : List D}, Reps z H vs ds → Reps z H' vs ds
  | _, _, .nil => .nil
  | _, _, .cons h t => .cons (Rep.mono k h) (Reps.mono k t)
end
theorem Reps.length {z : Addr} {H : Hp} : ∀ {vs : List V} {ds : List D}, Reps z H vs ds → vs.length = ds.length
  | _, _, .nil => rfl
  | _, _, .cons _ t => by simp [Reps.length t]
theorem Reps.get {z : Addr} {H : Hp} : ∀ {vs : List V} {ds : List D} {i : Nat}, Reps z H vs ds → i < ds.length → Rep z H (vs.getD i .non) (ds.getD i .non)
  | _, _, 0, .cons h _, _ => h
  | _, _, i + 1, .cons _ t, hi => by
    have := Reps.get (i := i) t (by simpa using hi)
    simpa using this
end T1
namespace T1
open PySem L2
theorem b_len : bootBuiltins "len" = some (.builtin "len") := by decide +kernel
theorem b_any : bootBuiltins "any" = some (.builtin "any") := by decide +kernel
theorem b_min : bootBuiltins "min" = some (.builtin "min") := by decide +kernel
theorem b_sorted : bootBuiltins "sorted" = some (.builtin "sorted") := by decide +kernel
theorem b_tuple : bootBuiltins "tuple" = some (.type "tuple") := by decide +kernel
theorem b_list : bootBuiltins "list" = some (.type "list") := by decide +kernel
theorem b_set : bootBuiltins "set" = some (.type "set") := by decide +kernel
def blkChk (S sc : Scope) : Bool := sc.names.all fun x => (x.2 != .local || sc.names.lookup x.1 == some .local) && x.2 != .cell && (x.2 != .free || S.names.lookup x.1 == some .cell)
theorem blk_of {X : Cx} {sc : Scope} (S : Scope) (h : blkChk S sc = true) (hS : X.env.scope = S := by rfl) (hk : sc.kind = .function := by rfl) : BlkOk X sc := by
  unfold blkChk at h
  rw [List.all_eq_true] at h
  refine ⟨hk, fun x hx hl => ?_, fun x hx hc => ?_, fun x hx hf => ?_⟩
  · have := h x hx
    rw [hl] at this
    simp at this
    exact this
  · have := h x hx
    rw [hc] at this
    simp at this
  · have := h x hx
    rw [hf] at this
    simp at this
    show X.env.scope.names.lookup x.1 = some .cell
    rw [hS]
    exact this
end T1
namespace L2
open PySem PySem.Spec PyProof.Rows
theorem loop_map {J : It} {g : TG} {te : TE} {Qe : St → Hp → Prop} {σ0 : St} {H0 : Hp} {p : Addr} {n : Nat} {item : Nat → V} (f : Nat → V) (P : St → Prop) (hσ : P σ0) (hp : H0 p = none) (hsz : n ≤ 100000) (ok : ItOk J n item (upd H0 p (.lst [])) p)
    (turn : ∀ i σ H (C : V → St → Hp → Prop), i < n → P σ → Same H0 H → (∀ σ2 H4, P σ2 → Same H H4 → C (f i) σ2 H4) → g (item i) σ H fun σ2 H2 => te σ2 H2 fun v H4 => C v σ2 H4)
    (hQ : ∀ σ H, Same H0 H → H p = some (.lst ((List.range n).map f)) → Qe σ H) : tLoop J g tYes (tApp p te) Qe σ0 (upd H0 p (.lst [])) :=
  loop_new (fun i => some (f i)) P hσ hp hsz ok (fun i σ H C hi hP hS hC => turn i σ H (fun v σ2 H4 => C (some v) σ2 H4) hi hP hS hC) fun σ H hS hH => hQ σ H hS (by rw [flatN_map] at hH; exact hH)
theorem range_map {α : Type} [Inhabited α] (xs : List α) (d : α) (f : α → V) : (List.range xs.length).map (fun i => f (xs.getD i d)) = xs.map f := by
  apply List.ext_getElem?
  intro i
  rw [List.getElem?_map, List.getElem?_map]
  by_cases h : i < xs.length
  · simp [h]
  · simp [h]
end L2
namespace L2
open PySem PySem.Spec PyProof.Rows
section
variable {X : Cx} {sc : Scope} {cl : List (Str × Addr)} {N' : List Str} {s : Shared} {H : Hp} {fp : List Addr}
theorem pg_tupB {es : List Expr} {k : Nat} {t : TGs} {pos : Pos} (n : Nat) (hc : X.calm = true) (h : PGs (X.blk sc cl N' s H fp) es t)
    (hn : (assignEach es (X.blk sc cl N' s H fp).env).length = n := by rfl) (hst : (assignEach es (X.blk sc cl N' s H fp).env).findIdx? (·.1) = none := by rfl) : PG (X.blk sc cl N' s H fp) (.Tuple es k pos) (gTup X.K n t) := pg_tup hc h hn hst
theorem ix_tupB : IxR (X.blk sc cl N' s H fp) (rIxT X.K) := ix_tup
theorem ix_listB : IxR (X.blk sc cl N' s H fp) (rIxL X.K) := ix_list
theorem op_catTB : OpR (X.blk sc cl N' s H fp) (binaryOp .Add) (rCatT X.K) := op_catT
end
end L2
namespace L2
open PySem PySem.Spec PyProof.Rows
section
variable {X : Cx}
def rNeNil : R2 := fun x y H Q => ∃ p q xs, x = .ref p ∧ y = .ref q ∧ H p = some (.lst xs) ∧ H q = some (.lst []) ∧ Q (.bl (!xs.isEmpty)) H
theorem op_ne_nil (hu : X.A.units < cLine) : OpR X (compareOp .NotEq) rNeNil := by
  intro pins s σ H x y v u Q I rx ry h
  obtain ⟨p, q, xs, rfl, rfl, hp, hq, k⟩ := h
  cases rx
  cases ry
  obtain ⟨its, rv, pl, hz⟩ := I.list (SqL.of hp)
  obtain ⟨its2, rv2, pl2, hz2⟩ := I.list (SqL.of hq)
  cases rv2
  show wpAny _ _ (richCompare .NotEq _ _) _ _ _
  cases rv with
  | nil => exact SeqAt.RcNeAt.lists (e := fun _ => true) pl.isList pl2.isList rfl hu (fun j h1 _ => absurd h1 (by simp)) _ _ _ _ ⟨.bl _, H, I, rfl, k⟩
  | cons r t => exact SeqAt.RcNeAt.lists_lengths pl.isList pl2.isList (by simp) hu _ _ _ _ ⟨.bl _, H, I, rfl, k⟩
theorem PI.or {tg l : Expr} {wi wi' : TI} (h : PI X tg l wi) (h' : PI X tg l wi') : PI X tg l (fun σ H R => wi σ H R ∨ wi' σ H R) := by
  intro pins s σ H R I q
  rcases q with q | q
  · exact h pins s σ H R I q
  · exact h' pins s σ H R I q
end
end L2
namespace L2
open PySem PySem.Spec PyProof.Rows
section
variable {X : Cx} {pins : List (Addr × Obj)} {σ : St} {H : Hp} {s : Shared} {h' : Heap} {m : Str → Option Value}
theorem news_lib (L : Addr) : News (Att.noObjs s.heap) L s.heap (Att.ledger s.heap L L) := by
  rintro ⟨a, o⟩ hp
  obtain ⟨n1, _, e⟩ := Att.mem_ledger.mp hp
  exact ⟨e, n1, Att.noObjs_get _ _⟩
theorem kept_lib {L : Addr} (N : News (Att.noObjs s.heap) L h' (Att.ledger s.heap L L)) : ∀ b o, b ≠ L → s.heap.get? b = some o → h'.get? b = some o := fun b o hb e => (N (b, o) (Att.mem_ledger.mpr ⟨hb, hb, e⟩)).1
theorem Inv.lib {tk : Nat} (I : Inv X pins σ H s) (hn : s.heap.Ns X.env.locals m) (F : Fr (Att.noObjs s.heap) X.env.locals h' m) (N : News (Att.noObjs s.heap) X.env.locals h' (Att.ledger s.heap X.env.locals X.env.locals)) : Inv X pins σ H { s with heap := h', toks := tk } := by
  have k := kept_lib N
  have nL : ∀ b u, H b = some u → b ≠ X.env.locals := fun b u e z => by rw [z, I.free] at e; cases e
  refine I.step (g' := s.gens) (d' := s.drawn) (ch := []) (fun _ z => nomatch z) (fun b o hb _ _ e _ => k b o hb e) (fun b o hb _ _ e _ => ⟨o.slots, k b o hb e⟩) (fun _ _ _ _ n => n) (fun b o _ e => ?_) (fun _ _ e => e) (fun _ _ _ e => e) (fun b ps e => ⟨#[], by rw [e]; simp⟩) (fun m' hm => ?_) (fun b u e => ?_) I.bare
  · by_cases hb : b = X.env.locals
    · obtain ⟨o', _, _, ho', _⟩ := F.ns
      exact ⟨o', by rw [hb]; exact ho'⟩
    · exact ⟨o, k b o hb e⟩
  · have : m' = m := funext fun x => hm.agree hn x
    rw [this]
    exact F.ns
  · refine (I.hok b u e).stay (fun c v hc q => k c v ?_ q) (fun _ q => q) fun _ _ q => q
    rcases hc with z | z
    · rw [z]; exact nL b u e
    · exact nL c _ z
theorem Inv.libNew {tk : Nat} {D : Addr} {ob : Obj} {o : HO} (I : Inv X pins σ H s) (hn : s.heap.Ns X.env.locals m) (F : Fr (Att.noObjs s.heap) X.env.locals h' m) (N : News (Att.noObjs s.heap) X.env.locals h' ((D, ob) :: Att.ledger s.heap X.env.locals X.env.locals))
    (hD : ∀ q ∈ Att.ledger s.heap X.env.locals X.env.locals, q.1 < D) (new : ObjOk X.prog X.w (upd H D o) h' D o) : H D = none ∧ Inv X pins σ (upd H D o) { s with heap := h', toks := tk } := by
  have N' : News (Att.noObjs s.heap) X.env.locals h' (Att.ledger s.heap X.env.locals X.env.locals) := fun p hp => N p (List.mem_cons_of_mem _ hp)
  have k := kept_lib N'
  have hDL : D ≠ X.env.locals := (N (D, ob) List.mem_cons_self).2.1
  have nold : ∀ o', s.heap.get? D ≠ some o' := fun o' e => absurd (hD (D, o') (Att.mem_ledger.mpr ⟨hDL, hDL, e⟩)) (Nat.lt_irrefl _)
  have nL : ∀ b u, H b = some u → b ≠ X.env.locals := fun b u e z => by rw [z, I.free] at e; cases e
  have old : ∀ b u, H b = some u → ∃ o', s.heap.get? b = some o' := fun b u e => by
    have hlt := (I.hok b u e).lt
    cases u with
    | lst xs => obtain ⟨_, _, _, _, q⟩ := I.hok b _ e; exact ⟨_, q⟩
    | tup xs => obtain ⟨_, _, _, ob, q, _⟩ := I.hok b _ e; exact ⟨ob, q⟩
    | dK kvs => obtain ⟨_, _, _, _, ob, _, _, q, _⟩ := I.hok b _ e; exact ⟨ob, q⟩
    | dT kvs => obtain ⟨_, _, _, _, ob, _, _, q, _⟩ := I.hok b _ e; exact ⟨ob, q⟩
    | set S n => obtain ⟨ob, _, _, _, q, _⟩ := I.hok b _ e; exact ⟨ob, q⟩
    | ins C dx fs => obtain ⟨_, _, _, q, _⟩ := I.hok b _ e; exact ⟨_, q⟩
    | own y => obtain ⟨ob, q⟩ := I.hok b _ e; exact ⟨ob, q⟩
    | xd fs => obtain ⟨_, ⟨ob, _, _, q, _⟩, _⟩ := I.hok b _ e; exact ⟨ob, q⟩
    | rng lo hi => obtain ⟨_, _, _, q⟩ := I.hok b _ e; exact ⟨_, q⟩
    | frz ob u => obtain ⟨q, _⟩ := I.hok b _ e; exact ⟨_, q⟩
    | tbl ps => exact ⟨_, show s.heap.get? b = some _ from I.hok b _ e⟩
    | met f y => exact ⟨_, show s.heap.get? b = some _ from I.hok b _ e⟩
    | ext φ => obtain ⟨_, q, _⟩ := I.hok b _ e; exact q
  have hn0 : H D = none := by
    cases e : H D with
    | none => rfl
    | some u =>
      obtain ⟨o', q⟩ := old D u e
      exact absurd q (nold o')
  have ne : ∀ b u, H b = some u → b ≠ D := fun b u e => ne_of_none e hn0
  refine ⟨hn0, I.step (g' := s.gens) (d' := s.drawn) (ch := []) (fun _ z => nomatch z) (fun b o hb _ _ e _ => k b o hb e) (fun b o hb _ _ e _ => ⟨o.slots, k b o hb e⟩) (fun b o' _ e n => ?_) (fun b o _ e => ?_) (fun b xs e => by rw [upd_ne (ne b _ e)]; exact e) (fun b _ _ e => by rw [upd_ne (ne b _ e)]; exact e) (fun b ps e => ⟨#[], by rw [upd_ne (ne b _ e), e]; simp⟩) (fun m' hm => ?_) (fun b u e => ?_) I.bare⟩
  · rw [upd_ne (fun z => nold o' (by rw [← z]; exact e))]
    exact n
  · by_cases hb : b = X.env.locals
    · obtain ⟨o', _, _, ho', _⟩ := F.ns
      exact ⟨o', by rw [hb]; exact ho'⟩
    · exact ⟨o, k b o hb e⟩
  · have : m' = m := funext fun x => hm.agree hn x
    rw [this]
    exact F.ns
  · by_cases hb : b = D
    · subst hb
      rw [upd_same] at e
      cases e
      exact new
    · rw [upd_ne hb] at e
      refine (I.hok b u e).stay (fun c v hc q => k c v ?_ q) (fun c q => by rw [upd_ne (ne c _ q)]; exact q) fun c _ q => by rw [upd_ne (ne c _ q)]; exact q
      rcases hc with z | z
      · rw [z]; exact nL b u e
      · exact nL c _ z
end
def strOf : Value → Str
  | .str x _ => x
  | _ => ⟨#[]⟩
theorem vals_strOf : ∀ {xs : List Str} {us : List Value}, Vals (xs.map V.str) us → us.map strOf = xs ∧ ∀ u ∈ us, ∃ t, u = .str (strOf u) t
  | [], _, .nil => ⟨rfl, fun u hu => nomatch hu⟩
  | x :: r, _, .cons h t => by
    obtain ⟨t1, rfl⟩ := h
    obtain ⟨e, q⟩ := vals_strOf t
    refine ⟨by rw [List.map_cons, e]; rfl, fun u hu => ?_⟩
    rcases List.mem_cons.mp hu with rfl | hu
    · exact ⟨t1, rfl⟩
    · exact q u hu
theorem vals_of_strs : ∀ {us : List Value}, (∀ u ∈ us, ∃ t, u = .str (strOf u) t) → Vals ((us.map strOf).map V.str) us
  | [], _ => .nil
  | u :: r, h => .cons (h u List.mem_cons_self) (vals_of_strs fun v hv => h v (List.mem_cons_of_mem _ hv))
theorem zip_lens : ∀ its : List Value, (its.map fun u => ((strOf u).length : Int)).zip its = its.map fun u => (((strOf u).length : Int), u)
  | [] => rfl
  | a :: r => by rw [List.map_cons, List.zip_cons_cons, List.map_cons, zip_lens r]
def rSortLen (K : PySem.W.Frag) (b : Bool) : List V → Hp → VK → Prop := fun vs H Q => ∃ (l : Addr) (xs : List Str), vs = [.ref l] ∧ SqL K H l (xs.map V.str) ∧ xs.length < 64 ∧ (∀ y ∈ xs, y.length ≤ sizeLine) ∧
  ∀ (p : Addr) (ys : List Str), H p = none → ys.Perm xs → ys.Pairwise (fun a c => if b then c.length ≤ a.length else a.length ≤ c.length) → Q (.ref p) (upd H p (.lst (ys.map V.str)))
theorem run_sorted_len {X : Cx} {pins : List (Addr × Obj)} {σ : St} {H : Hp} {s : Shared} {Q : VK} {vs : List V} {us : List Value} {kw : List (Str × Value)} {b : Bool} (I : Inv X pins σ H s) (r : Vals vs us) (h : rSortLen X.K b vs H Q)
    (ha1 : ∀ l, argsOk "sorted" ⟨[.ref l], kw⟩) (ha2 : ∀ x, argsOk "list.sort" ⟨[.ref x], kw⟩) (ht : ∀ x, Builtin.«list.sort» ⟨[.ref x], kw⟩ = ksk_tree x (.builtin "len") b) : wpAny (model X.prog X.w) X.A (call (.builtin "sorted") us kw) (EP X pins σ Q) X.xe s := by
  obtain ⟨l, xs, rfl, hl, h64, hz, q⟩ := h
  obtain ⟨u, rfl, ru⟩ := vals1 r
  cases ru
  obtain ⟨its, rv, pl, _⟩ := I.list hl
  obtain ⟨m, hn, _⟩ := id I.loc
  obtain ⟨e1, e2⟩ := vals_strOf rv
  have hlen : its.length = xs.length := by rw [← e1, List.length_map]
  have hn63 := line63
  refine ksk_sorted (b := b) (kz := its.map fun u => ((strOf u).length : Int)) (f := .builtin "len") (Att.fr_all hn) (news_lib X.env.locals) pl.isList (by simp) (by omega) (ha1 l) ha2 ht (fun i v k hv hk h tk own F N => ?_) (fun D h' tk out c F N hD ko => ?_)
  · have hmem := List.mem_of_getElem? hv
    obtain ⟨t, et⟩ := e2 v hmem
    have ek : k = ((strOf v).length : Int) := by
      rw [List.getElem?_map, hv] at hk
      exact (Option.some.inj hk).symm
    have hx : (strOf v).length ≤ sizeLine := hz _ (by rw [← e1]; exact List.mem_map_of_mem hmem)
    rw [et, ek]
    refine len_str (by omega) ?_
    exact KskEnd.intro F N fun p hp => hp
  · obtain ⟨ps, hp, ho, hs⟩ := ko
    have ezip : (its.map fun u => ((strOf u).length : Int)).zip its = its.map fun u => (((strOf u).length : Int), u) := by
      exact zip_lens its
    rw [ezip] at hp
    have hmem : ∀ p ∈ ps, p.1 = ((strOf p.2).length : Int) ∧ p.2 ∈ its := fun p hpp => by
      obtain ⟨u, hu, rfl⟩ := List.mem_map.mp (hp.mem_iff.mp hpp)
      exact ⟨rfl, hu⟩
    have hperm : (ps.map fun p => strOf p.2).Perm xs := by
      have := hp.map fun p => strOf p.2
      rw [List.map_map] at this
      have e3 : its.map ((fun p : Int × Value => strOf p.2) ∘ fun u => (((strOf u).length : Int), u)) = xs := by rw [← e1]; rfl
      rw [e3] at this
      exact this
    have hpair : (ps.map fun p => strOf p.2).Pairwise (fun a c => if b then c.length ≤ a.length else a.length ≤ c.length) := by
      rw [List.pairwise_map]
      refine hs.imp_of_mem fun {p q} h1 h2 h3 => ?_
      have a1 := (hmem p h1).1
      have a2 := (hmem q h2).1
      rw [a1, a2] at h3
      cases b
      · simp at h3 ⊢; omega
      · simp at h3 ⊢; omega
    have hvals : Vals ((ps.map fun p => strOf p.2).map V.str) out.toList := by
      rw [ho]
      have := vals_of_strs (us := ps.map Prod.snd) fun u hu => by
        obtain ⟨p, hpp, rfl⟩ := List.mem_map.mp hu
        exact e2 _ (hmem p hpp).2
      have e4 : (ps.map Prod.snd).map strOf = ps.map fun p => strOf p.2 := by rw [List.map_map]; rfl
      rw [e4] at this
      exact this
    have hlo : (ps.map fun p => strOf p.2).length = xs.length := hperm.length_eq
    have h64' : (64 : Nat) ≤ sizeLine := by rw [sizeLine_eq]; decide
    obtain ⟨hn0, I'⟩ := I.libNew (tk := tk) (o := .lst ((ps.map fun p => strOf p.2).map V.str)) hn F N hD ⟨by rw [List.length_map, hlo]; omega, out.toList, c, hvals, (N (D, seqObj "list" out c) List.mem_cons_self).1⟩
    exact ⟨.ref D, _, I', rfl, q D _ hn0 hperm hpair⟩
end L2
namespace L2
open PySem PySem.Spec PyProof.Rows
def cutS (z : Str) (lo hi : Option Int) : Str := ⟨((z.cps.toList.drop (HT.sIx z.length 0 lo)).take (HT.sIx z.length z.length hi - HT.sIx z.length 0 lo)).toArray⟩
theorem clip_s (v : Int) (n d : Nat) : max (0 : Int) (min (if v < 0 then v + (n : Int) else v) (n : Int)) = ((HT.sIx n d (some v) : Nat) : Int) := by
  show _ = (((if v < 0 then (v + (n : Int)).toNat else min v.toNat n) : Nat) : Int)
  by_cases hv : v < 0
  · rw [if_pos hv, if_pos hv]; omega
  · rw [if_neg hv, if_neg hv]; omega
theorem indices_cut (lo hi : Option Int) (n : Nat) : Builtin.Str.strSliceIndices lo hi 1 n = (List.range (HT.sIx n n hi - HT.sIx n 0 lo)).map fun k => HT.sIx n 0 lo + k := by
  have key : ∀ a b : Nat, sliceRange (a : Int) (b : Int) 1 = (List.range (b - a)).map fun k => a + k := fun a b => by
    unfold sliceRange
    have e : ((if (1 : Int) > 0 then (if (a : Int) < b then ((b : Int) - a + 1 - 1) / 1 else 0) else (if (a : Int) > b then ((a : Int) - b - 1 - 1) / (-1) else 0)) : Int).toNat = b - a := by
      rw [if_pos (by decide)]
      by_cases h : (a : Int) < b
      · rw [if_pos h, Int.ediv_one]; omega
      · rw [if_neg h]; omega
    simp only [e]
    refine List.map_congr_left fun k _ => ?_
    omega
  have hlo : (match lo with | none => (if (1 : Int) > 0 then (0 : Int) else (n : Int) - 1) | some i => if (1 : Int) > 0 then max 0 (min (if i < 0 then i + (n : Int) else i) (n : Int)) else max (-1) (min (if i < 0 then i + (n : Int) else i) ((n : Int) - 1))) = ((HT.sIx n 0 lo : Nat) : Int) := by
    cases lo with
    | none => rfl
    | some v =>
      show (if (1 : Int) > 0 then _ else _) = _
      rw [if_pos (by decide)]
      exact clip_s v n 0
  have hhi : (match hi with | none => (if (1 : Int) > 0 then (n : Int) else -1) | some i => if (1 : Int) > 0 then max 0 (min (if i < 0 then i + (n : Int) else i) (n : Int)) else max (-1) (min (if i < 0 then i + (n : Int) else i) ((n : Int) - 1))) = ((HT.sIx n n hi : Nat) : Int) := by
    cases hi with
    | none => rfl
    | some v =>
      show (if (1 : Int) > 0 then _ else _) = _
      rw [if_pos (by decide)]
      exact clip_s v n n
  unfold Builtin.Str.strSliceIndices
  refine Eq.trans ?_ (key _ _)
  rw [← hlo, ← hhi]
  cases lo <;> cases hi <;> rfl
theorem slice_cut (z : Str) (lo hi : Option Int) : Txt.slice z lo hi = cutS z lo hi := by
  have e := indices_cut lo hi z.length
  have h2 := HT.sIx_le z.length z.length (Nat.le_refl _) hi
  have hz : z.cps.toList.length = z.length := by simp; rfl
  have pick : (Builtin.Str.strSliceIndices lo hi 1 z.length).filterMap (z.cps[·]?) = (z.cps.toList.drop (HT.sIx z.length 0 lo)).take (HT.sIx z.length z.length hi - HT.sIx z.length 0 lo) := by
    rw [e]
    by_cases h : HT.sIx z.length 0 lo ≤ HT.sIx z.length z.length hi
    · have h3 := StrLaws.picks z.cps.toList (HT.sIx z.length z.length hi - HT.sIx z.length 0 lo) (HT.sIx z.length 0 lo) (by omega)
      simpa using h3
    · have : HT.sIx z.length z.length hi - HT.sIx z.length 0 lo = 0 := by omega
      rw [this]
      simp
  unfold Txt.slice
  split
  · rename_i hw
    have hl : (Builtin.Str.strSliceIndices lo hi 1 z.length).length = z.length := by simpa using hw
    rw [e, List.length_map, List.length_range] at hl
    unfold cutS
    rw [hl]
    obtain ⟨cs⟩ := z
    by_cases h0 : cs.size = 0
    · have : cs = #[] := Array.eq_empty_of_size_eq_zero h0
      subst this
      simp [Str.length]
    · have a0 : HT.sIx (Str.mk cs).length 0 lo = 0 := by
        have : (Str.mk cs).length = cs.size := rfl
        omega
      rw [a0]
      have : (Str.mk cs).length = cs.toList.length := by simp; rfl
      rw [this, List.drop_zero]
      show Str.mk cs = ⟨(cs.toList.take cs.toList.length).toArray⟩
      rw [List.take_length]
  · unfold cutS
    rw [pick]
def rSlS : V → Option Int → Option Int → Hp → VK → Prop := fun x lo hi H Q => ∃ z, x = .str z ∧ z.length ≤ sizeLine ∧ Q (.str (cutS z lo hi)) H
theorem sl_str {X : Cx} : SlR X rSlS := by
  intro pins s σ H x v vl vu lo hi sl Q I rx hs pl pu h
  obtain ⟨z, rfl, hz, q⟩ := h
  obtain ⟨t, rfl⟩ := rx
  rw [← slice_cut] at q
  refine ⟨"str", _, F.slot_str_getitem.lookup, typeIs_str _ _ _, ?_⟩
  have fin : ∀ (l u : Option (Int × Tok)), l.map (·.1) = lo → u.map (·.1) = hi → vl = partValue l → vu = partValue u → wpAny (model X.prog X.w) X.A (getItem (.str z t) (.ref sl)) (EP X pins σ Q) X.xe s := fun l u e1 e2 e3 e4 => by
    subst e1 e2 e3 e4
    obtain ⟨o, ho, hc, hd⟩ := hs
    refine wpAny_getItem_str_slice (l := l) (u := u) (st := none) ⟨o, ho, hc, hd⟩ rfl ?_
    exact post_val_or_str ⟨Nat.le_trans (Txt.slice_le z _ _) hz, fun t' k => ⟨.str _, H, I.tok _, ⟨_, rfl⟩, q⟩⟩
  cases pl with
  | none =>
    cases pu with
    | none => exact fin none none rfl rfl rfl rfl
    | int j u => exact fin none (some (j, u)) rfl rfl rfl rfl
  | int i t1 =>
    cases pu with
    | none => exact fin (some (i, t1)) none rfl rfl rfl rfl
    | int j u => exact fin (some (i, t1)) (some (j, u)) rfl rfl rfl rfl
end L2
namespace L2
open PySem PySem.Spec PyProof.Rows
end L2
namespace T1
open PySem L2 PyProof.Rows
mutual
inductive Dep : Nat → D → Prop where
  | non (k : Nat) : Dep k .non
  | bl (k : Nat) (b : Bool) : Dep k (.bl b)
  | int (k : Nat) (i : Int) : Dep k (.int i)
  | str (k : Nat) (x : Str) : Dep k (.str x)
  | tup {k : Nat} {ds : List D} (t : Deps k ds) : Dep (k + 1) (.tup ds)
  | lst {k : Nat} {ds : List D} (t : Deps k ds) : Dep (k + 1) (.lst ds)
inductive Deps : Nat → List D → Prop where
  | nil (k : Nat) : Deps k []
  | cons {k : Nat} {d : D} {ds : List D} (h : Dep k d) (t : Deps k ds) : Deps k (d :: ds)
end
theorem Deps.get {k : Nat} : ∀ {ds : List D} {i : Nat}, Deps k ds → i < ds.length → Dep k (ds.getD i .non)
  | _, 0, .cons h _, _ => h
  | _, i + 1, .cons _ t, hi => by
    have := Deps.get (i := i) t (by simpa using hi)
    simpa using this
theorem vals_at {xs : List V} {us : List Value} (r : Vals xs us) {j : Nat} (h : j < us.toArray.size) : RelV (xs.getD j .non) us.toArray[j] := by
  have hl := r.length
  have h' : j < xs.length := by rw [hl]; simpa using h
  obtain ⟨u, hu, ru⟩ := r.get (i := j) (x := xs.getD j .non) (by simp [h'])
  have : us.toArray[j] = u := by
    have h2 : j < us.length := by simpa using h
    have e : us[j]? = some us[j] := List.getElem?_eq_getElem h2
    rw [e] at hu
    simpa using Option.some.inj hu
  rw [this]
  exact ru
section
variable {X : Cx} {pins : List (Addr × Obj)} {σ : L2.St} {H : Hp} {s : Shared} {z z' : Addr}
theorem eq_same (I : Inv X pins σ H s) : ∀ (k : Nat) {d : D}, Dep k d → ∀ {A : Around} {x y : V} {u v : Value}, Room k A → Rep z H x d → Rep z' H y d → RelV x u → RelV y v → SeqAt.EqAt A s u v true := by
  intro k
  induction k with
  | zero =>
    intro d hd A x y u v hr rx ry ru rv
    cases hd with
    | non => cases rx; cases ry; cases ru; cases rv; exact SeqAt.EqAt.same _
    | bl _ b => cases rx; cases ry; cases ru; cases rv; exact SeqAt.EqAt.same _
    | int _ i => cases rx; cases ry; obtain ⟨t, rfl⟩ := ru; obtain ⟨t', rfl⟩ := rv; have := SeqAt.EqAt.int_int (A := A) (s := s) i t i t'; simpa using this
    | str _ x => cases rx; cases ry; obtain ⟨t, rfl⟩ := ru; obtain ⟨t', rfl⟩ := rv; have := SeqAt.EqAt.str_str (A := A) (s := s) x t x t'; simpa using this
  | succ k ih =>
    intro d hd A x y u v hr rx ry ru rv
    cases hd with
    | non => cases rx; cases ry; cases ru; cases rv; exact SeqAt.EqAt.same _
    | bl _ b => cases rx; cases ry; cases ru; cases rv; exact SeqAt.EqAt.same _
    | int _ i => cases rx; cases ry; obtain ⟨t, rfl⟩ := ru; obtain ⟨t', rfl⟩ := rv; have := SeqAt.EqAt.int_int (A := A) (s := s) i t i t'; simpa using this
    | str _ x => cases rx; cases ry; obtain ⟨t, rfl⟩ := ru; obtain ⟨t', rfl⟩ := rv; have := SeqAt.EqAt.str_str (A := A) (s := s) x t x t'; simpa using this
    | @tup _ ds t =>
      cases rx with
      | @tup a xs _ ha _ r1 =>
        cases ry with
        | @tup b ys _ hb _ r2 =>
          cases ru
          cases rv
          by_cases hab : a = b
          · subst hab; exact SeqAt.EqAt.same _
          · obtain ⟨its, q1, p1, _⟩ := I.tuple (SqT.of ha)
            obtain ⟨its2, q2, p2, _⟩ := I.tuple (SqT.of hb)
            have l1 := q1.length
            have l2 := q2.length
            have e1 := r1.length
            have e2 := r2.length
            have key := SeqAt.RcAt.tuples (e := fun _ => true) p1 p2 hr.units0 fun j h1 h2 => ih (t.get (i := j) (by rw [← e1, l1]; simpa using h1)) hr.in1 (r1.get (i := j) (by rw [← e1, l1]; simpa using h1)) (r2.get (i := j) (by rw [← e2, l2]; simpa using h2)) (vals_at q1 h1) (vals_at q2 h2)
            have e : ((List.range (min its.toArray.size its2.toArray.size)).all (fun _ => true) && its.toArray.size == its2.toArray.size) = true := by
              have : its.toArray.size = its2.toArray.size := by simp; omega
              rw [this]
              simp
            rw [e] at key
            exact SeqAt.EqAt.of_refs hab key
    | @lst _ ds t =>
      cases rx with
      | @lst a xs _ ha _ r1 =>
        cases ry with
        | @lst b ys _ hb _ r2 =>
          cases ru
          cases rv
          by_cases hab : a = b
          · subst hab; exact SeqAt.EqAt.same _
          · obtain ⟨its, q1, p1, _⟩ := I.list (SqL.of ha)
            obtain ⟨its2, q2, p2, _⟩ := I.list (SqL.of hb)
            have l1 := q1.length
            have l2 := q2.length
            have e1 := r1.length
            have e2 := r2.length
            have hsz : its.toArray.size = its2.toArray.size := by simp; omega
            have key := SeqAt.RcAt.lists (e := fun _ => true) p1.isList p2.isList hsz hr.units0 fun j h1 h2 => ih (t.get (i := j) (by rw [← e1, l1]; simpa using h1)) hr.in1 (r1.get (i := j) (by rw [← e1, l1]; simpa using h1)) (r2.get (i := j) (by rw [← e2, l2]; simpa using h2)) (vals_at q1 h1) (vals_at q2 h2)
            have e : (List.range its.toArray.size).all (fun _ => true) = true := by simp
            rw [e] at key
            exact SeqAt.EqAt.of_refs hab key
def rSame (b : Bool) : R2 := fun x y H Q => ∃ z z' ds, Rep z H x (.lst ds) ∧ Rep z' H y (.lst ds) ∧ Deps 4 ds ∧ Q (.bl b) H
theorem op_ne_same (hr : Room 5 X.A) : OpR X (compareOp .NotEq) (rSame false) := by
  intro pins s σ H x y v u Q I rx ry h
  obtain ⟨z, z', ds, r1, r2, dp, q⟩ := h
  cases r1 with
  | @lst a xs _ ha _ r1 =>
    cases r2 with
    | @lst b ys _ hb _ r2 =>
      cases rx
      cases ry
      obtain ⟨its, q1, p1, _⟩ := I.list (SqL.of ha)
      obtain ⟨its2, q2, p2, _⟩ := I.list (SqL.of hb)
      have l1 := q1.length
      have l2 := q2.length
      have e1 := r1.length
      have e2 := r2.length
      have hsz : its.toArray.size = its2.toArray.size := by simp; omega
      show wpAny _ _ (richCompare .NotEq _ _) _ _ _
      refine SeqAt.RcNeAt.lists (e := fun _ => true) p1.isList p2.isList hsz hr.units0 (fun j h1 h2 => eq_same I 4 (dp.get (i := j) (by rw [← e1, l1]; simpa using h1)) hr.in1 (r1.get (i := j) (by rw [← e1, l1]; simpa using h1)) (r2.get (i := j) (by rw [← e2, l2]; simpa using h2)) (vals_at q1 h1) (vals_at q2 h2)) _ _ _ _ ?_
      have e : (!(List.range its.toArray.size).all (fun _ => true)) = false := by simp
      rw [e]
      exact ⟨.bl _, H, I, rfl, q⟩
end
end T1
namespace L2
open PySem PySem.Spec PyProof.Rows
end L2
namespace L2
open PySem PySem.Spec PySem.Calls PyProof.Rows
section
variable {prog : Program} {w : World} {A : Around} {E : Value → Shared → Prop} {s : Shared}
theorem lam_turn {q a c' : Addr} {qual : Str} {params : Arguments} {scope : Scope} {pm ctv : Value} {kk : Nat} {p1 p2 p3 p4 p5 : Pos} {mg mb : Str → Option Value} {its : List Value} {x : Str} {t : Tok} {Q : Value → Shared → Prop}
    (ho : s.heap.get? q = some (PySem.W.kla_obj "<lambda>" qual params (.Call (.Name "len" p1) [.Subscript (.Name "fit" p2) (.Constant (.int 0) kk p3) p4] [] p5) scope [] pm c' ctv)) (hcd : s.heap.CodeRec (.ref c') qual)
    (hbind : bindArgs (PySem.W.kla_fn "<lambda>" qual params (.Call (.Name "len" p1) [.Subscript (.Name "fit" p2) (.Constant (.int 0) kk p3) p4] [] p5) scope [] pm (.ref c') ctv) ⟨[.ref a], []⟩ = pure [(("fit" : Str), Value.ref a)])
    (hco : scope.isCoroutine = false) (hgen : scope.isGenerator = false) (hk : scope.kind = .function) (hcell : ∀ y ∈ scope.names, y.2 ≠ .cell) (hfit : scope.names.lookup ("fit" : Str) = some .local) (hlen : scope.names.lookup ("len" : Str) = some .globalImplicit)
    (hg : s.heap.Ns mainGlobals mg) (hm : mg "len" = none) (hb : s.heap.Ns builtinsNs mb) (hbb : mb "len" = some (.builtin "len")) (hlim : s.heap.NoLimit) (hroom : A.depth < recursionLimit)
    (ht : IsTup s.heap a its.toArray) (h0 : its[0]? = some (.str x t)) (hz : its.length ≤ sizeLine) (hx : x.length ≤ sizeLine)
    (h : ∀ h' tk t', (∀ b o, s.heap.get? b = some o → h'.get? b = some o) → Q (.int x.length t') { s with heap := h', toks := tk }) : wpAny (model prog w) A (call (.ref q) [.ref a]) Q E s := by
  have line := line63
  refine wpAny_call (PySem.W.kla_callFunE hroom ho rfl hco hgen rfl hcd ?_)
  rw [hbind]
  refine wpAny_pure (wpAny_newFunctionEnv hcell (fun y hy => ?_) (fun h₁ hns hsb => ⟨hlim.fresh _ hsb, ?_⟩) hk)
  · have : y = (("fit" : Str), Value.ref a) := by simpa using hy
    rw [this]
    exact hfit
  have hk₁ : ∀ b o, s.heap.get? b = some o → h₁.get? b = some o := fun b o e => hsb.extBut b o (Nat.ne_of_lt (Heap.lt_size e)) (Heap.get?_push_of_some _ e)
  have hm1 : ([(("fit" : Str), Value.ref a)] : List (Str × Value)).reverse.lookup ("fit" : Str) = some (.ref a) := by simp [List.lookup]
  show codeAny _ _ (.expr _ (PySem.W.envX qual scope s.heap.objs.size q (.ref c') [])) _ _
  refine PySem.W.kla_codeExpr ?_
  refine wpAny_Call_Name_kw (Calls.Name_function_global hk (by show scope.names.lookup _ = _; exact hlen) (Calls.loadGlobal_builtin (hg.keeps hk₁) hm (hb.keeps hk₁) hbb ?_) (by decide))
  refine PyProof.Rows.callWith_builtin1 ?_ rfl rfl
  show wpAny _ _ (spliced ((false, eval _ _) :: backTo p5 (starEach [] _))) _ _ _
  refine Calls.spliced_cons (Subscript_ (wpAny_Name (wpAny_loadName_local hk (by show scope.names.lookup _ = _; exact hfit) hns hm1 ?_) (by decide)))
  refine wpAny_Constant_int ?_
  have ht1 : IsTup h₁ a its.toArray := by
    obtain ⟨ob, e, r⟩ := ht
    exact ⟨ob, hk₁ _ _ e, r⟩
  have hl0 : 0 < its.length := by
    cases its with
    | nil => cases h0
    | cons _ _ => simp
  have hseq : seqIndex? 0 its.toArray.size = some 0 := by
    have := PySem.StrLaws.seqIndex_nonneg (i := 0) (n := its.toArray.size) (by omega) (by simpa using hl0)
    simpa using this
  have fin : ∀ tk, wpAny (model prog w) (A.deeper (PySem.W.envX qual scope s.heap.objs.size q (.ref c') [])) (spliced (backTo p5 (starEach [] (PySem.W.envX qual scope s.heap.objs.size q (.ref c') [])))) (fun vs s₂ => wpAny (model prog w) (A.deeper (PySem.W.envX qual scope s.heap.objs.size q (.ref c') [])) (call (.builtin "len") (.str x t :: vs)) (fun v s' => (fun (r : Result) s' => match r with | .ok (.ret v) => Q v s' | .ok _ => False | .error e => E e s') (.ok (.ret v)) s') (fun e' s' => wpAny (model prog w) (A.deeper (PySem.W.envX qual scope s.heap.objs.size q (.ref c') [])) (leaving (PySem.W.envX qual scope s.heap.objs.size q (.ref c') []) e') (fun _ s'' => (fun (r : Result) s' => match r with | .ok (.ret v) => Q v s' | .ok _ => False | .error e => E e s') (.error e') s'') (fun e'' s'' => (fun (r : Result) s' => match r with | .ok (.ret v) => Q v s' | .ok _ => False | .error e => E e s') (.error e'') s'') s') s₂)
      (fun e' s' => wpAny (model prog w) (A.deeper (PySem.W.envX qual scope s.heap.objs.size q (.ref c') [])) (leaving (PySem.W.envX qual scope s.heap.objs.size q (.ref c') []) e') (fun _ s'' => (fun (r : Result) s' => match r with | .ok (.ret v) => Q v s' | .ok _ => False | .error e => E e s') (.error e') s'') (fun e'' s'' => (fun (r : Result) s' => match r with | .ok (.ret v) => Q v s' | .ok _ => False | .error e => E e s') (.error e'') s'') s') { s with heap := h₁, toks := tk } := fun tk => by
    refine Calls.spliced_nil (len_str (by omega) ?_)
    exact h h₁ _ _ hk₁
  exact subscriptTail_builtinR (x := .str x t) ht1.typeIs slot_tuple_getitem.lookup (getItem_tuple (j := 0) (Q := fun r s' => r = .str x t ∧ _) ht1 (by omega) (by omega) hseq (by simpa using h0) ⟨rfl, fin _⟩) rfl
end
end L2
namespace L2
open PySem PySem.Spec PySem.Calls PyProof.Rows
def ButX (q : Addr) (H H' : Hp) : Prop := ∀ b o, b ≠ q → H b = some o → H' b = some o
def cdO (c : Addr) (q : Str) : HO := .ext fun h => h.CodeRec (.ref c) q
def LamT (P : Addr) (ln cl : Nat) (q : Str) (H : Hp) : Prop :=
  H P = some (.tbl #[]) ∨ ∃ c', H P = some (.tbl #[rawInt ln, rawInt cl, .ref c']) ∧ H c' = some (cdO c' q)
theorem LamT.tbl {P : Addr} {ln cl : Nat} {q : Str} {H : Hp} (h : LamT P ln cl q H) : ∃ ps, H P = some (.tbl ps) := by
  rcases h with h | ⟨c', h, _⟩
  · exact ⟨_, h⟩
  · exact ⟨_, h⟩
theorem codeRec_ok {P : Program} {w : World} {H : Hp} {h : Heap} {c : Addr} {q : Str} (hr : h.CodeRec (.ref c) q) : ObjOk P w H h c (cdO c q) := by
  refine ⟨hr, ?_, fun h1 h2 e k => ?_⟩
  · obtain ⟨c2, oc, vs, t, e, ho, _⟩ := hr
    cases e
    exact ⟨oc, ho⟩
  · obtain ⟨c2, oc, vs, t, e, ho, r⟩ := e
    cases e
    exact ⟨c, oc, vs, t, rfl, k _ ho, r⟩
section
variable {X : Cx} {pins : List (Addr × Obj)} {σ : St} {H : Hp} {s : Shared} {E : Value → Shared → Prop}
theorem lam_make {P c : Addr} {pos : Pos} {nm q : Str} {params : Arguments} {body : Expr} {scope : Scope} {fl : Nat} {Qk : Value → Shared → Prop} (I : Inv X pins σ H s) (hT : LamT P pos.line pos.col q H) (hcl : closureFor scope X.env = pure []) (hcode : X.env.code = .ref c) (hK : PySem.W.codeHdIn X.K c P = true) (hBA : X.base.BuiltinsAt X.mg P)
    (h : ∀ f c' ctv s' H1, Inv X pins σ H1 s' → ButX P H H1 → LamT P pos.line pos.col q H1 → s'.heap.get? f = some (PySem.W.kla_obj nm q params body scope [] ((X.mg "__name__").getD .none) c' ctv) → s'.heap.CodeRec (.ref c') q → f ≠ X.env.locals → c' ≠ X.env.locals → Qk (.ref f) s') :
    wpAny (model X.prog X.w) X.A (makeFunction nm q params (.expr body) scope X.env [] [] [] pos fl) Qk E s := by
  have C := PySem.W.codeHd_of_K I.kIn hK
  have hg := I.mod.glob.keeps I.bk
  have hb := hBA.keeps I.bk
  have hL := I.lt
  obtain ⟨m0, hn0, _⟩ := id I.loc
  rcases hT with hT | ⟨c', hT, hc'⟩
  · have hP : s.heap.get? P = some (PySem.W.tabObj #[]) := I.hok P _ hT
    have hPlt : P < s.heap.objs.size := Heap.lt_size hP
    have hgP : mainGlobals ≠ P := fun z => by
      obtain ⟨o, es, ep, e, hd, _⟩ := hg
      rw [z, hP] at e; cases e; cases hd
    have hLP : X.env.locals ≠ P := fun z => by rw [← z, I.free] at hT; cases hT
    refine PySem.W.kla_makeFunction (mg := X.mg) hcl I.ok.glob hg hcode C hP trivial rfl hgP hb fun c' ctv h' tk hx hge hlt hrec htb => ?_
    have lt1 : ∀ b u, H b = some u → b < s.heap.objs.size := fun b u e => (I.hok b u e).lt
    have nc : ∀ b u, H b = some u → b ≠ c' := fun b u e => Nat.ne_of_lt (Nat.lt_of_lt_of_le (lt1 b u e) hge)
    have hcP : c' ≠ P := (Nat.ne_of_lt (Nat.lt_of_lt_of_le hPlt hge)).symm
    have k : ∀ b o, b ≠ P → s.heap.get? b = some o → (h'.push (PySem.W.kla_obj nm q params body scope [] ((X.mg "__name__").getD .none) c' ctv)).get? b = some o := fun b o hb e => Heap.get?_push_of_some _ (hx b o hb e)
    have htb' : (h'.push (PySem.W.kla_obj nm q params body scope [] ((X.mg "__name__").getD .none) c' ctv)).get? P = some (PySem.W.tabObj #[rawInt pos.line, rawInt pos.col, .ref c']) := Heap.get?_push_of_some _ (by simpa using htb)
    have hrec' : (h'.push (PySem.W.kla_obj nm q params body scope [] ((X.mg "__name__").getD .none) c' ctv)).CodeRec (.ref c') q := by
      obtain ⟨c2, oc, vs, t, e, ho, r⟩ := hrec
      cases e
      exact ⟨c', oc, vs, t, rfl, Heap.get?_push_of_some _ ho, r⟩
    have same : ∀ b u, b ≠ P → H b = some u → upd (upd H c' (cdO c' q)) P (.tbl #[rawInt pos.line, rawInt pos.col, .ref c']) b = some u := fun b u hb e => by
      rw [upd_ne hb, upd_ne (nc b u e)]
      exact e
    refine h h'.objs.size c' ctv _ (upd (upd H c' (cdO c' q)) P (.tbl #[rawInt pos.line, rawInt pos.col, .ref c'])) (I.step (g' := s.gens) (d' := s.drawn) (ch := []) (fun _ z => nomatch z) (fun b o _ _ _ e n => ?_) (fun b o _ _ _ e n => ⟨o.slots, ?_⟩) (fun b o _ e n => ?_) (fun b o _ e => ?_) (fun b xs e => ?_) (fun b o u e => ?_) (fun b ps e => ?_) (fun m' hm => ?_) (fun b u e => ?_) I.bare) (fun b u hb e => same b u hb e) (.inr ⟨c', upd_same, by rw [upd_ne hcP, upd_same]⟩) (Heap.get?_push_size _ rfl) hrec' ?_ ?_
    · exact k b o (ne_of_none hT n).symm e
    · exact k b o (ne_of_none hT n).symm e
    · rw [upd_ne (ne_of_none hT n).symm, upd_ne (Nat.ne_of_lt (Nat.lt_of_lt_of_le (Heap.lt_size e) hge))]
      exact n
    · by_cases hb : b = P
      · exact ⟨_, by rw [hb]; exact htb'⟩
      · exact ⟨o, k b o hb e⟩
    · exact same b _ (ne_of e hT (by intro z; cases z)) e
    · exact same b _ (ne_of e hT (by intro z; cases z)) e
    · by_cases hb : b = P
      · subst hb
        rw [hT] at e
        cases e
        exact ⟨#[rawInt pos.line, rawInt pos.col, .ref c'], by rw [upd_same]; simp⟩
      · exact ⟨#[], by rw [same b _ hb e]; simp⟩
    · exact (hm.extBut hx hLP).push _
    · by_cases hb : b = P
      · subst hb
        rw [upd_same] at e
        cases e
        exact htb'
      · rw [upd_ne hb] at e
        by_cases hc : b = c'
        · subst hc
          rw [upd_same] at e
          cases e
          exact codeRec_ok hrec'
        · rw [upd_ne hc] at e
          refine (I.hok b u e).stay (fun d v hd z => k d v ?_ z) (fun d z => same d _ (ne_of z hT (by intro y; cases y)) z) fun d _ z => same d _ (ne_of z hT (by intro y; cases y)) z
          rcases hd with hd | hd
          · rw [hd]; exact hb
          · exact ne_of hd hT (by intro y; cases y)
    · exact (Nat.ne_of_lt (Nat.lt_of_lt_of_le hL (Nat.le_trans hge (Nat.le_of_lt hlt)))).symm
    · exact (Nat.ne_of_lt (Nat.lt_of_lt_of_le hL hge)).symm
  · have hP : s.heap.get? P = some (PySem.W.tabObj #[rawInt pos.line, rawInt pos.col, .ref c']) := I.hok P _ hT
    have hrec : s.heap.CodeRec (.ref c') q := (I.hok c' _ hc').1
    refine PySem.W.kla_makeFunctionHit (mg := X.mg) hcl I.ok.glob hg hcode C hP (by simp [TriplesOk, rawInt]) (cv := .ref c') (by simp [codeAmong, rawInt]) hb fun ctv h' tk hk hsz => ?_
    have k : ∀ b o, s.heap.get? b = some o → (h'.push (PySem.W.kla_obj nm q params body scope [] ((X.mg "__name__").getD .none) c' ctv)).get? b = some o := fun b o e => Heap.get?_push_of_some _ (hk b o e)
    refine h h'.objs.size c' ctv _ H (I.kept k) (fun _ _ _ e => e) (.inr ⟨c', hT, hc'⟩) (Heap.get?_push_size _ rfl) ?_ (Nat.ne_of_lt (Nat.lt_of_lt_of_le hL hsz)).symm (fun z => by rw [z, I.free] at hc'; cases hc')
    obtain ⟨c2, oc, vs, t, e, ho, r⟩ := hrec
    cases e
    exact ⟨c', oc, vs, t, rfl, k _ _ ho, r⟩
end
end L2
namespace L2
open PySem PySem.Spec PySem.Calls PyProof.Rows
def rMaxLam (P : Addr) (ln cl : Nat) (q : Str) : List V → Hp → VK → Prop := fun vs H Q => ∃ (l : Addr) (xs : List V) (ms : Nat → Str), vs = [.ref l] ∧ H l = some (.lst xs) ∧ 0 < xs.length ∧ (∀ i, i < xs.length → ∃ a ys, xs[i]? = some (.ref a) ∧ H a = some (.tup (.str (ms i) :: ys)) ∧ (ms i).length ≤ 1000) ∧ LamT P ln cl q H ∧
  ∀ H1 i v, ButX P H H1 → LamT P ln cl q H1 → xs[i]? = some v → (∀ j, j < xs.length → (ms j).length ≤ (ms i).length ∧ (j < i → (ms j).length < (ms i).length)) → Q v H1
section
variable {X : Cx} {pins : List (Addr × Obj)} {σ : St} {H : Hp} {s : Shared} {E : Value → Shared → Prop}
theorem run_max_lam {q c' : Addr} {qual : Str} {params : Arguments} {scope : Scope} {pm ctv : Value} {kk : Nat} {p1 p2 p3 p4 p5 : Pos} {l : Addr} {xs : List V} {ms : Nat → Str} {Q : VK}
    (I : Inv X pins σ H s) (hcalm : X.calm = true) (hr : X.A.in1.depth < recursionLimit) (hm : X.mg "len" = none)
    (ho : s.heap.get? q = some (PySem.W.kla_obj "<lambda>" qual params (.Call (.Name "len" p1) [.Subscript (.Name "fit" p2) (.Constant (.int 0) kk p3) p4] [] p5) scope [] pm c' ctv)) (hcd : s.heap.CodeRec (.ref c') qual) (hq : q ≠ X.env.locals) (hc : c' ≠ X.env.locals)
    (hbind : ∀ a, bindArgs (PySem.W.kla_fn "<lambda>" qual params (.Call (.Name "len" p1) [.Subscript (.Name "fit" p2) (.Constant (.int 0) kk p3) p4] [] p5) scope [] pm (.ref c') ctv) ⟨[.ref a], []⟩ = pure [(("fit" : Str), Value.ref a)])
    (hco : scope.isCoroutine = false) (hgen : scope.isGenerator = false) (hk : scope.kind = .function) (hcell : ∀ y ∈ scope.names, y.2 ≠ .cell) (hfit : scope.names.lookup ("fit" : Str) = some .local) (hlen : scope.names.lookup ("len" : Str) = some .globalImplicit)
    (hl : H l = some (.lst xs)) (hpos : 0 < xs.length) (hxs : ∀ i, i < xs.length → ∃ a ys, xs[i]? = some (.ref a) ∧ H a = some (.tup (.str (ms i) :: ys)) ∧ (ms i).length ≤ 1000)
    (h : ∀ i v, xs[i]? = some v → (∀ j, j < xs.length → (ms j).length ≤ (ms i).length ∧ (j < i → (ms j).length < (ms i).length)) → Q v H) :
    wpAny (model X.prog X.w) X.A (call (.builtin "max") [.ref l] [(Str.ofString "key", .ref q)]) (EP X pins σ Q) E s := by
  obtain ⟨zl, its, nn, rv, hlo⟩ := I.hok l _ hl
  obtain ⟨m, hn, _⟩ := id I.loc
  have hlen2 : xs.length = its.length := rv.length
  have hLl : l ≠ X.env.locals := fun z => by rw [z, I.free] at hl; cases hl
  have line : (1000 : Nat) ≤ sizeLine := by rw [sizeLine_eq]; decide
  have kb : ∀ b o, X.base.get? b = some o → b ≠ X.env.locals := fun b o e => Nat.ne_of_lt (Nat.lt_of_lt_of_le (Heap.lt_size e) (Nat.le_trans I.ok.bsz I.ok.above))
  obtain ⟨mb, hb1, hb2⟩ := I.mod.blt
  refine kmk_max (vs := its) (fun i => ((ms i).length : Int)) (I.ok.hd hcalm) (Att.fr_all hn) (news_lib X.env.locals) (fun h1 F N => ?_) (by omega) (fun i v hv h1 tk own F N => ?_) (fun i v h' tk' hv hb F N => ?_)
  · exact ⟨_, kept_lib N _ _ hLl hlo, rfl, nn, rfl⟩
  · have hi : i < its.length := (List.getElem?_eq_some_iff.mp hv).1
    obtain ⟨a, ys, e1, e2, e3⟩ := hxs i (by omega)
    have rel : RelV (.ref a) v := by
      have := rv.get e1
      obtain ⟨u, hu, r⟩ := this
      rw [hv] at hu
      cases hu
      exact r
    cases rel
    obtain ⟨za, tits, rt, ht⟩ := I.hok a _ e2
    have haL : a ≠ X.env.locals := fun z => by rw [z, I.free] at e2; cases e2
    have N0 : News (Att.noObjs s.heap) X.env.locals h1 (Att.ledger s.heap X.env.locals X.env.locals) := fun p hp => N p (List.mem_append_left _ hp)
    have k := kept_lib N0
    have kB : ∀ b o, X.base.get? b = some o → h1.get? b = some o := fun b o e => k b o (kb b o e) (I.bk b o e)
    cases rt with
    | cons r0 rt =>
      rename_i u us
      obtain ⟨t0, e0⟩ := r0
      subst e0
      refine lam_turn (s := { s with heap := h1, toks := tk }) (x := ms i) (k q _ hq ho) ?_ (hbind a) hco hgen hk hcell hfit hlen (I.mod.glob.keeps kB) hm (hb1.keeps kB) ((hb2 "len" (by decide)).trans rfl) (I.mod.nolimit.keeps kB) hr (its := .str (ms i) t0 :: us) ?_ rfl ?_ (by omega) (fun h2 tk2 t2 k2 => ?_)
      · obtain ⟨c2, oc, vs, t, e, ho2, r⟩ := hcd
        cases e
        exact ⟨c', oc, vs, t, rfl, k _ _ hc ho2, r⟩
      · obtain ⟨ob, eo, r⟩ := ht
        exact ⟨ob, k _ _ haL eo, r⟩
      · have := rt.length
        simp at za ⊢
        omega
      · refine KskEnd.intro ⟨F.ns.keeps k2, fun b o e => k2 b o (F.keep b o e), F.above⟩ (fun p hp => ⟨k2 _ _ (N p hp).1, (N p hp).2⟩) fun p hp => hp
  · have hi : i < its.length := (List.getElem?_eq_some_iff.mp hv).1
    obtain ⟨a, ys, e1, e2, e3⟩ := hxs i (by omega)
    have rel : RelV (.ref a) v := by
      obtain ⟨u, hu, r⟩ := rv.get e1
      rw [hv] at hu
      cases hu
      exact r
    refine ⟨.ref a, H, I.lib hn F N, rel, h i _ e1 fun j hj => ?_⟩
    have := hb j (by omega)
    exact ⟨by omega, fun q => by have := this.2 q; omega⟩
theorem pe_max_lam {e : Expr} {te : TE} {P c : Addr} {params : Arguments} {scope : Scope} {kk : Nat} {p p1 p2 p3 p4 p5 lp kp pos : Pos} (hcalm : X.calm = true) (hr : X.A.in1.depth < recursionLimit) (hm : X.mg "max" = none) (hm2 : X.mg "len" = none) (hcode : X.env.code = .ref c) (hK : PySem.W.codeHdIn X.K c P = true) (hBA : X.base.BuiltinsAt X.mg P) (he : PE X e te)
    (hbind : ∀ a c' pm ctv, bindArgs (PySem.W.kla_fn "<lambda>" (X.env.qual ++ "<lambda>") params (.Call (.Name "len" p1) [.Subscript (.Name "fit" p2) (.Constant (.int 0) kk p3) p4] [] p5) scope [] pm (.ref c') ctv) ⟨[.ref a], []⟩ = pure [(("fit" : Str), Value.ref a)])
    (hg : Gl X "max" := by rfl) (hdef : defaultsOf params X.env = ([], []) := by rfl) (hcl : closureFor scope X.env = pure [] := by rfl)
    (hco : scope.isCoroutine = false := by rfl) (hgen : scope.isGenerator = false := by rfl) (hk : scope.kind = .function := by rfl) (hcell : ∀ y ∈ scope.names, y.2 ≠ .cell := by decide) (hfit : scope.names.lookup ("fit" : Str) = some .local := by rfl) (hlen : scope.names.lookup ("len" : Str) = some .globalImplicit := by rfl)
    (h1 : starEach [e] X.env = (false, eval e X.env) :: starEach [] X.env := by rfl) (h2 : backTo pos (starEach [e] X.env) = (false, eval e X.env) :: backTo pos (starEach [] X.env) := by rfl) (h3 : (backTo pos (starEach [e] X.env)).any (·.1) = false := by rfl) :
    PE X (.Call (.Name "max" p) [e] [⟨some "key", .Lambda params (.Call (.Name "len" p1) [.Subscript (.Name "fit" p2) (.Constant (.int 0) kk p3) p4] [] p5) scope lp, kp⟩] pos) (tCB (rMaxLam P lp.line lp.col (X.env.qual ++ "<lambda>")) (tCons te tNil)) := by
  intro pins s σ H Q I h
  refine wpAny_Call_Name_kw (ld_blt I hg hm (u := .builtin "max") rfl ?_ (by decide) (by decide))
  refine callWith_kw (thn ((pa_cons he pa_nil h1) pos pins s σ H _ I h) fun us s1 ⟨vs, H1, I1, r, q⟩ => ?_) h2 h3
  obtain ⟨l, xs, ms, rfl, hl, hpos, hxs, hT, q⟩ := q
  obtain ⟨u, rfl, ru⟩ := vals1 r
  cases ru
  refine kws_cons (PySem.W.kla_eval hdef (lam_make I1 hT hcl hcode hK hBA fun f c' ctv s2 H2 I2 b2 T2 ho hcd hf hc => kws_nil ?_))
  obtain ⟨ps, hPt⟩ := hT.tbl
  refine run_max_lam I2 hcalm hr hm2 ho hcd hf hc (fun a => hbind a c' _ ctv) hco hgen hk hcell hfit hlen (b2 _ _ (ne_of hl hPt (by intro z; cases z)) hl) hpos (fun i hi => ?_) (fun i v hv hb => q H2 i v b2 T2 hv hb)
  obtain ⟨a, ys, e1, e2, e3⟩ := hxs i hi
  exact ⟨a, ys, e1, b2 _ _ (ne_of e2 hPt (by intro z; cases z)) e2, e3⟩
end
end L2
namespace L2
open PySem PySem.Spec PyProof.Rows
theorem Inv.turnedL {X : Cx} {pins : List (Addr × Obj)} {σ : St} {H : Hp} {s : Shared} {h' : Heap} {t' : Nat} {ch : List Addr} (I : Inv X pins σ H s) (k : ∀ b o, b ∉ ch → s.heap.get? b = some o → h'.get? b = some o) (hf : ∀ b ∈ ch, FpOk X pins H b) :
    Inv X pins σ H { s with heap := h', toks := t' } := by
  have nit : ∀ b u, H b = some u → b ∉ ch := fun b u e z => by rw [(hf b z).1] at e; cases e
  refine I.step (g' := s.gens) (d' := s.drawn) (ch := ch) (fun b hb => ?_) (fun b o _ _ hc e _ => k b o hc e) (fun b o _ _ hc e _ => ⟨o.slots, k b o hc e⟩) (fun _ _ _ _ n => n)
    (fun b o hc e => ⟨o, k b o hc e⟩) (fun _ _ e => e) (fun _ _ _ e => e) (fun b ps e => ⟨#[], by rw [e]; simp⟩) (fun m hm => ?_) (fun b u e => ?_) I.bare
  · obtain ⟨_, hL, _, h1, h2, h3⟩ := hf b hb
    exact ⟨h1, hL, h2, h3⟩
  · obtain ⟨o, es, ep, ho, r⟩ := hm
    exact ⟨o, es, ep, k _ o (fun z => (hf _ z).2.1 rfl) ho, r⟩
  · refine (I.hok b u e).stay (fun c v hc q => k c v ?_ q) (fun _ q => q) fun _ _ q => q
    rcases hc with z | z
    · rw [z]; exact nit b u e
    · exact nit c _ z
def Itz (K : PySem.W.Frag) (a b : Addr) : It :=
  ⟨fun i H => (∃ xs x, SqL K H a xs ∧ xs[i]? = some x) ∧ ∃ ys y, SqL K H b ys ∧ ys[i]? = some y,
   fun i H v H' => ∃ p x y, v = .ref p ∧ H p = none ∧ H' = upd H p (.tup [x, y]) ∧ (∀ xs, SqL K H a xs → xs[i]? = some x) ∧ ∀ ys, SqL K H b ys → ys[i]? = some y,
   fun i H => (∃ xs, SqL K H a xs) ∧ (∃ ys, SqL K H b ys) ∧ ((∃ xs, SqL K H a xs ∧ xs.length ≤ i) ∨ ∃ ys, SqL K H b ys ∧ ys.length ≤ i)⟩
def TnZ (z TI TO i1 i2 l1 l2 : Addr) (i : Nat) (h : Heap) : Prop := IsZip h z TI TO .none ∧ IsPair h TI (.ref i1) (.ref i2) ∧ (∃ a b, IsPair h TO a b) ∧ h.IsListIter i1 l1 i ∧ h.IsListIter i2 l2 i
theorem turn_zip {P : Program} {w : World} {K : PySem.W.Frag} {elts : List Expr} {k : Nat} {pos : Pos} {z TI TO i1 i2 l1 l2 : Addr} (D : ZipApart z TI TO i1 i2 l1 l2) : Turn P w K (.Tuple elts k pos) (Itz K l1 l2) [z, TI, TO, i1, i2] z (TnZ z TI TO i1 i2 l1 l2) where
  mem := by simp
  obj := fun i h st b hb => by
    obtain ⟨hz, hTI, ⟨a, b', hTO⟩, ⟨o1, e1, c1, d1⟩, ⟨o2, e2, c2, d2⟩⟩ := st
    simp only [List.mem_cons, List.not_mem_nil, or_false] at hb
    rcases hb with rfl | rfl | rfl | rfl | rfl
    · exact ⟨_, hz, fun v q => by cases q⟩
    · exact ⟨_, hTI, fun v q => by cases q⟩
    · exact ⟨_, hTO, fun v q => by cases q⟩
    · exact ⟨_, e1, fun v q => by rw [d1] at q; cases q⟩
    · exact ⟨_, e2, fun v q => by rw [d2] at q; cases q⟩
  keep := fun i h h' st k => by
    obtain ⟨hz, hTI, ⟨a, b', hTO⟩, h1, h2⟩ := st
    exact ⟨k z (by simp) _ hz, k TI (by simp) _ hTI, ⟨a, b', k TO (by simp) _ hTO⟩, h1.at fun o e => k i1 (by simp) o e, h2.at fun o e => k i2 (by simp) o e⟩
  item := by
    intro X hP hw hK hc i pins s σ H E I hf st hg
    subst hP hw hK
    obtain ⟨⟨xs, x, hq1, hx⟩, ys, y, hq2, hy⟩ := hg
    obtain ⟨hz, hTI, ⟨a, b', hTO⟩, h1, h2⟩ := st
    obtain ⟨its1, rv1, p1, hz1⟩ := I.list hq1
    obtain ⟨its2, rv2, p2, hz2⟩ := I.list hq2
    obtain ⟨u1, hu1, ru1⟩ := rv1.get hx
    obtain ⟨u2, hu2, ru2⟩ := rv2.get hy
    refine wpAny_pyNext_zip_item D hz hTI hTO h1 h2 p1.isList p2.isList (x := u1) (y := u2) (by simpa using hu1) (by simpa using hu2) fun h' a1 a2 a3 a4 a5 a6 hk => ?_
    refine ⟨_, rfl, wpAny_letOwnedTupleGo_zip a1 fun h2' hz' hs' => ?_⟩
    have nT : H s.heap.objs.size = none := I.hok.fresh (Nat.le_refl _)
    have I0 : Inv X pins σ (upd H s.heap.objs.size (.tup [x, y])) { s with heap := s.heap.push { cls := .type "tuple", data := .seq #[u1, u2] }, toks := s.toks } :=
      I.laid (fun b o e => Heap.get?_push_of_some _ e) (Nat.le_refl _) ⟨by simp only [List.length_cons, List.length_nil]; rw [sizeLine_eq]; decide, [u1, u2], .cons ru1 (.cons ru2 .nil), ⟨_, Heap.get?_push_size _ rfl, rfl, _, rfl⟩⟩
    have lt : ∀ {c o}, s.heap.get? c = some o → c ≠ s.heap.objs.size := fun e => Nat.ne_of_lt (Heap.lt_size e)
    have hne : ∀ b ∈ [z, TI, TO, i1, i2], b ≠ s.heap.objs.size := fun b hb => by
      simp only [List.mem_cons, List.not_mem_nil, or_false] at hb
      rcases hb with rfl | rfl | rfl | rfl | rfl
      · exact lt hz
      · exact lt hTI
      · exact lt hTO
      · obtain ⟨_, e, _⟩ := h1; exact lt e
      · obtain ⟨_, e, _⟩ := h2; exact lt e
    have hf' : ∀ b ∈ [z, TI, TO, i1, i2], FpOk X pins (upd H s.heap.objs.size (.tup [x, y])) b := fun b hb => by
      obtain ⟨g1, g2⟩ := hf b hb
      exact ⟨by rw [upd_ne (hne b hb)]; exact g1, g2⟩
    have hT2 : h2'.get? s.heap.objs.size = some { cls := .type "tuple", data := .seq #[u1, u2] } := hs'.extBut _ _ (hne z (by simp)).symm a5
    have I1 :=
      Inv.turnedL (h' := h2') (t' := s.toks) (ch := [z, TI, TO, i1, i2]) I0 (fun b o hb e => by
        by_cases hbs : b = s.heap.objs.size
        · subst hbs
          have e' : (s.heap.push { cls := .type "tuple", data := .seq #[u1, u2] }).get? s.heap.objs.size = some o := e
          rw [Heap.get?_push_size _ rfl] at e'
          cases e'
          exact hT2
        · have e0 : s.heap.get? b = some o := by
            have e' : (s.heap.push { cls := .type "tuple", data := .seq #[u1, u2] }).get? b = some o := e
            rwa [Heap.get?_push_ne _ _ _ hbs] at e'
          simp only [List.mem_cons, List.not_mem_nil, or_false, not_or] at hb
          exact hs'.extBut _ _ hb.1 (hk b o hb.1 hb.2.2.1 hb.2.2.2.1 hb.2.2.2.2 e0)) hf'
    have hTI' := hs'.extBut _ _ D.TIz (hk _ _ D.TIz D.TITO D.TIi1 D.TIi2 hTI)
    exact ⟨.ref s.heap.objs.size, _, I1, rfl, ⟨_, x, y, rfl, nT, rfl, fun zs hq => by rw [I.list_inj hq hq1]; exact hx, fun zs hq => by rw [I.list_inj hq hq2]; exact hy⟩,
      ⟨hz', hTI', ⟨_, _, hs'.extBut _ _ D.TOz a2⟩, a3.extBut hs'.extBut D.i1z, a4.extBut hs'.extBut D.i2z⟩, fun b hb => (hf' b hb).1⟩
  done := by
    intro X hP hw hK hc i pins s σ H E I hf st hg
    subst hP hw hK
    obtain ⟨hz, hTI, ⟨a, b', hTO⟩, h1, h2⟩ := st
    obtain ⟨⟨xs, hq1⟩, ⟨ys, hq2⟩, hend⟩ := hg
    obtain ⟨its1, rv1, p1, hz1⟩ := I.list hq1
    obtain ⟨its2, rv2, p2, hz2⟩ := I.list hq2
    have hl1 := rv1.length
    have hl2 := rv2.length
    have hend' : its1.toArray[i]? = none ∨ its2.toArray[i]? = none := by
      rcases hend with ⟨zs, hq, h⟩ | ⟨zs, hq, h⟩
      · rw [I.list_inj hq hq1] at h
        exact .inl (by simp; omega)
      · rw [I.list_inj hq hq2] at h
        exact .inr (by simp; omega)
    exact wpAny_pyNext_zip_end (I.ok.hd hc) D hz hTI hTO h1 h2 p1.isList p2.isList hend' fun h' hk => ⟨rfl, I.turnedL (t' := s.toks) (ch := [z, TI, TO, i1, i2]) (fun b o hb e => by
      simp only [List.mem_cons, List.not_mem_nil, or_false, not_or] at hb
      exact hk b o hb.1 hb.2.2.1 hb.2.2.2.1 hb.2.2.2.2 e) hf⟩
  self := fun _ _ _ _ _ st h => wpAny_pyIter_zip st.1 h
def iZip (K : PySem.W.Frag) (ta : TA) : TI := fun σ H R => ta σ H fun vs H1 => ∃ l1 l2, vs = [.ref l1, .ref l2] ∧ (∃ xs, SqL K H1 l1 xs) ∧ (∃ ys, SqL K H1 l2 ys) ∧ R (Itz K l1 l2) H1
theorem pi_zip {X : Cx} {elts : List Expr} {k : Nat} {tp : Pos} {a b : Expr} {ta : TA} {p pos : Pos} (hg : Gl X "zip") (hm : X.mg "zip" = none) (ha : PA X [a, b] ta) (hs : starEach [a, b] X.env = [(false, eval a X.env), (false, eval b X.env)] := by rfl) (hs2 : starEach [b] X.env = [(false, eval b X.env)] := by rfl) :
    PI X (.Tuple elts k tp) (.Call (.Name "zip" p) [a, b] [] pos) (iZip X.K ta) := by
  intro pins s σ H R I h
  refine Call_ (ld_blt I hg hm boot_zip (PyProof.Rows.callWith_type1 (thn (ha pos pins s σ H _ I h) fun us s1 ⟨vs, H1, I1, r1, q1⟩ => ?_) (by rw [hs, hs2]) (by rw [hs2]; rfl)))
  obtain ⟨l1, l2, e, ⟨xs, hq1⟩, ⟨ys, hq2⟩, q⟩ := q1
  subst e
  cases r1 with
  | cons r rr =>
    cases rr with
    | cons r' rr =>
      cases rr
      cases r
      cases r'
      obtain ⟨its1, rv1, p1, hz1⟩ := I1.list hq1
      obtain ⟨its2, rv2, p2, hz2⟩ := I1.list hq2
      have lt1 : l1 < s1.heap.objs.size := by obtain ⟨_, e, _⟩ := p1.isList; exact Heap.lt_size e
      have lt2 : l2 < s1.heap.objs.size := by obtain ⟨_, e, _⟩ := p2.isList; exact Heap.lt_size e
      refine call_zip_2 p1.isList p2.isList fun h' hz hTI hTO hi1 hi2 hsz hk => ?_
      have I2 : Inv X pins σ H1 { s1 with heap := h' } := I1.kept (t' := s1.toks) hk
      refine wpAny_pyIter_zip hz ⟨_, _, _, _, H1, rfl, I2, turn_zip (zipApart_new lt1 lt2), ⟨hz, hTI, ⟨_, _, hTO⟩, hi1, hi2⟩, fun b hb => ?_, q⟩
      have hb' : s1.heap.objs.size ≤ b := by
        simp only [List.mem_cons, List.not_mem_nil, or_false] at hb
        rcases hb with e | e | e | e | e <;> rw [e] <;> first | exact Nat.le_refl _ | exact Nat.le_add_right _ _
      have hn := I1.hok.fresh (a := b) hb'
      exact ⟨hn, (I1.fpOk hb' hn).2⟩
theorem loop_zip {K : PySem.W.Frag} {g : TG} {tt : TT} {tr : TR} {Qe : St → Hp → Prop} {σ0 : St} {H0 : Hp} {a b : Addr} {xs ys : List V} (W : Nat → St → Hp → Prop) (h0 : W 0 σ0 H0) (he : xs.length = ys.length)
    (hW : ∀ i σ H, W i σ H → SqL K H a xs ∧ SqL K H b ys) (hE : ∀ σ H, W xs.length σ H → Qe σ H)
    (turn : ∀ i σ H p x y, W i σ H → xs[i]? = some x → ys[i]? = some y → H p = none → g (.ref p) σ (upd H p (.tup [x, y])) fun σ2 H2 => tt σ2 H2 fun b H3 => if b = true then tr σ2 H3 (W (i + 1)) else W (i + 1) σ2 H3) : tLoop (Itz K a b) g tt tr Qe σ0 H0 := by
  refine ⟨fun i m σ H => m = xs.length - i ∧ i ≤ xs.length ∧ W i σ H, ⟨_, rfl, Nat.zero_le _, h0⟩, ?_⟩
  rintro i m σ H ⟨rfl, hi, hw⟩
  obtain ⟨q1, q2⟩ := hW i σ H hw
  by_cases hlt : i < xs.length
  · refine .inr ⟨⟨⟨xs, xs[i], q1, by simp [hlt]⟩, ys, ys[i]'(by omega), q2, by simp⟩, W (i + 1), fun σ' H' q => ⟨xs.length - (i + 1), by omega, rfl, by omega, q⟩, ?_⟩
    rintro x H' ⟨p, x1, y1, rfl, np, rfl, e1, e2⟩
    exact turn i σ H p x1 y1 hw (e1 _ q1) (e2 _ q2) np
  · have e : i = xs.length := by omega
    subst e
    exact .inl ⟨⟨⟨_, q1⟩, ⟨_, q2⟩, .inl ⟨_, q1, Nat.le_refl _⟩⟩, hE σ H hw⟩
end L2
namespace L2
open PySem PySem.Spec PyProof.Rows
section
variable {prog : Program} {w : World} {A : Around} {E : Value → Shared → Prop} {s : Shared}
end
end L2
namespace T1
open PySem PySem.Spec PyProof.Rows L2
end T1
namespace L2
open PySem PySem.Spec PyProof.Rows
theorem pe_sorted_lenR {X : Cx} {e : Expr} {te : TE} {kk : Nat} {p p2 p3 kp kp2 pos : Pos} (hm : X.mg "sorted" = none) (hm2 : X.mg "len" = none) (he : PE X e te) (hg : Gl X "sorted" := by rfl) (hg2 : Gl X "len" := by rfl)
    (h1 : starEach [e] X.env = (false, eval e X.env) :: starEach [] X.env := by rfl) (h2 : backTo pos (starEach [e] X.env) = (false, eval e X.env) :: backTo pos (starEach [] X.env) := by rfl) (h3 : (backTo pos (starEach [e] X.env)).any (·.1) = false := by rfl) :
    PE X (.Call (.Name "sorted" p) [e] [⟨some "key", .Name "len" p2, kp⟩, ⟨some "reverse", .Constant (.bool true) kk p3, kp2⟩] pos) (tCB (rSortLen X.K true) (tCons te tNil)) := by
  intro pins s σ H Q I h
  refine wpAny_Call_Name_kw (ld_blt I hg hm T1.b_sorted ?_ (by decide) (by decide))
  refine callWith_kw (thn ((pa_cons he pa_nil h1) pos pins s σ H _ I h) fun us s1 ⟨vs, H1, I1, r, q⟩ => ?_) h2 h3
  refine kws_cons (ld_blt I1 hg2 hm2 T1.b_len (kws_cons (thn (pe_bl pins s1 σ H1 (fun v H' => v = .bl true ∧ H' = H1) I1 ⟨rfl, rfl⟩) fun v s2 hv => ?_)) (by decide) (by decide))
  obtain ⟨x, H2, I2, r2, e1, e2⟩ := hv
  subst e1 e2
  cases r2
  exact kws_nil (run_sorted_len I2 r q (fun l => ksk_s2 _ _ _) (fun x => ksk_l2 _ _ _) (fun x => ksk_t5 "len" x true))
end L2
namespace L2
open PySem PySem.Spec PyProof.Rows
end L2
namespace T1
open PySem PySem.Spec PyProof.Rows L2
end T1
namespace L2
open PySem PySem.Spec PyProof.Rows
theorem call_sum {X : Cx} (hc : X.calm = true) : CallR X (.builtin "sum") (fun xs H Q => ∃ (p : Addr) (ns : List Int), xs = [.ref p] ∧ SqL X.K H p (ns.map V.int) ∧ Q (.int ns.sum) H) := by
  intro pins s σ H xs us Q I r h
  obtain ⟨p, ns, rfl, hq, q⟩ := h
  obtain ⟨u, rfl, ru⟩ := vals1 r
  cases ru
  obtain ⟨its, rv, pl, hz⟩ := I.list hq
  have hi : IntsAre its ns := intsAre_of rv
  obtain ⟨zs, hx⟩ := hi.allInts.items
  have hn : numsOf its.toArray.toList = ns := by rw [show its.toArray.toList = its from rfl, hi.numsOf]
  have hl := pl.isList
  rw [hx] at hl hn
  rw [nums_intItems] at hn
  refine sum_intListG (I.ok.hd hc) hl fun h' tk t' hk => ?_
  rw [preSum_eq, List.take_of_length_le (by simp), hn]
  exact ⟨.int _, H, I.kept (t' := tk) hk, ⟨_, rfl⟩, q⟩
def rAddS : V → V → Hp → VK → Prop := fun x y H Q => ∃ i j, x = .str i ∧ y = .str j ∧ i.length + j.length ≤ sizeLine ∧ Q (.str (i ++ j)) H
theorem in_addS {X : Cx} : InOp X .Add rAddS := by
  rintro pins s σ H x y u v Q I rx ry ⟨i, j, rfl, rfl, hz, q⟩
  obtain ⟨t, rfl⟩ := rx
  obtain ⟨t', rfl⟩ := ry
  exact iadd_str (fun t' tk => ⟨.str (i ++ j), H, I.tok _, ⟨_, rfl⟩, q⟩) hz
end L2
namespace T1
open PySem L2 PyProof.Rows
mutual
def eqD : D → D → Bool
  | .non, .non => true
  | .bl a, .bl b => a == b
  | .int a, .int b => a == b
  | .str a, .str b => a == b
  | .tup xs, .tup ys => eqDs xs ys
  | .lst xs, .lst ys => eqDs xs ys
  | _, _ => false
def eqDs : List D → List D → Bool
  | [], [] => true
  | a :: xs, b :: ys => eqD a b && eqDs xs ys
  | _, _ => false
end
mutual
theorem eqD_eq : ∀ {a b : D}, eqD a b = true → a = b
  | .non, .non, _ => rfl
  | .bl a, .bl b, h => by rw [eqD] at h; rw [eq_of_beq h]
  | .int a, .int b, h => by rw [eqD] at h; rw [eq_of_beq h]
  | .str a, .str b, h => by rw [eqD] at h; rw [eq_of_beq h]
  | .tup xs, .tup ys, h => by rw [eqD] at h; rw [eqDs_eq h]
  | .lst xs, .lst ys, h => by rw [eqD] at h; rw [eqDs_eq h]
  | .non, .bl _, h | .non, .int _, h | .non, .str _, h | .non, .tup _, h | .non, .lst _, h => by simp [eqD] at h
  | .bl _, .non, h | .bl _, .int _, h | .bl _, .str _, h | .bl _, .tup _, h | .bl _, .lst _, h => by simp [eqD] at h
  | .int _, .non, h | .int _, .bl _, h | .int _, .str _, h | .int _, .tup _, h | .int _, .lst _, h => by simp [eqD] at h
  | .str _, .non, h | .str _, .bl _, h | .str _, .int _, h | .str _, .tup _, h | .str _, .lst _, h => by simp [eqD] at h
  | .tup _, .non, h | .tup _, .bl _, h | .tup _, .int _, h | .tup _, .str _, h | .tup _, .lst _, h => by simp [eqD] at h
  | .lst _, .non, h | .lst _, .bl _, h | .lst _, .int _, h | .lst _, .str _, h | .lst _, .tup _, h => by simp [eqD] at h
theorem eqDs_eq : ∀ {xs ys : List D}, eqDs xs ys = true → xs = ys
  | [], [], _ => rfl
  | a :: xs, b :: ys, h => by
    rw [eqDs, Bool.and_eq_true] at h
    rw [eqD_eq h.1, eqDs_eq h.2]
  | [], _ :: _, h => by simp [eqDs] at h
  | _ :: _, [], h => by simp [eqDs] at h
end
mutual
theorem eqD_refl : ∀ a : D, eqD a a = true
  | .non => by simp [eqD]
  | .bl a => by simp [eqD]
  | .int a => by simp [eqD]
  | .str a => by simp [eqD]
  | .tup xs => by rw [eqD]; exact eqDs_refl xs
  | .lst xs => by rw [eqD]; exact eqDs_refl xs
theorem eqDs_refl : ∀ xs : List D, eqDs xs xs = true
  | [] => by simp [eqDs]
  | a :: xs => by rw [eqDs, eqD_refl a, eqDs_refl xs]; rfl
end
theorem eqDs_range : ∀ xs ys : List D, eqDs xs ys = ((List.range (min xs.length ys.length)).all (fun j => eqD (xs.getD j .non) (ys.getD j .non)) && xs.length == ys.length)
  | [], [] => by simp [eqDs]
  | [], _ :: _ => by simp [eqDs]
  | _ :: _, [] => by simp [eqDs]
  | a :: xs, b :: ys => by
    rw [eqDs, eqDs_range xs ys, List.length_cons, List.length_cons, Nat.succ_min_succ, List.range_succ_eq_map, List.all_cons, List.all_map, Bool.and_assoc]
    congr 1
    congr 1
    simp
mutual
inductive Cmp : Nat → D → D → Prop where
  | non (k : Nat) : Cmp k .non .non
  | int (k : Nat) (i j : Int) : Cmp k (.int i) (.int j)
  | str (k : Nat) (x y : Str) : Cmp k (.str x) (.str y)
  | tup {k : Nat} {xs ys : List D} (t : Cmps k xs ys) : Cmp (k + 1) (.tup xs) (.tup ys)
  | lst {k : Nat} {xs ys : List D} (t : Cmps k xs ys) : Cmp (k + 1) (.lst xs) (.lst ys)
inductive Cmps : Nat → List D → List D → Prop where
  | nilL (k : Nat) (ys : List D) : Cmps k [] ys
  | nilR (k : Nat) (xs : List D) : Cmps k xs []
  | cons {k : Nat} {a b : D} {xs ys : List D} (h : Cmp k a b) (t : Cmps k xs ys) : Cmps k (a :: xs) (b :: ys)
end
theorem Cmps.get {k : Nat} : ∀ {xs ys : List D} {i : Nat}, Cmps k xs ys → i < xs.length → i < ys.length → Cmp k (xs.getD i .non) (ys.getD i .non)
  | _, _, _, .nilL _ _, h, _ => absurd h (by simp)
  | _, _, _, .nilR _ _, _, h => absurd h (by simp)
  | _, _, 0, .cons h _, _, _ => h
  | _, _, i + 1, .cons _ t, h1, h2 => by
    have := Cmps.get (i := i) t (by simpa using h1) (by simpa using h2)
    simpa using this
mutual
theorem Rep.inj {z z' : Addr} {H : Hp} : ∀ {v : V} {d e : D}, Rep z H v d → Rep z' H v e → d = e
  | _, _, _, .non, .non => rfl
  | _, _, _, .bl _, .bl _ => rfl
  | _, _, _, .int _, .int _ => rfl
  | _, _, _, .str _ _, .str _ _ => rfl
  | _, _, _, .tup h _ r, .tup h' _ r' => by
    rw [h] at h'
    cases h'
    rw [Reps.inj r r']
  | _, _, _, .lst h _ r, .lst h' _ r' => by
    rw [h] at h'
    cases h'
    rw [Reps.inj r r']
  | _, _, _, .tup h _ _, .lst h' _ _ => by rw [h] at h'; cases h'
  | _, _, _, .lst h _ _, .tup h' _ _ => by rw [h] at h'; cases h'
theorem Reps.inj {z z' : Addr} {H : Hp} : ∀ {vs : List V} {ds es : List D}, Reps z H vs ds → Reps z' H vs es → ds = es
  | _, _, _, .nil, .nil => rfl
  | _, _, _, .cons h t, .cons h' t' => by rw [Rep.inj h h', Reps.inj t t']
end
section
variable {X : Cx} {pins : List (Addr × Obj)} {σ : L2.St} {H : Hp} {s : Shared} {z z' : Addr}
theorem eq_dec (I : Inv X pins σ H s) : ∀ (k : Nat) {d e : D}, Cmp k d e → ∀ {A : Around} {x y : V} {u v : Value}, Room k A → Rep z H x d → Rep z' H y e → RelV x u → RelV y v → SeqAt.EqAt A s u v (eqD d e) := by
  intro k
  induction k with
  | zero =>
    intro d e hd A x y u v hr rx ry ru rv
    cases hd with
    | non => cases rx; cases ry; cases ru; cases rv; rw [eqD]; exact SeqAt.EqAt.same _
    | int _ i j => cases rx; cases ry; obtain ⟨t, rfl⟩ := ru; obtain ⟨t', rfl⟩ := rv; rw [eqD]; exact SeqAt.EqAt.int_int (A := A) (s := s) i t j t'
    | str _ x y => cases rx; cases ry; obtain ⟨t, rfl⟩ := ru; obtain ⟨t', rfl⟩ := rv; rw [eqD]; exact SeqAt.EqAt.str_str (A := A) (s := s) x t y t'
  | succ k ih =>
    intro d e hd A x y u v hr rx ry ru rv
    cases hd with
    | non => cases rx; cases ry; cases ru; cases rv; rw [eqD]; exact SeqAt.EqAt.same _
    | int _ i j => cases rx; cases ry; obtain ⟨t, rfl⟩ := ru; obtain ⟨t', rfl⟩ := rv; rw [eqD]; exact SeqAt.EqAt.int_int (A := A) (s := s) i t j t'
    | str _ x y => cases rx; cases ry; obtain ⟨t, rfl⟩ := ru; obtain ⟨t', rfl⟩ := rv; rw [eqD]; exact SeqAt.EqAt.str_str (A := A) (s := s) x t y t'
    | @tup _ ds es t =>
      have rx0 := rx
      have ry0 := ry
      cases rx with
      | @tup a xs _ ha _ r1 =>
        cases ry with
        | @tup b ys _ hb _ r2 =>
          cases ru
          cases rv
          by_cases hab : a = b
          · subst hab
            rw [Rep.inj rx0 ry0, eqD_refl]
            exact SeqAt.EqAt.same _
          · obtain ⟨its, q1, p1, _⟩ := I.tuple (SqT.of ha)
            obtain ⟨its2, q2, p2, _⟩ := I.tuple (SqT.of hb)
            have l1 := q1.length
            have l2 := q2.length
            have e1 := r1.length
            have e2 := r2.length
            have key := SeqAt.RcAt.tuples (e := fun j => eqD (ds.getD j .non) (es.getD j .non)) p1 p2 hr.units0 fun j h1 h2 => ih (t.get (i := j) (by rw [← e1, l1]; simpa using h1) (by rw [← e2, l2]; simpa using h2)) hr.in1 (r1.get (i := j) (by rw [← e1, l1]; simpa using h1)) (r2.get (i := j) (by rw [← e2, l2]; simpa using h2)) (vals_at q1 h1) (vals_at q2 h2)
            rw [eqD, eqDs_range]
            have g1 : its.toArray.size = ds.length := by simp; omega
            have g2 : its2.toArray.size = es.length := by simp; omega
            rw [g1, g2] at key
            exact SeqAt.EqAt.of_refs hab key
    | @lst _ ds es t =>
      have rx0 := rx
      have ry0 := ry
      cases rx with
      | @lst a xs _ ha _ r1 =>
        cases ry with
        | @lst b ys _ hb _ r2 =>
          cases ru
          cases rv
          by_cases hab : a = b
          · subst hab
            rw [Rep.inj rx0 ry0, eqD_refl]
            exact SeqAt.EqAt.same _
          · obtain ⟨its, q1, p1, _⟩ := I.list (SqL.of ha)
            obtain ⟨its2, q2, p2, _⟩ := I.list (SqL.of hb)
            have l1 := q1.length
            have l2 := q2.length
            have e1 := r1.length
            have e2 := r2.length
            have g1 : its.toArray.size = ds.length := by simp; omega
            have g2 : its2.toArray.size = es.length := by simp; omega
            rw [eqD, eqDs_range]
            by_cases hsz : its.toArray.size = its2.toArray.size
            · have key := SeqAt.RcAt.lists (e := fun j => eqD (ds.getD j .non) (es.getD j .non)) p1.isList p2.isList hsz hr.units0 fun j h1 h2 => ih (t.get (i := j) (by rw [← e1, l1]; simpa using h1) (by rw [← e2, l2]; simpa using h2)) hr.in1 (r1.get (i := j) (by rw [← e1, l1]; simpa using h1)) (r2.get (i := j) (by rw [← e2, l2]; simpa using h2)) (vals_at q1 h1) (vals_at q2 h2)
              have g3 : ds.length = es.length := by omega
              rw [g1] at key
              have e : ((List.range (min ds.length es.length)).all (fun j => eqD (ds.getD j .non) (es.getD j .non)) && ds.length == es.length) = (List.range ds.length).all (fun j => eqD (ds.getD j .non) (es.getD j .non)) := by
                rw [g3, Nat.min_self, beq_self_eq_true, Bool.and_true]
              rw [e]
              exact SeqAt.EqAt.of_refs hab key
            · have key := SeqAt.RcAt.lists_lengths (A := A) p1.isList p2.isList (by simpa using hsz) hr.units0
              have e : (ds.length == es.length) = false := by rw [beq_eq_false_iff_ne]; omega
              rw [e, Bool.and_false]
              exact SeqAt.EqAt.of_refs hab key
def rEqL : R2 := fun x y H Q => ∃ z z' ds es, Rep z H x (.lst ds) ∧ Rep z' H y (.lst es) ∧ Cmps 4 ds es ∧ Q (.bl (eqDs ds es)) H
def rEqT : R2 := fun x y H Q => ∃ z z' ds es, Rep z H x (.tup ds) ∧ Rep z' H y (.tup es) ∧ Cmps 4 ds es ∧ Q (.bl (eqDs ds es)) H
theorem op_eqL {X : Cx} (hr : Room 5 X.A) : OpR X (compareOp .Eq) rEqL := by
  intro pins s σ H x y v u Q I rx ry h
  obtain ⟨z, z', ds, es, r1, r2, t, q⟩ := h
  cases r1 with
  | @lst a xs _ ha _ r1 =>
    cases r2 with
    | @lst b ys _ hb _ r2 =>
      cases rx
      cases ry
      obtain ⟨its, q1, p1, _⟩ := I.list (SqL.of ha)
      obtain ⟨its2, q2, p2, _⟩ := I.list (SqL.of hb)
      have l1 := q1.length
      have l2 := q2.length
      have e1 := r1.length
      have e2 := r2.length
      have g1 : its.toArray.size = ds.length := by simp; omega
      have g2 : its2.toArray.size = es.length := by simp; omega
      rw [eqDs_range] at q
      show wpAny _ _ (richCompare .Eq _ _) _ _ _
      by_cases hsz : its.toArray.size = its2.toArray.size
      · have g3 : ds.length = es.length := by omega
        refine SeqAt.RcAt.lists (e := fun j => eqD (ds.getD j .non) (es.getD j .non)) p1.isList p2.isList hsz hr.units0 (fun j h1 h2 => eq_dec I 4 (t.get (i := j) (by rw [← e1, l1]; simpa using h1) (by rw [← e2, l2]; simpa using h2)) hr.in1 (r1.get (i := j) (by rw [← e1, l1]; simpa using h1)) (r2.get (i := j) (by rw [← e2, l2]; simpa using h2)) (vals_at q1 h1) (vals_at q2 h2)) _ _ _ _ ?_
        rw [g3, Nat.min_self, beq_self_eq_true, Bool.and_true, ← g3, ← g1] at q
        exact ⟨.bl _, H, I, rfl, q⟩
      · refine SeqAt.RcAt.lists_lengths p1.isList p2.isList (by simpa using hsz) hr.units0 _ _ _ _ ?_
        have e : (ds.length == es.length) = false := by rw [beq_eq_false_iff_ne]; omega
        rw [e, Bool.and_false] at q
        exact ⟨.bl _, H, I, rfl, q⟩
theorem op_eqT {X : Cx} (hr : Room 5 X.A) : OpR X (compareOp .Eq) rEqT := by
  intro pins s σ H x y v u Q I rx ry h
  obtain ⟨z, z', ds, es, r1, r2, t, q⟩ := h
  cases r1 with
  | @tup a xs _ ha _ r1 =>
    cases r2 with
    | @tup b ys _ hb _ r2 =>
      cases rx
      cases ry
      obtain ⟨its, q1, p1, _⟩ := I.tuple (SqT.of ha)
      obtain ⟨its2, q2, p2, _⟩ := I.tuple (SqT.of hb)
      have l1 := q1.length
      have l2 := q2.length
      have e1 := r1.length
      have e2 := r2.length
      have g1 : its.toArray.size = ds.length := by simp; omega
      have g2 : its2.toArray.size = es.length := by simp; omega
      rw [eqDs_range, ← g1, ← g2] at q
      show wpAny _ _ (richCompare .Eq _ _) _ _ _
      exact SeqAt.RcAt.tuples (e := fun j => eqD (ds.getD j .non) (es.getD j .non)) p1 p2 hr.units0 (fun j h1 h2 => eq_dec I 4 (t.get (i := j) (by rw [← e1, l1]; simpa using h1) (by rw [← e2, l2]; simpa using h2)) hr.in1 (r1.get (i := j) (by rw [← e1, l1]; simpa using h1)) (r2.get (i := j) (by rw [← e2, l2]; simpa using h2)) (vals_at q1 h1) (vals_at q2 h2)) _ _ _ _ ⟨.bl _, H, I, rfl, q⟩
end
end T1
namespace L2
open PySem PySem.Spec PyProof.Rows
section
variable {κ : Type} [DecidableEq κ]
end
section
variable {P : Program} {w : World} {H : Hp} {h : Heap} {a : Addr}
end
section
variable {X : Cx} {pins : List (Addr × Obj)} {σ : St} {H : Hp} {s : Shared} {a : Addr} {y v : V} {u r : Value} {o : Option V} {A : Around} {E : Value → Shared → Prop}
end
section
variable {X : Cx} {pins : List (Addr × Obj)} {σ : St} {H : Hp} {s : Shared} {a : Addr} {kvs : List (Key × V)} {k : Key} {u : Value} {A : Around} {E : Value → Shared → Prop}
end
section
variable {X : Cx} {o i e value : Expr} {pos pos' tpos : Pos} {td ty tv : TE}
end
section
variable {X : Cx} {pos : Pos}
end
section
variable {X : Cx} {pins : List (Addr × Obj)} {σ : St} {H : Hp} {s : Shared} {a : Addr} {y d : V} {u r : Value} {o : Option V} {A : Around} {E : Value → Shared → Prop}
end
section
variable {X : Cx} {o e f : Expr} {apos cpos : Pos} {td ty tx : TE}
end
section
variable {X : Cx} {pins : List (Addr × Obj)} {σ : St} {H : Hp} {s : Shared} {a : Addr} {kvs : List (Key × V)} {A : Around} {E : Value → Shared → Prop}
end
section
variable {X : Cx} {pins : List (Addr × Obj)} {σ : St} {H : Hp} {s : Shared} {a : Addr} {y : V} {u : Value} {A : Around} {E : Value → Shared → Prop}
end
end L2
namespace L2
open PySem PySem.Spec PyProof.Rows
section
variable {κ : Type} [DecidableEq κ]
end
end L2
namespace L2
open PySem PySem.Spec PyProof.Rows
section
variable {P : Program} {w : World} {A : Around} {X : Value → Shared → Prop} {s : Shared} {b : Array Keyed}
end
end L2
namespace L2
open PySem PySem.Spec PyProof.Rows
end L2
namespace L2
open PySem PySem.Spec PyProof.Rows
section
variable {X : Cx}
theorem op_ne_nilT (hu : X.A.units < cLine) : OpR X (compareOp .NotEq) (fun x y H Q => ∃ p q xs, x = .ref p ∧ y = .ref q ∧ H p = some (.tup xs) ∧ H q = some (.tup []) ∧ Q (.bl (!xs.isEmpty)) H) := by
  intro pins s σ H x y v u Q I rx ry h
  obtain ⟨p, q, xs, rfl, rfl, hp, hq, k⟩ := h
  cases rx
  cases ry
  obtain ⟨its, rv, pl, hz⟩ := I.tuple (SqT.of hp)
  obtain ⟨its2, rv2, pl2, hz2⟩ := I.tuple (SqT.of hq)
  cases rv2
  show wpAny _ _ (richCompare .NotEq _ _) _ _ _
  refine SeqAt.RcNeAt.tuples (e := fun _ => true) pl pl2 hu (fun j _ h2 => absurd h2 (by simp)) _ _ _ _ ?_
  have e : (!((List.range (min its.toArray.size ([] : List Value).toArray.size)).all (fun _ => true) && its.toArray.size == ([] : List Value).toArray.size)) = !xs.isEmpty := by
    cases rv with
    | nil => rfl
    | cons r t => simp
  rw [e]
  exact ⟨.bl _, H, I, rfl, k⟩
end
section
variable {X : Cx} {sc : Scope} {cl : List (Str × Addr)} {N' : List Str} {s : Shared} {H : Hp} {fp : List Addr}
theorem sl_tupB : SlR (X.blk sc cl N' s H fp) (rSlT X.K) := sl_tup
end
end L2
namespace T1
open PySem L2
def plainC (c : Nat) : Bool := decide (33 ≤ c) && decide (c ≤ 126) && !decide (c = 37)
def escD : D → Bool
  | .str x => decide (x.length ≤ 1) && (decide (x.length = 0) || plainC (x.cps.getD 0 0))
  | _ => false
def markS (x : Str) : Bool := decide (1 ≤ x.length) && decide (x.length ≤ 4) && x.cps.toList.all fun c => decide (c = 10) || plainC c
section
variable {P : Program} {w : World} {K : PySem.W.Frag} {mg : Str → Option Value} {base : Heap}
end
end T1
namespace T1
open PySem L2
section
variable {P : Program} {w : World} {K : PySem.W.Frag} {mg : Str → Option Value} {base : Heap}
instance : Inhabited D := ⟨.non⟩
end
end T1
namespace L2
open PySem PySem.Spec PyProof.Rows
end L2
namespace T1
open PySem L2
abbrev Dr := Str × Int × Str
abbrev Tg := Str × List Dr
abbrev Bk := List Tg
def drD (d : Dr) : D := .tup [.str d.1, .int d.2.1, .str d.2.2]
def tgD (t : Tg) : D := .tup [.str t.1, .tup (t.2.map drD)]
def bkD (b : Bk) : D := .tup (b.map tgD)
def DrOk (n : Int) (d : Dr) : Prop := markS d.1 = true ∧ (0 ≤ d.2.1 ∧ d.2.1 < n) ∧ markS d.2.2 = true
def TgOk (n : Int) (t : Tg) : Prop := escD (.str t.1) = true ∧ t.2.length ≤ 6 ∧ ∀ d ∈ t.2, DrOk n d
section
variable {z : Addr} {H : Hp}
theorem rep_door {v : V} {d : Dr} (r : Rep z H v (drD d)) : ∃ a, v = .ref a ∧ a ≠ z ∧ H a = some (.tup [.str d.1, .int d.2.1, .str d.2.2]) := by
  cases r with
  | tup h hz r =>
    cases r with
    | cons r1 r =>
      cases r with
      | cons r2 r =>
        cases r with
        | cons r3 r =>
          cases r
          cases r1
          cases r2
          cases r3
          exact ⟨_, rfl, hz, h⟩
theorem rep_doors {v : V} {ds : List Dr} (r : Rep z H v (.tup (ds.map drD))) : ∃ a xs, v = .ref a ∧ a ≠ z ∧ H a = some (.tup xs) ∧ xs.length = ds.length ∧ Reps z H xs (ds.map drD) := by
  cases r with
  | tup h hz r => exact ⟨_, _, rfl, hz, h, by have := r.length; simpa using this, r⟩
theorem rep_tongue {v : V} {t : Tg} (r : Rep z H v (tgD t)) : ∃ a b xs, v = .ref a ∧ a ≠ z ∧ b ≠ z ∧ H a = some (.tup [.str t.1, .ref b]) ∧ H b = some (.tup xs) ∧ xs.length = t.2.length ∧ Reps z H xs (t.2.map drD) := by
  cases r with
  | tup h hz r =>
    cases r with
    | cons r1 r =>
      cases r with
      | cons r2 r =>
        cases r
        cases r1
        obtain ⟨b, xs, rfl, hb, h2, h3, h4⟩ := rep_doors r2
        exact ⟨_, b, xs, rfl, hz, hb, h, h2, h3, h4⟩
theorem rep_book {v : V} {b : Bk} (r : Rep z H v (bkD b)) : ∃ a xs, v = .ref a ∧ a ≠ z ∧ H a = some (.tup xs) ∧ xs.length = b.length ∧ Reps z H xs (b.map tgD) := by
  cases r with
  | tup h hz r => exact ⟨_, _, rfl, hz, h, by have := r.length; simpa using this, r⟩
theorem reps_door {xs : List V} {ds : List Dr} {i : Nat} (r : Reps z H xs (ds.map drD)) (hi : i < ds.length) : Rep z H (xs.getD i .non) (drD (ds.getD i (⟨#[]⟩, 0, ⟨#[]⟩))) := by
  have := r.get (i := i) (by simpa using hi)
  simpa [hi] using this
theorem reps_tongue {xs : List V} {b : Bk} {i : Nat} (r : Reps z H xs (b.map tgD)) (hi : i < b.length) : Rep z H (xs.getD i .non) (tgD (b.getD i (⟨#[]⟩, []))) := by
  have := r.get (i := i) (by simpa using hi)
  simpa [hi] using this
end
def opensOf (ds : List Dr) : List Str := ds.map (·.1)
section
variable {P : Program} {w : World} {K : PySem.W.Frag} {mg : Str → Option Value} {base : Heap}
end
end T1
namespace T1
open PySem L2
abbrev dr0 : Dr := (⟨#[]⟩, 0, ⟨#[]⟩)
abbrev tg0 : Tg := (⟨#[]⟩, [])
def marksT (ds : List Dr) : List Str := ds.flatMap fun d => [d.1, d.2.2]
def marksB (b : Bk) : List Str := b.flatMap fun t => marksT t.2
section
variable {P : Program} {w : World} {K : PySem.W.Frag} {mg : Str → Option Value} {base : Heap}
end
end T1
namespace L2
open PySem PySem.Spec PyProof.Rows
end L2
namespace T1
open PySem L2
theorem getD_mem {α : Type} {xs : List α} {i : Nat} (d : α) (h : i < xs.length) : xs.getD i d ∈ xs := by
  have : xs.getD i d = xs[i] := by simp [h]
  rw [this]
  exact List.getElem_mem h
def escIn (es : List Str) (m : Str) : Bool := m.cps.toList.any fun c => es.any fun e => e == (⟨#[c]⟩ : Str)
def escB (b : Bk) : Bool := (marksB b).any (escIn (b.map (·.1)))
section
variable {P : Program} {w : World} {K : PySem.W.Frag} {mg : Str → Option Value} {base : Heap}
end
end T1
namespace L2
open PySem PySem.Spec PyProof.Rows
theorem pe_bmB {X : Cx} {sc : Scope} {cl : List (Str × Addr)} {N' : List Str} {s : Shared} {H : Hp} {fp : List Addr} {o e : Expr} {es : List Expr} {to : TE} {t : TA} {name : Str} {apos cpos : Pos} {T id : String} {r : V → List V → Hp → VK → Prop} (pa : PlainAttrs T) (slot : Slot T name id) (hty : typeOf (.builtin id) = pure (.type "method_descriptor")) (hm : MtR (X.blk sc cl N' s H fp) id r) (ho : PE (X.blk sc cl N' s H fp) o to) (ha : PA (X.blk sc cl N' s H fp) (e :: es) t)
    (hbase : attributeBase o name (X.blk sc cl N' s H fp).env (eval o (X.blk sc cl N' s H fp).env) = eval o (X.blk sc cl N' s H fp).env := by rfl)
    (hfew : ((backTo cpos (starEach (e :: es) (X.blk sc cl N' s H fp).env)).all (fun x => !x.1) && (backToKw cpos (keywordEach [] (X.blk sc cl N' s H fp).env)).all (fun x => x.1.isSome)
      && decide ((e :: es).length + ([] : List Keyword).length + (if ([] : List Keyword).isEmpty then 0 else 1) < 30)) = true := by rfl)
    (hline : (apos.endLine == cpos.line) = true := by rfl) (hs : starEach (e :: es) (X.blk sc cl N' s H fp).env = (false, eval e (X.blk sc cl N' s H fp).env) :: starEach es (X.blk sc cl N' s H fp).env := by rfl) (hplain : (backTo cpos (starEach es (X.blk sc cl N' s H fp).env)).any (·.1) = false := by rfl) :
    PE (X.blk sc cl N' s H fp) (.Call (.Attribute o name apos) (e :: es) [] cpos) (tBM X.K T r to t) := pe_bm pa slot hty hm ho ha hbase hfew hline hs hplain
end L2
namespace T1
open PySem L2
def closesT (ds : List Dr) (t : Int) : List Str := ds.filterMap fun d => if d.2.1 = t then some d.2.2 else none
def closesB (b : Bk) (t : Int) : List Str := b.flatMap fun g => closesT g.2 t
def behindB (b : Bk) (t : Nat) : Bool := (b.getD t tg0).2.any fun d => (closesB b t).any fun c => stAt d.1 c 0
section
variable {P : Program} {w : World} {K : PySem.W.Frag} {mg : Str → Option Value} {base : Heap}
end
end T1
namespace T1
open PySem L2
def bookB (b : Bk) : Bool := (b.all fun t => decide (opensOf t.2).Nodup) && !escB b && !((List.range b.length).any fun t => behindB b t)
section
variable {P : Program} {w : World} {K : PySem.W.Frag} {mg : Str → Option Value} {base : Heap}
end
end T1
namespace T1
open PySem L2
section
variable {P : Program} {w : World} {K : PySem.W.Frag} {mg : Str → Option Value} {base : Heap}
theorem flatN_nil {f : Nat → Option V} : ∀ n, (flatN (fun i => (f i).toList) n).isEmpty = (List.range n).all fun i => (f i).isNone
  | 0 => rfl
  | n + 1 => by
    rw [List.range_succ, List.all_append, ← flatN_nil n]
    simp only [flatN, List.all_cons, List.all_nil, Bool.and_true]
    cases f n <;> simp
end
end T1
namespace T1
open PySem L2
section
variable {P : Program} {w : World} {K : PySem.W.Frag} {mg : Str → Option Value} {base : Heap}
theorem escD_cases (x : Str) (h : x.length ≤ 1) : (x = Str.ofString "" ∧ escD (.str x) = true) ∨ ∃ c, x = ⟨#[c]⟩ ∧ escD (.str x) = plainC c := by
  obtain ⟨cs⟩ := x
  have h : cs.size ≤ 1 := h
  by_cases h0 : cs.size = 0
  · have : cs = #[] := Array.eq_empty_of_size_eq_zero h0
    subst this
    exact .inl ⟨by decide +kernel, by decide +kernel⟩
  · obtain ⟨c, hc⟩ := Array.size_eq_one_iff.mp (show cs.size = 1 by omega)
    subst hc
    exact .inr ⟨c, rfl, rfl⟩
end
end T1
namespace T1
open PySem L2
def Bag (z : Addr) (H : Hp) : Prop := ∃ c s : Int, H z = some (.lst [.int c, .int s])
def Aft (z : Addr) (H H' : Hp) : Prop := SameX z H H' ∧ Bag z H'
theorem Aft.trans {z : Addr} {H H1 H2 : Hp} (a : Aft z H H1) (b : Aft z H1 H2) : Aft z H H2 := ⟨a.1.trans b.1, b.2⟩
theorem Aft.same {z : Addr} {H H1 H2 : Hp} (a : Aft z H H1) (b : Same H1 H2) : Aft z H H2 := ⟨a.1.trans b.x, let ⟨c, s, h⟩ := a.2; ⟨c, s, b _ _ h⟩⟩
theorem Aft.refl {z : Addr} {H : Hp} (h : Bag z H) : Aft z H H := ⟨.refl, h⟩
def spTake : Sp := fun vs H Q _ => ∃ z, ∃ n : Int, vs = [.ref z, .int n] ∧ Bag z H ∧ 0 < n ∧ n < 1000000 ∧ ∀ (r : Nat) H', (r : Int) < n → Aft z H H' → Q (.int r) H'
section
variable {P : Program} {w : World} {K : PySem.W.Frag} {mg : Str → Option Value} {base : Heap}
structure Txt2 (mg : Str → Option Value) : Prop where
  list : mg "list" = none
  set : mg "set" = none
  min : mg "min" = none
def spBag (K : PySem.W.Frag) : Sp := fun vs H Q _ => ∃ a, ∃ ns : List Int, ∃ i : Nat, vs = [.ref a, .int i] ∧ SqL K H a (ns.map V.int) ∧ i ≤ 100 ∧ ∀ p H', H p = none → Same H H' → Bag p H' → Q (.ref p) H'
end
end T1
namespace T1
open PySem L2
def signsOk (x : Str) : Prop := ∀ c ∈ x.cps.toList, (decide (c = 10) || plainC c) = true
def spMk : Sp := fun vs H Q _ => ∃ z x, vs = [.ref z, .str x] ∧ Bag z H ∧ 1 ≤ x.length ∧ x.length ≤ 100 ∧ signsOk x ∧ ∀ m H', markS m = true → Aft z H H' → Q (.str m) H'
section
variable {P : Program} {w : World} {K : PySem.W.Frag} {mg : Str → Option Value} {base : Heap}
theorem str_len_append (x y : Str) : (x ++ y).length = x.length + y.length := by
  show (x.cps ++ y.cps).size = _
  rw [Array.size_append]; rfl
theorem str_list_append (x y : Str) : (x ++ y).cps.toList = x.cps.toList ++ y.cps.toList := by
  show (x.cps ++ y.cps).toList = _
  rw [Array.toList_append]
end
end T1
namespace T1
open PySem L2
def inEsc (e : Str) (d : Dr) : Bool := !(Builtin.Str.occurrences (d.1 ++ Str.ofString " " ++ d.2.2) e 0 (d.1 ++ Str.ofString " " ++ d.2.2).length 1).isEmpty
def fit1 (t o : Tg) : Bool := !((!decide (V.str t.1 = V.str (Str.ofString ""))) && o.2.any (inEsc t.1))
def fit3 (b : Bk) (d : Dr) : Bool := !((b.getD d.2.1.toNat tg0).2.any fun o => stAt o.1 d.2.2 0)
def fitT (b : Bk) (t : Tg) : Bool := b.all (fit1 t) && decide (opensOf t.2).Nodup && t.2.all (fit3 b)
def fitsB (b : Bk) : Bool := b.all (fitT b)
theorem all_of {α : Type} (xs : List α) (d : α) (p : α → Bool) (h : ∀ j, j < xs.length → p (xs.getD j d) = true) : xs.all p = true := by
  rw [List.all_eq_true]
  intro x hx
  obtain ⟨i, hi, rfl⟩ := List.mem_iff_getElem.mp hx
  have := h i hi
  simpa [hi] using this
theorem all_no {α : Type} (xs : List α) (d : α) (p : α → Bool) {i : Nat} (hi : i < xs.length) (h : p (xs.getD i d) = false) : xs.all p = false := by
  rw [List.all_eq_false]
  refine ⟨xs[i], List.getElem_mem hi, ?_⟩
  have : xs.getD i d = xs[i] := by simp [hi]
  rw [← this, h]
  simp
theorem flt_empty {α : Type} (ds : List α) (d : α) (p : α → Bool) (g : Nat → V) {n : Nat} (hn : n = ds.length) : (flatN (fun i => (if p (ds.getD i d) then some (g i) else none).toList) n).isEmpty = !(ds.any p) := by
  subst hn
  rw [flatN_nil, Bool.eq_iff_iff, List.all_eq_true, Bool.not_eq_true', List.any_eq_false]
  constructor
  · intro h x hx hp
    obtain ⟨i, hi, rfl⟩ := List.mem_iff_getElem.mp hx
    have h2 := h i (List.mem_range.mpr hi)
    have e : ds.getD i d = ds[i] := by simp [hi]
    rw [e, if_pos hp] at h2
    cases h2
  · intro h i hi
    have hi := List.mem_range.mp hi
    have h2 := h ds[i] (List.getElem_mem hi)
    have e : ds.getD i d = ds[i] := by simp [hi]
    rw [e, if_neg h2]
    rfl
theorem inEsc_iff {c : Nat} (hc : plainC c = true) (d : Dr) : inEsc ⟨#[c]⟩ d = true ↔ c ∈ d.1.cps.toList ∨ c ∈ d.2.2.cps.toList := by
  unfold inEsc
  rw [StrLaws.found_iff]
  have e : (d.1 ++ Str.ofString " " ++ d.2.2).cps.toList = d.1.cps.toList ++ [32] ++ d.2.2.cps.toList := by
    rw [str_list_append, str_list_append]
    have : (Str.ofString " ").cps.toList = [32] := by decide +kernel
    rw [this]
  have h32 : c ≠ 32 := by
    intro h
    subst h
    exact absurd hc (by decide)
  constructor
  · rintro ⟨i, h⟩
    have h2 := (StrLaws.subAt_one _ _ _).mp h
    rw [e] at h2
    have := List.mem_of_getElem? h2
    simp at this
    rcases this with h | h | h
    · exact .inl (by simpa using h)
    · exact absurd h h32
    · exact .inr (by simpa using h)
  · intro h
    have : c ∈ (d.1 ++ Str.ofString " " ++ d.2.2).cps.toList := by
      rw [e]
      simp
      rcases h with h | h
      · exact .inl (by simpa using h)
      · exact .inr (.inr (by simpa using h))
    obtain ⟨i, hi⟩ := List.mem_iff_getElem?.mp this
    exact ⟨i, (StrLaws.subAt_one _ _ _).mpr hi⟩
theorem escB_iff (b : Bk) : escB b = true ↔ ∃ t ∈ b, ∃ o ∈ b, ∃ d ∈ o.2, ∃ c, t.1 = ⟨#[c]⟩ ∧ (c ∈ d.1.cps.toList ∨ c ∈ d.2.2.cps.toList) := by
  unfold escB escIn marksB marksT
  simp only [List.any_eq_true, List.mem_flatMap, List.mem_cons, List.not_mem_nil, or_false, List.mem_map, beq_iff_eq]
  constructor
  · rintro ⟨m, ⟨o, ho, d, hd, hm⟩, c, hc, e, ⟨t, ht, rfl⟩, he⟩
    refine ⟨t, ht, o, ho, d, hd, c, he, ?_⟩
    rcases hm with rfl | rfl
    · exact .inl hc
    · exact .inr hc
  · rintro ⟨t, ht, o, ho, d, hd, c, he, h | h⟩
    · exact ⟨d.1, ⟨o, ho, d, hd, .inl rfl⟩, c, h, t.1, ⟨t, ht, rfl⟩, he⟩
    · exact ⟨d.2.2, ⟨o, ho, d, hd, .inr rfl⟩, c, h, t.1, ⟨t, ht, rfl⟩, he⟩
theorem str_empty : (Str.ofString "") = ⟨#[]⟩ := by decide +kernel
theorem fit1_no {n : Int} {b : Bk} (hb : ∀ t ∈ b, TgOk n t) : (∃ t ∈ b, b.all (fit1 t) = false) ↔ escB b = true := by
  rw [escB_iff]
  constructor
  · rintro ⟨t, ht, h⟩
    rw [List.all_eq_false] at h
    obtain ⟨o, ho, h⟩ := h
    unfold fit1 at h
    simp only [Bool.not_eq_true', Bool.not_eq_false, Bool.and_eq_true, decide_eq_false_iff_not, List.any_eq_true] at h
    obtain ⟨h1, d, hd, h2⟩ := h
    have h1' : t.1 ≠ Str.ofString "" := fun z => h1 (by rw [z])
    have hl : t.1.length ≤ 1 := by
      have := (hb t ht).1
      unfold escD at this
      simp at this
      exact this.1
    rcases escD_cases t.1 hl with ⟨ex, _⟩ | ⟨c, ex, ee⟩
    · exact absurd ex h1'
    · have hc : plainC c = true := by rw [← ee]; exact (hb t ht).1
      rw [ex] at h2
      exact ⟨t, ht, o, ho, d, hd, c, ex, (inEsc_iff hc d).mp h2⟩
  · rintro ⟨t, ht, o, ho, d, hd, c, ex, h⟩
    refine ⟨t, ht, ?_⟩
    rw [List.all_eq_false]
    refine ⟨o, ho, ?_⟩
    have hc : plainC c = true := by
      have := (hb t ht).1
      rw [ex] at this
      exact this
    unfold fit1
    simp only [Bool.not_eq_true', Bool.not_eq_false, Bool.and_eq_true, decide_eq_false_iff_not, List.any_eq_true]
    refine ⟨fun z => ?_, d, hd, ?_⟩
    · have z' : t.1 = Str.ofString "" := by injection z
      rw [ex, str_empty] at z'
      simp at z'
    · rw [ex]
      exact (inEsc_iff hc d).mpr h
theorem fit3_no {b : Bk} (hb : ∀ t ∈ b, TgOk b.length t) : (∃ t ∈ b, t.2.all (fit3 b) = false) ↔ ((List.range b.length).any fun t => behindB b t) = true := by
  unfold behindB closesB closesT
  simp only [List.any_eq_true, List.mem_range, List.mem_flatMap, List.mem_filterMap]
  constructor
  · rintro ⟨t, ht, h⟩
    rw [List.all_eq_false] at h
    obtain ⟨d, hd, h⟩ := h
    unfold fit3 at h
    simp only [Bool.not_eq_true', Bool.not_eq_false, List.any_eq_true] at h
    obtain ⟨o, ho, h⟩ := h
    obtain ⟨_, ⟨h1, h2⟩, _⟩ := (hb t ht).2.2 d hd
    refine ⟨d.2.1.toNat, by omega, o, ho, d.2.2, ⟨t, ht, d, hd, ?_⟩, h⟩
    rw [if_pos (by omega)]
  · rintro ⟨n, hn, o, ho, c, ⟨t, ht, d, hd, hdc⟩, h⟩
    split at hdc
    · rename_i e
      obtain rfl : d.2.2 = c := by simpa using hdc
      refine ⟨t, ht, ?_⟩
      rw [List.all_eq_false]
      refine ⟨d, hd, ?_⟩
      unfold fit3
      simp only [Bool.not_eq_true', Bool.not_eq_false, List.any_eq_true]
      refine ⟨o, ?_, h⟩
      rw [e]
      simpa using ho
    · cases hdc
theorem fits_book {b : Bk} (hb : ∀ t ∈ b, TgOk b.length t) : fitsB b = bookB b := by
  have h1 := fit1_no hb
  have h3 := fit3_no hb
  unfold bookB
  cases e1 : escB b with
  | true =>
    obtain ⟨t, ht, h⟩ := h1.mpr e1
    simp only [Bool.not_true, Bool.and_false, Bool.false_and]
    unfold fitsB
    rw [List.all_eq_false]
    refine ⟨t, ht, ?_⟩
    unfold fitT
    rw [h]
    simp
  | false =>
    cases e3 : ((List.range b.length).any fun t => behindB b t) with
    | true =>
      obtain ⟨t, ht, h⟩ := h3.mpr e3
      simp only [Bool.not_true, Bool.and_false]
      unfold fitsB
      rw [List.all_eq_false]
      refine ⟨t, ht, ?_⟩
      unfold fitT
      rw [h]
      simp
    | false =>
      simp only [Bool.not_false, Bool.and_true]
      unfold fitsB
      rw [Bool.eq_iff_iff, List.all_eq_true, List.all_eq_true]
      have a1 : ∀ t ∈ b, b.all (fit1 t) = true := fun t ht => by
        cases q : b.all (fit1 t) with
        | true => rfl
        | false => rw [h1.mp ⟨t, ht, q⟩] at e1; cases e1
      have a3 : ∀ t ∈ b, t.2.all (fit3 b) = true := fun t ht => by
        cases q : t.2.all (fit3 b) with
        | true => rfl
        | false => rw [h3.mp ⟨t, ht, q⟩] at e3; cases e3
      constructor
      · intro h t ht
        have := h t ht
        unfold fitT at this
        rw [a1 t ht, a3 t ht, Bool.true_and, Bool.and_true] at this
        exact this
      · intro h t ht
        unfold fitT
        rw [a1 t ht, a3 t ht, Bool.true_and, Bool.and_true]
        exact h t ht
end T1
namespace L2
open PySem PySem.Spec PyProof.Rows
def SqS (H : Hp) (a : Addr) (xs : List V) : Prop := H a = some (.tup xs) ∨ H a = some (.lst xs)
theorem SqS.same {H H' : Hp} {a : Addr} {xs : List V} (h : SqS H a xs) (s : Same H H') : SqS H' a xs := h.elim (fun h => .inl (s _ _ h)) fun h => .inr (s _ _ h)
theorem for_seq {K : PySem.W.Frag} {te te' : TE} {a : Addr} {xs : List V} {g : TG} {tb : TS} {D : Ends} {σ : St} {H : Hp} (h : SqS H a xs) (he : ∀ R : VK, R (.ref a) H → te σ H R) (he' : ∀ R : VK, R (.ref a) H → te' σ H R) (Pv : Nat → St → Hp → Prop) (h0 : Pv 0 σ H) (hl : ∀ i σ H', Pv i σ H' → Same H H')
    (hs : ∀ i x σ H, xs[i]? = some x → Pv i σ H → g x σ H fun σ2 H2 => tb { D with nx := Pv (i + 1), ct := Pv (i + 1), bk := D.nx } σ2 H2) (hd : ∀ σ H, Pv xs.length σ H → D.nx σ H) :
    tFor (fun σ H R => iTup K te σ H R ∨ iList K te' σ H R) g tb D σ H := by
  rcases h with h | h
  · exact .inl (he _ ⟨a, rfl, ⟨xs, SqT.of h⟩, for_tup (K := K) (a := a) (xs := xs) Pv h0 (fun i σ H' _ q => SqT.of (hl i σ H' q _ _ h)) hs hd⟩)
  · exact .inr (he' _ ⟨a, rfl, ⟨xs, SqL.of h⟩, for_list (K := K) (a := a) (xs := xs) Pv h0 (fun i σ H' _ q => SqL.of (hl i σ H' q _ _ h)) hs hd⟩)
theorem ix_of {K : PySem.W.Frag} {H : Hp} {a : Addr} {xs : List V} {j : Nat} {v : V} {Q : VK} (h : SqS H a xs) (hv : xs[j]? = some v) (q : Q v H) : rIx K (.ref a) (.int j) H Q := by
  rcases h with h | h
  · exact .inr (.inl ⟨a, xs, j, v, rfl, rfl, SqT.of h, atI_nat hv, q⟩)
  · exact .inl ⟨a, xs, j, v, rfl, rfl, SqL.of h, atI_nat hv, q⟩
end L2
namespace T1
open PySem L2
def spFits : Sp := fun vs H Q _ => ∃ z a xs b, vs = [.ref a] ∧ SqS H a xs ∧ Reps z H xs (b.map tgD) ∧ b.length ≤ 7 ∧ (∀ t ∈ b, TgOk b.length t) ∧ ∀ H', Same H H' → Q (.bl (fitsB b)) H'
theorem markS_len {x : Str} (h : markS x = true) : x.length ≤ 4 ∧ 1 ≤ x.length := by
  unfold markS at h
  simp only [Bool.and_eq_true, decide_eq_true_eq] at h
  omega
section
variable {P : Program} {w : World} {K : PySem.W.Frag} {mg : Str → Option Value} {base : Heap}
theorem ndDE : (["door", "escape"] : List Str).Nodup := by decide +kernel
theorem ndD : (["door"] : List Str).Nodup := by decide +kernel
theorem ndOD : (["one", "door"] : List Str).Nodup := by decide +kernel
end
end T1
namespace L2
open PySem PySem.Spec PyProof.Rows
section
variable {X : Cx}
def rCatX : R2 := fun x y H Q => ∃ a b xs ys, x = .ref a ∧ y = .ref b ∧ H a = some (.tup xs) ∧ H b = some (.tup ys) ∧ xs.length + ys.length ≤ sizeLine ∧ ∀ p H', Same H H' → H' p = some (.tup (xs ++ ys)) → Q (.ref p) H'
theorem op_catX : OpR X (binaryOp .Add) rCatX := by
  intro pins s σ H x y v u Q I rx ry h
  obtain ⟨a, b, xs, ys, rfl, rfl, ha, hb, hz, q⟩ := h
  by_cases hx : xs = []
  · subst hx
    cases rx
    cases ry
    obtain ⟨its, r1, p1, _⟩ := I.tuple (SqT.of ha)
    obtain ⟨its2, r2, p2, _⟩ := I.tuple (SqT.of hb)
    cases r1
    obtain ⟨⟨cls, dd, data, sl⟩, ho, hc, n, hd⟩ := id p1
    obtain ⟨⟨cls2, dd2, data2, sl2⟩, ho2, hc2, n2, hd2⟩ := id p2
    simp only at hc hd hc2 hd2
    subst hc hd hc2 hd2
    exact concat_meets ⟨_, ho, rfl⟩ ⟨_, ho2, rfl⟩ noFill_tuple_add seq_tuple_add PySem.F.slot_tuple_add PySem.F.entry_tuple_add (PySem.F.args_tuple_add_2 _ _)
      (tuple_addW0 a b _ its2.toArray n n2 dd dd2 sl sl2 (by simp)) ⟨ho, ho2, ⟨.ref b, H, I, rfl, q b H (Same.refl H) hb⟩⟩
  · refine op_catT pins s σ H _ _ v u Q I rx ry ⟨a, b, xs, ys, rfl, rfl, SqT.of ha, SqT.of hb, hx, hz, fun hy => ?_, fun hy p np => q p _ (Same.new np) upd_same⟩
    refine q a H (Same.refl H) ?_
    rw [hy, List.append_nil]
    exact ha
end
end L2
namespace HT
open PySem PySem.Spec PyProof.Rows L2
section
variable {prog : Program} {w : World} {A : Around} {E : Value → Shared → Prop} {s : Shared}
end
end HT
namespace L2
open PySem PySem.Spec PyProof.Rows
section
variable {X : Cx}
end
end L2
namespace L2
open PySem PySem.Spec PyProof.Rows
section
variable {X : Cx}
theorem loop_range {lo : Int} {n : Nat} {g : TG} {tr : TR} {Qe : St → Hp → Prop} {σ : St} {H : Hp} (Pv : Nat → St → Hp → Prop) (h0 : Pv 0 σ H) (hs : ∀ i σ H, i < n → Pv i σ H → g (.int (lo + i)) σ H fun σ2 H2 => tr σ2 H2 (Pv (i + 1))) (hd : ∀ σ H, Pv n σ H → Qe σ H) : tLoop (Itr lo n) g tYes tr Qe σ H := by
  refine ⟨fun i m σ H => m = n - i ∧ i ≤ n ∧ Pv i σ H, ⟨n, rfl, Nat.zero_le _, h0⟩, ?_⟩
  rintro i m σ H ⟨rfl, hi, p⟩
  by_cases hlt : i < n
  · refine .inr ⟨hlt, Pv (i + 1), fun σ' H' p' => ⟨n - (i + 1), by omega, rfl, hlt, p'⟩, fun x H' y => ?_⟩
    obtain ⟨e, y⟩ := y
    subst e y
    exact hs i σ _ hlt p
  · have e : i = n := by omega
    subst e
    exact .inl ⟨Nat.le_refl _, hd σ H p⟩
end
end L2
namespace T1
open PySem L2
def mask (a : Addr) (H : Hp) : Hp := fun x => if x = a then none else H x
theorem mask_ne {a x : Addr} {H : Hp} (h : x ≠ a) : mask a H x = H x := if_neg h
theorem mask_upd {a : Addr} {H : Hp} {o : HO} : mask a (upd H a o) = mask a H := by
  funext x
  unfold mask upd
  by_cases h : x = a
  · rw [if_pos h, if_pos h]
  · rw [if_neg h, if_neg h, if_neg h]
theorem mask_some {a x : Addr} {H : Hp} {o : HO} (h : mask a H x = some o) : x ≠ a ∧ H x = some o := by
  unfold mask at h
  by_cases e : x = a
  · rw [if_pos e] at h; cases h
  · rw [if_neg e] at h; exact ⟨e, h⟩
theorem mask_x {a z : Addr} {H H' : Hp} (s : SameX z H H') : SameX z (mask a H) (mask a H') := fun b o hb h => by
  obtain ⟨h1, h2⟩ := mask_some h
  rw [mask_ne h1]
  exact s b o hb h2
theorem mask_le {a z : Addr} {H : Hp} : SameX z (mask a H) H := fun b o _ h => (mask_some h).2
theorem mask_new {a l z : Addr} {H H' : Hp} (hl : H l = none) (s : SameX z H H') : SameX z (mask a H) (mask l H') := fun b o hb h => by
  obtain ⟨h1, h2⟩ := mask_some h
  rw [mask_ne (ne_of_none h2 hl)]
  exact s b o hb h2
theorem Reps.set {z : Addr} {H : Hp} {v : V} {d : D} (r : Rep z H v d) : ∀ {vs : List V} {ds : List D} (i : Nat), Reps z H vs ds → Reps z H (vs.set i v) (ds.set i d)
  | _, _, _, .nil => .nil
  | _, _, 0, .cons _ t => .cons r t
  | _, _, i + 1, .cons h t => .cons h (Reps.set r i t)
theorem Reps.append {z : Addr} {H : Hp} : ∀ {vs ws : List V} {ds es : List D}, Reps z H vs ds → Reps z H ws es → Reps z H (vs ++ ws) (ds ++ es)
  | _, _, _, _, .nil, h => h
  | _, _, _, _, .cons a t, h => .cons a (Reps.append t h)
def LBk (z a : Addr) (b : Bk) (H : Hp) : Prop := a ≠ z ∧ ∃ vs, H a = some (.lst vs) ∧ Reps z (mask a H) vs (b.map tgD)
theorem LBk.aft {z a : Addr} {b : Bk} {H H' : Hp} (L : LBk z a b H) (s : SameX z H H') : LBk z a b H' := by
  obtain ⟨ha, vs, h, r⟩ := L
  exact ⟨ha, vs, s _ _ ha h, r.mono (mask_x s)⟩
theorem Bag.ne {z p : Addr} {H : Hp} (h : Bag z H) (np : H p = none) : p ≠ z := by
  obtain ⟨c, s, e⟩ := h
  exact (ne_of_none e np).symm
theorem Bag.neT {z p : Addr} {H : Hp} {xs : List V} (h : Bag z H) (np : H p = some (.tup xs)) : p ≠ z := by
  obtain ⟨c, s, e⟩ := h
  exact ne_of np e (by intro q; cases q)
theorem Aft.new {z p : Addr} {H H' : Hp} {o : HO} (a : Aft z H H') (np : H' p = none) : Aft z H (upd H' p o) := a.same (Same.new np)
theorem Aft.upd {z p : Addr} {H H' : Hp} {o : HO} (a : Aft z H H') (np : H p = none) (hp : p ≠ z) : Aft z H (L2.upd H' p o) := by
  refine ⟨fun b u hb e => ?_, ?_⟩
  · rw [upd_ne (ne_of_none e np)]
    exact a.1 b u hb e
  · obtain ⟨c, s, e⟩ := a.2
    exact ⟨c, s, by rw [upd_ne hp.symm]; exact e⟩
def BkOk (b : Bk) : Prop := 1 ≤ b.length ∧ b.length ≤ 6 ∧ (∀ t ∈ b, TgOk b.length t) ∧ bookB b = true
def spBook : Sp := fun vs H Q _ => ∃ z, vs = [.ref z] ∧ Bag z H ∧ ∀ v b H', Aft z H H' → Rep z H' v (bkD b) → BkOk b → Q v H'
theorem pickH {H : Hp} {p : Addr} {l : List V} (h : H p = some (.lst l)) {r : Nat} (hr : r < l.length) : ∃ x, l[r]? = some x ∧ x ∈ l := ⟨l[r], by simp [hr], List.getElem_mem hr⟩
theorem Aft.none {z p : Addr} {H H' : Hp} (a : Aft z H H') (np : H' p = none) : H p = none := by
  cases e : H p with
  | none => rfl
  | some o =>
    rw [a.1 p o (a.2.ne np) e] at np
    cases np
theorem ixN_nat {n j : Nat} (h : j < n) : ixN n (j : Int) = some j := by
  unfold ixN
  rw [if_pos (by omega), if_pos (by omega)]
  simp
theorem fits_empty {b : Bk} (h : ∀ t ∈ b, t.2 = []) : fitsB b = true := by
  unfold fitsB
  rw [List.all_eq_true]
  intro t ht
  unfold fitT
  rw [h t ht]
  have : b.all (fit1 t) = true := by
    rw [List.all_eq_true]
    intro o ho
    unfold fit1
    rw [h o ho]
    simp
  rw [this]
  rfl
section
variable {P : Program} {w : World} {K : PySem.W.Frag} {mg : Str → Option Value} {base : Heap}
theorem ndTBE : (["tongue", "bag", "escapes"] : List Str).Nodup := by decide +kernel
end
end T1
namespace T1
open PySem L2
theorem Bag.same {z : Addr} {H H' : Hp} (h : Bag z H) (s : Same H H') : Bag z H' := let ⟨c, e, q⟩ := h; ⟨c, e, s _ _ q⟩
theorem Reps.take {z : Addr} {H : Hp} : ∀ {vs : List V} {ds : List D} (k : Nat), Reps z H vs ds → Reps z H (vs.take k) (ds.take k)
  | _, _, 0, _ => by simpa using Reps.nil
  | _, _, k + 1, .nil => by simpa using Reps.nil
  | _, _, k + 1, .cons a t => .cons a (Reps.take k t)
section
variable {z : Addr}
theorem get_of {xs : List V} {r : Nat} (h : r < xs.length) : xs[r]? = some (xs.getD r .non) := by simp [h]
theorem big1000 : (1000 : Nat) ≤ sizeLine := by rw [sizeLine_eq]; decide
end
section
variable {X : Cx} {es : List Expr} {te : TE} {t : TA}
theorem pa_K {c : Const} {k : Nat} {pos : Pos} (h : PE X (.Constant c k pos) te) (hr : PA X es t) : PA X (.Constant c k pos :: es) (tCons te t) := pa_cons h hr rfl
theorem pa_B {o : Operator} {a b : Expr} {pos : Pos} (h : PE X (.BinOp a o b pos) te) (hr : PA X es t) : PA X (.BinOp a o b pos :: es) (tCons te t) := pa_cons h hr rfl
end
section
variable {P : Program} {w : World} {K : PySem.W.Frag} {mg : Str → Option Value} {base : Heap}
end
end T1
namespace T1
open PySem L2
section
variable {P : Program} {w : World} {K : PySem.W.Frag} {mg : Str → Option Value} {base : Heap}
end
end T1
namespace T1
open PySem L2
mutual
inductive NoL : D → Prop where
  | non : NoL .non
  | bl (b : Bool) : NoL (.bl b)
  | int (i : Int) : NoL (.int i)
  | str (x : Str) : NoL (.str x)
  | tup {ds : List D} (t : NoLs ds) : NoL (.tup ds)
inductive NoLs : List D → Prop where
  | nil : NoLs []
  | cons {d : D} {ds : List D} (h : NoL d) (t : NoLs ds) : NoLs (d :: ds)
end
mutual
theorem Rep.updL {z p : Addr} {H : Hp} {l l' : List V} (hp : H p = some (.lst l)) : ∀ {v : V} {d : D}, Rep z H v d → NoL d → Rep z (upd H p (.lst l')) v d
  | _, _, .non, _ => .non
  | _, _, .bl b, _ => .bl b
  | _, _, .int i, _ => .int i
  | _, _, .str x h, _ => .str x h
  | _, _, .tup h hz r, .tup t => .tup (by rw [upd_ne (ne_of h hp (by intro q; cases q))]; exact h) hz (Reps.updL hp r t)
theorem Reps.updL {z p : Addr} {H : Hp} {l l' : List V} (hp : H p = some (.lst l)) : ∀ {vs : List V} {ds : List D}, Reps z H vs ds → NoLs ds → Reps z (upd H p (.lst l')) vs ds
  | _, _, .nil, _ => .nil
  | _, _, .cons h t, .cons h' t' => .cons (Rep.updL hp h h') (Reps.updL hp t t')
end
theorem NoLs.append : ∀ {ds es : List D}, NoLs ds → NoLs es → NoLs (ds ++ es)
  | _, _, .nil, h => h
  | _, _, .cons a t, h => .cons a (NoLs.append t h)
theorem noL_drs : ∀ ds : List Dr, NoLs (ds.map drD)
  | [] => .nil
  | d :: r => .cons (.tup (.cons (.str _) (.cons (.int _) (.cons (.str _) .nil)))) (noL_drs r)
theorem noL_tgs : ∀ b : Bk, NoLs (b.map tgD)
  | [] => .nil
  | t :: r => .cons (.tup (.cons (.str _) (.cons (.tup (noL_drs t.2)) .nil))) (noL_tgs r)
end T1
namespace T1
open PySem L2
section
variable {P : Program} {w : World} {K : PySem.W.Frag} {mg : Str → Option Value} {base : Heap}
end
end T1
namespace T1
open PySem L2
def top (i : Nat) : Stmt := PySem.Challenge.pw_tonguenest_k27_whole_texts_one_behind_an.main.body.getD i (.Pass ⟨0, 0, 0, 0⟩)
abbrev sWithin : Stmt := top 2
abbrev sPoss : Stmt := top 3
abbrev sFitting : Stmt := top 4
abbrev sTakeM : Stmt := top 5
abbrev sPlainR : Stmt := top 6
abbrev sStep : Stmt := top 7
abbrev sOn : Stmt := top 8
abbrev sLeft : Stmt := top 9
abbrev sMoved : Stmt := top 10
abbrev sSteps : Stmt := top 11
abbrev sStanding : Stmt := top 12
abbrev sUnfin : Stmt := top 13
abbrev sForks : Stmt := top 15
abbrev sIsSure : Stmt := top 17
abbrev sSureSteps : Stmt := top 18
abbrev sReader : Stmt := top 19
abbrev lBag : Stmt := top 21
abbrev lTake : Stmt := top 22
abbrev lMk : Stmt := top 23
abbrev lFits : Stmt := top 24
abbrev lBook : Stmt := top 25
abbrev lMarks : Stmt := top 26
abbrev lText : Stmt := top 27
abbrev lMade : Stmt := top 28
abbrev lOn : Stmt := top 29
abbrev lLaw : Stmt := top 30
abbrev lamLn : Nat := 41
abbrev lamCl : Nat := 31
end T1
namespace T1
open PySem L2
structure TxtB (mg : Str → Option Value) : Prop where
  len : mg "len" = none
  ord : mg "ord" = none
  all_ : mg "all" = none
  any_ : mg "any" = none
  isinst : mg "isinstance" = none
  str : mg "str" = none
  int : mg "int" = none
  bool : mg "bool" = none
  tuple : mg "tuple" = none
  range : mg "range" = none
  sorted : mg "sorted" = none
  max : mg "max" = none
end T1
namespace T1
open PySem L2
section
variable {P : Program} {w : World} {K : PySem.W.Frag} {mg : Str → Option Value} {base : Heap}
theorem scTake : FnScope ["bag", "many", "found"] ["bag", "many"] (defScope lTake) := ⟨rfl, rfl, rfl, by decide +kernel, rfl, by decide +kernel, by decide +kernel⟩
theorem ok_take {f : Addr} {fd : FuncData} (F : Fun K "_law_take" "_law_take" lTake f fd) : FnOk P w K mg base CX0 1 f fd ["bag", "many"] spTake := by
  refine F.ok scTake (fun vs H Q E h => ?_) (fun cdv A outer s H vs Q E hr h => ?_)
  · obtain ⟨z, n, rfl, _⟩ := h
    rfl
  · obtain ⟨z, n, rfl, ⟨c, e, hz⟩, hn, hn2, k⟩ := h
    have nd := scTake.nd
    refine ⟨_, pss_cons (ps_if (pt_cmpR op_gt (pe_ix ix_list (pv 0) pe_int (fun _ _ => rfl)) pe_int (nomark _))
        (pss_cons (ps_set (i := 2) nd rfl (Or.inl rfl) (pe_op op_mod (pe_ix ix_list (pv 0) pe_int (fun _ _ => rfl)) (pv 1)))
        (pss_cons (ps_asg (pe_op op_fdiv (pe_ix ix_list (pv 0) pe_int (fun _ _ => rfl)) (pv 1)) (pg_sub (pv 0) pe_int set_list))
        (pss_one (ps_ret (pv 2))))) pss_nil)
      (pss_cons (ps_asg (pe_op op_mod (pe_op op_mul (pe_ix ix_list (pv 0) pe_int (fun _ _ => rfl)) pe_int) pe_int) (pg_sub (pv 0) pe_int set_list))
      (pss_one (ps_ret (pe_op op_mod (pe_op op_fdiv (pe_op op_mod (pe_op op_mul (pe_op op_fdiv (pe_ix ix_list (pv 0) pe_int (fun _ _ => rfl)) pe_int) (pe_op op_add (pe_op op_mod (pe_ix ix_list (pv 0) pe_int (fun _ _ => rfl)) pe_int) pe_int)) pe_int) pe_int) (pv 1))))), ?_⟩
    refine ⟨_, rfl, z, _, 0, _, rfl, rfl, SqL.of hz, atI_nat (j := 0) rfl, _, _, rfl, rfl, _, rfl, ?_⟩
    have ex : ∀ x : Int, ∃ r : Nat, x % n = (r : Int) ∧ (r : Int) < n := fun x => ⟨(x % n).toNat, by have := Int.emod_nonneg x (show n ≠ 0 by omega); omega, by have := Int.emod_lt_of_pos x hn; have := Int.emod_nonneg x (show n ≠ 0 by omega); omega⟩
    refine ite2 (fun h1 => ?_) (fun h1 => ?_)
    · refine ⟨_, rfl, z, _, 0, _, rfl, rfl, SqL.of hz, atI_nat (j := 0) rfl, _, rfl, _, _, rfl, rfl, hn, ?_⟩
      refine ⟨_, rfl, z, _, 0, _, rfl, rfl, SqL.of hz, atI_nat (j := 0) rfl, _, rfl, _, _, rfl, rfl, ⟨hn, by omega⟩, ?_⟩
      refine ⟨_, rfl, z, _, 0, 0, rfl, rfl, hz, rfl, ?_⟩
      obtain ⟨r, er, hr1⟩ := ex c
      refine ⟨_, rfl, ?_⟩
      have q := k r (upd H z (.lst [.int (c / n), .int e])) hr1 ⟨SameX.refl.upd, ⟨_, _, upd_same⟩⟩
      rw [← er] at q
      exact q
    · refine ⟨_, rfl, z, _, 1, _, rfl, rfl, SqL.of hz, atI_nat (j := 1) rfl, _, _, rfl, rfl, .inr (by decide), _, _, rfl, rfl, (by show (0 : Int) < _; decide), ?_⟩
      refine ⟨_, rfl, z, _, 1, 1, rfl, rfl, hz, rfl, ?_⟩
      refine ⟨_, rfl, z, _, 1, _, rfl, rfl, SqL.of upd_same, atI_nat (j := 1) rfl, _, _, rfl, rfl, ⟨by decide, by decide⟩, _, rfl, z, _, 1, _, rfl, rfl, SqL.of upd_same, atI_nat (j := 1) rfl, _, _, rfl, rfl, (by show (0 : Int) < _; decide), _, _, rfl, rfl, _, _, rfl, rfl, ?_⟩
      refine ⟨.inr ?_, _, _, rfl, rfl, (by show (0 : Int) < _; decide), _, _, rfl, rfl, ⟨by decide, by decide⟩, _, rfl, _, _, rfl, rfl, hn, ?_⟩
      · have a1 := Int.emod_nonneg (e * 48271 % 2147483647) (show (32749 : Int) ≠ 0 by decide)
        have a2 := Int.emod_lt_of_pos (e * 48271 % 2147483647) (show (0 : Int) < 32749 by decide)
        omega
      · obtain ⟨r, er, hr1⟩ := ex (e * 48271 % 2147483647 / 13 * (e * 48271 % 2147483647 % 32749 + 17) % 2147483629 / 32)
        have q := k r (upd H z (.lst [.int c, .int (e * 48271 % 2147483647)])) hr1 ⟨SameX.refl.upd, ⟨_, _, upd_same⟩⟩
        rw [← er] at q
        exact q
theorem scBag : FnScope ["script", "k", "cell", "seed"] ["script", "k"] (defScope lBag) := ⟨rfl, rfl, rfl, by decide +kernel, rfl, by decide +kernel, by decide +kernel⟩
theorem ok_bag {f : Addr} {fd : FuncData} (F : Fun K "_law_bag" "_law_bag" lBag f fd) (T : TxtB mg) : FnOk P w K mg base CX0 1 f fd ["script", "k"] (spBag K) := by
  refine F.ok scBag (fun vs H Q E h => ?_) (fun cdv A outer s H vs Q E hr h => ?_)
  · obtain ⟨z, n, i, rfl, _⟩ := h
    rfl
  · obtain ⟨a, ns, i, rfl, ha, hi, k⟩ := h
    have nd := scBag.nd
    refine ⟨_, pss_cons (ps_set (i := 2) nd rfl (Or.inl rfl) pe_int)
      (pss_cons (ps_if (pt_cmpR op_lt (pv 1) (pe_callB call_len_seq (by rfl) T.len b_len (pa_cons (pv 0) pa_nil)) (nomark _))
        (pss_one (ps_set (i := 2) nd rfl (Or.inl rfl) (pe_op op_mod (pe_ix ix_list (pv 0) (pv 1) (fun _ _ => rfl)) (pe_op op_pow pe_int pe_int)))) pss_nil)
      (pss_cons (ps_set (i := 3) nd rfl (Or.inl rfl) (pe_op op_add pe_int (pe_op op_mod (pe_op op_add (pe_op op_add (pe_op op_add (pe_op op_mul (pe_op op_mod (pv 2) pe_int) pe_int) (pe_op op_mul (pe_op op_mul pe_int (pv 1)) (pv 1))) (pe_op op_mul pe_int (pv 1))) pe_int) pe_int)))
      (pss_cons (ps_if (pt_cmpR op_lt (pv 2) (pe_op op_pow pe_int pe_int) (nomark _)) (pss_one (ps_ret (pe_lst (pa_cons pe_int (pa_cons (pv 3) pa_nil))))) pss_nil)
      (pss_one (ps_ret (pe_lst (pa_cons (pv 2) (pa_cons (pv 3) pa_nil)))))))), ?_⟩
    have small : (2 : Nat) ≤ sizeLine := by rw [sizeLine_eq]; decide
    refine ⟨_, rfl, _, rfl, a, _, rfl, .inl ha, _, _, rfl, rfl, _, rfl, ?_⟩
    refine ite2 (fun h1 => ?g1) (fun h1 => ?g2)
    case' g1 =>
      have hlt : i < ns.length := by simp at h1; omega
      refine ⟨_, rfl, _, rfl, a, _, _, .int ns[i], rfl, rfl, ha, atI_nat (by simp [hlt]), _, _, rfl, rfl, ⟨by decide, by decide, by decide⟩, _, _, rfl, rfl, (by show (0 : Int) < _; decide), ?_⟩
    all_goals
      refine ⟨_, rfl, _, _, rfl, rfl, (by show (0 : Int) < _; decide), _, _, rfl, rfl, .inr (by decide), _, rfl, _, _, rfl, rfl, .inl (by decide), _, rfl, _, _, rfl, rfl, .inr (by omega), _, _, rfl, rfl, _, rfl, _, _, rfl, rfl, .inl (by decide), _, _, rfl, rfl, _, _, rfl, rfl, _, _, rfl, rfl, (by show (0 : Int) < _; decide), _, _, rfl, rfl, ?_⟩
      refine ⟨_, rfl, _, _, rfl, rfl, ⟨by decide, by decide, by decide⟩, _, _, rfl, rfl, _, rfl, ?_⟩
      refine ite2 (fun h1 => ?_) (fun h1 => ?_)
      · exact ⟨_, rfl, small, fun p np => k p _ np (Same.new np) ⟨_, _, upd_same⟩⟩
      · exact ⟨_, rfl, _, rfl, small, fun p np => k p _ np (Same.new np) ⟨_, _, upd_same⟩⟩
end
end T1
namespace T1
open PySem L2
section
variable {P : Program} {w : World} {K : PySem.W.Frag} {mg : Str → Option Value} {base : Heap}
theorem scMk : FnScope ["bag", "signs", "found", "turn"] ["bag", "signs"] (defScope lMk) := ⟨rfl, rfl, rfl, by decide +kernel, rfl, by decide +kernel, by decide +kernel⟩
theorem ok_mk {f f1 : Addr} {fd fd1 : FuncData} (F : Fun K "_law_mark" "_law_mark" lMk f fd) (T : TxtB mg) (k1 : PySem.W.keepIn K (.ref f1) = true) (b1 : Binds K fd1 ["bag", "many"] []) (m1 : mg "_law_take" = some (.ref f1)) (G1 : FnOk P w K mg base CX0 1 f1 fd1 ["bag", "many"] spTake) : FnOk P w K mg base CX0 2 f fd ["bag", "signs"] spMk := by
  refine F.ok scMk (fun vs H Q E h => ?_) (fun cdv A outer s H vs Q E hr h => ?_)
  · obtain ⟨z, n, rfl, _⟩ := h
    rfl
  · obtain ⟨z, x, rfl, hB, hx1, hx2, hx3, k⟩ := h
    have nd := scMk.nd
    refine ⟨_, pss_cons (ps_set (i := 2) nd rfl (Or.inl rfl) pe_str)
      (pss_cons (ps_for PassesOwn.never rfl (pi_range1 rfl T.range (pa_cons (pe_op op_add pe_int (pe_ix ix_list (pe_lst (pa_cons pe_int (pa_cons pe_int (pa_cons pe_int (pa_cons (pe_call G1 hr rfl m1 k1 b1 .nil pass0 (pa_cons (pv 0) (pa_cons pe_int pa_nil))) pa_nil))))) (pe_call G1 hr rfl m1 k1 b1 .nil pass0 (pa_cons (pv 0) (pa_cons pe_int pa_nil))) (fun _ _ => rfl))) pa_nil))
        (pg_name (i := 3) nd rfl (Or.inl rfl))
        (pss_one (ps_set (i := 2) nd rfl (Or.inl rfl) (pe_op op_add_str (pv 2) (pe_ix ix_str (pv 1) (pe_call G1 hr rfl m1 k1 b1 .nil pass0 (pa_cons (pv 0) (pa_cons (pe_callB call_len_str (by rfl) T.len b_len (pa_cons (pv 1) pa_nil)) pa_nil))) (fun _ _ => rfl))))))
      (pss_one (ps_ret (pv 2)))), ?_⟩
    have small : (1000 : Nat) ≤ sizeLine := by rw [sizeLine_eq]; decide
    refine ⟨_, rfl, z, 4, rfl, hB, by decide, by decide, fun r H1 hr1 a1 => ?_⟩
    refine ⟨by show (4 : Nat) ≤ _; omega, fun p np => ⟨_, rfl, z, 4, rfl, ?_, by decide, by decide, fun r2 H2 hr2 a2 => ?_⟩⟩
    · exact (a1.same (Same.new np)).2
    · have a12 : Aft z H H2 := (a1.same (Same.new np)).trans a2
      have hpz : p ≠ z := by
        obtain ⟨c, e, h⟩ := a1.2
        exact (ne_of_none h np).symm
      have hp2 : H2 p = some (.lst [.int 0, .int 0, .int 1, .int r]) := a2.1 p _ hpz upd_same
      obtain ⟨n, hn1, hn2, hn3⟩ : ∃ n : Nat, ([V.int 0, V.int 0, V.int 1, V.int r] : List V)[r2]? = some (.int n) ∧ n ≤ 3 ∧ True := by
        match r2, hr2 with
        | 0, _ => exact ⟨0, rfl, by omega, trivial⟩
        | 1, _ => exact ⟨0, rfl, by omega, trivial⟩
        | 2, _ => exact ⟨1, rfl, by omega, trivial⟩
        | 3, _ => exact ⟨r, rfl, by omega, trivial⟩
        | m + 4, h => omega
      refine ⟨p, _, r2, .int n, rfl, rfl, SqL.of hp2, atI_nat hn1, 1, n, rfl, rfl, 1 + n, rfl, by omega, by omega, ?_⟩
      have en : (1 + (n : Int)).toNat = 1 + n := by omega
      rw [en]
      refine for_range (fun i σ H3 => ∃ m u, σ = [some (.ref z), some (.str x), some (.str m), u] ∧ Aft z H H3 ∧ m.length = i ∧ signsOk m) ⟨_, none, rfl, a12, by decide +kernel, ?_⟩ ?_ ?_
      · intro c hc
        have : (Str.ofString "").cps.toList = [] := by decide +kernel
        rw [this] at hc
        cases hc
      · rintro i σ H3 hi ⟨m, u, rfl, a3, hm1, hm2⟩
        refine ⟨_, rfl, _, rfl, _, rfl, _, rfl, x, rfl, by omega, z, x.length, rfl, a3.2, by omega, by omega, fun r3 H4 hr3 a4 => ?_⟩
        have hr4 : r3 < x.cps.toList.length := by
          have : x.cps.toList.length = x.length := by simp; rfl
          omega
        refine ⟨x, r3, x.cps.toList[r3], rfl, rfl, by omega, atI_nat (by simp [hr4]), m, _, rfl, rfl, ?_, ?_⟩
        · show m.length + 1 ≤ _
          omega
        · refine ⟨_, _, rfl, a3.trans a4, ?_, fun c hc => ?_⟩
          · rw [str_len_append]
            show m.length + 1 = _
            omega
          · rw [str_list_append] at hc
            rcases List.mem_append.mp hc with hc | hc
            · exact hm2 c hc
            · have : c = x.cps.toList[r3] := by simpa using hc
              rw [this]
              exact hx3 _ (List.getElem_mem hr4)
      · rintro σ H3 ⟨m, u, rfl, a3, hm1, hm2⟩
        refine ⟨_, rfl, k m H3 ?_ a3⟩
        unfold markS
        rw [decide_eq_true (show 1 ≤ m.length by omega), decide_eq_true (show m.length ≤ 4 by omega)]
        simp only [Bool.true_and, List.all_eq_true]
        exact hm2
end
end T1
namespace T1
open PySem L2
section
variable {P : Program} {w : World} {K : PySem.W.Frag} {mg : Str → Option Value} {base : Heap}
theorem scFits : FnScope ["book", "escape", "doors", "other", "more", "door", "some"] ["book"] (defScope lFits) := ⟨rfl, rfl, rfl, by decide +kernel, rfl, by decide +kernel, by decide +kernel⟩
set_option maxHeartbeats 1000000 in
theorem ok_fits {f : Addr} {fd : FuncData} (F : Fun K "_law_fits_book" "_law_fits_book" lFits f fd) (T : TxtB mg) (T2 : Txt2 mg) : FnOk P w K mg base CX0 1 f fd ["book"] spFits := by
  refine F.ok scFits (fun vs H Q E h => ?_) (fun cdv A outer s H vs Q E hr h => ?_)
  · obtain ⟨z, a, xs, b, rfl, _⟩ := h
    rfl
  · obtain ⟨z, a, xs, b, rfl, hS, R, hb7, hok, k⟩ := h
    have nd := scFits.nd
    refine ⟨_, pss_cons (ps_for PassesOwn.never rfl (PI.or (pi_tup (pv 0)) (pi_list (pv 0))) (pg_tup rfl (pgs_cons (pg_name (i := 1) nd rfl (Or.inr rfl)) (pgs_cons (pg_name (i := 2) nd rfl (Or.inl rfl)) pgs_nil)))
        (pss_cons (ps_for PassesOwn.never rfl (PI.or (pi_tup (pv 0)) (pi_list (pv 0))) (pg_tup rfl (pgs_cons (pg_name (i := 3) nd rfl (Or.inl rfl)) (pgs_cons (pg_name (i := 4) nd rfl (Or.inl rfl)) pgs_nil)))
          (pss_cons (ps_setcomp1 (i := 6) (N' := ["door", "escape"]) (js := [none, some 1]) rfl rfl nd rfl (Or.inl rfl) (blk_of (defScope lFits) (by decide +kernel)) ⟨rfl, Or.inr (Or.inl rfl), rfl, trivial⟩ (pi_tup (pv 4))
            (fun cl s H fp => pg_name (i := 0) ndDE rfl (Or.inl rfl))
            (fun cl s H fp => pts_one (pt_cmpR op_in_str (pv 1) (pe_op op_add_str (pe_op op_add_str (pe_ix ix_tupB (pv 0) pe_int (fun _ _ => rfl)) pe_str) (pe_ix ix_tupB (pv 0) pe_int (fun _ _ => rfl))) (by with_unfolding_all rfl))) (fun cl s H fp => pv 0))
          (pss_one (ps_if (PW.pt (pw_and (pt_cmpR op_ne (pv 1) pe_str (nomark _)) (pw_and1 (pt_cmpR (op_ne_nil hr.units0) (pv 6) (pe_lst pa_nil) (nomark _))))) (pss_one (ps_ret pe_bl)) pss_nil))))
        (pss_cons (ps_if (pt_cmpR op_ne (pe_callB call_len_setL (by rfl) T.len b_len (pa_cons (pe_callTy (call_set_texts rfl) (by rfl) T2.set b_set (pa_cons (pe_comp1 (N' := ["door"]) (js := [none]) rfl rfl (blk_of (defScope lFits) (by decide +kernel)) trivial (pi_tup (pv 2))
            (fun cl s H fp => pg_name (i := 0) ndD rfl (Or.inl rfl)) (fun cl s H fp => pts_nil) (fun cl s H fp => pe_ix ix_tupB (pv 0) pe_int (fun _ _ => rfl))) pa_nil)) pa_nil)) (pe_callB call_len_seq (by rfl) T.len b_len (pa_cons (pv 2) pa_nil)) (nomark _)) (pss_one (ps_ret pe_bl)) pss_nil)
        (pss_one (ps_for PassesOwn.never rfl (pi_tup (pv 2)) (pg_name (i := 5) nd rfl (Or.inr rfl))
          (pss_one (ps_if (pt_cmpR (op_ne_nil hr.units0) (pe_comp1 (N' := ["one", "door"]) (js := [none, some 5]) rfl rfl (blk_of (defScope lFits) (by decide +kernel)) ⟨rfl, Or.inr (Or.inl rfl), rfl, trivial⟩ (pi_tup (pe_ix ix_tup (pe_ix ix_seq (pv 0) (pe_ix ix_tup (pv 5) pe_int (fun _ _ => rfl)) (fun _ _ => rfl)) pe_int (fun _ _ => rfl)))
            (fun cl s H fp => pg_name (i := 0) ndOD rfl (Or.inl rfl)) (fun cl s H fp => pts_one (pt_val (pe_bmB PySem.F.plainAttrs_str PySem.F.slot_str_startswith PySem.F.type_str_startswith mt_startswith (pe_ix ix_tupB (pv 0) pe_int (fun _ _ => rfl)) (pa_cons (pe_ix ix_tupB (pv 1) pe_int (fun _ _ => rfl)) pa_nil)))) (fun cl s H fp => pv 0)) (pe_lst pa_nil) (nomark _)) (pss_one (ps_ret pe_bl)) pss_nil)))))))
      (pss_one (ps_ret pe_bl)), ?_⟩
    have hl : xs.length = b.length := by have := R.length; simpa using this
    refine for_seq (a := a) (xs := xs) hS (fun R q => ⟨_, rfl, q⟩) (fun R q => ⟨_, rfl, q⟩) (fun i σ H2 => ∃ u1 u2 u3 u4 u5 u6, σ = [some (.ref a), u1, u2, u3, u4, u5, u6] ∧ Same H H2 ∧ ∀ j, j < i → fitT b (b.getD j tg0) = true) ⟨none, none, none, none, none, none, rfl, Same.refl H, fun j hj => absurd hj (Nat.not_lt_zero j)⟩ (fun i σ H' ⟨_, _, _, _, _, _, _, s, _⟩ => s) ?_ ?_
    · rintro i y σ H2 hi ⟨u1, u2, u3, u4, u5, u6, rfl, s2, hP⟩
      have hil : i < b.length := by have := (List.getElem?_eq_some_iff.mp hi).1; omega
      have ey : y = xs.getD i .non := by rw [List.getD_eq_getElem?_getD, hi]; rfl
      have tok : TgOk b.length (b.getD i tg0) := hok _ (getD_mem _ hil)
      obtain ⟨c, d, ys, e, hcz, hdz, hc, hd, hyl, Ry⟩ := rep_tongue ((reps_tongue (b := b) (i := i) R hil).mono s2.x)
      rw [ey, e]
      have hyl : ys.length = (b.getD i tg0).2.length := hyl
      have few1 := tok.2.1
      have no : ∀ H', Same H H' → fitT b (b.getD i tg0) = false → Q (.bl false) H' := fun H' s' hf => by
        have := all_no b tg0 (fitT b) hil hf
        have q := k H' s'
        unfold fitsB at q
        rw [this] at q
        exact q
      refine ⟨c, _, rfl, SqT.of hc, rfl, _, _, rfl, _, _, rfl, rfl, ?_⟩
      refine for_seq (a := a) (xs := xs) (hS.same s2) (fun R q => ⟨_, rfl, q⟩) (fun R q => ⟨_, rfl, q⟩) (fun j σ H3 => ∃ u3 u4 u6, σ = [some (.ref a), some (.str (b.getD i tg0).1), some (.ref d), u3, u4, u5, u6] ∧ Same H2 H3 ∧ ∀ l, l < j → fit1 (b.getD i tg0) (b.getD l tg0) = true) ⟨u3, u4, u6, rfl, Same.refl _, fun j hj => absurd hj (Nat.not_lt_zero j)⟩ (fun i σ H' ⟨_, _, _, _, s, _⟩ => s) ?_ ?_
      · rintro j y2 σ H3 hj ⟨v3, v4, v6, rfl, s3, hP1⟩
        have hjl : j < b.length := by have := (List.getElem?_eq_some_iff.mp hj).1; omega
        have ey2 : y2 = xs.getD j .non := by rw [List.getD_eq_getElem?_getD, hj]; rfl
        have tok2 : TgOk b.length (b.getD j tg0) := hok _ (getD_mem _ hjl)
        have few2 := tok2.2.1
        obtain ⟨c2, d2, zs, e2, hc2z, hd2z, hc2, hd2, hzl, Rz⟩ := rep_tongue ((reps_tongue (b := b) (i := j) R hjl).mono (s2.trans s3).x)
        rw [ey2, e2]
        have hzl : zs.length = (b.getD j tg0).2.length := hzl
        refine ⟨c2, _, rfl, SqT.of hc2, rfl, _, _, rfl, _, _, rfl, rfl, ?_⟩
        refine ⟨_, rfl, d2, rfl, ⟨_, SqT.of hd2⟩, fun p np => ?_⟩
        have hdp : d2 ≠ p := ne_of_none hd2 np
        have nx : ∀ H', Same H3 H' → fit1 (b.getD i tg0) (b.getD j tg0) = true → ∃ u3 u4 u6, [some (V.ref a), some (V.str (b.getD i tg0).1), some (V.ref d), some (.str (b.getD j tg0).1), some (.ref d2), u5, some (.ref p)] = [some (V.ref a), some (V.str (b.getD i tg0).1), some (V.ref d), u3, u4, u5, u6] ∧ Same H2 H' ∧ ∀ l, l < j + 1 → fit1 (b.getD i tg0) (b.getD l tg0) = true := fun H' s' hf => ⟨_, _, _, rfl, s3.trans s', fun l hl => by
          rcases Nat.lt_succ_iff_lt_or_eq.mp hl with h | h
          · exact hP1 l h
          · rw [h]; exact hf⟩
        refine loop_new (fun l => if inEsc (b.getD i tg0).1 ((b.getD j tg0).2.getD l dr0) then some (zs.getD l .non) else none) (fun σ => ∃ v, σ = [v, some (.str (b.getD i tg0).1)]) ⟨none, rfl⟩ np (by omega) (itok_tup (xs := zs) (by rw [upd_ne hdp]; exact hd2) hdp) (fun l σ H4 C hl' ⟨v, hv⟩ hS4 hC => ?_) (fun σ H4 s4 hH4 => ?_)
        · subst hv
          have hll : l < (b.getD j tg0).2.length := by omega
          obtain ⟨q, e3, hqz, hq⟩ := rep_door ((reps_door (ds := (b.getD j tg0).2) (i := l) Rz hll).mono hS4.x)
          have dok := tok2.2.2 _ (getD_mem dr0 hll)
          have l1 := markS_len dok.1
          have l2 := markS_len dok.2.2
          have big : (1000 : Nat) ≤ sizeLine := by rw [sizeLine_eq]; decide
          have lb : (Str.ofString " ").length = 1 := by decide +kernel
          have hC' := hC [some (.ref q), some (.str (b.getD i tg0).1)] H4 ⟨_, rfl⟩ (Same.refl _)
          rw [e3]
          refine ⟨_, rfl, _, rfl, q, _, 0, _, rfl, rfl, SqT.of hq, atI_nat (j := 0) rfl, _, _, rfl, rfl, ?_, _, rfl, q, _, 2, _, rfl, rfl, SqT.of hq, atI_nat (j := 2) rfl, _, _, rfl, rfl, ?_, _, _, rfl, rfl, _, rfl, ?_⟩
          · rw [lb]
            show ((b.getD j tg0).2.getD l dr0).1.length + 1 ≤ _
            omega
          · rw [str_len_append, lb]
            show ((b.getD j tg0).2.getD l dr0).1.length + 1 + ((b.getD j tg0).2.getD l dr0).2.2.length ≤ _
            omega
          · show if inEsc (b.getD i tg0).1 ((b.getD j tg0).2.getD l dr0) = true then _ else _
            cases g : inEsc (b.getD i tg0).1 ((b.getD j tg0).2.getD l dr0) with
            | true =>
              rw [g, if_pos rfl, e3] at hC'
              exact iteT ⟨_, rfl, hC'⟩
            | false =>
              rw [g, if_neg (by simp)] at hC'
              exact iteF hC'
        · refine ⟨_, rfl, rfl, _, rfl, ?_⟩
          refine ite2 (fun g1 => ?_) (fun g1 => ?_)
          · refine ⟨_, rfl, Nat.zero_le _, fun q nq => ?_⟩
            have hpq : p ≠ q := ne_of_none hH4 nq
            refine ⟨p, q, _, rfl, rfl, by rw [upd_ne hpq]; exact hH4, upd_same, _, rfl, ?_⟩
            have e5 := flt_empty (b.getD j tg0).2 dr0 (inEsc (b.getD i tg0).1) (fun l => zs.getD l .non) hzl
            rw [e5, Bool.not_not]
            cases g2 : (b.getD j tg0).2.any (inEsc (b.getD i tg0).1) with
            | true =>
              refine iteT (no _ (((s2.trans s3).trans s4).trans (Same.new nq)) ?_)
              have f1 : fit1 (b.getD i tg0) (b.getD j tg0) = false := by
                unfold fit1
                rw [g2, g1]
                rfl
              unfold fitT
              rw [all_no b tg0 (fit1 (b.getD i tg0)) hjl f1, Bool.false_and, Bool.false_and]
            | false =>
              refine iteF (nx _ (s4.trans (Same.new nq)) ?_)
              unfold fit1
              rw [g2, Bool.and_false]
              rfl
          · refine iteF (nx _ s4 ?_)
            have g1' : (!decide (V.str (b.getD i tg0).1 = V.str (Str.ofString ""))) = false := by simpa using g1
            unfold fit1
            rw [g1', Bool.false_and]
            rfl
      · rintro σ H3 ⟨v3, v4, v6, rfl, s3, hP1⟩
        have f1 : b.all (fit1 (b.getD i tg0)) = true := all_of b tg0 _ fun j hj => hP1 j (by omega)
        refine ⟨_, rfl, d, rfl, ⟨_, SqT.of (s3 _ _ hd)⟩, fun p np => ?_⟩
        have hdp : d ≠ p := ne_of_none (s3 _ _ hd) np
        refine loop_map (fun l => .str ((b.getD i tg0).2.getD l dr0).1) (fun σ => ∃ v, σ = [v]) ⟨none, rfl⟩ np (by omega) (itok_tup (xs := ys) (by rw [upd_ne hdp]; exact s3 _ _ hd) hdp) (fun l σ H4 C hl' ⟨v, hv⟩ hS4 hC => ?_) (fun σ H4 s4 hH4 => ?_)
        · subst hv
          obtain ⟨q, e3, hqz, hq⟩ := rep_door ((reps_door (ds := (b.getD i tg0).2) (i := l) Ry (by omega)).mono (s3.trans hS4).x)
          rw [e3]
          exact ⟨_, rfl, q, _, 0, _, rfl, rfl, SqT.of hq, atI_nat (j := 0) rfl, hC _ H4 ⟨_, rfl⟩ (Same.refl _)⟩
        · have hO : H4 p = some (.lst ((opensOf (b.getD i tg0).2).map V.str)) := by
            rw [hH4, hyl]
            unfold opensOf
            rw [List.map_map]
            exact congrArg (fun x => some (HO.lst x)) (range_map (b.getD i tg0).2 dr0 fun d => V.str d.1)
          refine ⟨p, opensOf (b.getD i tg0).2, rfl, SqL.of hO, (by unfold scanBound opensOf; rw [List.length_map]; omega), fun q nq => ?_⟩
          have s5 := Same.new (o := setL P w q (opensOf (b.getD i tg0).2)) nq
          have s25 : Same H2 _ := (s3.trans s4).trans s5
          refine ⟨q, _, rfl, upd_same, _, rfl, d, ys, rfl, .inr (SqT.of (s25 _ _ hd)), rfl, _, rfl, ?_⟩
          have e2 : (!decide (V.int ((dd (opensOf (b.getD i tg0).2)).length : Int) = V.int (ys.length : Int))) = !decide (opensOf (b.getD i tg0).2).Nodup := by
            congr 1
            rw [decide_eq_decide, ← dd_all]
            have : (opensOf (b.getD i tg0).2).length = (b.getD i tg0).2.length := by simp [opensOf]
            rw [this, ← hyl]
            simp
            omega
          rw [e2]
          cases g3 : decide (opensOf (b.getD i tg0).2).Nodup with
          | false =>
            refine iteT (no _ (s2.trans s25) ?_)
            unfold fitT
            rw [g3, Bool.and_false, Bool.false_and]
          | true =>
            refine iteF ?_
            refine ⟨_, rfl, d, rfl, ⟨_, SqT.of (s25 _ _ hd)⟩, for_tup (K := K) (a := d) (xs := ys) (fun l σ H6 => ∃ u3 u4 u5 u6, σ = [some (.ref a), some (.str (b.getD i tg0).1), some (.ref d), u3, u4, u5, u6] ∧ Same H2 H6 ∧ ∀ m, m < l → fit3 b ((b.getD i tg0).2.getD m dr0) = true) ⟨_, _, _, _, rfl, s25, fun j hj => absurd hj (Nat.not_lt_zero j)⟩ (fun l σ H6 _ ⟨_, _, _, _, _, s, _⟩ => SqT.of (s _ _ hd)) ?_ ?_⟩
            · rintro l y3 σ H6 hl' ⟨w3, w4, w5, w6, rfl, s6, hP3⟩
              have hll : l < (b.getD i tg0).2.length := by have := (List.getElem?_eq_some_iff.mp hl').1; omega
              have ey3 : y3 = ys.getD l .non := by rw [List.getD_eq_getElem?_getD, hl']; rfl
              obtain ⟨q2, e3, hq2z, hq2⟩ := rep_door ((reps_door (ds := (b.getD i tg0).2) (i := l) Ry hll).mono s6.x)
              rw [ey3, e3]
              have dok := tok.2.2 _ (getD_mem dr0 hll)
              generalize hdr : (b.getD i tg0).2.getD l dr0 = dr at *
              obtain ⟨hn1, hn2⟩ := dok.2.1
              obtain ⟨n, hn⟩ : ∃ n : Nat, dr.2.1 = (n : Int) := ⟨dr.2.1.toNat, by omega⟩
              have hnl : n < b.length := by omega
              have few4 : (b.getD n tg0).2.length ≤ 6 := (hok _ (getD_mem tg0 hnl)).2.1
              obtain ⟨c4, d4, ws, e4, hc4z, hd4z, hc4, hd4, hwl, Rw⟩ := rep_tongue ((reps_tongue (b := b) (i := n) R hnl).mono (s2.trans s6).x)
              have hwl : ws.length = (b.getD n tg0).2.length := hwl
              have ex : xs[n]? = some (.ref c4) := by
                have h1 : n < xs.length := by omega
                have h2 : xs.getD n .non = xs[n] := by simp [h1]
                rw [List.getElem?_eq_getElem h1, ← h2, e4]
              rw [hn] at hq2
              refine ⟨_, rfl, _, rfl, q2, _, 1, _, rfl, rfl, SqT.of hq2, atI_nat (j := 1) rfl, ix_of (hS.same (s2.trans s6)) ex ?_⟩
              refine ⟨c4, _, 1, _, rfl, rfl, SqT.of hc4, atI_nat (j := 1) rfl, d4, rfl, ⟨_, SqT.of hd4⟩, fun p2 np2 => ?_⟩
              have hdp2 : d4 ≠ p2 := ne_of_none hd4 np2
              refine loop_new (fun m => if stAt ((b.getD n tg0).2.getD m dr0).1 dr.2.2 0 then some (ws.getD m .non) else none) (fun σ => ∃ v, σ = [v, some (.ref q2)]) ⟨none, rfl⟩ np2 (by omega) (itok_tup (xs := ws) (by rw [upd_ne hdp2]; exact hd4) hdp2) (fun m σ H7 C hm ⟨v, hv⟩ hS7 hC => ?_) (fun σ H7 s7 hH7 => ?_)
              · subst hv
                obtain ⟨q3, e5, hq3z, hq3⟩ := rep_door ((reps_door (ds := (b.getD n tg0).2) (i := m) Rw (by omega)).mono hS7.x)
                have hC' := hC [some (.ref q3), some (.ref q2)] H7 ⟨_, rfl⟩ (Same.refl _)
                rw [e5]
                refine ⟨_, rfl, q3, _, 0, _, rfl, rfl, SqT.of hq3, atI_nat (j := 0) rfl, rfl, _, rfl, q2, _, 2, _, rfl, rfl, SqT.of (hS7 _ _ hq2), atI_nat (j := 2) rfl, _, _, rfl, rfl, _, rfl, ?_⟩
                cases g : stAt ((b.getD n tg0).2.getD m dr0).1 dr.2.2 0 with
                | true =>
                  rw [g, if_pos rfl, e5] at hC'
                  exact iteT ⟨_, rfl, hC'⟩
                | false =>
                  rw [g, if_neg (by simp)] at hC'
                  exact iteF hC'
              · refine ⟨Nat.zero_le _, fun q nq => ?_⟩
                have hpq : p2 ≠ q := ne_of_none hH7 nq
                refine ⟨p2, q, _, rfl, rfl, by rw [upd_ne hpq]; exact hH7, upd_same, _, rfl, ?_⟩
                have e5 := flt_empty (b.getD n tg0).2 dr0 (fun o => stAt o.1 dr.2.2 0) (fun m => ws.getD m .non) hwl
                rw [e5, Bool.not_not]
                have ef : fit3 b dr = !((b.getD n tg0).2.any fun o => stAt o.1 dr.2.2 0) := by
                  unfold fit3
                  rw [hn]
                  rfl
                cases g2 : (b.getD n tg0).2.any fun o => stAt o.1 dr.2.2 0 with
                | true =>
                  refine iteT (no _ ((s2.trans s6).trans (s7.trans (Same.new nq))) ?_)
                  unfold fitT
                  rw [all_no (b.getD i tg0).2 dr0 (fit3 b) hll (by rw [hdr, ef, g2]; rfl), Bool.and_false]
                | false =>
                  refine iteF ⟨_, _, _, _, rfl, s6.trans (s7.trans (Same.new nq)), fun m hm => ?_⟩
                  rcases Nat.lt_succ_iff_lt_or_eq.mp hm with h | h
                  · exact hP3 m h
                  · rw [h, hdr, ef, g2]; rfl
            · rintro σ H6 ⟨w3, w4, w5, w6, rfl, s6, hP3⟩
              refine ⟨_, _, _, _, _, _, rfl, s2.trans s6, fun j hj => ?_⟩
              rcases Nat.lt_succ_iff_lt_or_eq.mp hj with h | h
              · exact hP j h
              · rw [h]
                unfold fitT
                rw [f1, g3, all_of (b.getD i tg0).2 dr0 (fit3 b) fun m hm => hP3 m (by omega)]
                rfl
    · rintro σ H2 ⟨u1, u2, u3, u4, u5, u6, rfl, s2, hP⟩
      have q := k H2 s2
      unfold fitsB at q
      rw [all_of b tg0 (fitT b) fun j hj => hP j (by omega)] at q
      exact q
end
end T1
namespace T1
open PySem L2
section
variable {P : Program} {w : World} {K : PySem.W.Frag} {mg : Str → Option Value} {base : Heap}
theorem scBookL : FnScope ["bag", "signs", "escapes", "many", "book", "turn", "at", "door", "more"] ["bag"] (defScope lBook) := ⟨rfl, rfl, rfl, by decide +kernel, rfl, by decide +kernel, by decide +kernel⟩
set_option maxHeartbeats 1000000 in
theorem ok_lbook {f f1 f2 f3 : Addr} {fd fd1 fd2 fd3 : FuncData} (F : Fun K "_law_book" "_law_book" lBook f fd) (T : TxtB mg) (T2 : Txt2 mg)
    (k1 : PySem.W.keepIn K (.ref f1) = true) (b1 : Binds K fd1 ["bag", "many"] []) (m1 : mg "_law_take" = some (.ref f1)) (G1 : FnOk P w K mg base CX0 1 f1 fd1 ["bag", "many"] spTake)
    (k2 : PySem.W.keepIn K (.ref f2) = true) (b2 : Binds K fd2 ["bag", "signs"] []) (m2 : mg "_law_mark" = some (.ref f2)) (G2 : FnOk P w K mg base CX0 2 f2 fd2 ["bag", "signs"] spMk)
    (k3 : PySem.W.keepIn K (.ref f3) = true) (b3 : Binds K fd3 ["book"] []) (m3 : mg "_law_fits_book" = some (.ref f3)) (G3 : FnOk P w K mg base CX0 1 f3 fd3 ["book"] spFits) : FnOk P w K mg base CX0 3 f fd ["bag"] spBook := by
  refine F.ok scBookL (fun vs H Q E h => ?_) (fun cdv A outer s H vs Q E hr h => ?_)
  · obtain ⟨z, rfl, _⟩ := h
    rfl
  · obtain ⟨z, rfl, hB, k⟩ := h
    have nd := scBookL.nd
    have hr1 : Room 1 _ := hr.mono (by decide)
    refine ⟨_, pss_cons (ps_set (i := 1) nd rfl (Or.inl rfl) (pe_ix ix_list (pe_lst (pa_cons pe_str (pa_cons pe_str (pa_cons pe_str (pa_cons pe_str pa_nil))))) (pe_call G1 hr1 rfl m1 k1 b1 .nil pass0 (pa_cons (pv 0) (pa_cons pe_int pa_nil))) (fun _ _ => rfl)))
      (pss_cons (ps_set (i := 2) nd rfl (Or.inr rfl) (pe_ix ix_list (pe_lst (pa_cons pe_str (pa_cons pe_str (pa_cons pe_str (pa_cons pe_str pa_nil))))) (pe_call G1 hr1 rfl m1 k1 b1 .nil pass0 (pa_cons (pv 0) (pa_cons pe_int pa_nil))) (fun _ _ => rfl)))
      (pss_cons (ps_set (i := 3) nd rfl (Or.inl rfl) (pe_op op_add pe_int (pe_call G1 hr1 rfl m1 k1 b1 .nil pass0 (pa_cons (pv 0) (pa_cons (pe_ix ix_list (pe_lst (pa_cons pe_int (pa_cons pe_int (pa_cons pe_int pa_nil)))) (pe_call G1 hr1 rfl m1 k1 b1 .nil pass0 (pa_cons (pv 0) (pa_cons pe_int pa_nil))) (fun _ _ => rfl)) pa_nil)))))
      (pss_cons (ps_setcomp1 (i := 4) (N' := ["tongue", "bag", "escapes"]) (js := [none, some 0, some 2]) rfl rfl nd rfl (Or.inl rfl) (blk_of (defScope lBook) (by decide +kernel)) ⟨rfl, Or.inr (Or.inl rfl), rfl, rfl, Or.inr (Or.inl rfl), rfl, trivial⟩ (pi_range1 rfl T.range (pa_cons (pv 3) pa_nil))
          (fun cl s H fp => pg_name (i := 0) ndTBE rfl (Or.inl rfl)) (fun cl s H fp => pts_nil)
          (fun cl s H fp => pe_tup (pa_cons (pe_ix ix_listB (pe_lst (pa_cons (pv 2) (pa_cons pe_str (pa_cons pe_str pa_nil)))) (pe_call G1 hr1 rfl m1 k1 b1 .nil pass0 (pa_cons (pv 1) (pa_cons pe_int pa_nil))) (fun _ _ => rfl)) (pa_cons (pe_tup pa_nil) pa_nil))))
      (pss_cons (ps_for PassesOwn.never rfl (pi_range1 rfl T.range (pa_cons (pe_op op_add pe_int (pe_call G1 hr1 rfl m1 k1 b1 .nil pass0 (pa_cons (pv 0) (pa_cons (pe_op op_mul pe_int (pv 3)) pa_nil)))) pa_nil)) (pg_name (i := 5) nd rfl (Or.inl rfl))
        (pss_cons (ps_set (i := 6) nd rfl (Or.inl rfl) (pe_ix ix_list (pe_lst (pa_cons pe_int (pa_cons (pe_call G1 hr1 rfl m1 k1 b1 .nil pass0 (pa_cons (pv 0) (pa_cons (pv 3) pa_nil))) pa_nil))) (pe_call G1 hr1 rfl m1 k1 b1 .nil pass0 (pa_cons (pv 0) (pa_cons pe_int pa_nil))) (fun _ _ => rfl)))
        (pss_cons (ps_set (i := 7) nd rfl (Or.inl rfl) (pe_tup (pa_cons (pe_call G2 hr rfl m2 k2 b2 .nil pass0 (pa_cons (pv 0) (pa_cons (pv 1) pa_nil))) (pa_cons (pe_call G1 hr1 rfl m1 k1 b1 .nil pass0 (pa_cons (pv 0) (pa_cons (pv 3) pa_nil))) (pa_cons (pe_call G2 hr rfl m2 k2 b2 .nil pass0 (pa_cons (pv 0) (pa_cons (pv 1) pa_nil))) pa_nil)))))
        (pss_cons (ps_set (i := 8) nd rfl (Or.inl rfl) (pe_callTy call_list_of (by rfl) T2.list b_list (pa_cons (pv 4) pa_nil)))
        (pss_cons (ps_asg (pe_tup (pa_cons (pe_ix ix_tup (pe_ix ix_list (pv 4) (pv 6) (fun _ _ => rfl)) pe_int (fun _ _ => rfl)) (pa_cons (pe_op op_catX (pe_ix ix_tup (pe_ix ix_list (pv 4) (pv 6) (fun _ _ => rfl)) pe_int (fun _ _ => rfl)) (pe_tup (pa_cons (pv 7) pa_nil))) pa_nil))) (pg_sub (pv 8) (pv 6) set_list))
        (pss_one (ps_if (PW.pt (pw_and (pt_cmpR op_lt (pe_callB call_len_seq (by rfl) T.len b_len (pa_cons (pe_ix ix_tup (pe_ix ix_list (pv 4) (pv 6) (fun _ _ => rfl)) pe_int (fun _ _ => rfl)) pa_nil)) pe_int (nomark _)) (pw_and1 (pt_val (pe_call G3 hr1 rfl m3 k3 b3 .nil pass0 (pa_cons (pv 8) pa_nil))))))
          (pss_one (ps_set (i := 4) nd rfl (Or.inl rfl) (pv 8))) pss_nil)))))))
      (pss_one (ps_ret (pe_callTy call_tuple_of (by rfl) T.tuple b_tuple (pa_cons (pv 4) pa_nil)))))))), ?_⟩
    have small : (1000 : Nat) ≤ sizeLine := by rw [sizeLine_eq]; decide
    have A0 := Aft.refl hB
    refine ⟨by show (4 : Nat) ≤ _; omega, fun p1 np1 => ⟨_, rfl, z, 4, rfl, (A0.new np1).2, by decide, by decide, fun r1 H1 hr1' a1 => ?_⟩⟩
    have A1 : Aft z H H1 := (A0.new np1).trans a1
    have hp1 := a1.1 p1 _ (hB.ne np1) upd_same
    obtain ⟨v1, hv1, hm1⟩ := pickH hp1 (r := r1) (by show r1 < 4; omega)
    obtain ⟨x, ex, hx1, hx2, hx3⟩ : ∃ x, v1 = .str x ∧ 1 ≤ x.length ∧ x.length ≤ 100 ∧ signsOk x := by
      simp only [List.mem_cons, List.not_mem_nil, or_false] at hm1
      rcases hm1 with rfl | rfl | rfl | rfl <;> exact ⟨_, rfl, by decide +kernel, by decide +kernel, by unfold signsOk; decide +kernel⟩
    subst ex
    refine ⟨p1, _, r1, _, rfl, rfl, SqL.of hp1, atI_nat hv1, ?_⟩
    refine ⟨by show (4 : Nat) ≤ _; omega, fun p2 np2 => ⟨_, rfl, z, 4, rfl, (A1.new np2).2, by decide, by decide, fun r2 H2 hr2' a2 => ?_⟩⟩
    have A2 : Aft z H H2 := (A1.new np2).trans a2
    have hp2 := a2.1 p2 _ (A1.2.ne np2) upd_same
    obtain ⟨v2, hv2, hm2⟩ := pickH hp2 (r := r2) (by show r2 < 4; omega)
    obtain ⟨e, ee, he1⟩ : ∃ x, v2 = .str x ∧ escD (.str x) = true := by
      simp only [List.mem_cons, List.not_mem_nil, or_false] at hm2
      rcases hm2 with rfl | rfl | rfl | rfl <;> exact ⟨_, rfl, by decide +kernel⟩
    subst ee
    refine ⟨p2, _, r2, _, rfl, rfl, SqL.of hp2, atI_nat hv2, ?_⟩
    refine ⟨_, rfl, by show (3 : Nat) ≤ _; omega, fun p3 np3 => ⟨_, rfl, z, 3, rfl, (A2.new np3).2, by decide, by decide, fun r3 H3 hr3 a3 => ?_⟩⟩
    have A3 : Aft z H H3 := (A2.new np3).trans a3
    have hp3 := a3.1 p3 _ (A2.2.ne np3) upd_same
    obtain ⟨v3, hv3, hm3⟩ := pickH hp3 (r := r3) (by show r3 < 3; omega)
    obtain ⟨n3, en, hn1, hn2⟩ : ∃ n : Int, v3 = .int n ∧ 0 < n ∧ n ≤ 6 := by
      simp only [List.mem_cons, List.not_mem_nil, or_false] at hm3
      rcases hm3 with rfl | rfl | rfl <;> exact ⟨_, rfl, by decide, by decide⟩
    subst en
    refine ⟨p3, _, r3, _, rfl, rfl, SqL.of hp3, atI_nat hv3, z, n3, rfl, A3.2, hn1, by omega, fun r4 H4 hr4 a4 => ?_⟩
    have A4 : Aft z H H4 := A3.trans a4
    refine ⟨1, r4, rfl, rfl, ?_⟩
    refine ⟨_, rfl, 1 + r4, rfl, by omega, by omega, fun p np => ?_⟩
    have enat : (1 + (r4 : Int)).toNat = 1 + r4 := by omega
    rw [enat]
    have hpz := A4.2.ne np
    have hpH := A4.none np
    refine loop_range (fun i σ H5 => ∃ u, σ = [u, some (.ref z), some (.str e)] ∧ Aft z H H5 ∧ ∃ b, LBk z p b H5 ∧ b.length = i ∧ ∀ t ∈ b, t.2 = [] ∧ escD (.str t.1) = true) ⟨none, rfl, A4.new np, [], ⟨hpz, [], upd_same, .nil⟩, rfl, by simp⟩ ?_ ?_
    · rintro i σ H5 hi ⟨u, rfl, A5, b, L5, hbl, hb⟩
      refine ⟨_, rfl, by show (3 : Nat) ≤ _; omega, fun l nl => ⟨_, rfl, z, 3, rfl, (A5.new nl).2, by decide, by decide, fun r H6 hr6 a6 => ?_⟩⟩
      have A56 : Aft z H5 H6 := ((Aft.refl A5.2).new nl).trans a6
      have hl6 := a6.1 l _ (A5.2.ne nl) upd_same
      obtain ⟨v6, hv6, hm6⟩ := pickH hl6 (r := r) (by show r < 3; omega)
      obtain ⟨y, ey, hy1⟩ : ∃ x, v6 = .str x ∧ escD (.str x) = true := by
        simp only [List.mem_cons, List.not_mem_nil, or_false] at hm6
        rcases hm6 with rfl | rfl | rfl
        · exact ⟨_, rfl, he1⟩
        · exact ⟨_, rfl, by decide +kernel⟩
        · exact ⟨_, rfl, by decide +kernel⟩
      subst ey
      have hyl : y.length ≤ 1 := by unfold escD at hy1; simp at hy1; exact hy1.1
      refine ⟨l, _, r, _, rfl, rfl, SqL.of hl6, atI_nat hv6, Nat.zero_le _, fun q1 nq1 => ⟨by show (2 : Nat) ≤ _; omega, fun q2 nq2 => ?_⟩⟩
      have A58 := (A56.new (o := .tup []) nq1).new (o := .tup [.str y, .ref q1]) nq2
      have h8q2 : upd (upd H6 q1 (.tup [])) q2 (.tup [.str y, .ref q1]) q2 = some (.tup [.str y, .ref q1]) := upd_same
      have h8q1 : upd (upd H6 q1 (.tup [])) q2 (.tup [.str y, .ref q1]) q1 = some (.tup []) := Same.new nq2 _ _ upd_same
      generalize upd (upd H6 q1 (.tup [])) q2 (.tup [.str y, .ref q1]) = H8 at A58 h8q2 h8q1
      obtain ⟨_, vs, hp8, r8⟩ := L5.aft A58.1
      have hvl : vs.length = b.length := by have := r8.length; simpa using this
      refine ⟨vs, hp8, by omega, ⟨_, rfl, (A5.trans A58).upd hpH hpz, b ++ [(y, [])], ⟨hpz, vs ++ [.ref q2], upd_same, ?_⟩, by simp [hbl], fun t ht => ?_⟩⟩
      · rw [mask_upd, List.map_append]
        have n2 : q2 ≠ p := ne_of h8q2 hp8 (by intro z; cases z)
        have n1 : q1 ≠ p := ne_of h8q1 hp8 (by intro z; cases z)
        exact r8.append (.cons (.tup (by rw [mask_ne n2]; exact h8q2) (A58.2.neT h8q2) (.cons (.str y (by omega)) (.cons (.tup (by rw [mask_ne n1]; exact h8q1) (A58.2.neT h8q1) .nil) .nil))) .nil)
      · rcases List.mem_append.mp ht with ht | ht
        · exact hb t ht
        · have : t = (y, []) := by simpa using ht
          subst this
          exact ⟨rfl, hy1⟩
    · rintro σ H5 ⟨u, rfl, A5, b, L5, hbl, hb⟩
      refine ⟨_, rfl, _, rfl, 3, 1 + r4, rfl, rfl, .inl ⟨by decide, by decide⟩, z, 3 * (1 + r4), rfl, A5.2, by omega, by omega, fun r5 H6 hr5 a6 => ?_⟩
      refine ⟨2, r5, rfl, rfl, 2 + r5, rfl, by omega, by omega, ?_⟩
      have hok0 : ∀ t ∈ b, TgOk b.length t := fun t ht => by
        obtain ⟨h1, h2⟩ := hb t ht
        refine ⟨h2, by rw [h1]; decide, fun d hd => ?_⟩
        rw [h1] at hd
        cases hd
      refine for_range (fun i σ H7 => ∃ a b u5 u6 u7 u8, σ = [some (.ref z), some (.str x), some (.str e), some (.int (1 + r4)), some (.ref a), u5, u6, u7, u8] ∧ Aft z H H7 ∧ LBk z a b H7 ∧ b.length = 1 + r4 ∧ (∀ t ∈ b, TgOk b.length t) ∧ fitsB b = true)
        ⟨p, b, none, none, none, none, rfl, A5.trans a6, L5.aft a6.1, hbl, hok0, fits_empty fun t ht => (hb t ht).1⟩ ?_ ?_
      · clear hok0 hb hbl L5 hr5
        rintro i σ H7 hi ⟨a, b, u5, u6, u7, u8, rfl, A7, L7, hbl, hok, hfit⟩
        refine ⟨_, rfl, _, rfl, z, 1 + r4, rfl, A7.2, by omega, by omega, fun r6 H8 hr6 a8 => ?_⟩
        refine ⟨by show (2 : Nat) ≤ _; omega, fun p4 np4 => ⟨_, rfl, z, 2, rfl, (a8.new np4).2, by decide, by decide, fun r7 H9 hr7 a9 => ?_⟩⟩
        have A9 : Aft z H7 H9 := (a8.new np4).trans a9
        have hp9 := a9.1 p4 _ (a8.2.ne np4) upd_same
        obtain ⟨at', hat, hatm⟩ : ∃ at' : Nat, ([V.int 0, V.int r6] : List V)[r7]? = some (.int at') ∧ at' < 1 + r4 := by
          match r7, hr7 with
          | 0, _ => exact ⟨0, rfl, by omega⟩
          | 1, _ => exact ⟨r6, rfl, by omega⟩
          | m + 2, h => omega
        refine ⟨p4, _, r7, _, rfl, rfl, SqL.of hp9, atI_nat hat, ?_⟩
        refine ⟨_, rfl, _, rfl, z, x, rfl, A9.2, hx1, hx2, hx3, fun m1 H10 hm1 a10 => ⟨_, rfl, _, rfl, z, 1 + r4, rfl, a10.2, by omega, by omega, fun r8 H11 hr8 a11 => ⟨_, rfl, _, rfl, z, x, rfl, a11.2, hx1, hx2, hx3, fun m2 H12 hm2 a12 => ⟨by show (3 : Nat) ≤ _; omega, fun q0 nq0 => ?_⟩⟩⟩⟩
        have A13 := (((A9.trans a10).trans a11).trans a12).new (o := .tup [.str m1, .int r8, .str m2]) nq0
        have hq0 : upd H12 q0 (.tup [.str m1, .int r8, .str m2]) q0 = some (.tup [.str m1, .int r8, .str m2]) := upd_same
        generalize upd H12 q0 (.tup [.str m1, .int r8, .str m2]) = H13 at A13 hq0
        obtain ⟨haz, vs, ha13, R13⟩ := L7.aft A13.1
        have hvl : vs.length = b.length := by have := R13.length; simpa using this
        refine ⟨_, rfl, a, vs, rfl, .inl (SqL.of ha13), fun l nl => ?_⟩
        have hatb : at' < b.length := by omega
        have htok := hok _ (getD_mem tg0 hatb)
        obtain ⟨c, d, ys, ec, hcz, hdz, hc, hd, hyl, Ry⟩ := rep_tongue (reps_tongue (b := b) (i := at') R13 hatb)
        have hyl : ys.length = (b.getD at' tg0).2.length := hyl
        have exv : vs[at']? = some (.ref c) := by
          have h1 : at' < vs.length := by omega
          have h2 : vs.getD at' .non = vs[at'] := by simp [h1]
          rw [List.getElem?_eq_getElem h1, ← h2, ec]
        generalize hT : b.getD at' tg0 = tt at *
        have hc13 := (mask_some hc).2
        have hd13 := (mask_some hd).2
        have s14 : Same H13 (upd H13 l (.lst vs)) := Same.new nl
        have few := htok.2.1
        have el : tt.1.length ≤ 1 := by have := htok.1; unfold escD at this; simp at this; exact this.1
        refine ⟨_, rfl, _, rfl, a, vs, at', _, rfl, rfl, SqL.of (s14 _ _ ha13), atI_nat exv, c, _, 0, _, rfl, rfl, SqT.of (s14 _ _ hc13), atI_nat (j := 0) rfl, _, rfl, _, rfl, a, vs, at', _, rfl, rfl, SqL.of (s14 _ _ ha13), atI_nat exv, c, _, 1, _, rfl, rfl, SqT.of (s14 _ _ hc13), atI_nat (j := 1) rfl, _, rfl, by show (1 : Nat) ≤ _; omega, fun q1 nq1 => ?_⟩
        have s15 := Same.new (o := .tup [.ref q0]) nq1
        refine ⟨d, q1, ys, [.ref q0], rfl, rfl, s15 _ _ (s14 _ _ hd13), upd_same, by show ys.length + 1 ≤ _; omega, fun p2 H16 s16 hp2 => ⟨by show (2 : Nat) ≤ _; omega, fun q3 nq3 => ?_⟩⟩
        have s17 := Same.new (o := .tup [.str tt.1, .ref p2]) nq3
        have hq3 : upd H16 q3 (.tup [.str tt.1, .ref p2]) q3 = some (.tup [.str tt.1, .ref p2]) := upd_same
        have hl17 := s17 _ _ (s16 _ _ (s15 _ _ (upd_same (H := H13) (a := l) (o := .lst vs))))
        have hp17 := s17 _ _ hp2
        have sAll : Same H13 (upd H16 q3 (.tup [.str tt.1, .ref p2])) := s14.trans (s15.trans (s16.trans s17))
        generalize upd H16 q3 (.tup [.str tt.1, .ref p2]) = H17 at hq3 hl17 hp17 sAll
        refine ⟨_, rfl, _, rfl, l, vs, at', at', rfl, rfl, hl17, ixN_nat (by omega), ?_⟩
        have hlz := A13.2.ne nl
        have A18 : Aft z H7 (upd H17 l (.lst (vs.set at' (.ref q3)))) := (A13.same sAll).upd (A13.none nl) hlz
        have S18 : Aft z H13 (upd H17 l (.lst (vs.set at' (.ref q3)))) := ((Aft.refl A13.2).same sAll).upd nl hlz
        have hl18 : upd H17 l (.lst (vs.set at' (.ref q3))) l = some (.lst (vs.set at' (.ref q3))) := upd_same
        have hmask : mask l (upd H17 l (.lst (vs.set at' (.ref q3)))) = mask l H17 := mask_upd
        generalize upd H17 l (.lst (vs.set at' (.ref q3))) = H18 at A18 S18 hl18 hmask
        have L18 : LBk z l (b.set at' (tt.1, tt.2 ++ [(m1, (r8 : Int), m2)])) H18 := by
          refine ⟨hlz, _, hl18, ?_⟩
          rw [hmask, List.map_set]
          have n3 : q3 ≠ l := ne_of hq3 hl17 (by intro z; cases z)
          have n2 : p2 ≠ l := ne_of hp17 hl17 (by intro z; cases z)
          have n0 : q0 ≠ l := ne_of (sAll _ _ hq0) hl17 (by intro z; cases z)
          have b17 : Bag z H17 := (A13.same sAll).2
          have g1 := markS_len hm1
          have g2 := markS_len hm2
          refine Reps.set (.tup (by rw [mask_ne n3]; exact hq3) (b17.neT hq3) (.cons (.str tt.1 (by omega)) (.cons (.tup (by rw [mask_ne n2]; exact hp17) (b17.neT hp17) ?_) .nil))) at' (R13.mono (mask_new nl sAll.x))
          rw [List.map_append]
          exact (Ry.mono (mask_new nl sAll.x)).append (.cons (.tup (by rw [mask_ne n0]; exact sAll _ _ hq0) (A13.2.neT hq0) (.cons (.str m1 (by omega)) (.cons (.int (r8 : Int)) (.cons (.str m2 (by omega)) .nil)))) .nil)
        have La := L7.aft A18.1
        refine ⟨_, rfl, _, rfl, a, vs, at', _, rfl, rfl, SqL.of (S18.1 _ _ haz ha13), atI_nat exv, c, _, 1, _, rfl, rfl, SqT.of (S18.1 _ _ hcz hc13), atI_nat (j := 1) rfl, d, ys, rfl, .inr (SqT.of (S18.1 _ _ hdz hd13)), _, _, rfl, rfl, _, rfl, ?_⟩
        refine ite2 (fun g1 => ?_) (fun g1 => ?_)
        · have few6 : tt.2.length < 6 := by
            have := of_decide_eq_true g1
            omega
          have hbl' : (b.set at' (tt.1, tt.2 ++ [(m1, (r8 : Int), m2)])).length = b.length := by simp
          have hok' : ∀ t ∈ b.set at' (tt.1, tt.2 ++ [(m1, (r8 : Int), m2)]), TgOk (b.set at' (tt.1, tt.2 ++ [(m1, (r8 : Int), m2)])).length t := by
            rw [hbl']
            intro t ht
            rcases List.mem_or_eq_of_mem_set ht with ht | ht
            · exact hok t ht
            · subst ht
              refine ⟨htok.1, by simp; omega, fun dr hdr => ?_⟩
              rcases List.mem_append.mp hdr with hdr | hdr
              · exact htok.2.2 dr hdr
              · have : dr = (m1, (r8 : Int), m2) := by simpa using hdr
                subst this
                exact ⟨hm1, ⟨by show (0 : Int) ≤ r8; omega, by show (r8 : Int) < b.length; omega⟩, hm2⟩
          obtain ⟨_, ws, hw, Rw⟩ := id L18
          refine ⟨_, rfl, z, l, ws, _, rfl, .inr hw, Rw.mono mask_le, by omega, hok', fun H19 s19 => ⟨_, rfl, ?_⟩⟩
          cases gf : fitsB (b.set at' (tt.1, tt.2 ++ [(m1, (r8 : Int), m2)])) with
          | true => exact iteT ⟨_, rfl, l, _, _, _, _, _, rfl, A7.trans (A18.same s19), L18.aft s19.x, by omega, hok', gf⟩
          | false => exact iteF ⟨a, b, _, _, _, _, rfl, A7.trans (A18.same s19), La.aft s19.x, hbl, hok, hfit⟩
        · exact iteF ⟨a, b, _, _, _, _, rfl, A7.trans A18, La, hbl, hok, hfit⟩
      · rintro σ H7 ⟨a, b, u5, u6, u7, u8, rfl, A7, L7, hbl, hok, hfit⟩
        obtain ⟨haz, vs, ha, R7⟩ := L7
        refine ⟨_, rfl, a, vs, rfl, .inl ⟨SqL.of ha, fun l nl => k _ b _ (A7.new nl) (.tup upd_same (A7.2.ne nl) ((R7.mono mask_le).mono (Same.new nl).x)) ⟨by omega, by omega, hok, ?_⟩⟩⟩
        rw [← fits_book hok]
        exact hfit
end
end T1
namespace T1
open PySem L2
def Sm (m : Str) : Prop := 1 ≤ m.length ∧ m.length ≤ 4
def spLMarks : Sp := fun vs H Q _ => ∃ z v b, vs = [v] ∧ Rep z H v (bkD b) ∧ BkOk b ∧ ∀ p (ms : List Str) H', Same H H' → H p = none → H' p = some (.lst (ms.map V.str)) → ms.length ≤ 100 → (∀ m ∈ ms, Sm m) → Q (.ref p) H'
def spText : Sp := fun vs H Q _ => ∃ z v b, ∃ n : Nat, vs = [.ref z, v, .int n] ∧ Bag z H ∧ Rep z H v (bkD b) ∧ BkOk b ∧ 0 < n ∧ n ≤ 4000 ∧ ∀ x H', Aft z H H' → x.length ≤ 4 * n → Q (.str x) H'
section
variable {P : Program} {w : World} {K : PySem.W.Frag} {mg : Str → Option Value} {base : Heap}
theorem scLMarks : FnScope ["book", "found", "escape", "doors", "door"] ["book"] (defScope lMarks) := ⟨rfl, rfl, rfl, by decide +kernel, rfl, by decide +kernel, by decide +kernel⟩
set_option maxHeartbeats 0 in
theorem ok_lmarks {f : Addr} {fd : FuncData} (F : Fun K "_law_marks" "_law_marks" lMarks f fd) : FnOk P w K mg base CX0 1 f fd ["book"] spLMarks := by
  refine F.ok scLMarks (fun vs H Q E h => ?_) (fun cdv A outer s H vs Q E hr h => ?_)
  · obtain ⟨z, v, b, rfl, _⟩ := h
    rfl
  · obtain ⟨z, v, b, rfl, R0, hok, k⟩ := h
    obtain ⟨a, xs, rfl, haz, ha, hxl, R⟩ := rep_book R0
    obtain ⟨hb1, hb6, htok, _⟩ := hok
    have nd := scLMarks.nd
    refine ⟨_, pss_cons (ps_set (i := 1) nd rfl (Or.inl rfl) (pe_lst pa_nil))
      (pss_cons (ps_for PassesOwn.never rfl (pi_tup (pv 0)) (pg_tup rfl (pgs_cons (pg_name (i := 2) nd rfl (Or.inl rfl)) (pgs_cons (pg_name (i := 3) nd rfl (Or.inl rfl)) pgs_nil)))
        (pss_cons (ps_for PassesOwn.never rfl (pi_tup (pv 3)) (pg_name (i := 4) nd rfl (Or.inl rfl)) (pss_one (ps_set (i := 1) nd rfl (Or.inl rfl) (pe_op op_cat (pv 1) (pe_lst (pa_cons (pe_ix ix_tup (pv 4) pe_int (fun _ _ => rfl)) (pa_cons (pe_ix ix_tup (pv 4) pe_int (fun _ _ => rfl)) pa_nil)))))))
        (pss_one (ps_if (pt_cmpR op_ne (pv 2) pe_str (nomark _)) (pss_one (ps_expr (pe_bm PySem.F.plainAttrs_list PySem.F.slot_list_append PySem.F.type_list_append mt_append (pv 1) (pa_cons (pv 2) pa_nil)))) pss_nil))))
      (pss_one (ps_ret (pv 1)))), ?_⟩
    have big := big1000
    refine ⟨Nat.zero_le _, fun p0 np0 => ?_⟩
    have s0 : Same H (upd H p0 (.lst [])) := Same.new np0
    refine ⟨_, rfl, a, rfl, ⟨_, SqT.of (s0 _ _ ha)⟩, for_tup (K := K) (a := a) (xs := xs) (fun i σ H2 => ∃ p ms u2 u3 u4, σ = [some (.ref a), some (.ref p), u2, u3, u4] ∧ Same H H2 ∧ H p = none ∧ H2 p = some (.lst (ms.map V.str)) ∧ ms.length ≤ 13 * i ∧ ∀ m ∈ ms, Sm m)
      ⟨p0, [], none, none, none, rfl, s0, np0, by rw [upd_same]; rfl, by simp, by simp⟩ (fun i σ H2 _ ⟨_, _, _, _, _, _, s, _⟩ => SqT.of (s _ _ ha)) ?_ ?_⟩
    · rintro i y σ H2 hi ⟨p, ms, u2, u3, u4, rfl, s2, np, hp, hml, hms⟩
      have hil : i < b.length := by have := (List.getElem?_eq_some_iff.mp hi).1; omega
      have ey : y = xs.getD i .non := by rw [List.getD_eq_getElem?_getD, hi]; rfl
      have tok := htok _ (getD_mem tg0 hil)
      obtain ⟨c, d, ys, e, hcz, hdz, hc, hd, hyl, Ry⟩ := rep_tongue (reps_tongue (b := b) (i := i) R hil)
      have hyl : ys.length = (b.getD i tg0).2.length := hyl
      rw [ey, e]
      generalize hT : b.getD i tg0 = tt at *
      have few := tok.2.1
      refine ⟨c, _, rfl, SqT.of (s2 _ _ hc), rfl, _, _, rfl, _, _, rfl, rfl, ?_⟩
      refine ⟨_, rfl, d, rfl, ⟨_, SqT.of (s2 _ _ hd)⟩, for_tup (K := K) (a := d) (xs := ys) (fun j σ H3 => ∃ p ms u4, σ = [some (.ref a), some (.ref p), some (.str tt.1), some (.ref d), u4] ∧ Same H H3 ∧ H p = none ∧ H3 p = some (.lst (ms.map V.str)) ∧ ms.length ≤ 13 * i + 2 * j ∧ ∀ m ∈ ms, Sm m)
        ⟨p, ms, _, rfl, s2, np, hp, by omega, hms⟩ (fun j σ H3 _ ⟨_, _, _, _, s, _⟩ => SqT.of (s _ _ hd)) ?_ ?_⟩
      · rintro j y2 σ H3 hj ⟨p, ms, u4, rfl, s3, np, hp, hml, hms⟩
        have hjl : j < tt.2.length := by have := (List.getElem?_eq_some_iff.mp hj).1; omega
        have ey2 : y2 = ys.getD j .non := by rw [List.getD_eq_getElem?_getD, hj]; rfl
        obtain ⟨q, e2, hqz, hq⟩ := rep_door (reps_door (ds := tt.2) (i := j) Ry hjl)
        have dok := tok.2.2 _ (getD_mem dr0 hjl)
        rw [ey2, e2]
        refine ⟨_, rfl, _, rfl, q, _, 0, _, rfl, rfl, SqT.of (s3 _ _ hq), atI_nat (j := 0) rfl, _, rfl, q, _, 2, _, rfl, rfl, SqT.of (s3 _ _ hq), atI_nat (j := 2) rfl, by show (2 : Nat) ≤ _; omega, fun l nl => ?_⟩
        have s4 := Same.new (o := .lst [.str (tt.2.getD j dr0).1, .str (tt.2.getD j dr0).2.2]) nl
        refine ⟨p, l, ms.map V.str, _, rfl, rfl, s4 _ _ hp, upd_same, by rw [List.length_map]; show _ + 2 ≤ _; omega, fun p2 np2 => ?_⟩
        have s5 := Same.new (o := .lst (ms.map V.str ++ [.str (tt.2.getD j dr0).1, .str (tt.2.getD j dr0).2.2])) np2
        refine ⟨p2, ms ++ [(tt.2.getD j dr0).1, (tt.2.getD j dr0).2.2], _, rfl, (s3.trans s4).trans s5, (s3.trans s4).free np2, by rw [upd_same]; simp, by rw [List.length_append]; show _ + 2 ≤ _; omega, fun m hm => ?_⟩
        rcases List.mem_append.mp hm with hm | hm
        · exact hms m hm
        · have g1 := markS_len dok.1
          have g2 := markS_len dok.2.2
          simp only [List.mem_cons, List.not_mem_nil, or_false] at hm
          rcases hm with rfl | rfl
          · exact ⟨g1.2, g1.1⟩
          · exact ⟨g2.2, g2.1⟩
      · rintro σ H3 ⟨p, ms, u4, rfl, s3, np, hp, hml, hms⟩
        refine ⟨_, rfl, rfl, _, rfl, ?_⟩
        have el : tt.1.length ≤ 1 := by have := tok.1; unfold escD at this; simp at this; exact this.1
        refine ite2 (fun g => ?_) (fun g => ?_)
        · refine ⟨_, rfl, .inl ⟨rfl, _, SqL.of hp⟩, _, rfl, p, _, _, rfl, rfl, hp, by rw [List.length_map]; omega, ?_⟩
          refine ⟨p, ms ++ [tt.1], _, _, _, rfl, fun b' o e' => by rw [upd_ne (ne_of_none e' np)]; exact s3 b' o e', np, by rw [upd_same]; simp, by rw [List.length_append]; show _ + 1 ≤ _; omega, fun m hm => ?_⟩
          rcases List.mem_append.mp hm with hm | hm
          · exact hms m hm
          · have : m = tt.1 := by simpa using hm
            subst this
            refine ⟨?_, by omega⟩
            rcases escD_cases tt.1 el with ⟨ex, _⟩ | ⟨c', ex, _⟩
            · rw [ex] at g
              simp at g
            · rw [ex]
              show 1 ≤ 1
              exact Nat.le_refl _
        · exact ⟨p, ms, _, _, _, rfl, s3, np, hp, by omega, hms⟩
    · rintro σ H2 ⟨p, ms, u2, u3, u4, rfl, s2, np, hp, hml, hms⟩
      exact ⟨_, rfl, k p ms H2 s2 np hp (by omega) hms⟩
theorem scText : FnScope ["bag", "book", "most", "some", "found", "turn", "one"] ["bag", "book", "most"] (defScope lText) := ⟨rfl, rfl, rfl, by decide +kernel, rfl, by decide +kernel, by decide +kernel⟩
theorem cutS_len (z : Str) (lo hi : Option Int) : (cutS z lo hi).length ≤ z.length := by
  unfold cutS
  show (List.toArray _).size ≤ _
  rw [List.size_toArray, List.length_take, List.length_drop]
  have : z.cps.toList.length = z.length := by simp; rfl
  omega
theorem five_sm : ∀ m ∈ [Str.ofString "x", Str.ofString " ", Str.ofString "a", Str.ofString "b", Str.ofString "\n"], 1 ≤ m.length ∧ m.length ≤ 4 := by decide +kernel
set_option maxHeartbeats 0 in
theorem ok_text {f f1 f2 : Addr} {fd fd1 fd2 : FuncData} (F : Fun K "_law_text" "_law_text" lText f fd) (T : TxtB mg)
    (k1 : PySem.W.keepIn K (.ref f1) = true) (b1 : Binds K fd1 ["bag", "many"] []) (m1 : mg "_law_take" = some (.ref f1)) (G1 : FnOk P w K mg base CX0 1 f1 fd1 ["bag", "many"] spTake)
    (k2 : PySem.W.keepIn K (.ref f2) = true) (b2 : Binds K fd2 ["book"] []) (m2 : mg "_law_marks" = some (.ref f2)) (G2 : FnOk P w K mg base CX0 1 f2 fd2 ["book"] spLMarks) : FnOk P w K mg base CX0 2 f fd ["bag", "book", "most"] spText := by
  refine F.ok scText (fun vs H Q E h => ?_) (fun cdv A outer s H vs Q E hr h => ?_)
  · obtain ⟨z, v, b, n, rfl, _⟩ := h
    rfl
  · obtain ⟨z, v, b, n, rfl, hB, R, hok, hn1, hn2, k⟩ := h
    have nd := scText.nd
    refine ⟨_, pss_cons (ps_set (i := 3) nd rfl (Or.inl rfl) (pe_op op_cat (pe_call G2 hr rfl m2 k2 b2 .nil pass0 (pa_cons (pv 1) pa_nil)) (pe_lst (pa_K pe_str (pa_K pe_str (pa_K pe_str (pa_K pe_str (pa_K pe_str pa_nil))))))))
      (pss_cons (ps_set (i := 4) nd rfl (Or.inl rfl) pe_str)
      (pss_cons (ps_for PassesOwn.never rfl (pi_range1 rfl T.range (pa_cons (pe_call G1 hr rfl m1 k1 b1 .nil pass0 (pa_cons (pv 0) (pa_cons (pv 2) pa_nil))) pa_nil)) (pg_name (i := 5) nd rfl (Or.inl rfl))
        (pss_cons (ps_set (i := 6) nd rfl (Or.inl rfl) (pe_ix ix_list (pv 3) (pe_call G1 hr rfl m1 k1 b1 .nil pass0 (pa_cons (pv 0) (pa_cons (pe_callB call_len_seq (by rfl) T.len b_len (pa_cons (pv 3) pa_nil)) pa_nil))) (fun _ _ => rfl)))
        (pss_cons (ps_if (pt_cmpR op_eq (pe_call G1 hr rfl m1 k1 b1 .nil pass0 (pa_cons (pv 0) (pa_cons pe_int pa_nil))) pe_int (nomark _))
          (pss_one (ps_set (i := 6) nd rfl (Or.inl rfl) (pe_slice sl_str (pv 6) po_none (po_some (pe_op op_add pe_int (pe_call G1 hr rfl m1 k1 b1 .nil pass0 (pa_cons (pv 0) (pa_cons (pe_callB call_len_str (by rfl) T.len b_len (pa_cons (pv 6) pa_nil)) pa_nil)))))))) pss_nil)
        (pss_one (ps_set (i := 4) nd rfl (Or.inl rfl) (pe_op op_add_str (pv 4) (pv 6)))))))
      (pss_one (ps_ret (pv 4))))), ?_⟩
    have big := big1000
    have big2 : (100000 : Nat) ≤ sizeLine := by rw [sizeLine_eq]; decide
    refine ⟨_, rfl, z, v, b, rfl, R, hok, fun p1 ms H1 s1 np1 hp1 hml hms => ⟨by show (5 : Nat) ≤ _; omega, fun l nl => ?_⟩⟩
    have s2 := Same.new (o := .lst ([Str.ofString "x", Str.ofString " ", Str.ofString "a", Str.ofString "b", Str.ofString "\n"].map V.str)) nl
    refine ⟨p1, l, ms.map V.str, [Str.ofString "x", Str.ofString " ", Str.ofString "a", Str.ofString "b", Str.ofString "\n"].map V.str, rfl, rfl, s2 _ _ hp1, upd_same, by rw [List.length_map]; show _ + 5 ≤ _; omega, fun p2 np2 => ?_⟩
    have np2 : upd H1 l (.lst ([Str.ofString "x", Str.ofString " ", Str.ofString "a", Str.ofString "b", Str.ofString "\n"].map V.str)) p2 = none := np2
    have emap : ms.map V.str ++ [Str.ofString "x", Str.ofString " ", Str.ofString "a", Str.ofString "b", Str.ofString "\n"].map V.str = (ms ++ [Str.ofString "x", Str.ofString " ", Str.ofString "a", Str.ofString "b", Str.ofString "\n"]).map V.str := (List.map_append ..).symm
    rw [emap]
    have five := five_sm
    show (tSeq _ _) _ _ (upd (upd H1 l (.lst ([Str.ofString "x", Str.ofString " ", Str.ofString "a", Str.ofString "b", Str.ofString "\n"].map V.str))) p2 (.lst ((ms ++ [Str.ofString "x", Str.ofString " ", Str.ofString "a", Str.ofString "b", Str.ofString "\n"]).map V.str)))
    clear emap
    have h5 : [Str.ofString "x", Str.ofString " ", Str.ofString "a", Str.ofString "b", Str.ofString "\n"].length = 5 := rfl
    generalize [Str.ofString "x", Str.ofString " ", Str.ofString "a", Str.ofString "b", Str.ofString "\n"] = f5 at *
    have s3 := Same.new (o := .lst ((ms ++ f5).map V.str)) np2
    have hB2 := ((hB.same s1).same s2)
    have hz2 := hB2.ne np2
    have A3 : Aft z H (upd (upd H1 l (.lst (f5.map V.str))) p2 (.lst ((ms ++ f5).map V.str))) := (((Aft.refl hB).same s1).same s2).new np2
    have hp3 : upd (upd H1 l (.lst (f5.map V.str))) p2 (.lst ((ms ++ f5).map V.str)) p2 = some (.lst ((ms ++ f5).map V.str)) := upd_same
    generalize upd (upd H1 l (.lst (f5.map V.str))) p2 (.lst ((ms ++ f5).map V.str)) = H3 at A3 hp3
    have hall : ∀ m ∈ ms ++ f5, Sm m := fun m hm => (List.mem_append.mp hm).elim (hms m) (five m)
    have hlen : (ms ++ f5).length ≤ 105 := by rw [List.length_append]; omega
    have hlen1 : 1 ≤ (ms ++ f5).length := by rw [List.length_append]; omega
    generalize ms ++ f5 = so at *
    refine ⟨_, rfl, _, rfl, z, n, rfl, A3.2, by omega, by omega, fun r H4 hr4 a4 => ⟨r, rfl, by omega, by omega, ?_⟩⟩
    have hp4 := a4.1 _ _ hz2 hp3
    have A4 := A3.trans a4
    have er : ((r : Int)).toNat = r := Int.toNat_natCast r
    rw [er]
    have hlm : (so.map V.str).length = so.length := List.length_map ..
    refine for_range (fun i σ H5 => ∃ x u5 u6, σ = [some (.ref z), some v, some (.int n), some (.ref p2), some (.str x), u5, u6] ∧ Aft z H H5 ∧ H5 p2 = some (.lst (so.map V.str)) ∧ x.length ≤ 4 * i) ⟨_, none, none, rfl, A4, hp4, by decide +kernel⟩ ?_ ?_
    · rintro i σ H5 hi ⟨x, u5, u6, rfl, A5, hp5, hxl⟩
      refine ⟨_, rfl, _, rfl, _, rfl, p2, _, rfl, .inl (SqL.of hp5), z, (so.map V.str).length, rfl, A5.2, by omega, by omega, fun r2 H6 hr2 a6 => ?_⟩
      have hr3 : r2 < so.length := by omega
      have A6 := A5.trans a6
      have hp6 := a6.1 _ _ hz2 hp5
      obtain ⟨g1, g2⟩ := hall so[r2] (List.getElem_mem hr3)
      refine ⟨p2, _, r2, .str so[r2], rfl, rfl, SqL.of hp6, atI_nat (by simp [hr3]), ?_⟩
      generalize so[r2] = m at g1 g2
      refine ⟨_, rfl, z, 6, rfl, A6.2, by decide, by decide, fun r3 H7 hr7 a7 => ⟨rfl, _, rfl, ?_⟩⟩
      have A7 := A6.trans a7
      have hp7 := a7.1 _ _ hz2 hp6
      refine ite2 (fun g => ?_) (fun g => ?_)
      · refine ⟨_, rfl, _, rfl, _, rfl, m, rfl, by omega, z, m.length, rfl, A7.2, by omega, by omega, fun r4 H8 hr8 a8 => ⟨1, r4, rfl, rfl, _, rfl, m, rfl, by omega, ?_⟩⟩
        have hc := cutS_len m none (some (1 + (r4 : Int)))
        exact ⟨_, rfl, _, rfl, _, _, rfl, rfl, by omega, _, _, _, rfl, A7.trans a8, a8.1 _ _ hz2 hp7, by rw [str_len_append]; omega⟩
      · exact ⟨_, rfl, _, rfl, _, _, rfl, rfl, by omega, _, _, _, rfl, A7, hp7, by rw [str_len_append]; omega⟩
    · rintro σ H5 ⟨x, u5, u6, rfl, A5, hp5, hxl⟩
      exact ⟨_, rfl, k x H5 A5 (by omega)⟩
end
end T1
namespace T1
open PySem L2
abbrev LDr := Int × Int × Str
def ldD (d : LDr) : D := .tup [.int d.1, .int d.2.1, .str d.2.2]
abbrev ld0 : LDr := (0, 0, ⟨#[]⟩)
theorem noL_lds : ∀ ds : List LDr, NoLs (ds.map ldD)
  | [] => .nil
  | d :: r => .cons (.tup (.cons (.int _) (.cons (.int _) (.cons (.str _) .nil)))) (noL_lds r)
def LdOk (b : Bk) (ds : List LDr) : Prop := ∀ d ∈ ds, (0 ≤ d.2.1 ∧ d.2.1 < b.length) ∧ Sm d.2.2
def tongueL (ds : List LDr) : Int := match ds.getLast? with
  | some d => d.2.1
  | none => 0
def lastL (ds : List LDr) : List LDr := ds.drop (ds.length - 1)
def fitAt (x : Str) (i : Nat) (m : Str) : Bool := decide (V.str (cutS x (some (i : Int)) (some ((i : Int) + m.length))) = V.str m)
def someL (b : Bk) (ds : List LDr) : List Str := opensOf (b.getD (tongueL ds).toNat tg0).2 ++ (lastL ds).map (·.2.2)
def fitL (b : Bk) (ds : List LDr) (x : Str) (i : Nat) : List Str := (someL b ds).filter (fitAt x i)
section
variable {P : Program} {w : World} {K : PySem.W.Frag} {mg : Str → Option Value} {base : Heap}
end
end T1
namespace T1
open PySem L2
abbrev Stp := Int × Int × Str × Int × Int
def stV (s : Stp) : List V := [.int s.1, .int s.2.1, .str s.2.2.1, .int s.2.2.2.1, .int s.2.2.2.2]
def stD (s : Stp) : D := .tup [.int s.1, .int s.2.1, .str s.2.2.1, .int s.2.2.2.1, .int s.2.2.2.2]
def stepL (b : Bk) (ds : List LDr) (x : Str) (i : Nat) (m : Str) : Stp × List LDr :=
  if (b.getD (tongueL ds).toNat tg0).1 ≠ Str.ofString "" ∧ (⟨#[x.cps.getD i 0]⟩ : Str) = (b.getD (tongueL ds).toNat tg0).1 then
    (if i + 1 = x.length then (((i : Int), 1, Str.ofString "cut", tongueL ds, (ds.length : Int)), ds) else (((i : Int), 2, Str.ofString "escape", tongueL ds, (ds.length : Int)), ds))
  else if m = Str.ofString "" then (((i : Int), 1, Str.ofString "sign", tongueL ds, (ds.length : Int)), ds)
  else if ds ≠ [] ∧ m = (ds.getD (ds.length - 1) ld0).2.2 then (((i : Int), (m.length : Int), Str.ofString "close", tongueL ds.dropLast, (ds.length : Int) - 1), ds.dropLast)
  else match (b.getD (tongueL ds).toNat tg0).2.filter (fun d => d.1 == m) with
    | d :: _ => (((i : Int), (m.length : Int), Str.ofString "open", tongueL ds, (ds.length : Int)), ds ++ [((i : Int), d.2.1, d.2.2)])
    | [] => (((i : Int), 0, Str.ofString "", 0, 0), ds)
theorem tongue_last {ds : List LDr} (h : 0 < ds.length) : tongueL ds = (ds.getD (ds.length - 1) ld0).2.1 := by
  have hlast : ds.getLast? = some (ds.getD (ds.length - 1) ld0) := by
    rw [List.getLast?_eq_getElem?]
    have : ds.length - 1 < ds.length := by omega
    simp [this]
  unfold tongueL
  rw [hlast]
theorem tongue_nat {b : Bk} {ds : List LDr} (hld : LdOk b ds) (hb : 1 ≤ b.length) : ∃ tN : Nat, tongueL ds = (tN : Int) ∧ tN < b.length := by
  unfold tongueL
  cases g : ds.getLast? with
  | none => exact ⟨0, rfl, by omega⟩
  | some d =>
    have := (hld d (List.mem_of_getLast? g)).1
    exact ⟨d.2.1.toNat, by show d.2.1 = _; omega, by omega⟩
mutual
theorem Rep.butL {z q : Addr} {H H' : Hp} {l : List V} (hq : H q = some (.lst l)) (s : SameX q H H') : ∀ {v : V} {d : D}, Rep z H v d → NoL d → Rep z H' v d
  | _, _, .non, _ => .non
  | _, _, .bl b, _ => .bl b
  | _, _, .int i, _ => .int i
  | _, _, .str x h, _ => .str x h
  | _, _, .tup h hz r, .tup t => .tup (s _ _ (ne_of h hq (by intro q; cases q)) h) hz (Reps.butL hq s r t)
theorem Reps.butL {z q : Addr} {H H' : Hp} {l : List V} (hq : H q = some (.lst l)) (s : SameX q H H') : ∀ {vs : List V} {ds : List D}, Reps z H vs ds → NoLs ds → Reps z H' vs ds
  | _, _, .nil, _ => .nil
  | _, _, .cons h t, .cons h' t' => .cons (Rep.butL hq s h h') (Reps.butL hq s t t')
end
theorem Reps.dropLast {z : Addr} {H : Hp} {vs : List V} {ds : List D} (r : Reps z H vs ds) : Reps z H vs.dropLast ds.dropLast := by
  rw [List.dropLast_eq_take, List.dropLast_eq_take, r.length]
  exact r.take _
section
variable {P : Program} {w : World} {K : PySem.W.Frag} {mg : Str → Option Value} {base : Heap}
end
end T1
namespace T1
open PySem L2
abbrev eS : Str := ⟨#[]⟩
def bestOf (l : List Str) : Str := l.foldl (fun acc m => if acc.length < m.length then m else acc) eS
theorem best_fold : ∀ (l : List Str) (acc : Str), let r := l.foldl (fun acc m => if acc.length < m.length then m else acc) acc
    (r = acc ∨ r ∈ l) ∧ acc.length ≤ r.length ∧ ∀ m ∈ l, m.length ≤ r.length
  | [], acc => ⟨.inl rfl, Nat.le_refl _, fun m hm => nomatch hm⟩
  | a :: l, acc => by
    have ih := best_fold l (if acc.length < a.length then a else acc)
    obtain ⟨h1, h2, h3⟩ := ih
    simp only [List.foldl_cons]
    by_cases h : acc.length < a.length
    · rw [if_pos h] at h1 h2 h3 ⊢
      refine ⟨?_, by omega, fun m hm => ?_⟩
      · rcases h1 with h1 | h1
        · exact .inr (by rw [h1]; exact List.mem_cons_self)
        · exact .inr (List.mem_cons_of_mem _ h1)
      · rcases List.mem_cons.mp hm with rfl | hm
        · exact h2
        · exact h3 m hm
    · rw [if_neg h] at h1 h2 h3 ⊢
      refine ⟨?_, h2, fun m hm => ?_⟩
      · rcases h1 with h1 | h1
        · exact .inl h1
        · exact .inr (List.mem_cons_of_mem _ h1)
      · rcases List.mem_cons.mp hm with rfl | hm
        · omega
        · exact h3 m hm
theorem best_props {l : List Str} (hs : ∀ m ∈ l, Sm m) : (l = [] ∧ bestOf l = eS) ∨ (bestOf l ∈ l ∧ ∀ m ∈ l, m.length ≤ (bestOf l).length) := by
  obtain ⟨h1, h2, h3⟩ := best_fold l eS
  cases l with
  | nil => exact .inl ⟨rfl, rfl⟩
  | cons a r =>
    refine .inr ⟨?_, h3⟩
    rcases h1 with h1 | h1
    · exfalso
      have := h3 a List.mem_cons_self
      have g := (hs a List.mem_cons_self).1
      rw [h1] at this
      have : a.length ≤ 0 := this
      omega
    · exact h1
theorem fit_eq {x : Str} {i : Nat} {m m' : Str} (h : fitAt x i m = true) (h' : fitAt x i m' = true) (hl : m.length = m'.length) : m = m' := by
  have a := of_decide_eq_true h
  have c := of_decide_eq_true h'
  rw [hl] at a
  have : V.str m = V.str m' := a.symm.trans c
  injection this
def bestL (b : Bk) (ds : List LDr) (x : Str) (i : Nat) : Str := bestOf (fitL b ds x i)
structure RunSt where
  at_ : Nat
  ds : List LDr
  ss : List Stp
def runStep (b : Bk) (x : Str) (r : RunSt) : RunSt :=
  if r.at_ < x.length then ⟨r.at_ + ((stepL b r.ds x r.at_ (bestL b r.ds x r.at_)).1.2.1).toNat, (stepL b r.ds x r.at_ (bestL b r.ds x r.at_)).2, r.ss ++ [(stepL b r.ds x r.at_ (bestL b r.ds x r.at_)).1]⟩ else r
def runF (b : Bk) (x : Str) : Nat → RunSt
  | 0 => ⟨0, [], []⟩
  | n + 1 => runStep b x (runF b x n)
def LdBk (b : Bk) (ds : List LDr) : Prop := ∀ d ∈ ds, ∃ t ∈ b, ∃ dr ∈ t.2, d.2.1 = dr.2.1 ∧ d.2.2 = dr.2.2
theorem LdBk.ok {b : Bk} {ds : List LDr} (h : LdBk b ds) (hb : ∀ t ∈ b, TgOk b.length t) : LdOk b ds := fun d hd => by
  obtain ⟨t, ht, dr, hdr, e1, e2⟩ := h d hd
  obtain ⟨g1, g2, g3⟩ := (hb t ht).2.2 dr hdr
  have g := markS_len g3
  rw [e1, e2]
  exact ⟨g2, g.2, g.1⟩
theorem fitL_sm {b : Bk} {ds : List LDr} {x : Str} {i : Nat} (hb : ∀ t ∈ b, TgOk b.length t) (hd : LdOk b ds) : ∀ m ∈ someL b ds, Sm m := fun m hm => by
  unfold someL at hm
  rcases List.mem_append.mp hm with hm | hm
  · obtain ⟨dd, hdd, rfl⟩ := List.mem_map.mp hm
    by_cases hl : (tongueL ds).toNat < b.length
    · have g := markS_len ((hb _ (getD_mem tg0 hl)).2.2 dd hdd).1
      exact ⟨g.2, g.1⟩
    · have e : b.getD (tongueL ds).toNat tg0 = tg0 := by simp [hl]
      rw [e] at hdd
      cases hdd
  · obtain ⟨dd, hdd, rfl⟩ := List.mem_map.mp hm
    exact (hd dd (List.mem_of_mem_drop hdd)).2
theorem last_close {ds : List LDr} {m : Str} (h : m ∈ (lastL ds).map (·.2.2)) : ds ≠ [] ∧ m = (ds.getD (ds.length - 1) ld0).2.2 := by
  obtain ⟨dd, hdd, e6⟩ := List.mem_map.mp h
  unfold lastL at hdd
  have hpos : 0 < ds.length := by
    cases ds with
    | nil => simp at hdd
    | cons _ _ => simp
  have : ds.drop (ds.length - 1) = [ds.getD (ds.length - 1) ld0] := by
    have hlt : ds.length - 1 < ds.length := by omega
    rw [List.drop_eq_getElem_cons hlt]
    have : ds.length - 1 + 1 = ds.length := by omega
    rw [this, List.drop_length]
    simp [hlt]
  rw [this] at hdd
  have : dd = ds.getD (ds.length - 1) ld0 := by simpa using hdd
  rw [this] at e6
  exact ⟨List.length_pos_iff.mp hpos, e6.symm⟩
theorem fit_len {x m : Str} {i : Nat} (h : fitAt x i m = true) (hi : i ≤ x.length) : i + m.length ≤ x.length := by
  have a := of_decide_eq_true h
  have a : cutS x (some (i : Int)) (some ((i : Int) + m.length)) = m := by injection a
  have hl : (cutS x (some (i : Int)) (some ((i : Int) + m.length))).length = m.length := by rw [a]
  have e : ((i : Int) + (m.length : Int)) = ((i + m.length : Nat) : Int) := by omega
  rw [e] at hl
  unfold cutS at hl
  have hl : (List.toArray ((x.cps.toList.drop (HT.sIx x.length 0 (some (i : Int)))).take (HT.sIx x.length x.length (some ((i + m.length : Nat) : Int)) - HT.sIx x.length 0 (some (i : Int))))).size = m.length := hl
  rw [List.size_toArray, List.length_take, List.length_drop, HT.sIx_nat, HT.sIx_nat] at hl
  have : x.cps.toList.length = x.length := by simp; rfl
  omega
theorem stepL_props {b : Bk} {ds : List LDr} {x : Str} {i : Nat} (hb : ∀ t ∈ b, TgOk b.length t) (hd : LdBk b ds) (hb1 : 1 ≤ b.length) (hi : i < x.length) :
    let r := stepL b ds x i (bestL b ds x i)
    1 ≤ r.1.2.1 ∧ r.1.2.1 ≤ 4 ∧ (i : Int) + r.1.2.1 ≤ x.length ∧ LdBk b r.2 ∧ r.2.length ≤ ds.length + 1 ∧ r.1.2.2.1.length ≤ 10 := by
  have hok := hd.ok hb
  obtain ⟨tN, htN, htl⟩ := tongue_nat hok hb1
  have htoN : (tongueL ds).toNat = tN := by rw [htN]; rfl
  have hsm := fitL_sm (x := x) (i := i) hb hok
  have hbp := best_props (l := fitL b ds x i) fun m hm => hsm m (List.mem_filter.mp hm).1
  have hem : ∀ m, m ≠ Str.ofString "" → m = bestL b ds x i → m ∈ someL b ds ∧ fitAt x i m = true := fun m h0 e => by
    rcases hbp with ⟨_, h2⟩ | ⟨h1, _⟩
    · exfalso
      apply h0
      rw [e]
      unfold bestL
      rw [h2, str_empty]
    · rw [e]
      exact List.mem_filter.mp h1
  intro r
  show 1 ≤ r.1.2.1 ∧ _
  have hr : r = stepL b ds x i (bestL b ds x i) := rfl
  generalize hm : bestL b ds x i = m at hr
  rw [hr]
  unfold stepL
  rw [htoN]
  have htt := getD_mem tg0 htl
  split
  · split
    · exact ⟨by show (1 : Int) ≤ 1; decide, by show (1 : Int) ≤ 4; decide, by show (i : Int) + 1 ≤ _; omega, hd, by show ds.length ≤ _; omega, by show (Str.ofString "cut").length ≤ 10; decide +kernel⟩
    · exact ⟨by show (1 : Int) ≤ 2; decide, by show (2 : Int) ≤ 4; decide, by show (i : Int) + 2 ≤ _; omega, hd, by show ds.length ≤ _; omega, by show (Str.ofString "escape").length ≤ 10; decide +kernel⟩
  · split
    · exact ⟨by show (1 : Int) ≤ 1; decide, by show (1 : Int) ≤ 4; decide, by show (i : Int) + 1 ≤ _; omega, hd, by show ds.length ≤ _; omega, by show (Str.ofString "sign").length ≤ 10; decide +kernel⟩
    · rename_i hm0
      obtain ⟨g1, g2⟩ := hem m hm0 hm.symm
      obtain ⟨g3, g4⟩ := hsm m g1
      have g5 := fit_len g2 (by omega)
      split
      · refine ⟨by show (1 : Int) ≤ m.length; omega, by show (m.length : Int) ≤ 4; omega, by show (i : Int) + m.length ≤ _; omega, fun d hdd => hd d (List.dropLast_subset _ hdd), by show ds.dropLast.length ≤ _; simp; omega, by show (Str.ofString "close").length ≤ 10; decide +kernel⟩
      · rename_i hcl
        split
        · rename_i d r' hfil
          have hdm : d ∈ (b.getD tN tg0).2 := (List.mem_filter.mp (by rw [hfil]; exact List.mem_cons_self)).1
          refine ⟨by show (1 : Int) ≤ m.length; omega, by show (m.length : Int) ≤ 4; omega, by show (i : Int) + m.length ≤ _; omega, fun d' hdd => ?_, by show (ds ++ [_]).length ≤ _; simp, by show (Str.ofString "open").length ≤ 10; decide +kernel⟩
          rcases List.mem_append.mp hdd with hdd | hdd
          · exact hd d' hdd
          · have : d' = ((i : Int), d.2.1, d.2.2) := by simpa using hdd
            subst this
            exact ⟨_, htt, d, hdm, rfl, rfl⟩
        · rename_i hfil
          exfalso
          unfold someL at g1
          rw [htoN] at g1
          rcases List.mem_append.mp g1 with h | h
          · obtain ⟨dd, hdd, e6⟩ := List.mem_map.mp h
            have : dd ∈ (b.getD tN tg0).2.filter (fun d => d.1 == m) := List.mem_filter.mpr ⟨hdd, by simpa using e6⟩
            rw [hfil] at this
            cases this
          · exact hcl (last_close h)
end T1
namespace T1
open PySem L2
theorem noL_sts : ∀ ss : List Stp, NoLs (ss.map stD)
  | [] => .nil
  | d :: r => .cons (.tup (.cons (.int _) (.cons (.int _) (.cons (.str _) (.cons (.int _) (.cons (.int _) .nil)))))) (noL_sts r)
structure RunOk (b : Bk) (x : Str) (r : RunSt) : Prop where
  le : r.at_ ≤ x.length
  bk : LdBk b r.ds
  dl : r.ds.length ≤ r.at_
  sl : r.ss.length ≤ r.at_
theorem run_ok {b : Bk} {x : Str} (hb : ∀ t ∈ b, TgOk b.length t) (hb1 : 1 ≤ b.length) : ∀ n, RunOk b x (runF b x n)
  | 0 => ⟨Nat.zero_le _, (fun d hd => nomatch hd), Nat.zero_le _, Nat.zero_le _⟩
  | n + 1 => by
    have ih := run_ok hb hb1 (x := x) n
    show RunOk b x (runStep b x (runF b x n))
    unfold runStep
    split
    · rename_i h
      obtain ⟨h1, h2, h3, h4, h5, h6⟩ := stepL_props (x := x) hb ih.bk hb1 h
      have i1 := ih.dl
      have i2 := ih.sl
      refine ⟨?_, h4, ?_, ?_⟩
      · show (runF b x n).at_ + _ ≤ _
        omega
      · show (stepL b (runF b x n).ds x (runF b x n).at_ (bestL b (runF b x n).ds x (runF b x n).at_)).2.length ≤ (runF b x n).at_ + _
        omega
      · show ((runF b x n).ss ++ [_]).length ≤ (runF b x n).at_ + _
        rw [List.length_append]
        show _ + 1 ≤ _
        omega
    · exact ih
theorem run_at {b : Bk} {x : Str} {n : Nat} (h : (runF b x n).at_ < x.length) : runF b x (n + 1) = ⟨(runF b x n).at_ + ((stepL b (runF b x n).ds x (runF b x n).at_ (bestL b (runF b x n).ds x (runF b x n).at_)).1.2.1).toNat, (stepL b (runF b x n).ds x (runF b x n).at_ (bestL b (runF b x n).ds x (runF b x n).at_)).2, (runF b x n).ss ++ [(stepL b (runF b x n).ds x (runF b x n).at_ (bestL b (runF b x n).ds x (runF b x n).at_)).1]⟩ := by
  show runStep b x (runF b x n) = _
  unfold runStep
  rw [if_pos h]
theorem run_at_ds {b : Bk} {x : Str} {n : Nat} (h : (runF b x n).at_ < x.length) : (runF b x (n + 1)).ds = (stepL b (runF b x n).ds x (runF b x n).at_ (bestL b (runF b x n).ds x (runF b x n).at_)).2 := by rw [run_at h]
theorem run_at_ss {b : Bk} {x : Str} {n : Nat} (h : (runF b x n).at_ < x.length) : (runF b x (n + 1)).ss = (runF b x n).ss ++ [(stepL b (runF b x n).ds x (runF b x n).at_ (bestL b (runF b x n).ds x (runF b x n).at_)).1] := by rw [run_at h]
section
variable {P : Program} {w : World} {K : PySem.W.Frag} {mg : Str → Option Value} {base : Heap}
end
end T1
namespace T1
open PySem L2
def pdD (d : LDr) : D := .tup [.int d.2.1, .str d.2.2]
theorem noL_pds : ∀ ds : List LDr, NoLs (ds.map pdD)
  | [] => .nil
  | d :: r => .cons (.tup (.cons (.int _) (.cons (.str _) .nil))) (noL_pds r)
def PDs (z : Addr) (H : Hp) (q : Addr) (ds : List LDr) : Prop := ∃ vs, H q = some (.lst vs) ∧ Reps z H vs (ds.map pdD)
theorem PDs.same {z : Addr} {H H' : Hp} {q : Addr} {ds : List LDr} (h : PDs z H q ds) (s : Same H H') : PDs z H' q ds := let ⟨vs, a, r⟩ := h; ⟨vs, s _ _ a, r.mono s.x⟩
theorem rep_pd {z : Addr} {H : Hp} {v : V} {d : LDr} (r : Rep z H v (pdD d)) : ∃ a, v = .ref a ∧ a ≠ z ∧ H a = some (.tup [.int d.2.1, .str d.2.2]) := by
  cases r with
  | tup h hz r =>
    cases r with
    | cons r1 r =>
      cases r with
      | cons r2 r =>
        cases r
        cases r1
        cases r2
        exact ⟨_, rfl, hz, h⟩
theorem reps_pd {z : Addr} {H : Hp} {xs : List V} {ds : List LDr} {i : Nat} (r : Reps z H xs (ds.map pdD)) (hi : i < ds.length) : Rep z H (xs.getD i .non) (pdD (ds.getD i ld0)) := by
  have := r.get (i := i) (by simpa using hi)
  simpa [hi] using this
theorem pd_last {z : Addr} {H : Hp} {ds : List LDr} {vs : List V} (RD : Reps z H vs (ds.map pdD)) (hpos : 0 < ds.length) : ∃ ad, atI vs (-1) = some (.ref ad) ∧ H ad = some (.tup [.int (ds.getD (ds.length - 1) ld0).2.1, .str (ds.getD (ds.length - 1) ld0).2.2]) := by
  have hvl : vs.length = ds.length := by have := RD.length; simpa using this
  obtain ⟨ad, ed, hadz, had⟩ := rep_pd (reps_pd (ds := ds) (i := ds.length - 1) RD (by omega))
  refine ⟨ad, ?_, had⟩
  have e1 : ixN vs.length (-1) = some (vs.length - 1) := by
    unfold ixN
    rw [if_neg (by decide), if_pos (by omega)]
    congr 1
    omega
  unfold atI
  rw [e1]
  show vs[vs.length - 1]? = _
  have h1 : vs.length - 1 < vs.length := by omega
  have h2 : vs.getD (vs.length - 1) .non = vs[vs.length - 1] := by simp [h1]
  rw [List.getElem?_eq_getElem h1, ← h2, hvl, ed]
def spWithin : Sp := fun vs H Q _ => ∃ z q ds, vs = [.ref q] ∧ PDs z H q ds ∧ Q (.int (tongueL ds)) H
section
variable {P : Program} {w : World} {K : PySem.W.Frag} {mg : Str → Option Value} {base : Heap}
theorem scWithin : FnScope ["doors", "inner", "close"] ["doors"] (defScope sWithin) := ⟨rfl, rfl, rfl, by decide +kernel, rfl, by decide +kernel, by decide +kernel⟩
set_option maxHeartbeats 0 in
theorem ok_within {f : Addr} {fd : FuncData} (F : Fun K "tongue_within" "tongue_within" sWithin f fd) : FnOk P w K mg base CX0 1 f fd ["doors"] spWithin := by
  refine F.ok scWithin (fun vs H Q E h => ?_) (fun cdv A outer s H vs Q E hr h => ?_)
  · obtain ⟨z, q, ds, rfl, _⟩ := h
    rfl
  · obtain ⟨z, q, ds, rfl, ⟨vs, hq, RD⟩, k⟩ := h
    have nd := scWithin.nd
    have hvl : vs.length = ds.length := by have := RD.length; simpa using this
    refine ⟨_, pss_cons (ps_if (pt_not (pt_truth (pv 0) (fun _ => rfl))) (pss_one (ps_ret pe_int)) pss_nil)
      (pss_cons (ps_asg (pe_ix ix_list (pv 0) (pe_un un_neg pe_int) (fun _ _ => rfl)) (pg_tup rfl (pgs_cons (pg_name (i := 1) nd rfl (Or.inl rfl)) (pgs_cons (pg_name (i := 2) nd rfl (Or.inl rfl)) pgs_nil))))
      (pss_one (ps_ret (pv 1)))), ?_⟩
    refine ⟨_, rfl, _, .inl ⟨vs, SqL.of hq, rfl⟩, ?_⟩
    by_cases hpos : 0 < ds.length
    · have hve : (!vs.isEmpty) = true := by
        cases vs with
        | nil => simp at hvl; omega
        | cons _ _ => rfl
      rw [hve]
      obtain ⟨ad, hat, had⟩ := pd_last RD hpos
      refine iteF ?_
      refine ⟨_, rfl, 1, rfl, q, vs, -1, _, rfl, rfl, SqL.of hq, hat, ad, _, rfl, SqT.of had, rfl, _, _, rfl, _, _, rfl, rfl, _, rfl, ?_⟩
      rw [tongue_last hpos] at k
      exact k
    · have hve : (!vs.isEmpty) = false := by
        cases vs with
        | nil => rfl
        | cons _ _ => simp at hvl; omega
      rw [hve]
      refine iteT ?_
      have : ds = [] := List.eq_nil_of_length_eq_zero (by omega)
      subst this
      exact k
end
end T1
namespace T1
open PySem L2
abbrev Mk := Str × Option Dr
def mkOD : Option Dr → D
  | none => .non
  | some d => drD d
def mkD (m : Mk) : D := .tup [.str m.1, mkOD m.2]
def possL (b : Bk) (ds : List LDr) : List Mk := (lastL ds).map (fun d => (d.2.2, none)) ++ (b.getD (tongueL ds).toNat tg0).2.map fun d => (d.1, some d)
theorem noL_dr (d : Dr) : NoL (drD d) := .tup (.cons (.str _) (.cons (.int _) (.cons (.str _) .nil)))
theorem noL_mk (m : Mk) : NoL (mkD m) := by
  obtain ⟨x, o⟩ := m
  cases o with
  | none => exact .tup (.cons (.str _) (.cons .non .nil))
  | some d => exact .tup (.cons (.str _) (.cons (noL_dr d) .nil))
theorem noL_mks : ∀ ms : List Mk, NoLs (ms.map mkD)
  | [] => .nil
  | d :: r => .cons (noL_mk d) (noL_mks r)
def spPoss : Sp := fun vs H Q _ => ∃ z v b q ds, vs = [v, .ref q] ∧ Bag z H ∧ Rep z H v (bkD b) ∧ BkOk b ∧ PDs z H q ds ∧ LdOk b ds ∧
  ∀ p ws H', Same H H' → H p = none → H' p = some (.lst ws) → Reps z H' ws ((possL b ds).map mkD) → Q (.ref p) H'
theorem lastL_pos {ds : List LDr} (h : 0 < ds.length) : lastL ds = [ds.getD (ds.length - 1) ld0] := by
  have hlt : ds.length - 1 < ds.length := by omega
  unfold lastL
  rw [List.drop_eq_getElem_cons hlt]
  have : ds.length - 1 + 1 = ds.length := by omega
  rw [this, List.drop_length]
  simp [hlt]
theorem getD_mem' {α : Type} {xs : List α} {i : Nat} (d : α) (h : i < xs.length) : xs.getD i d = xs[i] := by simp [h]
section
variable {P : Program} {w : World} {K : PySem.W.Frag} {mg : Str → Option Value} {base : Heap}
theorem scPoss : FnScope ["book", "doors", "marks", "inner", "close", "escape", "ways", "door"] ["book", "doors"] (defScope sPoss) := ⟨rfl, rfl, rfl, by decide +kernel, rfl, by decide +kernel, by decide +kernel⟩
set_option maxHeartbeats 0 in
theorem ok_poss {f f1 : Addr} {fd fd1 : FuncData} (F : Fun K "possible_marks" "possible_marks" sPoss f fd)
    (k1 : PySem.W.keepIn K (.ref f1) = true) (b1 : Binds K fd1 ["doors"] []) (m1 : mg "tongue_within" = some (.ref f1)) (G1 : FnOk P w K mg base CX0 1 f1 fd1 ["doors"] spWithin) : FnOk P w K mg base CX0 2 f fd ["book", "doors"] spPoss := by
  refine F.ok scPoss (fun vs H Q E h => ?_) (fun cdv A outer s H vs Q E hr h => ?_)
  · obtain ⟨z, v, b, q, ds, rfl, _⟩ := h
    rfl
  · obtain ⟨z, v, b, q, ds, rfl, hB, R0, hok, ⟨vs, hq, RD⟩, hld, k⟩ := h
    obtain ⟨a, xs, rfl, haz, ha, hxl, R⟩ := rep_book R0
    obtain ⟨hb1, hb6, htok, _⟩ := hok
    have nd := scPoss.nd
    have big := big1000
    have hvl : vs.length = ds.length := by have := RD.length; simpa using this
    refine ⟨_, pss_cons (ps_set (i := 2) nd rfl (Or.inl rfl) (pe_lst pa_nil))
      (pss_cons (ps_if (pt_truth (pv 1) (fun _ => rfl)) (pss_cons (ps_asg (pe_ix ix_list (pv 1) (pe_un un_neg pe_int) (fun _ _ => rfl)) (pg_tup rfl (pgs_cons (pg_name (i := 3) nd rfl (Or.inl rfl)) (pgs_cons (pg_name (i := 4) nd rfl (Or.inl rfl)) pgs_nil))))
        (pss_one (ps_expr (pe_bm PySem.F.plainAttrs_list PySem.F.slot_list_append PySem.F.type_list_append mt_append (pv 2) (pa_cons (pe_tup (pa_cons (pv 4) (pa_cons pe_non pa_nil))) pa_nil))))) pss_nil)
      (pss_cons (ps_asg (pe_ix ix_tup (pv 0) (pe_call G1 hr rfl m1 k1 b1 .nil pass0 (pa_cons (pv 1) pa_nil)) (fun _ _ => rfl)) (pg_tup rfl (pgs_cons (pg_name (i := 5) nd rfl (Or.inl rfl)) (pgs_cons (pg_name (i := 6) nd rfl (Or.inl rfl)) pgs_nil))))
      (pss_cons (ps_for PassesOwn.never rfl (pi_tup (pv 6)) (pg_name (i := 7) nd rfl (Or.inl rfl))
        (pss_one (ps_expr (pe_bm PySem.F.plainAttrs_list PySem.F.slot_list_append PySem.F.type_list_append mt_append (pv 2) (pa_cons (pe_tup (pa_cons (pe_ix ix_tup (pv 7) pe_int (fun _ _ => rfl)) (pa_cons (pv 7) pa_nil))) pa_nil)))))
      (pss_one (ps_ret (pv 2)))))), ?_⟩
    refine ⟨Nat.zero_le _, fun pm npm => ?_⟩
    have s1 := Same.new (o := .lst []) npm
    have hpq : q ≠ pm := ne_of_none hq npm
    have hpz : pm ≠ z := hB.ne npm
    refine ⟨_, rfl, _, .inl ⟨vs, SqL.of (s1 _ _ hq), rfl⟩, ?_⟩
    refine ite2 (fun hne => ?_) (fun hne => ?_)
    case' refine_1 =>
      have hpos : 0 < ds.length := by
        cases vs with
        | nil => simp at hne
        | cons _ _ => simp at hvl; omega
      obtain ⟨ad, hat, had⟩ := pd_last (RD.mono s1.x) hpos
      refine ⟨_, rfl, 1, rfl, q, vs, -1, _, rfl, rfl, SqL.of (s1 _ _ hq), hat, ad, _, rfl, SqT.of had, rfl, _, _, rfl, _, _, rfl, rfl, _, rfl, .inl ⟨rfl, _, SqL.of upd_same⟩, _, rfl, by show (2 : Nat) ≤ _; omega, fun pt npt => ?_⟩
      have t2 := Same.new (o := .tup [.str (ds.getD (ds.length - 1) ld0).2.2, .non]) npt
      have hpt : upd (upd H pm (.lst [])) pt (.tup [.str (ds.getD (ds.length - 1) ld0).2.2, .non]) pt = some (.tup [.str (ds.getD (ds.length - 1) ld0).2.2, .non]) := upd_same
      have hptz : pt ≠ z := (hB.same s1).ne npt
      have hp2 := t2 pm _ upd_same
      have S2 := s1.trans t2
      generalize upd (upd H pm (.lst [])) pt (.tup [.str (ds.getD (ds.length - 1) ld0).2.2, .non]) = H1 at hpt hp2 S2
      refine ⟨pm, [], _, rfl, rfl, hp2, by show (0 : Nat) < _; omega, ?_⟩
      have s2 : Same H (upd H1 pm (.lst ([] ++ [.ref pt]))) := fun b' o e => by rw [upd_ne (ne_of_none e npm)]; exact S2 b' o e
      have hW : ∃ ws, upd H1 pm (.lst ([] ++ [.ref pt])) pm = some (.lst ws) ∧ Reps z (upd H1 pm (.lst ([] ++ [.ref pt]))) ws (((lastL ds).map fun d => ((d.2.2, none) : Mk)).map mkD) := by
        refine ⟨_, upd_same, Reps.updL hp2 ?_ (noL_mks _)⟩
        rw [lastL_pos hpos]
        have hsm := (hld _ (getD_mem ld0 (i := ds.length - 1) (by omega))).2
        exact .cons (.tup hpt hptz (.cons (.str _ (by have := hsm.2; omega)) (.cons .non .nil))) .nil
      generalize upd H1 pm (.lst ([] ++ [.ref pt])) = H2 at s2 hW
      clear hp2 hpt S2 t2 npt had hat hpos hne s1
    case' refine_2 =>
      have hz : ds.length = 0 := by
        cases vs with
        | nil => simp at hvl; omega
        | cons _ _ => simp at hne
      have s2 := s1
      have hW : ∃ ws, upd H pm (.lst []) pm = some (.lst ws) ∧ Reps z (upd H pm (.lst [])) ws (((lastL ds).map fun d => ((d.2.2, none) : Mk)).map mkD) := by
        refine ⟨[], upd_same, ?_⟩
        have : ds = [] := List.eq_nil_of_length_eq_zero hz
        rw [this]
        exact .nil
      generalize upd H pm (.lst []) = H2 at s2 hW
      clear hz hne s1
    all_goals
      obtain ⟨ws, hw, RW⟩ := hW
      obtain ⟨tN, htN, htl⟩ := tongue_nat hld hb1
      obtain ⟨c, d, ys, ec, hcz, hdz, hc, hd, hyl, Ry⟩ := rep_tongue ((reps_tongue (b := b) (i := tN) R htl).mono s2.x)
      have exv : xs[tN]? = some (.ref c) := by
        have h1 : tN < xs.length := by omega
        have h2 : xs.getD tN .non = xs[tN] := by simp [h1]
        rw [List.getElem?_eq_getElem h1, ← h2, ec]
      have etn : b.getD (tongueL ds).toNat tg0 = b.getD tN tg0 := by rw [htN]; rfl
      have tok := htok _ (getD_mem tg0 htl)
      have hyl : ys.length = (b.getD tN tg0).2.length := hyl
      have hposs : possL b ds = (lastL ds).map (fun d => ((d.2.2, none) : Mk)) ++ (b.getD tN tg0).2.map fun d => (d.1, some d) := by unfold possL; rw [etn]
      rw [hposs] at k
      clear hposs etn
      generalize hT : b.getD tN tg0 = tt at *
      have few := tok.2.1
      have hll : (lastL ds).length ≤ 1 := by unfold lastL; rw [List.length_drop]; omega
      refine ⟨_, rfl, _, rfl, z, q, ds, rfl, ⟨vs, s2 _ _ hq, RD.mono s2.x⟩, a, xs, tongueL ds, _, rfl, rfl, SqT.of (s2 _ _ ha), by rw [htN]; exact atI_nat exv, c, _, rfl, SqT.of hc, rfl, _, _, rfl, _, _, rfl, rfl, ?_⟩
      refine ⟨_, rfl, d, rfl, ⟨_, SqT.of hd⟩, for_tup (K := K) (a := d) (xs := ys) (fun i σ H3 => ∃ u3 u4 u, σ = [some (.ref a), some (.ref q), some (.ref pm), u3, u4, some (.str tt.1), some (.ref d), u] ∧ Same H H3 ∧ SameX pm H2 H3 ∧ ∃ ws, H3 pm = some (.lst ws) ∧ Reps z H3 ws (((lastL ds).map (fun d => ((d.2.2, none) : Mk)) ++ (tt.2.take i).map fun d => (d.1, some d)).map mkD))
        ⟨_, _, none, rfl, s2, .refl, ws, hw, by simpa using RW⟩ (fun j σ H3 _ ⟨_, _, _, _, _, s, _⟩ => SqT.of (s _ _ (ne_of hd hw (by intro q; cases q)) hd)) ?_ ?_⟩
      · rintro j y σ H3 hj ⟨u3, u4, u, rfl, s3, sx3, ws3, hw3, RW3⟩
        have hjl : j < tt.2.length := by have := (List.getElem?_eq_some_iff.mp hj).1; omega
        have ey : y = ys.getD j .non := by rw [List.getD_eq_getElem?_getD, hj]; rfl
        have Ry3 : Rep z H3 (ys.getD j .non) (drD (tt.2.getD j dr0)) := Rep.butL hw sx3 (reps_door (ds := tt.2) (i := j) Ry hjl) (noL_dr _)
        obtain ⟨qd, e2, hqz, hqd⟩ := rep_door Ry3
        have dok := tok.2.2 _ (getD_mem dr0 hjl)
        rw [e2] at Ry3
        rw [ey, e2]
        have hwl : ws3.length ≤ 10 := by
          have := RW3.length
          simp at this
          omega
        refine ⟨_, rfl, .inl ⟨rfl, _, SqL.of hw3⟩, _, rfl, qd, _, 0, _, rfl, rfl, SqT.of hqd, atI_nat (j := 0) rfl, _, rfl, by show (2 : Nat) ≤ _; omega, fun pt npt => ?_⟩
        have s4 := Same.new (o := .tup [.str (tt.2.getD j dr0).1, .ref qd]) npt
        have hpt : upd H3 pt (.tup [.str (tt.2.getD j dr0).1, .ref qd]) pt = some (.tup [.str (tt.2.getD j dr0).1, .ref qd]) := upd_same
        have hptz : pt ≠ z := (hB.same s3).ne npt
        have hw4 := s4 _ _ hw3
        have RW4 := RW3.mono s4.x (z := z)
        have Ry4 := Ry3.mono s4.x (z := z)
        have S4 := s3.trans s4
        have SX4 := sx3.trans s4.x
        generalize upd H3 pt (.tup [.str (tt.2.getD j dr0).1, .ref qd]) = H4 at hpt hw4 RW4 Ry4 S4 SX4
        refine ⟨pm, ws3, _, rfl, rfl, hw4, by omega, ?_⟩
        have g1 := markS_len dok.1
        refine ⟨_, _, _, rfl, fun b' o e => by rw [upd_ne (ne_of_none e npm)]; exact S4 b' o e, SX4.upd, _, upd_same, ?_⟩
        refine Reps.updL hw4 ?_ (noL_mks _)
        have et : (tt.2.take (j + 1)).map (fun d => ((d.1, some d) : Mk)) = (tt.2.take j).map (fun d => ((d.1, some d) : Mk)) ++ [((tt.2.getD j dr0).1, some (tt.2.getD j dr0))] := by
          rw [List.take_add_one, List.getElem?_eq_getElem hjl, getD_mem' dr0 hjl, List.map_append]
          rfl
        rw [et, ← List.append_assoc, List.map_append]
        exact RW4.append (.cons (.tup hpt hptz (.cons (.str _ (by omega)) (.cons Ry4 .nil))) .nil)
      · rintro σ H3 ⟨u3, u4, u, rfl, s3, sx3, ws3, hw3, RW3⟩
        rw [hyl, List.take_length] at RW3
        exact ⟨_, rfl, k pm ws3 H3 s3 npm hw3 RW3⟩
end
end T1
namespace T1
open PySem L2
theorem loop_repsF {z : Addr} {J : It} {g : TG} {tt : TT} {te : TE} {Qe : St → Hp → Prop} {σ0 : St} {H0 : Hp} {p : Addr} {n : Nat} {item : Nat → V} (keep : Nat → Bool) (dat : Nat → D) (Pσ : St → Prop) (hσ : Pσ σ0) (hp : H0 p = none) (hn : n ≤ 100000) (ok : ItOk J n item (upd H0 p (.lst [])) p) (nl : ∀ i, NoL (dat i))
    (turn : ∀ i σ H (Ct : V → St → Hp → Prop) (Cf : St → Hp → Prop), i < n → Pσ σ → Same H0 H → (keep i = true → ∀ σ2 v H4, Pσ σ2 → Same H H4 → Rep z H4 v (dat i) → Ct v σ2 H4) → (keep i = false → ∀ σ2 H4, Pσ σ2 → Same H H4 → Cf σ2 H4) →
      g (item i) σ H fun σ2 H2 => tt σ2 H2 fun b H3 => if b = true then te σ2 H3 fun v H4 => Ct v σ2 H4 else Cf σ2 H3)
    (hQ : ∀ σ H vs, Same H0 H → H p = some (.lst vs) → Reps z H vs (((List.range n).filter keep).map dat) → Qe σ H) : tLoop J g tt (tApp p te) Qe σ0 (upd H0 p (.lst [])) := by
  have s0 : Same H0 (upd H0 p (.lst [])) := Same.new hp
  have up : ∀ {H}, SameX p (upd H0 p (.lst [])) H → Same H0 H := fun {H} h b o e => h b o (ne_of_none e hp) (s0 b o e)
  have nls : ∀ l : List Nat, NoLs (l.map dat) := fun l => by
    induction l with
    | nil => exact .nil
    | cons a r ih => exact .cons (nl a) ih
  refine ⟨fun i m σ H => m = n - i ∧ i ≤ n ∧ Pσ σ ∧ SameX p (upd H0 p (.lst [])) H ∧ ∃ vs, H p = some (.lst vs) ∧ vs.length ≤ i ∧ Reps z H vs (((List.range i).filter keep).map dat), ⟨n, rfl, Nat.zero_le _, hσ, .refl, [], upd_same, Nat.le_refl _, .nil⟩, ?_⟩
  rintro i m σ H ⟨rfl, hi, hP, hS, vs, hv, hl, R⟩
  by_cases hlt : i < n
  · refine .inr ⟨ok.go i H hlt hS, fun σ' H' => Pσ σ' ∧ SameX p (upd H0 p (.lst [])) H' ∧ ∃ vs, H' p = some (.lst vs) ∧ vs.length ≤ i + 1 ∧ Reps z H' vs (((List.range (i + 1)).filter keep).map dat), fun σ' H' ⟨a, b, c⟩ => ⟨n - (i + 1), by omega, rfl, hlt, a, b, c⟩, fun x H' y => ?_⟩
    obtain ⟨rfl, rfl⟩ := ok.yld i H x H' hlt hS y
    have er : ((List.range (i + 1)).filter keep).map dat = ((List.range i).filter keep).map dat ++ (if keep i then [dat i] else []) := by
      rw [List.range_succ, List.filter_append, List.map_append]
      cases g : keep i <;> simp [g]
    refine turn i σ H' (fun v σ2 H4 => ∃ ys, H4 p = some (.lst ys) ∧ ys.length < sizeLine ∧ (Pσ σ2 ∧ SameX p (upd H0 p (.lst [])) (upd H4 p (.lst (ys ++ [v]))) ∧ ∃ vs, upd H4 p (.lst (ys ++ [v])) p = some (.lst vs) ∧ vs.length ≤ i + 1 ∧ Reps z (upd H4 p (.lst (ys ++ [v]))) vs (((List.range (i + 1)).filter keep).map dat))) _ hlt hP (up hS) (fun hk σ2 v H4 hP2 hS2 R2 => ?_) fun hk σ2 H4 hP2 hS2 => ?_
    · have h4 := hS2 _ _ hv
      have big : (100000 : Nat) < sizeLine := by rw [sizeLine_eq]; decide
      refine ⟨vs, h4, by omega, hP2, (hS.trans hS2.x).upd, vs ++ [v], upd_same, by simp; omega, ?_⟩
      refine Reps.updL h4 ?_ (nls _)
      rw [er, hk]
      exact (R.mono hS2.x).append (.cons R2 .nil)
    · refine ⟨hP2, hS.trans hS2.x, vs, hS2 _ _ hv, by omega, ?_⟩
      rw [er, hk]
      simpa using R.mono hS2.x
  · have e : i = n := by omega
    subst e
    exact .inl ⟨ok.stop H hS, hQ σ H vs (up hS) hv R⟩
theorem range_filter {α β : Type} (xs : List α) (d : α) (p : α → Bool) (f : α → β) : ((List.range xs.length).filter fun i => p (xs.getD i d)).map (fun i => f (xs.getD i d)) = (xs.filter p).map f := by
  have e : (List.range xs.length).map (fun i => xs.getD i d) = xs := by
    refine List.ext_getElem (by simp) fun i h1 h2 => ?_
    simp at h1
    simp [h1]
  have : (xs.filter p).map f = (((List.range xs.length).map (fun i => xs.getD i d)).filter p).map f := by rw [e]
  rw [this, List.filter_map, List.map_map]
  rfl
def fitsP (b : Bk) (ds : List LDr) (x : Str) (i : Nat) : List Mk := (possL b ds).filter fun m => stAt x m.1 i
abbrev mk0 : Mk := (⟨#[]⟩, none)
theorem rep_mk {z : Addr} {H : Hp} {v : V} {m : Mk} (r : Rep z H v (mkD m)) : ∃ a u, v = .ref a ∧ a ≠ z ∧ H a = some (.tup [.str m.1, u]) ∧ m.1.length ≤ 1000 ∧ Rep z H u (mkOD m.2) := by
  cases r with
  | tup h hz r =>
    cases r with
    | cons r1 r =>
      cases r with
      | cons r2 r =>
        cases r
        cases r1 with
        | str _ h1 => exact ⟨_, _, rfl, hz, h, h1, r2⟩
theorem reps_mk {z : Addr} {H : Hp} {xs : List V} {ms : List Mk} {i : Nat} (r : Reps z H xs (ms.map mkD)) (hi : i < ms.length) : Rep z H (xs.getD i .non) (mkD (ms.getD i mk0)) := by
  have := r.get (i := i) (by simpa using hi)
  simpa [hi] using this
def spFitP : Sp := fun vs H Q _ => ∃ z v b q ds x, ∃ i : Nat, vs = [v, .str x, .int i, .ref q] ∧ Bag z H ∧ Rep z H v (bkD b) ∧ BkOk b ∧ PDs z H q ds ∧ LdOk b ds ∧
  ∀ p ws H', Same H H' → H p = none → H' p = some (.lst ws) → Reps z H' ws ((fitsP b ds x i).map mkD) → Q (.ref p) H'
section
variable {P : Program} {w : World} {K : PySem.W.Frag} {mg : Str → Option Value} {base : Heap}
theorem scFitP : FnScope ["book", "text", "place", "doors"] ["book", "text", "place", "doors"] (defScope sFitting) := ⟨rfl, rfl, rfl, by decide +kernel, rfl, by decide +kernel, by decide +kernel⟩
theorem ndMDPT : (["mark", "door", "place", "text"] : List Str).Nodup := by decide +kernel
theorem possL_few {b : Bk} {ds : List LDr} (htok : ∀ t ∈ b, TgOk b.length t) : (possL b ds).length ≤ 10 := by
  unfold possL
  have h1 : (lastL ds).length ≤ 1 := by unfold lastL; rw [List.length_drop]; omega
  have h2 : (b.getD (tongueL ds).toNat tg0).2.length ≤ 6 := by
    by_cases h : (tongueL ds).toNat < b.length
    · exact (htok _ (getD_mem tg0 h)).2.1
    · have : b.getD (tongueL ds).toNat tg0 = tg0 := by simp [h]
      rw [this]
      exact Nat.zero_le _
  rw [List.length_append, List.length_map, List.length_map]
  omega
set_option maxHeartbeats 0 in
theorem ok_fitP {f f1 : Addr} {fd fd1 : FuncData} (F : Fun K "fitting_marks" "fitting_marks" sFitting f fd)
    (k1 : PySem.W.keepIn K (.ref f1) = true) (b1 : Binds K fd1 ["book", "doors"] []) (m1 : mg "possible_marks" = some (.ref f1)) (G1 : FnOk P w K mg base CX0 2 f1 fd1 ["book", "doors"] spPoss) : FnOk P w K mg base CX0 3 f fd ["book", "text", "place", "doors"] spFitP := by
  refine F.ok scFitP (fun vs H Q E h => ?_) (fun cdv A outer s H vs Q E hr h => ?_)
  · obtain ⟨z, v, b, q, ds, x, i, rfl, _⟩ := h
    rfl
  · obtain ⟨z, v, b, q, ds, x, i, rfl, hB, R0, hok, hD, hld, k⟩ := h
    refine ⟨_, pss_one (ps_ret (pe_comp1 (N' := ["mark", "door", "place", "text"]) (js := [none, none, some 2, some 1]) rfl rfl (blk_of (defScope sFitting) (by decide +kernel)) ⟨rfl, Or.inr (Or.inl rfl), rfl, rfl, Or.inr (Or.inl rfl), rfl, trivial⟩ (pi_list (pe_call G1 hr rfl m1 k1 b1 .nil pass0 (pa_cons (pv 0) (pa_cons (pv 3) pa_nil))))
        (fun cl s H fp => pg_tupB 2 rfl (pgs_cons (pg_name (i := 0) ndMDPT rfl (Or.inl rfl) (Or.inr rfl)) (pgs_cons (pg_name (i := 1) ndMDPT rfl (Or.inl rfl) (Or.inr rfl)) pgs_nil)))
        (fun cl s H fp => pts_one (pt_val (pe_bmB PySem.F.plainAttrs_str PySem.F.slot_str_startswith PySem.F.type_str_startswith mt_startswith_from (pv 3) (pa_cons (pv 0) (pa_cons (pv 2) pa_nil)))))
        (fun cl s H fp => pe_tup (pa_cons (pv 0) (pa_cons (pv 1) pa_nil))))), ?_⟩
    have big := big1000
    refine ⟨_, rfl, _, rfl, z, v, b, q, ds, rfl, hB, R0, hok, hD, hld, fun l ws H1 s1 nl hl RW => ?_⟩
    have few := possL_few (ds := ds) hok.2.2.1
    have hwl : ws.length = (possL b ds).length := by have := RW.length; simpa using this
    refine ⟨l, rfl, ⟨_, SqL.of hl⟩, fun p np => ?_⟩
    have hlp : l ≠ p := ne_of_none hl np
    refine loop_repsF (z := z) (fun j => stAt x ((possL b ds).getD j mk0).1 i) (fun j => mkD ((possL b ds).getD j mk0)) (fun σ => ∃ u v, σ = [u, v, some (.int i), some (.str x)]) ⟨none, none, rfl⟩ np (by omega) (itok_lst (xs := ws) (by rw [upd_ne hlp]; exact hl) hlp) (fun j => noL_mk _) (fun j σ H2 Ct Cf hj ⟨u, v, hv⟩ hS hT hF => ?_) (fun σ H2 vs s2 hp R2 => ?_)
    · subst hv
      have Rj := (reps_mk (ms := possL b ds) (i := j) RW (by omega)).mono hS.x (z := z)
      obtain ⟨a, u, e, haz, ha, hlen, Ru⟩ := rep_mk Rj
      rw [e]
      refine ⟨a, _, rfl, SqT.of ha, rfl, _, _, rfl, _, _, rfl, rfl, ?_⟩
      refine ⟨_, rfl, rfl, _, rfl, _, rfl, _, _, i, rfl, rfl, _, rfl, ?_⟩
      refine ite2 (fun h => ?_) (fun h => ?_)
      · refine ⟨_, rfl, _, rfl, by show (2 : Nat) ≤ _; omega, fun pt npt => ?_⟩
        have s3 := Same.new (o := .tup [.str ((possL b ds).getD j mk0).1, u]) npt
        refine hT h _ _ _ ⟨_, _, rfl⟩ s3 (.tup upd_same (((hB.same s1).same hS).ne npt) (.cons (.str _ hlen) (.cons (Ru.mono s3.x) .nil)))
      · exact hF (by simpa using h) _ _ ⟨_, _, rfl⟩ (Same.refl _)
    · rw [hwl, range_filter (possL b ds) mk0 (fun m => stAt x m.1 i) mkD] at R2
      exact k p vs H2 (s1.trans s2) (s1.free np) hp R2
end
end T1
namespace T1
open PySem L2
def takeL (ds : List LDr) (i : Nat) (m : Str) : Option Dr → Stp × List LDr
  | none => (((i : Int), (m.length : Int), Str.ofString "close", tongueL ds.dropLast, (ds.length : Int) - 1), ds.dropLast)
  | some d => (((i : Int), (m.length : Int), Str.ofString "open", tongueL ds, (ds.length : Int)), ds ++ [((i : Int), d.2.1, d.2.2)])
theorem rep_doorL {z : Addr} {H : Hp} {v : V} {d : Dr} (r : Rep z H v (drD d)) : ∃ a, v = .ref a ∧ a ≠ z ∧ H a = some (.tup [.str d.1, .int d.2.1, .str d.2.2]) ∧ d.2.2.length ≤ 1000 := by
  cases r with
  | tup h hz r =>
    cases r with
    | cons r1 r =>
      cases r with
      | cons r2 r =>
        cases r with
        | cons r3 r =>
          cases r
          cases r1
          cases r2
          cases r3 with
          | str _ h3 => exact ⟨_, rfl, hz, h, h3⟩
def spTakeM : Sp := fun vs H Q _ => ∃ z m u o, ∃ i : Nat, ∃ q ds, vs = [.str m, u, .int i, .ref q] ∧ Bag z H ∧ q ≠ z ∧ Rep z H u (mkOD o) ∧ m.length ≤ 1000 ∧ PDs z H q ds ∧ ds.length ≤ 20000 ∧ (o = none → 0 < ds.length) ∧
  ∀ p H', SameX q H H' → H p = none → H' p = some (.tup (stV (takeL ds i m o).1)) → PDs z H' q (takeL ds i m o).2 → Q (.ref p) H'
def plainL (b : Bk) (ds : List LDr) (x : Str) (i : Nat) : Stp :=
  if (⟨#[x.cps.getD i 0]⟩ : Str) = (b.getD (tongueL ds).toNat tg0).1 then
    (if i + 1 < x.length then ((i : Int), 2, Str.ofString "escape", tongueL ds, (ds.length : Int)) else ((i : Int), 1, Str.ofString "cut", tongueL ds, (ds.length : Int)))
  else ((i : Int), 1, Str.ofString "sign", tongueL ds, (ds.length : Int))
def spPlainR : Sp := fun vs H Q _ => ∃ z v b q ds x, ∃ i : Nat, vs = [v, .str x, .int i, .ref q] ∧ Rep z H v (bkD b) ∧ BkOk b ∧ PDs z H q ds ∧ LdOk b ds ∧ i < x.length ∧ x.length ≤ 20000 ∧
  ∀ p H', Same H H' → H p = none → H' p = some (.tup (stV (plainL b ds x i))) → Q (.ref p) H'
section
variable {P : Program} {w : World} {K : PySem.W.Frag} {mg : Str → Option Value} {base : Heap}
theorem scTakeM : FnScope ["mark", "door", "place", "doors", "step", "opening", "inner", "close"] ["mark", "door", "place", "doors"] (defScope sTakeM) := ⟨rfl, rfl, rfl, by decide +kernel, rfl, by decide +kernel, by decide +kernel⟩
set_option maxHeartbeats 0 in
theorem ok_takeM {f f1 : Addr} {fd fd1 : FuncData} (F : Fun K "take_mark" "take_mark" sTakeM f fd) (T : TxtB mg)
    (k1 : PySem.W.keepIn K (.ref f1) = true) (b1 : Binds K fd1 ["doors"] []) (m1 : mg "tongue_within" = some (.ref f1)) (G1 : FnOk P w K mg base CX0 1 f1 fd1 ["doors"] spWithin) : FnOk P w K mg base CX0 2 f fd ["mark", "door", "place", "doors"] spTakeM := by
  refine F.ok scTakeM (fun vs H Q E h => ?_) (fun cdv A outer s H vs Q E hr h => ?_)
  · obtain ⟨z, m, u, o, i, q, ds, rfl, _⟩ := h
    rfl
  · obtain ⟨z, m, u, o, i, q, ds, rfl, hB, hqz, Ru, hm, ⟨vs, hq, RD⟩, hdl, hno, k⟩ := h
    have nd := scTakeM.nd
    have big := big1000
    have big2 : (100000 : Nat) ≤ sizeLine := by rw [sizeLine_eq]; decide
    have hvl : vs.length = ds.length := by have := RD.length; simpa using this
    refine ⟨_, pss_cons (ps_if (pt_cmpR op_isN (pv 1) pe_non (nomark _))
        (pss_cons (ps_expr (pe_bm0 PySem.F.plainAttrs_list PySem.F.slot_list_pop PySem.F.type_list_pop mt_pop (pv 3)))
        (pss_one (ps_ret (pe_tup (pa_cons (pv 2) (pa_cons (pe_callB call_len_str (by rfl) T.len b_len (pa_cons (pv 0) pa_nil)) (pa_cons pe_str (pa_cons (pe_call G1 hr rfl m1 k1 b1 .nil pass0 (pa_cons (pv 3) pa_nil)) (pa_cons (pe_callB call_len_seq (by rfl) T.len b_len (pa_cons (pv 3) pa_nil)) pa_nil))))))))) pss_nil)
      (pss_cons (ps_set (i := 4) nd rfl (Or.inl rfl) (pe_tup (pa_cons (pv 2) (pa_cons (pe_callB call_len_str (by rfl) T.len b_len (pa_cons (pv 0) pa_nil)) (pa_cons pe_str (pa_cons (pe_call G1 hr rfl m1 k1 b1 .nil pass0 (pa_cons (pv 3) pa_nil)) (pa_cons (pe_callB call_len_seq (by rfl) T.len b_len (pa_cons (pv 3) pa_nil)) pa_nil)))))))
      (pss_cons (ps_asg (pv 1) (pg_tup rfl (pgs_cons (pg_name (i := 5) nd rfl (Or.inl rfl)) (pgs_cons (pg_name (i := 6) nd rfl (Or.inl rfl)) (pgs_cons (pg_name (i := 7) nd rfl (Or.inl rfl)) pgs_nil)))))
      (pss_cons (ps_expr (pe_bm PySem.F.plainAttrs_list PySem.F.slot_list_append PySem.F.type_list_append mt_append (pv 3) (pa_cons (pe_tup (pa_cons (pv 6) (pa_cons (pv 7) pa_nil))) pa_nil)))
      (pss_one (ps_ret (pv 4)))))), ?_⟩
    cases o with
    | none =>
      cases Ru
      have hpos := hno rfl
      refine ⟨_, rfl, rfl, _, rfl, ?_⟩
      refine iteT ?_
      refine ⟨_, rfl, .inl ⟨rfl, _, SqL.of hq⟩, q, vs, _, rfl, rfl, hq, get_of (by omega), ?_⟩
      have hq1 : upd H q (.lst vs.dropLast) q = some (.lst vs.dropLast) := upd_same
      have RD1 : Reps z (upd H q (.lst vs.dropLast)) vs.dropLast (ds.dropLast.map pdD) := by
        rw [List.map_dropLast]
        exact Reps.updL hq RD.dropLast (by rw [← List.map_dropLast]; exact noL_pds _)
      have sx1 : SameX q H (upd H q (.lst vs.dropLast)) := SameX.refl.upd
      generalize upd H q (.lst vs.dropLast) = H1 at hq1 RD1 sx1
      refine ⟨_, rfl, _, rfl, m, rfl, by omega, _, rfl, z, q, ds.dropLast, rfl, ⟨_, hq1, RD1⟩, _, rfl, q, _, rfl, .inl (SqL.of hq1), by show (5 : Nat) ≤ _; omega, fun p np => ?_⟩
      have hpn : H p = none := by
        cases e : H p with
        | none => rfl
        | some o =>
          have hpq : p ≠ q := (ne_of_none hq1 np).symm
          rw [sx1 p o hpq e] at np
          cases np
      have t2 := Same.new (o := .tup [.int i, .int m.length, .str (Str.ofString "close"), .int (tongueL ds.dropLast), .int vs.dropLast.length]) np
      refine k p _ (sx1.trans t2.x) hpn ?_ ⟨_, t2 _ _ hq1, RD1.mono t2.x⟩
      rw [upd_same]
      have : ((vs.dropLast.length : Nat) : Int) = (ds.length : Int) - 1 := by simp; omega
      rw [this]
      rfl
    | some d =>
      obtain ⟨a, rfl, haz, ha, hcl⟩ := rep_doorL Ru
      refine ⟨_, rfl, rfl, _, rfl, ?_⟩
      refine iteF ?_
      refine ⟨_, rfl, _, rfl, m, rfl, by omega, _, rfl, z, q, ds, rfl, ⟨_, hq, RD⟩, _, rfl, q, _, rfl, .inl (SqL.of hq), by show (5 : Nat) ≤ _; omega, fun p np => ?_⟩
      have t1 := Same.new (o := .tup [.int i, .int m.length, .str (Str.ofString "open"), .int (tongueL ds), .int vs.length]) np
      have hp1 : upd H p (.tup [.int i, .int m.length, .str (Str.ofString "open"), .int (tongueL ds), .int vs.length]) p = some (.tup (stV (takeL ds i m (some d)).1)) := by
        rw [upd_same, hvl]
        rfl
      generalize upd H p (.tup [.int i, .int m.length, .str (Str.ofString "open"), .int (tongueL ds), .int vs.length]) = H1 at t1 hp1
      refine ⟨_, rfl, a, _, rfl, SqT.of (t1 _ _ ha), rfl, _, _, rfl, _, _, rfl, _, _, rfl, rfl, ?_⟩
      refine ⟨_, rfl, .inl ⟨rfl, _, SqL.of (t1 _ _ hq)⟩, _, rfl, _, rfl, by show (2 : Nat) ≤ _; omega, fun pt npt => ?_⟩
      have t2 := Same.new (o := .tup [.int d.2.1, .str d.2.2]) npt
      have hpt : upd H1 pt (.tup [.int d.2.1, .str d.2.2]) pt = some (.tup [.int d.2.1, .str d.2.2]) := upd_same
      have hptz : pt ≠ z := (hB.same t1).ne npt
      have S2 := t1.trans t2
      have hp2 := t2 _ _ hp1
      generalize upd H1 pt (.tup [.int d.2.1, .str d.2.2]) = H2 at hpt S2 hp2
      have hq2 := S2 _ _ hq
      refine ⟨q, vs, _, rfl, rfl, hq2, by omega, ?_⟩
      refine ⟨_, rfl, ?_⟩
      refine k p _ (S2.x.upd) np ?_ ⟨_, upd_same, ?_⟩
      · rw [upd_ne (ne_of hp2 hq2 (by intro q; cases q))]
        exact hp2
      · refine Reps.updL hq2 ?_ (noL_pds _)
        show Reps z H2 _ ((ds ++ [((i : Int), d.2.1, d.2.2)]).map pdD)
        rw [List.map_append]
        exact (RD.mono S2.x).append (.cons (.tup hpt hptz (.cons (.int _) (.cons (.str _ hcl) .nil))) .nil)
theorem scPlainR : FnScope ["book", "text", "place", "doors", "tongue", "escape", "ways"] ["book", "text", "place", "doors"] (defScope sPlainR) := ⟨rfl, rfl, rfl, by decide +kernel, rfl, by decide +kernel, by decide +kernel⟩
set_option maxHeartbeats 0 in
theorem ok_plainR {f f1 : Addr} {fd fd1 : FuncData} (F : Fun K "read_plain" "read_plain" sPlainR f fd) (T : TxtB mg)
    (k1 : PySem.W.keepIn K (.ref f1) = true) (b1 : Binds K fd1 ["doors"] []) (m1 : mg "tongue_within" = some (.ref f1)) (G1 : FnOk P w K mg base CX0 1 f1 fd1 ["doors"] spWithin) : FnOk P w K mg base CX0 2 f fd ["book", "text", "place", "doors"] spPlainR := by
  refine F.ok scPlainR (fun vs H Q E h => ?_) (fun cdv A outer s H vs Q E hr h => ?_)
  · obtain ⟨z, v, b, q, ds, x, i, rfl, _⟩ := h
    rfl
  · obtain ⟨z, v, b, q, ds, x, i, rfl, R0, hok, ⟨vs, hq, RD⟩, hld, hi, hx, k⟩ := h
    obtain ⟨a, xs, rfl, haz, ha, hxl, R⟩ := rep_book R0
    obtain ⟨hb1, hb6, htok, _⟩ := hok
    have nd := scPlainR.nd
    have big := big1000
    have big2 : (100000 : Nat) ≤ sizeLine := by rw [sizeLine_eq]; decide
    have hvl : vs.length = ds.length := by have := RD.length; simpa using this
    refine ⟨_, pss_cons (ps_set (i := 4) nd rfl (Or.inl rfl) (pe_call G1 hr rfl m1 k1 b1 .nil pass0 (pa_cons (pv 3) pa_nil)))
      (pss_cons (ps_asg (pe_ix ix_tup (pv 0) (pv 4) (fun _ _ => rfl)) (pg_tup rfl (pgs_cons (pg_name (i := 5) nd rfl (Or.inl rfl)) (pgs_cons (pg_name (i := 6) nd rfl (Or.inl rfl)) pgs_nil))))
      (pss_cons (ps_if (pt_cmpR op_ne (pe_ix ix_str (pv 1) (pv 2) (fun _ _ => rfl)) (pv 5) (nomark _)) (pss_one (ps_ret (pe_tup (pa_cons (pv 2) (pa_cons pe_int (pa_cons pe_str (pa_cons (pv 4) (pa_cons (pe_callB call_len_seq (by rfl) T.len b_len (pa_cons (pv 3) pa_nil)) pa_nil)))))))) pss_nil)
      (pss_cons (ps_if (pt_cmpR op_lt (pe_op op_add (pv 2) pe_int) (pe_callB call_len_str (by rfl) T.len b_len (pa_cons (pv 1) pa_nil)) (nomark _)) (pss_one (ps_ret (pe_tup (pa_cons (pv 2) (pa_cons pe_int (pa_cons pe_str (pa_cons (pv 4) (pa_cons (pe_callB call_len_seq (by rfl) T.len b_len (pa_cons (pv 3) pa_nil)) pa_nil)))))))) pss_nil)
      (pss_one (ps_ret (pe_tup (pa_cons (pv 2) (pa_cons pe_int (pa_cons pe_str (pa_cons (pv 4) (pa_cons (pe_callB call_len_seq (by rfl) T.len b_len (pa_cons (pv 3) pa_nil)) pa_nil))))))))))), ?_⟩
    have hxi : x.cps.toList[i]? = some (x.cps.getD i 0) := by
      have : i < x.cps.size := hi
      simp [Array.getD, this]
    obtain ⟨tN, htN, htl⟩ := tongue_nat hld hb1
    obtain ⟨c, d, ys, ec, hcz, hdz, hc, hd, hyl, Ry⟩ := rep_tongue (reps_tongue (b := b) (i := tN) R htl)
    have exv : xs[tN]? = some (.ref c) := by
      have h1 : tN < xs.length := by omega
      have h2 : xs.getD tN .non = xs[tN] := by simp [h1]
      rw [List.getElem?_eq_getElem h1, ← h2, ec]
    have etn : b.getD (tongueL ds).toNat tg0 = b.getD tN tg0 := by rw [htN]; rfl
    unfold plainL at k
    rw [etn] at k
    refine ⟨_, rfl, z, q, ds, rfl, ⟨_, hq, RD⟩, ?_⟩
    refine ⟨_, rfl, _, rfl, a, xs, tongueL ds, _, rfl, rfl, SqT.of ha, by rw [htN]; exact atI_nat exv, c, _, rfl, SqT.of hc, rfl, _, _, rfl, _, _, rfl, rfl, ?_⟩
    refine ⟨_, rfl, _, rfl, x, i, _, rfl, rfl, by omega, atI_nat hxi, _, rfl, rfl, _, rfl, ?_⟩
    refine ite2 (fun g => ?_) (fun g => ?_)
    · have hesc : ¬ (⟨#[x.cps.getD i 0]⟩ : Str) = (b.getD tN tg0).1 := fun e => by rw [e] at g; simp at g
      rw [if_neg hesc] at k
      refine ⟨_, rfl, _, rfl, _, rfl, q, _, rfl, .inl (SqL.of hq), by show (5 : Nat) ≤ _; omega, fun p np => ?_⟩
      refine k p _ (Same.new np) np ?_
      rw [upd_same, hvl]
      rfl
    · have hesc : (⟨#[x.cps.getD i 0]⟩ : Str) = (b.getD tN tg0).1 := by simpa using g
      rw [if_pos hesc] at k
      refine ⟨_, rfl, _, _, rfl, rfl, _, rfl, x, rfl, by omega, _, _, rfl, rfl, _, rfl, ?_⟩
      refine ite2 (fun g2 => ?_) (fun g2 => ?_)
      · have h2 : i + 1 < x.length := by have := of_decide_eq_true g2; omega
        rw [if_pos h2] at k
        refine ⟨_, rfl, _, rfl, _, rfl, q, _, rfl, .inl (SqL.of hq), by show (5 : Nat) ≤ _; omega, fun p np => ?_⟩
        refine k p _ (Same.new np) np ?_
        rw [upd_same, hvl]
        rfl
      · have h2 : ¬ i + 1 < x.length := fun h => g2 (decide_eq_true (by omega))
        rw [if_neg h2] at k
        refine ⟨_, rfl, _, rfl, _, rfl, q, _, rfl, .inl (SqL.of hq), by show (5 : Nat) ≤ _; omega, fun p np => ?_⟩
        refine k p _ (Same.new np) np ?_
        rw [upd_same, hvl]
        rfl
end
end T1
namespace T1
open PySem L2
theorem cut_extract {x : Str} {i k : Nat} (h : i + k ≤ x.length) : cutS x (some (i : Int)) (some ((i : Int) + (k : Int))) = ⟨x.cps.extract i (i + k)⟩ := by
  have e : ((i : Int) + (k : Int)) = ((i + k : Nat) : Int) := by omega
  rw [e]
  unfold cutS
  rw [HT.sIx_nat, HT.sIx_nat, Nat.min_eq_left h, Nat.min_eq_left (by omega)]
  congr 1
  apply Array.ext'
  simp [Array.toList_extract, List.extract_eq_drop_take]
theorem stAt_fit {x m : Str} {i : Nat} (hi : i ≤ x.length) : stAt x m i = fitAt x i m := by
  cases g : fitAt x i m with
  | true =>
    have hl := fit_len g hi
    have a := of_decide_eq_true g
    have a : cutS x (some (i : Int)) (some ((i : Int) + m.length)) = m := by injection a
    rw [cut_extract hl] at a
    have a2 : x.cps.extract i (i + m.length) = m.cps := congrArg Str.cps a
    unfold stAt Builtin.Str.subAt
    rw [decide_eq_true hl, a2]
    simp
  | false =>
    cases g2 : stAt x m i with
    | false => rfl
    | true =>
      exfalso
      unfold stAt Builtin.Str.subAt at g2
      rw [Bool.and_eq_true] at g2
      have hl := of_decide_eq_true g2.1
      have a2 : x.cps.extract i (i + m.length) = m.cps := by simpa using g2.2
      have : fitAt x i m = true := by
        unfold fitAt
        rw [cut_extract hl, a2]
        simp
      rw [g] at this
      cases this
theorem fit_first {x m : Str} {i : Nat} (hi : i ≤ x.length) (h : fitAt x i m = true) (hm : 1 ≤ m.length) : x.cps.getD i 0 ∈ m.cps.toList := by
  have hl := fit_len h hi
  have a := of_decide_eq_true h
  have a : cutS x (some (i : Int)) (some ((i : Int) + m.length)) = m := by injection a
  rw [cut_extract hl] at a
  have a2 : x.cps.extract i (i + m.length) = m.cps := congrArg Str.cps a
  rw [← a2]
  have hl2 : i + m.length ≤ x.cps.size := hl
  have hi2 : i < x.cps.size := by omega
  rw [Array.toList_extract, List.extract_eq_drop_take]
  have e : x.cps.getD i 0 = x.cps.toList[i]'(by simpa using hi2) := by simp [Array.getD, hi2]
  rw [e, List.drop_eq_getElem_cons (by simpa using hi2)]
  have : i + m.length - i = (m.length - 1) + 1 := by omega
  rw [this, List.take_succ_cons]
  exact List.mem_cons_self
theorem esc_free {b : Bk} (hb : BkOk b) {t : Tg} (ht : t ∈ b) {m : Str} (hm : m ∈ marksB b) {c : Nat} (hc : c ∈ m.cps.toList) : (⟨#[c]⟩ : Str) ≠ t.1 := fun e => by
  have h := hb.2.2.2
  unfold bookB at h
  simp only [Bool.and_eq_true, Bool.not_eq_true'] at h
  have h2 := h.1.2
  unfold escB at h2
  rw [List.any_eq_false] at h2
  have h3 := h2 m hm
  apply h3
  unfold escIn
  rw [List.any_eq_true]
  refine ⟨c, hc, ?_⟩
  rw [List.any_eq_true]
  exact ⟨t.1, List.mem_map_of_mem ht, by rw [e]; exact beq_self_eq_true _⟩
theorem some_marks {b : Bk} {ds : List LDr} (hd : LdBk b ds) {m : Str} (hm : m ∈ someL b ds) : m ∈ marksB b := by
  unfold someL at hm
  rcases List.mem_append.mp hm with hm | hm
  · obtain ⟨dd, hdd, rfl⟩ := List.mem_map.mp hm
    by_cases hl : (tongueL ds).toNat < b.length
    · exact List.mem_flatMap.mpr ⟨_, getD_mem tg0 hl, List.mem_flatMap.mpr ⟨dd, hdd, List.mem_cons_self⟩⟩
    · have e : b.getD (tongueL ds).toNat tg0 = tg0 := by simp [hl]
      rw [e] at hdd
      cases hdd
  · obtain ⟨dd, hdd, rfl⟩ := List.mem_map.mp hm
    obtain ⟨t, ht, dr, hdr, e1, e2⟩ := hd dd (List.mem_of_mem_drop hdd)
    rw [e2]
    exact List.mem_flatMap.mpr ⟨t, ht, List.mem_flatMap.mpr ⟨dr, hdr, List.mem_cons_of_mem _ List.mem_cons_self⟩⟩
theorem poss_some {b : Bk} {ds : List LDr} {y : Mk} (h : y ∈ possL b ds) : y.1 ∈ someL b ds := by
  unfold possL at h
  unfold someL
  rcases List.mem_append.mp h with h | h
  · obtain ⟨d, hd, rfl⟩ := List.mem_map.mp h
    exact List.mem_append_right _ (List.mem_map_of_mem hd)
  · obtain ⟨d, hd, rfl⟩ := List.mem_map.mp h
    exact List.mem_append_left _ (List.mem_map_of_mem hd)
theorem some_poss {b : Bk} {ds : List LDr} {m : Str} (h : m ∈ someL b ds) : ∃ y ∈ possL b ds, y.1 = m := by
  unfold someL at h
  unfold possL
  rcases List.mem_append.mp h with h | h
  · obtain ⟨d, hd, rfl⟩ := List.mem_map.mp h
    exact ⟨_, List.mem_append_right _ (List.mem_map_of_mem hd), rfl⟩
  · obtain ⟨d, hd, rfl⟩ := List.mem_map.mp h
    exact ⟨_, List.mem_append_left _ (List.mem_map_of_mem hd), rfl⟩
theorem step_take {b : Bk} {ds : List LDr} {x : Str} {i : Nat} {m : Str} {o : Option Dr} {r : List Mk} (hne : m ≠ Str.ofString "") (hesc : (⟨#[x.cps.getD i 0]⟩ : Str) ≠ (b.getD (tongueL ds).toNat tg0).1)
    (h : (possL b ds).filter (fun y => y.1 == m) = (m, o) :: r) : stepL b ds x i m = takeL ds i m o := by
  unfold stepL
  rw [if_neg (fun q => hesc q.2), if_neg hne]
  unfold possL at h
  rw [List.filter_append, List.filter_map, List.filter_map] at h
  by_cases hcl : ds ≠ [] ∧ m = (ds.getD (ds.length - 1) ld0).2.2
  · rw [if_pos hcl]
    have hpos : 0 < ds.length := List.length_pos_iff.mpr hcl.1
    rw [lastL_pos hpos] at h
    have : ((ds.getD (ds.length - 1) ld0).2.2 == m) = true := by rw [← hcl.2]; exact beq_self_eq_true _
    have e2 : [ds.getD (ds.length - 1) ld0].filter ((fun y : Mk => y.1 == m) ∘ fun d : LDr => ((d.2.2, none) : Mk)) = [ds.getD (ds.length - 1) ld0] := by
      rw [List.filter_cons_of_pos]
      · rfl
      · exact this
    rw [e2] at h
    have h' : (((ds.getD (ds.length - 1) ld0).2.2, none) : Mk) = (m, o) := (List.cons.inj h).1
    have : o = none := by injection h' with _ q; exact q.symm
    subst this
    rfl
  · rw [if_neg hcl]
    have e2 : (lastL ds).filter ((fun y : Mk => y.1 == m) ∘ fun d : LDr => ((d.2.2, none) : Mk)) = [] := by
      rw [List.filter_eq_nil_iff]
      intro d hd q
      have q : (d.2.2 == m) = true := q
      have q := eq_of_beq q
      exact hcl (last_close (List.mem_map.mpr ⟨d, hd, q⟩))
    rw [e2] at h
    have e3 : ((fun y : Mk => y.1 == m) ∘ fun d : Dr => ((d.1, some d) : Mk)) = fun d : Dr => d.1 == m := rfl
    rw [e3] at h
    cases g : (b.getD (tongueL ds).toNat tg0).2.filter (fun d => d.1 == m) with
    | nil =>
      rw [g] at h
      cases h
    | cons d r' =>
      rw [g] at h
      have h' : ((d.1, some d) : Mk) = (m, o) := (List.cons.inj h).1
      have : o = some d := by injection h' with _ q; exact q.symm
      subst this
      rfl
theorem step_plain {b : Bk} {ds : List LDr} {x : Str} {i : Nat} (hi : i < x.length) (h : fitsP b ds x i = []) : stepL b ds x i (bestL b ds x i) = (plainL b ds x i, ds) := by
  have hf : fitL b ds x i = [] := by
    unfold fitL
    rw [List.filter_eq_nil_iff]
    intro m hm q
    obtain ⟨y, hy, rfl⟩ := some_poss hm
    unfold fitsP at h
    rw [List.filter_eq_nil_iff] at h
    apply h y hy
    rw [stAt_fit (by omega)]
    exact q
  have hb : bestL b ds x i = Str.ofString "" := by unfold bestL; rw [hf, str_empty]; rfl
  rw [hb]
  unfold stepL plainL
  by_cases hesc : (⟨#[x.cps.getD i 0]⟩ : Str) = (b.getD (tongueL ds).toNat tg0).1
  · have h0 : (b.getD (tongueL ds).toNat tg0).1 ≠ Str.ofString "" := fun e => by
      rw [e, str_empty] at hesc
      have : (#[x.cps.getD i 0] : Array Nat) = #[] := congrArg Str.cps hesc
      simp at this
    rw [if_pos ⟨h0, hesc⟩, if_pos hesc]
    by_cases h1 : i + 1 = x.length
    · rw [if_pos h1, if_neg (by omega)]
    · rw [if_neg h1, if_pos (by omega)]
  · rw [if_neg (fun q => hesc q.2), if_pos rfl, if_neg hesc]
theorem filter_first {l : List Mk} {j : Nat} {y : Mk} (hj : l[j]? = some y) (hlt : ∀ j', j' < j → ∀ y', l[j']? = some y' → y'.1.length < y.1.length) : ∃ r, l.filter (fun z => z.1 == y.1) = y :: r := by
  induction l generalizing j with
  | nil => simp at hj
  | cons a l ih =>
    cases j with
    | zero =>
      have : a = y := by simpa using hj
      subst this
      exact ⟨_, List.filter_cons_of_pos (p := fun z : Mk => z.1 == a.1) (beq_self_eq_true a.1)⟩
    | succ j =>
      have h0 := hlt 0 (by omega) a rfl
      have hn : ¬ (a.1 == y.1) = true := fun q => by
        have := eq_of_beq q
        rw [this] at h0
        omega
      rw [List.filter_cons_of_neg (p := fun z : Mk => z.1 == y.1) hn]
      exact ih (by simpa using hj) fun j' hj' y' hy' => hlt (j' + 1) (by omega) y' (by simpa using hy')
theorem step_longest {b : Bk} {ds : List LDr} {x : Str} {i : Nat} (hb : BkOk b) (hd : LdBk b ds) (hi : i < x.length) {j : Nat} {y : Mk} (hj : (fitsP b ds x i)[j]? = some y)
    (hmax : ∀ j' y', (fitsP b ds x i)[j']? = some y' → y'.1.length ≤ y.1.length ∧ (j' < j → y'.1.length < y.1.length)) : stepL b ds x i (bestL b ds x i) = takeL ds i y.1 y.2 := by
  have htok := hb.2.2.1
  have hy := List.mem_of_getElem? hj
  have hy1 : y ∈ possL b ds := (List.mem_filter.mp hy).1
  have hy2 : stAt x y.1 i = true := (List.mem_filter.mp hy).2
  have hfit : fitAt x i y.1 = true := by rw [← stAt_fit (by omega)]; exact hy2
  have hsm := fitL_sm (x := x) (i := i) htok (hd.ok htok)
  have hyf : y.1 ∈ fitL b ds x i := List.mem_filter.mpr ⟨poss_some hy1, hfit⟩
  have hbest : bestL b ds x i = y.1 := by
    unfold bestL
    rcases best_props (l := fitL b ds x i) fun m hm => hsm m (List.mem_filter.mp hm).1 with ⟨h1, _⟩ | ⟨h1, h2⟩
    · rw [h1] at hyf
      cases hyf
    · have hb1 := List.mem_filter.mp h1
      obtain ⟨y', hy', e⟩ := some_poss hb1.1
      have : y' ∈ fitsP b ds x i := List.mem_filter.mpr ⟨hy', by rw [e, stAt_fit (by omega)]; exact hb1.2⟩
      obtain ⟨j', hj'⟩ := List.getElem?_of_mem this
      have l1 := (hmax j' y' hj').1
      rw [e] at l1
      have l2 := h2 y.1 hyf
      exact fit_eq hb1.2 hfit (by omega)
  rw [hbest]
  have hs := hsm y.1 (poss_some hy1)
  obtain ⟨r, hr⟩ := filter_first hj fun j' hj' y' hy' => (hmax j' y' hy').2 hj'
  have hr2 : (possL b ds).filter (fun z => z.1 == y.1) = (y.1, y.2) :: r := by
    rw [← hr]
    unfold fitsP
    rw [List.filter_filter]
    refine List.filter_congr fun z _ => ?_
    cases g : z.1 == y.1 with
    | false => rfl
    | true =>
      rw [eq_of_beq g, hy2]
      rfl
  refine step_take (fun e => ?_) (fun e => ?_) hr2
  · have := hs.1
    rw [e, str_empty] at this
    exact absurd this (by decide)
  · by_cases hl : (tongueL ds).toNat < b.length
    · exact esc_free hb (getD_mem tg0 hl) (some_marks hd (poss_some hy1)) (fit_first (by omega) hfit hs.1) e
    · have e2 : b.getD (tongueL ds).toNat tg0 = tg0 := by simp [hl]
      rw [e2] at e
      have : (#[x.cps.getD i 0] : Array Nat) = #[] := congrArg Str.cps e
      simp at this
end T1
namespace L2
open PySem PySem.Spec PyProof.Rows
section
variable {P : Program} {w : World} {K : PySem.W.Frag} {mg : Str → Option Value} {base : Heap}
theorem Fun.okC {x qual : Str} {st : Stmt} {f c : Addr} {fd : FuncData} {N ps : List Str} {k : Nat} {sp : Sp} (F : Fun K x qual st f fd) (hc : fd.code = .ref c) (S : FnScope N ps (defScope st)) (len : ∀ vs H Q E, sp vs H Q E → vs.length = ps.length)
    (hbody : ∀ (A : Around) (outer : List Env) (s : Shared) (H : Hp) (vs : List V) (Q : VK) (E : XK), Room k (A.deeper (envOfC qual (defScope st) s.heap.objs.size f (.ref c))) → sp vs H Q E →
      ∃ t, PSs (cxOf CX0 P w K mg base N qual (defScope st) f (.ref c) A outer s H E).nox (defBody st) t ∧ t { nx := fun _ H' => Q .non H', rt := Q } (start N vs) H) : FnOk P w K mg base CX0 (k + 1) f fd ps sp := by
  obtain ⟨oc, od, kV, doc, pm, an, cdv, ct, osl, rfl, lk, hcd⟩ := F.ex
  have hc : cdv = .ref c := hc
  subst hc
  refine fn_of lk hcd S len fun A outer s H vs Q E hr hsp => ?_
  obtain ⟨t, h, q⟩ := hbody A outer s H vs Q E hr hsp
  exact ⟨t, h.nox, q⟩
end
end L2
namespace T1
open PySem L2
abbrev lamQ : Str := (Str.ofString "read_step" ++ Str.ofString ".<locals>.") ++ Str.ofString "<lambda>"
abbrev LamTb (tb : Addr) (H : Hp) : Prop := LamT tb lamLn lamCl lamQ H
theorem _root_.L2.LamT.same {P : Addr} {ln cl : Nat} {q : Str} {H H' : Hp} (h : LamT P ln cl q H) (s : Same H H') : LamT P ln cl q H' := by
  rcases h with h | ⟨c', h1, h2⟩
  · exact .inl (s _ _ h)
  · exact .inr ⟨c', s _ _ h1, s _ _ h2⟩
theorem _root_.L2.LamT.sameX {P p : Addr} {ln cl : Nat} {q : Str} {H H' : Hp} {l : List V} (h : LamT P ln cl q H) (hp : H p = some (.lst l)) (s : SameX p H H') : LamT P ln cl q H' := by
  rcases h with h | ⟨c', h1, h2⟩
  · exact .inl (s _ _ (ne_of h hp (by intro q; cases q)) h)
  · exact .inr ⟨c', s _ _ (ne_of h1 hp (by intro q; cases q)) h1, s _ _ (ne_of h2 hp (by intro q; cases q)) h2⟩
mutual
theorem Rep.butT {z P : Addr} {H H' : Hp} {ps : Array Value} (hP : H P = some (.tbl ps)) (s : ButX P H H') : ∀ {v : V} {d : D}, Rep z H v d → Rep z H' v d
  | _, _, .non => .non
  | _, _, .bl b => .bl b
  | _, _, .int i => .int i
  | _, _, .str x h => .str x h
  | _, _, .tup h hz r => .tup (s _ _ (ne_of h hP (by intro q; cases q)) h) hz (Reps.butT hP s r)
  | _, _, .lst h hz r => .lst (s _ _ (ne_of h hP (by intro q; cases q)) h) hz (Reps.butT hP s r)
theorem Reps.butT {z P : Addr} {H H' : Hp} {ps : Array Value} (hP : H P = some (.tbl ps)) (s : ButX P H H') : ∀ {vs : List V} {ds : List D}, Reps z H vs ds → Reps z H' vs ds
  | _, _, .nil => .nil
  | _, _, .cons h t => .cons (Rep.butT hP s h) (Reps.butT hP s t)
end
def But2 (q t : Addr) (H H' : Hp) : Prop := ∀ b o, b ≠ q → b ≠ t → H b = some o → H' b = some o
def spStepP (tb : Addr) : Sp := fun vs H Q _ => ∃ z v b q ds x, ∃ i : Nat, vs = [v, .str x, .int i, .ref q] ∧ Bag z H ∧ q ≠ z ∧ Rep z H v (bkD b) ∧ BkOk b ∧ PDs z H q ds ∧ LdBk b ds ∧ i < x.length ∧ x.length ≤ 20000 ∧ ds.length ≤ 20000 ∧ LamTb tb H ∧
  ∀ p H', But2 q tb H H' → H p = none → H' p = some (.tup (stV (stepL b ds x i (bestL b ds x i)).1)) → PDs z H' q (stepL b ds x i (bestL b ds x i)).2 → LamTb tb H' → Q (.ref p) H'
section
variable {P : Program} {w : World} {K : PySem.W.Frag} {mg : Str → Option Value} {base : Heap}
theorem scStepP : FnScope ["book", "text", "place", "doors", "fits", "mark", "door"] ["book", "text", "place", "doors"] (defScope sStep) := ⟨rfl, rfl, rfl, by decide +kernel, rfl, by decide +kernel, by decide +kernel⟩
set_option maxHeartbeats 0 in
theorem ok_stepP {f c tb f1 f2 f3 : Addr} {fd fd1 fd2 fd3 : FuncData} (F : Fun K "read_step" "read_step" sStep f fd) (hcd : fd.code = .ref c) (hK : PySem.W.codeHdIn K c tb = true) (hBA : base.BuiltinsAt mg tb) (T : TxtB mg) (hmax : mg "max" = none)
    (k1 : PySem.W.keepIn K (.ref f1) = true) (b1 : Binds K fd1 ["book", "text", "place", "doors"] []) (m1 : mg "fitting_marks" = some (.ref f1)) (G1 : FnOk P w K mg base CX0 3 f1 fd1 ["book", "text", "place", "doors"] spFitP)
    (k2 : PySem.W.keepIn K (.ref f2) = true) (b2 : Binds K fd2 ["book", "text", "place", "doors"] []) (m2 : mg "read_plain" = some (.ref f2)) (G2 : FnOk P w K mg base CX0 2 f2 fd2 ["book", "text", "place", "doors"] spPlainR)
    (k3 : PySem.W.keepIn K (.ref f3) = true) (b3 : Binds K fd3 ["mark", "door", "place", "doors"] []) (m3 : mg "take_mark" = some (.ref f3)) (G3 : FnOk P w K mg base CX0 2 f3 fd3 ["mark", "door", "place", "doors"] spTakeM) : FnOk P w K mg base CX0 4 f fd ["book", "text", "place", "doors"] (spStepP tb) := by
  refine F.okC hcd scStepP (fun vs H Q E h => ?_) (fun A outer s H vs Q E hr h => ?_)
  · obtain ⟨z, v, b, q, ds, x, i, rfl, _⟩ := h
    rfl
  · obtain ⟨z, v, b, q, ds, x, i, rfl, hB, hqz, R0, hok, hD, hbk, hi, hx, hdl, hT, k⟩ := h
    have nd := scStepP.nd
    have htok := hok.2.2.1
    have hld := hbk.ok htok
    refine ⟨_, pss_cons (ps_set (i := 4) nd rfl (Or.inl rfl) (pe_call G1 hr rfl m1 k1 b1 .nil pass0 (pa_cons (pv 0) (pa_cons (pv 1) (pa_cons (pv 2) (pa_cons (pv 3) pa_nil))))))
      (pss_cons (ps_if (pt_not (pt_truth (pv 4) (fun _ => rfl))) (pss_one (ps_ret (pe_call (G2.mono (by omega)) hr rfl m2 k2 b2 .nil pass0 (pa_cons (pv 0) (pa_cons (pv 1) (pa_cons (pv 2) (pa_cons (pv 3) pa_nil))))))) pss_nil)
      (pss_cons (ps_asg (pe_max_lam (P := tb) (c := c) rfl hr.in1.depth hmax T.len rfl hK hBA (pv 4) (fun _ _ _ _ => rfl)) (pg_tup rfl (pgs_cons (pg_name (i := 5) nd rfl (Or.inl rfl)) (pgs_cons (pg_name (i := 6) nd rfl (Or.inl rfl)) pgs_nil))))
      (pss_one (ps_ret (pe_call (G3.mono (by omega)) hr rfl m3 k3 b3 .nil pass0 (pa_cons (pv 5) (pa_cons (pv 6) (pa_cons (pv 2) (pa_cons (pv 3) pa_nil))))))))), ?_⟩
    have big := big1000
    refine ⟨_, rfl, _, rfl, _, rfl, _, rfl, z, v, b, q, ds, x, i, rfl, hB, R0, hok, hD, hld, fun pf ws H1 s1 npf hpf RW => ?_⟩
    have hwl : ws.length = (fitsP b ds x i).length := by have := RW.length; simpa using this
    refine ⟨_, rfl, _, .inl ⟨ws, SqL.of hpf, rfl⟩, ?_⟩
    refine ite2 (fun g => ?_) (fun g => ?_)
    · have hnil : fitsP b ds x i = [] := by
        refine List.eq_nil_of_length_eq_zero ?_
        cases ws with
        | nil => simp at hwl; omega
        | cons _ _ => simp at g
      have hst := step_plain (b := b) (ds := ds) hi hnil
      rw [hst] at k
      refine ⟨_, rfl, _, rfl, _, rfl, _, rfl, z, v, b, q, ds, x, i, rfl, R0.mono s1.x, hok, hD.same s1, hld, hi, hx, fun p H2 s2 np hp => ?_⟩
      exact k p H2 (fun b' o _ _ e => (s1.trans s2) b' o e) (s1.free np) hp (hD.same (s1.trans s2)) (hT.same (s1.trans s2))
    · have hpos : 0 < ws.length := by
        cases ws with
        | nil => simp at g
        | cons _ _ => simp
      have hT1 := hT.same s1
      refine ⟨_, rfl, pf, ws, (fun j => ((fitsP b ds x i).getD j mk0).1), rfl, hpf, hpos, (fun j hj => ?_), hT1, fun H2 j y bx2 T2 hj hmx => ?_⟩
      · obtain ⟨a, u, e, haz, ha, hl, Ru⟩ := rep_mk (reps_mk (ms := fitsP b ds x i) (i := j) RW (by omega))
        refine ⟨a, [u], ?_, ha, hl⟩
        have h2 : ws.getD j .non = ws[j] := by simp [hj]
        rw [List.getElem?_eq_getElem hj, ← h2, e]
      · obtain ⟨ps, hPt⟩ := hT1.tbl
        have hjl : j < ws.length := (List.getElem?_eq_some_iff.mp hj).1
        have ey : y = ws.getD j .non := by rw [List.getD_eq_getElem?_getD, hj]; rfl
        have Rj := Rep.butT hPt bx2 (reps_mk (ms := fitsP b ds x i) (i := j) RW (by omega))
        obtain ⟨a, u, e, haz, ha, hl, Ru⟩ := rep_mk Rj
        have hjf : (fitsP b ds x i)[j]? = some ((fitsP b ds x i).getD j mk0) := by
          have h1 : j < (fitsP b ds x i).length := by omega
          simp [h1]
        have hst := step_longest hok hbk hi hjf (fun j' y' hy' => by
          have h1 : j' < (fitsP b ds x i).length := (List.getElem?_eq_some_iff.mp hy').1
          have := hmx j' (by omega)
          have e2 : (fitsP b ds x i).getD j' mk0 = y' := by rw [List.getD_eq_getElem?_getD, hy']; rfl
          dsimp only at this
          rw [e2] at this
          exact this)
        rw [hst] at k
        generalize hMK : (fitsP b ds x i).getD j mk0 = mk at *
        have hmem : mk ∈ possL b ds := (List.mem_filter.mp (List.mem_of_getElem? hjf)).1
        obtain ⟨vs, hq, RD⟩ := hD
        have hq1 := s1 _ _ hq
        have hq2 := bx2 _ _ (ne_of hq1 hPt (by intro q; cases q)) hq1
        have RD2 := Reps.butT hPt bx2 (RD.mono s1.x)
        have hB2 : Bag z H2 := by
          obtain ⟨c1, c2, e1⟩ := hB.same s1
          exact ⟨c1, c2, bx2 _ _ (ne_of e1 hPt (by intro q; cases q)) e1⟩
        rw [ey, e]
        refine ⟨a, _, rfl, SqT.of ha, rfl, _, _, rfl, _, _, rfl, rfl, ?_⟩
        refine ⟨_, rfl, _, rfl, _, rfl, _, rfl, z, mk.1, u, mk.2, i, q, ds, rfl, hB2, hqz, Ru, hl, ⟨vs, hq2, RD2⟩, hdl, fun ho => ?_, fun p H3 s3 np hp hD3 => ?_⟩
        · have hpd : 0 < ds.length := by
            unfold possL at hmem
            rcases List.mem_append.mp hmem with h | h
            · obtain ⟨d, hd, _⟩ := List.mem_map.mp h
              exact List.length_pos_iff.mpr (fun q => by rw [q] at hd; cases hd)
            · obtain ⟨d, hd, e3⟩ := List.mem_map.mp h
              rw [← e3] at ho
              cases ho
          exact hpd
        · refine k p H3 (fun b' o n1 n2 e' => s3 b' o n1 (bx2 b' o n2 (s1 b' o e'))) ?_ hp hD3 (T2.sameX hq2 s3)
          cases e4 : H p with
          | none => rfl
          | some o =>
            have : H2 p = some o := by
              refine bx2 p o (fun z => ?_) (s1 p o e4)
              subst z
              obtain ⟨ps2, hPt2⟩ := T2.tbl
              rw [hPt2] at np
              cases np
            rw [this] at np
            cases np
end
end T1
namespace T1
open PySem L2
mutual
theorem Rep.but2 {z q t : Addr} {H H' : Hp} {l : List V} {ps : Array Value} (hq : H q = some (.lst l)) (ht : H t = some (.tbl ps)) (s : But2 q t H H') : ∀ {v : V} {d : D}, Rep z H v d → NoL d → Rep z H' v d
  | _, _, .non, _ => .non
  | _, _, .bl b, _ => .bl b
  | _, _, .int i, _ => .int i
  | _, _, .str x h, _ => .str x h
  | _, _, .tup h hz r, .tup k => .tup (s _ _ (ne_of h hq (by intro q; cases q)) (ne_of h ht (by intro q; cases q)) h) hz (Reps.but2 hq ht s r k)
theorem Reps.but2 {z q t : Addr} {H H' : Hp} {l : List V} {ps : Array Value} (hq : H q = some (.lst l)) (ht : H t = some (.tbl ps)) (s : But2 q t H H') : ∀ {vs : List V} {ds : List D}, Reps z H vs ds → NoLs ds → Reps z H' vs ds
  | _, _, .nil, _ => .nil
  | _, _, .cons h k, .cons h' k' => .cons (Rep.but2 hq ht s h h') (Reps.but2 hq ht s k k')
end
theorem But2.trans {q t : Addr} {H H1 H2 : Hp} (a : But2 q t H H1) (b : But2 q t H1 H2) : But2 q t H H2 := fun x o h1 h2 e => b x o h1 h2 (a x o h1 h2 e)
end T1
namespace T1
open PySem L2
def spOn (tb : Addr) : Sp := fun vs H Q _ => ∃ z v b q x, vs = [v, .str x, .ref q] ∧ Bag z H ∧ q ≠ z ∧ Rep z H v (bkD b) ∧ BkOk b ∧ H q = some (.lst []) ∧ x.length ≤ 20000 ∧ LamTb tb H ∧
  ∀ p fv n H', But2 q tb H H' → H p = none → H' p = some (.lst fv) → (runF b x n).at_ = x.length → Reps z H' fv ((runF b x n).ss.map stD) → PDs z H' q (runF b x n).ds → Bag z H' → LamTb tb H' → Q (.ref p) H'
def spStepsP (tb : Addr) : Sp := fun vs H Q _ => ∃ z v b x, vs = [v, .str x] ∧ Bag z H ∧ Rep z H v (bkD b) ∧ BkOk b ∧ x.length ≤ 20000 ∧ LamTb tb H ∧
  ∀ p fv n H', ButX tb H H' → H p = none → H' p = some (.lst fv) → (runF b x n).at_ = x.length → Reps z H' fv ((runF b x n).ss.map stD) → Bag z H' → LamTb tb H' → Q (.ref p) H'
section
variable {P : Program} {w : World} {K : PySem.W.Frag} {mg : Str → Option Value} {base : Heap}
theorem scOn : FnScope ["book", "text", "doors", "told", "place", "step"] ["book", "text", "doors"] (defScope sOn) := ⟨rfl, rfl, rfl, by decide +kernel, rfl, by decide +kernel, by decide +kernel⟩
set_option maxHeartbeats 0 in
theorem ok_on {f tb f1 : Addr} {fd fd1 : FuncData} (F : Fun K "read_on" "read_on" sOn f fd) (T : TxtB mg)
    (k1 : PySem.W.keepIn K (.ref f1) = true) (b1 : Binds K fd1 ["book", "text", "place", "doors"] []) (m1 : mg "read_step" = some (.ref f1)) (G1 : FnOk P w K mg base CX0 4 f1 fd1 ["book", "text", "place", "doors"] (spStepP tb)) : FnOk P w K mg base CX0 5 f fd ["book", "text", "doors"] (spOn tb) := by
  refine F.ok scOn (fun vs H Q E h => ?_) (fun cdv A outer s H vs Q E hr h => ?_)
  · obtain ⟨z, v, b, q, x, rfl, _⟩ := h
    rfl
  · obtain ⟨z, v, b, q, x, rfl, hB, hqz, R0, hok, hq, hx, hT, k⟩ := h
    have nd := scOn.nd
    have hok' := hok
    obtain ⟨hb1, hb6, htok, _⟩ := hok'
    refine ⟨_, pss_cons (ps_set (i := 3) nd rfl (Or.inl rfl) (pe_lst pa_nil))
      (pss_cons (ps_set (i := 4) nd rfl (Or.inl rfl) pe_int)
      (pss_cons (ps_while PassesOwn.never (pt_cmpR op_lt (pv 4) (pe_callB call_len_str (by rfl) T.len b_len (pa_cons (pv 1) pa_nil)) (nomark _))
        (pss_cons (ps_set (i := 5) nd rfl (Or.inl rfl) (pe_call G1 hr rfl m1 k1 b1 .nil pass0 (pa_cons (pv 0) (pa_cons (pv 1) (pa_cons (pv 4) (pa_cons (pv 2) pa_nil))))))
        (pss_cons (ps_expr (pe_bm PySem.F.plainAttrs_list PySem.F.slot_list_append PySem.F.type_list_append mt_append (pv 3) (pa_cons (pv 5) pa_nil)))
        (pss_one (ps_aug (i := 4) nd rfl (Or.inl rfl) (pe_ix ix_tup (pv 5) pe_int (fun _ _ => rfl)) ip_add)))))
      (pss_one (ps_ret (pv 3))))), ?_⟩
    have big := big1000
    have big2 : (100000 : Nat) ≤ sizeLine := by rw [sizeLine_eq]; decide
    refine ⟨Nat.zero_le _, fun pf npf => ?_⟩
    have s1 := Same.new (o := .lst []) npf
    have hpfz : pf ≠ z := hB.ne npf
    have hqf : q ≠ pf := ne_of_none hq npf
    refine while_by (fun σ H3 => ∃ n u, σ = [some v, some (.str x), some (.ref q), some (.ref pf), some (.int (runF b x n).at_), u] ∧ But2 q tb H H3 ∧ Bag z H3 ∧ Rep z H3 v (bkD b) ∧ PDs z H3 q (runF b x n).ds ∧ LamTb tb H3 ∧ ∃ fv, H3 pf = some (.lst fv) ∧ Reps z H3 fv ((runF b x n).ss.map stD))
      (fun σ H3 => match σ[4]? with | some (some (V.int i)) => x.length - i.toNat | _ => 0) ⟨0, none, rfl, fun b' o _ _ e => s1 b' o e, hB.same s1, R0.mono s1.x, ⟨[], s1 _ _ hq, .nil⟩, hT.same s1, [], upd_same, .nil⟩ ?_ ?_
    · rintro σ H3 ⟨n, u, rfl, s3, hB3, R3, D3, T3, fv, hf3, RF⟩
      have rok := run_ok (x := x) htok hb1 n
      have hle := rok.le
      refine ⟨_, rfl, _, rfl, x, rfl, by omega, _, _, rfl, rfl, _, rfl, ?_⟩
      refine ite2 (fun hlt => ?_) (fun hlt => ?_)
      · have hlt : (runF b x n).at_ < x.length := by have := of_decide_eq_true hlt; omega
        have hdl := rok.dl
        have hsl := rok.sl
        refine ⟨_, rfl, _, rfl, _, rfl, _, rfl, z, v, b, q, (runF b x n).ds, x, (runF b x n).at_, rfl, hB3, hqz, R3, hok, D3, rok.bk, hlt, hx, by omega, T3, fun p H4 s4 np hp D4 T4 => ?_⟩
        obtain ⟨p1, p2, p3, p4, p5, p6⟩ := stepL_props (x := x) htok rok.bk hb1 hlt
        rw [← run_at_ds hlt] at D4
        obtain ⟨dv3, hq3, _⟩ := D3
        obtain ⟨ps, ht3⟩ := T3.tbl
        have R4 := Rep.but2 hq3 ht3 s4 R3 (.tup (noL_tgs b))
        have RF4 := Reps.but2 hq3 ht3 s4 RF (noL_sts _)
        have hf4 := s4 _ _ hqf.symm (ne_of hf3 ht3 (by intro q; cases q)) hf3
        have hB4 : Bag z H4 := by
          obtain ⟨c1, c2, e⟩ := hB3
          exact ⟨c1, c2, s4 _ _ hqz.symm (ne_of e ht3 (by intro q; cases q)) e⟩
        have hpz : p ≠ z := hB3.ne np
        have hfl : fv.length = (runF b x n).ss.length := by have := RF.length; simpa using this
        refine ⟨_, rfl, .inl ⟨rfl, _, SqL.of hf4⟩, _, rfl, pf, fv, _, rfl, rfl, hf4, by omega, ?_⟩
        have rst : Rep z H4 (.ref p) (stD (stepL b (runF b x n).ds x (runF b x n).at_ (bestL b (runF b x n).ds x (runF b x n).at_)).1) := .tup hp hpz (.cons (.int _) (.cons (.int _) (.cons (.str _ (by omega)) (.cons (.int _) (.cons (.int _) .nil)))))
        have hf5 : upd H4 pf (.lst (fv ++ [.ref p])) pf = some (.lst (fv ++ [.ref p])) := upd_same
        have RF5 : Reps z (upd H4 pf (.lst (fv ++ [.ref p]))) (fv ++ [.ref p]) ((runF b x (n + 1)).ss.map stD) := by
          rw [run_at_ss hlt, List.map_append]
          exact Reps.updL hf4 (RF4.append (.cons rst .nil)) ((noL_sts _).append (noL_sts [_]))
        have R5 := Rep.updL (l' := fv ++ [.ref p]) hf4 R4 (.tup (noL_tgs b))
        obtain ⟨dv, hq4, RD4⟩ := D4
        have hq5 : upd H4 pf (.lst (fv ++ [.ref p])) q = some (.lst dv) := by rw [upd_ne hqf]; exact hq4
        have RD5 := Reps.updL (l' := fv ++ [.ref p]) hf4 RD4 (noL_pds _)
        have T5 : LamTb tb (upd H4 pf (.lst (fv ++ [.ref p]))) := T4.sameX hf4 (SameX.refl.upd)
        have hp5 : upd H4 pf (.lst (fv ++ [.ref p])) p = some (.tup (stV (stepL b (runF b x n).ds x (runF b x n).at_ (bestL b (runF b x n).ds x (runF b x n).at_)).1)) := by
          rw [upd_ne (ne_of hp hf4 (by intro q; cases q))]; exact hp
        have hB5 : Bag z (upd H4 pf (.lst (fv ++ [.ref p]))) := by
          obtain ⟨c1, c2, e⟩ := hB4
          exact ⟨c1, c2, by rw [upd_ne hpfz.symm]; exact e⟩
        have S5 : But2 q tb H (upd H4 pf (.lst (fv ++ [.ref p]))) := fun b' o h1 h2 e => by rw [upd_ne (ne_of_none e npf)]; exact (s3.trans s4) b' o h1 h2 e
        generalize upd H4 pf (.lst (fv ++ [.ref p])) = H5 at hf5 RF5 R5 hq5 RD5 T5 hp5 hB5 S5
        refine ⟨_, rfl, _, rfl, p, _, 1, _, rfl, rfl, SqT.of hp5, atI_nat (j := 1) rfl, _, _, rfl, rfl, ?_⟩
        have eat : ((runF b x n).at_ : Int) + (stepL b (runF b x n).ds x (runF b x n).at_ (bestL b (runF b x n).ds x (runF b x n).at_)).1.2.1 = ((runF b x (n + 1)).at_ : Int) := by
          rw [run_at hlt]
          show _ = ((_ + _ : Nat) : Int)
          omega
        refine ⟨⟨n + 1, some (.ref p), ?_, S5, hB5, R5, ⟨dv, hq5, RD5⟩, T5, _, hf5, RF5⟩, ?_⟩
        · show [some v, some (.str x), some (.ref q), some (.ref pf), some (V.int (((runF b x n).at_ : Int) + (stepL b (runF b x n).ds x (runF b x n).at_ (bestL b (runF b x n).ds x (runF b x n).at_)).1.2.1)), some (.ref p)] = _
          rw [eat]
        · show x.length - (((runF b x n).at_ : Int) + (stepL b (runF b x n).ds x (runF b x n).at_ (bestL b (runF b x n).ds x (runF b x n).at_)).1.2.1).toNat < x.length - ((runF b x n).at_ : Int).toNat
          omega
      · have hge : (runF b x n).at_ = x.length := by
          have : ¬ (((runF b x n).at_ : Int) < (x.length : Int)) := fun q => hlt (decide_eq_true q)
          omega
        exact ⟨_, rfl, k pf fv n H3 s3 npf hf3 hge RF D3 hB3 T3⟩
    · rintro σ H3 Q1 Q2 hq ⟨v1, e1, v2, e2, x2, e3, h4, i1, i2, e5, e6, b1, e7, h⟩
      exact ⟨v1, e1, v2, e2, x2, e3, h4, i1, i2, e5, e6, b1, e7, hq _ _ h⟩
theorem scStepsP : FnScope ["book", "text"] ["book", "text"] (defScope sSteps) := ⟨rfl, rfl, rfl, by decide +kernel, rfl, by decide +kernel, by decide +kernel⟩
theorem ok_stepsP {f tb f1 : Addr} {fd fd1 : FuncData} (F : Fun K "steps" "steps" sSteps f fd)
    (k1 : PySem.W.keepIn K (.ref f1) = true) (b1 : Binds K fd1 ["book", "text", "doors"] []) (m1 : mg "read_on" = some (.ref f1)) (G1 : FnOk P w K mg base CX0 5 f1 fd1 ["book", "text", "doors"] (spOn tb)) : FnOk P w K mg base CX0 6 f fd ["book", "text"] (spStepsP tb) := by
  refine F.ok scStepsP (fun vs H Q E h => ?_) (fun cdv A outer s H vs Q E hr h => ?_)
  · obtain ⟨z, v, b, x, rfl, _⟩ := h
    rfl
  · obtain ⟨z, v, b, x, rfl, hB, R0, hok, hx, hT, k⟩ := h
    refine ⟨_, pss_one (ps_ret (pe_call G1 hr rfl m1 k1 b1 .nil pass0 (pa_cons (pv 0) (pa_cons (pv 1) (pa_cons (pe_lst pa_nil) pa_nil))))), ?_⟩
    refine ⟨_, rfl, _, rfl, Nat.zero_le _, fun q nq => ?_⟩
    have s1 := Same.new (o := .lst []) nq
    refine ⟨z, v, b, q, x, rfl, hB.same s1, hB.ne nq, R0.mono s1.x, hok, upd_same, hx, hT.same s1, fun p fv n H2 s2 np hp hat RF D2 hB2 T2 => ?_⟩
    exact k p fv n H2 (fun b' o h e => s2 b' o (ne_of_none e nq) h (s1 b' o e)) (s1.free np) hp hat RF hB2 T2
end
end T1
namespace L2
open PySem PySem.Spec PyProof.Rows
theorem law_callT {P : Program} {w : World} {K : PySem.W.Frag} {mg mb : Str → Option Value} {CX : CXT} {k : Nat} {fa a c tb : Addr} {fd : FuncData} {x : Str} {sp : Sp} {s₁ : Shared} {vs : List Value} {ns : List Int}
    (KX : K.In s₁.heap) (hns : s₁.heap.Ns mainGlobals mg) (hb : s₁.heap.Ns builtinsNs mb) (hbb : ∀ x : Str, x ≠ "__name__" → mb x = bootBuiltins x) (hlim : s₁.heap.NoLimit) (hg : s₁.gens = #[])
    (hbm : ∃ bm ob, mg "__builtins__" = some (.ref bm) ∧ bm ≠ builtinsNs ∧ s₁.heap.get? bm = some ob ∧ ob.cls = .type "module" ∧ ob.dict = some builtinsNs ∧ ob.data = .plain)
    (hC : PySem.W.codeHdIn K c tb = true) (hP : s₁.heap.get? tb = some (PySem.W.tabObj #[])) (hKP : K.lookup tb = none)
    (ha : s₁.heap.get? a = some { cls := .type "list", data := .seq vs.toArray }) (hi : IntsAre vs ns) (hl : ns.length ≤ sizeLine) (hr : Room k callerA)
    (F : ∀ base : Heap, K.In base → base.Ns mainGlobals mg → base.BuiltinsAt mg tb → FnOk P w K mg base CX k fa fd [x] sp) (hbind : ∀ (s : Shared) (u : Value), BindsTo s fd ⟨[u], []⟩ [(x, u)])
    (hsp : ∀ H : Hp, H tb = some (.tbl #[]) → SqL K H a (ns.map V.int) → sp [.ref a] H (fun v _ => v = .bl true) fun _ _ _ => False)
    (hCX : ∀ H e s', CX [] H s₁ (fun _ _ _ => False) e s' → False) :
    codeAny (model P w) callerA (.call (.ref fa) ⟨[.ref a], []⟩) (fun r s' => r = .ok (.ret (.bool true)) ∧ OldK s₁.heap s'.heap ∧ s'.os = s₁.os ∧ AllBare s'.gens) s₁ := by
  have rv := vals_ints hi
  have lenV := hi.length
  have hat : a ≠ tb := fun z => by
    rw [z, hP] at ha
    cases ha
  have core : ∀ H : Hp, H tb = some (.tbl #[]) → (∀ b, b ≠ tb → H b = none ∨ ∃ o xs, H b = some (.frz o (.lst xs))) → SqL K H a (ns.map V.int) → HOk P w H s₁.heap → (∀ b, H b ≠ none → b = a ∨ b = tb) → (∀ b, H b ≠ none → K.lookup b = none) →
      codeAny (model P w) callerA (.call (.ref fa) ⟨[.ref a], []⟩) (fun r s' => r = .ok (.ret (.bool true)) ∧ OldK s₁.heap s'.heap ∧ s'.os = s₁.os ∧ AllBare s'.gens) s₁ := by
    intro H hT hO hS hok hA hK
    have base_of : ∀ {b : Addr} {o : Obj}, s₁.heap.get? b = some o → H b = none → (hidT s₁.heap H).get? b = some o := fun e n => hidT_get e n
    have noA : ∀ {b : Addr} {o : Obj}, s₁.heap.get? b = some o → (o.cls = .type "list" → False) → (o.cls = .none → False) → H b = none := fun {b o} e d1 d2 => by
      cases q : H b with
      | none => rfl
      | some u =>
        rcases hA b (by rw [q]; simp) with e' | e'
        · subst e'
          rw [ha] at e; cases e
          exact (d1 rfl).elim
        · subst e'
          rw [hP] at e; cases e
          exact (d2 rfl).elim
    have noD : ∀ {b : Addr} {o : Obj} {es : Array DictEntry} {ep : Nat}, s₁.heap.get? b = some o → o.data = .dict es ep → H b = none := fun {b o es ep} e d => by
      cases q : H b with
      | none => rfl
      | some u =>
        rcases hA b (by rw [q]; simp) with e' | e'
        · subst e'
          rw [ha] at e; cases e
          have d' : Data.seq vs.toArray _ = Data.dict es ep := d
          cases d'
        · subst e'
          rw [hP] at e; cases e
          have d' : Data.fields #[] = Data.dict es ep := d
          cases d'
    have nsK : ∀ {b : Addr} {m : Str → Option Value}, s₁.heap.Ns b m → (hidT s₁.heap H).Ns b m := fun {b m} ⟨o, es, ep, e, d, r⟩ => ⟨o, es, ep, base_of e (noD e d), d, r⟩
    have hKb : K.In (hidT s₁.heap H) := fun b o e => base_of (KX b o e) (by
      cases q : H b with
      | none => rfl
      | some u => rw [hK b (by rw [q]; simp)] at e; cases e)
    have hM : Mod K mg (hidT s₁.heap H) := ⟨hKb, nsK hns, ⟨mb, nsK hb, hbb⟩, let ⟨mc, h1, h2⟩ := hlim; ⟨mc, nsK h1, h2⟩⟩
    have hBA : (hidT s₁.heap H).BuiltinsAt mg tb := by
      obtain ⟨bm, ob, b1, b2, b3, b4, b5, b6⟩ := hbm
      refine ⟨bm, ob, b1, b2, fun q => ?_, fun q => ?_, base_of b3 (noA b3 (fun q => by rw [b4] at q; injection q with q; exact absurd q (by decide)) (fun q => by rw [b4] at q; cases q)), b4, b5, b6⟩
      · obtain ⟨o, es, ep, e, hd, _⟩ := hns
        rw [q, e] at b3; cases b3; rw [hd] at b6; cases b6
      · rw [q, hP] at b3; cases b3; cases b4
    have e0 : Env0 P w K mg (hidT s₁.heap H) callerA [] s₁ H := ⟨rfl, hM, fun b o e => of_hidT e, Nat.le_of_eq (hidT_size _ _), trivial, fun b hb => absurd (show b ∈ ([] : List Addr) from hb) (by simp), hok, .of_eq hg⟩
    refine codeAny_mono ((F _ hKb (nsK hns) hBA).run callerA [] s₁ H ⟨[.ref a], []⟩ [.ref a] [.ref a] _ _ hr e0 (hbind s₁ (.ref a)) (.cons rfl .nil) (hsp H hT hS)) fun r s' h => ?_
    cases r with
    | error e => exact (hCX H e s' h).elim
    | ok fl =>
      cases fl with
      | next => exact False.elim h
      | brk => exact False.elim h
      | cont => exact False.elim h
      | ret u =>
        obtain ⟨v, H', os, bare, un, hok', r', q⟩ := h
        have q' : v = .bl true := q
        subst q'
        obtain rfl : u = Value.bool true := r'
        refine ⟨rfl, ⟨fun b o e => ?_, fun b o e => un.there b o e (by simp)⟩, os, bare⟩
        by_cases hbt : b = tb
        · subst hbt
          rw [hP] at e
          cases e
          obtain ⟨more, e1⟩ := un.tbls b _ hT
          have e2 : s'.heap.get? b = some { cls := .none, data := .fields (#[] ++ more) } := hok' b _ e1
          have TA := (PySem.W.codeHd_of_K KX hC).tab hP
          exact .inr (.inl ⟨TA.isCodeTable, rfl, #[], more, rfl, e2⟩)
        · refine .inl ?_
          cases q : H b with
          | none => exact un.keep b o e q (by intro z; exact absurd (show b ∈ ([] : List Addr) from z) (by simp)) (by simp)
          | some u =>
            rcases hO b hbt with z | ⟨ob, xs, z⟩
            · rw [q] at z; cases z
            · have z2 := un.frzs b ob _ z
              obtain ⟨e1, _⟩ := hok b _ z
              obtain ⟨e2, _⟩ := hok' b _ z2
              rw [e] at e1; cases e1
              exact e2
  cases hk : K.lookup a with
  | some o =>
    have e := KX a o hk
    rw [ha] at e
    cases e
    refine core (fun b => if b = tb then some (.tbl #[]) else none) (if_pos rfl) (fun b hb => .inl (if_neg hb)) (.inr ⟨_, vs.toArray, _, hk, rfl, rfl, rfl, by rw [List.size_toArray, lenV]; exact hl, by simpa using rv⟩) (fun b u z => ?_) (fun b z => ?_) fun b z => ?_
    · by_cases hb : b = tb
      · have z' := (if_pos hb).symm.trans z
        cases z'
        subst hb
        exact hP
      · have z' := (if_neg hb).symm.trans z
        cases z'
    · by_cases hb : b = tb
      · exact .inr hb
      · exact absurd (if_neg hb) z
    · by_cases hb : b = tb
      · rw [hb]; exact hKP
      · exact absurd (if_neg hb) z
  | none =>
    refine core (fun b => if b = tb then some (.tbl #[]) else if b = a then some (.frz { cls := .type "list", data := .seq vs.toArray } (.lst (ns.map V.int))) else none) (if_pos rfl) (fun b hb => ?_) (.inl (.inr ⟨{ cls := .type "list", data := .seq vs.toArray }, (if_neg hat).trans (if_pos rfl)⟩)) (fun b u z => ?_) (fun b z => ?_) fun b z => ?_
    · by_cases hba : b = a
      · exact .inr ⟨_, _, (if_neg hb).trans (if_pos hba)⟩
      · exact .inl ((if_neg hb).trans (if_neg hba))
    · by_cases hb : b = tb
      · have z' := (if_pos hb).symm.trans z
        cases z'
        subst hb
        exact hP
      · by_cases hba : b = a
        · have z' := ((if_neg hb).trans (if_pos hba)).symm.trans z
          cases z'
          subst hba
          exact ⟨ha, by rw [List.length_map]; exact hl, vs, _, rv, ha⟩
        · have z' := ((if_neg hb).trans (if_neg hba)).symm.trans z
          cases z'
    · by_cases hb : b = tb
      · exact .inr hb
      · by_cases hba : b = a
        · exact .inl hba
        · exact absurd ((if_neg hb).trans (if_neg hba)) z
    · by_cases hb : b = tb
      · rw [hb]; exact hKP
      · by_cases hba : b = a
        · rw [hba]; exact hk
        · exact absurd ((if_neg hb).trans (if_neg hba)) z
theorem walk_ofT {l : PySem.W.OpenLaw} {n k : Nat} {q : Program} {loose : List Str} {XP : (Str → Option Value) → Heap → Prop} {YP : World → Heap → Prop} {d : DefRec} {K : Params → PySem.W.Frag} {CX : World → CXT} {sp : World → Sp} {x : Str} {tb : Addr}
    (hn : l.most = some n) (hn2 : n ≤ sizeLine) (hdf : d.params.defaults = []) (hr : Room k callerA)
    (hY : ∀ (w : World) (h : Heap), YP w h → (K w.params).In h ∧ h.get? tb = some (PySem.W.tabObj #[]))
    (F : ∀ (w : World) (mg : Str → Option Value) (fa : Addr) (h : Heap), (K w.params).In h → h.Ns mainGlobals mg → mg d.name = some (.ref fa) →
      ∃ (fd : FuncData) (c : Addr), PySem.W.codeHdIn (K w.params) c tb = true ∧ (K w.params).lookup tb = none ∧ (∀ (s : Shared) (u : Value), BindsTo s fd ⟨[u], []⟩ [(x, u)]) ∧
        ∀ base : Heap, (K w.params).In base → base.Ns mainGlobals mg → base.BuiltinsAt mg tb → FnOk l.prog w (K w.params) mg base (CX w) k fa fd [x] (sp w))
    (hsp : ∀ (w : World) (H : Hp) (a : Addr) (ns : List Int), ns.length ≤ n → H tb = some (.tbl #[]) → SqL (K w.params) H a (ns.map V.int) → sp w [.ref a] H (fun v _ => v = .bl true) fun _ _ _ => False)
    (hCX : ∀ (w : World) (H : Hp) (s : Shared) (e : Value) (s' : Shared), CX w [] H s (fun _ _ _ => False) e s' → False) :
    PySem.W.WalkO q loose XP YP l.row.toRowW d [] (fun f vs => PySem.call f vs) := by
  refine Att.attach_call hn hdf fun w s₀ s₁ mg mb fa o pm cd doc a vs ns G Y ho hd hcd hmg hobj hints hlen hg => ?_
  obtain ⟨KX, hP⟩ := hY w _ Y
  obtain ⟨fd, c, hC, hKP, hb, hF⟩ := F w mg fa _ KX G.T.g hmg
  exact law_callT KX G.T.g G.T.b G.T.builtins G.T.nolimit hg G.T.bmain hC hP hKP hobj hints (Nat.le_trans hlen hn2) hr hF hb (fun H hO hS => hsp w H a ns hlen hO hS) fun H e s' => hCX w H s₁ e s'
end L2
namespace T1
open PySem L2
abbrev st0 : Stp := (0, 0, ⟨#[]⟩, 0, 0)
theorem take_snoc {ss : List Stp} {t : Nat} (h : t < ss.length) : ss.take (t + 1) = ss.take t ++ [ss.getD t st0] := by
  rw [List.take_succ, List.getD_eq_getElem?_getD, List.getElem?_eq_getElem h]
  rfl
def leftStep (l : List Int) (s : Stp) : List Int := if s.2.2.1 = Str.ofString "open" then l ++ [s.1] else if s.2.2.1 = Str.ofString "close" then l.dropLast else l
def leftL (ss : List Stp) : List Int := ss.foldl leftStep []
theorem leftL_snoc (ss : List Stp) (s : Stp) : leftL (ss ++ [s]) = leftStep (leftL ss) s := by
  unfold leftL
  rw [List.foldl_append]
  rfl
def LeftOk (ss : List Stp) : Prop := ∀ t, t < ss.length → (ss.getD t st0).2.2.1 = Str.ofString "close" → leftL (ss.take t) ≠ []
theorem w_cut_open : Str.ofString "cut" ≠ Str.ofString "open" := by decide +kernel
theorem w_cut_close : Str.ofString "cut" ≠ Str.ofString "close" := by decide +kernel
theorem w_esc_open : Str.ofString "escape" ≠ Str.ofString "open" := by decide +kernel
theorem w_esc_close : Str.ofString "escape" ≠ Str.ofString "close" := by decide +kernel
theorem w_sign_open : Str.ofString "sign" ≠ Str.ofString "open" := by decide +kernel
theorem w_sign_close : Str.ofString "sign" ≠ Str.ofString "close" := by decide +kernel
theorem w_close_open : Str.ofString "close" ≠ Str.ofString "open" := by decide +kernel
theorem w_open_close : Str.ofString "open" ≠ Str.ofString "close" := by decide +kernel
theorem w_no_open : Str.ofString "" ≠ Str.ofString "open" := by decide +kernel
theorem w_no_close : Str.ofString "" ≠ Str.ofString "close" := by decide +kernel
theorem left_step (b : Bk) (ds : List LDr) (x : Str) (i : Nat) (m : Str) : leftStep (ds.map (·.1)) (stepL b ds x i m).1 = (stepL b ds x i m).2.map (·.1) ∧ ((stepL b ds x i m).1.2.2.1 = Str.ofString "close" → ds ≠ []) := by
  unfold stepL
  split
  · split
    · exact ⟨by unfold leftStep; rw [if_neg w_cut_open, if_neg w_cut_close], fun e => absurd e w_cut_close⟩
    · exact ⟨by unfold leftStep; rw [if_neg w_esc_open, if_neg w_esc_close], fun e => absurd e w_esc_close⟩
  · split
    · exact ⟨by unfold leftStep; rw [if_neg w_sign_open, if_neg w_sign_close], fun e => absurd e w_sign_close⟩
    · split
      · rename_i h
        exact ⟨by unfold leftStep; rw [if_neg w_close_open, if_pos rfl, List.map_dropLast], fun _ => h.1⟩
      · split
        · exact ⟨by unfold leftStep; rw [if_pos rfl, List.map_append]; rfl, fun e => absurd e w_open_close⟩
        · exact ⟨by unfold leftStep; rw [if_neg w_no_open, if_neg w_no_close], fun e => absurd e w_no_close⟩
theorem run_left (b : Bk) (x : Str) : ∀ n, leftL (runF b x n).ss = (runF b x n).ds.map (·.1) ∧ LeftOk (runF b x n).ss
  | 0 => ⟨rfl, fun t h => nomatch h⟩
  | n + 1 => by
    obtain ⟨ih, ih2⟩ := run_left b x n
    by_cases hlt : (runF b x n).at_ < x.length
    · obtain ⟨l1, l2⟩ := left_step b (runF b x n).ds x (runF b x n).at_ (bestL b (runF b x n).ds x (runF b x n).at_)
      rw [run_at_ss hlt, run_at_ds hlt]
      refine ⟨by rw [leftL_snoc, ih]; exact l1, fun t ht hc => ?_⟩
      rw [List.length_append] at ht
      by_cases h : t < (runF b x n).ss.length
      · rw [List.take_append_of_le_length (by omega)]
        refine ih2 t h ?_
        rw [List.getD_eq_getElem?_getD, List.getElem?_append_left h, ← List.getD_eq_getElem?_getD] at hc
        exact hc
      · have e : t = (runF b x n).ss.length := by
          have : t < (runF b x n).ss.length + 1 := ht
          omega
        subst e
        rw [List.take_left, ih]
        have hc' : (stepL b (runF b x n).ds x (runF b x n).at_ (bestL b (runF b x n).ds x (runF b x n).at_)).1.2.2.1 = Str.ofString "close" := by
          rw [List.getD_eq_getElem?_getD, List.getElem?_append_right (Nat.le_refl _)] at hc
          simpa using hc
        have := l2 hc'
        intro q
        exact this (List.map_eq_nil_iff.mp q)
    · have e : runF b x (n + 1) = runF b x n := by
        show runStep b x (runF b x n) = _
        unfold runStep
        rw [if_neg hlt]
      rw [e]
      exact ⟨ih, ih2⟩
def cutL (ss : List Stp) : List LDr := if ss ≠ [] ∧ (ss.getD (ss.length - 1) st0).2.2.1 = Str.ofString "cut" then [((ss.getD (ss.length - 1) st0).1, (ss.getD (ss.length - 1) st0).2.2.2.1, Str.ofString "")] else []
theorem dep_lds (k : Nat) : ∀ ds : List LDr, Deps (k + 1) (ds.map ldD)
  | [] => .nil _
  | d :: r => .cons (.tup (.cons (.int _ _) (.cons (.int _ _) (.cons (.str _ _) (.nil _))))) (dep_lds k r)
end T1
namespace T1
open PySem L2
theorem rep_stV {z : Addr} {H : Hp} {v : V} {d : Stp} (r : Rep z H v (stD d)) : ∃ a, v = .ref a ∧ a ≠ z ∧ H a = some (.tup (stV d)) ∧ d.2.2.1.length ≤ 1000 := by
  cases r with
  | tup h hz r =>
    cases r with
    | cons r1 r =>
      cases r with
      | cons r2 r =>
        cases r with
        | cons r3 r =>
          cases r with
          | cons r4 r =>
            cases r with
            | cons r5 r =>
              cases r
              cases r1
              cases r2
              cases r4
              cases r5
              cases r3 with
              | str _ h3 => exact ⟨_, rfl, hz, h, h3⟩
theorem reps_st {z : Addr} {H : Hp} {fv : List V} {ss : List Stp} {t : Nat} (R : Reps z H fv (ss.map stD)) (h : t < ss.length) : Rep z H (fv.getD t .non) (stD (ss.getD t st0)) := by
  have := R.get (i := t) (by simp; omega)
  simpa [h] using this
def spLeft : Sp := fun vs H Q _ => ∃ z q fv ss, vs = [.ref q] ∧ H q = some (.lst fv) ∧ Reps z H fv (ss.map stD) ∧ LeftOk ss ∧ ss.length ≤ 20000 ∧
  ∀ p H', Same H H' → H p = none → H' p = some (.lst ((leftL ss).map V.int)) → Q (.ref p) H'
section
variable {P : Program} {w : World} {K : PySem.W.Frag} {mg : Str → Option Value} {base : Heap}
theorem scLeft : FnScope ["told", "places", "place", "many", "word", "tongue", "depth"] ["told"] (defScope sLeft) := ⟨rfl, rfl, rfl, by decide +kernel, rfl, by decide +kernel, by decide +kernel⟩
set_option maxHeartbeats 0 in
theorem ok_left {f : Addr} {fd : FuncData} (F : Fun K "places_left_open" "places_left_open" sLeft f fd) : FnOk P w K mg base CX0 1 f fd ["told"] spLeft := by
  refine F.ok scLeft (fun vs H Q E h => ?_) (fun cdv A outer s H vs Q E hr h => ?_)
  · obtain ⟨z, q, fv, ss, rfl, _⟩ := h
    rfl
  · obtain ⟨z, q, fv, ss, rfl, hq, R, hok, hn, k⟩ := h
    have nd := scLeft.nd
    refine ⟨_, pss_cons (ps_set (i := 1) nd rfl (Or.inl rfl) (pe_lst pa_nil))
      (pss_cons (ps_for PassesOwn.never rfl (pi_list (pv 0)) (pg_tup rfl (pgs_cons (pg_name (i := 2) nd rfl (Or.inl rfl)) (pgs_cons (pg_name (i := 3) nd rfl (Or.inl rfl)) (pgs_cons (pg_name (i := 4) nd rfl (Or.inl rfl)) (pgs_cons (pg_name (i := 5) nd rfl (Or.inl rfl)) (pgs_cons (pg_name (i := 6) nd rfl (Or.inl rfl)) pgs_nil))))))
        (pss_one (ps_if (pt_cmpR op_eq (pv 4) pe_str (nomark _)) (pss_one (ps_expr (pe_bm PySem.F.plainAttrs_list PySem.F.slot_list_append PySem.F.type_list_append mt_append (pv 1) (pa_cons (pv 2) pa_nil))))
          (pss_one (ps_if (pt_cmpR op_eq (pv 4) pe_str (nomark _)) (pss_one (ps_expr (pe_bm0 PySem.F.plainAttrs_list PySem.F.slot_list_pop PySem.F.type_list_pop mt_pop (pv 1)))) pss_nil)))))
      (pss_one (ps_ret (pv 1)))), ?_⟩
    have big := big1000
    have big2 : (100000 : Nat) ≤ sizeLine := by rw [sizeLine_eq]; decide
    have hfl : fv.length = ss.length := by have := R.length; simpa using this
    refine ⟨Nat.zero_le _, fun p np => ?_⟩
    have s0 : Same H (upd H p (.lst [])) := Same.new np
    refine ⟨_, rfl, q, rfl, ⟨_, SqL.of (s0 _ _ hq)⟩, for_list (K := K) (a := q) (xs := fv) (fun t σ H2 => ∃ u2 u3 u4 u5 u6, σ = [some (.ref q), some (.ref p), u2, u3, u4, u5, u6] ∧ Same H H2 ∧ H2 p = some (.lst ((leftL (ss.take t)).map V.int)) ∧ (leftL (ss.take t)).length ≤ t)
      ⟨none, none, none, none, none, rfl, s0, by rw [upd_same]; rfl, Nat.le_refl _⟩ (fun t σ H2 _ ⟨_, _, _, _, _, _, s, _⟩ => SqL.of (s _ _ hq)) ?_ ?_⟩
    · rintro t y σ H2 ht ⟨u2, u3, u4, u5, u6, rfl, s2, hp, hl⟩
      have htl : t < ss.length := by have := (List.getElem?_eq_some_iff.mp ht).1; omega
      have ey : y = fv.getD t .non := by rw [List.getD_eq_getElem?_getD, ht]; rfl
      obtain ⟨a, e, haz, ha, _⟩ := rep_stV (reps_st (t := t) R htl)
      have hkt := hok t htl
      rw [ey, e]
      rw [take_snoc htl, leftL_snoc]
      generalize hS : ss.getD t st0 = st at *
      generalize hL : leftL (ss.take t) = l at *
      refine ⟨a, _, rfl, SqT.of (s2 _ _ ha), rfl, _, _, rfl, _, _, rfl, _, _, rfl, _, _, rfl, _, _, rfl, rfl, ?_⟩
      refine ⟨_, rfl, rfl, _, rfl, ?_⟩
      refine ite2 (fun g => ?_) (fun g => ?_)
      · have g' : st.2.2.1 = Str.ofString "open" := by simpa using g
        refine ⟨_, rfl, .inl ⟨rfl, _, SqL.of hp⟩, _, rfl, p, _, _, rfl, rfl, hp, by rw [List.length_map]; omega, ?_⟩
        refine ⟨_, _, _, _, _, rfl, fun b' o e' => by rw [upd_ne (ne_of_none e' np)]; exact s2 b' o e', ?_, ?_⟩
        · rw [upd_same]
          unfold leftStep
          rw [if_pos g', List.map_append]
          rfl
        · unfold leftStep
          rw [if_pos g', List.length_append]
          show _ + 1 ≤ _
          omega
      · have g' : st.2.2.1 ≠ Str.ofString "open" := by simpa using g
        refine ⟨_, rfl, rfl, _, rfl, ?_⟩
        refine ite2 (fun g2 => ?_) (fun g2 => ?_)
        · have g2' : st.2.2.1 = Str.ofString "close" := by simpa using g2
          have hne := hkt g2'
          have hpos : 0 < l.length := List.length_pos_iff.mpr hne
          refine ⟨_, rfl, .inl ⟨rfl, _, SqL.of hp⟩, p, l.map V.int, _, rfl, rfl, hp, get_of (by rw [List.length_map]; omega), ?_⟩
          refine ⟨_, _, _, _, _, rfl, fun b' o e' => by rw [upd_ne (ne_of_none e' np)]; exact s2 b' o e', ?_, ?_⟩
          · rw [upd_same]
            unfold leftStep
            rw [if_neg g', if_pos g2', List.map_dropLast]
          · unfold leftStep
            rw [if_neg g', if_pos g2', List.length_dropLast]
            omega
        · have g2' : st.2.2.1 ≠ Str.ofString "close" := by simpa using g2
          refine ⟨_, _, _, _, _, rfl, s2, ?_, ?_⟩
          · unfold leftStep
            rw [if_neg g', if_neg g2']
            exact hp
          · unfold leftStep
            rw [if_neg g', if_neg g2']
            omega
    · rintro σ H2 ⟨u2, u3, u4, u5, u6, rfl, s2, hp, hl⟩
      have e : ss.take fv.length = ss := by rw [hfl]; exact List.take_length
      rw [e] at hp
      exact ⟨_, rfl, k p H2 s2 np hp⟩
end
end T1
namespace T1
open PySem L2
def spStanding (tb : Addr) : Sp := fun vs H Q _ => ∃ z v b x, vs = [v, .str x] ∧ Bag z H ∧ Rep z H v (bkD b) ∧ BkOk b ∧ x.length ≤ 20000 ∧ LamTb tb H ∧
  ∀ p n H', ButX tb H H' → H p = none → (runF b x n).at_ = x.length → Rep z H' (.ref p) (.tup ((runF b x n).ds.map pdD)) → Bag z H' → LamTb tb H' → Q (.ref p) H'
section
variable {P : Program} {w : World} {K : PySem.W.Frag} {mg : Str → Option Value} {base : Heap}
theorem scStanding : FnScope ["book", "text", "doors"] ["book", "text"] (defScope sStanding) := ⟨rfl, rfl, rfl, by decide +kernel, rfl, by decide +kernel, by decide +kernel⟩
set_option maxHeartbeats 0 in
theorem ok_standing {f tb f1 : Addr} {fd fd1 : FuncData} (F : Fun K "standing" "standing" sStanding f fd) (T : TxtB mg)
    (k1 : PySem.W.keepIn K (.ref f1) = true) (b1 : Binds K fd1 ["book", "text", "doors"] []) (m1 : mg "read_on" = some (.ref f1)) (G1 : FnOk P w K mg base CX0 5 f1 fd1 ["book", "text", "doors"] (spOn tb)) : FnOk P w K mg base CX0 6 f fd ["book", "text"] (spStanding tb) := by
  refine F.ok scStanding (fun vs H Q E h => ?_) (fun cdv A outer s H vs Q E hr h => ?_)
  · obtain ⟨z, v, b, x, rfl, _⟩ := h
    rfl
  · obtain ⟨z, v, b, x, rfl, hB, R0, hok, hx, hT, k⟩ := h
    have nd := scStanding.nd
    refine ⟨_, pss_cons (ps_set (i := 2) nd rfl (Or.inl rfl) (pe_lst pa_nil))
      (pss_cons (ps_expr (pe_call G1 hr rfl m1 k1 b1 .nil pass0 (pa_cons (pv 0) (pa_cons (pv 1) (pa_cons (pv 2) pa_nil)))))
      (pss_one (ps_ret (pe_callTy call_tuple_of (by rfl) T.tuple b_tuple (pa_cons (pv 2) pa_nil))))), ?_⟩
    refine ⟨Nat.zero_le _, fun q nq => ?_⟩
    have s1 := Same.new (o := .lst []) nq
    refine ⟨_, rfl, _, rfl, _, rfl, z, v, b, q, x, rfl, hB.same s1, hB.ne nq, R0.mono s1.x, hok, upd_same, hx, hT.same s1, fun p fv n H2 s2 np hp hat RF D2 hB2 T2 => ?_⟩
    obtain ⟨dv, hq2, RD⟩ := D2
    refine ⟨_, rfl, q, dv, rfl, .inl ⟨SqL.of hq2, fun l nl => ?_⟩⟩
    have s3 := Same.new (o := .tup dv) nl
    have hB3 := hB2.same s3
    refine k l n _ (fun b' o h e => s3 b' o (s2 b' o (ne_of_none e nq) h (s1 b' o e))) ?_ hat (.tup upd_same (hB2.ne nl) (RD.mono s3.x)) hB3 (T2.same s3)
    cases e : H l with
    | none => rfl
    | some o =>
      exfalso
      obtain ⟨ps, ht⟩ := hT.tbl
      by_cases hlt : l = tb
      · obtain ⟨ps2, ht2⟩ := T2.tbl
        rw [hlt, ht2] at nl
        cases nl
      · have := s2 l o (ne_of_none e nq) hlt (s1 l o e)
        rw [this] at nl
        cases nl
end
end T1
namespace T1
open PySem L2
def spUnfin (tb : Addr) : Sp := fun vs H Q _ => ∃ z v b x, vs = [v, .str x] ∧ Bag z H ∧ Rep z H v (bkD b) ∧ BkOk b ∧ x.length ≤ 20000 ∧ LamTb tb H ∧
  ∀ p fv n H', ButX tb H H' → H p = none → H' p = some (.lst fv) → (runF b x n).at_ = x.length → Reps z H' fv (((runF b x n).ds ++ cutL (runF b x n).ss).map ldD) → Bag z H' → LamTb tb H' → Q (.ref p) H'
theorem LamT.free {tb l : Addr} {H H' : Hp} (hT : LamTb tb H') (bx : ButX tb H H') (nl : H' l = none) : H l = none := by
  cases e : H l with
  | none => rfl
  | some o =>
    exfalso
    by_cases hlt : l = tb
    · obtain ⟨ps2, ht2⟩ := hT.tbl
      rw [hlt, ht2] at nl
      cases nl
    · rw [bx l o hlt e] at nl
      cases nl
section
variable {P : Program} {w : World} {K : PySem.W.Frag} {mg : Str → Option Value} {base : Heap}
theorem scUnfin : FnScope ["book", "text", "doors", "told", "ends", "place", "many", "word", "tongue", "depth"] ["book", "text"] (defScope sUnfin) := ⟨rfl, rfl, rfl, by decide +kernel, rfl, by decide +kernel, by decide +kernel⟩
theorem ndPIC : (["place", "inner", "close"] : List Str).Nodup := by decide +kernel
set_option maxHeartbeats 0 in
theorem ok_unfin {f tb f1 f2 : Addr} {fd fd1 fd2 : FuncData} (F : Fun K "unfinished" "unfinished" sUnfin f fd) (hzip : mg "zip" = none)
    (k1 : PySem.W.keepIn K (.ref f1) = true) (b1 : Binds K fd1 ["book", "text", "doors"] []) (m1 : mg "read_on" = some (.ref f1)) (G1 : FnOk P w K mg base CX0 5 f1 fd1 ["book", "text", "doors"] (spOn tb))
    (k2 : PySem.W.keepIn K (.ref f2) = true) (b2 : Binds K fd2 ["told"] []) (m2 : mg "places_left_open" = some (.ref f2)) (G2 : FnOk P w K mg base CX0 1 f2 fd2 ["told"] spLeft) : FnOk P w K mg base CX0 6 f fd ["book", "text"] (spUnfin tb) := by
  refine F.ok scUnfin (fun vs H Q E h => ?_) (fun cdv A outer s H vs Q E hr h => ?_)
  · obtain ⟨z, v, b, x, rfl, _⟩ := h
    rfl
  · obtain ⟨z, v, b, x, rfl, hB, R0, hok, hx, hT, k⟩ := h
    have nd := scUnfin.nd
    have hr1 : Room 1 _ := hr.mono (by decide)
    obtain ⟨hb1, hb6, htok, _⟩ := id hok
    refine ⟨_, pss_cons (ps_set (i := 2) nd rfl (Or.inl rfl) (pe_lst pa_nil))
      (pss_cons (ps_set (i := 3) nd rfl (Or.inl rfl) (pe_call G1 hr rfl m1 k1 b1 .nil pass0 (pa_cons (pv 0) (pa_cons (pv 1) (pa_cons (pv 2) pa_nil)))))
      (pss_cons (ps_setcomp1 (N' := ["place", "inner", "close"]) (js := [none, none, none]) (i := 4) rfl rfl nd rfl (Or.inl rfl) (blk_of (defScope sUnfin) (by decide +kernel)) trivial
        (pi_zip rfl hzip (pa_cons (pe_call G2 hr1 rfl m2 k2 b2 .nil pass0 (pa_cons (pv 3) pa_nil)) (pa_cons (pv 2) pa_nil)))
        (fun cl s H fp => pg_tupB 2 rfl (pgs_cons (pg_name (i := 0) ndPIC rfl (Or.inl rfl) (Or.inr rfl)) (pgs_cons (pg_tupB 2 rfl (pgs_cons (pg_name (i := 1) ndPIC rfl (Or.inl rfl) (Or.inr rfl)) (pgs_cons (pg_name (i := 2) ndPIC rfl (Or.inl rfl) (Or.inr rfl)) pgs_nil))) pgs_nil)))
        (fun cl s H fp => pts_nil) (fun cl s H fp => pe_tup (pa_cons (pv 0) (pa_cons (pv 1) (pa_cons (pv 2) pa_nil)))))
      (pss_cons (ps_if (PW.pt (pw_and (pt_truth (pv 3) (fun _ => rfl)) (pw_and1 (pt_cmpR op_eq (pe_ix ix_tup (pe_ix ix_list (pv 3) (pe_un un_neg pe_int) (fun _ _ => rfl)) pe_int (fun _ _ => rfl)) pe_str (nomark _)))))
        (pss_cons (ps_asg (pe_ix ix_list (pv 3) (pe_un un_neg pe_int) (fun _ _ => rfl)) (pg_tup rfl (pgs_cons (pg_name (i := 5) nd rfl (Or.inl rfl)) (pgs_cons (pg_name (i := 6) nd rfl (Or.inl rfl)) (pgs_cons (pg_name (i := 7) nd rfl (Or.inl rfl)) (pgs_cons (pg_name (i := 8) nd rfl (Or.inl rfl)) (pgs_cons (pg_name (i := 9) nd rfl (Or.inl rfl)) pgs_nil)))))))
        (pss_one (ps_expr (pe_bm PySem.F.plainAttrs_list PySem.F.slot_list_append PySem.F.type_list_append mt_append (pv 4) (pa_cons (pe_tup (pa_cons (pv 5) (pa_cons (pv 8) (pa_cons pe_str pa_nil)))) pa_nil))))) pss_nil)
      (pss_one (ps_ret (pv 4)))))), ?_⟩
    have big := big1000
    have big2 : (100000 : Nat) ≤ sizeLine := by rw [sizeLine_eq]; decide
    refine ⟨Nat.zero_le _, fun q nq => ?_⟩
    have s1 := Same.new (o := .lst []) nq
    refine ⟨_, rfl, _, rfl, _, rfl, z, v, b, q, x, rfl, hB.same s1, hB.ne nq, R0.mono s1.x, hok, upd_same, hx, hT.same s1, fun p fv n H2 s2 np hp hat RF D2 hB2 T2 => ?_⟩
    have bx2 : ButX tb H H2 := fun b' o h e => s2 b' o (ne_of_none e nq) h (s1 b' o e)
    obtain ⟨dv, hq2, RD⟩ := D2
    obtain ⟨hleft, hlok⟩ := run_left b x n
    have rok := run_ok (x := x) htok hb1 n
    have rsl := rok.sl
    have rdl := rok.dl
    rw [hat] at rsl rdl
    generalize hSS : (runF b x n).ss = ss at *
    generalize hDS : (runF b x n).ds = ds at *
    have hfl : fv.length = ss.length := by have := RF.length; simpa using this
    have hdl : dv.length = ds.length := by have := RD.length; simpa using this
    refine ⟨_, rfl, z, p, fv, ss, rfl, hp, RF, hlok, by omega, fun pl H3 s3 npl hpl => ?_⟩
    rw [hleft] at hpl
    have hq3 := s3 _ _ hq2
    have hplq : pl ≠ q := (ne_of_none hq2 npl).symm
    refine ⟨_, rfl, pl, q, rfl, ⟨_, SqL.of hpl⟩, ⟨_, SqL.of hq3⟩, fun pC npC => ?_⟩
    have s4 := Same.new (o := .lst []) npC
    have hB3 := hB2.same s3
    have hCz : pC ≠ z := hB3.ne npC
    have hqC : q ≠ pC := ne_of_none hq3 npC
    have hplC : pl ≠ pC := ne_of_none hpl npC
    refine loop_zip (K := K) (a := pl) (b := q) (xs := (ds.map (·.1)).map V.int) (ys := dv) (fun t σ H5 => (∃ u0 u1 u2, σ = [u0, u1, u2]) ∧ SameX pC H3 H5 ∧ ∃ ev, H5 pC = some (.lst ev) ∧ Reps z H5 ev ((ds.take t).map ldD)) ⟨⟨none, none, none, rfl⟩, s4.x, [], upd_same, .nil⟩ (by simp [hdl]) (fun t σ H5 hw => ⟨SqL.of (hw.2.1 _ _ hplC hpl), SqL.of (hw.2.1 _ _ hqC hq3)⟩) ?_ ?_
    · rintro σ H5 ⟨_, s5, ev, hC5, RE⟩
      have e : ds.take ((ds.map (·.1)).map V.int).length = ds := by rw [List.length_map, List.length_map]; exact List.take_length
      rw [e] at RE
      have S5 : Same H3 H5 := fun b' o e => s5 b' o (ne_of_none e npC) e
      have hp5 := S5 _ _ (s3 _ _ hp)
      have RF5 := (RF.mono s3.x (z := z)).mono S5.x (z := z)
      have hB5 := hB3.same S5
      have bx5 : ButX tb H H5 := fun b' o h e => S5 b' o (s3 b' o (bx2 b' o h e))
      have T5 := (T2.same s3).same S5
      have nC : H pC = none := LamT.free (T2.same s3) (fun b' o h e => s3 b' o (bx2 b' o h e)) npC
      have hel : ev.length = ds.length := by have := RE.length; simpa using this
      have fin : ∀ (H6 : Hp) (ev6 : List V) (es : List LDr), ButX tb H H6 → H6 pC = some (.lst ev6) → Reps z H6 ev6 ((ds ++ es).map ldD) → es = cutL ss → Bag z H6 → LamTb tb H6 → Q (.ref pC) H6 := fun H6 ev6 es g1 g2 g3 g4 g5 g6 => k pC ev6 n H6 g1 nC g2 hat (by rw [hDS, hSS, ← g4]; exact g3) g5 g6
      refine ⟨_, rfl, _, .inl ⟨fv, SqL.of hp5, rfl⟩, ?_⟩
      cases hss : ss.length with
      | zero =>
        have h0 : ss = [] := List.eq_nil_of_length_eq_zero hss
        have hf0 : fv = [] := List.eq_nil_of_length_eq_zero (by omega)
        subst h0
        subst hf0
        refine iteF ?_
        refine iteF ?_
        refine ⟨_, rfl, fin H5 ev [] bx5 hC5 (by rw [List.append_nil]; exact RE) ?_ hB5 T5⟩
        unfold cutL
        rw [if_neg (by simp)]
      | succ m =>
        have hfl2 : fv.length = m + 1 := by omega
        obtain ⟨a, ea, haz, ha, hwl⟩ := rep_stV (reps_st (t := m) RF5 (by omega))
        have hat1 : atI fv (-1) = some (.ref a) := by
          have e1 : ixN fv.length (-1) = some (fv.length - 1) := by
            unfold ixN
            rw [if_neg (by decide), if_pos (by omega)]
            congr 1
            omega
          unfold atI
          rw [e1]
          show fv[fv.length - 1]? = _
          have e2 : fv.length - 1 = m := by omega
          rw [e2, ← ea, List.getD_eq_getElem?_getD]
          have : m < fv.length := by omega
          rw [List.getElem?_eq_getElem this]
          rfl
        have hlast : ss.getD (ss.length - 1) st0 = ss.getD m st0 := by rw [hss]; rfl
        have hne : ss ≠ [] := fun q => by rw [q] at hss; cases hss
        refine ite2 (fun _ => ?_) (fun g0 => ?_)
        case' refine_2 =>
          exfalso
          cases fv with
          | nil => simp at hfl2
          | cons _ _ => simp at g0
        refine ⟨_, rfl, 1, rfl, p, fv, -1, _, rfl, rfl, SqL.of hp5, hat1, a, _, 2, _, rfl, rfl, SqT.of ha, atI_nat (j := 2) rfl, rfl, _, rfl, ?_⟩
        generalize hST : ss.getD m st0 = st at *
        refine ite2 (fun g => ?_) (fun g => ?_)
        · have g' : st.2.2.1 = Str.ofString "cut" := by simpa using g
          refine ⟨_, rfl, 1, rfl, p, fv, -1, _, rfl, rfl, SqL.of hp5, hat1, a, _, rfl, SqT.of ha, rfl, _, _, rfl, _, _, rfl, _, _, rfl, _, _, rfl, _, _, rfl, rfl, ?_⟩
          refine ⟨_, rfl, .inl ⟨rfl, _, SqL.of hC5⟩, _, rfl, _, rfl, by show (3 : Nat) ≤ _; omega, fun pt npt => ?_⟩
          have s6 := Same.new (o := .tup [.int st.1, .int st.2.2.2.1, .str (Str.ofString "")]) npt
          have hC6 := s6 _ _ hC5
          refine ⟨pC, ev, _, rfl, rfl, hC6, by omega, ?_⟩
          have hptz : pt ≠ z := hB5.ne npt
          have rnew : Rep z (upd H5 pt (.tup [.int st.1, .int st.2.2.2.1, .str (Str.ofString "")])) (.ref pt) (ldD (st.1, st.2.2.2.1, Str.ofString "")) := .tup upd_same hptz (.cons (.int _) (.cons (.int _) (.cons (.str _ (by decide +kernel)) .nil)))
          refine ⟨_, rfl, fin _ (ev ++ [.ref pt]) [(st.1, st.2.2.2.1, Str.ofString "")] ?_ upd_same ?_ ?_ ?_ ?_⟩
          · exact fun b' o h e => by rw [upd_ne (ne_of_none e nC)]; exact s6 b' o (bx5 b' o h e)
          · rw [List.map_append]
            exact Reps.updL hC6 ((RE.mono s6.x).append (.cons rnew .nil)) ((noL_lds _).append (noL_lds [_]))
          · unfold cutL
            rw [hlast, if_pos ⟨hne, g'⟩]
          · obtain ⟨c1, c2, ez⟩ := hB5.same s6
            exact ⟨c1, c2, by rw [upd_ne hCz.symm]; exact ez⟩
          · exact (T5.same s6).sameX hC6 SameX.refl.upd
        · have g' : st.2.2.1 ≠ Str.ofString "cut" := by simpa using g
          refine ⟨_, rfl, fin H5 ev [] bx5 hC5 (by rw [List.append_nil]; exact RE) ?_ hB5 T5⟩
          unfold cutL
          rw [hlast, if_neg (fun q => g' q.2)]
    · rintro t σ H5 pp x1 y1 ⟨⟨u0, u1, u2, rfl⟩, s5, ev, hC5, RE⟩ hx1 hy1 npp
      have htl : t < ds.length := by have := (List.getElem?_eq_some_iff.mp hy1).1; omega
      have ex1 : x1 = .int (ds.getD t ld0).1 := by
        rw [List.getElem?_map, List.getElem?_map, List.getElem?_eq_getElem htl] at hx1
        rw [List.getD_eq_getElem?_getD, List.getElem?_eq_getElem htl]
        exact (Option.some.inj hx1).symm
      have ey1 : y1 = dv.getD t .non := by rw [List.getD_eq_getElem?_getD, hy1]; rfl
      have S5 : Same H3 H5 := fun b' o e => s5 b' o (ne_of_none e npC) e
      have RD5 : Rep z H5 (dv.getD t .non) (pdD (ds.getD t ld0)) := by
        have := ((RD.mono s3.x (z := z)).mono S5.x (z := z)).get (i := t) (by simp; omega)
        simpa [htl] using this
      obtain ⟨a, ea, haz, ha⟩ := rep_pd RD5
      have s6 := Same.new (o := .tup [x1, y1]) npp
      rw [ex1, ey1, ea] at s6 ⊢
      refine ⟨pp, _, rfl, SqT.of upd_same, rfl, _, _, rfl, _, _, rfl, ⟨a, _, rfl, SqT.of (s6 _ _ ha), rfl, _, _, rfl, _, _, rfl, rfl, ?_⟩⟩
      refine ⟨rfl, ?_⟩
      dsimp only [tYes]
      rw [if_pos rfl]
      refine ⟨_, rfl, _, rfl, _, rfl, by show (3 : Nat) ≤ _; omega, fun pn npn => ?_⟩
      have s7 := Same.new (o := .tup [.int (ds.getD t ld0).1, .int (ds.getD t ld0).2.1, .str (ds.getD t ld0).2.2]) npn
      have hC7 := s7 _ _ (s6 _ _ hC5)
      have hel : ev.length ≤ ds.length := by
        have := RE.length
        rw [List.length_map, List.length_take] at this
        omega
      have hpnz : pn ≠ z := (((hB3.same S5)).same s6).ne npn
      have hsl : (ds.getD t ld0).2.2.length ≤ 1000 := by
        have RD6 := RD5
        rw [ea] at RD6
        cases RD6 with
        | tup h hz r =>
          cases r with
          | cons _ r =>
            cases r with
            | cons r2 _ =>
              cases r2 with
              | str _ h3 => exact h3
      refine ⟨ev, hC7, by omega, ⟨_, _, _, rfl⟩, ((s5.trans s6.x).trans s7.x).upd, ev ++ [.ref pn], upd_same, ?_⟩
      have rnew : Rep z (upd (upd H5 pp (.tup [.int (ds.getD t ld0).1, .ref a])) pn (.tup [.int (ds.getD t ld0).1, .int (ds.getD t ld0).2.1, .str (ds.getD t ld0).2.2])) (.ref pn) (ldD (ds.getD t ld0)) := .tup upd_same hpnz (.cons (.int _) (.cons (.int _) (.cons (.str _ hsl) .nil)))
      have e : ds.take (t + 1) = ds.take t ++ [ds.getD t ld0] := by
        rw [List.take_succ, List.getD_eq_getElem?_getD, List.getElem?_eq_getElem htl]
        rfl
      rw [e, List.map_append]
      exact Reps.updL hC7 (((RE.mono s6.x).mono s7.x).append (.cons rnew .nil)) ((noL_lds _).append (noL_lds [_]))
end
end T1
namespace T1
open PySem L2
def byLen (a c : Str) : Bool := decide (c.length ≤ a.length)
def canon (l : List Str) : List Str := l.mergeSort byLen
theorem canon_perm (l : List Str) : (canon l).Perm l := List.mergeSort_perm l byLen
theorem canon_pw (l : List Str) : (canon l).Pairwise (fun a c => c.length ≤ a.length) := by
  have := List.pairwise_mergeSort (le := byLen) (fun a b c h1 h2 => by unfold byLen at *; simp at *; omega) (fun a b => by unfold byLen; simp; omega) l
  exact this.imp fun h => of_decide_eq_true h
theorem sort_unique : ∀ {l1 l2 : List Str}, l1.Perm l2 → l1.Pairwise (fun a c => c.length ≤ a.length) → l2.Pairwise (fun a c => c.length ≤ a.length) → (∀ a ∈ l1, ∀ c ∈ l1, a.length = c.length → a = c) → l1 = l2
  | [], l2, hp, _, _, _ => (List.Perm.nil_eq hp)
  | a :: r, [], hp, _, _, _ => absurd hp.length_eq (by simp)
  | a :: r, c :: r2, hp, h1, h2, hu => by
    have hc : c ∈ a :: r := hp.mem_iff.mpr List.mem_cons_self
    have ha : a ∈ c :: r2 := hp.mem_iff.mp List.mem_cons_self
    have l1 : c.length ≤ a.length := by
      rcases List.mem_cons.mp hc with e | h
      · rw [e]; exact Nat.le_refl _
      · exact (List.pairwise_cons.mp h1).1 c h
    have l2 : a.length ≤ c.length := by
      rcases List.mem_cons.mp ha with e | h
      · rw [e]; exact Nat.le_refl _
      · exact (List.pairwise_cons.mp h2).1 a h
    have e : a = c := hu a List.mem_cons_self c hc (by omega)
    subst e
    rw [sort_unique (List.Perm.cons_inv hp) (List.pairwise_cons.mp h1).2 (List.pairwise_cons.mp h2).2 (fun x hx y hy => hu x (List.mem_cons_of_mem _ hx) y (List.mem_cons_of_mem _ hy))]
theorem canon_eq {b : Bk} {ds : List LDr} {x : Str} {i : Nat} {ys : List Str} (hp : ys.Perm (fitL b ds x i)) (hw : ys.Pairwise (fun a c => c.length ≤ a.length)) : ys = canon (fitL b ds x i) := by
  refine sort_unique (hp.trans (canon_perm _).symm) hw (canon_pw _) fun a ha c hc e => ?_
  have h1 := (List.mem_filter.mp (hp.mem_iff.mp ha)).2
  have h2 := (List.mem_filter.mp (hp.mem_iff.mp hc)).2
  exact fit_eq h1 h2 e
theorem fits_perm {b : Bk} {ds : List LDr} {x : Str} {i : Nat} (hi : i ≤ x.length) : ((fitsP b ds x i).map (·.1)).Perm (fitL b ds x i) := by
  have e1 : (fitsP b ds x i).map (·.1) = ((possL b ds).map (·.1)).filter (fitAt x i) := by
    unfold fitsP
    rw [List.filter_map]
    congr 1
    refine List.filter_congr fun m _ => ?_
    exact stAt_fit hi
  rw [e1]
  unfold fitL
  refine List.Perm.filter _ ?_
  unfold possL someL opensOf
  rw [List.map_append, List.map_map, List.map_map]
  exact List.perm_append_comm
def fkL (b : Bk) (x : Str) : Nat → List (Nat × List Str)
  | 0 => []
  | n + 1 => fkL b x n ++ (if (runF b x n).at_ < x.length ∧ 1 < (fitL b (runF b x n).ds x (runF b x n).at_).length then [((runF b x n).at_, canon (fitL b (runF b x n).ds x (runF b x n).at_))] else [])
def fkD (f : Nat × List Str) : D := .tup [.int f.1, .tup (f.2.map D.str)]
theorem fk_stay {b : Bk} {x : Str} {n : Nat} (h : (runF b x n).at_ = x.length) : ∀ k, fkL b x (n + k) = fkL b x n ∧ runF b x (n + k) = runF b x n
  | 0 => ⟨rfl, rfl⟩
  | k + 1 => by
    obtain ⟨ih, ih2⟩ := fk_stay h k
    refine ⟨?_, ?_⟩
    · show fkL b x (n + k) ++ (if (runF b x (n + k)).at_ < x.length ∧ 1 < (fitL b (runF b x (n + k)).ds x (runF b x (n + k)).at_).length then [((runF b x (n + k)).at_, canon (fitL b (runF b x (n + k)).ds x (runF b x (n + k)).at_))] else []) = _
      rw [ih, ih2, if_neg (fun q => by have := q.1; omega), List.append_nil]
    · show runStep b x (runF b x (n + k)) = _
      rw [ih2]
      unfold runStep
      rw [if_neg (by omega)]
theorem fk_eq {b : Bk} {x : Str} {n m : Nat} (h : (runF b x n).at_ = x.length) (h' : (runF b x m).at_ = x.length) : fkL b x n = fkL b x m := by
  have a := (fk_stay h m).1
  have c := (fk_stay h' n).1
  rw [← a, ← c, Nat.add_comm]
theorem fk_len (b : Bk) (x : Str) (htok : ∀ t ∈ b, TgOk b.length t) (hb1 : 1 ≤ b.length) : ∀ n, (fkL b x n).length ≤ (runF b x n).at_
  | 0 => Nat.zero_le _
  | n + 1 => by
    have ih := fk_len b x htok hb1 n
    by_cases hlt : (runF b x n).at_ < x.length
    · have rok := run_ok (x := x) htok hb1 n
      obtain ⟨p1, p2, _⟩ := stepL_props (x := x) htok rok.bk hb1 hlt
      rw [run_at hlt]
      show (fkL b x n ++ _).length ≤ (runF b x n).at_ + _
      rw [List.length_append]
      split
      · show _ + 1 ≤ _
        omega
      · show _ + 0 ≤ _
        omega
    · have e : runF b x (n + 1) = runF b x n := by
        show runStep b x (runF b x n) = _
        unfold runStep
        rw [if_neg hlt]
      rw [e]
      show (fkL b x n ++ _).length ≤ _
      rw [if_neg (fun q => hlt q.1), List.append_nil]
      exact ih
theorem noL_fk (f : Nat × List Str) : NoL (fkD f) := by
  have : ∀ l : List Str, NoLs (l.map D.str) := fun l => by
    induction l with
    | nil => exact .nil
    | cons a r ih => exact .cons (.str _) ih
  exact .tup (.cons (.int _) (.cons (.tup (this _)) .nil))
theorem noL_fks : ∀ fs : List (Nat × List Str), NoLs (fs.map fkD)
  | [] => .nil
  | f :: r => .cons (noL_fk f) (noL_fks r)
theorem dep_strs (k : Nat) : ∀ l : List Str, Deps k (l.map D.str)
  | [] => .nil _
  | a :: r => .cons (.str _ _) (dep_strs k r)
theorem dep_fks (k : Nat) : ∀ fs : List (Nat × List Str), Deps (k + 2) (fs.map fkD)
  | [] => .nil _
  | f :: r => .cons (.tup (.cons (.int _ _) (.cons (.tup (dep_strs _ _)) (.nil _)))) (dep_fks k r)
theorem reps_strs {z : Addr} {H : Hp} : ∀ {l : List Str}, (∀ m ∈ l, m.length ≤ 1000) → Reps z H (l.map V.str) (l.map D.str)
  | [], _ => .nil
  | a :: r, h => .cons (.str _ (h a List.mem_cons_self)) (reps_strs fun m hm => h m (List.mem_cons_of_mem _ hm))
end T1
namespace T1
open PySem L2
def spForks (tb : Addr) : Sp := fun vs H Q _ => ∃ z v b x, vs = [v, .str x] ∧ Bag z H ∧ Rep z H v (bkD b) ∧ BkOk b ∧ x.length ≤ 20000 ∧ LamTb tb H ∧
  ∀ p fv n H', ButX tb H H' → H p = none → H' p = some (.lst fv) → (runF b x n).at_ = x.length → Reps z H' fv ((fkL b x n).map fkD) → Bag z H' → LamTb tb H' → Q (.ref p) H'
theorem range_mksJ (ms : List Mk) : (List.range ms.length).map (fun j => V.str (ms.getD j mk0).1) = (ms.map (·.1)).map V.str := by
  refine List.ext_getElem (by simp) fun i h1 h2 => ?_
  have h3 : i < ms.length := by simpa using h2
  simp [h3]
section
variable {P : Program} {w : World} {K : PySem.W.Frag} {mg : Str → Option Value} {base : Heap}
theorem scForks : FnScope ["book", "text", "found", "doors", "place", "marks"] ["book", "text"] (defScope sForks) := ⟨rfl, rfl, rfl, by decide +kernel, rfl, by decide +kernel, by decide +kernel⟩
theorem ndMDJ : (["mark", "door"] : List Str).Nodup := by decide +kernel
set_option maxHeartbeats 0 in
theorem ok_forks {f tb f1 f2 : Addr} {fd fd1 fd2 : FuncData} (F : Fun K "forks" "forks" sForks f fd) (T : TxtB mg)
    (k1 : PySem.W.keepIn K (.ref f1) = true) (b1 : Binds K fd1 ["book", "text", "place", "doors"] []) (m1 : mg "fitting_marks" = some (.ref f1)) (G1 : FnOk P w K mg base CX0 3 f1 fd1 ["book", "text", "place", "doors"] spFitP)
    (k2 : PySem.W.keepIn K (.ref f2) = true) (b2 : Binds K fd2 ["book", "text", "place", "doors"] []) (m2 : mg "read_step" = some (.ref f2)) (G2 : FnOk P w K mg base CX0 4 f2 fd2 ["book", "text", "place", "doors"] (spStepP tb)) : FnOk P w K mg base CX0 5 f fd ["book", "text"] (spForks tb) := by
  refine F.ok scForks (fun vs H Q E h => ?_) (fun cdv A outer s H vs Q E hr h => ?_)
  · obtain ⟨z, v, b, x, rfl, _⟩ := h
    rfl
  · obtain ⟨z, v, b, x, rfl, hB, R0, hok, hx, hT, k⟩ := h
    have nd := scForks.nd
    have hr3 : Room 3 _ := hr.mono (by decide)
    obtain ⟨hb1, hb6, htok, _⟩ := id hok
    refine ⟨_, pss_cons (ps_set (i := 2) nd rfl (Or.inl rfl) (pe_lst pa_nil))
      (pss_cons (ps_set (i := 3) nd rfl (Or.inl rfl) (pe_lst pa_nil))
      (pss_cons (ps_set (i := 4) nd rfl (Or.inl rfl) pe_int)
      (pss_cons (ps_while PassesOwn.never (pt_cmpR op_lt (pv 4) (pe_callB call_len_str (by rfl) T.len b_len (pa_cons (pv 1) pa_nil)) (nomark _))
        (pss_cons (ps_setcomp1 (N' := ["mark", "door"]) (js := [none, none]) (i := 5) rfl rfl nd rfl (Or.inl rfl) (blk_of (defScope sForks) (by decide +kernel)) trivial
          (pi_list (pe_call G1 hr3 rfl m1 k1 b1 .nil pass0 (pa_cons (pv 0) (pa_cons (pv 1) (pa_cons (pv 4) (pa_cons (pv 3) pa_nil))))))
          (fun cl s H fp => pg_tupB 2 rfl (pgs_cons (pg_name (i := 0) ndMDJ rfl (Or.inl rfl) (Or.inr rfl)) (pgs_cons (pg_name (i := 1) ndMDJ rfl (Or.inl rfl) (Or.inr rfl)) pgs_nil))) (fun cl s H fp => pts_nil) (fun cl s H fp => pv 0))
        (pss_cons (ps_if (pt_cmpR op_gt (pe_callB call_len_seq (by rfl) T.len b_len (pa_cons (pv 5) pa_nil)) pe_int (nomark _))
          (pss_one (ps_expr (pe_bm PySem.F.plainAttrs_list PySem.F.slot_list_append PySem.F.type_list_append mt_append (pv 2) (pa_cons (pe_tup (pa_cons (pv 4) (pa_cons (pe_callTy call_tuple_of (by rfl) T.tuple b_tuple (pa_cons (pe_sorted_lenR T.sorted T.len (pv 5)) pa_nil)) pa_nil))) pa_nil)))) pss_nil)
        (pss_one (ps_aug (i := 4) nd rfl (Or.inl rfl) (pe_ix ix_tup (pe_call G2 hr rfl m2 k2 b2 .nil pass0 (pa_cons (pv 0) (pa_cons (pv 1) (pa_cons (pv 4) (pa_cons (pv 3) pa_nil))))) pe_int (fun _ _ => rfl)) ip_add)))))
      (pss_one (ps_ret (pv 2)))))), ?_⟩
    have big := big1000
    have big2 : (100000 : Nat) ≤ sizeLine := by rw [sizeLine_eq]; decide
    refine ⟨Nat.zero_le _, fun pf npf => ⟨Nat.zero_le _, fun q nq => ?_⟩⟩
    have s1 := Same.new (o := .lst []) npf
    have s2 := Same.new (o := .lst []) nq
    have s12 := s1.trans s2
    have hpf1 : upd H pf (.lst []) pf = some (.lst []) := upd_same
    have hpfz : pf ≠ z := hB.ne npf
    have hqz : q ≠ z := (hB.same s1).ne nq
    have hqf : q ≠ pf := (ne_of_none hpf1 nq).symm
    have nq0 : H q = none := s1.free nq
    refine while_by (fun σ H3 => ∃ n u, σ = [some v, some (.str x), some (.ref pf), some (.ref q), some (.int (runF b x n).at_), u] ∧ ButX tb H H3 ∧ Bag z H3 ∧ Rep z H3 v (bkD b) ∧ PDs z H3 q (runF b x n).ds ∧ LamTb tb H3 ∧ ∃ fv, H3 pf = some (.lst fv) ∧ Reps z H3 fv ((fkL b x n).map fkD))
      (fun σ H3 => match σ[4]? with | some (some (V.int i)) => x.length - i.toNat | _ => 0) ⟨0, none, rfl, fun b' o _ e => s12 b' o e, hB.same s12, R0.mono s12.x, ⟨[], upd_same, .nil⟩, hT.same s12, [], s2 _ _ hpf1, .nil⟩ ?_ ?_
    · rintro σ H3 ⟨n, u, rfl, s3, hB3, R3, D3, T3, fv, hf3, RF⟩
      have rok := run_ok (x := x) htok hb1 n
      have hle := rok.le
      refine ⟨_, rfl, _, rfl, x, rfl, by omega, _, _, rfl, rfl, _, rfl, ?_⟩
      refine ite2 (fun hlt => ?_) (fun hlt => ?_)
      · have hlt : (runF b x n).at_ < x.length := by have := of_decide_eq_true hlt; omega
        have hdl := rok.dl
        have hsl := rok.sl
        have hld := rok.bk.ok htok
        have hfkl := fk_len b x htok hb1 n
        have hfl : fv.length = (fkL b x n).length := by have := RF.length; simpa using this
        refine ⟨_, rfl, _, rfl, _, rfl, _, rfl, z, v, b, q, (runF b x n).ds, x, (runF b x n).at_, rfl, hB3, R3, hok, D3, hld, fun pw ws H4 s4 npw hpw RW => ?_⟩
        have hwl : ws.length = (fitsP b (runF b x n).ds x (runF b x n).at_).length := by have := RW.length; simpa using this
        have hperm := fits_perm (b := b) (ds := (runF b x n).ds) (x := x) (i := (runF b x n).at_) (by omega)
        have hsm : ∀ m ∈ (fitsP b (runF b x n).ds x (runF b x n).at_).map (·.1), Sm m := fun m hm => fitL_sm (x := x) (i := (runF b x n).at_) htok hld m (List.mem_filter.mp (hperm.mem_iff.mp hm)).1
        have hfew : (fitsP b (runF b x n).ds x (runF b x n).at_).length < 64 := by
          obtain ⟨tN, htN, htl⟩ := tongue_nat hld hb1
          have htoN : (tongueL (runF b x n).ds).toNat = tN := by rw [htN]; rfl
          have few := (htok _ (getD_mem tg0 htl)).2.1
          unfold fitsP
          refine Nat.lt_of_le_of_lt (List.length_filter_le _ _) ?_
          unfold possL lastL
          rw [htoN, List.length_append, List.length_map, List.length_map, List.length_drop]
          omega
        refine ⟨pw, rfl, ⟨_, SqL.of hpw⟩, fun pC npC => ?_⟩
        have hpwC : pw ≠ pC := ne_of_none hpw npC
        refine loop_new (fun j => some (V.str ((fitsP b (runF b x n).ds x (runF b x n).at_).getD j mk0).1)) (fun σ => ∃ u1 u2, σ = [u1, u2]) ⟨none, none, rfl⟩ npC (by omega) (itok_lst (xs := ws) (by rw [upd_ne hpwC]; exact hpw) hpwC) (fun j σ H5 C hj ⟨w1, w2, hw⟩ s5 hC => ?_) (fun σ H5 s5 hC5 => ?_)
        · subst hw
          obtain ⟨a, u2, e, haz, ha, hl, Ru⟩ := rep_mk ((reps_mk (ms := fitsP b (runF b x n).ds x (runF b x n).at_) (i := j) RW (by omega)).mono s5.x)
          rw [e]
          refine ⟨a, _, rfl, SqT.of ha, rfl, _, _, rfl, _, _, rfl, rfl, ?_⟩
          dsimp only [tYes]
          rw [if_pos rfl]
          exact ⟨_, rfl, hC _ _ ⟨_, _, rfl⟩ (Same.refl _)⟩
        · rw [flatN_map, hwl, range_mksJ] at hC5
          have S5 := s4.trans s5
          have hf5 := S5 _ _ hf3
          have RF5 := RF.mono S5.x (z := z)
          have hB5 := hB3.same S5
          have R5 := R3.mono S5.x (z := z)
          have D5 := D3.same S5
          have T5 := T3.same S5
          have nC0 : H pC = none := by
            cases e : H pC with
            | none => rfl
            | some o =>
              exfalso
              by_cases hlt : pC = tb
              · obtain ⟨ps2, ht2⟩ := (T3.same s4).tbl
                rw [hlt, ht2] at npC
                cases npC
              · rw [s4 _ _ (s3 pC o hlt e)] at npC
                cases npC
          have bx5 : ButX tb H H5 := fun b' o h e => S5 b' o (s3 b' o h e)
          refine ⟨_, rfl, pC, _, rfl, .inl (SqL.of hC5), _, _, rfl, rfl, _, rfl, ?_⟩
          have hml : ((fitsP b (runF b x n).ds x (runF b x n).at_).map (·.1)).map V.str = (((fitsP b (runF b x n).ds x (runF b x n).at_).map (·.1)).map V.str) := rfl
          have hlen : (((fitsP b (runF b x n).ds x (runF b x n).at_).map (·.1)).map V.str).length = (fitL b (runF b x n).ds x (runF b x n).at_).length := by
            rw [List.length_map]
            exact hperm.length_eq
          rw [hlen]
          have hpf0 : ∀ {b' : Addr} {o : HO}, H b' = some o → b' ≠ pf := fun e => ne_of_none e npf
          refine ite2 (fun g => ?_) (fun g => ?_)
          case' refine_2 =>
            have g' : ¬ 1 < (fitL b (runF b x n).ds x (runF b x n).at_).length := by
              intro q
              apply g
              simp
              omega
            have efk : fkL b x (n + 1) = fkL b x n := by
              show fkL b x n ++ _ = _
              rw [if_neg (fun q => g' q.2), List.append_nil]
            obtain ⟨H6, e6, sx6, fv6, hf6, RF6⟩ : ∃ H6, H5 = H6 ∧ SameX pf H5 H6 ∧ ∃ fv6, H6 pf = some (.lst fv6) ∧ Reps z H6 fv6 ((fkL b x (n + 1)).map fkD) := ⟨H5, rfl, SameX.refl, fv, hf5, by rw [efk]; exact RF5⟩
            rw [e6]
          case' refine_1 =>
            have g' : 1 < (fitL b (runF b x n).ds x (runF b x n).at_).length := by
              have := of_decide_eq_true g
              omega
            refine ⟨_, rfl, .inl ⟨rfl, _, SqL.of hf5⟩, _, rfl, _, rfl, pC, _, rfl, SqL.of hC5, by rw [List.length_map]; omega, fun y hy => by have := (hsm y hy).2; omega, fun pS ys npS permS pwS => ?_⟩
            have t1 := Same.new (o := .lst (ys.map V.str)) npS
            have eys : ys = canon (fitL b (runF b x n).ds x (runF b x n).at_) := canon_eq (permS.trans hperm) (pwS.imp fun h => by simpa using h)
            have efk : fkL b x (n + 1) = fkL b x n ++ [((runF b x n).at_, ys)] := by
              show fkL b x n ++ _ = _
              rw [if_pos ⟨hlt, g'⟩, eys]
            refine ⟨pS, _, rfl, .inl ⟨SqL.of upd_same, fun l nl => ⟨by show (2 : Nat) ≤ _; omega, fun pt npt => ?_⟩⟩⟩
            have t2 := Same.new (o := .tup (ys.map V.str)) nl
            have t3 := Same.new (o := .tup [.int (runF b x n).at_, .ref l]) npt
            have T123 := (t1.trans t2).trans t3
            have hft := T123 _ _ hf5
            refine ⟨pf, fv, _, rfl, rfl, hft, by omega, ?_⟩
            have hlz : l ≠ z := (hB5.same t1).ne nl
            have hptz : pt ≠ z := ((hB5.same t1).same t2).ne npt
            have hys : ∀ m ∈ ys, m.length ≤ 1000 := fun m hm => by have := (hsm m (permS.mem_iff.mp hm)).2; omega
            have rl : Rep z (upd (upd (upd H5 pS (.lst (ys.map V.str))) l (.tup (ys.map V.str))) pt (.tup [.int (runF b x n).at_, .ref l])) (.ref pt) (fkD ((runF b x n).at_, ys)) := .tup upd_same hptz (.cons (.int _) (.cons (.tup (t3 _ _ upd_same) hlz (reps_strs hys)) .nil))
            have sx6 : SameX pf H5 (upd (upd (upd (upd H5 pS (.lst (ys.map V.str))) l (.tup (ys.map V.str))) pt (.tup [.int (runF b x n).at_, .ref l])) pf (.lst (fv ++ [.ref pt]))) := T123.x.upd
            have hf6 : upd (upd (upd (upd H5 pS (.lst (ys.map V.str))) l (.tup (ys.map V.str))) pt (.tup [.int (runF b x n).at_, .ref l])) pf (.lst (fv ++ [.ref pt])) pf = some (.lst (fv ++ [.ref pt])) := upd_same
            have RF6 : Reps z (upd (upd (upd (upd H5 pS (.lst (ys.map V.str))) l (.tup (ys.map V.str))) pt (.tup [.int (runF b x n).at_, .ref l])) pf (.lst (fv ++ [.ref pt]))) (fv ++ [.ref pt]) ((fkL b x (n + 1)).map fkD) := by
              rw [efk, List.map_append]
              exact Reps.updL hft ((RF5.mono T123.x).append (.cons rl .nil)) ((noL_fks _).append (noL_fks [_]))
            generalize upd (upd (upd (upd H5 pS (.lst (ys.map V.str))) l (.tup (ys.map V.str))) pt (.tup [.int (runF b x n).at_, .ref l])) pf (.lst (fv ++ [.ref pt])) = H6 at sx6 hf6 RF6
            generalize fv ++ [.ref pt] = fv6 at hf6 RF6
          all_goals
            have hB6 : Bag z H6 := by
              obtain ⟨c1, c2, e⟩ := hB5
              exact ⟨c1, c2, sx6 _ _ hpfz.symm e⟩
            have R6 := Rep.butL hf5 sx6 R5 (.tup (noL_tgs b))
            have D6 : PDs z H6 q (runF b x n).ds := by
              obtain ⟨dv, hq5, RD5⟩ := D5
              exact ⟨dv, sx6 _ _ hqf hq5, Reps.butL hf5 sx6 RD5 (noL_pds _)⟩
            have T6 := T5.sameX hf5 sx6
            have bx6 : ButX tb H H6 := fun b' o h e => sx6 b' o (hpf0 e) (bx5 b' o h e)
            obtain ⟨dv6, hq6, _⟩ := id D6
            obtain ⟨ps, ht6⟩ := T6.tbl
            refine ⟨_, rfl, _, rfl, _, rfl, _, rfl, _, rfl, z, v, b, q, (runF b x n).ds, x, (runF b x n).at_, rfl, hB6, hqz, R6, hok, D6, rok.bk, hlt, hx, by omega, T6, fun p H7 s7 np hp D7 T7 => ?_⟩
            obtain ⟨p1, p2, p3, p4, p5, p6⟩ := stepL_props (x := x) htok rok.bk hb1 hlt
            rw [← run_at_ds hlt] at D7
            have R7 := Rep.but2 hq6 ht6 s7 R6 (.tup (noL_tgs b))
            have RF7 := Reps.but2 hq6 ht6 s7 RF6 (noL_fks _)
            have hf7 := s7 _ _ hqf.symm (ne_of hf6 ht6 (by intro q; cases q)) hf6
            have hB7 : Bag z H7 := by
              obtain ⟨c1, c2, e⟩ := hB6
              exact ⟨c1, c2, s7 _ _ hqz.symm (ne_of e ht6 (by intro q; cases q)) e⟩
            have bx7 : ButX tb H H7 := fun b' o h e => s7 b' o (ne_of_none e nq0) h (bx6 b' o h e)
            refine ⟨p, _, 1, _, rfl, rfl, SqT.of hp, atI_nat (j := 1) rfl, _, _, rfl, rfl, ?_⟩
            have eat : ((runF b x n).at_ : Int) + (stepL b (runF b x n).ds x (runF b x n).at_ (bestL b (runF b x n).ds x (runF b x n).at_)).1.2.1 = ((runF b x (n + 1)).at_ : Int) := by
              rw [run_at hlt]
              show _ = ((_ + _ : Nat) : Int)
              omega
            refine ⟨⟨n + 1, some (.ref pC), ?_, bx7, hB7, R7, D7, T7, _, hf7, RF7⟩, ?_⟩
            · show [some v, some (.str x), some (.ref pf), some (.ref q), some (V.int (((runF b x n).at_ : Int) + (stepL b (runF b x n).ds x (runF b x n).at_ (bestL b (runF b x n).ds x (runF b x n).at_)).1.2.1)), some (.ref pC)] = _
              rw [eat]
            · show x.length - (((runF b x n).at_ : Int) + (stepL b (runF b x n).ds x (runF b x n).at_ (bestL b (runF b x n).ds x (runF b x n).at_)).1.2.1).toNat < x.length - ((runF b x n).at_ : Int).toNat
              omega
      · have hge : (runF b x n).at_ = x.length := by
          have : ¬ (((runF b x n).at_ : Int) < (x.length : Int)) := fun q => hlt (decide_eq_true q)
          omega
        exact ⟨_, rfl, k pf fv n H3 s3 npf hf3 hge RF hB3 T3⟩
    · rintro σ H3 Q1 Q2 hq ⟨v1, e1, v2, e2, x2, e3, h4, i1, i2, e5, e6, b1, e7, h⟩
      exact ⟨v1, e1, v2, e2, x2, e3, h4, i1, i2, e5, e6, b1, e7, hq _ _ h⟩
end
end T1
namespace T1
open PySem L2
def runIt (b : Bk) (x : Str) (r : RunSt) : Nat → RunSt
  | 0 => r
  | n + 1 => runStep b x (runIt b x r n)
theorem runF_add (b : Bk) (x : Str) (n : Nat) : ∀ k, runF b x (n + k) = runIt b x (runF b x n) k
  | 0 => rfl
  | k + 1 => by
    show runStep b x (runF b x (n + k)) = runStep b x (runIt b x (runF b x n) k)
    rw [runF_add b x n k]
theorem runF_it (b : Bk) (x : Str) : ∀ n, runF b x n = runIt b x ⟨0, [], []⟩ n
  | 0 => rfl
  | n + 1 => by
    show runStep b x (runF b x n) = runStep b x _
    rw [runF_it b x n]
theorem it_on {b : Bk} {x : Str} {r : RunSt} {n : Nat} (h : (runIt b x r n).at_ < x.length) : runIt b x r (n + 1) = ⟨(runIt b x r n).at_ + ((stepL b (runIt b x r n).ds x (runIt b x r n).at_ (bestL b (runIt b x r n).ds x (runIt b x r n).at_)).1.2.1).toNat, (stepL b (runIt b x r n).ds x (runIt b x r n).at_ (bestL b (runIt b x r n).ds x (runIt b x r n).at_)).2, (runIt b x r n).ss ++ [(stepL b (runIt b x r n).ds x (runIt b x r n).at_ (bestL b (runIt b x r n).ds x (runIt b x r n).at_)).1]⟩ := by
  show runStep b x (runIt b x r n) = _
  unfold runStep
  rw [if_pos h]
theorem it_off {b : Bk} {x : Str} {r : RunSt} {n : Nat} (h : ¬ (runIt b x r n).at_ < x.length) : runIt b x r (n + 1) = runIt b x r n := by
  show runStep b x (runIt b x r n) = _
  unfold runStep
  rw [if_neg h]
structure ItOk2 (b : Bk) (x : Str) (ds0 : List LDr) (r : RunSt) : Prop where
  le : r.at_ ≤ x.length
  bk : LdBk b r.ds
  dl : r.ds.length ≤ ds0.length + r.at_
  sl : r.ss.length ≤ r.at_
  sum : (r.ss.map (·.2.1)).sum = (r.at_ : Int)
theorem it_ok {b : Bk} {x : Str} {ds0 : List LDr} (hb : ∀ t ∈ b, TgOk b.length t) (hb1 : 1 ≤ b.length) (hd : LdBk b ds0) : ∀ n, ItOk2 b x ds0 (runIt b x ⟨0, ds0, []⟩ n)
  | 0 => ⟨Nat.zero_le _, hd, Nat.le_refl _, Nat.zero_le _, rfl⟩
  | n + 1 => by
    have ih := it_ok (x := x) hb hb1 hd n
    by_cases h : (runIt b x ⟨0, ds0, []⟩ n).at_ < x.length
    · rw [it_on h]
      have P := stepL_props (x := x) hb ih.bk hb1 h
      obtain ⟨i1, i2, i3, i4, i5⟩ := ih
      generalize runIt b x ⟨0, ds0, []⟩ n = r at *
      revert P
      generalize stepL b r.ds x r.at_ (bestL b r.ds x r.at_) = st
      intro P
      have h1 : 1 ≤ st.1.2.1 := P.1
      have h3 : (r.at_ : Int) + st.1.2.1 ≤ x.length := P.2.2.1
      have h5 : st.2.length ≤ r.ds.length + 1 := P.2.2.2.2.1
      refine ⟨?_, P.2.2.2.1, ?_, ?_, ?_⟩
      · show r.at_ + st.1.2.1.toNat ≤ x.length
        omega
      · show st.2.length ≤ ds0.length + (r.at_ + st.1.2.1.toNat)
        omega
      · show (r.ss ++ [st.1]).length ≤ r.at_ + st.1.2.1.toNat
        rw [List.length_append]
        show r.ss.length + 1 ≤ _
        omega
      · show ((r.ss ++ [st.1]).map (·.2.1)).sum = ((r.at_ + st.1.2.1.toNat : Nat) : Int)
        rw [List.map_append, List.sum_append, i5]
        show (r.at_ : Int) + (st.1.2.1 + 0) = _
        omega
    · rw [it_off h]
      exact ih
def SamePd (ds ds' : List LDr) : Prop := ds.map (·.2) = ds'.map (·.2)
theorem SamePd.len {ds ds' : List LDr} (h : SamePd ds ds') : ds.length = ds'.length := by have := congrArg List.length h; simpa using this
theorem SamePd.nil {ds ds' : List LDr} (h : SamePd ds ds') : ds = [] ↔ ds' = [] := by
  have := h.len
  rw [← List.length_eq_zero_iff, ← List.length_eq_zero_iff, this]
theorem SamePd.get {ds ds' : List LDr} (h : SamePd ds ds') (i : Nat) : (ds.getD i ld0).2 = (ds'.getD i ld0).2 := by
  have e := h.len
  by_cases hi : i < ds.length
  · have h1 : (ds.map (·.2))[i]? = (ds'.map (·.2))[i]? := by rw [h]
    rw [List.getElem?_map, List.getElem?_map, List.getElem?_eq_getElem hi, List.getElem?_eq_getElem (by omega)] at h1
    rw [List.getD_eq_getElem?_getD, List.getD_eq_getElem?_getD, List.getElem?_eq_getElem hi, List.getElem?_eq_getElem (by omega)]
    exact Option.some.inj h1
  · rw [List.getD_eq_getElem?_getD, List.getD_eq_getElem?_getD, List.getElem?_eq_none (by omega), List.getElem?_eq_none (by omega)]
theorem tongue_eq (ds : List LDr) : tongueL ds = match (ds.map (·.2)).getLast? with | some d => d.1 | none => 0 := by
  unfold tongueL
  rw [List.getLast?_map]
  cases ds.getLast? <;> rfl
theorem SamePd.tongue {ds ds' : List LDr} (h : SamePd ds ds') : tongueL ds = tongueL ds' := by rw [tongue_eq, tongue_eq, h]
theorem SamePd.drop {ds ds' : List LDr} (h : SamePd ds ds') : SamePd ds.dropLast ds'.dropLast := by
  unfold SamePd
  rw [List.map_dropLast, List.map_dropLast, h]
theorem SamePd.some {b : Bk} {ds ds' : List LDr} (h : SamePd ds ds') : someL b ds = someL b ds' := by
  unfold someL lastL
  have e : ∀ l : List LDr, (l.drop (l.length - 1)).map (·.2.2) = ((l.map (·.2)).drop (l.length - 1)).map (·.2) := fun l => by
    rw [← List.map_drop, List.map_map]
    rfl
  rw [h.tongue, e ds, e ds', h, h.len]
theorem clip_list {α : Type} (l : List α) (i k : Nat) : (l.drop (min i l.length)).take (min (i + k) l.length - min i l.length) = (l.drop i).take k := by
  by_cases h : i ≤ l.length
  · rw [Nat.min_eq_left h]
    by_cases h2 : i + k ≤ l.length
    · rw [Nat.min_eq_left h2, Nat.add_sub_cancel_left]
    · rw [Nat.min_eq_right (by omega), List.take_of_length_le (by simp), List.take_of_length_le (by simp; omega)]
  · rw [Nat.min_eq_right (by omega), Nat.min_eq_right (by omega), List.drop_eq_nil_of_le (Nat.le_refl _), List.drop_eq_nil_of_le (by omega)]
    simp
theorem str_ext {a c : Str} (h : a.cps.toList = c.cps.toList) : a = c := by
  obtain ⟨⟨a⟩⟩ := a
  obtain ⟨⟨c⟩⟩ := c
  have h : a = c := h
  rw [h]
theorem len_list (x : Str) : x.cps.toList.length = x.length := by simp; rfl
theorem cut_list (x : Str) (i k : Nat) : (cutS x (some (i : Int)) (some ((i : Int) + (k : Int)))).cps.toList = (x.cps.toList.drop i).take k := by
  unfold cutS
  have e : ((i : Int) + (k : Int)) = ((i + k : Nat) : Int) := by omega
  rw [e, HT.sIx_nat, HT.sIx_nat]
  show ((x.cps.toList.drop (min i x.length)).take (min (i + k) x.length - min i x.length)) = _
  rw [← len_list]
  exact clip_list _ _ _
theorem cut_from (x : Str) {i : Nat} (h : i ≤ x.length) : (cutS x (some (i : Int)) none).cps.toList = x.cps.toList.drop i := by
  unfold cutS
  rw [HT.sIx_nat, HT.sIx_none]
  show ((x.cps.toList.drop (min i x.length)).take (x.length - min i x.length)) = _
  rw [Nat.min_eq_left h, List.take_of_length_le]
  rw [List.length_drop, len_list]
  exact Nat.le_refl _
theorem fit_iff {x m : Str} {i : Nat} : fitAt x i m = true ↔ m.cps.toList <+: x.cps.toList.drop i := by
  unfold fitAt
  rw [decide_eq_true_iff, List.prefix_iff_eq_take, len_list]
  constructor
  · intro h
    have h : cutS x (some (i : Int)) (some ((i : Int) + m.length)) = m := by injection h
    rw [← cut_list, h]
  · intro h
    congr 1
    exact str_ext (by rw [cut_list, ← h])
theorem bool_iff {a c : Bool} (h : a = true ↔ c = true) : a = c := Bool.eq_iff_iff.mpr h
theorem sign_list {x : Str} {i : Nat} (h : i < x.length) : x.cps.toList.drop i = x.cps.getD i 0 :: x.cps.toList.drop (i + 1) := by
  have h1 : i < x.cps.toList.length := by rw [len_list]; exact h
  rw [List.drop_eq_getElem_cons h1]
  congr 1
  have : i < x.cps.size := h
  simp [Array.getD, this]
def restS (y : Str) (j : Nat) : Str := cutS y (some (j : Int)) none
def sureB (b : Bk) (ds : List LDr) (y : Str) (j : Nat) : Bool := !(decide (restS y j = (b.getD (tongueL ds).toNat tg0).1)) && !((possL b ds).any fun m => decide ((restS y j).length < m.1.length) && stAt m.1 (restS y j) 0)
structure Fits (b : Bk) (ds : List LDr) (x y : Str) (off j : Nat) : Prop where
  sign : x.cps.getD (off + j) 0 = y.cps.getD j 0
  esc : (⟨#[y.cps.getD j 0]⟩ : Str) = (b.getD (tongueL ds).toNat tg0).1 → (off + j + 1 = x.length ↔ j + 1 = y.length)
  fit : ∀ m ∈ someL b ds, fitAt x (off + j) m = fitAt y j m
theorem drop_parts {x y : Str} {pre more : List Nat} {off j : Nat} (hx : x.cps.toList = pre ++ y.cps.toList ++ more) (hoff : pre.length = off) (hj : j ≤ y.length) : x.cps.toList.drop (off + j) = y.cps.toList.drop j ++ more := by
  rw [hx, List.append_assoc, ← List.drop_drop, ← hoff, List.drop_left, List.drop_append_of_le_length (by rw [len_list]; exact hj)]
theorem fits_of {b : Bk} {ds : List LDr} {x y : Str} {pre more : List Nat} {off j : Nat} (hx : x.cps.toList = pre ++ y.cps.toList ++ more) (hoff : pre.length = off) (hj : j < y.length) (hs : more = [] ∨ sureB b ds y j = true) : Fits b ds x y off j := by
  have hxl : x.length = off + y.length + more.length := by rw [← len_list, hx, List.length_append, List.length_append, hoff, len_list]
  have hd := drop_parts hx hoff (Nat.le_of_lt hj)
  have hsg : x.cps.getD (off + j) 0 = y.cps.getD j 0 := by
    rw [sign_list (by omega), sign_list hj] at hd
    injection hd
  have hrest : (restS y j).cps.toList = y.cps.toList.drop j := cut_from y (Nat.le_of_lt hj)
  refine ⟨hsg, fun he => ?_, fun m hm => ?_⟩
  · rcases hs with h | h
    · rw [h] at hxl
      have hxl : x.length = off + y.length + 0 := hxl
      omega
    · unfold sureB at h
      simp only [Bool.and_eq_true, Bool.not_eq_true', decide_eq_false_iff_not] at h
      have hne := h.1
      have hlt : j + 1 < y.length := by
        by_cases hq : j + 1 < y.length
        · exact hq
        · exfalso
          apply hne
          rw [← he]
          refine str_ext ?_
          rw [hrest, sign_list hj, List.drop_eq_nil_of_le (by rw [len_list]; omega)]
      omega
  · refine bool_iff ?_
    rw [fit_iff, fit_iff, hd]
    constructor
    · intro h
      by_cases hl : m.cps.toList.length ≤ (y.cps.toList.drop j).length
      · exact List.prefix_of_prefix_length_le h (List.prefix_append _ _) hl
      · rcases hs with e | e
        · rw [e, List.append_nil] at h
          exact h
        · exfalso
          unfold sureB at e
          simp only [Bool.and_eq_true, Bool.not_eq_true', decide_eq_false_iff_not] at e
          have e2 := e.2
          rw [List.any_eq_false] at e2
          obtain ⟨p, hp, rfl⟩ := some_poss hm
          apply e2 p hp
          rw [Bool.and_eq_true]
          refine ⟨decide_eq_true ?_, ?_⟩
          · rw [← len_list, ← len_list, hrest]
            omega
          · rw [stAt_fit (Nat.zero_le _), fit_iff, hrest, List.drop_zero]
            exact List.prefix_of_prefix_length_le (List.prefix_append _ _) h (by omega)
    · intro h
      exact h.trans (List.prefix_append _ _)
def mvS (d : Int) (s : Stp) : Stp := (s.1 + d, s.2)
theorem step_mv {b : Bk} {ds ds' : List LDr} {x y : Str} {off j : Nat} {m : Str} (hpd : SamePd ds ds') (F : Fits b ds' x y off j) : (stepL b ds x (off + j) m).1 = mvS off (stepL b ds' y j m).1 ∧ SamePd (stepL b ds x (off + j) m).2 (stepL b ds' y j m).2 := by
  have ht := hpd.tongue
  have hl := hpd.len
  have eo : ((off + j : Nat) : Int) = (j : Int) + (off : Int) := by omega
  unfold stepL
  rw [ht, F.sign, hl]
  split
  · rename_i h
    have he := F.esc h.2
    by_cases h1 : j + 1 = y.length
    · rw [if_pos h1, if_pos (he.mpr h1)]
      exact ⟨by unfold mvS; rw [eo], hpd⟩
    · rw [if_neg h1, if_neg (fun q => h1 (he.mp q))]
      exact ⟨by unfold mvS; rw [eo], hpd⟩
  · split
    · exact ⟨by unfold mvS; rw [eo], hpd⟩
    · have hc : (ds ≠ [] ∧ m = (ds.getD (ds'.length - 1) ld0).2.2) ↔ (ds' ≠ [] ∧ m = (ds'.getD (ds'.length - 1) ld0).2.2) := by
        rw [hpd.get]
        exact ⟨fun q => ⟨fun e => q.1 (hpd.nil.mpr e), q.2⟩, fun q => ⟨fun e => q.1 (hpd.nil.mp e), q.2⟩⟩
      by_cases h3 : ds' ≠ [] ∧ m = (ds'.getD (ds'.length - 1) ld0).2.2
      · rw [if_pos h3, if_pos (hc.mpr h3), hpd.drop.tongue]
        exact ⟨by unfold mvS; rw [eo], hpd.drop⟩
      · rw [if_neg h3, if_neg (fun q => h3 (hc.mp q))]
        split
        · refine ⟨by unfold mvS; rw [eo], ?_⟩
          unfold SamePd
          rw [List.map_append, List.map_append, hpd]
          rfl
        · exact ⟨by unfold mvS; rw [eo], hpd⟩
theorem best_mv {b : Bk} {ds ds' : List LDr} {x y : Str} {off j : Nat} (hpd : SamePd ds ds') (F : Fits b ds' x y off j) : bestL b ds x (off + j) = bestL b ds' y j := by
  unfold bestL fitL
  rw [hpd.some]
  congr 1
  exact List.filter_congr fun m hm => F.fit m hm
structure Rel (off : Nat) (S0 : List Stp) (R r : RunSt) : Prop where
  at_ : R.at_ = off + r.at_
  pd : SamePd R.ds r.ds
  ss : R.ss = S0 ++ r.ss.map (mvS off)
theorem rel_step {b : Bk} {x y : Str} {pre more : List Nat} {off : Nat} {S0 : List Stp} {R r : RunSt} (hx : x.cps.toList = pre ++ y.cps.toList ++ more) (hoff : pre.length = off) (hj : r.at_ < y.length) (hs : more = [] ∨ sureB b r.ds y r.at_ = true) (h : Rel off S0 R r) : Rel off S0 (runStep b x R) (runStep b y r) := by
  have hxl : x.length = off + y.length + more.length := by rw [← len_list, hx, List.length_append, List.length_append, hoff, len_list]
  have F := fits_of (b := b) (ds := r.ds) hx hoff hj hs
  have hb := best_mv h.pd F
  obtain ⟨s1, s2⟩ := step_mv (m := bestL b r.ds y r.at_) h.pd F
  unfold runStep
  rw [if_pos hj, if_pos (by rw [h.at_]; omega), h.at_, hb]
  refine ⟨?_, s2, ?_⟩
  · show off + r.at_ + _ = off + (r.at_ + _)
    rw [s1]
    show off + r.at_ + (stepL b r.ds y r.at_ (bestL b r.ds y r.at_)).1.2.1.toNat = _
    omega
  · show R.ss ++ [_] = _
    rw [s1, h.ss, List.map_append, List.append_assoc]
    rfl
theorem rel_run {b : Bk} {x y : Str} {pre more : List Nat} {off : Nat} {S0 : List Stp} {R r : RunSt} (hx : x.cps.toList = pre ++ y.cps.toList ++ more) (hoff : pre.length = off) (h : Rel off S0 R r) : ∀ k, (∀ j, j < k → (runIt b y r j).at_ < y.length ∧ (more = [] ∨ sureB b (runIt b y r j).ds y (runIt b y r j).at_ = true)) → Rel off S0 (runIt b x R k) (runIt b y r k)
  | 0, _ => h
  | k + 1, hs => rel_step hx hoff (hs k (Nat.lt_succ_self _)).1 (hs k (Nat.lt_succ_self _)).2 (rel_run hx hoff h k fun j hj => hs j (Nat.lt_succ_of_lt hj))
end T1
namespace T1
open PySem L2
def spMoved : Sp := fun vs H Q _ => ∃ p d st, vs = [.ref p, .int d] ∧ H p = some (.tup (stV st)) ∧ ∀ q H', Same H H' → H q = none → H' q = some (.tup (stV (mvS d st))) → Q (.ref q) H'
def spSure : Sp := fun vs H Q _ => ∃ z v b q ds x, ∃ j : Nat, vs = [v, .str x, .int j, .ref q] ∧ Bag z H ∧ Rep z H v (bkD b) ∧ BkOk b ∧ PDs z H q ds ∧ LdOk b ds ∧ j ≤ x.length ∧ x.length ≤ 20000 ∧
  ∀ H', Same H H' → Q (.bl (sureB b ds x j)) H'
theorem range_mks (ms : List Mk) : (List.range ms.length).map (fun j => V.str (ms.getD j mk0).1) = (ms.map (·.1)).map V.str := by
  refine List.ext_getElem (by simp) fun i h1 h2 => ?_
  have h3 : i < ms.length := by simpa using h2
  simp [h3]
theorem any_rangeM {α : Type} (ms : List α) (d : α) (g : α → Bool) : ((List.range ms.length).map fun j => g (ms.getD j d)).any id = ms.any g := by
  have e : (List.range ms.length).map (fun j => g (ms.getD j d)) = ms.map g := by
    refine List.ext_getElem (by simp) fun i h1 h2 => ?_
    have h3 : i < ms.length := by simpa using h2
    simp [h3]
  rw [e, List.any_map]
  rfl
section
variable {P : Program} {w : World} {K : PySem.W.Frag} {mg : Str → Option Value} {base : Heap}
theorem scMoved : FnScope ["step", "by", "place", "many", "word", "tongue", "depth"] ["step", "by"] (defScope sMoved) := ⟨rfl, rfl, rfl, by decide +kernel, rfl, by decide +kernel, by decide +kernel⟩
theorem ok_moved {f : Addr} {fd : FuncData} (F : Fun K "moved" "moved" sMoved f fd) : FnOk P w K mg base CX0 1 f fd ["step", "by"] spMoved := by
  refine F.ok scMoved (fun vs H Q E h => ?_) (fun cdv A outer s H vs Q E hr h => ?_)
  · obtain ⟨p, d, st, rfl, _⟩ := h
    rfl
  · obtain ⟨p, d, st, rfl, hp, k⟩ := h
    have nd := scMoved.nd
    refine ⟨_, pss_cons (ps_asg (pv 0) (pg_tup rfl (pgs_cons (pg_name (i := 2) nd rfl (Or.inl rfl)) (pgs_cons (pg_name (i := 3) nd rfl (Or.inl rfl)) (pgs_cons (pg_name (i := 4) nd rfl (Or.inl rfl)) (pgs_cons (pg_name (i := 5) nd rfl (Or.inl rfl)) (pgs_cons (pg_name (i := 6) nd rfl (Or.inl rfl)) pgs_nil)))))))
      (pss_one (ps_ret (pe_tup (pa_cons (pe_op op_add (pv 2) (pv 1)) (pa_cons (pv 3) (pa_cons (pv 4) (pa_cons (pv 5) (pa_cons (pv 6) pa_nil)))))))), ?_⟩
    have big := big1000
    refine ⟨_, rfl, p, _, rfl, SqT.of hp, rfl, _, _, rfl, _, _, rfl, _, _, rfl, _, _, rfl, _, _, rfl, rfl, ?_⟩
    refine ⟨_, rfl, _, rfl, _, _, rfl, rfl, _, rfl, _, rfl, _, rfl, _, rfl, by show (5 : Nat) ≤ _; omega, fun q nq => ?_⟩
    exact k q _ (Same.new nq) nq upd_same
theorem scSure : FnScope ["book", "part", "place", "doors", "rest", "escape", "ways", "marks"] ["book", "part", "place", "doors"] (defScope sIsSure) := ⟨rfl, rfl, rfl, by decide +kernel, rfl, by decide +kernel, by decide +kernel⟩
theorem ndMD : (["mark", "door"] : List Str).Nodup := by decide +kernel
theorem ndMR : (["mark", "rest"] : List Str).Nodup := by decide +kernel
set_option maxHeartbeats 0 in
theorem ok_sure {f f1 f2 : Addr} {fd fd1 fd2 : FuncData} (F : Fun K "is_sure" "is_sure" sIsSure f fd) (T : TxtB mg)
    (k1 : PySem.W.keepIn K (.ref f1) = true) (b1 : Binds K fd1 ["doors"] []) (m1 : mg "tongue_within" = some (.ref f1)) (G1 : FnOk P w K mg base CX0 1 f1 fd1 ["doors"] spWithin)
    (k2 : PySem.W.keepIn K (.ref f2) = true) (b2 : Binds K fd2 ["book", "doors"] []) (m2 : mg "possible_marks" = some (.ref f2)) (G2 : FnOk P w K mg base CX0 2 f2 fd2 ["book", "doors"] spPoss) : FnOk P w K mg base CX0 3 f fd ["book", "part", "place", "doors"] spSure := by
  refine F.ok scSure (fun vs H Q E h => ?_) (fun cdv A outer s H vs Q E hr h => ?_)
  · obtain ⟨z, v, b, q, ds, x, j, rfl, _⟩ := h
    rfl
  · obtain ⟨z, v, b, q, ds, x, j, rfl, hB, R0, hok, hD, hld, hj, hx, k⟩ := h
    have nd := scSure.nd
    have hr1 : Room 1 _ := hr.mono (by decide)
    obtain ⟨a, xs, rfl, haz, ha, hxl, R⟩ := rep_book R0
    obtain ⟨hb1, hb6, htok, _⟩ := id hok
    refine ⟨_, pss_cons (ps_set (i := 4) nd rfl (Or.inr rfl) (pe_slice sl_str (pv 1) (po_some (pv 2)) po_none))
      (pss_cons (ps_asg (pe_ix ix_tup (pv 0) (pe_call G1 hr1 rfl m1 k1 b1 .nil pass0 (pa_cons (pv 3) pa_nil)) (fun _ _ => rfl)) (pg_tup rfl (pgs_cons (pg_name (i := 5) nd rfl (Or.inl rfl)) (pgs_cons (pg_name (i := 6) nd rfl (Or.inl rfl)) pgs_nil))))
      (pss_cons (ps_if (pt_cmpR op_eq (pv 4) (pv 5) (nomark _)) (pss_one (ps_ret pe_bl)) pss_nil)
      (pss_cons (ps_setcomp1 (N' := ["mark", "door"]) (js := [none, none]) (i := 7) rfl rfl nd rfl (Or.inl rfl) (blk_of (defScope sIsSure) (by decide +kernel)) trivial
          (pi_list (pe_call G2 hr rfl m2 k2 b2 .nil pass0 (pa_cons (pv 0) (pa_cons (pv 3) pa_nil))))
          (fun cl s H fp => pg_tupB 2 rfl (pgs_cons (pg_name (i := 0) ndMD rfl (Or.inl rfl) (Or.inr rfl)) (pgs_cons (pg_name (i := 1) ndMD rfl (Or.inl rfl) (Or.inr rfl)) pgs_nil))) (fun cl s H fp => pts_nil) (fun cl s H fp => pv 0))
      (pss_one (ps_ret (pe_not (pe_callB (call_any rfl) (by rfl) T.any_ b_any (pa_cons (pe_comp1 (N' := ["mark", "rest"]) (js := [none, some 4]) rfl rfl (blk_of (defScope sIsSure) (by decide +kernel)) ⟨rfl, Or.inr (Or.inl rfl), rfl, trivial⟩ (pi_list (pv 7)) (fun cl s H fp => pg_name (i := 0) ndMR rfl (Or.inl rfl)) (fun cl s H fp => pts_nil)
          (fun cl s H fp => pe_and (pe_cmpR op_gt (pe_callB call_len_str (by rfl) T.len b_len (pa_cons (pv 0) pa_nil)) (pe_callB call_len_str (by rfl) T.len b_len (pa_cons (pv 1) pa_nil)) (nomark _)) (pe_one (pe_bmB PySem.F.plainAttrs_str PySem.F.slot_str_startswith PySem.F.type_str_startswith mt_startswith (pv 0) (pa_cons (pv 1) pa_nil))))) pa_nil)))))))), ?_⟩
    have big := big1000
    have big2 : (100000 : Nat) ≤ sizeLine := by rw [sizeLine_eq]; decide
    obtain ⟨tN, htN, htl⟩ := tongue_nat hld hb1
    have htoN : (tongueL ds).toNat = tN := by rw [htN]; rfl
    obtain ⟨c, d, ws, ec, hcz, hdz, hc, hd, hyl, Ry⟩ := rep_tongue (reps_tongue (b := b) (i := tN) R htl)
    have exv : xs[tN]? = some (.ref c) := by
      have h1 : tN < xs.length := by omega
      have h2 : xs.getD tN .non = xs[tN] := by simp [h1]
      rw [List.getElem?_eq_getElem h1, ← h2, ec]
    have hat : atI xs (tongueL ds) = some (.ref c) := by rw [htN]; exact atI_nat (j := tN) exv
    refine ⟨_, rfl, _, rfl, _, rfl, x, rfl, by omega, ?_⟩
    refine ⟨_, rfl, _, rfl, z, q, ds, rfl, hD, a, _, _, _, rfl, rfl, SqT.of ha, hat, c, _, rfl, SqT.of hc, rfl, _, _, rfl, _, _, rfl, rfl, ?_⟩
    unfold sureB at k
    rw [htoN] at k
    have erest : cutS x (some (j : Int)) none = restS x j := rfl
    rw [erest]
    have hrl : (restS x j).length ≤ 20000 := by
      have := len_list (restS x j)
      rw [show (restS x j).cps.toList = _ from cut_from x hj, List.length_drop, len_list] at this
      omega
    generalize restS x j = rs at *
    refine ⟨_, rfl, _, rfl, rfl, _, rfl, ?_⟩
    refine ite2 (fun g => ?_) (fun g => ?_)
    · have g' : rs = (b.getD tN tg0).1 := by have := of_decide_eq_true g; injection this
      have := k H (Same.refl _)
      rw [decide_eq_true g'] at this
      exact this
    · have g' : rs ≠ (b.getD tN tg0).1 := fun e => g (decide_eq_true (by rw [e]))
      rw [decide_eq_false g'] at k
      refine ⟨_, rfl, _, rfl, z, .ref a, b, q, ds, rfl, hB, R0, hok, hD, hld, fun pw vs H4 s4 npw hpw RW => ?_⟩
      have hwl : vs.length = (possL b ds).length := by have := RW.length; simpa using this
      have hfew : (possL b ds).length ≤ 7 := by
        have few := (htok _ (getD_mem tg0 htl)).2.1
        unfold possL lastL
        rw [htoN, List.length_append, List.length_map, List.length_map, List.length_drop]
        omega
      have hsm : ∀ m ∈ possL b ds, m.1.length ≤ 4 := fun m hm => (fitL_sm (x := x) (i := j) htok hld m.1 (poss_some hm)).2
      refine ⟨pw, rfl, ⟨_, SqL.of hpw⟩, fun pC npC => ?_⟩
      have hpwC : pw ≠ pC := ne_of_none hpw npC
      refine loop_new (fun j => some (V.str ((possL b ds).getD j mk0).1)) (fun σ => ∃ u1 u2, σ = [u1, u2]) ⟨none, none, rfl⟩ npC (by omega) (itok_lst (xs := vs) (by rw [upd_ne hpwC]; exact hpw) hpwC) (fun j σ H5 C hj ⟨w1, w2, hw⟩ s5 hC => ?_) (fun σ H5 s5 hC5 => ?_)
      · subst hw
        obtain ⟨a2, u2, e, haz2, ha2, hl, Ru⟩ := rep_mk ((reps_mk (ms := possL b ds) (i := j) RW (by omega)).mono s5.x)
        rw [e]
        refine ⟨a2, _, rfl, SqT.of ha2, rfl, _, _, rfl, _, _, rfl, rfl, ?_⟩
        dsimp only [tYes]
        rw [if_pos rfl]
        exact ⟨_, rfl, hC _ _ ⟨_, _, rfl⟩ (Same.refl _)⟩
      · rw [flatN_map, hwl, range_mks] at hC5
        refine ⟨_, rfl, pC, rfl, ⟨_, SqL.of hC5⟩, fun pD npD => ?_⟩
        have hCD : pC ≠ pD := ne_of_none hC5 npD
        refine loop_new (fun j => some (V.bl (decide (rs.length < ((possL b ds).getD j mk0).1.length) && stAt ((possL b ds).getD j mk0).1 rs 0))) (fun σ => ∃ u1, σ = [u1, some (.str rs)]) ⟨none, rfl⟩ npD (by simp; omega) (itok_lst (xs := ((possL b ds).map (·.1)).map V.str) (by rw [upd_ne hCD]; exact hC5) hCD) (fun j σ H6 C hj ⟨w1, hw⟩ s6 hC => ?_) (fun σ H6 s6 hC6 => ?_)
        · subst hw
          have hjl : j < (possL b ds).length := by simpa using hj
          have e : (((possL b ds).map (·.1)).map V.str).getD j .non = V.str ((possL b ds).getD j mk0).1 := by simp [hjl]
          have hm4 := hsm ((possL b ds).getD j mk0) (by rw [List.getD_eq_getElem?_getD, List.getElem?_eq_getElem hjl]; exact List.getElem_mem hjl)
          rw [e]
          have hC' := hC [some (.str ((possL b ds).getD j mk0).1), some (.str rs)] H6 ⟨_, rfl⟩ (Same.refl _)
          generalize ((possL b ds).getD j mk0).1 = mk at *
          dsimp only [tYes, gName]
          rw [if_pos rfl]
          refine ⟨_, rfl, mk, rfl, by omega, _, rfl, rs, rfl, by omega, _, _, rfl, rfl, _, rfl, ?_⟩
          refine ite2 (fun g2 => ?_) (fun g2 => ?_)
          · have h2 : rs.length < mk.length := by have := of_decide_eq_true g2; omega
            rw [decide_eq_true h2, Bool.true_and] at hC'
            exact ⟨_, rfl, rfl, _, rfl, mk, rs, rfl, rfl, hC'⟩
          · have h2 : ¬ rs.length < mk.length := fun h => g2 (decide_eq_true (by omega))
            rw [decide_eq_false h2, Bool.false_and] at hC'
            exact hC'
        · have eb : flatN (fun j => (some (V.bl (decide (rs.length < ((possL b ds).getD j mk0).1.length) && stAt ((possL b ds).getD j mk0).1 rs 0))).toList) (((possL b ds).map (·.1)).map V.str).length = ((List.range (possL b ds).length).map fun j => decide (rs.length < ((possL b ds).getD j mk0).1.length) && stAt ((possL b ds).getD j mk0).1 rs 0).map V.bl := by
            rw [flatN_map, List.length_map, List.length_map, List.map_map]
            rfl
          rw [eb] at hC6
          refine ⟨pD, _, rfl, SqL.of hC6, _, rfl, ?_⟩
          have ea := any_rangeM (possL b ds) mk0 (fun m => decide (rs.length < m.1.length) && stAt m.1 rs 0)
          rw [ea]
          have := k H6 ((s4.trans s5).trans s6)
          rw [Bool.not_false, Bool.true_and] at this
          exact this
end
end T1
namespace T1
open PySem L2
abbrev it0 (b : Bk) (x : Str) (ds : List LDr) (n : Nat) : RunSt := runIt b x ⟨0, ds, []⟩ n
def spSureSteps (tb : Addr) : Sp := fun vs H Q _ => ∃ z v b q ds x, vs = [v, .str x, .ref q] ∧ Bag z H ∧ q ≠ z ∧ Rep z H v (bkD b) ∧ BkOk b ∧ PDs z H q ds ∧ LdBk b ds ∧ ds.length + x.length ≤ 20000 ∧ LamTb tb H ∧
  ∀ p fv n H', But2 q tb H H' → H p = none → H' p = some (.lst fv) → (∀ j, j < n → (it0 b x ds j).at_ < x.length ∧ sureB b (it0 b x ds j).ds x (it0 b x ds j).at_ = true) → ¬ ((it0 b x ds n).at_ < x.length ∧ sureB b (it0 b x ds n).ds x (it0 b x ds n).at_ = true) → Reps z H' fv ((it0 b x ds n).ss.map stD) → PDs z H' q (it0 b x ds n).ds → Bag z H' → LamTb tb H' → Q (.ref p) H'
def spOnG (tb : Addr) : Sp := fun vs H Q _ => ∃ z v b q ds x, vs = [v, .str x, .ref q] ∧ Bag z H ∧ q ≠ z ∧ Rep z H v (bkD b) ∧ BkOk b ∧ PDs z H q ds ∧ LdBk b ds ∧ ds.length + x.length ≤ 20000 ∧ LamTb tb H ∧
  ∀ p fv n H', But2 q tb H H' → H p = none → H' p = some (.lst fv) → (∀ j, j < n → (it0 b x ds j).at_ < x.length) → (it0 b x ds n).at_ = x.length → Reps z H' fv ((it0 b x ds n).ss.map stD) → PDs z H' q (it0 b x ds n).ds → Bag z H' → LamTb tb H' → Q (.ref p) H'
structure Turned (tb : Addr) (z : Addr) (H : Hp) (b : Bk) (x : Str) (ds : List LDr) (v : V) (q pf : Addr) (n : Nat) (H3 : Hp) : Prop where
  bx : But2 q tb H H3
  bag : Bag z H3
  rep : Rep z H3 v (bkD b)
  pds : PDs z H3 q (it0 b x ds n).ds
  lam : LamTb tb H3
  fv : ∃ fv, H3 pf = some (.lst fv) ∧ Reps z H3 fv ((it0 b x ds n).ss.map stD)
theorem turn_on {tb z : Addr} {H : Hp} {b : Bk} {x : Str} {ds : List LDr} {v : V} {q pf : Addr} {n : Nat} {H3 H4 : Hp} {fv : List V} {p : Addr} (htok : ∀ t ∈ b, TgOk b.length t) (hb1 : 1 ≤ b.length) (hbk : LdBk b ds) (hlt : (it0 b x ds n).at_ < x.length)
    (hqz : q ≠ z) (hpfz : pf ≠ z) (hqf : q ≠ pf) (npf : H pf = none) (W : Turned tb z H b x ds v q pf n H3) (hf3 : H3 pf = some (.lst fv)) (RF : Reps z H3 fv ((it0 b x ds n).ss.map stD)) (s4 : But2 q tb H3 H4) (np : H3 p = none)
    (hp : H4 p = some (.tup (stV (stepL b (it0 b x ds n).ds x (it0 b x ds n).at_ (bestL b (it0 b x ds n).ds x (it0 b x ds n).at_)).1))) (D4 : PDs z H4 q (stepL b (it0 b x ds n).ds x (it0 b x ds n).at_ (bestL b (it0 b x ds n).ds x (it0 b x ds n).at_)).2) (T4 : LamTb tb H4) :
    H4 pf = some (.lst fv) ∧ Turned tb z H b x ds v q pf (n + 1) (upd H4 pf (.lst (fv ++ [.ref p]))) ∧ upd H4 pf (.lst (fv ++ [.ref p])) p = some (.tup (stV (stepL b (it0 b x ds n).ds x (it0 b x ds n).at_ (bestL b (it0 b x ds n).ds x (it0 b x ds n).at_)).1)) := by
  obtain ⟨s3, hB3, R3, D3, T3, _⟩ := W
  have iok : ItOk2 b x ds (it0 b x ds n) := it_ok (x := x) htok hb1 hbk n
  obtain ⟨p1, p2, p3, p4, p5, p6⟩ := stepL_props (ds := (it0 b x ds n).ds) (x := x) htok iok.bk hb1 hlt
  obtain ⟨dv3, hq3, _⟩ := D3
  obtain ⟨ps, ht3⟩ := T3.tbl
  have R4 := Rep.but2 hq3 ht3 s4 R3 (.tup (noL_tgs b))
  have RF4 := Reps.but2 hq3 ht3 s4 RF (noL_sts _)
  have hf4 := s4 _ _ hqf.symm (ne_of hf3 ht3 (by intro q; cases q)) hf3
  have hB4 : Bag z H4 := by
    obtain ⟨c1, c2, e⟩ := hB3
    exact ⟨c1, c2, s4 _ _ hqz.symm (ne_of e ht3 (by intro q; cases q)) e⟩
  have hpz : p ≠ z := hB3.ne np
  have ess : (it0 b x ds (n + 1)).ss = (it0 b x ds n).ss ++ [(stepL b (it0 b x ds n).ds x (it0 b x ds n).at_ (bestL b (it0 b x ds n).ds x (it0 b x ds n).at_)).1] := by show (runIt b x _ (n + 1)).ss = _; rw [it_on hlt]
  have eds : (it0 b x ds (n + 1)).ds = (stepL b (it0 b x ds n).ds x (it0 b x ds n).at_ (bestL b (it0 b x ds n).ds x (it0 b x ds n).at_)).2 := by show (runIt b x _ (n + 1)).ds = _; rw [it_on hlt]
  rw [← eds] at D4
  have rst : Rep z H4 (.ref p) (stD (stepL b (it0 b x ds n).ds x (it0 b x ds n).at_ (bestL b (it0 b x ds n).ds x (it0 b x ds n).at_)).1) := .tup hp hpz (.cons (.int _) (.cons (.int _) (.cons (.str _ (by omega)) (.cons (.int _) (.cons (.int _) .nil)))))
  refine ⟨hf4, ⟨fun b' o h1 h2 e => ?_, ?_, ?_, ?_, ?_, _, upd_same, ?_⟩, ?_⟩
  · rw [upd_ne (ne_of_none e npf)]
    exact s4 b' o h1 h2 (s3 b' o h1 h2 e)
  · obtain ⟨c1, c2, e⟩ := hB4
    exact ⟨c1, c2, by rw [upd_ne hpfz.symm]; exact e⟩
  · exact Rep.updL hf4 R4 (.tup (noL_tgs b))
  · obtain ⟨dv, hq4, RD4⟩ := D4
    exact ⟨dv, by rw [upd_ne hqf]; exact hq4, Reps.updL hf4 RD4 (noL_pds _)⟩
  · exact T4.sameX hf4 SameX.refl.upd
  · rw [ess, List.map_append]
    exact Reps.updL hf4 (RF4.append (.cons rst .nil)) ((noL_sts _).append (noL_sts [_]))
  · rw [upd_ne (ne_of hp hf4 (by intro q; cases q))]
    exact hp
section
variable {P : Program} {w : World} {K : PySem.W.Frag} {mg : Str → Option Value} {base : Heap}
theorem scOnG : FnScope ["book", "text", "doors", "told", "place", "step"] ["book", "text", "doors"] (defScope sOn) := ⟨rfl, rfl, rfl, by decide +kernel, rfl, by decide +kernel, by decide +kernel⟩
set_option maxHeartbeats 0 in
theorem ok_onG {f tb f1 : Addr} {fd fd1 : FuncData} (F : Fun K "read_on" "read_on" sOn f fd) (T : TxtB mg)
    (k1 : PySem.W.keepIn K (.ref f1) = true) (b1 : Binds K fd1 ["book", "text", "place", "doors"] []) (m1 : mg "read_step" = some (.ref f1)) (G1 : FnOk P w K mg base CX0 4 f1 fd1 ["book", "text", "place", "doors"] (spStepP tb)) : FnOk P w K mg base CX0 5 f fd ["book", "text", "doors"] (spOnG tb) := by
  refine F.ok scOnG (fun vs H Q E h => ?_) (fun cdv A outer s H vs Q E hr h => ?_)
  · obtain ⟨z, v, b, q, ds, x, rfl, _⟩ := h
    rfl
  · obtain ⟨z, v, b, q, ds, x, rfl, hB, hqz, R0, hok, hD, hbk, hx, hT, k⟩ := h
    have nd := scOnG.nd
    obtain ⟨hb1, hb6, htok, _⟩ := id hok
    refine ⟨_, pss_cons (ps_set (i := 3) nd rfl (Or.inl rfl) (pe_lst pa_nil))
      (pss_cons (ps_set (i := 4) nd rfl (Or.inl rfl) pe_int)
      (pss_cons (ps_while PassesOwn.never (pt_cmpR op_lt (pv 4) (pe_callB call_len_str (by rfl) T.len b_len (pa_cons (pv 1) pa_nil)) (nomark _))
        (pss_cons (ps_set (i := 5) nd rfl (Or.inl rfl) (pe_call G1 hr rfl m1 k1 b1 .nil pass0 (pa_cons (pv 0) (pa_cons (pv 1) (pa_cons (pv 4) (pa_cons (pv 2) pa_nil))))))
        (pss_cons (ps_expr (pe_bm PySem.F.plainAttrs_list PySem.F.slot_list_append PySem.F.type_list_append mt_append (pv 3) (pa_cons (pv 5) pa_nil)))
        (pss_one (ps_aug (i := 4) nd rfl (Or.inl rfl) (pe_ix ix_tup (pv 5) pe_int (fun _ _ => rfl)) ip_add)))))
      (pss_one (ps_ret (pv 3))))), ?_⟩
    have big := big1000
    have big2 : (100000 : Nat) ≤ sizeLine := by rw [sizeLine_eq]; decide
    refine ⟨Nat.zero_le _, fun pf npf => ?_⟩
    have s1 := Same.new (o := .lst []) npf
    have hpfz : pf ≠ z := hB.ne npf
    have hqf : q ≠ pf := ne_of_none hD.choose_spec.1 npf
    refine while_by (fun σ H3 => ∃ n u, σ = [some v, some (.str x), some (.ref q), some (.ref pf), some (.int (it0 b x ds n).at_), u] ∧ (∀ j, j < n → (it0 b x ds j).at_ < x.length) ∧ Turned tb z H b x ds v q pf n H3)
      (fun σ H3 => match σ[4]? with | some (some (V.int i)) => x.length - i.toNat | _ => 0) ⟨0, none, rfl, fun j h => absurd h (Nat.not_lt_zero _), fun b' o _ _ e => s1 b' o e, hB.same s1, R0.mono s1.x, hD.same s1, hT.same s1, [], upd_same, .nil⟩ ?_ ?_
    · rintro σ H3 ⟨n, u, rfl, hall, W⟩
      have iok : ItOk2 b x ds (it0 b x ds n) := it_ok (x := x) htok hb1 hbk n
      have hle := iok.le
      refine ⟨_, rfl, _, rfl, x, rfl, by omega, _, _, rfl, rfl, _, rfl, ?_⟩
      refine ite2 (fun hlt => ?_) (fun hlt => ?_)
      · have hlt : (it0 b x ds n).at_ < x.length := by have := of_decide_eq_true hlt; omega
        have hdl := iok.dl
        have hsl := iok.sl
        obtain ⟨s3, hB3, R3, D3, T3, fv, hf3, RF⟩ := id W
        refine ⟨_, rfl, _, rfl, _, rfl, _, rfl, z, v, b, q, (it0 b x ds n).ds, x, (it0 b x ds n).at_, rfl, hB3, hqz, R3, hok, D3, iok.bk, hlt, by omega, by omega, T3, fun p H4 s4 np hp D4 T4 => ?_⟩
        obtain ⟨hf4, W5, hp5⟩ := turn_on htok hb1 hbk hlt hqz hpfz hqf npf W hf3 RF s4 np hp D4 T4
        have hfl : fv.length = (it0 b x ds n).ss.length := by have := RF.length; simpa using this
        refine ⟨_, rfl, .inl ⟨rfl, _, SqL.of hf4⟩, _, rfl, pf, fv, _, rfl, rfl, hf4, by omega, ?_⟩
        generalize upd H4 pf (.lst (fv ++ [.ref p])) = H5 at W5 hp5
        refine ⟨_, rfl, _, rfl, p, _, 1, _, rfl, rfl, SqT.of hp5, atI_nat (j := 1) rfl, _, _, rfl, rfl, ?_⟩
        obtain ⟨p1, p2, p3, p4, p5, p6⟩ := stepL_props (ds := (it0 b x ds n).ds) (x := x) htok iok.bk hb1 hlt
        have eat : ((it0 b x ds n).at_ : Int) + (stepL b (it0 b x ds n).ds x (it0 b x ds n).at_ (bestL b (it0 b x ds n).ds x (it0 b x ds n).at_)).1.2.1 = ((it0 b x ds (n + 1)).at_ : Int) := by
          have e1 : (it0 b x ds (n + 1)).at_ = (it0 b x ds n).at_ + (stepL b (it0 b x ds n).ds x (it0 b x ds n).at_ (bestL b (it0 b x ds n).ds x (it0 b x ds n).at_)).1.2.1.toNat := by
            show (runIt b x _ (n + 1)).at_ = _
            rw [it_on hlt]
          rw [e1]
          omega
        refine ⟨⟨n + 1, some (.ref p), ?_, fun j hj => ?_, W5⟩, ?_⟩
        · show [some v, some (.str x), some (.ref q), some (.ref pf), some (V.int (((it0 b x ds n).at_ : Int) + (stepL b (it0 b x ds n).ds x (it0 b x ds n).at_ (bestL b (it0 b x ds n).ds x (it0 b x ds n).at_)).1.2.1)), some (.ref p)] = _
          rw [eat]
        · rcases Nat.lt_succ_iff_lt_or_eq.mp hj with h | h
          · exact hall j h
          · rw [h]; exact hlt
        · show x.length - (((it0 b x ds n).at_ : Int) + (stepL b (it0 b x ds n).ds x (it0 b x ds n).at_ (bestL b (it0 b x ds n).ds x (it0 b x ds n).at_)).1.2.1).toNat < x.length - ((it0 b x ds n).at_ : Int).toNat
          omega
      · have hge : (it0 b x ds n).at_ = x.length := by
          have : ¬ (((it0 b x ds n).at_ : Int) < (x.length : Int)) := fun q => hlt (decide_eq_true q)
          omega
        obtain ⟨s3, hB3, R3, D3, T3, fv, hf3, RF⟩ := W
        exact ⟨_, rfl, k pf fv n H3 s3 npf hf3 hall hge RF D3 hB3 T3⟩
    · rintro σ H3 Q1 Q2 hq ⟨v1, e1, v2, e2, x2, e3, h4, i1, i2, e5, e6, b1, e7, h⟩
      exact ⟨v1, e1, v2, e2, x2, e3, h4, i1, i2, e5, e6, b1, e7, hq _ _ h⟩
theorem scSureSteps : FnScope ["book", "part", "doors", "told", "place", "step"] ["book", "part", "doors"] (defScope sSureSteps) := ⟨rfl, rfl, rfl, by decide +kernel, rfl, by decide +kernel, by decide +kernel⟩
set_option maxHeartbeats 0 in
theorem ok_suresteps {f tb f1 f2 : Addr} {fd fd1 fd2 : FuncData} (F : Fun K "sure_steps" "sure_steps" sSureSteps f fd) (T : TxtB mg)
    (k1 : PySem.W.keepIn K (.ref f1) = true) (b1 : Binds K fd1 ["book", "text", "place", "doors"] []) (m1 : mg "read_step" = some (.ref f1)) (G1 : FnOk P w K mg base CX0 4 f1 fd1 ["book", "text", "place", "doors"] (spStepP tb))
    (k2 : PySem.W.keepIn K (.ref f2) = true) (b2 : Binds K fd2 ["book", "part", "place", "doors"] []) (m2 : mg "is_sure" = some (.ref f2)) (G2 : FnOk P w K mg base CX0 3 f2 fd2 ["book", "part", "place", "doors"] spSure) : FnOk P w K mg base CX0 5 f fd ["book", "part", "doors"] (spSureSteps tb) := by
  refine F.ok scSureSteps (fun vs H Q E h => ?_) (fun cdv A outer s H vs Q E hr h => ?_)
  · obtain ⟨z, v, b, q, ds, x, rfl, _⟩ := h
    rfl
  · obtain ⟨z, v, b, q, ds, x, rfl, hB, hqz, R0, hok, hD, hbk, hx, hT, k⟩ := h
    have nd := scSureSteps.nd
    have hr3 : Room 3 _ := hr.mono (by decide)
    obtain ⟨hb1, hb6, htok, _⟩ := id hok
    refine ⟨_, pss_cons (ps_set (i := 3) nd rfl (Or.inl rfl) (pe_lst pa_nil))
      (pss_cons (ps_set (i := 4) nd rfl (Or.inl rfl) pe_int)
      (pss_cons (ps_while PassesOwn.never (PW.pt (pw_and (pt_cmpR op_lt (pv 4) (pe_callB call_len_str (by rfl) T.len b_len (pa_cons (pv 1) pa_nil)) (nomark _)) (pw_and1 (pt_val (pe_call G2 hr3 rfl m2 k2 b2 .nil pass0 (pa_cons (pv 0) (pa_cons (pv 1) (pa_cons (pv 4) (pa_cons (pv 2) pa_nil)))))))))
        (pss_cons (ps_set (i := 5) nd rfl (Or.inl rfl) (pe_call G1 hr rfl m1 k1 b1 .nil pass0 (pa_cons (pv 0) (pa_cons (pv 1) (pa_cons (pv 4) (pa_cons (pv 2) pa_nil))))))
        (pss_cons (ps_expr (pe_bm PySem.F.plainAttrs_list PySem.F.slot_list_append PySem.F.type_list_append mt_append (pv 3) (pa_cons (pv 5) pa_nil)))
        (pss_one (ps_aug (i := 4) nd rfl (Or.inl rfl) (pe_ix ix_tup (pv 5) pe_int (fun _ _ => rfl)) ip_add)))))
      (pss_one (ps_ret (pv 3))))), ?_⟩
    have big := big1000
    have big2 : (100000 : Nat) ≤ sizeLine := by rw [sizeLine_eq]; decide
    refine ⟨Nat.zero_le _, fun pf npf => ?_⟩
    have s1 := Same.new (o := .lst []) npf
    have hpfz : pf ≠ z := hB.ne npf
    have hqf : q ≠ pf := ne_of_none hD.choose_spec.1 npf
    refine while_by (fun σ H3 => ∃ n u, σ = [some v, some (.str x), some (.ref q), some (.ref pf), some (.int (it0 b x ds n).at_), u] ∧ (∀ j, j < n → (it0 b x ds j).at_ < x.length ∧ sureB b (it0 b x ds j).ds x (it0 b x ds j).at_ = true) ∧ Turned tb z H b x ds v q pf n H3)
      (fun σ H3 => match σ[4]? with | some (some (V.int i)) => x.length - i.toNat | _ => 0) ⟨0, none, rfl, fun j h => absurd h (Nat.not_lt_zero _), fun b' o _ _ e => s1 b' o e, hB.same s1, R0.mono s1.x, hD.same s1, hT.same s1, [], upd_same, .nil⟩ ?_ ?_
    · rintro σ H3' ⟨n, u, rfl, hall, W'⟩
      have iok : ItOk2 b x ds (it0 b x ds n) := it_ok (x := x) htok hb1 hbk n
      have hle := iok.le
      refine ⟨_, rfl, _, rfl, x, rfl, by omega, _, _, rfl, rfl, _, rfl, ?_⟩
      refine ite2 (fun hlt => ?_) (fun hlt => ?_)
      · have hlt : (it0 b x ds n).at_ < x.length := by have := of_decide_eq_true hlt; omega
        have hdl := iok.dl
        have hsl := iok.sl
        obtain ⟨s3', hB3', R3', D3', T3', fv', hf3', RF'⟩ := id W'
        refine ⟨_, rfl, _, rfl, _, rfl, _, rfl, z, v, b, q, (it0 b x ds n).ds, x, (it0 b x ds n).at_, rfl, hB3', R3', hok, D3', iok.bk.ok htok, by omega, by omega, fun H3 sS => ?_⟩
        have W : Turned tb z H b x ds v q pf n H3 := ⟨fun b' o h1 h2 e => sS b' o (s3' b' o h1 h2 e), hB3'.same sS, R3'.mono sS.x, D3'.same sS, T3'.same sS, fv', sS _ _ hf3', RF'.mono sS.x⟩
        refine ⟨_, rfl, ?_⟩
        cases hsu : sureB b (it0 b x ds n).ds x (it0 b x ds n).at_ with
        | false =>
          refine iteF ?_
          obtain ⟨s3, hB3, R3, D3, T3, fv, hf3, RF⟩ := W
          exact ⟨_, rfl, k pf fv n H3 s3 npf hf3 hall (fun q => by rw [hsu] at q; exact absurd q.2 (by decide)) RF D3 hB3 T3⟩
        | true =>
          refine iteT ?_
          obtain ⟨s3, hB3, R3, D3, T3, fv, hf3, RF⟩ := id W
          refine ⟨_, rfl, _, rfl, _, rfl, _, rfl, z, v, b, q, (it0 b x ds n).ds, x, (it0 b x ds n).at_, rfl, hB3, hqz, R3, hok, D3, iok.bk, hlt, by omega, by omega, T3, fun p H4 s4 np hp D4 T4 => ?_⟩
          obtain ⟨hf4, W5, hp5⟩ := turn_on htok hb1 hbk hlt hqz hpfz hqf npf W hf3 RF s4 np hp D4 T4
          have hfl : fv.length = (it0 b x ds n).ss.length := by have := RF.length; simpa using this
          refine ⟨_, rfl, .inl ⟨rfl, _, SqL.of hf4⟩, _, rfl, pf, fv, _, rfl, rfl, hf4, by omega, ?_⟩
          generalize upd H4 pf (.lst (fv ++ [.ref p])) = H5 at W5 hp5
          refine ⟨_, rfl, _, rfl, p, _, 1, _, rfl, rfl, SqT.of hp5, atI_nat (j := 1) rfl, _, _, rfl, rfl, ?_⟩
          obtain ⟨p1, p2, p3, p4, p5, p6⟩ := stepL_props (ds := (it0 b x ds n).ds) (x := x) htok iok.bk hb1 hlt
          have eat : ((it0 b x ds n).at_ : Int) + (stepL b (it0 b x ds n).ds x (it0 b x ds n).at_ (bestL b (it0 b x ds n).ds x (it0 b x ds n).at_)).1.2.1 = ((it0 b x ds (n + 1)).at_ : Int) := by
            have e1 : (it0 b x ds (n + 1)).at_ = (it0 b x ds n).at_ + (stepL b (it0 b x ds n).ds x (it0 b x ds n).at_ (bestL b (it0 b x ds n).ds x (it0 b x ds n).at_)).1.2.1.toNat := by
              show (runIt b x _ (n + 1)).at_ = _
              rw [it_on hlt]
            rw [e1]
            omega
          refine ⟨⟨n + 1, some (.ref p), ?_, fun j hj => ?_, W5⟩, ?_⟩
          · show [some v, some (.str x), some (.ref q), some (.ref pf), some (V.int (((it0 b x ds n).at_ : Int) + (stepL b (it0 b x ds n).ds x (it0 b x ds n).at_ (bestL b (it0 b x ds n).ds x (it0 b x ds n).at_)).1.2.1)), some (.ref p)] = _
            rw [eat]
          · rcases Nat.lt_succ_iff_lt_or_eq.mp hj with h | h
            · exact hall j h
            · rw [h]; exact ⟨hlt, hsu⟩
          · show x.length - (((it0 b x ds n).at_ : Int) + (stepL b (it0 b x ds n).ds x (it0 b x ds n).at_ (bestL b (it0 b x ds n).ds x (it0 b x ds n).at_)).1.2.1).toNat < x.length - ((it0 b x ds n).at_ : Int).toNat
            omega
      · have hge : ¬ (it0 b x ds n).at_ < x.length := fun q => hlt (decide_eq_true (by omega))
        refine iteF ?_
        obtain ⟨s3, hB3, R3, D3, T3, fv, hf3, RF⟩ := W'
        exact ⟨_, rfl, k pf fv n H3' s3 npf hf3 hall (fun q => hge q.1) RF D3 hB3 T3⟩
    · rintro σ H3 Q1 Q2 hq ⟨v1, e1, v2, e2, x2, e3, h4, i1, i2, e5, e6, b1, e7, h⟩
      refine ⟨v1, e1, v2, e2, x2, e3, h4, i1, i2, e5, e6, b1, e7, ?_⟩
      cases b1 with
      | false => exact hq _ _ h
      | true =>
        obtain ⟨a1, g1, a2, g2, a3, g3, a4, g4, z', v', b', q', ds', x', j', g5, g6, g7, g8, g9, g10, g11, g12, g13⟩ := h
        refine ⟨a1, g1, a2, g2, a3, g3, a4, g4, z', v', b', q', ds', x', j', g5, g6, g7, g8, g9, g10, g11, g12, fun H' hs => ?_⟩
        obtain ⟨c, ec, h⟩ := g13 H' hs
        exact ⟨c, ec, hq _ _ h⟩
end
end T1
namespace T1
open PySem L2
abbrev mInit : Stmt := inClass sReader 0
abbrev mBegin : Stmt := inClass sReader 1
abbrev mFeed : Stmt := inClass sReader 2
abbrev mHand : Stmt := inClass sReader 4
def rdF (v : V) (rs : Str) (pl : Int) (q : Addr) : List (Str × V) := [("book", v), ("rest", .str rs), ("place", .int pl), ("doors", .ref q)]
theorem n1 : ¬ (("book" : Str) = "rest") := by decide +kernel
theorem n2 : ¬ (("book" : Str) = "place") := by decide +kernel
theorem n3 : ¬ (("book" : Str) = "doors") := by decide +kernel
theorem n4 : ¬ (("rest" : Str) = "place") := by decide +kernel
theorem n5 : ¬ (("rest" : Str) = "doors") := by decide +kernel
theorem n6 : ¬ (("place" : Str) = "doors") := by decide +kernel
theorem look_cons (f g : Str) (v : V) (r : List (Str × V)) : ((g, v) :: r).lookup f = if f = g then some v else r.lookup f := by
  rw [List.lookup_cons]
  by_cases h : f = g
  · have hb : (f == g) = true := beq_iff_eq.mpr h
    rw [hb, if_pos h]
  · have hb : (f == g) = false := beq_eq_false_iff_ne.mpr h
    rw [hb, if_neg h]
section
variable (v : V) (rs rs' : Str) (pl pl' : Int) (q q' : Addr)
theorem rd_book : (rdF v rs pl q).lookup ("book" : Str) = some v := by unfold rdF; rw [look_cons, if_pos rfl]
theorem rd_rest : (rdF v rs pl q).lookup ("rest" : Str) = some (.str rs) := by unfold rdF; rw [look_cons, if_neg (Ne.symm n1), look_cons, if_pos rfl]
theorem rd_place : (rdF v rs pl q).lookup ("place" : Str) = some (.int pl) := by unfold rdF; rw [look_cons, if_neg (Ne.symm n2), look_cons, if_neg (Ne.symm n4), look_cons, if_pos rfl]
theorem rd_doors : (rdF v rs pl q).lookup ("doors" : Str) = some (.ref q) := by unfold rdF; rw [look_cons, if_neg (Ne.symm n3), look_cons, if_neg (Ne.symm n5), look_cons, if_neg (Ne.symm n6), look_cons, if_pos rfl]
theorem rd_no {m : Str} (h1 : ¬ m = "book") (h2 : ¬ m = "rest") (h3 : ¬ m = "place") (h4 : ¬ m = "doors") : (rdF v rs pl q).lookup m = none := by unfold rdF; rw [look_cons, if_neg h1, look_cons, if_neg h2, look_cons, if_neg h3, look_cons, if_neg h4]; rfl
theorem put_rest : putF "rest" (.str rs') (rdF v rs pl q) = rdF v rs' pl q := by
  unfold rdF
  show (if ("book" : Str) = "rest" then _ else _ :: (if ("rest" : Str) = "rest" then _ else _)) = _
  rw [if_neg n1, if_pos rfl]
theorem put_place : putF "place" (.int pl') (rdF v rs pl q) = rdF v rs pl' q := by
  unfold rdF
  show (if ("book" : Str) = "place" then _ else _ :: (if ("rest" : Str) = "place" then _ else _ :: (if ("place" : Str) = "place" then _ else _))) = _
  rw [if_neg n2, if_neg n4, if_pos rfl]
theorem put_first : putF "doors" (.ref q) (putF "place" (.int pl) (putF "rest" (.str rs) (putF "book" v []))) = rdF v rs pl q := by
  show putF "doors" (.ref q) (putF "place" (.int pl) (if ("book" : Str) = "rest" then _ else _ :: [(("rest" : Str), V.str rs)])) = _
  rw [if_neg n1]
  show putF "doors" (.ref q) (if ("book" : Str) = "place" then _ else _ :: (if ("rest" : Str) = "place" then _ else _ :: [(("place" : Str), V.int pl)])) = _
  rw [if_neg n2, if_neg n4]
  show (if ("book" : Str) = "doors" then _ else _ :: (if ("rest" : Str) = "doors" then _ else _ :: (if ("place" : Str) = "doors" then _ else _ :: [(("doors" : Str), V.ref q)]))) = _
  rw [if_neg n3, if_neg n5, if_neg n6]
  rfl
end
theorem m1' : ∀ m ∈ ([("__init__" : Str), "begin_anew", "feed", "finish", "hand_out", "standing", "held"] : List Str), ¬ m = "book" ∧ ¬ m = "rest" ∧ ¬ m = "place" ∧ ¬ m = "doors" := by decide +kernel
theorem rd_meth {v : V} {rs : Str} {pl : Int} {q : Addr} {m : Str} (h : m ∈ ([("__init__" : Str), "begin_anew", "feed", "finish", "hand_out", "standing", "held"] : List Str)) : (rdF v rs pl q).lookup m = none := by
  obtain ⟨h1, h2, h3, h4⟩ := m1' m h
  exact rd_no v rs pl q h1 h2 h3 h4
structure Txt3 (K : PySem.W.Frag) (mg : Str → Option Value) (C : Addr) : Prop where
  cl : Cls K C
  nB : NoAttr K C "book"
  nR : NoAttr K C "rest"
  nP : NoAttr K C "place"
  nD : NoAttr K C "doors"
  sum : mg "sum" = none
def But3 (r q t : Addr) (H H' : Hp) : Prop := ∀ b o, b ≠ r → b ≠ q → b ≠ t → H b = some o → H' b = some o
mutual
theorem Rep.but3 {z r q t C dx : Addr} {H H' : Hp} {l : List V} {fs : List (Str × V)} {ps : Array Value} (hr : H r = some (.ins C dx fs)) (hq : H q = some (.lst l)) (ht : H t = some (.tbl ps)) (s : But3 r q t H H') : ∀ {v : V} {d : D}, Rep z H v d → NoL d → Rep z H' v d
  | _, _, .non, _ => .non
  | _, _, .bl b, _ => .bl b
  | _, _, .int i, _ => .int i
  | _, _, .str x h, _ => .str x h
  | _, _, .tup h hz r', .tup k => .tup (s _ _ (ne_of h hr (by intro q; cases q)) (ne_of h hq (by intro q; cases q)) (ne_of h ht (by intro q; cases q)) h) hz (Reps.but3 hr hq ht s r' k)
theorem Reps.but3 {z r q t C dx : Addr} {H H' : Hp} {l : List V} {fs : List (Str × V)} {ps : Array Value} (hr : H r = some (.ins C dx fs)) (hq : H q = some (.lst l)) (ht : H t = some (.tbl ps)) (s : But3 r q t H H') : ∀ {vs : List V} {ds : List D}, Reps z H vs ds → NoLs ds → Reps z H' vs ds
  | _, _, .nil, _ => .nil
  | _, _, .cons h k, .cons h' k' => .cons (Rep.but3 hr hq ht s h h') (Reps.but3 hr hq ht s k k')
end
mutual
theorem Rep.insU {z r C dx dx' : Addr} {H : Hp} {fs fs' : List (Str × V)} (hr : H r = some (.ins C dx fs)) : ∀ {v : V} {d : D}, Rep z H v d → Rep z (upd H r (.ins C dx' fs')) v d
  | _, _, .non => .non
  | _, _, .bl b => .bl b
  | _, _, .int i => .int i
  | _, _, .str x h => .str x h
  | _, _, .tup h hz r' => .tup (by rw [upd_ne (ne_of h hr (by intro q; cases q))]; exact h) hz (Reps.insU hr r')
  | _, _, .lst h hz r' => .lst (by rw [upd_ne (ne_of h hr (by intro q; cases q))]; exact h) hz (Reps.insU hr r')
theorem Reps.insU {z r C dx dx' : Addr} {H : Hp} {fs fs' : List (Str × V)} (hr : H r = some (.ins C dx fs)) : ∀ {vs : List V} {ds : List D}, Reps z H vs ds → Reps z (upd H r (.ins C dx' fs')) vs ds
  | _, _, .nil => .nil
  | _, _, .cons h k => .cons (Rep.insU hr h) (Reps.insU hr k)
end
end T1
namespace L2
open PySem PySem.Spec PyProof.Rows
theorem pe_fldB {X : Cx} {sc : Scope} {cl : List (Str × Addr)} {N' : List Str} {s : Shared} {H : Hp} {fp : List Addr} {e : Expr} {f : Str} {pos : Pos} {ta : TE} (he : PE (X.blk sc cl N' s H fp) e ta) (hb : attributeBase e f (X.blk sc cl N' s H fp).env (eval e (X.blk sc cl N' s H fp).env) = eval e (X.blk sc cl N' s H fp).env := by rfl) : PE (X.blk sc cl N' s H fp) (.Attribute e f pos) (tFld X.K ta f) := pe_fld he hb
end L2
namespace T1
open PySem L2
theorem noL_st (s : Stp) : NoL (stD s) := .tup (.cons (.int _) (.cons (.int _) (.cons (.str _) (.cons (.int _) (.cons (.int _) .nil)))))
theorem rep_st' {z p : Addr} {H : Hp} {d : Stp} (h : H p = some (.tup (stV d))) (hz : p ≠ z) (hl : d.2.2.1.length ≤ 1000) : Rep z H (.ref p) (stD d) := .tup h hz (.cons (.int _) (.cons (.int _) (.cons (.str _ hl) (.cons (.int _) (.cons (.int _) .nil)))))
theorem range_st {α : Type} (f : Stp → α) (ss : List Stp) : (List.range ss.length).map (fun i => f (ss.getD i st0)) = ss.map f := by
  refine List.ext_getElem (by simp) fun i h1 h2 => ?_
  have h3 : i < ss.length := by simpa using h2
  simp [h3]
theorem putF_len (f : Str) (v : V) : ∀ fs : List (Str × V), (putF f v fs).length ≤ fs.length + 1
  | [] => Nat.le_refl _
  | (g, x) :: r => by
    show (if g = f then (g, v) :: r else (g, x) :: putF f v r).length ≤ _
    split
    · show r.length + 1 ≤ r.length + 1 + 1
      omega
    · have := putF_len f v r
      show (putF f v r).length + 1 ≤ r.length + 1 + 1
      omega
def spBegin (C : Addr) : Sp := fun vs H Q _ => ∃ r dx fs, vs = [.ref r] ∧ H r = some (.ins C dx fs) ∧ fs.length < 900 ∧
  ∀ q H', H q = none → SameX r H H' → H' q = some (.lst []) → H' r = some (.ins C dx (putF "doors" (.ref q) (putF "place" (.int 0) (putF "rest" (.str (Str.ofString "")) fs)))) → Q .non H'
def spInit (C : Addr) : Sp := fun vs H Q _ => ∃ r v dx, vs = [.ref r, v] ∧ H r = some (.ins C dx []) ∧
  ∀ q H', H q = none → SameX r H H' → H' q = some (.lst []) → H' r = some (.ins C dx (rdF v (Str.ofString "") 0 q)) → Q .non H'
def spHand (C : Addr) : Sp := fun vs H Q _ => ∃ z r dx v rs q p fv, ∃ ss : List Stp, ∃ pl n : Nat, vs = [.ref r, .ref p] ∧ Bag z H ∧ H r = some (.ins C dx (rdF v rs pl q)) ∧ H p = some (.lst fv) ∧ Reps z H fv (ss.map stD) ∧ (ss.map (·.2.1)).sum = (n : Int) ∧ n ≤ rs.length ∧ rs.length ≤ 20000 ∧ ss.length ≤ 20000 ∧
  ∀ pn fn H', SameX r H H' → H pn = none → H' pn = some (.lst fn) → Reps z H' fn ((ss.map (mvS pl)).map stD) → H' r = some (.ins C dx (rdF v (restS rs n) ((pl + n : Nat) : Int) q)) → Q (.ref pn) H'
section
variable {P : Program} {w : World} {K : PySem.W.Frag} {mg : Str → Option Value} {base : Heap}
theorem scBegin : FnScope ["self"] ["self"] (defScope mBegin) := ⟨rfl, rfl, rfl, by decide +kernel, rfl, by decide +kernel, by decide +kernel⟩
theorem ok_begin {f C : Addr} {fd : FuncData} (F : Fun K "begin_anew" "Reader.begin_anew" mBegin f fd) (T3 : Txt3 K mg C) : FnOk P w K mg base CX0 1 f fd ["self"] (spBegin C) := by
  refine F.ok scBegin (fun vs H Q E h => ?_) (fun cdv A outer s H vs Q E hr h => ?_)
  · obtain ⟨r, dx, fs, rfl, _⟩ := h
    rfl
  · obtain ⟨r, dx, fs, rfl, hr0, hl, k⟩ := h
    refine ⟨_, pss_cons (ps_fld (pv 0) pe_str rfl) (pss_cons (ps_fld (pv 0) pe_int rfl) (pss_one (ps_fld (pv 0) (pe_lst pa_nil) rfl))), ?_⟩
    have l1 := putF_len "rest" (.str (Str.ofString "")) fs
    have l2 := putF_len "place" (.int 0) (putF "rest" (.str (Str.ofString "")) fs)
    refine ⟨_, rfl, r, C, dx, fs, rfl, hr0, T3.cl, T3.nR, by omega, _, rfl, r, C, dx, _, rfl, upd_same, T3.cl, T3.nP, by omega, Nat.zero_le _, fun q nq => ?_⟩
    have hrq : r ≠ q := ne_of_none (upd_same (H := upd H r (.ins C dx (putF "rest" (.str (Str.ofString "")) fs))) (a := r)) nq
    refine ⟨_, rfl, r, C, dx, _, rfl, by rw [upd_ne hrq]; exact upd_same, T3.cl, T3.nD, by omega, ?_⟩
    rw [upd_ne hrq.symm, upd_ne hrq.symm] at nq
    refine k q _ nq (fun b o hb e => ?_) ?_ upd_same
    · rw [upd_ne hb, upd_ne (ne_of_none e nq), upd_ne hb, upd_ne hb]
      exact e
    · rw [upd_ne hrq.symm]
      exact upd_same
theorem scInit : FnScope ["self", "book"] ["self", "book"] (defScope mInit) := ⟨rfl, rfl, rfl, by decide +kernel, rfl, by decide +kernel, by decide +kernel⟩
theorem ok_init {f C f1 : Addr} {fd fd1 : FuncData} (F : Fun K "__init__" "Reader.__init__" mInit f fd) (T3 : Txt3 K mg C) (mB : Meth K C "begin_anew" f1) (bB : Binds K fd1 ["self"] []) (G1 : FnOk P w K mg base CX0 1 f1 fd1 ["self"] (spBegin C)) : FnOk P w K mg base CX0 2 f fd ["self", "book"] (spInit C) := by
  refine F.ok scInit (fun vs H Q E h => ?_) (fun cdv A outer s H vs Q E hr h => ?_)
  · obtain ⟨r, v, dx, rfl, _⟩ := h
    rfl
  · obtain ⟨r, v, dx, rfl, hr0, k⟩ := h
    refine ⟨_, pss_cons (ps_fld (pv 0) (pv 1) rfl) (pss_one (ps_expr (pe_meth0 (pv 0) T3.cl mB G1 hr bB .nil pass0))), ?_⟩
    refine ⟨_, rfl, _, rfl, r, C, dx, [], rfl, hr0, T3.cl, T3.nB, by decide, ?_⟩
    refine ⟨_, rfl, r, dx, _, rfl, upd_same, (by rw [lookup_putF, if_neg (by decide +kernel)]; rfl), r, dx, _, rfl, upd_same, by show (1 : Nat) < 900; decide, fun q H' nq sx hq hr' => ?_⟩
    rw [put_first] at hr'
    have nq' : H q = none := by
      by_cases e : q = r
      · rw [e, upd_same] at nq
        cases nq
      · rwa [upd_ne e] at nq
    exact k q H' nq' (fun b o hb e => sx b o hb (by rw [upd_ne hb]; exact e)) hq hr'
theorem scHand : FnScope ["self", "found", "told", "many"] ["self", "found"] (defScope mHand) := ⟨rfl, rfl, rfl, by decide +kernel, rfl, by decide +kernel, by decide +kernel⟩
theorem ndSS : (["step", "self"] : List Str).Nodup := by decide +kernel
theorem ndS1 : (["step"] : List Str).Nodup := by decide +kernel
theorem b_sum : bootBuiltins "sum" = some (.builtin "sum") := by decide +kernel
set_option maxHeartbeats 0 in
theorem ok_hand {f C f1 : Addr} {fd fd1 : FuncData} (F : Fun K "hand_out" "Reader.hand_out" mHand f fd) (T : TxtB mg) (T3 : Txt3 K mg C)
    (k1 : PySem.W.keepIn K (.ref f1) = true) (b1 : Binds K fd1 ["step", "by"] []) (m1 : mg "moved" = some (.ref f1)) (G1 : FnOk P w K mg base CX0 1 f1 fd1 ["step", "by"] spMoved) : FnOk P w K mg base CX0 2 f fd ["self", "found"] (spHand C) := by
  refine F.ok scHand (fun vs H Q E h => ?_) (fun cdv A outer s H vs Q E hr h => ?_)
  · obtain ⟨z, r, dx, v, rs, q, p, fv, ss, pl, n, rfl, _⟩ := h
    rfl
  · obtain ⟨z, r, dx, v, rs, q, p, fv, ss, pl, n, rfl, hB, hr0, hp, RF, hsum, hn, hrl, hsl, k⟩ := h
    have nd := scHand.nd
    refine ⟨_, pss_cons (ps_setcomp1 (N' := ["step", "self"]) (js := [none, some 0]) (i := 2) rfl rfl nd rfl (Or.inl rfl) (blk_of (defScope mHand) (by decide +kernel)) ⟨rfl, Or.inr (Or.inl rfl), rfl, trivial⟩
          (pi_list (pv 1)) (fun cl s H fp => pg_name (i := 0) ndSS rfl (Or.inl rfl)) (fun cl s H fp => pts_nil) (fun cl s H fp => pe_call G1 hr rfl m1 k1 b1 .nil pass0 (pa_cons (pv 0) (pa_cons (pe_fldB (pv 1)) pa_nil))))
      (pss_cons (ps_set (i := 3) nd rfl (Or.inl rfl) (pe_callB (call_sum rfl) (by rfl) T3.sum b_sum (pa_cons (pe_comp1 (N' := ["step"]) (js := [none]) rfl rfl (blk_of (defScope mHand) (by decide +kernel)) trivial (pi_list (pv 1)) (fun cl s H fp => pg_name (i := 0) ndS1 rfl (Or.inl rfl)) (fun cl s H fp => pts_nil) (fun cl s H fp => pe_ix ix_tupB (pv 0) pe_int (fun _ _ => rfl))) pa_nil)))
      (pss_cons (ps_fld (pv 0) (pe_slice sl_str (pe_fld (pv 0) rfl) (po_some (pv 3)) po_none) rfl)
      (pss_cons (ps_fldaug (pv 0) (pv 3) in_add)
      (pss_one (ps_ret (pv 2)))))), ?_⟩
    have big := big1000
    have big2 : (100000 : Nat) ≤ sizeLine := by rw [sizeLine_eq]; decide
    have hfl : fv.length = ss.length := by have := RF.length; simpa using this
    refine ⟨_, rfl, p, rfl, ⟨_, SqL.of hp⟩, fun pn npn => ?_⟩
    have hppn : p ≠ pn := ne_of_none hp npn
    refine loop_repsF (z := z) (fun _ => true) (fun j => stD (mvS pl (ss.getD j st0))) (fun σ => ∃ u, σ = [u, some (.ref r)]) ⟨none, rfl⟩ npn (by omega) (itok_lst (xs := fv) (by rw [upd_ne hppn]; exact hp) hppn) (fun j => noL_st _) (fun j σ H2 Ct Cf hj ⟨w1, hw⟩ s2 hCt _ => ?_) (fun σ H2 fn s2 hC RC => ?_)
    · subst hw
      obtain ⟨ay, e, hayz, hay, hwl⟩ := rep_stV ((reps_st (t := j) RF (by omega)).mono s2.x)
      rw [e]
      dsimp only [tYes, gName]
      rw [if_pos rfl]
      refine ⟨_, rfl, _, rfl, r, C, dx, _, _, rfl, s2 _ _ hr0, T3.cl, T3.nP, rd_place v rs pl q, ay, (pl : Int), ss.getD j st0, rfl, hay, fun pm H3 s3 nm hm => ?_⟩
      exact hCt rfl _ (.ref pm) H3 ⟨_, rfl⟩ s3 (rep_st' hm ((hB.same s2).ne nm) hwl)
    · rw [List.filter_eq_self.mpr (fun _ _ => rfl), hfl, range_st (fun s => stD (mvS pl s)) ss] at RC
      have hp2 := s2 _ _ hp
      have hr2 := s2 _ _ hr0
      have RF2 := RF.mono s2.x (z := z)
      refine ⟨_, rfl, p, rfl, ⟨_, SqL.of hp2⟩, fun pS npS => ?_⟩
      have hpS : p ≠ pS := ne_of_none hp2 npS
      refine loop_new (fun j => some (V.int (ss.getD j st0).2.1)) (fun σ => ∃ u, σ = [u]) ⟨none, rfl⟩ npS (by omega) (itok_lst (xs := fv) (by rw [upd_ne hpS]; exact hp2) hpS) (fun j σ H3 C' hj ⟨w1, hw⟩ s3 hC' => ?_) (fun σ H3 s3 hC3 => ?_)
      · subst hw
        obtain ⟨ay, e, hayz, hay, hwl⟩ := rep_stV ((reps_st (t := j) RF2 (by omega)).mono s3.x)
        rw [e]
        dsimp only [tYes, gName]
        rw [if_pos rfl]
        exact ⟨_, rfl, ay, _, 1, _, rfl, rfl, SqT.of hay, atI_nat (j := 1) rfl, hC' _ _ ⟨_, rfl⟩ (Same.refl _)⟩
      · rw [flatN_map, hfl, range_st (fun s => V.int s.2.1) ss] at hC3
        have em : ss.map (fun s => V.int s.2.1) = (ss.map (·.2.1)).map V.int := by rw [List.map_map]; rfl
        rw [em] at hC3
        refine ⟨pS, _, rfl, SqL.of hC3, ?_⟩
        rw [hsum]
        have hr3 := s3 _ _ hr2
        refine ⟨_, rfl, r, C, dx, _, _, rfl, hr3, T3.cl, T3.nR, rd_rest v rs pl q, _, rfl, _, rfl, rs, rfl, by omega, _, rfl, r, C, dx, _, rfl, hr3, T3.cl, T3.nR, by show (4 : Nat) < 1000; decide, ?_⟩
        rw [put_rest]
        refine ⟨_, rfl, r, C, dx, _, _, rfl, upd_same, T3.cl, T3.nP, rd_place v _ pl q, _, rfl, _, _, rfl, rfl, dx, _, upd_same, by show (4 : Nat) < 1000; decide, ?_⟩
        rw [put_place]
        have S3 := s2.trans s3
        have hpnr : pn ≠ r := (ne_of_none hr0 npn).symm
        refine ⟨_, rfl, k pn fn _ (fun b o hb e => ?_) npn ?_ ?_ ?_⟩
        · rw [upd_ne hb, upd_ne hb]
          exact S3 b o e
        · rw [upd_ne hpnr, upd_ne hpnr]
          exact s3 _ _ hC
        · have e2 : (ss.map (mvS pl)).map stD = ss.map (fun s => stD (mvS pl s)) := by rw [List.map_map]; rfl
          rw [e2]
          exact Reps.insU upd_same (Reps.insU hr3 (RC.mono s3.x))
        · rw [upd_same]
          have e3 : ((pl : Int) + (n : Int)) = ((pl + n : Nat) : Int) := by omega
          rw [e3]
          rfl
end
end T1
namespace T1
open PySem L2
def spFeed (tb C : Addr) : Sp := fun vs H Q _ => ∃ z r dx v b rs q ds pc, ∃ pl : Nat, vs = [.ref r, .str pc] ∧ Bag z H ∧ H r = some (.ins C dx (rdF v rs pl q)) ∧ q ≠ z ∧ Rep z H v (bkD b) ∧ BkOk b ∧ PDs z H q ds ∧ LdBk b ds ∧ ds.length + (rs.length + pc.length) ≤ 20000 ∧ LamTb tb H ∧
  ∀ p fv n H', But3 r q tb H H' → H p = none → H' p = some (.lst fv) → (∀ j, j < n → (it0 b (rs ++ pc) ds j).at_ < (rs ++ pc).length ∧ sureB b (it0 b (rs ++ pc) ds j).ds (rs ++ pc) (it0 b (rs ++ pc) ds j).at_ = true) →
    ¬ ((it0 b (rs ++ pc) ds n).at_ < (rs ++ pc).length ∧ sureB b (it0 b (rs ++ pc) ds n).ds (rs ++ pc) (it0 b (rs ++ pc) ds n).at_ = true) → Reps z H' fv (((it0 b (rs ++ pc) ds n).ss.map (mvS pl)).map stD) →
    H' r = some (.ins C dx (rdF v (restS (rs ++ pc) (it0 b (rs ++ pc) ds n).at_) ((pl + (it0 b (rs ++ pc) ds n).at_ : Nat) : Int) q)) → PDs z H' q (it0 b (rs ++ pc) ds n).ds → Bag z H' → LamTb tb H' → Q (.ref p) H'
theorem lam_sameR {tb r C dx : Addr} {H H' : Hp} {fs : List (Str × V)} (hr : H r = some (.ins C dx fs)) (s : SameX r H H') (h : LamTb tb H) : LamTb tb H' := by
  rcases h with h | ⟨c', h1, h2⟩
  · exact .inl (s _ _ (ne_of h hr (by intro q; cases q)) h)
  · exact .inr ⟨c', s _ _ (ne_of h1 hr (by intro q; cases q)) h1, s _ _ (ne_of h2 hr (by intro q; cases q)) h2⟩
mutual
theorem Rep.sameR {z r C dx : Addr} {H H' : Hp} {fs : List (Str × V)} (hr : H r = some (.ins C dx fs)) (s : SameX r H H') : ∀ {v : V} {d : D}, Rep z H v d → Rep z H' v d
  | _, _, .non => .non
  | _, _, .bl b => .bl b
  | _, _, .int i => .int i
  | _, _, .str x h => .str x h
  | _, _, .tup h hz r' => .tup (s _ _ (ne_of h hr (by intro q; cases q)) h) hz (Reps.sameR hr s r')
  | _, _, .lst h hz r' => .lst (s _ _ (ne_of h hr (by intro q; cases q)) h) hz (Reps.sameR hr s r')
theorem Reps.sameR {z r C dx : Addr} {H H' : Hp} {fs : List (Str × V)} (hr : H r = some (.ins C dx fs)) (s : SameX r H H') : ∀ {vs : List V} {ds : List D}, Reps z H vs ds → Reps z H' vs ds
  | _, _, .nil => .nil
  | _, _, .cons h k => .cons (Rep.sameR hr s h) (Reps.sameR hr s k)
end
theorem bag_sameR {z r C dx : Addr} {H H' : Hp} {fs : List (Str × V)} (hr : H r = some (.ins C dx fs)) (s : SameX r H H') (h : Bag z H) : Bag z H' := by
  obtain ⟨c1, c2, e⟩ := h
  exact ⟨c1, c2, s _ _ (ne_of e hr (by intro q; cases q)) e⟩
theorem pds_sameR {z r q C dx : Addr} {H H' : Hp} {fs : List (Str × V)} {ds : List LDr} (hr : H r = some (.ins C dx fs)) (s : SameX r H H') (h : PDs z H q ds) : PDs z H' q ds := by
  obtain ⟨dv, hq, R⟩ := h
  exact ⟨dv, s _ _ (ne_of hq hr (by intro q; cases q)) hq, Reps.sameR hr s R⟩
section
variable {P : Program} {w : World} {K : PySem.W.Frag} {mg : Str → Option Value} {base : Heap}
theorem scFeed : FnScope ["self", "piece"] ["self", "piece"] (defScope mFeed) := ⟨rfl, rfl, rfl, by decide +kernel, rfl, by decide +kernel, by decide +kernel⟩
set_option maxHeartbeats 0 in
theorem ok_feed {f C tb f1 f2 : Addr} {fd fd1 fd2 : FuncData} (F : Fun K "feed" "Reader.feed" mFeed f fd) (T3 : Txt3 K mg C)
    (k1 : PySem.W.keepIn K (.ref f1) = true) (b1 : Binds K fd1 ["book", "part", "doors"] []) (m1 : mg "sure_steps" = some (.ref f1)) (G1 : FnOk P w K mg base CX0 5 f1 fd1 ["book", "part", "doors"] (spSureSteps tb))
    (mH : Meth K C "hand_out" f2) (b2 : Binds K fd2 ["self", "found"] []) (G2 : FnOk P w K mg base CX0 2 f2 fd2 ["self", "found"] (spHand C)) : FnOk P w K mg base CX0 6 f fd ["self", "piece"] (spFeed tb C) := by
  refine F.ok scFeed (fun vs H Q E h => ?_) (fun cdv A outer s H vs Q E hr h => ?_)
  · obtain ⟨z, r, dx, v, b, rs, q, ds, pc, pl, rfl, _⟩ := h
    rfl
  · obtain ⟨z, r, dx, v, b, rs, q, ds, pc, pl, rfl, hB, hr0, hqz, R0, hok, hD, hbk, hx, hT, k⟩ := h
    have hr2 : Room 2 _ := hr.mono (by decide)
    obtain ⟨hb1, hb6, htok, _⟩ := id hok
    refine ⟨_, pss_cons (ps_fldaug (pv 0) (pv 1) in_addS)
      (pss_one (ps_ret (pe_meth (pv 0) T3.cl mH G2 hr2 b2 .nil pass0 (pa_cons (pe_call G1 hr rfl m1 k1 b1 .nil pass0 (pa_cons (pe_fld (pv 0) rfl) (pa_cons (pe_fld (pv 0) rfl) (pa_cons (pe_fld (pv 0) rfl) pa_nil)))) pa_nil)))), ?_⟩
    have big2 : (100000 : Nat) ≤ sizeLine := by rw [sizeLine_eq]; decide
    refine ⟨_, rfl, r, C, dx, _, _, rfl, hr0, T3.cl, T3.nR, rd_rest v rs pl q, _, rfl, rs, pc, rfl, rfl, by omega, dx, _, hr0, by show (4 : Nat) < 1000; decide, ?_⟩
    rw [put_rest]
    have hxl : (rs ++ pc).length = rs.length + pc.length := str_len_append rs pc
    generalize hy : rs ++ pc = y at *
    have sx1 : SameX r H (upd H r (.ins C dx (rdF v y pl q))) := SameX.refl.upd
    have hr1 : upd H r (.ins C dx (rdF v y pl q)) r = some (.ins C dx (rdF v y pl q)) := upd_same
    have R1 := Rep.sameR hr0 sx1 R0
    have hB1 := bag_sameR hr0 sx1 hB
    have D1 := pds_sameR hr0 sx1 hD
    have T1 := lam_sameR hr0 sx1 hT
    have fr1 : ∀ {a : Addr}, upd H r (.ins C dx (rdF v y pl q)) a = none → H a = none := fun {a} e => by
      by_cases h : a = r
      · rw [h, upd_same] at e
        cases e
      · rwa [upd_ne h] at e
    generalize upd H r (.ins C dx (rdF v y pl q)) = H1 at sx1 hr1 R1 hB1 D1 T1 fr1
    refine ⟨_, rfl, r, dx, _, rfl, hr1, rd_meth (by simp), ?_⟩
    refine ⟨_, rfl, r, C, dx, _, _, rfl, hr1, T3.cl, T3.nB, rd_book v y pl q, _, rfl, r, C, dx, _, _, rfl, hr1, T3.cl, T3.nR, rd_rest v y pl q, _, rfl, r, C, dx, _, _, rfl, hr1, T3.cl, T3.nD, rd_doors v y pl q, ?_⟩
    refine ⟨z, v, b, q, ds, y, rfl, hB1, hqz, R1, hok, D1, hbk, by omega, T1, fun p fv n H2 s2 np hp hall hstop RF D2 hB2 T2 => ?_⟩
    obtain ⟨dv1, hq1, _⟩ := id D1
    obtain ⟨ps1, ht1⟩ := T1.tbl
    have hr2' := s2 _ _ (ne_of hr1 hq1 (by intro q; cases q)) (ne_of hr1 ht1 (by intro q; cases q)) hr1
    have iok : ItOk2 b y ds (it0 b y ds n) := it_ok (x := y) htok hb1 hbk n
    have isl := iok.sl
    have ile := iok.le
    refine ⟨z, r, dx, v, y, q, p, fv, (it0 b y ds n).ss, pl, (it0 b y ds n).at_, rfl, hB2, hr2', hp, RF, iok.sum, ile, by omega, by omega, fun pn fn H3 s3 npn hpn RN hr3 => ?_⟩
    have npn1 : H1 pn = none := by
      cases e : H1 pn with
      | none => rfl
      | some o =>
        exfalso
        by_cases h1 : pn = q
        · obtain ⟨dv2, hq2, _⟩ := D2
          rw [h1, hq2] at npn
          cases npn
        · by_cases h2 : pn = tb
          · obtain ⟨ps2, ht2⟩ := T2.tbl
            rw [h2, ht2] at npn
            cases npn
          · rw [s2 pn o h1 h2 e] at npn
            cases npn
    refine k pn fn n H3 (fun b' o h1 h2 h3 e => s3 b' o h1 (s2 b' o h2 h3 (sx1 b' o h1 e))) (fr1 npn1) hpn hall hstop RN hr3 (pds_sameR hr2' s3 D2) (bag_sameR hr2' s3 hB2) (lam_sameR hr2' s3 T2)
end
end T1
namespace T1
open PySem L2
def StepCase (b : Bk) (ds : List LDr) (x : Str) (i : Nat) (st : Stp) (ds' : List LDr) : Prop :=
  ((⟨#[x.cps.getD i 0]⟩ : Str) = (b.getD (tongueL ds).toNat tg0).1 ∧ ds' = ds ∧ ((i + 1 = x.length ∧ st = ((i : Int), 1, Str.ofString "cut", tongueL ds, (ds.length : Int))) ∨ (i + 1 < x.length ∧ st = ((i : Int), 2, Str.ofString "escape", tongueL ds, (ds.length : Int))))) ∨
  ((⟨#[x.cps.getD i 0]⟩ : Str) ≠ (b.getD (tongueL ds).toNat tg0).1 ∧ fitL b ds x i = [] ∧ ds' = ds ∧ st = ((i : Int), 1, Str.ofString "sign", tongueL ds, (ds.length : Int))) ∨
  ((⟨#[x.cps.getD i 0]⟩ : Str) ≠ (b.getD (tongueL ds).toNat tg0).1 ∧ fitL b ds x i ≠ [] ∧ ds ≠ [] ∧ bestL b ds x i = (ds.getD (ds.length - 1) ld0).2.2 ∧ ds' = ds.dropLast ∧ st = ((i : Int), ((bestL b ds x i).length : Int), Str.ofString "close", tongueL ds.dropLast, (ds.length : Int) - 1)) ∨
  ((⟨#[x.cps.getD i 0]⟩ : Str) ≠ (b.getD (tongueL ds).toNat tg0).1 ∧ fitL b ds x i ≠ [] ∧ ∃ d, (b.getD (tongueL ds).toNat tg0).2.filter (fun d => d.1 == bestL b ds x i) = [d] ∧ ds' = ds ++ [((i : Int), d.2.1, d.2.2)] ∧ st = ((i : Int), ((bestL b ds x i).length : Int), Str.ofString "open", tongueL ds, (ds.length : Int)))
theorem filter_one {m : Str} : ∀ {ds : List Dr}, (opensOf ds).Nodup → m ∈ opensOf ds → ∃ d, ds.filter (fun d => d.1 == m) = [d]
  | [], _, h => nomatch h
  | d :: r, nd, h => by
    have nd' := List.nodup_cons.mp (show (d.1 :: opensOf r).Nodup from nd)
    by_cases e : d.1 = m
    · refine ⟨d, ?_⟩
      rw [List.filter_cons_of_pos (by rw [e]; exact beq_self_eq_true _)]
      congr 1
      rw [List.filter_eq_nil_iff]
      intro c hc q
      have : c.1 = m := by simpa using q
      apply nd'.1
      rw [e, ← this]
      exact List.mem_map_of_mem hc
    · have hm : m ∈ opensOf r := by
        rcases List.mem_cons.mp (show m ∈ d.1 :: opensOf r from h) with h | h
        · exact absurd h.symm e
        · exact h
      obtain ⟨c, hc⟩ := filter_one nd'.2 hm
      exact ⟨c, by rw [List.filter_cons_of_neg (by simpa using e)]; exact hc⟩
theorem step_case {b : Bk} {ds : List LDr} {x : Str} {i : Nat} (hb : BkOk b) (hd : LdBk b ds) (hi : i < x.length) : StepCase b ds x i (stepL b ds x i (bestL b ds x i)).1 (stepL b ds x i (bestL b ds x i)).2 := by
  obtain ⟨hb1, hb6, htok, hbB⟩ := id hb
  have hok := hd.ok htok
  obtain ⟨tN, htN, htl⟩ := tongue_nat hok hb1
  have htoN : (tongueL ds).toNat = tN := by rw [htN]; rfl
  have hsm := fitL_sm (x := x) (i := i) htok hok
  have nodup : (opensOf (b.getD tN tg0).2).Nodup := by
    unfold bookB at hbB
    simp only [Bool.and_eq_true, Bool.not_eq_true'] at hbB
    exact of_decide_eq_true (List.all_eq_true.mp hbB.1.1 _ (getD_mem tg0 htl))
  unfold StepCase
  rw [htoN]
  unfold stepL
  rw [htoN]
  by_cases hc : (⟨#[x.cps.getD i 0]⟩ : Str) = (b.getD tN tg0).1
  · have hne : (b.getD tN tg0).1 ≠ Str.ofString "" := by
      rw [← hc, str_empty]
      intro q
      have := congrArg Str.length q
      have : (1 : Nat) = 0 := this
      omega
    rw [if_pos ⟨hne, hc⟩]
    refine .inl ⟨hc, ?_, ?_⟩
    · split <;> rfl
    · by_cases h1 : i + 1 = x.length
      · rw [if_pos h1]
        exact .inl ⟨h1, rfl⟩
      · rw [if_neg h1]
        exact .inr ⟨by omega, rfl⟩
  · rw [if_neg (fun q => hc q.2)]
    refine .inr ?_
    rcases best_props (l := fitL b ds x i) (fun m hm => hsm m (List.mem_filter.mp hm).1) with ⟨h1, h2⟩ | ⟨h1, h2⟩
    · have e : bestL b ds x i = Str.ofString "" := by rw [str_empty]; exact h2
      rw [if_pos e]
      exact .inl ⟨hc, h1, rfl, rfl⟩
    · have hfne : fitL b ds x i ≠ [] := fun q => by rw [q] at h1; cases h1
      have hm1 : bestL b ds x i ∈ someL b ds := (List.mem_filter.mp h1).1
      have hml := (hsm _ hm1).1
      have hne : bestL b ds x i ≠ Str.ofString "" := fun e => by
        rw [e, str_empty] at hml
        have : (1 : Nat) ≤ 0 := hml
        omega
      rw [if_neg hne]
      by_cases h3 : ds ≠ [] ∧ bestL b ds x i = (ds.getD (ds.length - 1) ld0).2.2
      · rw [if_pos h3]
        exact .inr (.inl ⟨hc, hfne, h3.1, h3.2, rfl, rfl⟩)
      · rw [if_neg h3]
        have hop : bestL b ds x i ∈ opensOf (b.getD tN tg0).2 := by
          unfold someL at hm1
          rw [htoN] at hm1
          rcases List.mem_append.mp hm1 with hm1 | hm1
          · exact hm1
          · exfalso
            obtain ⟨d, hd', e⟩ := List.mem_map.mp hm1
            apply h3
            have hpos : ds ≠ [] := fun q => by
              rw [q] at hd'
              cases hd'
            refine ⟨hpos, ?_⟩
            have hlen : 0 < ds.length := List.length_pos_iff.mpr hpos
            have : lastL ds = [ds.getD (ds.length - 1) ld0] := by
              unfold lastL
              rw [List.drop_eq_getElem_cons (by omega), List.drop_eq_nil_of_le (by omega), List.getD_eq_getElem?_getD, List.getElem?_eq_getElem (by omega)]
              rfl
            rw [this] at hd'
            rw [← e, List.mem_singleton.mp hd']
        obtain ⟨d, hd1⟩ := filter_one nodup hop
        rw [hd1]
        exact .inr (.inr ⟨hc, hfne, d, rfl, rfl, rfl⟩)
theorem run_off {b : Bk} {x : Str} {n : Nat} (h : ¬ (runF b x n).at_ < x.length) : runF b x (n + 1) = runF b x n := by
  show runStep b x (runF b x n) = _
  unfold runStep
  rw [if_neg h]
theorem run_len (b : Bk) (x : Str) : ∀ n, (runF b x n).at_ < x.length → (runF b x n).ss.length = n
  | 0, _ => rfl
  | n + 1, h => by
    by_cases hlt : (runF b x n).at_ < x.length
    · rw [run_at_ss hlt, List.length_append, run_len b x n hlt]
      rfl
    · rw [run_off hlt] at h
      exact absurd h hlt
theorem run_fix (b : Bk) (x : Str) : ∀ n, runF b x (runF b x n).ss.length = runF b x n
  | 0 => rfl
  | n + 1 => by
    by_cases hlt : (runF b x n).at_ < x.length
    · have e : (runF b x (n + 1)).ss.length = n + 1 := by
        rw [run_at_ss hlt, List.length_append, run_len b x n hlt]
        rfl
      rw [e]
    · rw [run_off hlt]
      exact run_fix b x n
end T1
namespace T1
open PySem L2
theorem app_listY (a c : Str) : (a ++ c).cps.toList = a.cps.toList ++ c.cps.toList := by
  show (a.cps ++ c.cps).toList = _
  simp
def mvL (d : Int) (l : LDr) : LDr := (l.1 + d, l.2)
theorem samePd_mv (d : Int) (ds : List LDr) : SamePd (ds.map (mvL d)) ds := by
  unfold SamePd
  rw [List.map_map]
  rfl
theorem step_mvD {b : Bk} {ds : List LDr} {x y : Str} {off j : Nat} {m : Str} (F : Fits b ds x y off j) : (stepL b (ds.map (mvL off)) x (off + j) m).2 = (stepL b ds y j m).2.map (mvL off) := by
  have hpd := samePd_mv (off : Int) ds
  have ht := hpd.tongue
  have hl := hpd.len
  have eo : ((off + j : Nat) : Int) = (j : Int) + (off : Int) := by omega
  unfold stepL
  rw [ht, F.sign, hl]
  split
  · rename_i h
    have he := F.esc h.2
    by_cases h1 : j + 1 = y.length
    · rw [if_pos h1, if_pos (he.mpr h1)]
    · rw [if_neg h1, if_neg (fun q => h1 (he.mp q))]
  · split
    · rfl
    · have hc : (ds.map (mvL off) ≠ [] ∧ m = ((ds.map (mvL off)).getD (ds.length - 1) ld0).2.2) ↔ (ds ≠ [] ∧ m = (ds.getD (ds.length - 1) ld0).2.2) := by
        rw [hpd.get]
        exact ⟨fun q => ⟨fun e => q.1 (hpd.nil.mpr e), q.2⟩, fun q => ⟨fun e => q.1 (hpd.nil.mp e), q.2⟩⟩
      by_cases h3 : ds ≠ [] ∧ m = (ds.getD (ds.length - 1) ld0).2.2
      · rw [if_pos h3, if_pos (hc.mpr h3)]
        exact List.map_dropLast.symm
      · rw [if_neg h3, if_neg (fun q => h3 (hc.mp q))]
        split
        · show ds.map (mvL off) ++ [(((off + j : Nat) : Int), _)] = (ds ++ [((j : Int), _)]).map (mvL off)
          rw [List.map_append, eo]
          rfl
        · rfl
structure RelP (off : Nat) (S0 : List Stp) (R r : RunSt) : Prop where
  at_ : R.at_ = off + r.at_
  ds : R.ds = r.ds.map (mvL off)
  ss : R.ss = S0 ++ r.ss.map (mvS off)
theorem relP_step {b : Bk} {x y : Str} {pre : List Nat} {off : Nat} {S0 : List Stp} {R r : RunSt} (hx : x.cps.toList = pre ++ y.cps.toList) (hoff : pre.length = off) (h : RelP off S0 R r) : RelP off S0 (runStep b x R) (runStep b y r) := by
  have hxl : x.length = off + y.length := by rw [← len_list, hx, List.length_append, hoff, len_list]
  by_cases hj : r.at_ < y.length
  · have F := fits_of (b := b) (ds := r.ds) (more := []) (by rw [List.append_nil]; exact hx) hoff hj (.inl rfl)
    have hpd : SamePd R.ds r.ds := by rw [h.ds]; exact samePd_mv _ _
    have hb := best_mv hpd F
    obtain ⟨s1, s2⟩ := step_mv (m := bestL b r.ds y r.at_) hpd F
    have s3 := step_mvD (m := bestL b r.ds y r.at_) F
    unfold runStep
    rw [if_pos hj, if_pos (by rw [h.at_]; omega), h.at_, hb]
    refine ⟨?_, ?_, ?_⟩
    · show off + r.at_ + _ = off + (r.at_ + _)
      rw [s1]
      show off + r.at_ + (stepL b r.ds y r.at_ (bestL b r.ds y r.at_)).1.2.1.toNat = _
      omega
    · show (stepL b R.ds x (off + r.at_) (bestL b r.ds y r.at_)).2 = _
      rw [h.ds]
      exact s3
    · show R.ss ++ [_] = _
      rw [s1, h.ss, List.map_append, List.append_assoc]
      rfl
  · have h2 : ¬ R.at_ < x.length := by rw [h.at_]; omega
    unfold runStep
    rw [if_neg hj, if_neg h2]
    exact h
theorem relP_run {b : Bk} {x y : Str} {pre : List Nat} {off : Nat} {S0 : List Stp} {R r : RunSt} (hx : x.cps.toList = pre ++ y.cps.toList) (hoff : pre.length = off) (h : RelP off S0 R r) : ∀ k, RelP off S0 (runIt b x R k) (runIt b y r k)
  | 0 => h
  | k + 1 => relP_step hx hoff (relP_run hx hoff h k)
structure Whole (b : Bk) (x : Str) (n : Nat) : Prop where
  all : ∀ j, j < n → (runF b x j).at_ < x.length ∧ sureB b (runF b x j).ds x (runF b x j).at_ = true
  at_ : (runF b x n).at_ = x.length
  ds : (runF b x n).ds = []
theorem mv0 (S : List Stp) : S.map (mvS ((0 : Nat) : Int)) = S := by
  have : ∀ s : Stp, mvS ((0 : Nat) : Int) s = s := fun s => by
    unfold mvS
    show (s.1 + 0, s.2) = s
    rw [Int.add_zero]
  rw [List.map_congr_left fun s _ => this s, List.map_id']
theorem whole_first {b : Bk} {x y : Str} {n : Nat} (h : Whole b x n) : ∀ j, j ≤ n → Rel 0 [] (runF b (x ++ y) j) (runF b x j) := fun j hj => by
  have hx : (x ++ y).cps.toList = [] ++ x.cps.toList ++ y.cps.toList := by rw [app_listY]; rfl
  have r0 : Rel 0 [] ⟨0, [], []⟩ ⟨0, [], []⟩ := ⟨rfl, rfl, rfl⟩
  have := rel_run (b := b) hx (by rfl) r0 j fun i hi => by
    rw [← runF_it]
    exact ⟨(h.all i (by omega)).1, .inr (h.all i (by omega)).2⟩
  rw [runF_it, runF_it]
  exact this
theorem whole_both {b : Bk} {x y : Str} {n : Nat} (h : Whole b x n) (k : Nat) : RelP x.length (runF b x n).ss (runF b (x ++ y) (n + k)) (runF b y k) := by
  have r1 := whole_first (y := y) h n (Nat.le_refl _)
  rw [runF_add, runF_it b y k]
  refine relP_run (pre := x.cps.toList) (app_listY x y) (len_list x) ⟨?_, ?_, ?_⟩ k
  · rw [r1.at_, h.at_]
    show 0 + _ = _ + 0
    omega
  · have := r1.pd
    rw [h.ds] at this
    exact this.nil.mpr rfl
  · rw [r1.ss, mv0]
    show [] ++ _ = _ ++ []
    rw [List.append_nil, List.nil_append]
theorem len_appY (x y : Str) : (x ++ y).length = x.length + y.length := by rw [← len_list, app_listY, List.length_append, len_list, len_list]
theorem w_esc_cut : Str.ofString "escape" ≠ Str.ofString "cut" := by decide +kernel
theorem w_sign_cut : Str.ofString "sign" ≠ Str.ofString "cut" := by decide +kernel
theorem w_close_cut : Str.ofString "close" ≠ Str.ofString "cut" := by decide +kernel
theorem w_open_cut : Str.ofString "open" ≠ Str.ofString "cut" := by decide +kernel
theorem sure_not_cut {b : Bk} {ds : List LDr} {x : Str} {i : Nat} (hb : BkOk b) (hd : LdBk b ds) (hi : i < x.length) (hs : sureB b ds x i = true) : (stepL b ds x i (bestL b ds x i)).1.2.2.1 ≠ Str.ofString "cut" := by
  have h := step_case hb hd hi
  intro e
  rcases h with ⟨h1, _, h | h⟩ | ⟨_, _, _, h⟩ | ⟨_, _, _, _, _, h⟩ | ⟨_, _, d, _, _, h⟩
  · unfold sureB at hs
    simp only [Bool.and_eq_true, Bool.not_eq_true', decide_eq_false_iff_not] at hs
    apply hs.1
    rw [← h1]
    refine str_ext ?_
    unfold restS
    rw [cut_from x (Nat.le_of_lt hi), sign_list hi, List.drop_eq_nil_of_le (by rw [len_list]; omega)]
  · rw [h.2] at e
    exact w_esc_cut e
  · rw [h] at e
    exact w_sign_cut e
  · rw [h] at e
    exact w_close_cut e
  · rw [h] at e
    exact w_open_cut e
theorem whole_uncut {b : Bk} {x : Str} (hb : BkOk b) : ∀ {n : Nat}, (∀ j, j < n → (runF b x j).at_ < x.length ∧ sureB b (runF b x j).ds x (runF b x j).at_ = true) → ∀ s ∈ (runF b x n).ss, s.2.2.1 ≠ Str.ofString "cut"
  | 0, _ => fun s hs => nomatch hs
  | n + 1, h => fun s hs => by
    have ih := whole_uncut hb (n := n) fun j hj => h j (by omega)
    obtain ⟨h1, h2⟩ := h n (Nat.lt_succ_self _)
    obtain ⟨hb1, hb6, htok, _⟩ := id hb
    rw [run_at_ss h1] at hs
    rcases List.mem_append.mp hs with hs | hs
    · exact ih s hs
    · rw [List.mem_singleton.mp hs]
      exact sure_not_cut hb (run_ok (x := x) htok hb1 n).bk h1 h2
theorem cut_both {S T : List Stp} {d : Int} (h : ∀ s ∈ S, s.2.2.1 ≠ Str.ofString "cut") : cutL (S ++ T.map (mvS d)) = (cutL T).map (mvL d) := by
  cases hT : T.length with
  | zero =>
    have e : T = [] := List.eq_nil_of_length_eq_zero hT
    subst e
    have e2 : cutL ([] : List Stp) = [] := by
      unfold cutL
      rw [if_neg (by simp)]
    rw [e2]
    show cutL (S ++ []) = []
    rw [List.append_nil]
    unfold cutL
    refine if_neg fun q => ?_
    have hp : 0 < S.length := List.length_pos_iff.mpr q.1
    refine h (S.getD (S.length - 1) st0) ?_ q.2
    rw [List.getD_eq_getElem?_getD, List.getElem?_eq_getElem (by omega)]
    exact List.getElem_mem _
  | succ m =>
    have hl : (S ++ T.map (mvS d)).getD ((S ++ T.map (mvS d)).length - 1) st0 = mvS d (T.getD (T.length - 1) st0) := by
      rw [List.length_append, List.length_map, List.getD_eq_getElem?_getD, List.getElem?_append_right (by omega), List.getElem?_map, List.getD_eq_getElem?_getD]
      have e : S.length + T.length - 1 - S.length = T.length - 1 := by omega
      rw [e, List.getElem?_eq_getElem (by omega)]
      rfl
    have hT0 : T ≠ [] := fun q => by rw [q] at hT; cases hT
    have hS0 : S ++ T.map (mvS d) ≠ [] := fun q => hT0 (List.map_eq_nil_iff.mp (List.append_eq_nil_iff.mp q).2)
    unfold cutL
    rw [hl]
    by_cases hc : (T.getD (T.length - 1) st0).2.2.1 = Str.ofString "cut"
    · rw [if_pos ⟨hS0, hc⟩, if_pos ⟨hT0, hc⟩]
      rfl
    · rw [if_neg (fun q => hc q.2), if_neg (fun q => hc q.2)]
      rfl
def mvF (d : Nat) (f : Nat × List Str) : Nat × List Str := (d + f.1, f.2)
theorem fit_mv {b : Bk} {ds ds' : List LDr} {x y : Str} {off j : Nat} (hpd : SamePd ds ds') (F : Fits b ds' x y off j) : fitL b ds x (off + j) = fitL b ds' y j := by
  unfold fitL
  rw [hpd.some]
  exact List.filter_congr fun m hm => F.fit m hm
theorem fk_first {b : Bk} {x y : Str} {n : Nat} (h : Whole b x n) : ∀ j, j ≤ n → fkL b (x ++ y) j = fkL b x j
  | 0, _ => rfl
  | j + 1, hj => by
    have r := whole_first (y := y) h j (by omega)
    obtain ⟨h1, h2⟩ := h.all j (by omega)
    have hx : (x ++ y).cps.toList = [] ++ x.cps.toList ++ y.cps.toList := by rw [app_listY]; rfl
    have F := fits_of (b := b) (ds := (runF b x j).ds) (off := 0) hx rfl h1 (.inr h2)
    have e := fit_mv r.pd F
    have ea := r.at_
    rw [Nat.zero_add] at ea e
    show fkL b (x ++ y) j ++ _ = fkL b x j ++ _
    rw [fk_first h j (by omega), ea, e]
    have h3 : (runF b x j).at_ < (x ++ y).length := by rw [len_appY]; omega
    by_cases hc : 1 < (fitL b (runF b x j).ds x (runF b x j).at_).length
    · rw [if_pos ⟨h3, hc⟩, if_pos ⟨h1, hc⟩]
    · rw [if_neg (fun q => hc q.2), if_neg (fun q => hc q.2)]
theorem fk_both {b : Bk} {x y : Str} {n : Nat} (h : Whole b x n) : ∀ k, fkL b (x ++ y) (n + k) = fkL b x n ++ (fkL b y k).map (mvF x.length)
  | 0 => by
    show fkL b (x ++ y) n = _ ++ []
    rw [List.append_nil]
    exact fk_first h n (Nat.le_refl _)
  | k + 1 => by
    have r := whole_both (y := y) h k
    have hx := app_listY x y
    show fkL b (x ++ y) (n + k) ++ (if (runF b (x ++ y) (n + k)).at_ < (x ++ y).length ∧ 1 < (fitL b (runF b (x ++ y) (n + k)).ds (x ++ y) (runF b (x ++ y) (n + k)).at_).length then [((runF b (x ++ y) (n + k)).at_, canon (fitL b (runF b (x ++ y) (n + k)).ds (x ++ y) (runF b (x ++ y) (n + k)).at_))] else []) = fkL b x n ++ (fkL b y k ++ (if (runF b y k).at_ < y.length ∧ 1 < (fitL b (runF b y k).ds y (runF b y k).at_).length then [((runF b y k).at_, canon (fitL b (runF b y k).ds y (runF b y k).at_))] else [])).map (mvF x.length)
    rw [fk_both h k, List.map_append, List.append_assoc]
    congr 1
    congr 1
    rw [r.at_, len_appY]
    by_cases h1 : (runF b y k).at_ < y.length
    · have F := fits_of (b := b) (ds := (runF b y k).ds) (more := []) (by rw [List.append_nil]; exact hx) (len_list x) h1 (.inl rfl)
      have e : fitL b (runF b (x ++ y) (n + k)).ds (x ++ y) (x.length + (runF b y k).at_) = fitL b (runF b y k).ds y (runF b y k).at_ := fit_mv (by rw [r.ds]; exact samePd_mv _ _) F
      rw [e]
      by_cases hc : 1 < (fitL b (runF b y k).ds y (runF b y k).at_).length
      · rw [if_pos ⟨by omega, hc⟩, if_pos ⟨h1, hc⟩]
        rfl
      · rw [if_neg (fun q => hc q.2), if_neg (fun q => hc q.2)]
        rfl
    · rw [if_neg (fun q => h1 (by have := q.1; omega)), if_neg (fun q => h1 q.1)]
      rfl
theorem whole_of {b : Bk} {x : Str} {n m : Nat} (hb : BkOk b) (hall : ∀ j, j < n → (runF b x j).at_ < x.length ∧ sureB b (runF b x j).ds x (runF b x j).at_ = true) (hm : (runF b x m).at_ = x.length) (he : (runF b x n).ss = (runF b x m).ss) (hd : (runF b x m).ds = []) : Whole b x n := by
  have e : runF b x n = runF b x m := by rw [← run_fix b x n, he, run_fix b x m]
  exact ⟨hall, by rw [e]; exact hm, by rw [e]; exact hd⟩
theorem stD_inj : ∀ {S T : List Stp}, S.map stD = T.map stD → S = T
  | [], [], _ => rfl
  | [], _ :: _, h => by cases h
  | _ :: _, [], h => by cases h
  | a :: S, c :: T, h => by
    rw [List.map_cons, List.map_cons] at h
    injection h with h1 h2
    rw [stD_inj h2]
    congr 1
    obtain ⟨a1, a2, a3, a4, a5⟩ := a
    obtain ⟨c1, c2, c3, c4, c5⟩ := c
    have h1 : D.tup [.int a1, .int a2, .str a3, .int a4, .int a5] = D.tup [.int c1, .int c2, .str c3, .int c4, .int c5] := h1
    simp only [D.tup.injEq, List.cons.injEq, D.int.injEq, D.str.injEq, and_true] at h1
    obtain ⟨g1, g2, g3, g4, g5⟩ := h1
    rw [g1, g2, g3, g4, g5]
theorem cmp_sts (k : Nat) : ∀ S T : List Stp, Cmps (k + 1) (S.map stD) (T.map stD)
  | [], _ => .nilL _ _
  | _ :: _, [] => .nilR _ _
  | a :: S, c :: T => .cons (.tup (.cons (.int _ _ _) (.cons (.int _ _ _) (.cons (.str _ _ _) (.cons (.int _ _ _) (.cons (.int _ _ _) (.nilL _ _))))))) (cmp_sts k S T)
end T1
namespace T1
open PySem L2
theorem seq_butX {K : PySem.W.Frag} {H H' : Hp} {a t : Addr} {xs : List V} {ps : Array Value} (ht : H t = some (.tbl ps)) (e : ButX t H H') (h : SqL K H a xs) : SqL K H' a xs := by
  rcases h with (h | ⟨o, h⟩) | h
  · exact .inl (.inl (e _ _ (ne_of h ht (by intro q; cases q)) h))
  · exact .inl (.inr ⟨o, e _ _ (ne_of h ht (by intro q; cases q)) h⟩)
  · exact .inr h
theorem run_stay {b : Bk} {x : Str} {n : Nat} (h : (runF b x n).at_ = x.length) : ∀ k, runF b x (n + k) = runF b x n
  | 0 => rfl
  | k + 1 => by
    have ih := run_stay h k
    show runStep b x (runF b x (n + k)) = _
    rw [ih]
    unfold runStep
    rw [if_neg (by omega)]
theorem run_eq {b : Bk} {x : Str} {n m : Nat} (h : (runF b x n).at_ = x.length) (h' : (runF b x m).at_ = x.length) : runF b x n = runF b x m := by
  have a := run_stay h m
  have c := run_stay h' n
  rw [← a, ← c, Nat.add_comm]
theorem dep_sts (k : Nat) : ∀ ss : List Stp, Deps (k + 1) (ss.map stD)
  | [] => .nil _
  | s :: r => .cons (.tup (.cons (.int _ _) (.cons (.int _ _) (.cons (.str _ _) (.cons (.int _ _) (.cons (.int _ _) (.nil _))))))) (dep_sts k r)
theorem cutS_le (z : Str) (k : Nat) : (cutS z none (some (k : Int))).length ≤ k := by
  unfold cutS
  show (List.toArray _).size ≤ k
  rw [HT.sIx_nat, HT.sIx_none, List.size_toArray, List.length_take]
  omega
theorem min_le {m : Nat} (l : Nat) : ∃ n : Nat, (if (m : Int) < (l : Int) then (m : Int) else (l : Int)) = (n : Int) ∧ n ≤ m := by
  by_cases h : (m : Int) < (l : Int)
  · exact ⟨m, by rw [if_pos h], Nat.le_refl _⟩
  · exact ⟨l, by rw [if_neg h], by omega⟩
end T1
namespace T1
open PySem L2
abbrev Rw := Int × List D
def rwD (r : Rw) : D := .tup (.int r.1 :: r.2)
def mvR (d : Int) (r : Rw) : Rw := (r.1 + d, r.2)
abbrev rw0 : Rw := (0, [])
def spOnR : Sp := fun vs H Q _ => ∃ z p rv, ∃ (rs : List Rw) (d : Int), vs = [.ref p, .int d] ∧ Bag z H ∧ H p = some (.lst rv) ∧ Reps z H rv (rs.map rwD) ∧ (∀ r ∈ rs, NoLs r.2 ∧ 1 ≤ r.2.length ∧ r.2.length ≤ 5) ∧ rs.length ≤ 20000 ∧
  ∀ q fv H', Same H H' → H q = none → H' q = some (.lst fv) → Reps z H' fv ((rs.map (mvR d)).map rwD) → Q (.ref q) H'
def mdP : Nat → Nat
  | 0 => 1
  | m + 1 => 8 + 3 * mdP m
def mdL (m : Nat) : Nat := 3 * mdP m
def spMade (m : Nat) : Sp := fun vs H Q _ => ∃ z v b, ∃ t : Nat, vs = [.ref z, v, .int t, .int m] ∧ Bag z H ∧ Rep z H v (bkD b) ∧ BkOk b ∧ t < b.length ∧ ∀ x H', Aft z H H' → x.length ≤ mdL m → Q (.str x) H'
theorem range_rw {α : Type} (f : Rw → α) (ss : List Rw) : (List.range ss.length).map (fun i => f (ss.getD i rw0)) = ss.map f := by
  refine List.ext_getElem (by simp) fun i h1 h2 => ?_
  have h3 : i < ss.length := by simpa using h2
  simp [h3]
section
variable {P : Program} {w : World} {K : PySem.W.Frag} {mg : Str → Option Value} {base : Heap}
theorem scOnR : FnScope ["rows", "more"] ["rows", "more"] (defScope lOn) := ⟨rfl, rfl, rfl, by decide +kernel, rfl, by decide +kernel, by decide +kernel⟩
theorem ndRM : (["row", "more"] : List Str).Nodup := by decide +kernel
set_option maxHeartbeats 0 in
theorem ok_onR {f : Addr} {fd : FuncData} (F : Fun K "_law_on" "_law_on" lOn f fd) : FnOk P w K mg base CX0 1 f fd ["rows", "more"] spOnR := by
  refine F.ok scOnR (fun vs H Q E h => ?_) (fun cdv A outer s H vs Q E hr h => ?_)
  · obtain ⟨z, p, rv, rs, d, rfl, _⟩ := h
    rfl
  · obtain ⟨z, p, rv, rs, d, rfl, hB, hp, RV, hrs, hl, k⟩ := h
    have nd := scOnR.nd
    refine ⟨_, pss_one (ps_ret (pe_comp1 (N' := ["row", "more"]) (js := [none, some 1]) rfl rfl (blk_of (defScope lOn) (by decide +kernel)) ⟨rfl, Or.inr (Or.inl rfl), rfl, trivial⟩
        (pi_list (pv 0)) (fun cl s H fp => pg_name (i := 0) ndRM rfl (Or.inl rfl)) (fun cl s H fp => pts_nil)
        (fun cl s H fp => pe_op op_catTB (pe_tup (pa_cons (pe_op op_add (pe_ix ix_tupB (pv 0) pe_int (fun _ _ => rfl)) (pv 1)) pa_nil)) (pe_slice sl_tupB (pv 0) (po_some pe_int) po_none)))), ?_⟩
    have big := big1000
    have big2 : (100000 : Nat) ≤ sizeLine := by rw [sizeLine_eq]; decide
    have hfl : rv.length = rs.length := by have := RV.length; simpa using this
    refine ⟨_, rfl, p, rfl, ⟨_, SqL.of hp⟩, fun pn npn => ?_⟩
    have hppn : p ≠ pn := ne_of_none hp npn
    have hget : ∀ j, j < rs.length → NoLs (rs.getD j rw0).2 ∧ 1 ≤ (rs.getD j rw0).2.length ∧ (rs.getD j rw0).2.length ≤ 5 := fun j hj => by
      have e : rs.getD j rw0 = rs[j] := by simp [hj]
      rw [e]
      exact hrs _ (List.getElem_mem hj)
    have hnl : ∀ j, NoL (rwD (mvR d (rs.getD j rw0))) := fun j => by
      by_cases hj : j < rs.length
      · exact .tup (.cons (.int _) (hget j hj).1)
      · have e : rs.getD j rw0 = rw0 := by simp [hj]
        rw [e]
        exact .tup (.cons (.int _) .nil)
    refine loop_repsF (z := z) (fun _ => true) (fun j => rwD (mvR d (rs.getD j rw0))) (fun σ => ∃ u, σ = [u, some (.int d)]) ⟨none, rfl⟩ npn (by omega) (itok_lst (xs := rv) (by rw [upd_ne hppn]; exact hp) hppn) hnl (fun j σ H2 Ct Cf hj ⟨w1, hw⟩ s2 hCt _ => ?_) (fun σ H2 fn s2 hC RC => ?_)
    · subst hw
      have hj2 : j < rs.length := by omega
      obtain ⟨g1, g2, g3⟩ := hget j hj2
      have Rj : Rep z H2 (rv.getD j .non) (rwD (rs.getD j rw0)) := by
        have := (RV.mono s2.x (z := z)).get (i := j) (by simp; omega)
        simpa [hj2] using this
      generalize rs.getD j rw0 = r at *
      have Rj : Rep z H2 (rv.getD j .non) (.tup (.int r.1 :: r.2)) := Rj
      generalize rv.getD j .non = vv at *
      cases Rj with
      | @tup a _ _ ha haz R =>
      cases R with
      | @cons v1 d1 vs ds r1 R =>
      cases r1
      have hvl : vs.length = r.2.length := R.length
      dsimp only [tYes, gName]
      rw [if_pos rfl]
      refine ⟨_, rfl, a, _, 0, _, rfl, rfl, SqT.of ha, atI_nat (j := 0) rfl, _, rfl, _, _, rfl, rfl, by show (1 : Nat) ≤ _; omega, fun p1 np1 => ?_⟩
      have s3 := Same.new (o := .tup [.int (r.1 + d)]) np1
      have ha3 := s3 _ _ ha
      refine ⟨_, rfl, 1, rfl, a, _, rfl, SqT.of ha3, fun q => ?_, fun p2 np2 => ?_⟩
      · have h1 := q.1
        have : HT.sIx (V.int r.1 :: vs).length 0 (some ((1 : Nat) : Int)) = 0 := h1
        rw [HT.sIx_nat, List.length_cons] at this
        omega
      · have ecut : cutV (V.int r.1 :: vs) (some 1) none = vs := by
          have e1 : HT.sIx (V.int r.1 :: vs).length 0 (some ((1 : Nat) : Int)) = 1 := by rw [HT.sIx_nat, List.length_cons]; omega
          have e1 : HT.sIx (V.int r.1 :: vs).length 0 (some (1 : Int)) = 1 := e1
          unfold cutV
          rw [e1, HT.sIx_none, List.drop_one, List.tail_cons, List.length_cons]
          exact List.take_of_length_le (by omega)
        rw [ecut]
        have s4 := Same.new (o := .tup vs) np2
        refine ⟨p1, p2, _, _, rfl, rfl, SqT.of (s4 _ _ upd_same), SqT.of upd_same, by simp, by show 1 + _ ≤ _; omega, fun h0 => ?_, fun _ p3 np3 => ?_⟩
        · rw [h0] at hvl
          simp at hvl
          omega
        · have s5 := Same.new (o := .tup ([V.int (r.1 + d)] ++ vs)) np3
          have S := (s3.trans s4).trans s5
          refine hCt rfl _ _ _ ⟨_, rfl⟩ S (.tup upd_same ?_ (.cons (.int _) (R.mono S.x)))
          exact (((hB.same s2).same s3).same s4).ne np3
    · rw [List.filter_eq_self.mpr (fun _ _ => rfl), hfl, range_rw (fun s => rwD (mvR d s)) rs] at RC
      refine k pn fn H2 s2 npn hC ?_
      have e2 : (rs.map (mvR d)).map rwD = rs.map (fun s => rwD (mvR d s)) := by rw [List.map_map]; rfl
      rw [e2]
      exact RC
theorem fn_never {k : Nat} {f : Addr} {fd : FuncData} {ps : List Str} : FnOk P w K mg base CX0 k f fd ps (fun _ _ _ _ => False) := ⟨fun _ _ _ _ h => h.elim, fun _ _ _ _ _ _ _ _ _ _ _ _ _ h => h.elim⟩
theorem scMade : FnScope ["bag", "book", "tongue", "deep", "found", "turn", "doors", "door"] ["bag", "book", "tongue", "deep"] (defScope lMade) := ⟨rfl, rfl, rfl, by decide +kernel, rfl, by decide +kernel, by decide +kernel⟩
set_option maxHeartbeats 0 in
theorem made_step {m : Nat} {f f1 : Addr} {fd fd1 : FuncData} {spr : Sp} (F : Fun K "_law_made" "_law_made" lMade f fd) (T : TxtB mg)
    (k1 : PySem.W.keepIn K (.ref f1) = true) (b1 : Binds K fd1 ["bag", "many"] []) (m1 : mg "_law_take" = some (.ref f1)) (G1 : FnOk P w K mg base CX0 1 f1 fd1 ["bag", "many"] spTake)
    (k3 : PySem.W.keepIn K (.ref f) = true) (b3 : Binds K fd ["bag", "book", "tongue", "deep"] []) (m3 : mg "_law_made" = some (.ref f)) (Gr : FnOk P w K mg base CX0 (1 + m) f fd ["bag", "book", "tongue", "deep"] spr)
    (hs : 1 ≤ m → ∀ vs H Q E, spMade (m - 1) vs H Q E → spr vs H Q E) (hm3 : m ≤ 3) : FnOk P w K mg base CX0 (1 + m + 1) f fd ["bag", "book", "tongue", "deep"] (spMade m) := by
  refine F.ok scMade (fun vs H Q E h => ?_) (fun cdv A outer s H vs Q E hr h => ?_)
  · obtain ⟨z, v, b, t, rfl, _⟩ := h
    rfl
  · obtain ⟨z, v, b, t, rfl, hB, R0, hok, ht, k⟩ := h
    have nd := scMade.nd
    have hr1 : Room 1 _ := hr.mono (by omega)
    refine ⟨_, pss_cons (ps_set (i := 4) nd rfl (Or.inl rfl) pe_str)
      (pss_cons (ps_for PassesOwn.never rfl (pi_range1 rfl T.range (pa_B (pe_op op_add pe_int (pe_call G1 hr1 rfl m1 k1 b1 .nil pass0 (pa_cons (pv 0) (pa_cons pe_int pa_nil)))) pa_nil)) (pg_name (i := 5) nd rfl (Or.inl rfl))
        (pss_cons (ps_set (i := 6) nd rfl (Or.inl rfl) (pe_ix ix_tup (pe_ix ix_tup (pv 1) (pv 2) (fun _ _ => rfl)) pe_int (fun _ _ => rfl)))
        (pss_one (ps_if (PW.pt (pw_and (pt_cmpR (op_ne_nilT hr.units0) (pv 6) (pe_tup pa_nil) (nomark _)) (pw_and1 (pt_cmpR op_gt (pv 3) pe_int (nomark _)))))
          (pss_cons (ps_set (i := 7) nd rfl (Or.inl rfl) (pe_ix ix_tup (pv 6) (pe_call G1 hr1 rfl m1 k1 b1 .nil pass0 (pa_cons (pv 0) (pa_cons (pe_callB call_len_seq (by rfl) T.len b_len (pa_cons (pv 6) pa_nil)) pa_nil))) (fun _ _ => rfl)))
          (pss_one (ps_set (i := 4) nd rfl (Or.inl rfl) (pe_op op_add_str (pe_op op_add_str (pe_op op_add_str (pv 4) (pe_ix ix_tup (pv 7) pe_int (fun _ _ => rfl))) (pe_call Gr hr rfl m3 k3 b3 .nil pass0 (pa_cons (pv 0) (pa_cons (pv 1) (pa_cons (pe_ix ix_tup (pv 7) pe_int (fun _ _ => rfl)) (pa_B (pe_op op_sub (pv 3) pe_int) pa_nil)))))) (pe_ix ix_tup (pv 7) pe_int (fun _ _ => rfl))))))
          (pss_one (ps_set (i := 4) nd rfl (Or.inl rfl) (pe_op op_add_str (pv 4) (pe_ix ix_list (pe_lst (pa_K pe_str (pa_K pe_str (pa_K pe_str pa_nil)))) (pe_call G1 hr1 rfl m1 k1 b1 .nil pass0 (pa_cons (pv 0) (pa_cons pe_int pa_nil))) (fun _ _ => rfl)))))))))
      (pss_one (ps_ret (pv 4)))), ?_⟩
    have big := big1000
    have big2 : (100000 : Nat) ≤ sizeLine := by rw [sizeLine_eq]; decide
    obtain ⟨a, xs, rfl, haz, ha, hxl, R⟩ := rep_book R0
    obtain ⟨hb1, hb6, htok, _⟩ := id hok
    obtain ⟨c, d, ys, ec, hcz, hdz, hc, hd, hyl, Ry⟩ := rep_tongue (reps_tongue (b := b) (i := t) R ht)
    have exv : xs[t]? = some (.ref c) := by
      have h1 : t < xs.length := by omega
      have h2 : xs.getD t .non = xs[t] := by simp [h1]
      rw [List.getElem?_eq_getElem h1, ← h2, ec]
    have tok := htok _ (getD_mem tg0 ht)
    have few := tok.2.1
    have hdoor := tok.2.2
    generalize hT : b.getD t tg0 = tt at *
    have A0 := Aft.refl hB
    refine ⟨_, rfl, z, 3, rfl, hB, by decide, by decide, fun r H1 hr' a1 => ?_⟩
    have A1 := A0.trans a1
    refine ⟨1, r, rfl, rfl, 1 + (r : Int), rfl, by omega, by omega, ?_⟩
    have er : (1 + (r : Int)).toNat = 1 + r := by omega
    rw [er]
    have hP1 : 1 ≤ mdP m := by
      cases m with
      | zero => exact Nat.le_refl _
      | succ m => unfold mdP; omega
    have hP2 : mdP m ≤ 131 := by
      rcases m with _ | _ | _ | _ | m
      · decide
      · decide
      · decide
      · decide
      · omega
    refine for_range (fun i σ H5 => ∃ x u5 u6 u7, σ = [some (.ref z), some (.ref a), some (.int t), some (.int m), some (.str x), u5, u6, u7] ∧ Aft z H H5 ∧ x.length ≤ i * mdP m) ⟨_, none, none, none, rfl, A1, by rw [Nat.zero_mul]; decide +kernel⟩ ?_ ?_
    · rintro i σ H5 hi ⟨x, u5, u6, u7, rfl, A5, hxl5⟩
      have ha5 := A5.1 _ _ haz ha
      have hc5 := A5.1 _ _ hcz hc
      have hd5 := A5.1 _ _ hdz hd
      have hi3 : i < 3 := by omega
      refine ⟨_, rfl, _, rfl, a, xs, t, _, rfl, rfl, SqT.of ha5, atI_nat exv, c, _, 1, _, rfl, rfl, SqT.of hc5, atI_nat (j := 1) rfl, ?_⟩
      refine ⟨_, rfl, Nat.zero_le _, fun q nq => ?_⟩
      have A6 := A5.new (o := .tup []) nq
      have hd6 := (Same.new (o := .tup []) nq) _ _ hd5
      have hq6 : upd H5 q (.tup []) q = some (.tup []) := upd_same
      generalize upd H5 q (.tup []) = H6 at A6 hd6 hq6
      refine ⟨d, q, ys, rfl, rfl, hd6, hq6, _, rfl, ?_⟩
      have fin : ∀ (y : Str) (H7 : Hp) (u6 u7 : Option V), Aft z H H7 → y.length ≤ x.length + mdP m → ∃ x' u5 u6' u7', ([some (.ref z), some (.ref a), some (.int t), some (.int m), some (.str y), some (.int (0 + i)), u6, u7] : L2.St) = [some (.ref z), some (.ref a), some (.int t), some (.int m), some (.str x'), u5, u6', u7'] ∧ Aft z H H7 ∧ x'.length ≤ (i + 1) * mdP m := fun y H7 u6 u7 A7 hy => ⟨y, _, _, _, rfl, A7, by rw [Nat.succ_mul]; omega⟩
      have hxs : x.length ≤ 3 * mdP m := Nat.le_trans hxl5 (Nat.mul_le_mul_right _ (by omega))
      have els : (3 : Nat) ≤ sizeLine ∧ ∀ p, H6 p = none → ∀ (r2 : Nat) (H7 : Hp), (r2 : Int) < 3 → Aft z (upd H6 p (.lst [.str (Str.ofString "x"), .str (Str.ofString " "), .str (Str.ofString "\n")])) H7 → ∃ y : Str, ([V.str (Str.ofString "x"), V.str (Str.ofString " "), V.str (Str.ofString "\n")] : List V)[r2]? = some (.str y) ∧ y.length = 1 ∧ H7 p = some (.lst [.str (Str.ofString "x"), .str (Str.ofString " "), .str (Str.ofString "\n")]) ∧ Aft z H H7 := ⟨by omega, fun p np r2 H7 hr2 a7 => by
        have A7 := (A6.new (o := .lst [.str (Str.ofString "x"), .str (Str.ofString " "), .str (Str.ofString "\n")]) np).trans a7
        have hp7 := a7.1 p _ (A6.2.ne np) upd_same
        obtain ⟨v1, hv1, hm1⟩ := pickH hp7 (r := r2) (by show r2 < 3; omega)
        obtain ⟨y, ey, hy⟩ : ∃ y, v1 = V.str y ∧ y.length = 1 := by
          simp only [List.mem_cons, List.not_mem_nil, or_false] at hm1
          rcases hm1 with rfl | rfl | rfl <;> exact ⟨_, rfl, by decide +kernel⟩
        subst ey
        exact ⟨y, hv1, hy, hp7, A7⟩⟩
      refine ite2 (fun hne => ?_) (fun hne => ?_)
      · refine ⟨_, rfl, _, _, rfl, rfl, _, rfl, ?_⟩
        refine ite2 (fun hm0 => ?_) (fun hm0 => ?_)
        · have hm1 : 1 ≤ m := by
            have := of_decide_eq_true hm0
            omega
          have hy0 : 0 < ys.length := by
            cases ys with
            | nil => simp at hne
            | cons _ _ => simp
          refine ⟨_, rfl, _, rfl, _, rfl, d, ys, rfl, .inr (SqT.of hd6), z, ys.length, rfl, A6.2, by omega, by omega, fun r2 H7 hr2 a7 => ?_⟩
          have A7 := A6.trans a7
          have hd7 := a7.1 _ _ hdz hd6
          have hr3 : r2 < tt.2.length := by omega
          obtain ⟨e, ee, hez, he⟩ := rep_door ((reps_door (ds := tt.2) (i := r2) Ry hr3).mono A7.1)
          have eyv : ys[r2]? = some (.ref e) := by
            have h1 : r2 < ys.length := by omega
            have h2 : ys.getD r2 .non = ys[r2] := by simp [h1]
            rw [List.getElem?_eq_getElem h1, ← h2, ee]
          obtain ⟨g1, g2, g3⟩ := hdoor _ (getD_mem dr0 hr3)
          obtain ⟨l1, l1'⟩ := markS_len g1
          obtain ⟨l3, l3'⟩ := markS_len g3
          have he : H7 e = some (.tup [.str (tt.2.getD r2 dr0).1, .int (tt.2.getD r2 dr0).2.1, .str (tt.2.getD r2 dr0).2.2]) := he
          generalize tt.2.getD r2 dr0 = dd at *
          refine ⟨d, ys, r2, _, rfl, rfl, SqT.of hd7, atI_nat eyv, ?_⟩
          obtain ⟨tN, htN, htl⟩ : ∃ tN : Nat, dd.2.1 = (tN : Int) ∧ tN < b.length := ⟨dd.2.1.toNat, by omega, by omega⟩
          refine ⟨_, rfl, _, rfl, e, _, 0, _, rfl, rfl, SqT.of he, atI_nat (j := 0) rfl, _, _, rfl, rfl, by omega, ?_⟩
          refine ⟨_, rfl, _, rfl, _, rfl, e, _, 1, _, rfl, rfl, SqT.of he, atI_nat (j := 1) rfl, _, rfl, _, _, rfl, rfl, hs hm1 _ _ _ _ ⟨z, .ref a, b, tN, ?_, A7.2, R0.mono A7.1, hok, htl, fun y H8 a8 hy => ?_⟩⟩
          · rw [htN]
            have : ((m : Int) - 1) = ((m - 1 : Nat) : Int) := by omega
            show [V.ref z, V.ref a, V.int tN, V.int ((m : Int) - 1)] = _
            rw [this]
          · have he8 := a8.1 _ _ hez he
            have e1 : (x ++ dd.1).length = x.length + dd.1.length := str_len_append _ _
            have e2 : (x ++ dd.1 ++ y).length = x.length + dd.1.length + y.length := by rw [str_len_append, e1]
            have e3 : (x ++ dd.1 ++ y ++ dd.2.2).length = x.length + dd.1.length + y.length + dd.2.2.length := by rw [str_len_append, e2]
            have hP3 : mdP m = 8 + 3 * mdP (m - 1) := by
              cases m with
              | zero => omega
              | succ m => rfl
            unfold mdL at hy
            refine ⟨_, _, rfl, rfl, by omega, _, rfl, e, _, 2, _, rfl, rfl, SqT.of he8, atI_nat (j := 2) rfl, _, _, rfl, rfl, by omega, ?_⟩
            exact fin _ _ _ _ (A7.trans a8) (by omega)
        · refine ⟨_, rfl, els.1, fun p np => ⟨_, rfl, z, 3, rfl, (A6.new np).2, by decide, by decide, fun r2 H7 hr2 a7 => ?_⟩⟩
          obtain ⟨y, hy1, hy2, hp7, A7⟩ := els.2 p np r2 H7 hr2 a7
          refine ⟨p, _, r2, _, rfl, rfl, SqL.of hp7, atI_nat hy1, _, _, rfl, rfl, by omega, ?_⟩
          exact fin _ _ _ _ A7 (by rw [str_len_append]; omega)
      · refine ⟨_, rfl, els.1, fun p np => ⟨_, rfl, z, 3, rfl, (A6.new np).2, by decide, by decide, fun r2 H7 hr2 a7 => ?_⟩⟩
        obtain ⟨y, hy1, hy2, hp7, A7⟩ := els.2 p np r2 H7 hr2 a7
        refine ⟨p, _, r2, _, rfl, rfl, SqL.of hp7, atI_nat hy1, _, _, rfl, rfl, by omega, ?_⟩
        exact fin _ _ _ _ A7 (by rw [str_len_append]; omega)
    · rintro σ H5 ⟨x, u5, u6, u7, rfl, A5, hxl5⟩
      refine ⟨_, rfl, k x H5 A5 ?_⟩
      unfold mdL
      exact Nat.le_trans hxl5 (Nat.mul_le_mul_right _ (by omega))
theorem ok_made {f f1 : Addr} {fd fd1 : FuncData} (F : Fun K "_law_made" "_law_made" lMade f fd) (T : TxtB mg)
    (k1 : PySem.W.keepIn K (.ref f1) = true) (b1 : Binds K fd1 ["bag", "many"] []) (m1 : mg "_law_take" = some (.ref f1)) (G1 : FnOk P w K mg base CX0 1 f1 fd1 ["bag", "many"] spTake)
    (k3 : PySem.W.keepIn K (.ref f) = true) (b3 : Binds K fd ["bag", "book", "tongue", "deep"] []) (m3 : mg "_law_made" = some (.ref f)) : FnOk P w K mg base CX0 5 f fd ["bag", "book", "tongue", "deep"] (spMade 3) := by
  have g0 := made_step (m := 0) F T k1 b1 m1 G1 k3 b3 m3 fn_never (fun h => absurd h (by decide)) (by decide)
  have g1 := made_step (m := 1) F T k1 b1 m1 G1 k3 b3 m3 g0 (fun _ _ _ _ _ h => h) (by decide)
  have g2 := made_step (m := 2) F T k1 b1 m1 G1 k3 b3 m3 g1 (fun _ _ _ _ _ h => h) (by decide)
  exact made_step (m := 3) F T k1 b1 m1 G1 k3 b3 m3 g2 (fun _ _ _ _ _ h => h) (by decide)
end
end T1
namespace T1
open PySem L2
def stR (s : Stp) : Rw := (s.1, [.int s.2.1, .str s.2.2.1, .int s.2.2.2.1, .int s.2.2.2.2])
def ldR (d : LDr) : Rw := (d.1, [.int d.2.1, .str d.2.2])
def fkR (f : Nat × List Str) : Rw := (f.1, [.tup (f.2.map D.str)])
theorem st_rw (S : List Stp) : S.map stD = (S.map stR).map rwD := by rw [List.map_map]; rfl
theorem ld_rw (S : List LDr) : S.map ldD = (S.map ldR).map rwD := by rw [List.map_map]; rfl
theorem fk_rw (S : List (Nat × List Str)) : S.map fkD = (S.map fkR).map rwD := by rw [List.map_map]; rfl
theorem st_mv (d : Nat) (S : List Stp) : ((S.map stR).map (mvR d)).map rwD = (S.map (mvS d)).map stD := by
  rw [List.map_map, List.map_map, List.map_map]
  rfl
theorem ld_mv (d : Nat) (S : List LDr) : ((S.map ldR).map (mvR d)).map rwD = (S.map (mvL d)).map ldD := by
  rw [List.map_map, List.map_map, List.map_map]
  rfl
theorem fk_mv (d : Nat) (S : List (Nat × List Str)) : ((S.map fkR).map (mvR d)).map rwD = (S.map (mvF d)).map fkD := by
  rw [List.map_map, List.map_map, List.map_map]
  refine List.map_congr_left fun f _ => ?_
  show D.tup [.int ((f.1 : Int) + (d : Int)), _] = D.tup [.int ((d + f.1 : Nat) : Int), _]
  have : ((f.1 : Int) + (d : Int)) = ((d + f.1 : Nat) : Int) := by omega
  rw [this]
  rfl
theorem st_fits (S : List Stp) : ∀ r ∈ S.map stR, NoLs r.2 ∧ 1 ≤ r.2.length ∧ r.2.length ≤ 5 := fun r hr => by
  obtain ⟨s, _, rfl⟩ := List.mem_map.mp hr
  exact ⟨.cons (.int _) (.cons (.str _) (.cons (.int _) (.cons (.int _) .nil))), by show (1 : Nat) ≤ 4; decide, by show (4 : Nat) ≤ 5; decide⟩
theorem ld_fits (S : List LDr) : ∀ r ∈ S.map ldR, NoLs r.2 ∧ 1 ≤ r.2.length ∧ r.2.length ≤ 5 := fun r hr => by
  obtain ⟨s, _, rfl⟩ := List.mem_map.mp hr
  exact ⟨.cons (.int _) (.cons (.str _) .nil), by show (1 : Nat) ≤ 2; decide, by show (2 : Nat) ≤ 5; decide⟩
theorem fk_fits (S : List (Nat × List Str)) : ∀ r ∈ S.map fkR, NoLs r.2 ∧ 1 ≤ r.2.length ∧ r.2.length ≤ 5 := fun r hr => by
  obtain ⟨s, _, rfl⟩ := List.mem_map.mp hr
  have : ∀ l : List Str, NoLs (l.map D.str) := fun l => by
    induction l with
    | nil => exact .nil
    | cons a r ih => exact .cons (.str _) ih
  exact ⟨.cons (.tup (this _)) .nil, by show (1 : Nat) ≤ 1; decide, by show (1 : Nat) ≤ 5; decide⟩
theorem cutL_len (S : List Stp) : (cutL S).length ≤ 1 := by
  unfold cutL
  split
  · exact Nat.le_refl _
  · exact Nat.zero_le _
def spLaw27 (K : PySem.W.Frag) (tb : Addr) : Sp := fun vs H Q _ => ∃ a, ∃ ns : List Int, vs = [.ref a] ∧ SqL K H a (ns.map V.int) ∧ LamTb tb H ∧ ∀ H', Q (.bl true) H'
section
variable {P : Program} {w : World} {K : PySem.W.Frag} {mg : Str → Option Value} {base : Heap}
theorem scLaw : FnScope ["script", "k", "bag", "book", "turn", "first", "second", "told", "both"] ["script"] (defScope lLaw) := ⟨rfl, rfl, rfl, by decide +kernel, rfl, by decide +kernel, by decide +kernel⟩
set_option maxHeartbeats 0 in
theorem ok_law {f tb C f1 f2 f3 f4 f5 f6 f7 f8 f9 g1 g2 : Addr} {fd fd1 fd2 fd3 fd4 fd5 fd6 fd7 fd8 fd9 gd1 gd2 : FuncData} (F : Fun K "law" "law" lLaw f fd) (T : TxtB mg) (T2 : Txt2 mg) (T3 : Txt3 K mg C) (hC : mg "Reader" = some (.ref C)) (M : L2.Mk K C g1)
    (k1 : PySem.W.keepIn K (.ref f1) = true) (b1 : Binds K fd1 ["script", "k"] []) (m1 : mg "_law_bag" = some (.ref f1)) (G1 : FnOk P w K mg base CX0 1 f1 fd1 ["script", "k"] (spBag K))
    (k2 : PySem.W.keepIn K (.ref f2) = true) (b2 : Binds K fd2 ["bag"] []) (m2 : mg "_law_book" = some (.ref f2)) (G2 : FnOk P w K mg base CX0 3 f2 fd2 ["bag"] spBook)
    (k3 : PySem.W.keepIn K (.ref f3) = true) (b3 : Binds K fd3 ["bag", "book", "most"] []) (m3 : mg "_law_text" = some (.ref f3)) (G3 : FnOk P w K mg base CX0 2 f3 fd3 ["bag", "book", "most"] spText)
    (k4 : PySem.W.keepIn K (.ref f4) = true) (b4 : Binds K fd4 ["bag", "book", "tongue", "deep"] []) (m4 : mg "_law_made" = some (.ref f4)) (G4 : FnOk P w K mg base CX0 5 f4 fd4 ["bag", "book", "tongue", "deep"] (spMade 3))
    (k5 : PySem.W.keepIn K (.ref f5) = true) (b5 : Binds K fd5 ["book", "text"] []) (m5 : mg "steps" = some (.ref f5)) (G5 : FnOk P w K mg base CX0 6 f5 fd5 ["book", "text"] (spStepsP tb))
    (k6 : PySem.W.keepIn K (.ref f6) = true) (b6 : Binds K fd6 ["book", "text"] []) (m6 : mg "standing" = some (.ref f6)) (G6 : FnOk P w K mg base CX0 6 f6 fd6 ["book", "text"] (spStanding tb))
    (k7 : PySem.W.keepIn K (.ref f7) = true) (b7 : Binds K fd7 ["book", "text"] []) (m7 : mg "unfinished" = some (.ref f7)) (G7 : FnOk P w K mg base CX0 6 f7 fd7 ["book", "text"] (spUnfin tb))
    (k8 : PySem.W.keepIn K (.ref f8) = true) (b8 : Binds K fd8 ["book", "text"] []) (m8 : mg "forks" = some (.ref f8)) (G8 : FnOk P w K mg base CX0 5 f8 fd8 ["book", "text"] (spForks tb))
    (k9 : PySem.W.keepIn K (.ref f9) = true) (b9 : Binds K fd9 ["rows", "more"] []) (m9 : mg "_law_on" = some (.ref f9)) (G9 : FnOk P w K mg base CX0 1 f9 fd9 ["rows", "more"] spOnR)
    (c1 : Binds K gd1 ["self", "book"] []) (I1 : FnOk P w K mg base CX0 2 g1 gd1 ["self", "book"] (spInit C))
    (n2 : Meth K C "feed" g2) (c2 : Binds K gd2 ["self", "piece"] []) (I2 : FnOk P w K mg base CX0 6 g2 gd2 ["self", "piece"] (spFeed tb C)) : FnOk P w K mg base CX0 7 f fd ["script"] (spLaw27 K tb) := by
  refine F.ok scLaw (fun vs H Q E h => ?_) (fun cdv A outer s H vs Q E hr h => ?_)
  · obtain ⟨a, ns, rfl, _⟩ := h
    rfl
  · obtain ⟨a, ns, rfl, hS, hT, k⟩ := h
    have nd := scLaw.nd
    have hr1 : Room 1 _ := hr.mono (by decide)
    have hr2 : Room 2 _ := hr.mono (by decide)
    have hr3 : Room 3 _ := hr.mono (by decide)
    have hr5 : Room 5 _ := hr.mono (by decide)
    refine ⟨_, pss_cons (ps_for PassesOwn.never rfl (pi_range1 rfl T.range (pa_B (pe_op op_add (pe_callB (call_min2 rfl) (by rfl) T2.min b_min (pa_cons (pe_callB call_len_seq (by rfl) T.len b_len (pa_cons (pv 0) pa_nil)) (pa_K pe_int pa_nil))) pe_int) pa_nil)) (pg_name (i := 1) nd rfl (Or.inl rfl))
        (pss_cons (ps_set (i := 2) nd rfl (Or.inl rfl) (pe_call G1 hr1 rfl m1 k1 b1 .nil pass0 (pa_cons (pv 0) (pa_cons (pv 1) pa_nil))))
        (pss_cons (ps_set (i := 3) nd rfl (Or.inl rfl) (pe_call G2 hr3 rfl m2 k2 b2 .nil pass0 (pa_cons (pv 2) pa_nil)))
        (pss_one (ps_for PassesOwn.never rfl (pi_range1 rfl T.range (pa_K pe_int pa_nil)) (pg_name (i := 4) nd rfl (Or.inl rfl))
          (pss_cons (ps_set (i := 5) nd rfl (Or.inl rfl) (pe_slice sl_str (pe_call G4 hr5 rfl m4 k4 b4 .nil pass0 (pa_cons (pv 2) (pa_cons (pv 3) (pa_K pe_int (pa_K pe_int pa_nil))))) po_none (po_some pe_int)))
          (pss_cons (ps_set (i := 6) nd rfl (Or.inl rfl) (pe_call G3 hr2 rfl m3 k3 b3 .nil pass0 (pa_cons (pv 2) (pa_cons (pv 3) (pa_K pe_int pa_nil)))))
          (pss_cons (ps_set (i := 7) nd rfl (Or.inl rfl) (pe_call G5 hr rfl m5 k5 b5 .nil pass0 (pa_cons (pv 3) (pa_cons (pv 5) pa_nil))))
          (pss_one (ps_if (PW.pt (pw_and (pt_cmpR (op_eqT hr5) (pe_call G6 hr rfl m6 k6 b6 .nil pass0 (pa_cons (pv 3) (pa_cons (pv 5) pa_nil))) (pe_tup pa_nil) (nomark _))
              (pw_and1 (pt_cmpR (op_eqL hr5) (pe_meth (pe_make M I1 hr3 rfl hC c1 .nil pass0 (pa_cons (pv 3) pa_nil)) T3.cl n2 I2 hr c2 .nil pass0 (pa_cons (pv 5) pa_nil)) (pv 7) (nomark _)))))
            (pss_cons (ps_set (i := 8) nd rfl (Or.inl rfl) (pe_op op_add_str (pv 5) (pv 6)))
            (pss_cons (ps_if (pt_cmpR (op_ne_same hr5) (pe_call G5 hr rfl m5 k5 b5 .nil pass0 (pa_cons (pv 3) (pa_cons (pv 8) pa_nil))) (pe_op op_cat (pv 7) (pe_call G9 hr1 rfl m9 k9 b9 .nil pass0 (pa_cons (pe_call G5 hr rfl m5 k5 b5 .nil pass0 (pa_cons (pv 3) (pa_cons (pv 6) pa_nil))) (pa_cons (pe_callB call_len_str (by rfl) T.len b_len (pa_cons (pv 5) pa_nil)) pa_nil)))) (nomark _)) (pss_one (ps_ret pe_bl)) pss_nil)
            (pss_cons (ps_if (pt_cmpR (op_ne_same hr5) (pe_call G7 hr rfl m7 k7 b7 .nil pass0 (pa_cons (pv 3) (pa_cons (pv 8) pa_nil))) (pe_call G9 hr1 rfl m9 k9 b9 .nil pass0 (pa_cons (pe_call G7 hr rfl m7 k7 b7 .nil pass0 (pa_cons (pv 3) (pa_cons (pv 6) pa_nil))) (pa_cons (pe_callB call_len_str (by rfl) T.len b_len (pa_cons (pv 5) pa_nil)) pa_nil))) (nomark _)) (pss_one (ps_ret pe_bl)) pss_nil)
            (pss_one (ps_if (pt_cmpR (op_ne_same hr5) (pe_call G8 hr5 rfl m8 k8 b8 .nil pass0 (pa_cons (pv 3) (pa_cons (pv 8) pa_nil))) (pe_op op_cat (pe_call G8 hr5 rfl m8 k8 b8 .nil pass0 (pa_cons (pv 3) (pa_cons (pv 5) pa_nil))) (pe_call G9 hr1 rfl m9 k9 b9 .nil pass0 (pa_cons (pe_call G8 hr5 rfl m8 k8 b8 .nil pass0 (pa_cons (pv 3) (pa_cons (pv 6) pa_nil))) (pa_cons (pe_callB call_len_str (by rfl) T.len b_len (pa_cons (pv 5) pa_nil)) pa_nil)))) (nomark _)) (pss_one (ps_ret pe_bl)) pss_nil))))) pss_nil))))))))))
      (pss_one (ps_ret pe_bl)), ?_⟩
    have big := big1000
    have big2 : (100000 : Nat) ≤ sizeLine := by rw [sizeLine_eq]; decide
    obtain ⟨n, en, hn⟩ := min_le (m := 30) (ns.map V.int).length
    obtain ⟨ps0, ht0⟩ := hT.tbl
    refine ⟨_, rfl, a, _, rfl, .inl hS, _, _, rfl, _, _, rfl, rfl, (n : Int) + 2, ?_, by omega, by omega, ?_⟩
    · rw [← en]
      rfl
    refine for_range (fun i σ H2 => ∃ u1 u2 u3 u4 u5 u6 u7 u8, σ = [some (.ref a), u1, u2, u3, u4, u5, u6, u7, u8] ∧ ButX tb H H2 ∧ LamTb tb H2) ⟨none, none, none, none, none, none, none, none, rfl, fun _ _ _ e => e, hT⟩ ?_ ?_
    · rintro i σ H0 hi ⟨u1, u2, u3, u4, u5, u6, u7, u8, rfl, s0, hT0⟩
      have hi' : i < n + 2 := by omega
      refine ⟨_, rfl, _, rfl, a, ns, i, by simp, seq_butX ht0 s0 hS, by omega, fun z H1 nz s1 hB1 => ?_⟩
      have hT1 := hT0.same s1
      refine ⟨_, rfl, z, rfl, hB1, fun v b H2 A2 Rb okb => ?_⟩
      obtain ⟨e1, e2, hz1⟩ := id hB1
      have hT2 := hT1.sameX hz1 A2.1
      have S2 : But2 z tb H0 H2 := fun b' o h1 _ e => A2.1 b' o h1 (s1 b' o e)
      have hB2 := A2.2
      clear A2 hz1 hT1 s1 hB1
      obtain ⟨hb1, hb6, htok, _⟩ := id okb
      obtain ⟨e3, e4, hz2⟩ := id hB2
      obtain ⟨ps2, ht2⟩ := hT2.tbl
      refine ⟨3, rfl, by decide, by decide, ?_⟩
      refine for_range (fun e σ H3 => ∃ u4 u5 u6 u7 u8, σ = [some (.ref a), some (.int (0 + i)), some (.ref z), some v, u4, u5, u6, u7, u8] ∧ But2 z tb H2 H3 ∧ Bag z H3 ∧ LamTb tb H3) ⟨_, _, _, _, _, rfl, fun _ _ _ _ e => e, hB2, hT2⟩ ?_ ?_
      · rintro e σ H3 he ⟨w4, w5, w6, w7, w8, rfl, S3, hB3, hT3⟩
        have R3 := Rep.but2 hz2 ht2 S3 Rb (.tup (noL_tgs b))
        refine ⟨_, rfl, _, rfl, z, v, b, 0, rfl, hB3, R3, okb, by omega, fun x0 H4 A4 hx0 => ?_⟩
        have hx0 : x0.length ≤ 393 := hx0
        refine ⟨_, rfl, x0, rfl, by omega, ?_⟩
        obtain ⟨x, ex, hx⟩ : ∃ x, cutS x0 none (some (300 : Int)) = x ∧ x.length ≤ 300 := ⟨_, rfl, cutS_le x0 300⟩
        rw [ex]
        obtain ⟨e5, e6, hz3⟩ := id hB3
        have hT4 := hT3.sameX hz3 A4.1
        have R4 := R3.mono A4.1
        have S4 : But2 z tb H2 H4 := fun b' o h1 h2 e => A4.1 b' o h1 (S3 b' o h1 h2 e)
        have hB4 := A4.2
        clear A4 hz3 hT3 hB3 S3 R3
        refine ⟨_, rfl, _, rfl, z, v, b, 30, rfl, hB4, R4, okb, by decide, by decide, fun y H5 A5 hy => ?_⟩
        obtain ⟨e7, e8, hz4⟩ := id hB4
        have hT5 := hT4.sameX hz4 A5.1
        have R5 := R4.mono A5.1
        have S5 : But2 z tb H2 H5 := fun b' o h1 h2 e => A5.1 b' o h1 (S4 b' o h1 h2 e)
        have hB5 := A5.2
        clear A5 hz4 hT4 hB4 S4 R4
        -- told
        refine ⟨_, rfl, _, rfl, z, v, b, x, rfl, hB5, R5, okb, by omega, hT5, fun pt tv m H6 bx6 npt hpt hatm RT hB6 hT6 => ?_⟩
        obtain ⟨ps5, ht5⟩ := hT5.tbl
        have R6 := Rep.butT ht5 bx6 R5
        have S6 : But2 z tb H2 H6 := fun b' o h1 h2 e => bx6 b' o h2 (S5 b' o h1 h2 e)
        have hptz : pt ≠ z := hB5.ne npt
        clear bx6 ht5 hT5 hB5 S5 R5 npt
        have fin : ∀ (H9 : Hp) (u8 : Option V), But2 z tb H2 H9 → Bag z H9 → LamTb tb H9 → ∃ u4 u5 u6 u7 u8', ([some (.ref a), some (.int (0 + i)), some (.ref z), some v, some (.int (0 + e)), some (.str x), some (.str y), some (.ref pt), u8] : L2.St) = [some (.ref a), some (.int (0 + i)), some (.ref z), some v, u4, u5, u6, u7, u8'] ∧ But2 z tb H2 H9 ∧ Bag z H9 ∧ LamTb tb H9 := fun H9 u8 g1 g2 g3 => ⟨_, _, _, _, _, rfl, g1, g2, g3⟩
        -- standing
        refine ⟨_, rfl, _, rfl, z, v, b, x, rfl, hB6, R6, okb, by omega, hT6, fun pd m' H7 bx7 npd hatm' RD hB7 hT7 => ?_⟩
        obtain ⟨ps6, ht6⟩ := hT6.tbl
        have R7 := Rep.butT ht6 bx7 R6
        have S7 : But2 z tb H2 H7 := fun b' o h1 h2 e => bx7 b' o h2 (S6 b' o h1 h2 e)
        have hpt7 := bx7 _ _ (ne_of hpt ht6 (by intro q; cases q)) hpt
        have RT7 := Reps.butT ht6 bx7 RT
        rw [run_eq hatm' hatm] at RD
        clear bx7 ht6 hT6 hB6 S6 R6 hpt RT npd
        refine ⟨Nat.zero_le _, fun p0 np0 => ?_⟩
        have s8 := Same.new (o := .tup []) np0
        have hp0z : p0 ≠ z := hB7.ne np0
        refine ⟨z, z, _, [], RD.mono s8.x, .tup upd_same hp0z .nil, .nilR _ _, _, rfl, ?_⟩
        have R8 := R7.mono s8.x (z := z)
        have S8 : But2 z tb H2 (upd H7 p0 (.tup [])) := fun b' o h1 h2 e => s8 b' o (S7 b' o h1 h2 e)
        have hpt8 := s8 _ _ hpt7
        have RT8 := RT7.mono s8.x (z := z)
        have hB8 := hB7.same s8
        have hT8 := hT7.same s8
        generalize upd H7 p0 (.tup []) = H8 at s8 R8 S8 hpt8 RT8 hB8 hT8
        clear RD s8 hB7 hT7 S7 R7 hpt7 RT7 np0
        refine ite2 (fun hd => ?_) (fun hd => ?_)
        case' refine_2 => exact iteF (fin _ _ S8 hB8 hT8)
        have hds : (runF b x m).ds = [] := List.map_eq_nil_iff.mp (eqDs_eq hd)
        -- a reader
        refine ⟨_, rfl, fun r dx nr ndx ndr => ?_⟩
        have sm1 : Same H8 (upd H8 dx (.own r)) := Same.new ndx
        have nr1 : upd H8 dx (.own r) r = none := by rw [upd_ne ndr.symm]; exact nr
        have sm : Same H8 (upd (upd H8 dx (.own r)) r (.ins C dx [])) := sm1.trans (Same.new nr1)
        refine ⟨r, v, dx, rfl, upd_same, fun q H9 nq0 sx9 hq9 hr9 => ⟨rfl, ?_⟩⟩
        have nq8 : H8 q = none := sm.free nq0
        have sm9 : Same H8 H9 := fun b' o e => sx9 b' o (ne_of_none e nr) (sm b' o e)
        have R9 := R8.mono sm9.x (z := z)
        have hB9 := hB8.same sm9
        have hT9 := hT8.same sm9
        have hpt9 := sm9 _ _ hpt8
        have RT9 := RT8.mono sm9.x (z := z)
        have hqz : q ≠ z := hB8.ne nq8
        have hptq : pt ≠ q := ne_of_none hpt8 nq8
        have hbk0 : LdBk b [] := by intro d hd; cases hd
        have e0 : (Str.ofString "").length = 0 := by decide +kernel
        have ey0 : Str.ofString "" ++ x = x := str_ext (by rw [app_listY, str_empty]; rfl)
        refine ⟨r, dx, _, rfl, hr9, rd_meth (by simp), _, rfl, ?_⟩
        refine ⟨z, r, dx, v, b, Str.ofString "", q, [], x, 0, rfl, hB9, hr9, hqz, R9, okb, ⟨[], hq9, .nil⟩, hbk0, by rw [e0]; show 0 + (0 + _) ≤ _; omega, hT9, fun p3 fv3 k3 H10 bx10 np3 hp3 hall3 hstop3 RN3 _ _ hB10 hT10 => ?_⟩
        rw [ey0] at hall3 RN3
        have eit : ∀ j, it0 b x [] j = runF b x j := fun j => (runF_it b x j).symm
        have hall : ∀ j, j < k3 → (runF b x j).at_ < x.length ∧ sureB b (runF b x j).ds x (runF b x j).at_ = true := fun j hj => by rw [← eit]; exact hall3 j hj
        rw [eit, mv0] at RN3
        obtain ⟨ps9, ht9⟩ := hT9.tbl
        have R10 := Rep.but3 hr9 hq9 ht9 bx10 R9 (.tup (noL_tgs b))
        have hpt10 := bx10 _ _ (ne_of hpt9 hr9 (by intro q; cases q)) hptq (ne_of hpt9 ht9 (by intro q; cases q)) hpt9
        have RT10 := Reps.but3 hr9 hq9 ht9 bx10 RT9 (noL_sts _)
        have S10 : But2 z tb H2 H10 := fun b' o h1 h2 e => by
          have e8 := S8 b' o h1 h2 e
          exact bx10 b' o (ne_of_none e8 nr) (ne_of_none e8 nq8) h2 (sm9 b' o e8)
        have hp3z : p3 ≠ z := hB9.ne np3
        clear hall3 hstop3 bx10 ht9 hq9 hr9 hB9 hT9 hpt9 RT9 R9 sm9 sx9 sm sm1 nr1 hB8 hT8 R8 S8 hpt8 RT8 nq0 nq8 np3
        refine ⟨_, rfl, z, z, _, _, .lst hp3 hp3z RN3, .lst hpt10 hptz RT10, cmp_sts 3 _ _, _, rfl, ?_⟩
        refine ite2 (fun hq => ?_) (fun hq => ?_)
        case' refine_2 => exact fin _ _ S10 hB10 hT10
        have W := whole_of okb hall hatm (stD_inj (eqDs_eq hq)) hds
        have hss : (runF b x k3).ss = (runF b x m).ss := stD_inj (eqDs_eq hq)
        rw [← hss] at RT10
        clear hq hd hp3 RN3 hall hatm hds hss
        refine ⟨_, rfl, _, rfl, _, _, rfl, rfl, by omega, ?_⟩
        have hxy : (x ++ y).length = x.length + y.length := len_appY x y
        -- both: steps
        refine ⟨_, rfl, _, rfl, z, v, b, x ++ y, rfl, hB10, R10, okb, by omega, hT10, fun pa fa na H11 bx11 npa hpa hata RA hB11 hT11 => ?_⟩
        obtain ⟨ps10, ht10⟩ := hT10.tbl
        have R11 := Rep.butT ht10 bx11 R10
        have S11 : But2 z tb H2 H11 := fun b' o h1 h2 e => bx11 b' o h2 (S10 b' o h1 h2 e)
        have hpt11 := bx11 _ _ (ne_of hpt10 ht10 (by intro q; cases q)) hpt10
        have RT11 := Reps.butT ht10 bx11 RT10
        have hpaz : pa ≠ z := hB10.ne npa
        clear bx11 ht10 hB10 hT10 R10 S10 hpt10 RT10 npa
        refine ⟨_, rfl, _, rfl, _, rfl, z, v, b, y, rfl, hB11, R11, okb, by omega, hT11, fun pc fc nc H12 bx12 npc hpc hatc RC hB12 hT12 => ?_⟩
        obtain ⟨ps11, ht11⟩ := hT11.tbl
        have R12 := Rep.butT ht11 bx12 R11
        have S12 : But2 z tb H2 H12 := fun b' o h1 h2 e => bx12 b' o h2 (S11 b' o h1 h2 e)
        have hpt12 := bx12 _ _ (ne_of hpt11 ht11 (by intro q; cases q)) hpt11
        have RT12 := Reps.butT ht11 bx12 RT11
        have RA12 : Rep z H12 (.ref pa) (.lst _) := Rep.butT ht11 bx12 (.lst hpa hpaz RA)
        clear bx12 ht11 hB11 hT11 R11 S11 hpt11 RT11 npc hpa RA
        have B := whole_both (y := y) W nc
        have hatB : (runF b (x ++ y) (k3 + nc)).at_ = (x ++ y).length := by rw [B.at_, hatc, hxy]
        rw [run_eq hata hatB, B.ss] at RA12
        have rokc := run_ok (x := y) htok hb1 nc
        have slc := rokc.sl
        have dlc := rokc.dl
        rw [hatc] at slc dlc
        have rokk := run_ok (x := x) htok hb1 k3
        have slk := rokk.sl
        rw [W.at_] at slk
        have htvl : tv.length = (runF b x k3).ss.length := by have := RT12.length; simpa using this
        refine ⟨_, rfl, x, rfl, by omega, z, pc, fc, (runF b y nc).ss.map stR, (x.length : Int), rfl, hB12, hpc, by rw [← st_rw]; exact RC, st_fits _, by rw [List.length_map]; omega, fun pe fe H13 s13 npe hpe RE => ?_⟩
        rw [st_mv] at RE
        have hfel : fe.length = (runF b y nc).ss.length := by have := RE.length; simpa using this
        refine ⟨pt, pe, tv, fe, rfl, rfl, s13 _ _ hpt12, hpe, by omega, fun pg npg => ?_⟩
        have s14 := s13.trans (Same.new (o := .lst (tv ++ fe)) npg)
        have hpgz : pg ≠ z := (hB12.same s13).ne npg
        have RG : Rep z (upd H13 pg (.lst (tv ++ fe))) (.ref pg) (.lst ((runF b x k3).ss.map stD ++ ((runF b y nc).ss.map (mvS x.length)).map stD)) := .lst upd_same hpgz ((RT12.mono s14.x).append (RE.mono (Same.new npg).x))
        refine ⟨z, z, _, RA12.mono s14.x, by rw [List.map_append]; exact RG, dep_sts 3 _, _, rfl, iteF ?_⟩
        have R14 := R12.mono s14.x (z := z)
        have S14 : But2 z tb H2 (upd H13 pg (.lst (tv ++ fe))) := fun b' o h1 h2 e => s14 b' o (S12 b' o h1 h2 e)
        have hB14 := hB12.same s14
        have hT14 := hT12.same s14
        generalize upd H13 pg (.lst (tv ++ fe)) = H14 at s14 R14 S14 hB14 hT14 RG
        clear s14 RG RE hpe s13 npg npe RA12 RT12 hpt12 S12 R12 hB12 hT12 RC hpc
        -- both: unfinished ends
        refine ⟨_, rfl, _, rfl, z, v, b, x ++ y, rfl, hB14, R14, okb, by omega, hT14, fun pa2 fa2 na2 H15 bx15 npa2 hpa2 hata2 RA2 hB15 hT15 => ?_⟩
        obtain ⟨ps14, ht14⟩ := hT14.tbl
        have R15 := Rep.butT ht14 bx15 R14
        have S15 : But2 z tb H2 H15 := fun b' o h1 h2 e => bx15 b' o h2 (S14 b' o h1 h2 e)
        have hpa2z : pa2 ≠ z := hB14.ne npa2
        clear bx15 ht14 hB14 hT14 R14 S14 npa2
        refine ⟨_, rfl, _, rfl, z, v, b, y, rfl, hB15, R15, okb, by omega, hT15, fun pc2 fc2 nc2 H16 bx16 npc2 hpc2 hatc2 RC2 hB16 hT16 => ?_⟩
        obtain ⟨ps15, ht15⟩ := hT15.tbl
        have R16 := Rep.butT ht15 bx16 R15
        have S16 : But2 z tb H2 H16 := fun b' o h1 h2 e => bx16 b' o h2 (S15 b' o h1 h2 e)
        have RA16 : Rep z H16 (.ref pa2) (.lst _) := Rep.butT ht15 bx16 (.lst hpa2 hpa2z RA2)
        clear bx16 ht15 hB15 hT15 R15 S15 npc2 hpa2 RA2
        rw [run_eq hata2 hatB, B.ss, B.ds, cut_both (whole_uncut okb W.all), ← List.map_append] at RA16
        rw [run_eq hatc2 hatc] at RC2
        have hcl := cutL_len (runF b y nc).ss
        refine ⟨_, rfl, x, rfl, by omega, z, pc2, fc2, ((runF b y nc).ds ++ cutL (runF b y nc).ss).map ldR, (x.length : Int), rfl, hB16, hpc2, by rw [← ld_rw]; exact RC2, ld_fits _, by rw [List.length_map, List.length_append]; omega, fun pe2 fe2 H17 s17 npe2 hpe2 RE2 => ?_⟩
        rw [ld_mv] at RE2
        have hpe2z : pe2 ≠ z := hB16.ne npe2
        refine ⟨z, z, _, RA16.mono s17.x, .lst hpe2 hpe2z RE2, dep_lds 3 _, _, rfl, iteF ?_⟩
        have R17 := R16.mono s17.x (z := z)
        have S17 : But2 z tb H2 H17 := fun b' o h1 h2 e => s17 b' o (S16 b' o h1 h2 e)
        have hB17 := hB16.same s17
        have hT17 := hT16.same s17
        clear s17 RE2 hpe2 npe2 RA16 S16 R16 hB16 hT16 RC2 hpc2
        -- both: forks
        refine ⟨_, rfl, _, rfl, z, v, b, x ++ y, rfl, hB17, R17, okb, by omega, hT17, fun pa3 fa3 na3 H18 bx18 npa3 hpa3 hata3 RA3 hB18 hT18 => ?_⟩
        obtain ⟨ps17, ht17⟩ := hT17.tbl
        have R18 := Rep.butT ht17 bx18 R17
        have S18 : But2 z tb H2 H18 := fun b' o h1 h2 e => bx18 b' o h2 (S17 b' o h1 h2 e)
        have hpa3z : pa3 ≠ z := hB17.ne npa3
        clear bx18 ht17 hB17 hT17 R17 S17 npa3
        refine ⟨_, rfl, _, rfl, z, v, b, x, rfl, hB18, R18, okb, by omega, hT18, fun pb3 fb3 nb3 H19 bx19 npb3 hpb3 hatb3 RB3 hB19 hT19 => ?_⟩
        obtain ⟨ps18, ht18⟩ := hT18.tbl
        have R19 := Rep.butT ht18 bx19 R18
        have S19 : But2 z tb H2 H19 := fun b' o h1 h2 e => bx19 b' o h2 (S18 b' o h1 h2 e)
        have RA19 : Rep z H19 (.ref pa3) (.lst _) := Rep.butT ht18 bx19 (.lst hpa3 hpa3z RA3)
        clear bx19 ht18 hB18 hT18 R18 S18 npb3 hpa3 RA3
        refine ⟨_, rfl, _, rfl, z, v, b, y, rfl, hB19, R19, okb, by omega, hT19, fun pc3 fc3 nc3 H20 bx20 npc3 hpc3 hatc3 RC3 hB20 hT20 => ?_⟩
        obtain ⟨ps19, ht19⟩ := hT19.tbl
        have S20 : But2 z tb H2 H20 := fun b' o h1 h2 e => bx20 b' o h2 (S19 b' o h1 h2 e)
        have RA20 := Rep.butT ht19 bx20 RA19
        have hpb20 := bx20 _ _ (ne_of hpb3 ht19 (by intro q; cases q)) hpb3
        have RB20 := Reps.butT ht19 bx20 RB3
        clear bx20 ht19 hB19 hT19 R19 S19 npc3 RA19 hpb3 RB3
        have lfx := fk_len b x htok hb1 k3
        have lfy := fk_len b y htok hb1 nc
        rw [W.at_] at lfx
        rw [hatc] at lfy
        rw [fk_eq hata3 hatB, fk_both W nc] at RA20
        rw [fk_eq hatb3 W.at_] at RB20
        rw [fk_eq hatc3 hatc] at RC3
        refine ⟨_, rfl, x, rfl, by omega, z, pc3, fc3, (fkL b y nc).map fkR, (x.length : Int), rfl, hB20, hpc3, by rw [← fk_rw]; exact RC3, fk_fits _, by rw [List.length_map]; omega, fun pe3 fe3 H21 s21 npe3 hpe3 RE3 => ?_⟩
        rw [fk_mv] at RE3
        have hl1 : fb3.length = (fkL b x k3).length := by have := RB20.length; simpa using this
        have hl2 : fe3.length = (fkL b y nc).length := by have := RE3.length; simpa using this
        refine ⟨pb3, pe3, fb3, fe3, rfl, rfl, s21 _ _ hpb20, hpe3, by omega, fun pg npg => ?_⟩
        have s22 := s21.trans (Same.new (o := .lst (fb3 ++ fe3)) npg)
        have hpgz : pg ≠ z := (hB20.same s21).ne npg
        have RG : Rep z (upd H21 pg (.lst (fb3 ++ fe3))) (.ref pg) (.lst ((fkL b x k3).map fkD ++ ((fkL b y nc).map (mvF x.length)).map fkD)) := .lst upd_same hpgz ((RB20.mono s22.x).append (RE3.mono (Same.new npg).x))
        refine ⟨z, z, _, RA20.mono s22.x, by rw [List.map_append]; exact RG, dep_fks 2 _, _, rfl, iteF ?_⟩
        exact fin _ _ (fun b' o h1 h2 e => s22 b' o (S20 b' o h1 h2 e)) (hB20.same s22) (hT20.same s22)
      · rintro σ H3 ⟨w4, w5, w6, w7, w8, rfl, S3, hB3, hT3⟩
        refine ⟨_, _, _, _, _, _, _, _, rfl, fun b' o h e => ?_, hT3⟩
        have e0 := s0 b' o h e
        exact S3 b' o (ne_of_none e0 nz) h (S2 b' o (ne_of_none e0 nz) h e0)
    · rintro σ H2 ⟨u1, u2, u3, u4, u5, u6, u7, u8, rfl, s2, hT2⟩
      exact k H2
end
end T1
namespace T1
open PySem L2
/-! ### what the top has written, and the law's own head -/
theorem all_mk {l : PySem.W.OpenLaw} {w : World} {K : PySem.W.Frag} {h : Heap} {mg : Str → Option Value} {fa cc C1 h1 h2 h3 h4 f1 f2 f3 f4 f5 f6 f7 f8 f9 f10 f11 f12 f13 f14 f15 f16 f17 f18 f19 f20 f21 f22 f23 f24 f25 : Addr} (X : K.In h) (G : h.Ns mainGlobals mg) (hfa : mg "law" = some (.ref fa))
    {mod1 man1 mod2 man2 mod3 man3 mod4 man4 od1 an1 od2 an2 od3 an3 od4 an4 od5 an5 od6 an6 od7 an7 od8 an8 od9 an9 od10 an10 od11 an11 od12 an12 od13 an13 od14 an14 od15 an15 od16 an16 od17 an17 od18 an18 od19 an19 od20 an20 od21 an21 od22 an22 od23 an23 od24 an24 od25 an25 : Option Addr} {msl1 msl2 msl3 msl4 sl1 sl2 sl3 sl4 sl5 sl6 sl7 sl8 sl9 sl10 sl11 sl12 sl13 sl14 sl15 sl16 sl17 sl18 sl19 sl20 sl21 sl22 sl23 sl24 sl25 : Array (Option Value)} {moc1 mkV1 mdc1 mpm1 mct1 mcd1 moc2 mkV2 mdc2 mpm2 mct2 mcd2 moc3 mkV3 mdc3 mpm3 mct3 mcd3 moc4 mkV4 mdc4 mpm4 mct4 mcd4 oc1 kV1 dc1 pm1 ct1 cd1 oc2 kV2 dc2 pm2 ct2 cd2 oc3 kV3 dc3 pm3 ct3 cd3 oc4 kV4 dc4 pm4 ct4 cd4 oc5 kV5 dc5 pm5 ct5 cd5 oc6 kV6 dc6 pm6 ct6 oc7 kV7 dc7 pm7 ct7 cd7 oc8 kV8 dc8 pm8 ct8 cd8 oc9 kV9 dc9 pm9 ct9 cd9 oc10 kV10 dc10 pm10 ct10 cd10 oc11 kV11 dc11 pm11 ct11 cd11 oc12 kV12 dc12 pm12 ct12 cd12 oc13 kV13 dc13 pm13 ct13 cd13 oc14 kV14 dc14 pm14 ct14 cd14 oc15 kV15 dc15 pm15 ct15 cd15 oc16 kV16 dc16 pm16 ct16 cd16 oc17 kV17 dc17 pm17 ct17 cd17 oc18 kV18 dc18 pm18 ct18 cd18 oc19 kV19 dc19 pm19 ct19 cd19 oc20 kV20 dc20 pm20 ct20 cd20 oc21 kV21 dc21 pm21 ct21 cd21 oc22 kV22 dc22 pm22 ct22 cd22 oc23 kV23 dc23 pm23 ct23 cd23 oc24 kV24 dc24 pm24 ct24 cd24 oc25 kV25 dc25 pm25 ct25 cd25 : Value}
    (a1 : PySem.W.nsIn K mainGlobals "tongue_within" = some (some (.ref f1))) (l1 : K.lookup f1 = some ⟨oc1, od1, .func (PySem.W.fnOf "tongue_within" "tongue_within" (defArgs sWithin) (defBody sWithin) (defScope sWithin) .none kV1 dc1 pm1 an1 cd1 ct1), sl1⟩) (c1 : PySem.W.codeIn K cd1 "tongue_within" = true) (k1 : PySem.W.keepIn K (.ref f1) = true)
    (a2 : PySem.W.nsIn K mainGlobals "possible_marks" = some (some (.ref f2))) (l2 : K.lookup f2 = some ⟨oc2, od2, .func (PySem.W.fnOf "possible_marks" "possible_marks" (defArgs sPoss) (defBody sPoss) (defScope sPoss) .none kV2 dc2 pm2 an2 cd2 ct2), sl2⟩) (c2 : PySem.W.codeIn K cd2 "possible_marks" = true) (k2 : PySem.W.keepIn K (.ref f2) = true)
    (a3 : PySem.W.nsIn K mainGlobals "fitting_marks" = some (some (.ref f3))) (l3 : K.lookup f3 = some ⟨oc3, od3, .func (PySem.W.fnOf "fitting_marks" "fitting_marks" (defArgs sFitting) (defBody sFitting) (defScope sFitting) .none kV3 dc3 pm3 an3 cd3 ct3), sl3⟩) (c3 : PySem.W.codeIn K cd3 "fitting_marks" = true) (k3 : PySem.W.keepIn K (.ref f3) = true)
    (a4 : PySem.W.nsIn K mainGlobals "take_mark" = some (some (.ref f4))) (l4 : K.lookup f4 = some ⟨oc4, od4, .func (PySem.W.fnOf "take_mark" "take_mark" (defArgs sTakeM) (defBody sTakeM) (defScope sTakeM) .none kV4 dc4 pm4 an4 cd4 ct4), sl4⟩) (c4 : PySem.W.codeIn K cd4 "take_mark" = true) (k4 : PySem.W.keepIn K (.ref f4) = true)
    (a5 : PySem.W.nsIn K mainGlobals "read_plain" = some (some (.ref f5))) (l5 : K.lookup f5 = some ⟨oc5, od5, .func (PySem.W.fnOf "read_plain" "read_plain" (defArgs sPlainR) (defBody sPlainR) (defScope sPlainR) .none kV5 dc5 pm5 an5 cd5 ct5), sl5⟩) (c5 : PySem.W.codeIn K cd5 "read_plain" = true) (k5 : PySem.W.keepIn K (.ref f5) = true)
    (a6 : PySem.W.nsIn K mainGlobals "read_step" = some (some (.ref f6))) (l6 : K.lookup f6 = some ⟨oc6, od6, .func (PySem.W.fnOf "read_step" "read_step" (defArgs sStep) (defBody sStep) (defScope sStep) .none kV6 dc6 pm6 an6 (.ref cc) ct6), sl6⟩) (c6 : PySem.W.codeIn K (.ref cc) "read_step" = true) (k6 : PySem.W.keepIn K (.ref f6) = true)
    (a7 : PySem.W.nsIn K mainGlobals "read_on" = some (some (.ref f7))) (l7 : K.lookup f7 = some ⟨oc7, od7, .func (PySem.W.fnOf "read_on" "read_on" (defArgs sOn) (defBody sOn) (defScope sOn) .none kV7 dc7 pm7 an7 cd7 ct7), sl7⟩) (c7 : PySem.W.codeIn K cd7 "read_on" = true) (k7 : PySem.W.keepIn K (.ref f7) = true)
    (a8 : PySem.W.nsIn K mainGlobals "places_left_open" = some (some (.ref f8))) (l8 : K.lookup f8 = some ⟨oc8, od8, .func (PySem.W.fnOf "places_left_open" "places_left_open" (defArgs sLeft) (defBody sLeft) (defScope sLeft) .none kV8 dc8 pm8 an8 cd8 ct8), sl8⟩) (c8 : PySem.W.codeIn K cd8 "places_left_open" = true) (k8 : PySem.W.keepIn K (.ref f8) = true)
    (a9 : PySem.W.nsIn K mainGlobals "moved" = some (some (.ref f9))) (l9 : K.lookup f9 = some ⟨oc9, od9, .func (PySem.W.fnOf "moved" "moved" (defArgs sMoved) (defBody sMoved) (defScope sMoved) .none kV9 dc9 pm9 an9 cd9 ct9), sl9⟩) (c9 : PySem.W.codeIn K cd9 "moved" = true) (k9 : PySem.W.keepIn K (.ref f9) = true)
    (a10 : PySem.W.nsIn K mainGlobals "steps" = some (some (.ref f10))) (l10 : K.lookup f10 = some ⟨oc10, od10, .func (PySem.W.fnOf "steps" "steps" (defArgs sSteps) (defBody sSteps) (defScope sSteps) .none kV10 dc10 pm10 an10 cd10 ct10), sl10⟩) (c10 : PySem.W.codeIn K cd10 "steps" = true) (k10 : PySem.W.keepIn K (.ref f10) = true)
    (a11 : PySem.W.nsIn K mainGlobals "standing" = some (some (.ref f11))) (l11 : K.lookup f11 = some ⟨oc11, od11, .func (PySem.W.fnOf "standing" "standing" (defArgs sStanding) (defBody sStanding) (defScope sStanding) .none kV11 dc11 pm11 an11 cd11 ct11), sl11⟩) (c11 : PySem.W.codeIn K cd11 "standing" = true) (k11 : PySem.W.keepIn K (.ref f11) = true)
    (a12 : PySem.W.nsIn K mainGlobals "unfinished" = some (some (.ref f12))) (l12 : K.lookup f12 = some ⟨oc12, od12, .func (PySem.W.fnOf "unfinished" "unfinished" (defArgs sUnfin) (defBody sUnfin) (defScope sUnfin) .none kV12 dc12 pm12 an12 cd12 ct12), sl12⟩) (c12 : PySem.W.codeIn K cd12 "unfinished" = true) (k12 : PySem.W.keepIn K (.ref f12) = true)
    (a13 : PySem.W.nsIn K mainGlobals "forks" = some (some (.ref f13))) (l13 : K.lookup f13 = some ⟨oc13, od13, .func (PySem.W.fnOf "forks" "forks" (defArgs sForks) (defBody sForks) (defScope sForks) .none kV13 dc13 pm13 an13 cd13 ct13), sl13⟩) (c13 : PySem.W.codeIn K cd13 "forks" = true) (k13 : PySem.W.keepIn K (.ref f13) = true)
    (a14 : PySem.W.nsIn K mainGlobals "is_sure" = some (some (.ref f14))) (l14 : K.lookup f14 = some ⟨oc14, od14, .func (PySem.W.fnOf "is_sure" "is_sure" (defArgs sIsSure) (defBody sIsSure) (defScope sIsSure) .none kV14 dc14 pm14 an14 cd14 ct14), sl14⟩) (c14 : PySem.W.codeIn K cd14 "is_sure" = true) (k14 : PySem.W.keepIn K (.ref f14) = true)
    (a15 : PySem.W.nsIn K mainGlobals "sure_steps" = some (some (.ref f15))) (l15 : K.lookup f15 = some ⟨oc15, od15, .func (PySem.W.fnOf "sure_steps" "sure_steps" (defArgs sSureSteps) (defBody sSureSteps) (defScope sSureSteps) .none kV15 dc15 pm15 an15 cd15 ct15), sl15⟩) (c15 : PySem.W.codeIn K cd15 "sure_steps" = true) (k15 : PySem.W.keepIn K (.ref f15) = true)
    (a16 : PySem.W.nsIn K mainGlobals "_law_bag" = some (some (.ref f16))) (l16 : K.lookup f16 = some ⟨oc16, od16, .func (PySem.W.fnOf "_law_bag" "_law_bag" (defArgs lBag) (defBody lBag) (defScope lBag) .none kV16 dc16 pm16 an16 cd16 ct16), sl16⟩) (c16 : PySem.W.codeIn K cd16 "_law_bag" = true) (k16 : PySem.W.keepIn K (.ref f16) = true)
    (a17 : PySem.W.nsIn K mainGlobals "_law_take" = some (some (.ref f17))) (l17 : K.lookup f17 = some ⟨oc17, od17, .func (PySem.W.fnOf "_law_take" "_law_take" (defArgs lTake) (defBody lTake) (defScope lTake) .none kV17 dc17 pm17 an17 cd17 ct17), sl17⟩) (c17 : PySem.W.codeIn K cd17 "_law_take" = true) (k17 : PySem.W.keepIn K (.ref f17) = true)
    (a18 : PySem.W.nsIn K mainGlobals "_law_mark" = some (some (.ref f18))) (l18 : K.lookup f18 = some ⟨oc18, od18, .func (PySem.W.fnOf "_law_mark" "_law_mark" (defArgs lMk) (defBody lMk) (defScope lMk) .none kV18 dc18 pm18 an18 cd18 ct18), sl18⟩) (c18 : PySem.W.codeIn K cd18 "_law_mark" = true) (k18 : PySem.W.keepIn K (.ref f18) = true)
    (a19 : PySem.W.nsIn K mainGlobals "_law_fits_book" = some (some (.ref f19))) (l19 : K.lookup f19 = some ⟨oc19, od19, .func (PySem.W.fnOf "_law_fits_book" "_law_fits_book" (defArgs lFits) (defBody lFits) (defScope lFits) .none kV19 dc19 pm19 an19 cd19 ct19), sl19⟩) (c19 : PySem.W.codeIn K cd19 "_law_fits_book" = true) (k19 : PySem.W.keepIn K (.ref f19) = true)
    (a20 : PySem.W.nsIn K mainGlobals "_law_book" = some (some (.ref f20))) (l20 : K.lookup f20 = some ⟨oc20, od20, .func (PySem.W.fnOf "_law_book" "_law_book" (defArgs lBook) (defBody lBook) (defScope lBook) .none kV20 dc20 pm20 an20 cd20 ct20), sl20⟩) (c20 : PySem.W.codeIn K cd20 "_law_book" = true) (k20 : PySem.W.keepIn K (.ref f20) = true)
    (a21 : PySem.W.nsIn K mainGlobals "_law_marks" = some (some (.ref f21))) (l21 : K.lookup f21 = some ⟨oc21, od21, .func (PySem.W.fnOf "_law_marks" "_law_marks" (defArgs lMarks) (defBody lMarks) (defScope lMarks) .none kV21 dc21 pm21 an21 cd21 ct21), sl21⟩) (c21 : PySem.W.codeIn K cd21 "_law_marks" = true) (k21 : PySem.W.keepIn K (.ref f21) = true)
    (a22 : PySem.W.nsIn K mainGlobals "_law_text" = some (some (.ref f22))) (l22 : K.lookup f22 = some ⟨oc22, od22, .func (PySem.W.fnOf "_law_text" "_law_text" (defArgs lText) (defBody lText) (defScope lText) .none kV22 dc22 pm22 an22 cd22 ct22), sl22⟩) (c22 : PySem.W.codeIn K cd22 "_law_text" = true) (k22 : PySem.W.keepIn K (.ref f22) = true)
    (a23 : PySem.W.nsIn K mainGlobals "_law_made" = some (some (.ref f23))) (l23 : K.lookup f23 = some ⟨oc23, od23, .func (PySem.W.fnOf "_law_made" "_law_made" (defArgs lMade) (defBody lMade) (defScope lMade) .none kV23 dc23 pm23 an23 cd23 ct23), sl23⟩) (c23 : PySem.W.codeIn K cd23 "_law_made" = true) (k23 : PySem.W.keepIn K (.ref f23) = true)
    (a24 : PySem.W.nsIn K mainGlobals "_law_on" = some (some (.ref f24))) (l24 : K.lookup f24 = some ⟨oc24, od24, .func (PySem.W.fnOf "_law_on" "_law_on" (defArgs lOn) (defBody lOn) (defScope lOn) .none kV24 dc24 pm24 an24 cd24 ct24), sl24⟩) (c24 : PySem.W.codeIn K cd24 "_law_on" = true) (k24 : PySem.W.keepIn K (.ref f24) = true)
    (a25 : PySem.W.nsIn K mainGlobals "law" = some (some (.ref f25))) (l25 : K.lookup f25 = some ⟨oc25, od25, .func (PySem.W.fnOf "law" "law" (defArgs lLaw) (defBody lLaw) (defScope lLaw) .none kV25 dc25 pm25 an25 cd25 ct25), sl25⟩) (c25 : PySem.W.codeIn K cd25 "law" = true) (k25 : PySem.W.keepIn K (.ref f25) = true)
    (hd : PySem.W.codeHdIn K cc 56 = true) (hp : K.lookup 56 = none)
    (aC1 : PySem.W.nsIn K mainGlobals "Reader" = some (some (.ref C1)))
    (ma1 : PySem.W.findIn K (.ref C1) "__init__" = some (some (.ref h1))) (mi1 : PySem.W.isFn K (.ref h1) = true) (ml1 : K.lookup h1 = some ⟨moc1, mod1, .func (PySem.W.fnOf "__init__" "Reader.__init__" (defArgs mInit) (defBody mInit) (defScope mInit) .none mkV1 mdc1 mpm1 man1 mcd1 mct1), msl1⟩) (mc1 : PySem.W.codeIn K mcd1 "Reader.__init__" = true) (mk1 : PySem.W.keepIn K (.ref h1) = true)
    (ma2 : PySem.W.findIn K (.ref C1) "begin_anew" = some (some (.ref h2))) (mi2 : PySem.W.isFn K (.ref h2) = true) (ml2 : K.lookup h2 = some ⟨moc2, mod2, .func (PySem.W.fnOf "begin_anew" "Reader.begin_anew" (defArgs mBegin) (defBody mBegin) (defScope mBegin) .none mkV2 mdc2 mpm2 man2 mcd2 mct2), msl2⟩) (mc2 : PySem.W.codeIn K mcd2 "Reader.begin_anew" = true) (mk2 : PySem.W.keepIn K (.ref h2) = true)
    (ma3 : PySem.W.findIn K (.ref C1) "feed" = some (some (.ref h3))) (mi3 : PySem.W.isFn K (.ref h3) = true) (ml3 : K.lookup h3 = some ⟨moc3, mod3, .func (PySem.W.fnOf "feed" "Reader.feed" (defArgs mFeed) (defBody mFeed) (defScope mFeed) .none mkV3 mdc3 mpm3 man3 mcd3 mct3), msl3⟩) (mc3 : PySem.W.codeIn K mcd3 "Reader.feed" = true) (mk3 : PySem.W.keepIn K (.ref h3) = true)
    (ma4 : PySem.W.findIn K (.ref C1) "hand_out" = some (some (.ref h4))) (mi4 : PySem.W.isFn K (.ref h4) = true) (ml4 : K.lookup h4 = some ⟨moc4, mod4, .func (PySem.W.fnOf "hand_out" "Reader.hand_out" (defArgs mHand) (defBody mHand) (defScope mHand) .none mkV4 mdc4 mpm4 man4 mcd4 mct4), msl4⟩) (mc4 : PySem.W.codeIn K mcd4 "Reader.hand_out" = true) (mk4 : PySem.W.keepIn K (.ref h4) = true)
    (cpg1 : PySem.W.plainGet K C1 Str.empty = true) (chd1 : PySem.W.hasDictIn K C1 = true) (cpo1 : PySem.W.plainOver K C1 = true) (csa1 : PySem.W.findIn K (.ref C1) "__setattr__" = some (some (.builtin "object.__setattr__"))) (cmk1 : PySem.W.makesIn K C1 = true) (ckc1 : PySem.W.keepIn K (.ref C1) = true)
    (nA1_1 : PySem.W.findIn K (.ref C1) "book" = some none)
    (nA1_2 : PySem.W.findIn K (.ref C1) "rest" = some none)
    (nA1_3 : PySem.W.findIn K (.ref C1) "place" = some none)
    (nA1_4 : PySem.W.findIn K (.ref C1) "doors" = some none)
    (z1 : PySem.W.nsIn K mainGlobals "len" = some none)
    (z2 : PySem.W.nsIn K mainGlobals "ord" = some none)
    (z3 : PySem.W.nsIn K mainGlobals "all" = some none)
    (z4 : PySem.W.nsIn K mainGlobals "any" = some none)
    (z5 : PySem.W.nsIn K mainGlobals "isinstance" = some none)
    (z6 : PySem.W.nsIn K mainGlobals "str" = some none)
    (z7 : PySem.W.nsIn K mainGlobals "int" = some none)
    (z8 : PySem.W.nsIn K mainGlobals "bool" = some none)
    (z9 : PySem.W.nsIn K mainGlobals "tuple" = some none)
    (z10 : PySem.W.nsIn K mainGlobals "range" = some none)
    (z11 : PySem.W.nsIn K mainGlobals "sorted" = some none)
    (z12 : PySem.W.nsIn K mainGlobals "max" = some none)
    (z13 : PySem.W.nsIn K mainGlobals "list" = some none)
    (z14 : PySem.W.nsIn K mainGlobals "set" = some none)
    (z15 : PySem.W.nsIn K mainGlobals "min" = some none)
    (z16 : PySem.W.nsIn K mainGlobals "sum" = some none)
    (z17 : PySem.W.nsIn K mainGlobals "zip" = some none) :
    ∃ (fd : FuncData) (c : Addr), PySem.W.codeHdIn K c 56 = true ∧ K.lookup 56 = none ∧ (∀ (s : Shared) (v : Value), BindsTo s fd ⟨[v], []⟩ [("script", v)]) ∧ ∀ base : Heap, K.In base → base.Ns mainGlobals mg → base.BuiltinsAt mg 56 → FnOk l.prog w K mg base CX0 7 fa fd ["script"] (spLaw27 K 56) := by
  have e := hfa.symm.trans (PySem.W.mg_of X G a25)
  cases e
  have T : TxtB mg := ⟨PySem.W.mg_none_of X G z1, PySem.W.mg_none_of X G z2, PySem.W.mg_none_of X G z3, PySem.W.mg_none_of X G z4, PySem.W.mg_none_of X G z5, PySem.W.mg_none_of X G z6, PySem.W.mg_none_of X G z7, PySem.W.mg_none_of X G z8, PySem.W.mg_none_of X G z9, PySem.W.mg_none_of X G z10, PySem.W.mg_none_of X G z11, PySem.W.mg_none_of X G z12⟩
  have T2 : Txt2 mg := ⟨PySem.W.mg_none_of X G z13, PySem.W.mg_none_of X G z14, PySem.W.mg_none_of X G z15⟩
  have hsum : mg "sum" = none := PySem.W.mg_none_of X G z16
  have hzip : mg "zip" = none := PySem.W.mg_none_of X G z17
  have TC1 : Cls K C1 := ⟨cpg1, chd1, cpo1, csa1⟩
  have MM1 : Meth K C1 "__init__" h1 := ⟨ma1, mi1, mk1⟩
  have FM1 := fun_mk (st := mInit) ml1 mc1 mk1
  have bM1 := FM1.binds (ps := ["self", "book"]) fun _ _ _ _ _ _ us hl => match us, hl with | [_, _], _ => rfl
  have MM2 : Meth K C1 "begin_anew" h2 := ⟨ma2, mi2, mk2⟩
  have FM2 := fun_mk (st := mBegin) ml2 mc2 mk2
  have bM2 := FM2.binds (ps := ["self"]) fun _ _ _ _ _ _ us hl => match us, hl with | [_], _ => rfl
  have MM3 : Meth K C1 "feed" h3 := ⟨ma3, mi3, mk3⟩
  have FM3 := fun_mk (st := mFeed) ml3 mc3 mk3
  have bM3 := FM3.binds (ps := ["self", "piece"]) fun _ _ _ _ _ _ us hl => match us, hl with | [_, _], _ => rfl
  have MM4 : Meth K C1 "hand_out" h4 := ⟨ma4, mi4, mk4⟩
  have FM4 := fun_mk (st := mHand) ml4 mc4 mk4
  have bM4 := FM4.binds (ps := ["self", "found"]) fun _ _ _ _ _ _ us hl => match us, hl with | [_, _], _ => rfl
  have F1 := fun_mk (st := sWithin) l1 c1 k1
  have b1 := F1.binds (ps := ["doors"]) fun _ _ _ _ _ _ us hl => match us, hl with | [_], _ => rfl
  have m1 := PySem.W.mg_of X G a1
  have F2 := fun_mk (st := sPoss) l2 c2 k2
  have b2 := F2.binds (ps := ["book", "doors"]) fun _ _ _ _ _ _ us hl => match us, hl with | [_, _], _ => rfl
  have m2 := PySem.W.mg_of X G a2
  have F3 := fun_mk (st := sFitting) l3 c3 k3
  have b3 := F3.binds (ps := ["book", "text", "place", "doors"]) fun _ _ _ _ _ _ us hl => match us, hl with | [_, _, _, _], _ => rfl
  have m3 := PySem.W.mg_of X G a3
  have F4 := fun_mk (st := sTakeM) l4 c4 k4
  have b4 := F4.binds (ps := ["mark", "door", "place", "doors"]) fun _ _ _ _ _ _ us hl => match us, hl with | [_, _, _, _], _ => rfl
  have m4 := PySem.W.mg_of X G a4
  have F5 := fun_mk (st := sPlainR) l5 c5 k5
  have b5 := F5.binds (ps := ["book", "text", "place", "doors"]) fun _ _ _ _ _ _ us hl => match us, hl with | [_, _, _, _], _ => rfl
  have m5 := PySem.W.mg_of X G a5
  have F6 := fun_mk (st := sStep) l6 c6 k6
  have b6 := F6.binds (ps := ["book", "text", "place", "doors"]) fun _ _ _ _ _ _ us hl => match us, hl with | [_, _, _, _], _ => rfl
  have m6 := PySem.W.mg_of X G a6
  have F7 := fun_mk (st := sOn) l7 c7 k7
  have b7 := F7.binds (ps := ["book", "text", "doors"]) fun _ _ _ _ _ _ us hl => match us, hl with | [_, _, _], _ => rfl
  have m7 := PySem.W.mg_of X G a7
  have F8 := fun_mk (st := sLeft) l8 c8 k8
  have b8 := F8.binds (ps := ["told"]) fun _ _ _ _ _ _ us hl => match us, hl with | [_], _ => rfl
  have m8 := PySem.W.mg_of X G a8
  have F9 := fun_mk (st := sMoved) l9 c9 k9
  have b9 := F9.binds (ps := ["step", "by"]) fun _ _ _ _ _ _ us hl => match us, hl with | [_, _], _ => rfl
  have m9 := PySem.W.mg_of X G a9
  have F10 := fun_mk (st := sSteps) l10 c10 k10
  have b10 := F10.binds (ps := ["book", "text"]) fun _ _ _ _ _ _ us hl => match us, hl with | [_, _], _ => rfl
  have m10 := PySem.W.mg_of X G a10
  have F11 := fun_mk (st := sStanding) l11 c11 k11
  have b11 := F11.binds (ps := ["book", "text"]) fun _ _ _ _ _ _ us hl => match us, hl with | [_, _], _ => rfl
  have m11 := PySem.W.mg_of X G a11
  have F12 := fun_mk (st := sUnfin) l12 c12 k12
  have b12 := F12.binds (ps := ["book", "text"]) fun _ _ _ _ _ _ us hl => match us, hl with | [_, _], _ => rfl
  have m12 := PySem.W.mg_of X G a12
  have F13 := fun_mk (st := sForks) l13 c13 k13
  have b13 := F13.binds (ps := ["book", "text"]) fun _ _ _ _ _ _ us hl => match us, hl with | [_, _], _ => rfl
  have m13 := PySem.W.mg_of X G a13
  have F14 := fun_mk (st := sIsSure) l14 c14 k14
  have b14 := F14.binds (ps := ["book", "part", "place", "doors"]) fun _ _ _ _ _ _ us hl => match us, hl with | [_, _, _, _], _ => rfl
  have m14 := PySem.W.mg_of X G a14
  have F15 := fun_mk (st := sSureSteps) l15 c15 k15
  have b15 := F15.binds (ps := ["book", "part", "doors"]) fun _ _ _ _ _ _ us hl => match us, hl with | [_, _, _], _ => rfl
  have m15 := PySem.W.mg_of X G a15
  have F16 := fun_mk (st := lBag) l16 c16 k16
  have b16 := F16.binds (ps := ["script", "k"]) fun _ _ _ _ _ _ us hl => match us, hl with | [_, _], _ => rfl
  have m16 := PySem.W.mg_of X G a16
  have F17 := fun_mk (st := lTake) l17 c17 k17
  have b17 := F17.binds (ps := ["bag", "many"]) fun _ _ _ _ _ _ us hl => match us, hl with | [_, _], _ => rfl
  have m17 := PySem.W.mg_of X G a17
  have F18 := fun_mk (st := lMk) l18 c18 k18
  have b18 := F18.binds (ps := ["bag", "signs"]) fun _ _ _ _ _ _ us hl => match us, hl with | [_, _], _ => rfl
  have m18 := PySem.W.mg_of X G a18
  have F19 := fun_mk (st := lFits) l19 c19 k19
  have b19 := F19.binds (ps := ["book"]) fun _ _ _ _ _ _ us hl => match us, hl with | [_], _ => rfl
  have m19 := PySem.W.mg_of X G a19
  have F20 := fun_mk (st := lBook) l20 c20 k20
  have b20 := F20.binds (ps := ["bag"]) fun _ _ _ _ _ _ us hl => match us, hl with | [_], _ => rfl
  have m20 := PySem.W.mg_of X G a20
  have F21 := fun_mk (st := lMarks) l21 c21 k21
  have b21 := F21.binds (ps := ["book"]) fun _ _ _ _ _ _ us hl => match us, hl with | [_], _ => rfl
  have m21 := PySem.W.mg_of X G a21
  have F22 := fun_mk (st := lText) l22 c22 k22
  have b22 := F22.binds (ps := ["bag", "book", "most"]) fun _ _ _ _ _ _ us hl => match us, hl with | [_, _, _], _ => rfl
  have m22 := PySem.W.mg_of X G a22
  have F23 := fun_mk (st := lMade) l23 c23 k23
  have b23 := F23.binds (ps := ["bag", "book", "tongue", "deep"]) fun _ _ _ _ _ _ us hl => match us, hl with | [_, _, _, _], _ => rfl
  have m23 := PySem.W.mg_of X G a23
  have F24 := fun_mk (st := lOn) l24 c24 k24
  have b24 := F24.binds (ps := ["rows", "more"]) fun _ _ _ _ _ _ us hl => match us, hl with | [_, _], _ => rfl
  have m24 := PySem.W.mg_of X G a24
  have F25 := fun_mk (st := lLaw) l25 c25 k25
  refine ⟨PySem.W.fnOf "law" "law" (defArgs lLaw) (defBody lLaw) (defScope lLaw) .none kV25 dc25 pm25 an25 cd25 ct25, cc, hd, hp, fun s v => .of_eq rfl, fun base _ _ hBA => ?_⟩
  have G1 : FnOk l.prog w K mg base CX0 1 f1 _ ["doors"] spWithin := ok_within F1 
  have G2 : FnOk l.prog w K mg base CX0 2 f2 _ ["book", "doors"] spPoss := ok_poss F2 k1 b1 m1 G1
  have G3 : FnOk l.prog w K mg base CX0 3 f3 _ ["book", "text", "place", "doors"] spFitP := ok_fitP F3 k2 b2 m2 G2
  have G4 : FnOk l.prog w K mg base CX0 2 f4 _ ["mark", "door", "place", "doors"] spTakeM := ok_takeM F4 T k1 b1 m1 G1
  have G5 : FnOk l.prog w K mg base CX0 2 f5 _ ["book", "text", "place", "doors"] spPlainR := ok_plainR F5 T k1 b1 m1 G1
  have G6 : FnOk l.prog w K mg base CX0 4 f6 _ ["book", "text", "place", "doors"] (spStepP 56) := ok_stepP F6 rfl hd hBA T T.max k3 b3 m3 G3 k5 b5 m5 G5 k4 b4 m4 G4
  have G7 : FnOk l.prog w K mg base CX0 5 f7 _ ["book", "text", "doors"] (spOn 56) := ok_on F7 T k6 b6 m6 G6
  have G8 : FnOk l.prog w K mg base CX0 1 f8 _ ["told"] spLeft := ok_left F8 
  have G9 : FnOk l.prog w K mg base CX0 1 f9 _ ["step", "by"] spMoved := ok_moved F9 
  have G10 : FnOk l.prog w K mg base CX0 6 f10 _ ["book", "text"] (spStepsP 56) := ok_stepsP F10 k7 b7 m7 G7
  have G11 : FnOk l.prog w K mg base CX0 6 f11 _ ["book", "text"] (spStanding 56) := ok_standing F11 T k7 b7 m7 G7
  have G12 : FnOk l.prog w K mg base CX0 6 f12 _ ["book", "text"] (spUnfin 56) := ok_unfin F12 hzip k7 b7 m7 G7 k8 b8 m8 G8
  have G13 : FnOk l.prog w K mg base CX0 5 f13 _ ["book", "text"] (spForks 56) := ok_forks F13 T k3 b3 m3 G3 k6 b6 m6 G6
  have G14 : FnOk l.prog w K mg base CX0 3 f14 _ ["book", "part", "place", "doors"] spSure := ok_sure F14 T k1 b1 m1 G1 k2 b2 m2 G2
  have G15 : FnOk l.prog w K mg base CX0 5 f15 _ ["book", "part", "doors"] (spSureSteps 56) := ok_suresteps F15 T k6 b6 m6 G6 k14 b14 m14 G14
  have G16 : FnOk l.prog w K mg base CX0 1 f16 _ ["script", "k"] (spBag K) := ok_bag F16 T 
  have G17 : FnOk l.prog w K mg base CX0 1 f17 _ ["bag", "many"] spTake := ok_take F17 
  have G18 : FnOk l.prog w K mg base CX0 2 f18 _ ["bag", "signs"] spMk := ok_mk F18 T k17 b17 m17 G17
  have G19 : FnOk l.prog w K mg base CX0 1 f19 _ ["book"] spFits := ok_fits F19 T T2 
  have G20 : FnOk l.prog w K mg base CX0 3 f20 _ ["bag"] spBook := ok_lbook F20 T T2 k17 b17 m17 G17 k18 b18 m18 G18 k19 b19 m19 G19
  have G21 : FnOk l.prog w K mg base CX0 1 f21 _ ["book"] spLMarks := ok_lmarks F21 
  have G22 : FnOk l.prog w K mg base CX0 2 f22 _ ["bag", "book", "most"] spText := ok_text F22 T k17 b17 m17 G17 k21 b21 m21 G21
  have G23 : FnOk l.prog w K mg base CX0 5 f23 _ ["bag", "book", "tongue", "deep"] (spMade 3) := ok_made F23 T k17 b17 m17 G17 k23 b23 m23
  have G24 : FnOk l.prog w K mg base CX0 1 f24 _ ["rows", "more"] spOnR := ok_onR F24 
  have T3 : Txt3 K mg C1 := ⟨TC1, nA1_1, nA1_2, nA1_3, nA1_4, hsum⟩
  have GM2 : FnOk l.prog w K mg base CX0 1 h2 _ ["self"] (spBegin C1) := ok_begin FM2 T3
  have GM1 : FnOk l.prog w K mg base CX0 2 h1 _ ["self", "book"] (spInit C1) := ok_init FM1 T3 MM2 bM2 GM2
  have GM4 : FnOk l.prog w K mg base CX0 2 h4 _ ["self", "found"] (spHand C1) := ok_hand FM4 T T3 k9 b9 m9 G9
  have GM3 : FnOk l.prog w K mg base CX0 6 h3 _ ["self", "piece"] (spFeed 56 C1) := ok_feed FM3 T3 k15 b15 m15 G15 MM4 bM4 GM4
  exact ok_law F25 T T2 T3 (PySem.W.mg_of X G aC1) ⟨cmk1, ma1, mi1, ckc1⟩ k16 b16 m16 G16 k20 b20 m20 G20 k22 b22 m22 G22 k23 b23 m23 G23 k10 b10 m10 G10 k11 b11 m11 G11 k12 b12 m12 G12 k13 b13 m13 G13 k24 b24 m24 G24 bM1 GM1 MM3 bM3 GM3
theorem walk {l : PySem.W.OpenLaw} {q : Program} {loose : List Str} {XP : (Str → Option Value) → Heap → Prop} {YP : World → Heap → Prop} {d : DefRec} {K : Params → PySem.W.Frag} (hn : l.most = some 63) (hdf : d.params.defaults = [])
    (hY : ∀ (w : World) (h : Heap), YP w h → (K w.params).In h ∧ h.get? 56 = some (PySem.W.tabObj #[]))
    (F : ∀ (w : World) (mg : Str → Option Value) (fa : Addr) (h : Heap), (K w.params).In h → h.Ns mainGlobals mg → mg d.name = some (.ref fa) →
      ∃ (fd : FuncData) (c : Addr), PySem.W.codeHdIn (K w.params) c 56 = true ∧ (K w.params).lookup 56 = none ∧ (∀ (s : Shared) (u : Value), BindsTo s fd ⟨[u], []⟩ [("script", u)]) ∧ ∀ base : Heap, (K w.params).In base → base.Ns mainGlobals mg → base.BuiltinsAt mg 56 → FnOk l.prog w (K w.params) mg base CX0 7 fa fd ["script"] (spLaw27 (K w.params) 56)) :
    PySem.W.WalkO q loose XP YP l.row.toRowW d [] (fun f vs => PySem.call f vs) :=
  L2.walk_ofT (n := 63) (k := 7) (x := "script") (tb := 56) (CX := fun _ => CX0) (sp := fun w => spLaw27 (K w.params) 56) hn (by decide) hdf ⟨rfl, by decide, by decide⟩ hY F (fun _ _ a ns hl hT hS => ⟨a, ns, rfl, hS, .inl hT, fun _ => rfl⟩) fun _ _ _ _ _ z => z
end T1
open PySem PySem.W PyProof.Rows
set_option maxRecDepth 100000 in
set_option maxHeartbeats 0 in
theorem PySem.Challenge.cw_tonguenest_k27_whole_texts_one_behind_an_holds : PySem.Challenge.rw_tonguenest_k27_whole_texts_one_behind_an.Holds := by
  w_on; o_law; k_head; (case hw => w_witness2)
  k_fill
  refine T1.walk (l := PySem.Challenge.rw_tonguenest_k27_whole_texts_one_behind_an) rfl rfl (fun w h Y => ⟨PySem.W.km_in_of Y, PySem.W.km_tabs_of Y 56 (by simp)⟩) ?F
  case F =>
    intro w mg fa h KX G hmg
    refine' T1.all_mk KX G hmg ?a1 ?l1 ?c1 ?k1 ?a2 ?l2 ?c2 ?k2 ?a3 ?l3 ?c3 ?k3 ?a4 ?l4 ?c4 ?k4 ?a5 ?l5 ?c5 ?k5 ?a6 ?l6 ?c6 ?k6 ?a7 ?l7 ?c7 ?k7 ?a8 ?l8 ?c8 ?k8 ?a9 ?l9 ?c9 ?k9 ?a10 ?l10 ?c10 ?k10 ?a11 ?l11 ?c11 ?k11 ?a12 ?l12 ?c12 ?k12 ?a13 ?l13 ?c13 ?k13 ?a14 ?l14 ?c14 ?k14 ?a15 ?l15 ?c15 ?k15 ?a16 ?l16 ?c16 ?k16 ?a17 ?l17 ?c17 ?k17 ?a18 ?l18 ?c18 ?k18 ?a19 ?l19 ?c19 ?k19 ?a20 ?l20 ?c20 ?k20 ?a21 ?l21 ?c21 ?k21 ?a22 ?l22 ?c22 ?k22 ?a23 ?l23 ?c23 ?k23 ?a24 ?l24 ?c24 ?k24 ?a25 ?l25 ?c25 ?k25 ?hd ?hp ?aC1 ?ma1 ?mi1 ?ml1 ?mc1 ?mk1 ?ma2 ?mi2 ?ml2 ?mc2 ?mk2 ?ma3 ?mi3 ?ml3 ?mc3 ?mk3 ?ma4 ?mi4 ?ml4 ?mc4 ?mk4 ?cpg1 ?chd1 ?cpo1 ?csa1 ?cmk1 ?ckc1 ?nA1_1 ?nA1_2 ?nA1_3 ?nA1_4 ?z1 ?z2 ?z3 ?z4 ?z5 ?z6 ?z7 ?z8 ?z9 ?z10 ?z11 ?z12 ?z13 ?z14 ?z15 ?z16 ?z17
    (case a1 => k_is)
    (case l1 => k_is)
    (case c1 => k_is)
    (case k1 => k_is)
    (case a2 => k_is)
    (case l2 => k_is)
    (case c2 => k_is)
    (case k2 => k_is)
    (case a3 => k_is)
    (case l3 => k_is)
    (case c3 => k_is)
    (case k3 => k_is)
    (case a4 => k_is)
    (case l4 => k_is)
    (case c4 => k_is)
    (case k4 => k_is)
    (case a5 => k_is)
    (case l5 => k_is)
    (case c5 => k_is)
    (case k5 => k_is)
    (case a6 => k_is)
    (case l6 => k_is)
    (case c6 => k_is)
    (case k6 => k_is)
    (case a7 => k_is)
    (case l7 => k_is)
    (case c7 => k_is)
    (case k7 => k_is)
    (case a8 => k_is)
    (case l8 => k_is)
    (case c8 => k_is)
    (case k8 => k_is)
    (case a9 => k_is)
    (case l9 => k_is)
    (case c9 => k_is)
    (case k9 => k_is)
    (case a10 => k_is)
    (case l10 => k_is)
    (case c10 => k_is)
    (case k10 => k_is)
    (case a11 => k_is)
    (case l11 => k_is)
    (case c11 => k_is)
    (case k11 => k_is)
    (case a12 => k_is)
    (case l12 => k_is)
    (case c12 => k_is)
    (case k12 => k_is)
    (case a13 => k_is)
    (case l13 => k_is)
    (case c13 => k_is)
    (case k13 => k_is)
    (case a14 => k_is)
    (case l14 => k_is)
    (case c14 => k_is)
    (case k14 => k_is)
    (case a15 => k_is)
    (case l15 => k_is)
    (case c15 => k_is)
    (case k15 => k_is)
    (case a16 => k_is)
    (case l16 => k_is)
    (case c16 => k_is)
    (case k16 => k_is)
    (case a17 => k_is)
    (case l17 => k_is)
    (case c17 => k_is)
    (case k17 => k_is)
    (case a18 => k_is)
    (case l18 => k_is)
    (case c18 => k_is)
    (case k18 => k_is)
    (case a19 => k_is)
    (case l19 => k_is)
    (case c19 => k_is)
    (case k19 => k_is)
    (case a20 => k_is)
    (case l20 => k_is)
    (case c20 => k_is)
    (case k20 => k_is)
    (case a21 => k_is)
    (case l21 => k_is)
    (case c21 => k_is)
    (case k21 => k_is)
    (case a22 => k_is)
    (case l22 => k_is)
    (case c22 => k_is)
    (case k22 => k_is)
    (case a23 => k_is)
    (case l23 => k_is)
    (case c23 => k_is)
    (case k23 => k_is)
    (case a24 => k_is)
    (case l24 => k_is)
    (case c24 => k_is)
    (case k24 => k_is)
    (case a25 => k_is)
    (case l25 => k_is)
    (case c25 => k_is)
    (case k25 => k_is)
    (case hd => kernel_rfl)
    (case hp => kernel_rfl)
    (case aC1 => k_is)
    (case ma1 => k_is)
    (case mi1 => k_is)
    (case ml1 => k_is)
    (case mc1 => k_is)
    (case mk1 => k_is)
    (case ma2 => k_is)
    (case mi2 => k_is)
    (case ml2 => k_is)
    (case mc2 => k_is)
    (case mk2 => k_is)
    (case ma3 => k_is)
    (case mi3 => k_is)
    (case ml3 => k_is)
    (case mc3 => k_is)
    (case mk3 => k_is)
    (case ma4 => k_is)
    (case mi4 => k_is)
    (case ml4 => k_is)
    (case mc4 => k_is)
    (case mk4 => k_is)
    (case cpg1 => k_is)
    (case chd1 => k_is)
    (case cpo1 => k_is)
    (case csa1 => k_is)
    (case cmk1 => k_is)
    (case ckc1 => k_is)
    (case nA1_1 => k_is)
    (case nA1_2 => k_is)
    (case nA1_3 => k_is)
    (case nA1_4 => k_is)
    (case z1 => k_is)
    (case z2 => k_is)
    (case z3 => k_is)
    (case z4 => k_is)
    (case z5 => k_is)
    (case z6 => k_is)
    (case z7 => k_is)
    (case z8 => k_is)
    (case z9 => k_is)
    (case z10 => k_is)
    (case z11 => k_is)
    (case z12 => k_is)
    (case z13 => k_is)
    (case z14 => k_is)
    (case z15 => k_is)
    (case z16 => k_is)
    (case z17 => k_is)
